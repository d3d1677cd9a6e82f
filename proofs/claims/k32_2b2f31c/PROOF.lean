import PyProof.Rows.All
import Wide.All
import OpenK.AllK
import Wide.FinOn
import PyProof.EqAt
import PyProof.EqKinds
import PyProof.TupleCall
import Lean
import PyProof.SetNew
import PyProof.SetRoads
import PySem.Challenge.RW_pactway_k32_flat
set_option Elab.async false
set_option linter.all false
set_option maxRecDepth 100000
set_option maxHeartbeats 400000
theorem zjj {p:Prop} [Decidable p] (h:decide p=true):p:=of_decide_eq_true h
theorem zjx {p:Prop} [Decidable p] (h:p):decide p=true:=decide_eq_true h
local macro_rules | `(tactic| walk_at "sc")=>`(tactic| exact ⟨rfl,rfl,rfl,by decide +kernel,rfl,by decide +kernel,by decide +kernel⟩)
set_option hygiene false in
local macro_rules | `(tactic| walk_at "ln")=>`(tactic| (intro vs H Q E h;repeat (first | (rcases h with ⟨rfl,_⟩;rfl;done) | rcases h with ⟨_,h⟩)))
set_option hygiene false in
local macro_rules | `(tactic| walk_at "hd")=>`(tactic| intro cdv A outer s H vs Q E hr h)
open PySem.W renaming Frag→Sd,findIn→Tv,kitOne→TK,kia_one→Nr,emptyDict→Na,keepIn→NQ,mroIn→NJ,fnOf→NW,instObj→NO,callWith_K→N5,methodCall_KW→N7,specialIn→OC,looks_clsIn→O2,hasDictIn→Im,codeIn→Ic,plainGet→Ia,any_some→IQ,looks_findIn→IW,plainGet_of→IC,lookIn→Ej,InstAt→Ex,exmOne→Eb,methodObj→Ec,set_plain→El,clsIn→EX,mg_of→EW,isFn→EL,cellsFrom_some→ET,takerIn→E6,makesIn→E7,takesIn→E8,typeIn→Ap,callWith_K0→AW,plainOver→A4,kitx_list→A7,kitx_dict→A8,handedIn→zzr,bind_fn→zzV,OpenLaw→zzG,WalkO→zqh,Looks→zqf
open List renaming length_map→Su,length_append→Sl,getElem?_eq_getElem→Sn,mem_cons→So,length_cons→Se,mem_cons_of_mem→SV,getElem?_map→SW,mem_singleton→SY,map_append→SG,mem_append_right→SU,mem_of_getElem?→SN,mem_append→SI,map_cons→SE,length_nil→S1,getElem?_eq_some_iff→S3,length_take→S8,getD_eq_getElem?_getD→Tx,not_mem_nil→Tw,nodup_cons→Tg,size_toArray→Th,replicate→Tb,mem_cons_self→Tu,append_nil→Tt,nil_append→Ta,mem_append_left→TZ,mem_map→TY,append_assoc→TC,nodup_append→TU,mem_map_of_mem→TL,getElem?_append_right→T3,getElem?_eq_none_iff→T4,take_length→T7,cons_append→T8,getElem?_append_left→Nx,map_nil→Nk,reverse_cons→Nv,length_drop→Nb,replicate_succ→Np,length_replicate→Nf,length→Nc,mem_of_mem_take→Nu,find?_cons→Nl,all_eq_true→Nt,lookup→NK,map_map→NH,take_append_drop→NF,lookup_cons→NC,getElem?_take_of_lt→NU,range→NI,getElem_mem→N4,drop_eq_getElem_cons→Ox,all_cons→Ob,any_cons→Of,getElem?_range→Ou,length_reverse→Ol,filter_cons→Oe,getElem?_set_self→OZ,contains_cons→OJ,take_sublist→OU,flatten_cons→OR,nodup_iff_pairwise_ne→OE,take_zero→OA,getElem_of_mem→O3,map_congr_left→O6,mem_filter→Iq,mem_range→Ib,ext_getElem?→Ir,length_filter_le→Io,getElem?_set_ne→IV,mem_of_mem_drop→IH,filterMap_cons→IM,length_pos_iff→IL,drop_zero→Ep,getElem?_drop→Ef,pairwise_iff_getElem→Em,mem_or_eq_of_mem_set→Ed,map_take→EK,getElem?_replicate→EG,append_cancel_left→EM,take_of_length_le→E4,drop_eq_nil_of_le→E5,of_mem_zip→E9,length_singleton→Ak,getElem?_eq_none→Ay,dropLast_concat→As,nodup_nil→Ao,getElem?_of_mem→Ai,take_take→Aa,drop_drop→AZ,take_succ→AQ,drop_succ_cons→AH,take_add→AD,mem_filterMap→AL,filter_append→AO,zip_cons_cons→AA,any_map→zzb,length_range→zzf,drop_sublist→zzm,flatMap_cons→zzc,drop→zzQ,drop_length→zzJ,flatMap_nil→zzX,length_set→zzW,foldl→zzU,map_drop→zqm,sum_cons→zqc,all_map→zqo,map_set→zqe,map_id→zqP
open PySem renaming Value→Sr,Shared→Ss,wpAny_bind→SX,FuncData→SH,Program→SM,sizeLine→S0,model→S4,boot_len→S5,wpAny→S6,World→Tj,wpAny_pure→Td,starEach→Tc,Around→TM,wpAny_mono→TR,mem_of_lookup→Nj,compareOp→Ny,wpAny_passesOwn→NX,wpAny_truthy_bool→NV,wpAny_Call_Name_kw→NM,mainGlobals→NL,keywordEach→NS,wpAny_loadPart_at→NT,Within→NA,tupleKind_room_in1→N6,bootBuiltins→Ov,foldedSetIterable→Oy,codeAny→Og,attributeBase→Oh,wpAny_comprehension_free→Oc,checkBuiltinCall→Oi,codeAny_mono→OQ,letOwnedTupleGo→OY,wpAny_standAt→OP,sysModules→OS,backToKw→ON,call_meets→OI,wpAny_isSubtype_exc→O5,behindInMarks→O7,wpAny_holding→O8,binaryOp→O9,assignEach→Ik,plainObj_wpAny_Assign_Attribute→Il,getMethod→IZ,notedBy→IX,NameKind→IY,strIterType→IG,wpAny_execs_nil→IB,codeAny_builtin→IP,tupleKind→II,swapsWith→IE,wpAny_assign_Name→Eu,wpAny_pyIter_list→Er,wpAny_newObj_type→Et,wpAny_lookBehind→EY,wpAny_pyNext_list_item→ER,wpAny_call→ES,codeAny_compStart_list→EI,wpAny_pyNext_dict_item→E3,codeAny_of_tree→Az,wpAny_isTrue_Compare1→Aj,wpAny_pyNext_list_end→Ax,wpAny_pyNext_dict_end→Aw,wpAny_loadPart→Ab,wpAny_newFunctionEnv→Am,wpAny_setField→Ad,wpAny_field→Ac,codeAny_call_builtin→Au,intText_digits→Al,codeAny_forLoop_any→AV,wpAt_of_wpAny→AG,wpAny_nsSet1→A5,wpAny_pyIter_dict→zzy,wpAny_execs_cons→zzu,wpAny_pyIter_zip→zzo,wpAny_madeBy_exc→zze,wpAny_isInstance→zza,wpAny_tests_nil→zzH,wpAt_bind→zzB,wpAny_Name→zzM,wpAny_Compare1→zzD,call→zzR,Str→zqr
open Option renaming bind_some→Sa,bind_eq_some_iff→SJ,map_some→Ng,isSome_map→Ei,bind→Ea,isSome_iff_exists→EZ,getD_none→zzt,none→zqH
open PySem.Heap renaming get?_push_of_some→SQ,lt_size→SO,get?_push_size→To,get?_update_other→TN,get?_update_self→N8,size_push→OT,SameBut→Ip,SetOf→IJ,get?_none_of_le→IK,get?_push_at→Eo,MadeExcOf→Ar
open Nat renaming le_refl→SD,zero_le→Tr,lt_of_lt_of_le→Tn,ne_of_lt→Ti,le_trans→TV,le_succ_of_le→Nm,isDigit_of_mem_toDigits→N1,lt_irrefl→N2,add_sub_cancel_left→Oo,min_eq_left→OB,le_succ→OO,ne_of_gt→O0,le_of_eq→IS,le_of_lt→EU,zero_add→E2,lt_of_le_of_lt→AS,add_sub_cancel→AE,lt_succ_of_lt→zzj,sub_self→zzx,toDigits→zzk,lt_succ_self→zzl,le_add_right→zzn,min_eq_right→zzZ,lt_trans→zqt,min_self→zqi,mul_add→zqB,not_lt→zqA
open PySem.Str renaming ofString→SR,join→Nh,length→ND,empty→zq4
open PySem.F renaming plainAttrs_list→SS,slot_list_append→S9,type_list_append→Tz,plainAttrs_str→T1,slot_str_split→NY,type_str_split→NG,slot_dict_get→NP,slot_list_pop→N9,type_list_pop→Oz,slot_str_join→Oq,type_str_join→Oj,entry_dict_get→OX,called_set→OK,args_str_split_2→Ey,entry_str_split→En,slot_str_split→EH,args_dict_get_2→EB,args_dict_get_3→EF,plainAttrs_dict→ED,type_dict_get→Ag,slot_int_rmul→zzY,plain_set_new→zzP
open Or renaming inl→SA,inr→Af
open Bool renaming false_ne_true→S7,and_eq_true→Te,eq_iff_iff→OG,true_and→AM,false_eq_true→AI,or_true→zzv,not_eq_true'→zzw,false_and→zzC
open Option.some renaming inj→Tq
open Int renaming emod_lt_of_pos→Tp,emod_nonneg→Ts,toNat→Nq,eq_ofNat_of_zero_le→Nd,zero_add→O1,toNat_of_nonneg→IU,toNat_natCast→zzq,ediv_nonneg→zzF
open PySem.Value renaming ref→Tf,none→Oa,bool→IA,type→I0,int→AX,str→AK,float→zzK,isStrOf→zz6,isInt→zqJ,bytes→zqK
open PyProof.Rows renaming boot_list→TQ,boot_isinstance→TB,callWith_type1→N0,split_pos→OV,boot_dict→OW,boot_int→OD,boot_all→Ie,boot_tuple→EC,split_le→Av,boot_str→Ah,callWith_builtin1→zzs,printed_name→zz4,printed_star→zz5,digit_range→zqb,part_short→zql,boot_bool→zqa,boot_zip→zqQ
open PySem.PassesOwn renaming never→TJ,leaving→zzh
open PySem.NameKind renaming free→TX,cell→N3
open Ne renaming symm→TH
open PySem.Paired renaming length→TF
open False renaming elim→T5
open PySem.SeqAt renaming shaped→T6,EqAt→zqN
open True renaming intro→T9
open PySem.PyData renaming str→Nz,strOk→NR,eqvAll→Od,canLayAll0→OL,depthAll→Ij,eqv→Iv,canLay0→Iu,depth→IT
open Eq renaming symm→Nn
open PySem.Txt renaming join→Ni,split→NB
open PySem.NumText renaming digitsVal→NN,AllDigits→Ig,toDigits_all→zzS
open PySem.Builtin.List renaming listTooLong→Om
open PySem.Builtin.Str renaming occurrences→Ot,strKind→O4,partsBetween→zqp,strSub→zq1
open ForInStep renaming yield→OH
open And renaming intro→OF
open PySem.W.KIN renaming signs_num→OM,val_back→Ae,call_text→zqZ
open PySem.Challenge renaming rw_pactway_k32_flat→Iz,pw_pactway_k32_flat→AF
open PySem.Obj renaming data_mapFields→Iw,isFreed_of_fields→Ii,mapFields→EJ,mapSeq→EN
open PySem.Code renaming quiet_builtin→Iy,isFrame→zzz,frames→zqV
open Sum renaming inr→Ih,inl→AJ
open Array renaming length_toList→ID,getElem?_eq_some_iff→Eg,toList→zqs
open PySem.Calls renaming Name_function_global→Ez,callWith_builtin→EO
open PySem.W.Looks renaming here→Ek
open PySem.Within renaming cons→Es,nil→zq7
open PySem.StrLaws renaming found_one→Ee,join_split→A0,At→A1
open Function renaming comp→EV
open PySem.Manifest.Receiver renaming self→EA,none→E1
open List.cons renaming injEq→Aq,inj→zjq
open PySem.EntryCells renaming newEntry→AY
open PySem.Shared renaming TypeIs→AB
open PySem.SeqAt.EqAt renaming int_str→AU,str_int→AR,none_bool→zqW,bool_none→zqY,bool_bool→zqG,none_int→zqF,none_str→zqM,bool_int→zqD,bool_str→zqC,int_none→zqU,int_bool→zqR,str_none→zqL,str_bool→zqS,int_int→zqO,str_str→zqI,same→zq8
open PySem.ScopeKind renaming function→AN
open PySem.AutoListH renaming list___mul___list_int_3→A2
open PySem.Builtin.ObjectAttr renaming storeInOwnDict→A3,storeInDict→zzi
open PySem.Heap.Ns1 renaming of_empty→A6
open PySem.Around renaming under→A9
open Exists renaming intro→zzg
open Char renaming isDigit→zzp
open List.Sublist renaming refl→zzd
open PySem.Builtin.Frozenset renaming newClass→zzL
open PySem.EqNone renaming eq_none_none→zzT,eq_none_bool→zzN,eq_bool_none→zzO,ne_none_none→zzA,ne_none_bool→zz0,ne_bool_none→zz1,eq_none_int→zz7,eq_none_str→zz8,eq_int_none→zz9,eq_str_none→zqq,ne_none_int→zqx,ne_none_str→zqk,ne_int_none→zqv,ne_str_none→zqy
open PySem.EqMixed renaming eq_bool_str→zzI,eq_str_bool→zzE,ne_bool_str→zz2,ne_str_bool→zz3,eq_int_str→zqz,eq_str_int→zqj,ne_int_str→zqw,ne_str_int→zqg
open List.Pairwise renaming imp_of_mem→zqd,nil→zq2
open PySem.Builtin.Range renaming rangeSize→zqu
open PySem.Bind renaming printed→zqn,check→zq0
open Sum.inr renaming inj→zqX
open PySem.Heap.IsSliceOf renaming new→zqT
open PySem.W.WShape renaming has→zqE
open PySem.DictEntry renaming refKey→zq3
open PySem.IsL renaming update→zq5
open PySem.W.WData renaming int→zq6
open PySem.Heap.DictOf renaming new→zq9
open Prod renaming fst→zjz
namespace L2
open PySem PySem.Spec PyProof.Rows
abbrev Key:=Sum Int Str
def nP:Key→Sr→Bool
 | .inl k,v=>zqJ k v
 | .inr x,v=>zz6 x v
def UM (w:Tj):Key→Int
 | .inl k=>hashInt k
 | .inr x=>hashStr w x
theorem qE:∀{k:Key} {v:Sr},nP k v=true→(∃i t,k=AJ i∧v=AX i t)∨(∃x t,k=Ih x∧v=AK x t)
 | .inl i,v,h=>by
  obtain⟨t,e⟩:=Value.isInt_shape (k:=i) (v:=v) h
  exact .inl ⟨i,t,rfl,e⟩
 | .inr x,v,h=>by
  obtain⟨t,e⟩:=Value.isStrOf_shape (x:=x) (v:=v) h
  exact .inr ⟨x,t,rfl,e⟩
theorem VL (i:Int) (t:Tok):nP (.inl i) (.int i t)=true:=by simp [nP,zqJ]
theorem VS (x:Str) (t:Tok):nP (.inr x) (.str x t)=true:=by simp [nP,zz6]
theorem FO (a b:Int):decide ((AJ a:Key)=AJ b)=(a == b):=by
 by_cases e:a=b
 ·subst e;simp
 ·have h:¬(AJ a:Key)=AJ b:=λq=>e (Sum.inl.inj q)
  rw[decide_eq_false h]
  exact(beq_eq_false_iff_ne.mpr e).symm
theorem FA (a b:Str):decide ((Ih a:Key)=Ih b)=decide (a=b):=by
 by_cases e:a=b
 ·subst e;simp
 ·have h:¬(Ih a:Key)=Ih b:=λq=>e (zqX q)
  rw[decide_eq_false h,decide_eq_false e]
theorem FI (a:Int) (b:Str):decide ((AJ a:Key)=Ih b)=false:=decide_eq_false (λq=>nomatch q)
theorem FE (a:Str) (b:Int):decide ((Ih a:Key)=AJ b)=false:=decide_eq_false (λq=>nomatch q)
def qN (prog:SM) (w:Tj):PySem.KeyKind prog w Key where
 is:=nP
 hash:=UM w
 inj:=λv a b ha hb=>by
  rcases qE ha with ⟨i,t,rfl,rfl⟩ | ⟨x,t,rfl,rfl⟩
  ·rcases qE hb with ⟨j,u,rfl,e⟩ | ⟨y,u,rfl,e⟩
   ·injection e with e1 _;rw[e1]
   ·exact nomatch e
  ·rcases qE hb with ⟨j,u,rfl,e⟩ | ⟨y,u,rfl,e⟩
   ·exact nomatch e
   ·injection e with e1 _;rw[e1]
 byValue:=λk v h=>by
  rcases qE h with ⟨i,t,rfl,rfl⟩ | ⟨x,t,rfl,rfl⟩<;>rfl
 pyHash:=λhv h=>by
  rcases qE hv with ⟨i,t,rfl,rfl⟩ | ⟨x,t,rfl,rfl⟩
  ·exact wpAny_pyHash_int h
  ·exact wpAny_pyHash_str h
 eqBool:=λhu hv h=>by
  rcases qE hu with ⟨i,t,rfl,rfl⟩ | ⟨x,t,rfl,rfl⟩
  ·rcases qE hv with ⟨j,u,rfl,rfl⟩ | ⟨y,u,rfl,rfl⟩
   ·rw[FO] at h;exact wpAny_eqBool_int h
   ·rw[FI] at h;exact AU i t y u _ _ _ _ h
  ·rcases qE hv with ⟨j,u,rfl,rfl⟩ | ⟨y,u,rfl,rfl⟩
   ·rw[FE] at h;exact AR x t j u _ _ _ _ h
   ·rw[FA] at h;exact wpAny_eqBool_str h
 «strs»:=λk x t v h=>by
  rcases qE h with ⟨i,u,rfl,e⟩ | ⟨y,u,rfl,e⟩
  ·exact nomatch e
  ·injection e with e1 _
   subst e1
   cases v<;>rfl
theorem Q9 (prog:SM) (w:Tj) (i:Int) (t:Tok):(qN prog w).is (.inl i) (.int i t)=true:=VL i t
theorem Jz (prog:SM) (w:Tj) (x:Str) (t:Tok):(qN prog w).is (.inr x) (.str x t)=true:=VS x t
end L2
namespace L2
open PySem PySem.Spec PyProof.Rows
inductive V where
 | non | bl (b:Bool) | int (i:Int) | str (x:Str) | byt (b:Array UInt8) | flt (b:UInt64) | ref (a:Addr) | ty (n:String)
 deriving DecidableEq
def RelV:V→Sr→Prop
 | .non,u=>u=Oa
 | .bl b,u=>u=IA b
 | .int i,u=>∃t,u=AX i t
 | .str x,u=>∃t,u=AK x t
 | .byt b,u=>∃t,u=zqK b t
 | .flt b,u=>∃t,u=zzK b t
 | .ref a,u=>u=Tf a
 | .ty n,u=>u=I0 n
abbrev Vals:List V→List Sr→Prop:=Paired RelV
theorem Vals.length {xs:List V} {us:List Sr} (r:Vals xs us):xs.length=us.length:=TF r
theorem Vals.get:∀{xs:List V} {us:List Sr} {i:Nat} {x:V},Vals xs us→xs[i]?=some x→∃u,us[i]?=some u∧RelV x u
 | _,_,_,_,.nil,e=>by simp at e
 | _,_,0,_,.cons r _,e=>by simp at e;subst e;exact⟨_,rfl,r⟩
 | _,_,i + 1,x,.cons _ t,e=>by
  obtain⟨u,h1,h2⟩:=Vals.get (i:=i) (x:=x) t (by simpa using e)
  exact⟨u,by simpa using h1,h2⟩
theorem Vals.set {x:V} {u:Sr} (r:RelV x u):∀{xs:List V} {us:List Sr} (i:Nat),Vals xs us→Vals (xs.set i x) (us.set i u)
 | _,_,_,.nil=>.nil
 | _,_,0,.cons _ t=>.cons r t
 | _,_,i + 1,.cons q t=>.cons q (Vals.set r i t)
theorem Vals.append:∀{xs ys:List V} {us ws:List Sr},Vals xs us→Vals ys ws→Vals (xs ++ ys) (us ++ ws)
 | _,_,_,_,.nil,s=>s
 | _,_,_,_,.cons r t,s=>.cons r (Vals.append t s)
theorem Vals.take:∀{xs:List V} {us:List Sr} (n:Nat),Vals xs us→Vals (xs.take n) (us.take n)
 | _,_,0,_=>.nil
 | _,_,_ + 1,.nil=>.nil
 | _,_,n + 1,.cons r t=>.cons r (Vals.take n t)
theorem Vals.drop:∀{xs:List V} {us:List Sr} (n:Nat),Vals xs us→Vals (xs.drop n) (us.drop n)
 | _,_,0,r=>r
 | _,_,_ + 1,.nil=>.nil
 | _,_,n + 1,.cons _ t=>Vals.drop n t
def vD:Option V→Option Sr→Prop
 | some v,some u=>RelV v u
 | none,none=>True
 | _,_=>False
def KV {κ:Type}:List (κ × V)→List (κ × Sr)→Prop:=Paired λ(p:κ × V) (q:κ × Sr)=>p.1=q.1∧RelV p.2 q.2
def kV:Key→V
 | .inl i=>.int i
 | .inr x=>.str x
inductive HO where
 | lst (xs:List V)
 | tup (xs:List V)
 | dK (kvs:List (Key × V)) | dT (kvs:List (List Key × V))
 | set (S:Int→Bool) (n:Nat)
 | ins (C dx:Addr) (fs:List (Str × V))
 | own (x:Addr)
 | xd (fs:List (Str × V))
 | met (f x:Addr)
 | rng (lo hi:Int)
 | frz (o:Obj) (u:HO)
 | tbl (ps:Array Sr)
 | ext (φ:Heap→Prop)
abbrev Hp:=Addr→Option HO
def upd (H:Hp) (a:Addr) (o:HO):Hp:=λb=>if b=a then some o else H b
theorem zm {H:Hp} {a:Addr} {o:HO}:upd H a o a=some o:=by unfold upd;rw[if_pos rfl]
theorem zG {H:Hp} {a b:Addr} {o:HO} (h:b≠a):upd H a o b=H b:=by unfold upd;rw[if_neg h]
theorem yW {H:Hp} {a:Addr} {o u:HO}:upd (upd H a o) a u=upd H a u:=by
 funext b;unfold upd;split<;>rfl
theorem mX {H:Hp} {a b:Addr} {o u:HO} (h:H a=some o) (h':H b=some u) (d:o≠u):a≠b:=by
 intro e;subst e;rw[h] at h';exact d (Tq h')
theorem zh {H:Hp} {a b:Addr} {o:HO} (h:H a=some o) (h':H b=none):a≠b:=by
 intro e;subst e;rw[h] at h';cases h'
section
variable (P:SM) (w:Tj)
def qY (H:Hp) (h:Heap) (a:Addr):HO→Prop
 | .lst xs=>xs.length≤S0∧∃(its:List Sr) (n:Nat),Vals xs its∧h.get? a=some { cls:=.type "list",data:=.seq its.toArray n }
 | .tup xs=>xs.length≤S0∧∃its:List Sr,Vals xs its∧IsTup h a its.toArray
 | .dK kvs=>kvs.length≤S0∧(a == OS)=false∧∃vs,KV kvs vs∧h.DictOf (qN P w) a vs
 | .dT kvs=>kvs.length≤S0∧(a == OS)=false∧∃xs:List (List Key × Addr × Sr),
   Paired (λ(p:List Key × V) (q:List Key × Addr × Sr)=>p.1=q.1∧H q.2.1=some (.tup (p.1.map kV))∧RelV p.2 q.2.2) kvs xs∧
   ∃o es ep,h.get? a=some o∧o.ExactDict∧o.data=.dict es ep∧es.toList=xs.map (entryOfKey (II (qN P w)))∧(xs.map (·.1)).Nodup
 | .set S n=>h.SetOf (intKind P w) a S n
 | .ins C dx fs=>H dx=some (.own a)∧fs.length≤1000∧dx≠a∧h.get? a=some (NO C dx)∧
   ∃mA,h.Ns1 dx mA∧(∀f,vD (fs.lookup f) (mA f))∧NA mA (fs.map (·.1))
 | .own _=>∃o,h.get? a=some o
 | .xd fs=>∃mA,h.Ns1 a mA∧∀f,vD (fs.lookup f) (mA f)
 | .rng lo hi=>∃t u v,h.get? a=some { cls:=.type "range",data:=.fields #[.int lo t,.int hi u,.int 1 v] }
 | .frz o u=>h.get? a=some o∧qY H h a u
 | .tbl ps=>h.get? a=some { cls:=.none,data:=.fields ps }
 | .met f x=>h.get? a=some (Ec (.ref f) (.ref x))
 | .ext φ=>φ h∧(∃o,h.get? a=some o)∧∀h1 h2:Heap,φ h1→(∀o,h1.get? a=some o→h2.get? a=some o)→φ h2
def bU (H:Hp) (h:Heap):Prop:=∀a o,H a=some o→qY P w H h a o
end
section
variable {P:SM} {w:Tj} {H H':Hp} {h h':Heap} {a:Addr} {o:HO}
theorem qY.lt (x:qY P w H h a o):a < h.objs.size:=by
 cases o with
 | lst xs=>obtain⟨_,_,_,_,e⟩:=x;exact SO e
 | tup xs=>obtain⟨_,_,_,p⟩:=x;exact p.lt
 | dK kvs=>obtain⟨_,_,_,_,o,_,_,e,_⟩:=x;exact SO e
 | dT kvs=>obtain⟨_,_,_,_,o,_,_,e,_⟩:=x;exact SO e
 | set S n=>obtain⟨o,_,_,_,e,_⟩:=x;exact SO e
 | ins C dx fs=>obtain⟨_,_,_,e,_⟩:=x;exact SO e
 | own y=>obtain⟨_,e⟩:=x;exact SO e
 | xd fs=>obtain⟨_,⟨_,_,_,e,_⟩,_⟩:=x;exact SO e
 | rng lo hi=>obtain⟨_,_,_,e⟩:=x;exact SO e
 | frz ob u=>obtain⟨e,_⟩:=x;exact SO e
 | tbl ps=>exact SO (show h.get? a=some _ from x)
 | met f y=>exact SO (show h.get? a=some _ from x)
 | ext φ=>obtain⟨_,⟨_,e⟩,_⟩:=x;exact SO e
theorem Paired.YR {α β:Type} {F G:α→β→Prop}:∀{l₁:List α} {l₂:List β},Paired F l₁ l₂→(∀a b,F a b→G a b)→Paired G l₁ l₂
 | _,_,.nil,_=>.nil
 | _,_,.cons r t,f=>.cons (f _ _ r) (Paired.YR t f)
theorem Paired.imp' {α β:Type} {F G:α→β→Prop} (f:∀a b,F a b→G a b) {l₁:List α} {l₂:List β} (r:Paired F l₁ l₂):Paired G l₁ l₂:=Paired.YR r f
theorem qY.eZ (x:qY P w H h a o) (k:∀b u,(b=a∨H b=some (.own a))→h.get? b=some u→h'.get? b=some u)
  (ho:∀b,H b=some (.own a)→H' b=some (.own a)) (ht:∀b xs,H b=some (.tup xs)→H' b=some (.tup xs)):qY P w H' h' a o:=by
 induction o with
 | lst xs=>obtain⟨z,its,n,r,e⟩:=x;exact⟨z,its,n,r,k _ _ (.inl rfl) e⟩
 | tup xs=>obtain⟨z,its,r,ob,e,c⟩:=x;exact⟨z,its,r,ob,k _ _ (.inl rfl) e,c⟩
 | dK kvs=>obtain⟨z,y,vs,r,ob,es,ep,e,c⟩:=x;exact⟨z,y,vs,r,ob,es,ep,k _ _ (.inl rfl) e,c⟩
 | dT kvs=>
  obtain⟨z,y,xs,r,ob,es,ep,e,c⟩:=x
  exact⟨z,y,xs,Paired.YR r λp q z=>⟨z.1,ht _ _ z.2.1,z.2.2⟩,ob,es,ep,k _ _ (.inl rfl) e,c⟩
 | set S n=>obtain⟨ob,es,ep,t,e,c⟩:=x;exact⟨ob,es,ep,t,k _ _ (.inl rfl) e,c⟩
 | ins C dx fs=>
  obtain⟨d,z,ne,e,mA,⟨od,es,ep,e2,c⟩,r⟩:=x
  exact⟨ho _ d,z,ne,k _ _ (.inl rfl) e,mA,⟨od,es,ep,k _ _ (.inr d) e2,c⟩,r⟩
 | own y=>obtain⟨ob,e⟩:=x;exact⟨ob,k _ _ (.inl rfl) e⟩
 | xd fs=>obtain⟨mA,⟨od,es,ep,e,c⟩,r⟩:=x;exact⟨mA,⟨od,es,ep,k _ _ (.inl rfl) e,c⟩,r⟩
 | rng lo hi=>obtain⟨t,u,v,e⟩:=x;exact⟨t,u,v,k _ _ (.inl rfl) e⟩
 | frz ob u ih=>obtain⟨e,q⟩:=x;exact⟨k _ _ (.inl rfl) e,ih q⟩
 | tbl ps=>
  have e:h.get? a=some { cls:=.none,data:=.fields ps }:=x
  show h'.get? a=some { cls:=.none,data:=.fields ps }
  exact k a _ (.inl rfl) e
 | met f y=>
  have e:h.get? a=some (Ec (.ref f) (.ref y)):=x
  show h'.get? a=some (Ec (.ref f) (.ref y))
  exact k a _ (.inl rfl) e
 | ext φ=>obtain⟨p,⟨o,e⟩,st⟩:=x;exact⟨st _ _ p λo q=>k _ _ (.inl rfl) q,⟨o,k _ _ (.inl rfl) e⟩,st⟩
theorem bU.lt (x:bU P w H h) (e:H a=some o):a < h.objs.size:=(x a o e).lt
theorem bU.fresh (x:bU P w H h) (e:h.objs.size≤a):H a=none:=by
 cases q:H a with
 | none=>rfl
 | some u=>exact absurd (Tn (x.lt q) e) (N2 _)
theorem bU.kept (x:bU P w H h) (k:∀b u,h.get? b=some u→h'.get? b=some u):bU P w H h':=λa o e=>
 (x a o e).eZ (λb u _ q=>k b u q) (λ_ q=>q) λ_ _ q=>q
theorem bU.laid (x:bU P w H h) (k:∀b u,h.get? b=some u→h'.get? b=some u) (hp:h.objs.size≤a) (new:qY P w (upd H a o) h' a o):bU P w (upd H a o) h':=λb u e=>by
 have hn:=x.fresh hp
 by_cases hb:b=a
 ·subst hb;rw[zm] at e;cases e;exact new
 ·rw[zG hb] at e
  exact(x b u e).eZ (λc v _ q=>k c v q) (λc q=>by rw[zG (zh q hn)];exact q) λc xs q=>by rw[zG (zh q hn)];exact q
end
def Rd (H:Hp) (a:Addr) (u:HO):Prop:=H a=some u∨∃o,H a=some (.frz o u)
theorem Rd.ok {P:SM} {w:Tj} {H:Hp} {h:Heap} {a:Addr} {u:HO} (r:Rd H a u) (x:bU P w H h):qY P w H h a u:=by
 rcases r with r | ⟨o,r⟩
 ·exact x a u r
 ·obtain⟨_,q⟩:=x a _ r
  exact q
def DK:Option HO→Prop
 | some (.lst _)=>True
 | some (.dK _)=>True
 | some (.dT _)=>True
 | some (.set _ _)=>True
 | some (.ins _ _ _)=>True
 | some (.ext _)=>True
 | _=>False
section
variable {P:SM} {w:Tj} {H:Hp} {h h':Heap} {x e:Addr} {o':HO}
theorem bU.write (ok:bU P w H h) (mu:DK (H x)) (he:e=x∨H e=some (.own x)) (k:∀b u,b≠e→h.get? b=some u→h'.get? b=some u) (heo:∃u,h'.get? e=some u)
  (new:qY P w (upd H x o') h' x o'):bU P w (upd H x o') h':=λb u q=>by
 have nown:∀c y,H c=some (.own y)→c≠x:=λc y r z=>by subst z;rw[r] at mu;exact mu
 have ntup:∀c xs,H c=some (.tup xs)→c≠x:=λc xs r z=>by subst z;rw[r] at mu;exact mu
 by_cases hb:b=x
 ·subst hb;rw[zm] at q;cases q;exact new
 ·rw[zG hb] at q
  by_cases hbe:b=e
  ·have q':H b=some (.own x):=by
    rcases he with z | z
    ·exact absurd (hbe.trans z) hb
    ·rw[hbe];exact z
   rw[q] at q';cases q'
   obtain⟨v,hv⟩:=heo
   exact⟨v,by rw[hbe];exact hv⟩
  ·refine(ok b u q).eZ (λc v hc r=>k c v ?_ r) (λc r=>by rw[zG (nown c b r)];exact r) λc xs r=>by rw[zG (ntup c xs r)];exact r
   rcases hc with rfl | hc
   ·exact hbe
   ·rintro rfl
    rcases he with z | z
    ·exact nown c b hc z
    ·rw[hc] at z;cases z;exact hb rfl
end
structure Un (fs ex:List Addr) (H H':Hp) (h h':Heap):Prop where
 keep:∀b o,h.get? b=some o→H b=none→b∉fs→b∉ex→h'.get? b=some o
 slot:∀b o,h.get? b=some o→H b=none→b∈fs→b∉ex→∃sl,h'.get? b=some { o with slots:=sl }
 free:∀b o,h.get? b=some o→H b=none→b∉ex→H' b=none
 there:∀b o,h.get? b=some o→b∉ex→∃o',h'.get? b=some o'
 iY:∀b xs,H b=some (.tup xs)→H' b=some (.tup xs)
 uE:∀b o u,H b=some (.frz o u)→H' b=some (.frz o u)
 iW:∀b ps,H b=some (.tbl ps)→∃more,H' b=some (.tbl (ps ++ more))
section
variable {fs fs' ex ex':List Addr} {H H1 H2:Hp} {h h1 h2 h':Heap} {a x e:Addr} {o:HO}
theorem Un.any (u:Un fs ex H H1 h h1) {b:Addr} {ob:Obj} (q:h.get? b=some ob) (n:H b=none) (hx:b∉ex):∃sl,h1.get? b=some { ob with slots:=sl }:=by
 by_cases hb:b∈fs
 ·exact u.slot b ob q n hb hx
 ·exact⟨ob.slots,u.keep b ob q n hb hx⟩
theorem Un.kept (k:∀b u,h.get? b=some u→h'.get? b=some u):Un fs ex H H h h':=
 ⟨λb ob q _ _ _=>k b ob q,λb ob q _ _ _=>⟨ob.slots,k b ob q⟩,λ_ _ _ n _=>n,λb ob q _=>⟨ob,k b ob q⟩,λ_ _ q=>q,λ_ _ _ q=>q,λ_ ps q=>⟨#[],by rw[q];simp⟩⟩
theorem Un.refl:Un fs ex H H h h:=Un.kept λ_ _ q=>q
theorem Un.laid (k:∀b u,h.get? b=some u→h'.get? b=some u) (hp:h.objs.size≤a) (hn:H a=none):Un fs ex H (upd H a o) h h' where
 keep:=λb u q _ _ _=>k b u q
 slot:=λb u q _ _ _=>⟨u.slots,k b u q⟩
 free:=λb u q n _=>by rw[zG (Ti (Tn (SO q) hp))];exact n
 there:=λb u q _=>⟨u,k b u q⟩
 iY:=λb xs q=>by rw[zG (zh q hn)];exact q
 uE:=λb u xs q=>by rw[zG (zh q hn)];exact q
 iW:=λb ps q=>⟨#[],by rw[zG (zh q hn),q];simp⟩
theorem Un.write (mu:DK (H x)) (he:e=x∨H e=some (.own x)) (k:∀b u,b≠e→h.get? b=some u→h'.get? b=some u) (heo:∃u,h'.get? e=some u):Un fs ex H (upd H x o) h h':=by
 have hx:∀b,H b=none→b≠x:=λb n z=>by subst z;rw[n] at mu;exact mu
 have hb:∀b,H b=none→b≠e:=λb n z=>by
  subst z
  rcases he with r | r
  ·exact hx b n r
  ·rw[n] at r;cases r
 have hm:∀b u,H b=some u→¬DK (some u)→b≠x:=λb u q nm z=>by subst z;rw[q] at mu;exact nm mu
 refine⟨λb u q n _ _=>k b u (hb b n) q,λb u q n _ _=>⟨u.slots,k b u (hb b n) q⟩,λb u q n _=>by rw[zG (hx b n)];exact n,λb u q _=>?_,
  λb xs q=>by rw[zG (hm b _ q λz=>z)];exact q,λb u xs q=>by rw[zG (hm b _ q λz=>z)];exact q,λb ps q=>⟨#[],by rw[zG (hm b _ q λz=>z),q];simp⟩⟩
 by_cases hbe:b=e
 ·subst hbe;exact heo
 ·exact⟨u,k b u hbe q⟩
end
def Uc (h:Heap) (H:Hp):List Addr:=(NI h.objs.size).filter λa=>(H a).isSome
def Zu (h:Heap) (H:Hp):Heap:=PySem.W.hideAll h (Uc h H)
theorem VF (h:Heap) (H:Hp):(Zu h H).objs.size=h.objs.size:=PySem.W.hideAll_size _ _
theorem Yi {h:Heap} {H:Hp} {b:Addr} {o:Obj} (e:h.get? b=some o) (n:H b=none):(Zu h H).get? b=some o:=
 PySem.W.hideAll_get _ e λhm=>by
  have q:(H b).isSome=true:=(Iq.mp hm).2
  rw[n] at q;simp at q
theorem Bi {h:Heap} {H:Hp} {b:Addr} {o:Obj} (e:(Zu h H).get? b=some o):h.get? b=some o∧H b=none:=by
 have e':h.get? b=some o:=PySem.W.of_hideAll (Uc h H) e
 refine⟨e',?_⟩
 cases q:H b with
 | none=>rfl
 | some x=>
  have hm:b∈Uc h H:=Iq.mpr ⟨Ib.mpr (SO e'),by simp [q]⟩
  have z:(Zu h H).get? b=none:=PySem.W.hideAll_none (Uc h H) hm
  rw[z] at e;cases e
def HJ (g h:Heap) (L:Addr):List (Addr × Obj):=(NI h.objs.size).filterMap λa=>if a=L∨(g.get? a).isSome=true then none else (h.get? a).map λo=>(a,o)
def rest (g h:Heap) (L d:Addr):List (Addr × Obj):=(HJ g h L).filter λp=>decide (p.1≠d)
end L2
namespace L2
open PySem PySem.Spec PyProof.Rows
structure Mod (K:Sd) (mg:Str→Option Sr) (base:Heap):Prop where
 WR:K.In base
 glob:base.Ns NL mg
 blt:∃mb,base.Ns builtinsNs mb∧∀x:Str,x≠"__name__"→mb x=Ov x
 nolimit:base.NoLimit
structure Cx where
 prog:SM
 w:Tj
 K:Sd
 mg:Str→Option Sr
 base:Heap
 A:TM
 N:List Str
 s₀:Ss
 H₀:Hp
 env:Env
 outer:List Env
 stack:List Env
 ex:List Addr
 fn:Str→Bool
 calm:Bool
 pn:List (Addr × Obj)
 xe:Sr→Ss→Prop
def Zm (l:List Env):List Addr:=l.filterMap (·.frame)
abbrev Cx.fs (X:Cx):List Addr:=Zm X.outer
def UZ (sc:Scope) (x:Str):Prop:=sc.names.lookup x=some .local∨sc.names.lookup x=some .cell∨sc.names.lookup x=some .free
def Loc (sc:Scope) (x:Str):Prop:=sc.names.lookup x=some .local∨sc.names.lookup x=some .cell
def Look (env:Env) (h:Heap) (m:Str→Option Sr) (x:Str) (u:Sr):Prop:=
 (env.kindOf x=some .local∧m x=some u)∨((env.kindOf x=some .cell∨env.kindOf x=some .free)∧∃c,env.cells.lookup x=some c∧h.IsCell c (some u))
structure Cx.Ok (X:Cx):Prop where
 mod:Mod X.K X.mg X.base
 kind:X.env.scope.kind=.function
 glob:X.env.globals=NL
 blt:X.env.builtins=builtinsNs
 above:X.s₀.heap.objs.size≤X.env.locals
 inj:∀x y c,X.env.cells.lookup x=some c→X.env.cells.lookup y=some c→x=y
 has:∀x,(X.env.kindOf x=some .cell∨X.env.kindOf x=some .free)→∃c,X.env.cells.lookup x=some c
 DS:∀x c,X.fn x=true→X.env.cells.lookup x=some c→X.s₀.heap.objs.size≤c
 hd:X.calm=true→X.A.handled=none
 frames:X.A.frames=some X.stack
 Ub:X.stack=X.outer∨(X.stack=X.env :: X.outer∧X.env.frame=some X.env.locals)
 Dc:∀b∈X.ex,b≠X.env.locals∧∀x c,X.env.cells.lookup x=some c→c≠b
 bs:∀b o,X.base.get? b=some o→X.s₀.heap.get? b=some o∧X.H₀ b=none
 WC:X.base.objs.size≤X.s₀.heap.objs.size
 V4:∀b o,X.base.get? b=some o→b∉X.ex
 J5:∀b∈X.ex,b∉X.fs
 u7:X.s₀.heap.FunFrames X.base X.outer
 Pk:∀b∈X.fs,X.H₀ b=none
structure Inv (X:Cx) (pins:List (Addr × Obj)) (σ:List (Option V)) (H:Hp) (s:Ss):Prop where
 ok:X.Ok
 os:s.os=X.s₀.os
 bare:AllBare s.gens
 base:Un X.fs X.ex X.H₀ H X.s₀.heap s.heap
 loc:∃m,s.heap.Ns X.env.locals m∧∀(i:Nat) (x:Str) (v:V),X.N[i]?=some x→σ[i]?=some (some v)→UZ X.env.scope x→∃u,RelV v u∧Look X.env s.heap m x u
 cell:∀x c,X.env.cells.lookup x=some c→∃v,s.heap.IsCell c v
 free:H X.env.locals=none
 yt:∀x c,X.env.cells.lookup x=some c→H c=none
 pin:∀p∈X.pn ++ pins,s.heap.get? p.1=some p.2∧H p.1=none∧p.1≠X.env.locals∧p.1∉X.fs∧∀v,p.2.data≠.cell v
 z8:bU X.prog X.w H s.heap
 len:σ.length=X.N.length
section
variable {X:Cx} {pins:List (Addr × Obj)} {σ:List (Option V)} {H H':Hp} {s:Ss} {h':Heap}
theorem Cx.Ok.US (ok:X.Ok) {b:Addr} {o:Obj} (e:X.base.get? b=some o):b∉X.fs:=λhb=>by
 have:=(ok.u7.mem hb).1
 rw[e] at this;cases this
theorem Inv.bs (I:Inv X pins σ H s):∀b o,X.base.get? b=some o→s.heap.get? b=some o∧H b=none:=λb o e=>
 ⟨I.base.keep b o (I.ok.bs b o e).1 (I.ok.bs b o e).2 (I.ok.US e) (I.ok.V4 b o e),I.base.free b o (I.ok.bs b o e).1 (I.ok.bs b o e).2 (I.ok.V4 b o e)⟩
theorem Inv.bk (I:Inv X pins σ H s):∀b o,X.base.get? b=some o→s.heap.get? b=some o:=λb o e=>(I.bs b o e).1
theorem Inv.mod (I:Inv X pins σ H s):Mod X.K X.mg X.base:=I.ok.mod
theorem Inv.bD (I:Inv X pins σ H s):X.K.In s.heap:=I.ok.mod.WR.keeps I.bk
theorem Inv.fr (I:Inv X pins σ H s):∃m,Fr X.base X.env.locals s.heap m:=
 let ⟨m,hn,_⟩:=I.loc
 ⟨m,hn,I.bk,TV I.ok.WC I.ok.above⟩
theorem Inv.lt (I:Inv X pins σ H s):X.env.locals < s.heap.objs.size:=let ⟨_,hn,_⟩:=I.loc;hn.lt
theorem Inv.sz (I:Inv X pins σ H s):X.s₀.heap.objs.size≤s.heap.objs.size:=TV I.ok.above (EU I.lt)
theorem Inv.UT (I:Inv X pins σ H s) {a:Addr} (h:s.heap.objs.size≤a):a∉X.fs:=λhb=>by
 obtain⟨_,o,ho,_⟩:=I.ok.u7.mem hb
 exact absurd (Tn (SO ho) (TV I.sz h)) (N2 _)
theorem Inv.FJ (I:Inv X pins σ H s):∀x c,X.env.cells.lookup x=some c→c≠X.env.locals:=λx c e z=>by
 obtain⟨v,o,ho,hd⟩:=I.cell x c e
 obtain⟨m,⟨o',es,ep,ho',hd',_⟩,_⟩:=I.loc
 rw[z,ho'] at ho;cases ho;rw[hd'] at hd;cases hd
theorem Inv.u7 (I:Inv X pins σ H s):s.heap.FunFrames X.base X.outer:=by
 have all:∀(l:List Env),(∀b∈Zm l,b∈X.fs)→X.s₀.heap.FunFrames X.base l→s.heap.FunFrames X.base l:=by
  intro l
  induction l with
  | nil=>intro _ _;trivial
  | cons env r ih=>
   intro hs hl
   obtain⟨hk,⟨L,o,hf,hn,ho,hd⟩,hr⟩:=hl
   have hL:L∈X.fs:=hs L (by unfold Zm;rw[IM,hf];exact Tu)
   obtain⟨sl,e⟩:=I.base.slot L o ho (I.ok.Pk L hL) hL λz=>I.ok.J5 L z hL
   exact⟨hk,⟨L,_,hf,hn,e,hd⟩,ih (λb hb=>hs b (by unfold Zm;rw[IM,hf];exact SV _ hb)) hr⟩
 exact all X.outer (λ_ hb=>hb) I.ok.u7
theorem Inv.stack (I:Inv X pins σ H s):s.heap.FunFrames X.base X.stack:=by
 rcases I.ok.Ub with e | ⟨e,hf⟩
 ·rw[e];exact I.u7
 ·rw[e]
  obtain⟨m,hn,_⟩:=I.loc
  refine .cons (by rw[I.ok.kind];decide) hf hn ?_ I.u7
  exact IK (TV I.ok.WC I.ok.above)
theorem Inv.iV (I:Inv X pins σ H s):∀b∈Zm X.stack,b∈X.env.locals :: X.fs:=λb hb=>by
 rcases I.ok.Ub with e | ⟨e,hf⟩
 ·rw[e] at hb;exact SV _ hb
 ·rw[e] at hb
  unfold Zm at hb
  rw[IM,hf] at hb
  exact hb
theorem Inv.ur (I:Inv X pins σ H s):∀b∈Zm X.stack,H b=none:=λb hb=>by
 rcases So.mp (I.iV b hb) with e | hb
 ·rw[e];exact I.free
 ·obtain⟨_,o,ho,_⟩:=I.ok.u7.mem hb
  exact I.base.free b o ho (I.ok.Pk b hb) λz=>I.ok.J5 b z hb
theorem Inv.step {g':Array GenState} {t':Nat} {d':Drawn} {ch:List Addr} (I:Inv X pins σ H s)
  (hch:∀b∈ch,(b∈X.ex∨X.s₀.heap.objs.size≤b)∧b≠X.env.locals∧(∀x c,X.env.cells.lookup x=some c→c≠b)∧∀p∈X.pn ++ pins,p.1≠b)
  (keep:∀b o,b≠X.env.locals→b∉X.fs→b∉ch→s.heap.get? b=some o→H b=none→h'.get? b=some o)
  (slot:∀b o,b≠X.env.locals→b∈X.fs→b∉ch→s.heap.get? b=some o→H b=none→∃sl,h'.get? b=some { o with slots:=sl }) (free:∀b o,b∉ch→s.heap.get? b=some o→H b=none→H' b=none)
  (there:∀b o,b∉ch→s.heap.get? b=some o→∃o',h'.get? b=some o')
  (iY:∀b xs,H b=some (.tup xs)→H' b=some (.tup xs)) (uE:∀b o u,H b=some (.frz o u)→H' b=some (.frz o u)) (iW:∀b ps,H b=some (.tbl ps)→∃more,H' b=some (.tbl (ps ++ more)))
  (ns:∀m,s.heap.Ns X.env.locals m→h'.Ns X.env.locals m) (z8:bU X.prog X.w H' h') (hg:AllBare g') :
  Inv X pins σ H' { s with heap:=h',gens:=g',drawn:=d',toks:=t' }:=by
 have neL:∀b o,X.s₀.heap.get? b=some o→b≠X.env.locals:=λb o e=>Ti (Tn (SO e) I.ok.above)
 have neC:∀b o,X.s₀.heap.get? b=some o→b∉X.ex→b∉ch:=λb o e hx hb=>by
  rcases(hch b hb).1 with z | z
  ·exact hx z
  ·exact absurd (Tn (SO e) z) (N2 _)
 have cellK:∀x c,X.env.cells.lookup x=some c→∀v,s.heap.IsCell c v→h'.IsCell c v:=λx c e v ⟨o,ho,hd⟩=>by
  have nch:c∉ch:=λz=>(hch c z).2.2.1 x c e rfl
  by_cases hc:c∈X.fs
  ·obtain⟨sl,q⟩:=slot c o (I.FJ x c e) hc nch ho (I.yt x c e)
   exact⟨_,q,hd⟩
  ·exact⟨o,keep c o (I.FJ x c e) hc nch ho (I.yt x c e),hd⟩
 refine⟨I.ok,I.os,hg,⟨λb o e n hb hx=>?_,λb o e n hb hx=>?_,λb o e n hx=>?_,λb o e hx=>?_,λb xs e=>iY b xs (I.base.iY b xs e),λb o xs e=>uE b o xs (I.base.uE b o xs e),λb ps e=>?_⟩,?_,λx c e=>?_,?_,λx c e=>?_,λp hp=>?_,z8,I.len⟩
 ·exact keep b o (neL b o e) hb (neC b o e hx) (I.base.keep b o e n hb hx) (I.base.free b o e n hx)
 ·obtain⟨sl,e1⟩:=I.base.slot b o e n hb hx
  obtain⟨sl',e2⟩:=slot b _ (neL b o e) hb (neC b o e hx) e1 (I.base.free b o e n hx)
  exact⟨sl',e2⟩
 ·obtain⟨o',e1⟩:=I.base.there b o e hx
  exact free b o' (neC b o e hx) e1 (I.base.free b o e n hx)
 ·obtain⟨o',e1⟩:=I.base.there b o e hx
  exact there b o' (neC b o e hx) e1
 ·obtain⟨m1,e1⟩:=I.base.iW b ps e
  obtain⟨m2,e2⟩:=iW b _ e1
  exact⟨m1 ++ m2,by rw[e2,Array.append_assoc]⟩
 ·obtain⟨m,hn,hl⟩:=I.loc
  refine⟨m,ns m hn,λi x v e1 e2 e3=>?_⟩
  obtain⟨u,r,l⟩:=hl i x v e1 e2 e3
  refine⟨u,r,?_⟩
  rcases l with l | ⟨k,c,e,z⟩
  ·exact .inl l
  ·exact .inr ⟨k,c,e,cellK x c e _ z⟩
 ·obtain⟨v,z⟩:=I.cell x c e
  exact⟨v,cellK x c e v z⟩
 ·obtain⟨m,⟨o,_,_,ho,_⟩,_⟩:=I.loc
  exact free _ o (λz=>(hch _ z).2.1 rfl) ho I.free
 ·obtain⟨v,o,ho,hd⟩:=I.cell x c e
  exact free c o (λz=>(hch c z).2.2.1 x c e rfl) ho (I.yt x c e)
 ·obtain⟨e,n,ne,nf,d⟩:=I.pin p hp
  have nch:p.1∉ch:=λz=>(hch p.1 z).2.2.2 p hp rfl
  exact⟨keep p.1 p.2 ne nf nch e n,free p.1 p.2 nch e n,ne,nf,d⟩
theorem Inv.un {t':Nat} (I:Inv X pins σ H s) (u:Un X.fs [] H H' s.heap h') (z8:bU X.prog X.w H' h'):Inv X pins σ H' { s with heap:=h',toks:=t' }:=by
 obtain⟨m,⟨o,es,ep,ho,r⟩,_⟩:=id I.loc
 obtain⟨sl,hL⟩:=u.any ho I.free (by simp)
 exact I.step (g':=s.gens) (d':=s.drawn) (ch:=[]) (λ_ z=>nomatch z) (λb o _ hb _ e n=>u.keep b o e n hb (by simp)) (λb o _ hb _ e n=>u.slot b o e n hb (by simp)) (λb o _ e n=>u.free b o e n (by simp)) (λb o _ e=>u.there b o e (by simp)) u.iY u.uE u.iW (λm' hm=>by
  obtain⟨o',es',ep',ho',r'⟩:=hm
  rw[ho] at ho';cases ho'
  exact⟨_,es',ep',hL,r'⟩) z8 I.bare
theorem Inv.call {g':Array GenState} {t':Nat} {d':Drawn} {ch:List Addr} (I:Inv X pins σ H s) (u:Un (Zm X.stack) ch H H' s.heap h') (z8:bU X.prog X.w H' h') (hg:AllBare g')
  (hch:∀b∈ch,(b∈X.ex∨X.s₀.heap.objs.size≤b)∧b≠X.env.locals∧(∀x c,X.env.cells.lookup x=some c→c≠b)∧∀p∈X.pn ++ pins,p.1≠b) :
  Inv X pins σ H' { s with heap:=h',gens:=g',drawn:=d',toks:=t' }:=by
 obtain⟨m,⟨o,es,ep,ho,r⟩,_⟩:=id I.loc
 obtain⟨sl,hL⟩:=u.any ho I.free λz=>(hch _ z).2.1 rfl
 exact I.step (ch:=ch) hch (λb o hL hb hc e n=>u.keep b o e n (λz=>(So.mp (I.iV b z)).elim hL hb) hc) (λb o _ _ hc e n=>u.any e n hc) (λb o hc e n=>u.free b o e n hc) (λb o hc e=>u.there b o e hc) u.iY u.uE u.iW (λm' hm=>by
  obtain⟨o',es',ep',ho',r'⟩:=hm
  rw[ho] at ho';cases ho'
  exact⟨_,es',ep',hL,r'⟩) z8 hg
theorem Inv.turned {t':Nat} {it:Addr} (I:Inv X pins σ H s) (k:∀b o,b≠it→s.heap.get? b=some o→h'.get? b=some o) (hn:H it=none) (hL:it≠X.env.locals)
  (h1:it∈X.ex∨X.s₀.heap.objs.size≤it) (h2:∀x c,X.env.cells.lookup x=some c→c≠it) (h3:∀p∈X.pn ++ pins,p.1≠it):Inv X pins σ H { s with heap:=h',toks:=t' }:=by
 have nit:∀b u,H b=some u→b≠it:=λb u e z=>by rw[z,hn] at e;cases e
 refine I.step (g':=s.gens) (d':=s.drawn) (ch:=[it]) (λb hb=>?_) (λb o _ _ hc e _=>k b o (λz=>hc (by simp [z])) e) (λb o _ _ hc e _=>⟨o.slots,k b o (λz=>hc (by simp [z])) e⟩) (λ_ _ _ _ n=>n)
  (λb o hc e=>⟨o,k b o (λz=>hc (by simp [z])) e⟩) (λ_ _ e=>e) (λ_ _ _ e=>e) (λb ps e=>⟨#[],by rw[e];simp⟩) (λm hm=>?_) (λb u e=>?_) I.bare
 ·have e:b=it:=by simpa using hb
  subst e
  exact⟨h1,hL,h2,h3⟩
 ·obtain⟨o,es,ep,ho,r⟩:=hm
  exact⟨o,es,ep,k _ o (TH hL) ho,r⟩
 ·refine(I.z8 b u e).eZ (λc v hc q=>k c v ?_ q) (λ_ q=>q) λ_ _ q=>q
  rcases hc with z | z
  ·rw[z];exact nit b u e
  ·exact nit c _ z
theorem Inv.tok (I:Inv X pins σ H s) (t:Nat):Inv X pins σ H { s with toks:=t }:=I.un (h':=s.heap) (t':=t) Un.refl I.z8
theorem Inv.kept {t':Nat} (I:Inv X pins σ H s) (k:∀b u,s.heap.get? b=some u→h'.get? b=some u):Inv X pins σ H { s with heap:=h',toks:=t' }:=I.un (Un.kept k) (I.z8.kept k)
theorem Inv.laid {a:Addr} {o:HO} {t':Nat} (I:Inv X pins σ H s) (k:∀b u,s.heap.get? b=some u→h'.get? b=some u) (hp:s.heap.objs.size≤a) (new:qY X.prog X.w (upd H a o) h' a o) :
  Inv X pins σ (upd H a o) { s with heap:=h',toks:=t' }:=I.un (Un.laid k hp (I.z8.fresh hp)) (I.z8.laid k hp new)
theorem Inv.write {x e:Addr} {o:HO} {t':Nat} (I:Inv X pins σ H s) (mu:DK (H x)) (he:e=x∨H e=some (.own x)) (k:∀b u,b≠e→s.heap.get? b=some u→h'.get? b=some u) (heo:∃u,h'.get? e=some u)
  (new:qY X.prog X.w (upd H x o) h' x o):Inv X pins σ (upd H x o) { s with heap:=h',toks:=t' }:=I.un (Un.write mu he k heo) (I.z8.write mu he k heo new)
theorem Inv.weak {σ':List (Option V)} (I:Inv X pins σ H s) (hl:σ'.length=σ.length) (w:∀(i:Nat) v,σ'[i]?=some (some v)→σ[i]?=some (some v)):Inv X pins σ' H s:=
 ⟨I.ok,I.os,I.bare,I.base,let ⟨m,hn,hl'⟩:=I.loc;⟨m,hn,λi x v e1 e2 e3=>hl' i x v e1 (w i v e2) e3⟩,I.cell,I.free,I.yt,I.pin,I.z8,hl.trans I.len⟩
theorem Inv.fM {pins':List (Addr × Obj)} (I:Inv X pins σ H s) (h:∀p∈pins',s.heap.get? p.1=some p.2∧H p.1=none∧p.1≠X.env.locals∧p.1∉X.fs∧∀v,p.2.data≠.cell v):Inv X pins' σ H s:=
 ⟨I.ok,I.os,I.bare,I.base,I.loc,I.cell,I.free,I.yt,λp hp=>(SI.mp hp).elim (λz=>I.pin p (TZ _ z)) (h p),I.z8,I.len⟩
theorem og {N:List Str} (hN:N.Nodup) {i j:Nat} {x:Str} (a:N[i]?=some x) (b:N[j]?=some x):i=j:=by
 obtain⟨h1,e1⟩:=S3.mp a
 obtain⟨h2,e2⟩:=S3.mp b
 exact(List.getElem_inj hN).mp (e1.trans e2.symm)
theorem WQ {M:Model} {A:TM} {E:Sr→Ss→Prop} {i:Nat} {x:Str} {v:V} {u:Sr} {Q:Unit→Ss→Prop} (I:Inv X pins σ H s) (hN:X.N.Nodup) (hi:X.N[i]?=some x) (hx:Loc X.env.scope x) (r:RelV v u)
  (h:∀s',Inv X pins (σ.set i (some v)) H s'→(∃a,Ip a s.heap s'.heap∧(a=X.env.locals∨X.env.cells.lookup x=some a))→Q () s') (hf:X.fn x=true∨X.env.scope.names.lookup x=some .local:=by first | exact .inl rfl | exact .inr rfl | assumption):S6 M A (storeName X.env x u) Q E s:=by
 obtain⟨m,hn,hl⟩:=id I.loc
 have hcls:(X.env.scope.kind == .class || (X.env.scope.kind == .module && X.env.locals != X.env.globals))=false:=by rw[I.ok.kind];rfl
 have hiσ:i < σ.length:=by rw[I.len];exact(S3.mp hi).1
 have FJ:=I.FJ
 have tracked:∀{a:Addr} {h':Heap},(∃o,s.heap.get? a=some o∧H a=none)→Ip a s.heap h'→bU X.prog X.w H h':=λ{a h'} ha hs b ob e=>by
  obtain⟨_,_,hfree⟩:=ha
  refine(I.z8 b ob e).eZ (λc w' hc q=>(hs.2 c ?_).trans q) (λ_ q=>q) λ_ _ q=>q
  rintro rfl
  rcases hc with rfl | hc
  ·rw[hfree] at e;cases e
  ·rw[hfree] at hc;cases hc
 rcases hx with hk | hk
 ·refine wpAny_storeName_local hk hn (λh' hn' hs=>?_) hcls
  obtain⟨oL,_,_,hoL,_⟩:=id hn
  refine h _ ⟨I.ok,I.os,I.bare,⟨λb o e n hb hx=>?_,λb o e n hb hx=>?_,I.base.free,λb o e hx=>?_,I.base.iY,I.base.uE,I.base.iW⟩,⟨_,hn',λj y v' e1 e2 e3=>?_⟩,λy c e=>?_,I.free,I.yt,λp hp=>?_,tracked ⟨oL,hoL,I.free⟩ hs,by simpa using I.len⟩ ⟨_,hs,.inl rfl⟩
  ·exact(hs.2 b (Ti (Tn (SO e) I.ok.above))).trans (I.base.keep b o e n hb hx)
  ·obtain⟨sl,e1⟩:=I.base.slot b o e n hb hx
   exact⟨sl,(hs.2 b (Ti (Tn (SO e) I.ok.above))).trans e1⟩
  ·obtain⟨o',e1⟩:=I.base.there b o e hx
   exact⟨o',(hs.2 b (Ti (Tn (SO e) I.ok.above))).trans e1⟩
  ·by_cases hj:j=i
   ·subst hj
    rw[hi] at e1;cases e1
    rw[OZ hiσ] at e2
    cases e2
    exact⟨u,r,.inl ⟨hk,by simp⟩⟩
   ·rw[IV (TH hj)] at e2
    obtain⟨u',r',q⟩:=hl j y v' e1 e2 e3
    refine⟨u',r',?_⟩
    rcases q with ⟨k,e⟩ | ⟨k,c,e,z⟩
    ·refine .inl ⟨k,?_⟩
     have:y≠x:=λe=>hj (og hN e1 (e▸hi))
     simp [this,e]
    ·exact .inr ⟨k,c,e,z.sameBut hs (FJ y c e)⟩
  ·obtain⟨w',z⟩:=I.cell y c e
   exact⟨w',z.sameBut hs (FJ y c e)⟩
  ·obtain⟨e,n,ne,nf,d⟩:=I.pin p hp
   exact⟨(hs.2 p.1 ne).trans e,n,ne,nf,d⟩
 ·have hfn:X.fn x=true:=by
   rcases hf with z | z
   ·exact z
   ·rw[z] at hk;cases hk
  obtain⟨c,hc⟩:=I.ok.has x (.inl hk)
  obtain⟨w',z⟩:=I.cell x c hc
  refine wpAny_storeName_cell I.ok.kind hk hc z (λh' hc' hs=>?_)
  obtain⟨oc,hoc,hocd⟩:=id z
  refine h { s with heap:=h' } ⟨I.ok,I.os,I.bare,⟨λb o e n hb hx=>?_,λb o e n hb hx=>?_,I.base.free,λb o e hx=>?_,I.base.iY,I.base.uE,I.base.iW⟩,⟨m,hn.sameBut hs (TH (FJ x c hc)),λj y v' e1 e2 e3=>?_⟩,λy c' e=>?_,I.free,I.yt,λp hp=>?_,tracked ⟨oc,hoc,I.yt x c hc⟩ hs,by simpa using I.len⟩ ⟨c,hs,.inr hc⟩
  ·exact(hs.2 b (Ti (Tn (SO e) (I.ok.DS x c hfn hc)))).trans (I.base.keep b o e n hb hx)
  ·obtain⟨sl,e1⟩:=I.base.slot b o e n hb hx
   exact⟨sl,(hs.2 b (Ti (Tn (SO e) (I.ok.DS x c hfn hc)))).trans e1⟩
  ·obtain⟨o',e1⟩:=I.base.there b o e hx
   exact⟨o',(hs.2 b (Ti (Tn (SO e) (I.ok.DS x c hfn hc)))).trans e1⟩
  ·by_cases hj:j=i
   ·subst hj
    rw[hi] at e1;cases e1
    rw[OZ hiσ] at e2
    cases e2
    exact⟨u,r,.inr ⟨.inl hk,c,hc,hc'⟩⟩
   ·rw[IV (TH hj)] at e2
    obtain⟨u',r',q⟩:=hl j y v' e1 e2 e3
    refine⟨u',r',?_⟩
    rcases q with q | ⟨k,c',e,z'⟩
    ·exact .inl q
    ·refine .inr ⟨k,c',e,z'.sameBut hs ?_⟩
     rintro rfl
     exact hj (og hN e1 (I.ok.inj _ _ _ e hc▸hi))
  ·by_cases hcc:c'=c
   ·subst hcc;exact⟨_,hc'⟩
   ·obtain⟨w2,z2⟩:=I.cell y c' e
    exact⟨w2,z2.sameBut hs hcc⟩
  ·obtain⟨e,n,ne,nf,d⟩:=I.pin p hp
   refine⟨(hs.2 p.1 ?_).trans e,n,ne,nf,d⟩
   intro q
   rw[q,hoc] at e
   have q':oc=p.2:=Tq e
   exact d w' (by rw[←q'];exact hocd)
theorem uo {M:Model} {A:TM} {E:Sr→Ss→Prop} {i:Nat} {x:Str} {v:V} {u:Sr} {Q:Unit→Ss→Prop} (I:Inv X pins σ H s) (hN:X.N.Nodup) (hi:X.N[i]?=some x) (hx:Loc X.env.scope x) (r:RelV v u)
  (h:∀s',Inv X pins (σ.set i (some v)) H s'→Q () s') (hf:X.fn x=true∨X.env.scope.names.lookup x=some .local:=by first | exact .inl rfl | exact .inr rfl | assumption):S6 M A (storeName X.env x u) Q E s:=
 WQ I hN hi hx r (λs' I' _=>h s' I') hf
theorem Inv.W8 {s':Ss} {ch:List Addr} (I:Inv X pins σ H s) (ho:s'.os=s.os) (u:Un (Zm X.stack) ch H H' s.heap s'.heap) (z8:bU X.prog X.w H' s'.heap) (hg:AllBare s'.gens)
  (hch:∀b∈ch,(b∈X.ex∨X.s₀.heap.objs.size≤b)∧b≠X.env.locals∧(∀x c,X.env.cells.lookup x=some c→c≠b)∧∀p∈X.pn ++ pins,p.1≠b):Inv X pins σ H' s':=by
 obtain⟨h',g',d',t',o'⟩:=s'
 have e:o'=s.os:=ho
 subst e
 exact I.call (g':=g') (t':=t') (d':=d') u z8 hg hch
end
abbrev XK:=Sr→Option Addr→Hp→Prop
abbrev St:=List (Option V)
abbrev VK:=V→Hp→Prop
abbrev TE:=St→Hp→VK→Prop
abbrev TT:=St→Hp→(Bool→Hp→Prop)→Prop
abbrev TA:=St→Hp→(List V→Hp→Prop)→Prop
structure Ends where
 nx:St→Hp→Prop
 rt:VK
 bk:St→Hp→Prop:=λ_ _=>False
 ct:St→Hp→Prop:=λ_ _=>False
abbrev TS:=Ends→St→Hp→Prop
def EP (X:Cx) (pins:List (Addr × Obj)) (σ:St) (Q:VK) (u:Sr) (s':Ss):Prop:=∃v H',Inv X pins σ H' s'∧RelV v u∧Q v H'
def TP (X:Cx) (pins:List (Addr × Obj)) (σ:St) (Q:Bool→Hp→Prop) (b:Bool) (s':Ss):Prop:=∃H',Inv X pins σ H' s'∧Q b H'
def AP (X:Cx) (pins:List (Addr × Obj)) (σ:St) (Q:List V→Hp→Prop) (us:List Sr) (s':Ss):Prop:=∃vs H',Inv X pins σ H' s'∧Vals vs us∧Q vs H'
def SP (X:Cx) (pins:List (Addr × Obj)) (D:Ends) (f:Flow) (s':Ss):Prop:=
 match f with
 | .next=>∃σ' H',Inv X pins σ' H' s'∧D.nx σ' H'
 | .brk=>∃σ' H',Inv X pins σ' H' s'∧D.bk σ' H'
 | .cont=>∃σ' H',Inv X pins σ' H' s'∧D.ct σ' H'
 | .ret u=>∃v σ' H',Inv X pins σ' H' s'∧RelV v u∧D.rt v H'
def PE (X:Cx) (e:Expr) (t:TE):Prop:=
 ∀(pins:List (Addr × Obj)) (s:Ss) (σ:St) (H:Hp) (Q:VK),Inv X pins σ H s→t σ H Q→S6 (S4 X.prog X.w) X.A (eval e X.env) (EP X pins σ Q) X.xe s
def PT (X:Cx) (e:Expr) (t:TT):Prop:=
 ∀(pins:List (Addr × Obj)) (s:Ss) (σ:St) (H:Hp) (Q:Bool→Hp→Prop),Inv X pins σ H s→t σ H Q→S6 (S4 X.prog X.w) X.A (isTrue e X.env (eval e X.env)) (TP X pins σ Q) X.xe s
def PW (X:Cx) (e:Expr) (t:TT):Prop:=
 ∀(whole:Sem Sr) (pins:List (Addr × Obj)) (s:Ss) (σ:St) (H:Hp) (Q:Bool→Hp→Prop),Inv X pins σ H s→t σ H Q→S6 (S4 X.prog X.w) X.A (isTrue e X.env whole) (TP X pins σ Q) X.xe s
theorem PW.pt {X:Cx} {e:Expr} {t:TT} (h:PW X e t):PT X e t:=h _
def PA (X:Cx) (es:List Expr) (t:TA):Prop:=
 ∀(pos:Pos) (pins:List (Addr × Obj)) (s:Ss) (σ:St) (H:Hp) (Q:List V→Hp→Prop),Inv X pins σ H s→t σ H Q→S6 (S4 X.prog X.w) X.A (spliced (backTo pos (Tc es X.env))) (AP X pins σ Q) X.xe s
def PS (X:Cx) (st:Stmt) (t:TS):Prop:=
 ∀(pins:List (Addr × Obj)) (s:Ss) (σ:St) (H:Hp) (D:Ends),Inv X pins σ H s→t D σ H→S6 (S4 X.prog X.w) X.A (exec st X.env) (SP X pins D) X.xe s
def JO (X:Cx) (st:List Stmt) (t:TS):Prop:=
 ∀(pins:List (Addr × Obj)) (s:Ss) (σ:St) (H:Hp) (D:Ends),Inv X pins σ H s→t D σ H→S6 (S4 X.prog X.w) X.A (execs st X.env) (SP X pins D) X.xe s
theorem qW {α:Type} {t:Sem α} {Q Q':α→Ss→Prop} {M:Model} {A:TM} {E:Sr→Ss→Prop} {s:Ss} (h:S6 M A t Q E s) (hQ:∀a s,Q a s→Q' a s):S6 M A t Q' E s:=TR h hQ λ_ _ x=>x
end L2
namespace L2
open PySem PySem.Spec PyProof.Rows
section
variable {X:Cx}
theorem bin {a b:Expr} {ta tb:TE} (ha:PE X a ta) (hb:PE X b tb) {pins:List (Addr × Obj)} {s:Ss} {σ:St} {H:Hp} {R:V→V→Hp→Prop} (I:Inv X pins σ H s) (h:ta σ H λx H1=>tb σ H1 λy H2=>R x y H2)
  {α:Type} {Q:α→Ss→Prop} {f:Sr→Sr→Sem α}
  (hf:∀v u s2 x y H2,Inv X pins σ H2 s2→RelV x v→RelV y u→R x y H2→S6 (S4 X.prog X.w) X.A (f v u) Q X.xe s2) :
  S6 (S4 X.prog X.w) X.A (eval a X.env) (λv s₁=>S6 (S4 X.prog X.w) X.A (eval b X.env) (λu s₂=>S6 (S4 X.prog X.w) X.A (f v u) Q X.xe s₂) X.xe s₁) X.xe s:=by
 refine qW (ha pins s σ H _ I h) λv s1 ⟨x,H1,I1,r1,q1⟩=>?_
 refine qW (hb pins s1 σ H1 _ I1 q1) λu s2 ⟨y,H2,I2,r2,q2⟩=>?_
 exact hf v u s2 x y H2 I2 r1 r2 q2
def JF (i:Nat):TE:=λσ H Q=>∃v,σ[i]?=some (some v)∧Q v H
def tC (v:V):TE:=λ_ H Q=>Q v H
theorem Me {i:Nat} {x:Str} {pos:Pos} (hN:X.N[i]?=some x) (hv:UZ X.env.scope x) (hd:(x == ("__debug__" : Str))=false:=by decide) (hcd:(x == ("__classdict__" : Str))=false:=by decide):PE X (.Name x pos) (JF i):=by
 intro pins s σ H Q I h
 obtain⟨v,e,h⟩:=h
 obtain⟨m,hn,hl⟩:=I.loc
 obtain⟨u,r,l⟩:=hl i x v hN e hv
 have fin:EP X pins σ Q u s:=⟨v,H,I,r,h⟩
 rcases l with ⟨hk,hm⟩ | ⟨hk,c,hc,hcell⟩
 ·exact zzM (wpAny_loadName_local I.ok.kind hk hn hm fin) hd
 ·rcases hk with hk | hk
  ·exact zzM (wpAny_loadName_cell I.ok.kind hk hc hcell fin) hd
  ·exact zzM (wpAny_loadName_free I.ok.kind hk hc hcell fin hcd) hd
theorem zx {i j pos}:PE X (.Constant (.int i) j pos) (tC (.int i)):=λ_ _ _ H _ I h=>wpAny_Constant_int ⟨.int i,H,I.tok _,⟨_,rfl⟩,h⟩
theorem xF {b j pos}:PE X (.Constant (.bool b) j pos) (tC (.bl b)):=λ_ _ _ H _ I h=>Constant_bool ⟨.bl b,H,I,rfl,h⟩
theorem yj {j pos}:PE X (.Constant .none j pos) (tC .non):=λ_ _ _ H _ I h=>Constant_none ⟨.non,H,I,rfl,h⟩
theorem zw {x j pos}:PE X (.Constant (.str x) j pos) (tC (.str x)):=λ_ _ _ H _ I h=>Calls.Constant_str ⟨.str x,H,I.tok _,⟨_,rfl⟩,h⟩
def Gl (X:Cx) (x:Str):Prop:=X.env.kindOf x=some .globalImplicit
theorem fG {E:Sr→Ss→Prop} {pins:List (Addr × Obj)} {s:Ss} {σ:St} {H:Hp} {x:Str} {u:Sr} {pos:Pos} {Q:Sr→Ss→Prop} (I:Inv X pins σ H s) (hg:Gl X x) (hm:X.mg x=some u) (h:Q u s)
  (hd:(x == ("__debug__" : Str))=false:=by decide):S6 (S4 X.prog X.w) X.A (eval (.Name x pos) X.env) Q E s:=
 Ez I.ok.kind hg (Calls.loadGlobal_global (by rw[I.ok.glob];exact I.mod.glob.keeps I.bk) hm h) hd
theorem rq {E:Sr→Ss→Prop} {pins:List (Addr × Obj)} {s:Ss} {σ:St} {H:Hp} {x:Str} {u:Sr} {pos:Pos} {Q:Sr→Ss→Prop} (I:Inv X pins σ H s) (hg:Gl X x) (hm:X.mg x=none) (hv:Ov x=some u) (h:Q u s)
  (hn:x≠"__name__":=by decide) (hd:(x == ("__debug__" : Str))=false:=by decide):S6 (S4 X.prog X.w) X.A (eval (.Name x pos) X.env) Q E s:=by
 obtain⟨mb,h1,h2⟩:=I.mod.blt
 exact Ez I.ok.kind hg (Calls.loadGlobal_builtin (by rw[I.ok.glob];exact I.mod.glob.keeps I.bk) hm (by rw[I.ok.blt];exact h1.keeps I.bk) ((h2 x hn).trans hv) h) hd
theorem qO {x:Str} {v:V} {u:Sr} {pos:Pos} (hg:Gl X x) (hm:X.mg x=some u) (r:RelV v u) (hd:(x == ("__debug__" : Str))=false:=by decide):PE X (.Name x pos) (tC v):=
 λ_ _ _ H _ I h=>fG I hg hm ⟨v,H,I,r,h⟩ hd
theorem g7 {x:Str} {v:V} {u:Sr} {pos:Pos} (hg:Gl X x) (hm:X.mg x=none) (hv:Ov x=some u) (r:RelV v u) (hn:x≠"__name__":=by decide) (hd:(x == ("__debug__" : Str))=false:=by decide):PE X (.Name x pos) (tC v):=
 λ_ _ _ H _ I h=>rq I hg hm hv ⟨v,H,I,r,h⟩ hn hd
def Um (ta tb:TE) (k:Int→Int→Hp→Prop):St→Hp→Prop:=λσ H=>ta σ H λx H1=>tb σ H1 λy H2=>∃i j,x=.int i∧y=.int j∧k i j H2
def LC (ta tb:TE):TE:=λσ H Q=>Um ta tb (λi j H2=>Q (.int (i + j)) H2) σ H
def L4 (ta tb:TE):TE:=λσ H Q=>Um ta tb (λi j H2=>Q (.int (i - j)) H2) σ H
def LO (ta tb:TE):TE:=λσ H Q=>Um ta tb (λi j H2=>(-(2 ^ 64) < i∧i < 2 ^ 64)∧Q (.int (i * j)) H2) σ H
variable {a b:Expr} {ta tb:TE} {pos:Pos}
def PC (X:Cx) (op:CmpOp) (a b:Expr) (t:TE):Prop:=
 ∀(pins:List (Addr × Obj)) (s:Ss) (σ:St) (H:Hp) (Q:VK),Inv X pins σ H s→t σ H Q→
  S6 (S4 X.prog X.w) X.A (eval a X.env) (λv s₁=>S6 (S4 X.prog X.w) X.A (eval b X.env) (λu s₂=>S6 (S4 X.prog X.w) X.A (Ny op v u) (EP X pins σ Q) X.xe s₂) X.xe s₁) X.xe s
def WJ (p:Int→Int→Bool) (ta tb:TE):TE:=λσ H Q=>Um ta tb (λi j H2=>Q (.bl (p i j)) H2) σ H
abbrev Sm:TE→TE→TE:=WJ λi j=>decide (i < j)
abbrev Sf:TE→TE→TE:=WJ λi j=>decide (i≤j)
abbrev Sg:TE→TE→TE:=WJ λi j=>decide (j < i)
abbrev Sy:TE→TE→TE:=WJ λi j=>decide (j≤i)
abbrev LL:TE→TE→TE:=WJ λi j=>decide (i=j)
abbrev LI:TE→TE→TE:=WJ λi j=>!decide (i=j)
def LN (ta:TE):TE:=λσ H Q=>ta σ H λx H1=>Q (.bl (decide (x=.non))) H1
def R9 (ta:TE):TE:=λσ H Q=>ta σ H λx H1=>Q (.bl (!decide (x=.non))) H1
def tB (t:TE):TT:=λσ H Q=>t σ H λx H1=>∃c,x=.bl c∧Q c H1
theorem Ms {op:CmpOp} {t:TE} (h:PC X op a b t) (h1:O7 op b=false:=by first | exact nobehind _ (by decide) (by decide) | rfl):PE X (.Compare a [op] [b] pos) t:=λpins s σ H Q I hw=>zzD (h pins s σ H Q I hw) h1
theorem ZI {op:CmpOp} {t:TE} (h:PC X op a b t) (h1:O7 op b=false:=by first | exact nobehind _ (by decide) (by decide) | rfl):PT X (.Compare a [op] [b] pos) (tB t):=by
 intro pins s σ H Q I hw
 refine Aj (qW (h pins s σ H _ I hw) λv s1 h1=>qW h1 λu s2 h2=>qW h2 λc s3 ⟨x,H1,I1,r1,q1⟩=>?_) h1
 obtain⟨d,rfl,q⟩:=q1
 cases r1
 exact NV ⟨H1,I1,q⟩
theorem qt {e:Expr} {t:TE} (h:PE X e t) (he:∀whole,isTrue e X.env whole=(do let v ←whole;standAt e.pos;holding [v] (truthy v)):=by intro _;rfl):PT X e (tB t):=by
 intro pins s σ H Q I hw
 refine isTrue_plain (qW (h pins s σ H _ I hw) λv s1 ⟨x,H1,I1,r1,q1⟩=>?_) (he _)
 obtain⟨d,rfl,q⟩:=q1
 cases r1
 exact NV ⟨H1,I1,q⟩
variable {tA tB':TT} {rest:List Expr}
def CN (t u:TT):TT:=λσ H Q=>t σ H λc H1=>if c=true then u σ H1 Q else Q false H1
def LA (t u:TT):TT:=λσ H Q=>t σ H λc H1=>if c=true then Q true H1 else u σ H1 Q
def Rc (t:TT):TT:=λσ H Q=>t σ H λc H1=>Q (!c) H1
theorem vA (ha:PT X a tA):PW X (.BoolOp .And [a] pos) tA:=by
 intro wh pins s σ H Q I h
 refine isTrue_and (qW (ha pins s σ H Q I h) λc s1 e=>?_)
 cases c with
 | true=>exact isTrue_and_nil e
 | false=>exact e
theorem kM (ha:PT X a tA):PW X (.BoolOp .Or [a] pos) tA:=by
 intro wh pins s σ H Q I h
 refine isTrue_or (qW (ha pins s σ H Q I h) λc s1 e=>?_)
 cases c with
 | false=>exact isTrue_or_nil e
 | true=>exact e
theorem yO (ha:PT X a tA) (hb:PW X (.BoolOp .And (b :: rest) pos) tB'):PW X (.BoolOp .And (a :: b :: rest) pos) (CN tA tB'):=by
 intro wh pins s σ H Q I h
 refine isTrue_and (qW (ha pins s σ H _ I h) λc s1 ⟨H1,I1,q1⟩=>?_)
 cases c with
 | true=>exact hb wh pins s1 σ H1 Q I1 q1
 | false=>exact⟨H1,I1,q1⟩
theorem vF (ha:PT X a tA) (hb:PW X (.BoolOp .Or (b :: rest) pos) tB'):PW X (.BoolOp .Or (a :: b :: rest) pos) (LA tA tB'):=by
 intro wh pins s σ H Q I h
 refine isTrue_or (qW (ha pins s σ H _ I h) λc s1 ⟨H1,I1,q1⟩=>?_)
 cases c with
 | true=>exact⟨H1,I1,q1⟩
 | false=>exact hb wh pins s1 σ H1 Q I1 q1
theorem jh (ha:PT X a tA):PT X (.UnaryOp .Not a pos) (Rc tA):=by
 intro pins s σ H Q I h
 exact isTrue_not (ha pins s σ H (λc H1=>Q (!c) H1) I h)
def CO (ta tb:TE):TE:=λσ H Q=>ta σ H λx H1=>∃c,x=.bl c∧if c=true then tb σ H1 Q else Q (.bl false) H1
def Ru (ta tb:TE):TE:=λσ H Q=>ta σ H λx H1=>∃c,x=.bl c∧if c=true then Q (.bl true) H1 else tb σ H1 Q
def C2 (ta:TE):TE:=λσ H Q=>ta σ H λx H1=>∃c,x=.bl c∧Q (.bl (!c)) H1
theorem oY {op} {t:TE} (h:PE X a t):PE X (.BoolOp op [a] pos) t:=λpins s σ H Q I hw=>BoolOp_one (h pins s σ H Q I hw)
theorem ZT (ha:PE X a ta) (hb:PE X (.BoolOp .And (b :: rest) pos) tb):PE X (.BoolOp .And (a :: b :: rest) pos) (CO ta tb):=by
 intro pins s σ H Q I h
 refine BoolOp_and (qW (ha pins s σ H _ I h) λv s1 ⟨x,H1,I1,r1,q1⟩=>?_)
 obtain⟨c,rfl,q1⟩:=q1
 cases r1
 refine NV ?_
 cases c with
 | true=>exact hb pins s1 σ H1 Q I1 q1
 | false=>exact⟨.bl false,H1,I1,rfl,q1⟩
theorem Cm (ha:PE X a ta) (hb:PE X (.BoolOp .Or (b :: rest) pos) tb):PE X (.BoolOp .Or (a :: b :: rest) pos) (Ru ta tb):=by
 intro pins s σ H Q I h
 refine BoolOp_or (qW (ha pins s σ H _ I h) λv s1 ⟨x,H1,I1,r1,q1⟩=>?_)
 obtain⟨c,rfl,q1⟩:=q1
 cases r1
 refine NV ?_
 cases c with
 | false=>exact hb pins s1 σ H1 Q I1 q1
 | true=>exact⟨.bl true,H1,I1,rfl,q1⟩
theorem Mo (ha:PE X a ta):PE X (.UnaryOp .Not a pos) (C2 ta):=by
 intro pins s σ H Q I h
 refine UnaryOp_ (qW (ha pins s σ H _ I h) λv s1 ⟨x,H1,I1,r1,q1⟩=>?_)
 obtain⟨c,rfl,q1⟩:=q1
 cases r1
 exact not_of (NV ⟨.bl (!c),H1,I1,rfl,q1⟩)
def Sb (t:TT) (ta tb:TE):TE:=λσ H Q=>t σ H λc H1=>if c=true then ta σ H1 Q else tb σ H1 Q
end
end L2
namespace L2
open PySem PySem.Spec PyProof.Rows
def zK (K:Sd) (H:Hp) (a:Addr) (xs:List V):Prop:=
 Rd H a (.lst xs)∨
  ∃(o:Obj) (its:Array Sr) (n:Nat),K.lookup a=some o∧o.cls=.type "list"∧o.dict=none∧o.data=.seq its n∧its.size≤S0∧Vals xs its.toList
def jo (K:Sd) (H:Hp) (a:Addr) (xs:List V):Prop:=
 Rd H a (.tup xs)∨
  ∃(o:Obj) (its:Array Sr) (n:Nat),K.lookup a=some o∧o.cls=.type "tuple"∧o.data=.seq its n∧its.size≤S0∧Vals xs its.toList
def UJ:Sr→Option V
 | .none=>some .non
 | .bool b=>some (.bl b)
 | .int i _=>some (.int i)
 | .str x _=>some (.str x)
 | .bytes b _=>some (.byt b)
 | .float b _=>some (.flt b)
 | .ref a=>some (.ref a)
 | .type n=>some (.ty n)
 | _=>none
theorem RelV.abs {x:V} {u:Sr} (r:RelV x u):UJ u=some x:=by
 cases x with
 | non=>cases r;rfl
 | bl _=>cases r;rfl
 | int _=>obtain⟨t,rfl⟩:=r;rfl
 | str _=>obtain⟨t,rfl⟩:=r;rfl
 | byt _=>obtain⟨t,rfl⟩:=r;rfl
 | flt _=>obtain⟨t,rfl⟩:=r;rfl
 | ref _=>cases r;rfl
 | ty _=>cases r;rfl
theorem RelV.inj {x y:V} {u:Sr} (r:RelV x u) (q:RelV y u):x=y:=Tq (r.abs.symm.trans q.abs)
theorem Vals.inj:∀{xs ys:List V} {us:List Sr},Vals xs us→Vals ys us→xs=ys
 | _,_,_,.nil,.nil=>rfl
 | _,_,_,.cons r t,.cons r' t'=>by rw[r.inj r',Vals.inj t t']
section
variable {X:Cx} {pins:List (Addr × Obj)} {σ:St} {H:Hp} {s:Ss} {a:Addr} {xs ys:List V}
theorem zK.of {K:Sd} (h:H a=some (.lst xs)):zK K H a xs:=.inl (.inl h)
theorem jo.of {K:Sd} (h:H a=some (.tup xs)):jo K H a xs:=.inl (.inl h)
theorem Inv.list (I:Inv X pins σ H s) (h:zK X.K H a xs):∃its:List Sr,Vals xs its∧PlainL s.heap a its.toArray∧xs.length≤S0:=by
 rcases h with h | ⟨o,its,n,hk,hc,hd,hs,hz,r⟩
 ·obtain⟨z,its,n,r,e⟩:=h.ok I.z8
  exact⟨its,r,⟨_,n,e,rfl,rfl,rfl⟩,z⟩
 ·refine⟨its.toList,r,⟨o,n,I.bD a o hk,hc,hd,by simpa using hs⟩,?_⟩
  have e:=r.length
  simp only[ID] at e
  omega
theorem Inv.tuple (I:Inv X pins σ H s) (h:jo X.K H a xs):∃its:List Sr,Vals xs its∧IsTup s.heap a its.toArray∧xs.length≤S0:=by
 rcases h with h | ⟨o,its,n,hk,hc,hs,hz,r⟩
 ·obtain⟨z,its,r,p⟩:=h.ok I.z8
  exact⟨its,r,p,z⟩
 ·refine⟨its.toList,r,⟨o,I.bD a o hk,hc,n,by simpa using hs⟩,?_⟩
  have e:=r.length
  simp only[ID] at e
  omega
theorem Inv.nM (I:Inv X pins σ H s) (h:zK X.K H a xs) (h':zK X.K H a ys):xs=ys:=by
 obtain⟨its,r,⟨o,n,e,_,_,d⟩,_⟩:=I.list h
 obtain⟨its',r',⟨o',n',e',_,_,d'⟩,_⟩:=I.list h'
 rw[e] at e';cases e'
 rw[d] at d'
 injection d' with d1 _
 have:its=its':=by simpa using congrArg zqs d1
 subst this
 exact r.inj r'
theorem Inv.WV (I:Inv X pins σ H s) (h:jo X.K H a xs) (h':jo X.K H a ys):xs=ys:=by
 obtain⟨its,r,⟨o,e,_,n,d⟩,_⟩:=I.tuple h
 obtain⟨its',r',⟨o',e',_,n',d'⟩,_⟩:=I.tuple h'
 rw[e] at e';cases e'
 rw[d] at d'
 injection d' with d1 _
 have:its=its':=by simpa using congrArg zqs d1
 subst this
 exact r.inj r'
end
abbrev Cx.eJ (X:Cx) (E:Sr→Ss→Prop):Cx:={ X with xe:=E }
abbrev Cx.Uw (X:Cx):Cx:=X.eJ λ_ _=>False
theorem Cx.Ok.eJ {X:Cx} (ok:X.Ok) (E:Sr→Ss→Prop):(X.eJ E).Ok:=
 ⟨ok.mod,ok.kind,ok.glob,ok.blt,ok.above,ok.inj,ok.has,ok.DS,ok.hd,ok.frames,ok.Ub,ok.Dc,ok.bs,ok.WC,ok.V4,ok.J5,ok.u7,ok.Pk⟩
theorem Cx.Ok.fQ {X:Cx} {E:Sr→Ss→Prop} (ok:(X.eJ E).Ok):X.Ok:=
 ⟨ok.mod,ok.kind,ok.glob,ok.blt,ok.above,ok.inj,ok.has,ok.DS,ok.hd,ok.frames,ok.Ub,ok.Dc,ok.bs,ok.WC,ok.V4,ok.J5,ok.u7,ok.Pk⟩
section
variable {X:Cx} {pins:List (Addr × Obj)} {σ:St} {H:Hp} {s:Ss} {E:Sr→Ss→Prop}
theorem Inv.eJ (I:Inv X pins σ H s) (E:Sr→Ss→Prop):Inv (X.eJ E) pins σ H s:=⟨I.ok.eJ E,I.os,I.bare,I.base,I.loc,I.cell,I.free,I.yt,I.pin,I.z8,I.len⟩
theorem Inv.fQ (I:Inv (X.eJ E) pins σ H s):Inv X pins σ H s:=⟨I.ok.fQ,I.os,I.bare,I.base,I.loc,I.cell,I.free,I.yt,I.pin,I.z8,I.len⟩
theorem SP.fQ {D:Ends} {f:Flow} {s':Ss} (h:SP (X.eJ E) pins D f s'):SP X pins D f s':=by
 cases f with
 | next=>obtain⟨σ',H',I,q⟩:=h;exact⟨σ',H',I.fQ,q⟩
 | brk=>obtain⟨σ',H',I,q⟩:=h;exact⟨σ',H',I.fQ,q⟩
 | cont=>obtain⟨σ',H',I,q⟩:=h;exact⟨σ',H',I.fQ,q⟩
 | ret u=>obtain⟨v,σ',H',I,r,q⟩:=h;exact⟨v,σ',H',I.fQ,r,q⟩
theorem JO.Uw {st:List Stmt} {t:TS} (h:JO X.Uw st t):JO X st t:=λpins s σ H D I hw=>
 TR (h pins s σ H D (I.eJ _) hw) (λ_ _ q=>q.fQ) λ_ _ z=>T5 z
end
section
variable {X:Cx} {st:Stmt} {rest:List Stmt} {t u:TS} {e:Expr} {te:TE} {pos:Pos}
def C1:TS:=λD σ H=>D.nx σ H
def C5 (t u:TS):TS:=λD σ H=>t { D with nx:=u D } σ H
theorem zr:JO X [] C1:=λ_ _ σ H _ I h=>IB ⟨σ,H,I,h⟩
theorem zj (h1:PS X st t) (h2:JO X rest u):JO X (st :: rest) (C5 t u):=by
 intro pins s σ H D I h
 refine zzu (qW (h1 pins s σ H { D with nx:=u D } I h) λf s1 q=>?_)
 cases f with
 | next=>
  obtain⟨σ',H',I',q⟩:=q
  exact h2 pins s1 σ' H' D I' q
 | ret v=>exact q
 | brk=>exact q
 | cont=>exact q
theorem zk (h1:PS X st t):JO X [st] t:=by
 intro pins s σ H D I h
 refine zzu (qW (h1 pins s σ H D I h) λf s1 q=>?_)
 cases f with
 | next=>exact IB q
 | ret v=>exact q
 | brk=>exact q
 | cont=>exact q
def M0:TS:=λD σ H=>D.bk σ H
def R4:TS:=λD σ H=>D.ct σ H
theorem Gp:PS X (.Break pos) M0:=λ_ _ σ H _ I h=>wpAny_Break ⟨σ,H,I,h⟩
theorem Inv.quiet {pins:List (Addr × Obj)} {σ:St} {H:Hp} {s:Ss} (I:Inv X pins σ H s):interactive X.env=false:=by simp [interactive,I.ok.kind]
def CA (te:TE):TS:=λD σ H=>te σ H λ_ H1=>D.nx σ H1
theorem zO (he:PE X e te) (hs:IE e none pos.line X.env=pure false:=by rfl):PS X (.Expr e pos) (CA te):=by
 intro pins s σ H D I h
 exact wpAny_Expr_any (qW (he pins s σ H _ I h) λv s1 ⟨x,H1,I1,r1,q1⟩=>⟨σ,H1,I1,q1⟩) I.quiet hs
def C4 (te:TE):TS:=λD σ H=>te σ H D.rt
theorem zf (he:PE X e te):PS X (.Return (some e) pos) (C4 te):=by
 intro pins s σ H D I h
 exact wpAny_Return_some (qW (he pins s σ H _ I h) λv s1 ⟨x,H1,I1,r1,q1⟩=>⟨x,σ,H1,I1,r1,q1⟩)
def Lz:TS:=λD _ H=>D.rt .non H
def Rb (c:TT) (t u:TS):TS:=λD σ H=>c σ H λb H1=>if b=true then t D σ H1 else u D σ H1
theorem zW {c:Expr} {a b:List Stmt} {tc:TT} (hc:PT X c tc) (ha:JO X a t) (hb:JO X b u):PS X (.If c a b pos) (Rb tc t u):=by
 intro pins s σ H D I h
 refine wpAny_If (qW (hc pins s σ H _ I h) λd s1 ⟨H1,I1,q1⟩=>?_)
 cases d with
 | true=>exact ha pins s1 σ H1 D I1 q1
 | false=>exact hb pins s1 σ H1 D I1 q1
def Rm:TS:=λ_ _ _=>False
end
abbrev TG:=V→St→Hp→(St→Hp→Prop)→Prop
abbrev Pz:=List V→St→Hp→(St→Hp→Prop)→Prop
def PG (X:Cx) (target:Expr) (t:TG):Prop:=
 ∀(pins:List (Addr × Obj)) (s:Ss) (σ:St) (H:Hp) (v:V) (u:Sr) (Q:St→Hp→Prop),Inv X pins σ H s→RelV v u→t v σ H Q→
  S6 (S4 X.prog X.w) X.A (assign target X.env u) (λ_ s'=>∃σ' H',Inv X pins σ' H' s'∧Q σ' H') X.xe s
def Df (X:Cx) (ts:List Expr) (t:Pz):Prop:=
 ∀(pins:List (Addr × Obj)) (s:Ss) (σ:St) (H:Hp) (vs:List V) (us:List Sr) (Q:St→Hp→Prop),Inv X pins σ H s→Vals vs us→t vs σ H Q→
  S6 (S4 X.prog X.w) X.A (assignInOrder ((Ik ts X.env).map (·.2)) us) (λ_ s'=>∃σ' H',Inv X pins σ' H' s'∧Q σ' H') X.xe s
abbrev HQ:=V→V→V→Hp→(Hp→Prop)→Prop
def Ha (X:Cx) (t:HQ):Prop:=
 ∀(pins:List (Addr × Obj)) (s:Ss) (σ:St) (H:Hp) (o i v:V) (ov iv u:Sr) (Q:Hp→Prop),Inv X pins σ H s→RelV o ov→RelV i iv→RelV v u→t o i v H Q→
  S6 (S4 X.prog X.w) X.A (setItem ov iv u) (λ_ s'=>∃H',Inv X pins σ H' s'∧Q H') X.xe s
abbrev Uk:=V→V→Hp→VK→Prop
def Sq (X:Cx) (op:Operator) (t:Uk):Prop:=
 ∀(pins:List (Addr × Obj)) (s:Ss) (σ:St) (H:Hp) (x y:V) (v u:Sr) (Q:VK),Inv X pins σ H s→RelV x v→RelV y u→t x y H Q→
  S6 (S4 X.prog X.w) X.A (inplaceOp op v u) (EP X pins σ Q) X.xe s
section
variable {X:Cx} {pos:Pos}
def zT (i:Nat):TG:=λv σ H Q=>Q (σ.set i (some v)) H
theorem zM {i:Nat} {x:Str} (hN:X.N.Nodup) (hi:X.N[i]?=some x) (hx:Loc X.env.scope x) (hf:X.fn x=true∨X.env.scope.names.lookup x=some .local:=by first | exact .inl rfl | exact .inr rfl | assumption):PG X (.Name x pos) (zT i):=by
 intro pins s σ H v u Q I r h
 exact Eu (uo I hN hi hx r (λs' I'=>⟨_,H,I',h⟩) hf)
def FC:Pz:=λvs σ H Q=>vs=[]∧Q σ H
def QD (t:TG) (u:Pz):Pz:=λvs σ H Q=>∃v r,vs=v :: r∧t v σ H λσ' H'=>u r σ' H' Q
theorem vE:Df X [] FC:=by
 intro pins s σ H vs us Q I r h
 obtain⟨e,h⟩:=h
 subst e
 cases r
 exact assignInOrder_nil ⟨σ,H,I,h⟩
theorem qu {e:Expr} {es:List Expr} {t:TG} {u:Pz} (h1:PG X e t) (h2:Df X es u)
  (hs:(Ik (e :: es) X.env).map (·.2)=assign e X.env :: (Ik es X.env).map (·.2):=by rfl):Df X (e :: es) (QD t u):=by
 intro pins s σ H vs us Q I r h
 obtain⟨v,vr,e1,h⟩:=h
 subst e1
 cases r with
 | cons r rr=>
  rw[hs]
  refine assignInOrder_cons (qW (h1 pins s σ H _ _ _ I r h) λ_ s1 ⟨σ1,H1,I1,q1⟩=>?_)
  exact h2 pins s1 σ1 H1 _ _ Q I1 rr q1
def FU (K:Sd) (n:Nat) (t:Pz):TG:=λv σ H Q=>∃a xs,v=.ref a∧jo K H a xs∧xs.length=n∧t xs σ H Q
theorem Ma {es:List Expr} {k:Nat} {t:Pz} {n:Nat} (hc:X.calm=true) (h:Df X es t)
  (hn:(Ik es X.env).length=n:=by rfl) (hst:(Ik es X.env).findIdx? (·.1)=none:=by rfl):PG X (.Tuple es k pos) (FU X.K n t):=by
 intro pins s σ H v u Q I r hw
 obtain⟨a,xs,e1,hq,hl,hw⟩:=hw
 subst e1
 cases r
 obtain⟨its,rv,ht,hz⟩:=I.tuple hq
 refine assign_Tuple_tuple (I.ok.hd hc) ht (by simp [hn,←hl,rv.length]) hst λh' hx=>?_
 have I1:Inv X pins σ H { s with heap:=h' }:=I.kept (t':=s.toks) λb o e=>hx b o (Ti (SO e)) e
 exact h pins _ σ H xs _ Q I1 (by simpa using rv) hw
def UH (to ti:TE) (t:HQ):TG:=λv σ H Q=>to σ H λo H1=>ti σ H1 λi H2=>t o i v H2 λH3=>Q σ H3
theorem vH {o i:Expr} {to ti:TE} {t:HQ} (ho:PE X o to) (hi:PE X i ti) (hs:Ha X t)
  (ha:∀v,assign (.Subscript o i pos) X.env v=(do
   let ov ←holding [v] (eval o X.env)
   let iv ←holding [v,ov] (eval i X.env)
   standAt pos
   holding [v,ov,iv] (setItem ov iv v)
   release [v,ov,iv] []):=by intro _;rfl):PG X (.Subscript o i pos) (UH to ti t):=by
 intro pins s σ H v u Q I r h
 rw[ha]
 refine SX (O8 (qW (ho pins s σ H _ I h) λov s1 ⟨x,H1,I1,r1,q1⟩=>?_))
 refine SX (O8 (qW (hi pins s1 σ H1 _ I1 q1) λiv s2 ⟨y,H2,I2,r2,q2⟩=>?_))
 refine SX (OP (SX (O8 (qW (hs pins s2 σ H2 x y v ov iv u _ I2 r1 r2 r q2) λ_ s3 ⟨H3,I3,q3⟩=>?_))))
 exact wpAny_release ⟨σ,H3,I3,q3⟩
def BO (te:TE) (g:TG):TS:=λD σ H=>te σ H λx H1=>g x σ H1 D.nx
theorem ku {tg e:Expr} {te:TE} {g:TG} (he:PE X e te) (hg:PG X tg g) (hs:swapsWithSole [tg] e pos.line X.env=pure false:=by rfl) (hw:swappedStores [tg] e X.env=pure none:=by rfl)
  (h1:(Ik [tg] X.env).map (·.2)=[assign tg X.env]:=by rfl):PS X (.Assign [tg] e pos) (BO te g):=by
 intro pins s σ H D I h
 refine wpAny_Assign_stores (qW (he pins s σ H _ I h) λv s1 ⟨x,H1,I1,r1,q1⟩=>?_) hs hw
 rw[h1]
 exact qW (hg pins s1 σ H1 x v _ I1 r1 q1) λ_ s2 q=>q
theorem za {i:Nat} {x:Str} {e:Expr} {te:TE} {pos':Pos} (hN:X.N.Nodup) (hi:X.N[i]?=some x) (hx:Loc X.env.scope x) (he:PE X e te) (hs:IE e (some (.Name x pos')) pos.line X.env=pure false:=by rfl) (hf:X.fn x=true∨X.env.scope.names.lookup x=some .local:=by first | exact .inl rfl | exact .inr rfl | assumption) :
  PS X (.Assign [.Name x pos'] e pos) (BO te (zT i)):=by
 intro pins s σ H D I h
 refine wpAny_Assign_Name (qW (he pins s σ H _ I h) λv s1 ⟨y,H1,I1,r1,q1⟩=>?_) hs
 exact uo I1 hN hi hx r1 (λs2 I2=>⟨_,H1,I2,q1⟩) hf
def L0 (i j:Nat) (ta:TA):TS:=λD σ H=>ta σ H λvs H1=>∃v w,vs=[v,w]∧D.nx ((σ.set i (some v)).set j (some w)) H1
def LU (i:Nat) (te:TE) (ti:Uk):TS:=λD σ H=>∃x,σ[i]?=some (some x)∧te σ H λy H1=>ti x y H1 λz H2=>D.nx (σ.set i (some z)) H2
def R0 (to ti te:TE) (tget:V→V→Hp→VK→Prop) (tip:Uk) (tset:HQ):TS:=λD σ H=>to σ H λo H1=>ti σ H1 λi H2=>tget o i H2 λx H3=>te σ H3 λy H4=>tip x y H4 λz H5=>tset o i z H5 λH6=>D.nx σ H6
def Lu (X:Cx) (t:V→V→Hp→VK→Prop):Prop:=
 ∀(pins:List (Addr × Obj)) (s:Ss) (σ:St) (H:Hp) (o i:V) (ov iv:Sr) (Q:VK),Inv X pins σ H s→RelV o ov→RelV i iv→t o i H Q→
  S6 (S4 X.prog X.w) X.A (getItem ov iv) (EP X pins σ Q) X.xe s
def Sk (f:Int→Int→Int):Uk:=λx y H Q=>∃i j,x=.int i∧y=.int j∧Q (.int (f i j)) H
end
section
variable {X:Cx} {pos:Pos}
def Rn (c:TT) (tb:TS):TS:=λD σ H=>∃W:Nat→St→Hp→Prop,(∃m,W m σ H)∧∀m σ H,W m σ H→
 c σ H λb H1=>if b=true then ∃N:St→Hp→Prop,(∀σ' H',N σ' H'→∃m',m' < m∧W m' σ' H')∧tb { D with nx:=N,ct:=N,bk:=D.nx } σ H1 else D.nx σ H1
end
structure It where
 go:Nat→Hp→Prop
 Hd:Nat→Hp→V→Hp→Prop
 stop:Nat→Hp→Prop
def wt (X:Cx) (pins:List (Addr × Obj)) (H:Hp) (b:Addr):Prop:=
 H b=none∧b≠X.env.locals∧b∉X.fs∧(b∈X.ex∨X.s₀.heap.objs.size≤b)∧(∀x c,X.env.cells.lookup x=some c→c≠b)∧∀p∈X.pn ++ pins,p.1≠b
theorem Inv.Zf {X:Cx} {pins:List (Addr × Obj)} {σ:St} {H H':Hp} {s:Ss} {b:Addr} (I:Inv X pins σ H s) (hb:s.heap.objs.size≤b) (hn:H' b=none):wt X pins H' b:=by
 refine⟨hn,O0 (Tn I.lt hb),I.UT hb,.inr (TV I.sz hb),λx c e z=>?_,λp hp z=>?_⟩
 ·obtain⟨v,q⟩:=I.cell x c e
  exact absurd (Tn q.lt (by rw[z];exact hb)) (N2 _)
 ·exact absurd (Tn (SO (I.pin p hp).1) (by rw[z];exact hb)) (N2 _)
structure Turn (P:SM) (w:Tj) (K:Sd) (tg:Expr) (J:It) (fp:List Addr) (it:Addr) (tn:Nat→Heap→Prop):Prop where
 mem:it∈fp
 obj:∀i h,tn i h→∀b∈fp,∃o,h.get? b=some o∧∀v,o.data≠.cell v
 keep:∀i h h',tn i h→(∀b∈fp,∀o,h.get? b=some o→h'.get? b=some o)→tn i h'
 item:∀(X:Cx),X.prog=P→X.w=w→X.K=K→X.calm=true→∀(i:Nat) (pins:List (Addr × Obj)) (s:Ss) (σ:St) (H:Hp) (E:Sr→Ss→Prop),Inv X pins σ H s→(∀b∈fp,wt X pins H b)→tn i s.heap→J.go i H→
  S6 (S4 P w) X.A (pyNext (.ref it)) (λr s1=>∃u,r=some u∧
   S6 (S4 P w) X.A (OY tg (.ref it) u) (λ_ s2=>∃x H',Inv X pins σ H' s2∧RelV x u∧J.Hd i H x H'∧tn (i + 1) s2.heap∧∀b∈fp,H' b=none) E s1) E s
 done:∀(X:Cx),X.prog=P→X.w=w→X.K=K→X.calm=true→∀(i:Nat) (pins:List (Addr × Obj)) (s:Ss) (σ:St) (H:Hp) (E:Sr→Ss→Prop),Inv X pins σ H s→(∀b∈fp,wt X pins H b)→tn i s.heap→J.stop i H→
  S6 (S4 P w) X.A (pyNext (.ref it)) (λr s1=>r=none∧Inv X pins σ H s1) E s
 self:∀(A:TM) (i:Nat) (s:Ss) (Q:Sr→Ss→Prop) (E:Sr→Ss→Prop),tn i s.heap→Q (.ref it) s→S6 (S4 P w) A (pyIter (.ref it)) Q E s
abbrev TI:=St→Hp→(It→Hp→Prop)→Prop
def RK (X:Cx) (pins:List (Addr × Obj)) (σ:St) (tg:Expr) (R:It→Hp→Prop) (itv:Sr) (s2:Ss):Prop:=
 ∃(it:Addr) (fp:List Addr) (tn:Nat→Heap→Prop) (J:It) (H':Hp),itv=.ref it∧Inv X pins σ H' s2∧Turn X.prog X.w X.K tg J fp it tn∧tn 0 s2.heap∧(∀b∈fp,wt X pins H' b)∧R J H'
def PI (X:Cx) (tg iter:Expr) (wi:TI):Prop:=
 ∀(pins:List (Addr × Obj)) (s:Ss) (σ:St) (H:Hp) (R:It→Hp→Prop),Inv X pins σ H s→wi σ H R→
  S6 (S4 X.prog X.w) X.A (eval iter X.env) (λv s1=>S6 (S4 X.prog X.w) X.A (pyIter v) (RK X pins σ tg R) X.xe s1) X.xe s
theorem eO {M:Model} {A:TM} {E:Sr→Ss→Prop} {s:Ss} {tg:Expr} {it:Addr} {u:Sr} {o:Obj} {n:String} {vs:Array Sr} {Q:Unit→Ss→Prop} (ho:s.heap.get? it=some o) (hc:o.cls=.type n) (hd:o.data=.fields vs)
  (hn:["enumerate","zip","dict_itemiterator","dict_reverseitemiterator","odict_iterator","itertools.zip_longest","itertools.pairwise"].contains n=false) (hQ:Q () s):S6 M A (OY tg (.ref it) u) Q E s:=by
 unfold OY
 cases tg<;>first
  | exact Td hQ
  | (cases u<;>first
    | exact Td hQ
    | (refine SX (wpAny_load ho ?_);rw[hc,hd];show S6 M A (if (["enumerate","zip","dict_itemiterator","dict_reverseitemiterator","odict_iterator","itertools.zip_longest","itertools.pairwise"].contains n && vs[0]? == some (rawInt _))=true then _ else _) Q E s;rw[if_neg (by intro h;rw[hn,zzC] at h;cases h)];exact Td hQ))
def He (K:Sd) (a:Addr):It:=
 ⟨λi H=>∃xs x,zK K H a xs∧xs[i]?=some x,λi H x H'=>H'=H∧∀xs,zK K H a xs→xs[i]?=some x,λi H=>∃xs,zK K H a xs∧xs.length≤i⟩
def DJ (K:Sd) (a:Addr):It:=
 ⟨λi H=>∃xs x,jo K H a xs∧xs[i]?=some x,λi H x H'=>H'=H∧∀xs,jo K H a xs→xs[i]?=some x,λi H=>∃xs,jo K H a xs∧xs.length≤i⟩
def WN (lo:Int) (n:Nat):It:=⟨λi _=>i < n,λi H x H'=>H'=H∧x=.int (lo + i),λi _=>n≤i⟩
theorem WY {P:SM} {w:Tj} {K:Sd} {tg:Expr} (a it:Addr):Turn P w K tg (He K a) [it] it (λi h=>h.IsListIter it a i) where
 mem:=by simp
 obj:=λi h st b hb=>by
  have e:b=it:=by simpa using hb
  subst e
  obtain⟨o,e,c,d⟩:=st
  exact⟨o,e,λv z=>by rw[d] at z;cases z⟩
 keep:=λi h h' st k=>st.at λo e=>k it (by simp) o e
 item:=by
  intro X hP hw hK hc i pins s σ H E I hf st hg
  subst hP hw hK
  obtain⟨xs,x,hq,hx⟩:=hg
  obtain⟨its,rv,p,hz⟩:=I.list hq
  obtain⟨u,hu,ru⟩:=rv.get hx
  obtain⟨f0,f1,f2,f3,f4,f5⟩:=hf it (by simp)
  refine ER st p.isList (x:=u) (by simpa using hu) λh' st' sb=>?_
  have I1:Inv X pins σ H { s with heap:=h' }:=I.turned (t':=s.toks) (λb o hb e=>(sb.2 b hb).trans e) f0 f1 f3 f4 f5
  obtain⟨o,e,c,d⟩:=id st'
  exact⟨u,rfl,eO (s:={ s with heap:=h' }) e c d (by decide) ⟨x,H,I1,ru,⟨rfl,λys hy=>by rw[I.nM hy hq];exact hx⟩,st',λb hb=>(hf b hb).1⟩⟩
 done:=by
  intro X hP hw hK hc i pins s σ H E I hf st hg
  subst hP hw hK
  obtain⟨xs,hq,hx⟩:=hg
  obtain⟨its,rv,p,hz⟩:=I.list hq
  obtain⟨f0,f1,f2,f3,f4,f5⟩:=hf it (by simp)
  have hl:=rv.length
  exact Ax (I.ok.hd hc) st p.isList (by simp;omega) λh' eb=>⟨rfl,I.turned (t':=s.toks) (λb o hb e=>eb b o hb e) f0 f1 f3 f4 f5⟩
 self:=λ_ _ _ _ _ st h=>wpAny_pyIter_listiter st h
theorem Kv {P:SM} {w:Tj} {K:Sd} {tg:Expr} (a it:Addr):Turn P w K tg (DJ K a) [it] it (λi h=>h.IsTupleIter it a i) where
 mem:=by simp
 obj:=λi h st b hb=>by
  have e:b=it:=by simpa using hb
  subst e
  obtain⟨o,e,c,d⟩:=st
  exact⟨o,e,λv z=>by rw[d] at z;cases z⟩
 keep:=λi h h' st k=>st.at λo e=>k it (by simp) o e
 item:=by
  intro X hP hw hK hc i pins s σ H E I hf st hg
  subst hP hw hK
  obtain⟨xs,x,hq,hx⟩:=hg
  obtain⟨its,rv,p,hz⟩:=I.tuple hq
  obtain⟨u,hu,ru⟩:=rv.get hx
  obtain⟨f0,f1,f2,f3,f4,f5⟩:=hf it (by simp)
  refine wpAny_pyNext_tuple_item st (show s.heap.IsTuple a its.toArray from p) (x:=u) (by simpa using hu) λh' st' sb=>?_
  have I1:Inv X pins σ H { s with heap:=h' }:=I.turned (t':=s.toks) (λb o hb e=>(sb.2 b hb).trans e) f0 f1 f3 f4 f5
  obtain⟨o,e,c,d⟩:=id st'
  exact⟨u,rfl,eO (s:={ s with heap:=h' }) e c d (by decide) ⟨x,H,I1,ru,⟨rfl,λys hy=>by rw[I.WV hy hq];exact hx⟩,st',λb hb=>(hf b hb).1⟩⟩
 done:=by
  intro X hP hw hK hc i pins s σ H E I hf st hg
  subst hP hw hK
  obtain⟨xs,hq,hx⟩:=hg
  obtain⟨its,rv,p,hz⟩:=I.tuple hq
  obtain⟨f0,f1,f2,f3,f4,f5⟩:=hf it (by simp)
  have hl:=rv.length
  exact wpAny_pyNext_tuple_end (I.ok.hd hc) st (show s.heap.IsTuple a its.toArray from p) (by simp;omega) λh' eb=>⟨rfl,I.turned (t':=s.toks) (λb o hb e=>eb b o hb e) f0 f1 f3 f4 f5⟩
 self:=λ_ _ _ _ _ st h=>wpAny_pyIter_tupleiter st h
theorem Kk {P:SM} {w:Tj} {K:Sd} {tg:Expr} (it:Addr) (lo:Int) (n:Nat):Turn P w K tg (WN lo n) [it] it (λi h=>IsRangeIter h it (lo + (i:Nat) * 1) ((n:Int) - (i:Nat)) 1) where
 mem:=by simp
 obj:=λi h st b hb=>by
  have e:b=it:=by simpa using hb
  subst e
  exact⟨_,st,λv z=>by
   have z':Data.fields _=Data.cell v:=z
   cases z'⟩
 keep:=λi h h' st k=>k it (by simp) _ st
 item:=by
  intro X hP hw hK hc i pins s σ H E I hf st hg
  subst hP hw hK
  obtain⟨f0,f1,f2,f3,f4,f5⟩:=hf it (by simp)
  have W:=Walks.range (prog:=X.prog) (w:=X.w) (I.ok.hd hc) it lo 1 n
  refine W.item i s _ _ hg st λv h' tk hv st' kk=>?_
  obtain⟨t,rfl⟩:=hv
  have I1:Inv X pins σ H { s with heap:=h',toks:=tk }:=I.turned (λb o hb e=>kk b o (by simpa using hb) e) f0 f1 f3 f4 f5
  refine⟨_,rfl,eO (s:={ s with heap:=h',toks:=tk }) (n:="range_iterator") st' rfl rfl (by decide) ⟨.int (lo + i),H,I1,⟨t,?_⟩,⟨rfl,rfl⟩,st',λb hb=>(hf b hb).1⟩⟩
  rw[Int.mul_one]
 done:=by
  intro X hP hw hK hc i pins s σ H E I hf st hg
  subst hP hw hK
  obtain⟨f0,f1,f2,f3,f4,f5⟩:=hf it (by simp)
  exact wpAny_pyNext_range_end (I.ok.hd hc) st (by have:n≤i:=hg;omega) λh' eb=>⟨rfl,I.turned (t':=s.toks) (λb o hb e=>eb b o hb e) f0 f1 f3 f4 f5⟩
 self:=λ_ _ _ _ _ st h=>wpAny_pyIter_rangeiter st h
end L2
namespace L2
open PySem PySem.Spec PyProof.Rows
section
variable {X:Cx} {tg:Expr}
def Pw (K:Sd) (tl:TE):TI:=λσ H R=>tl σ H λx H1=>∃a,x=.ref a∧(∃xs,zK K H1 a xs)∧R (He K a) H1
def D4 (K:Sd) (tl:TE):TI:=λσ H R=>tl σ H λx H1=>∃a,x=.ref a∧(∃xs,jo K H1 a xs)∧R (DJ K a) H1
theorem BJ {l:Expr} {tl:TE} (hl:PE X l tl):PI X tg l (Pw X.K tl):=by
 intro pins s σ H R I h
 refine qW (hl pins s σ H _ I h) λv s1 ⟨x,H1,I1,r1,q1⟩=>?_
 obtain⟨a,e,⟨xs,hq⟩,q⟩:=q1
 subst e
 cases r1
 obtain⟨its,rv,p,hz⟩:=I1.list hq
 refine Er p.isList ?_
 refine⟨s1.heap.objs.size,[s1.heap.objs.size],_,_,H1,rfl,I1.kept (t':=s1.toks) λb o e=>SQ _ e,WY a _,⟨_,To _ rfl,rfl,rfl⟩,λb hb=>?_,q⟩
 have e:b=s1.heap.objs.size:=by simpa using hb
 subst e
 exact I1.Zf (SD _) (I1.z8.fresh (SD _))
theorem MQ {l:Expr} {tl:TE} (hl:PE X l tl):PI X tg l (D4 X.K tl):=by
 intro pins s σ H R I h
 refine qW (hl pins s σ H _ I h) λv s1 ⟨x,H1,I1,r1,q1⟩=>?_
 obtain⟨a,e,⟨xs,hq⟩,q⟩:=q1
 subst e
 cases r1
 obtain⟨its,rv,p,hz⟩:=I1.tuple hq
 refine wpAny_pyIter_tuple (show s1.heap.IsTuple a its.toArray from p) ?_
 refine⟨s1.heap.objs.size,[s1.heap.objs.size],_,_,H1,rfl,I1.kept (t':=s1.toks) λb o e=>SQ _ e,Kv a _,⟨_,To _ rfl,rfl,rfl⟩,λb hb=>?_,q⟩
 have e:b=s1.heap.objs.size:=by simpa using hb
 subst e
 exact I1.Zf (SD _) (I1.z8.fresh (SD _))
theorem Ju {pins:List (Addr × Obj)} {σ:St} {H:Hp} {s:Ss} {R:It→Hp→Prop} {E:Sr→Ss→Prop} {lo hi:Int} {t u v:Tok} {tk:Nat} (I:Inv X pins σ H s) (h1:-(2 ^ 62)≤lo) (h2:lo < 2 ^ 62) (h3:-(2 ^ 62)≤hi) (h4:hi < 2 ^ 62)
  (q:R (WN lo (hi - lo).toNat) H):S6 (S4 X.prog X.w) X.A (pyIter (.ref s.heap.objs.size)) (RK X pins σ tg R) E { s with heap:=s.heap.push { cls:=.type "range",data:=.fields #[.int lo t,.int hi u,.int 1 v] },toks:=tk }:=by
 refine wpAny_pyIter_range (IsRange.new ..) (small_one h1 h2 h3 h4) ?_
 have I1:Inv X pins σ H { s with heap:=s.heap.push { cls:=.type "range",data:=.fields #[.int lo t,.int hi u,.int 1 v] },toks:=tk }:=I.kept λb o e=>SQ _ e
 refine⟨(s.heap.push { cls:=.type "range",data:=.fields #[.int lo t,.int hi u,.int 1 v] }).objs.size,[(s.heap.push { cls:=.type "range",data:=.fields #[.int lo t,.int hi u,.int 1 v] }).objs.size],_,_,H,rfl,
  I1.kept (t':=tk) λb o e=>SQ _ e,Kk _ lo (hi - lo).toNat,?_,λb hb=>?_,q⟩
 ·have e1:lo + ((0:Nat):Int) * 1=lo:=by simp
  have e2:(((hi - lo).toNat:Nat):Int) - ((0:Nat):Int)=zqu lo hi 1:=by rw[rangeSize_one];split<;>omega
  show IsRangeIter _ _ (lo + ((0:Nat):Int) * 1) ((((hi - lo).toNat:Nat):Int) - ((0:Nat):Int)) 1
  rw[e1,e2]
  exact To _ rfl
 ·have e:b=(s.heap.push { cls:=.type "range",data:=.fields #[.int lo t,.int hi u,.int 1 v] }).objs.size:=by simpa using hb
  subst e
  exact I1.Zf (SD _) (I1.z8.fresh (SD _))
def D1 (ta:TA):TI:=λσ H R=>ta σ H λvs H1=>∃j:Int,vs=[.int j]∧-(2 ^ 62)≤j∧j < 2 ^ 62∧R (WN 0 j.toNat) H1
def D3 (ta:TA):TI:=λσ H R=>ta σ H λvs H1=>∃i j:Int,vs=[.int i,.int j]∧(-(2 ^ 62)≤i∧i < 2 ^ 62∧-(2 ^ 62)≤j∧j < 2 ^ 62)∧R (WN i (j - i).toNat) H1
theorem xM {a:Expr} {ta:TA} {p pos:Pos} (hg:Gl X "range") (hm:X.mg "range" = none) (ha:PA X [a] ta) (hs:Tc [a] X.env=[(false,eval a X.env)]:=by rfl):PI X tg (.Call (.Name "range" p) [a] [] pos) (D1 ta):=by
 intro pins s σ H R I h
 refine Call_ (rq I hg hm boot_range (N0 (qW (ha pos pins s σ H _ I h) λus s1 ⟨vs,H1,I1,r1,q1⟩=>?_) hs rfl))
 obtain⟨j,e,q1,q2,q⟩:=q1
 subst e
 cases r1 with
 | cons r rr=>
  cases rr
  obtain⟨t,rfl⟩:=r
  exact call_range_1 (Ju I1 (by omega) (by omega) q1 q2 (by simpa using q))
theorem Wy {a b:Expr} {ta:TA} {p pos:Pos} (hg:Gl X "range") (hm:X.mg "range" = none) (ha:PA X [a,b] ta) (hs:Tc [a,b] X.env=[(false,eval a X.env),(false,eval b X.env)]:=by rfl) (hs2:Tc [b] X.env=[(false,eval b X.env)]:=by rfl) :
  PI X tg (.Call (.Name "range" p) [a,b] [] pos) (D3 ta):=by
 intro pins s σ H R I h
 refine Call_ (rq I hg hm boot_range (N0 (qW (ha pos pins s σ H _ I h) λus s1 ⟨vs,H1,I1,r1,q1⟩=>?_) (by rw[hs,hs2]) (by rw[hs2];rfl)))
 obtain⟨i,j,e,⟨q1,q2,q3,q4⟩,q⟩:=q1
 subst e
 cases r1 with
 | cons r rr=>
  cases rr with
  | cons r' rr=>
   cases rr
   obtain⟨t,rfl⟩:=r
   obtain⟨t',rfl⟩:=r'
   exact call_range_2 (Ju I1 q1 q2 q3 q4 q)
def Rh (wi:TI) (g:TG) (tb:TS):TS:=λD σ H=>wi σ H λJ H1=>∃W:Nat→Nat→St→Hp→Prop,(∃m,W 0 m σ H1)∧∀i m σ H,W i m σ H→
 (J.stop i H∧D.nx σ H)∨(J.go i H∧∃N:St→Hp→Prop,(∀σ' H',N σ' H'→∃m',m' < m∧W (i + 1) m' σ' H')∧∀x H',J.Hd i H x H'→g x σ H' λσ2 H2=>tb { D with nx:=N,ct:=N,bk:=D.nx } σ2 H2)
def dU (fp:List Addr) (h:Heap):List (Addr × Obj):=fp.filterMap λb=>(h.get? b).map λo=>(b,o)
theorem xQ {fp:List Addr} {h:Heap} {b:Addr} {o:Obj} (hb:b∈fp) (e:h.get? b=some o):(b,o)∈dU fp h:=AL.mpr ⟨b,hb,by rw[e];rfl⟩
theorem V6 {fp:List Addr} {h:Heap} {p:Addr × Obj} (hp:p∈dU fp h):p.1∈fp∧h.get? p.1=some p.2:=by
 obtain⟨b,hb,e⟩:=AL.mp hp
 cases q:h.get? b with
 | none=>rw[q] at e;cases e
 | some o=>
  rw[q] at e
  have e':(b,o)=p:=Tq e
  subst e'
  exact⟨hb,q⟩
theorem Inv.pinned {pins:List (Addr × Obj)} {σ:St} {H:Hp} {s:Ss} {fp:List Addr} (I:Inv X pins σ H s) (hf:∀b∈fp,wt X pins H b) (ho:∀b∈fp,∃o,s.heap.get? b=some o∧∀v,o.data≠.cell v):Inv X (pins ++ dU fp s.heap) σ H s:=
 I.fM λp hp=>(SI.mp hp).elim (λz=>I.pin p (SU _ z)) λz=>by
  obtain⟨hb,e⟩:=V6 z
  obtain⟨f0,f1,f2,_⟩:=hf p.1 hb
  obtain⟨o,e',d⟩:=ho p.1 hb
  rw[e] at e';cases e'
  exact⟨e,f0,f1,f2,d⟩
theorem Inv.je {pins pl:List (Addr × Obj)} {σ:St} {H:Hp} {s:Ss} (I:Inv X (pins ++ pl) σ H s):Inv X pins σ H s:=I.fM λp hp=>I.pin p (SU _ (TZ _ hp))
theorem jg {iter:Expr} {body:List Stmt} {wi:TI} {g:TG} {tb:TS} {pos:Pos} (hp:PassesOwn (S4 X.prog X.w) X.A X.env X.xe) (hc:X.calm=true) (hi:PI X tg iter wi) (hg:PG X tg g) (hb:JO X body tb)
  (hs:∀x,Oy iter X.env x=pure x:=by intro _;rfl):PS X (.For tg iter body [] pos) (Rh wi g tb):=by
 intro pins s σ H D I h
 refine wpAny_For (qW (hi pins s σ H _ I h) λv s1 h1=>qW h1 λitv s2 h2=>?_) hs
 obtain⟨it,fp,tn,J,H2,e,I2,T,st2,f2,W,⟨m0,w0⟩,turn⟩:=h2
 subst e
 have stat:∀{H':Hp},(∀b∈fp,H' b=none)→∀b∈fp,wt X pins H' b:=λhn b hb=>⟨hn b hb,(f2 b hb).2⟩
 refine AV (λn s'=>∃i σ' H',Inv X pins σ' H' s'∧tn i s'.heap∧(∀b∈fp,H' b=none)∧W i n σ' H') ?_ m0 ⟨0,σ,H2,I2,st2,λb hb=>(f2 b hb).1,w0⟩
 rintro n s3 ⟨i,σ3,H3,I3,st3,fr3,w3⟩
 rcases turn i n σ3 H3 w3 with ⟨stop,qn⟩ | ⟨go,N,hN,step⟩
 ·refine NX hp (qW (T.done X rfl rfl rfl hc i pins s3 σ3 H3 X.xe I3 (stat fr3) st3 stop) λr s4 ⟨hr,I4⟩=>?_)
  subst hr
  exact IB ⟨σ3,H3,I4,qn⟩
 ·refine NX hp (qW (T.item X rfl rfl rfl hc i pins s3 σ3 H3 X.xe I3 (stat fr3) st3 go) λr s4 ⟨u,hr,h4⟩=>?_)
  subst hr
  refine NX hp (qW h4 λ_ s5 ⟨x,H5,I5,r5,y5,st5,fr5⟩=>?_)
  have I5':=I5.pinned (stat fr5) (T.obj _ _ st5)
  refine NX hp (qW (hg _ s5 σ3 H5 x u _ I5' r5 (step x H5 y5)) λ_ s6 ⟨σ6,H6,I6,q6⟩=>?_)
  refine NX hp (qW (hb _ s6 σ6 H6 _ I6 q6) λf s7 q7=>?_)
  have again:∀{σ7:St} {H7:Hp},Inv X (pins ++ dU fp s5.heap) σ7 H7 s7→N σ7 H7→∃m,m < n∧∃i σ' H',Inv X pins σ' H' s7∧tn i s7.heap∧(∀b∈fp,H' b=none)∧W i m σ' H':=λ{σ7 H7} I7 n7=>by
   obtain⟨m',hm,w7⟩:=hN σ7 H7 n7
   refine⟨m',hm,i + 1,σ7,H7,I7.je,T.keep _ _ _ st5 λb hb o e=>(I7.pin (b,o) (SU _ (SU _ (xQ hb e)))).1,λb hb=>?_,w7⟩
   obtain⟨o,e,d⟩:=T.obj _ _ st5 b hb
   exact(I7.pin (b,o) (SU _ (SU _ (xQ hb e)))).2.1
  cases f with
  | next=>obtain⟨σ7,H7,I7,n7⟩:=q7;exact again I7 n7
  | cont=>obtain⟨σ7,H7,I7,n7⟩:=q7;exact again I7 n7
  | brk=>obtain⟨σ7,H7,I7,q7⟩:=q7;exact⟨σ7,H7,I7.je,q7⟩
  | ret v=>obtain⟨x7,σ7,H7,I7,r7,q7⟩:=q7;exact⟨x7,σ7,H7,I7.je,r7,q7⟩
end
theorem xr {K:Sd} {a:Addr} {xs:List V} {g:TG} {tb:TS} {D:Ends} {σ:St} {H:Hp} (Pv:Nat→St→Hp→Prop) (h0:Pv 0 σ H) (hl:∀i σ H,i≤xs.length→Pv i σ H→zK K H a xs)
  (hs:∀i x σ H,xs[i]?=some x→Pv i σ H→g x σ H λσ2 H2=>tb { D with nx:=Pv (i + 1),ct:=Pv (i + 1),bk:=D.nx } σ2 H2) (hd:∀σ H,Pv xs.length σ H→D.nx σ H) :
  ∃W:Nat→Nat→St→Hp→Prop,(∃m,W 0 m σ H)∧∀i m σ H,W i m σ H→
   ((He K a).stop i H∧D.nx σ H)∨((He K a).go i H∧∃N:St→Hp→Prop,(∀σ' H',N σ' H'→∃m',m' < m∧W (i + 1) m' σ' H')∧∀x H',(He K a).Hd i H x H'→g x σ H' λσ2 H2=>tb { D with nx:=N,ct:=N,bk:=D.nx } σ2 H2):=by
 refine⟨λi m σ H=>m=xs.length - i∧i≤xs.length∧Pv i σ H,⟨xs.length,by simp,Tr _,h0⟩,?_⟩
 rintro i m σ H ⟨rfl,hi,p⟩
 have q:=hl i σ H hi p
 by_cases hlt:i < xs.length
 ·refine .inr ⟨⟨xs,xs[i],q,by simp [hlt]⟩,Pv (i + 1),λσ' H' p'=>⟨xs.length - (i + 1),by omega,rfl,hlt,p'⟩,λx H' y=>?_⟩
  obtain⟨e,y⟩:=y
  subst e
  exact hs i x σ _ (y xs q) p
 ·have e:i=xs.length:=by omega
  subst e
  exact .inl ⟨⟨xs,q,SD _⟩,hd σ H p⟩
theorem HI {K:Sd} {a:Addr} {xs:List V} {g:TG} {tb:TS} {D:Ends} {σ:St} {H:Hp} (Pv:Nat→St→Hp→Prop) (h0:Pv 0 σ H) (hl:∀i σ H,i≤xs.length→Pv i σ H→jo K H a xs)
  (hs:∀i x σ H,xs[i]?=some x→Pv i σ H→g x σ H λσ2 H2=>tb { D with nx:=Pv (i + 1),ct:=Pv (i + 1),bk:=D.nx } σ2 H2) (hd:∀σ H,Pv xs.length σ H→D.nx σ H) :
  ∃W:Nat→Nat→St→Hp→Prop,(∃m,W 0 m σ H)∧∀i m σ H,W i m σ H→
   ((DJ K a).stop i H∧D.nx σ H)∨((DJ K a).go i H∧∃N:St→Hp→Prop,(∀σ' H',N σ' H'→∃m',m' < m∧W (i + 1) m' σ' H')∧∀x H',(DJ K a).Hd i H x H'→g x σ H' λσ2 H2=>tb { D with nx:=N,ct:=N,bk:=D.nx } σ2 H2):=by
 refine⟨λi m σ H=>m=xs.length - i∧i≤xs.length∧Pv i σ H,⟨xs.length,by simp,Tr _,h0⟩,?_⟩
 rintro i m σ H ⟨rfl,hi,p⟩
 have q:=hl i σ H hi p
 by_cases hlt:i < xs.length
 ·refine .inr ⟨⟨xs,xs[i],q,by simp [hlt]⟩,Pv (i + 1),λσ' H' p'=>⟨xs.length - (i + 1),by omega,rfl,hlt,p'⟩,λx H' y=>?_⟩
  obtain⟨e,y⟩:=y
  subst e
  exact hs i x σ _ (y xs q) p
 ·have e:i=xs.length:=by omega
  subst e
  exact .inl ⟨⟨xs,q,SD _⟩,hd σ H p⟩
theorem kG {lo:Int} {n:Nat} {g:TG} {tb:TS} {D:Ends} {σ:St} {H:Hp} (Pv:Nat→St→Hp→Prop) (h0:Pv 0 σ H)
  (hs:∀i σ H,i < n→Pv i σ H→g (.int (lo + i)) σ H λσ2 H2=>tb { D with nx:=Pv (i + 1),ct:=Pv (i + 1),bk:=D.nx } σ2 H2) (hd:∀σ H,Pv n σ H→D.nx σ H) :
  ∃W:Nat→Nat→St→Hp→Prop,(∃m,W 0 m σ H)∧∀i m σ H,W i m σ H→
   ((WN lo n).stop i H∧D.nx σ H)∨((WN lo n).go i H∧∃N:St→Hp→Prop,(∀σ' H',N σ' H'→∃m',m' < m∧W (i + 1) m' σ' H')∧∀x H',(WN lo n).Hd i H x H'→g x σ H' λσ2 H2=>tb { D with nx:=N,ct:=N,bk:=D.nx } σ2 H2):=by
 refine⟨λi m σ H=>m=n - i∧i≤n∧Pv i σ H,⟨n,by simp,Tr _,h0⟩,?_⟩
 rintro i m σ H ⟨rfl,hi,p⟩
 by_cases hlt:i < n
 ·refine .inr ⟨hlt,Pv (i + 1),λσ' H' p'=>⟨n - (i + 1),by omega,rfl,hlt,p'⟩,λx H' y=>?_⟩
  obtain⟨e,y⟩:=y
  subst e y
  exact hs i σ _ hlt p
 ·have e:i=n:=by omega
  subst e
  exact .inl ⟨SD _,hd σ H p⟩
end L2
namespace L2
open PySem PySem.Spec PyProof.Rows
abbrev R2:=V→V→Hp→VK→Prop
def bM (X:Cx) (f:Sr→Sr→Sem Sr) (r:R2):Prop:=
 ∀(pins:List (Addr × Obj)) (s:Ss) (σ:St) (H:Hp) (x y:V) (v u:Sr) (Q:VK),Inv X pins σ H s→RelV x v→RelV y u→r x y H Q→
  S6 (S4 X.prog X.w) X.A (f v u) (EP X pins σ Q) X.xe s
def Ua (X:Cx) (f:Sr→Sem Sr) (r:V→Hp→VK→Prop):Prop:=
 ∀(pins:List (Addr × Obj)) (s:Ss) (σ:St) (H:Hp) (x:V) (v:Sr) (Q:VK),Inv X pins σ H s→RelV x v→r x H Q→
  S6 (S4 X.prog X.w) X.A (f v) (EP X pins σ Q) X.xe s
def xI (X:Cx) (f:Sr) (r:List V→Hp→VK→Prop):Prop:=
 ∀(pins:List (Addr × Obj)) (s:Ss) (σ:St) (H:Hp) (xs:List V) (us:List Sr) (Q:VK),Inv X pins σ H s→Vals xs us→r xs H Q→
  S6 (S4 X.prog X.w) X.A (call f us) (EP X pins σ Q) X.xe s
def Ls (X:Cx) (r:V→Hp→(Bool→Hp→Prop)→Prop):Prop:=
 ∀(pins:List (Addr × Obj)) (s:Ss) (σ:St) (H:Hp) (x:V) (v:Sr) (Q:Bool→Hp→Prop),Inv X pins σ H s→RelV x v→r x H Q→
  S6 (S4 X.prog X.w) X.A (truthy v) (TP X pins σ Q) X.xe s
def M9 (r:R2) (ta tb:TE):TE:=λσ H Q=>ta σ H λx H1=>tb σ H1 λy H2=>r x y H2 Q
def L5 (r:V→Hp→VK→Prop) (ta:TE):TE:=λσ H Q=>ta σ H λx H1=>r x H1 Q
def rI (C:Int→Int→Prop) (g:Int→Int→V):R2:=λx y H Q=>∃i j,x=.int i∧y=.int j∧C i j∧Q (g i j) H
def MG (g:Int→Int→V):R2:=λx y H Q=>∃i j,x=.int i∧y=.int j∧Q (g i j) H
def rU (g:Int→V):V→Hp→VK→Prop:=λx H Q=>∃i,x=.int i∧Q (g i) H
section
variable {X:Cx} {a b c:Expr} {ta tb tc:TE} {pos:Pos}
theorem Fn (ha:PE X a ta) (hb:PE X b tb) {pins:List (Addr × Obj)} {s:Ss} {σ:St} {H:Hp} {R:V→V→Hp→Prop} (I:Inv X pins σ H s)
  (h:ta σ H λx H1=>tb σ H1 λy H2=>R x y H2) {Q:Sr→Ss→Prop} {f:Sr→Sr→Sem Sr}
  (hf:∀v u s2 x y H2,Inv X pins σ H2 s2→RelV x v→RelV y u→R x y H2→S6 (S4 X.prog X.w) X.A (f v u) Q X.xe s2) :
  S6 (S4 X.prog X.w) X.A (eval a X.env) (λv s₁=>S6 (S4 X.prog X.w) X.A (eval b X.env) (λu s₂=>S6 (S4 X.prog X.w) X.A (f v u) Q X.xe s₂) X.xe s₁) X.xe s:=by
 refine qW (ha pins s σ H _ I h) λv s1 ⟨x,H1,I1,r1,q1⟩=>?_
 refine qW (hb pins s1 σ H1 _ I1 q1) λu s2 ⟨y,H2,I2,r2,q2⟩=>?_
 exact hf v u s2 x y H2 I2 r1 r2 q2
theorem zi {op:Operator} {r:R2} (ho:bM X (O9 op) r) (ha:PE X a ta) (hb:PE X b tb):PE X (.BinOp a op b pos) (M9 r ta tb):=by
 intro pins s σ H Q I h
 exact wpAny_BinOp (Fn ha hb I h λv u s2 x y H2 I2 rx ry q=>ho pins s2 σ H2 x y v u Q I2 rx ry q)
theorem c8 {op:UnaryOp} {r:V→Hp→VK→Prop} (ho:Ua X (unaryOp op) r) (ha:PE X a ta):PE X (.UnaryOp op a pos) (L5 r ta):=by
 intro pins s σ H Q I h
 exact UnaryOp_ (qW (ha pins s σ H _ I h) λv s1 ⟨x,H1,I1,r1,q1⟩=>ho pins s1 σ H1 x v Q I1 r1 q1)
theorem Uy {f:Sr→Sr→Sem Sr} {C:Int→Int→Prop} {g:Int→Int→Int}
  (rule:∀(i j:Int) (t u:Tok) (s:Ss) (Q:Sr→Ss→Prop) (E:Sr→Ss→Prop),C i j→Q (.int (g i j) s.toks) { s with toks:=s.toks + 1 }→S6 (S4 X.prog X.w) X.A (f (.int i t) (.int j u)) Q E s) :
  bM X f (rI C λi j=>.int (g i j)):=by
 intro pins s σ H x y v u Q I rx ry h
 obtain⟨i,j,rfl,rfl,hc,q⟩:=h
 obtain⟨t,rfl⟩:=rx
 obtain⟨t',rfl⟩:=ry
 exact rule i j t t' s _ _ hc ⟨.int (g i j),H,I.tok _,⟨_,rfl⟩,q⟩
theorem Cf {f:Sr→Sr→Sem Sr} {g:Int→Int→Int}
  (rule:∀(i j:Int) (t u:Tok) (s:Ss) (Q:Sr→Ss→Prop) (E:Sr→Ss→Prop),Q (.int (g i j) s.toks) { s with toks:=s.toks + 1 }→S6 (S4 X.prog X.w) X.A (f (.int i t) (.int j u)) Q E s) :
  bM X f (MG λi j=>.int (g i j)):=by
 intro pins s σ H x y v u Q I rx ry h
 obtain⟨i,j,rfl,rfl,q⟩:=h
 obtain⟨t,rfl⟩:=rx
 obtain⟨t',rfl⟩:=ry
 exact rule i j t t' s _ _ ⟨.int (g i j),H,I.tok _,⟨_,rfl⟩,q⟩
theorem Mp {f:Sr→Sr→Sem Sr} {g:Int→Int→Bool}
  (rule:∀(i j:Int) (t u:Tok) (s:Ss) (Q:Sr→Ss→Prop) (E:Sr→Ss→Prop),Q (.bool (g i j)) s→S6 (S4 X.prog X.w) X.A (f (.int i t) (.int j u)) Q E s) :
  bM X f (MG λi j=>.bl (g i j)):=by
 intro pins s σ H x y v u Q I rx ry h
 obtain⟨i,j,rfl,rfl,q⟩:=h
 obtain⟨t,rfl⟩:=rx
 obtain⟨t',rfl⟩:=ry
 exact rule i j t t' s _ _ ⟨.bl (g i j),H,I,rfl,q⟩
def Ur (i j:Int):Prop:=0 < j∧j < 1073741824
def Ra (i j:Int):Prop:=j≠0∧j.natAbs < 1073741824
def Ul (i j:Int):Prop:=0≤j∧j≤1000000∧i.natAbs < 2 ^ 64
def Ff (i j:Int):Prop:=(-(2 ^ 64) < i∧i < 2 ^ 64)∨(-(2 ^ 64) < j∧j < 2 ^ 64)
theorem Ff.ok {i j:Int} (h:Ff i j):IntMulOk i j:=by
 rcases h with ⟨h1,h2⟩ | ⟨h1,h2⟩
 ·exact .of_left (intBits_le_64 h1 h2)
 ·exact .of_right (intBits_le_64 h1 h2)
theorem qp:bM X (O9 .Add) (MG λi j=>.int (i + j)):=Cf λ_ _ _ _ _ _ _ q=>add_int q
theorem dD:bM X (O9 .Sub) (MG λi j=>.int (i - j)):=Cf λ_ _ _ _ _ _ _ q=>sub_int q
theorem kh:bM X (O9 .Mult) (rI Ff λi j=>.int (i * j)):=Uy λ_ _ _ _ _ _ _ hc q=>mul_int q hc.ok
theorem qQ:bM X (O9 .FloorDiv) (rI Ur λi j=>.int (i / j)):=Uy λi j _ _ _ _ _ hc q=>by
 have h1:(0:Int) < j:=hc.1
 have h2:j < 1073741824:=hc.2
 exact floordiv_int (by omega) (by rw[Int.fdiv_eq_ediv_of_nonneg i (by omega)];exact q) (.inl (PyProof.noPylong_small (by omega)))
theorem z7:bM X (O9 .Mod) (rI (λ_ j=>0 < j) λi j=>.int (i % j)):=Uy λi j _ _ _ _ _ hc q=>by
 have h1:(0:Int) < j:=hc
 exact mod_int' (by omega) (by rw[Int.fmod_eq_emod_of_nonneg i (by omega)];exact q)
theorem Mc:bM X (O9 .Pow) (rI Ul λi j=>.int (i ^ j.toNat)):=Uy λ_ _ _ _ _ _ _ hc q=>pow_int_small hc.1 hc.2.1 hc.2.2 q
theorem L8 {f:Sr→Sem Sr} {g:Int→Int}
  (rule:∀(i:Int) (t:Tok) (s:Ss) (Q:Sr→Ss→Prop) (E:Sr→Ss→Prop),Q (.int (g i) s.toks) { s with toks:=s.toks + 1 }→S6 (S4 X.prog X.w) X.A (f (.int i t)) Q E s) :
  Ua X f (rU λi=>.int (g i)):=by
 intro pins s σ H x v Q I rx h
 obtain⟨i,rfl,q⟩:=h
 obtain⟨t,rfl⟩:=rx
 exact rule i t s _ _ ⟨.int (g i),H,I.tok _,⟨_,rfl⟩,q⟩
theorem bj:Ua X (unaryOp .USub) (rU λi=>.int (-i)):=L8 λ_ _ _ _ _ q=>neg_int q
end
def CG:V→V→Bool
 | .non,.non=>true | .non,.int _=>true | .int _,.non=>true | .non,.bl _=>true | .bl _,.non=>true | .non,.str _=>true | .str _,.non=>true
 | .int _,.int _=>true | .bl _,.bl _=>true | .str _,.str _=>true | .byt _,.byt _=>true
 | .int _,.str _=>true | .str _,.int _=>true | .bl _,.str _=>true | .str _,.bl _=>true
 | _,_=>false
def RU:R2:=λx y H Q=>CG x y=true∧Q (.bl (decide (x=y))) H
def RT:R2:=λx y H Q=>CG x y=true∧Q (.bl (!decide (x=y))) H
theorem Ko {i j:Int}:decide (V.int i=V.int j)=(i == j):=by
 rw[OG]
 simp
theorem Yw {i j:Bool}:decide (V.bl i=V.bl j)=(i == j):=by
 rw[OG]
 simp
theorem Ki {i j:Str}:decide (V.str i=V.str j)=(i == j):=by
 rw[OG]
 simp
theorem Kn {i j:Array UInt8}:decide (V.byt i=V.byt j)=(i.toList == j.toList):=by
 rw[OG]
 cases i
 cases j
 simp
section
variable {X:Cx} {a b c:Expr} {ta tb tc:TE} {pos:Pos}
theorem qw {pins:List (Addr × Obj)} {σ:St} {H:Hp} {s:Ss} {Q:VK} {k k':Bool} (I:Inv X pins σ H s) (q:Q (.bl k) H) (e:k=k'):EP X pins σ Q (.bool k') s:=by
 subst e
 exact⟨.bl k,H,I,rfl,q⟩
theorem qj:bM X (Ny .Eq) RU:=by
 intro pins s σ H x y v u Q I rx ry h
 obtain⟨hs,q⟩:=h
 cases x with
 | non=>
  cases rx
  cases y with
  | non=>cases ry;exact zzT (qw I q (by simp))
  | bl j=>cases ry;exact zzN (qw I q (by simp))
  | int j=>obtain⟨t',rfl⟩:=ry;exact zz7 (qw I q (by simp))
  | str j=>obtain⟨t',rfl⟩:=ry;exact zz8 (qw I q (by simp))
  | _=>exact absurd (show false=true from hs) S7
 | bl i=>
  cases rx
  cases y with
  | non=>cases ry;exact zzO (qw I q (by simp))
  | bl j=>cases ry;exact eq_bool (qw I q Yw)
  | str j=>obtain⟨t',rfl⟩:=ry;exact zzI (qw I q (by simp))
  | _=>exact absurd (show false=true from hs) S7
 | int i=>
  obtain⟨t,rfl⟩:=rx
  cases y with
  | non=>cases ry;exact zz9 (qw I q (by simp))
  | int j=>obtain⟨t',rfl⟩:=ry;exact eq_int (qw I q Ko)
  | str j=>obtain⟨t',rfl⟩:=ry;exact zqz (qw I q (by simp))
  | _=>exact absurd (show false=true from hs) S7
 | str i=>
  obtain⟨t,rfl⟩:=rx
  cases y with
  | non=>cases ry;exact zqq (qw I q (by simp))
  | bl j=>cases ry;exact zzE (qw I q (by simp))
  | int j=>obtain⟨t',rfl⟩:=ry;exact zqj (qw I q (by simp))
  | str j=>obtain⟨t',rfl⟩:=ry;exact eq_str (qw I q Ki)
  | _=>exact absurd (show false=true from hs) S7
 | byt i=>
  obtain⟨t,rfl⟩:=rx
  cases y with
  | byt j=>obtain⟨t',rfl⟩:=ry;exact PySem.W.eq_bytes (qw I q Kn)
  | _=>exact absurd (show false=true from hs) S7
 | _=>cases y<;>exact absurd (show false=true from hs) S7
theorem cE:bM X (Ny .NotEq) RT:=by
 intro pins s σ H x y v u Q I rx ry h
 obtain⟨hs,q⟩:=h
 cases x with
 | non=>
  cases rx
  cases y with
  | non=>cases ry;exact zzA (qw I q (by simp))
  | bl j=>cases ry;exact zz0 (qw I q (by simp))
  | int j=>obtain⟨t',rfl⟩:=ry;exact zqx (qw I q (by simp))
  | str j=>obtain⟨t',rfl⟩:=ry;exact zqk (qw I q (by simp))
  | _=>exact absurd (show false=true from hs) S7
 | bl i=>
  cases rx
  cases y with
  | non=>cases ry;exact zz1 (qw I q (by simp))
  | bl j=>cases ry;exact ne_bool (qw I q (congrArg not Yw))
  | str j=>obtain⟨t',rfl⟩:=ry;exact zz2 (qw I q (by simp))
  | _=>exact absurd (show false=true from hs) S7
 | int i=>
  obtain⟨t,rfl⟩:=rx
  cases y with
  | non=>cases ry;exact zqv (qw I q (by simp))
  | int j=>obtain⟨t',rfl⟩:=ry;exact ne_int (qw I q (congrArg not Ko))
  | str j=>obtain⟨t',rfl⟩:=ry;exact zqw (qw I q (by simp))
  | _=>exact absurd (show false=true from hs) S7
 | str i=>
  obtain⟨t,rfl⟩:=rx
  cases y with
  | non=>cases ry;exact zqy (qw I q (by simp))
  | bl j=>cases ry;exact zz3 (qw I q (by simp))
  | int j=>obtain⟨t',rfl⟩:=ry;exact zqg (qw I q (by simp))
  | str j=>obtain⟨t',rfl⟩:=ry;exact ne_str (qw I q (congrArg not Ki))
  | _=>exact absurd (show false=true from hs) S7
 | byt i=>
  obtain⟨t,rfl⟩:=rx
  cases y with
  | byt j=>obtain⟨t',rfl⟩:=ry;exact PySem.W.ne_bytes (qw I q (congrArg not Kn))
  | _=>exact absurd (show false=true from hs) S7
 | _=>cases y<;>exact absurd (show false=true from hs) S7
theorem Gk:bM X (Ny .Lt) (MG λi j=>.bl (decide (i < j))):=Mp λ_ _ _ _ _ _ _ q=>lt_int q
theorem Pt:bM X (Ny .LtE) (MG λi j=>.bl (decide (i≤j))):=Mp λ_ _ _ _ _ _ _ q=>le_int q
theorem mY:bM X (Ny .Gt) (MG λi j=>.bl (decide (j < i))):=Mp λ_ _ _ _ _ _ _ q=>gt_int q
theorem Ww:bM X (Ny .In) (λx y H Q=>∃i j,x=.str i∧y=.str j∧Q (.bl (!(Ot j i 0 j.length 1).isEmpty)) H):=by
 intro pins s σ H x y v u Q I rx ry h
 obtain⟨i,j,rfl,rfl,q⟩:=h
 obtain⟨t,rfl⟩:=rx
 obtain⟨t',rfl⟩:=ry
 exact in_str (qw I q rfl)
theorem XG:bM X (Ny .Is) (λx y H Q=>y=.non∧Q (.bl (decide (x=.non))) H):=by
 intro pins s σ H x y v u Q I rx ry h
 obtain⟨rfl,q⟩:=h
 cases ry
 refine is_none_gen (qw I q ?_)
 cases x<;>first
  | (cases rx;rfl)
  | (obtain⟨t,rfl⟩:=rx;rfl)
theorem K9:bM X (Ny .IsNot) (λx y H Q=>y=.non∧Q (.bl (!decide (x=.non))) H):=by
 intro pins s σ H x y v u Q I rx ry h
 obtain⟨rfl,q⟩:=h
 cases ry
 refine isnot_none_gen (qw I q ?_)
 cases x<;>first
  | (cases rx;rfl)
  | (obtain⟨t,rfl⟩:=rx;rfl)
def isObj:HO→Bool
 | .lst _=>true
 | .ins _ _ _=>true
 | _=>false
theorem zQ (b:Expr) {op:CmpOp} (h:op≠.In:=by decide) (h2:op≠.NotIn:=by decide):O7 op b=false:=by
 have e1:(op == CmpOp.In)=false:=by cases op<;>first | rfl | exact absurd rfl h
 have e2:(op == CmpOp.NotIn)=false:=by cases op<;>first | rfl | exact absurd rfl h2
 cases b<;>simp [O7,e1,e2]
theorem ye {op:CmpOp} {r:R2} (ho:bM X (Ny op) r) (ha:PE X a ta) (hb:PE X b tb) (hm:O7 op b=false):PE X (.Compare a [op] [b] pos) (M9 r ta tb):=by
 intro pins s σ H Q I h
 exact zzD (Fn ha hb I h λv u s2 x y H2 I2 rx ry q=>ho pins s2 σ H2 x y v u Q I2 rx ry q) hm
def G6 (t:TE):TT:=λσ H Q=>t σ H λx H'=>∃k,x=.bl k∧Q k H'
theorem zc {op:CmpOp} {r:R2} (ho:bM X (Ny op) r) (ha:PE X a ta) (hb:PE X b tb) (hm:O7 op b=false):PT X (.Compare a [op] [b] pos) (G6 (M9 r ta tb)):=by
 intro pins s σ H Q I h
 refine Aj (qW (ha pins s σ H _ I h) λv s1 ⟨x,H1,I1,r1,q1⟩=>qW (hb pins s1 σ H1 _ I1 q1) λu s2 ⟨y,H2,I2,r2,q2⟩=>
  qW (ho pins s2 σ H2 x y v u _ I2 r1 r2 q2) λc s3 ⟨z,H3,I3,r3,k,e,q3⟩=>?_) hm
 subst e
 cases r3
 exact NV ⟨H3,I3,q3⟩
def M5 (r r':R2) (ta tb tc:TE):TE:=λσ H Q=>ta σ H λx H1=>tb σ H1 λy H2=>r x y H2 λz H3=>∃k,z=.bl k∧
 (if k=true then tc σ H3 λw' H4=>r' y w' H4 Q else Q (.bl false) H3)
theorem Gw {op op':CmpOp} {r r':R2} (ho:bM X (Ny op) r) (ho':bM X (Ny op') r') (ha:PE X a ta) (hb:PE X b tb) (hc:PE X c tc)
  (hm:lastMarks [op,op'] [b,c]=false:=by with_unfolding_all rfl):PE X (.Compare a [op,op'] [b,c] pos) (M5 r r' ta tb tc):=by
 intro pins s σ H Q I h
 refine Compare_chain (qW (ha pins s σ H _ I h) λv s1 ⟨x,H1,I1,r1,q1⟩=>chain_link (qW (hb pins s1 σ H1 _ I1 q1) λu s2 ⟨y,H2,I2,r2,q2⟩=>
  qW (ho pins s2 σ H2 x y v u _ I2 r1 r2 q2) λd s3 ⟨z,H3,I3,r3,k,e,q3⟩=>?_)) hm
 subst e
 cases r3
 refine NV ?_
 cases k with
 | false=>exact ite_ff ⟨.bl false,H3,I3,rfl,q3⟩
 | true=>exact ite_tt (chain_last (qW (hc pins s3 σ H3 _ I3 q3) λw' s4 ⟨z',H4,I4,r4,q4⟩=>ho' pins s4 σ H4 y z' u w' Q I4 r2 r4 q4))
def Ln (K:Sd) (x:V) (H:Hp) (k:Bool):Prop:=
 match x with
 | .non=>k=false
 | .bl b=>k=b
 | .int i=>k=(i != 0)
 | .str y=>y.length≤S0∧k=((y.length:Int) != 0)
 | .byt y=>y.size≤S0∧k=((y.size:Int) != 0)
 | .ref p=>(∃xs,zK K H p xs∧k = !xs.isEmpty)∨(∃xs,jo K H p xs∧k = !xs.isEmpty)∨∃kvs,H p=some (.dK kvs)∧k = !kvs.isEmpty
 | _=>False
theorem rk:(S0:Nat) < 2 ^ 63:=by rw[sizeLine_eq];decide
theorem yq:bM X (O9 .Add) (λx y H Q=>∃i j,x=.str i∧y=.str j∧i.length + j.length≤S0∧Q (.str (i ++ j)) H):=by
 intro pins s σ H x y v u Q I rx ry h
 obtain⟨i,j,rfl,rfl,hz,q⟩:=h
 obtain⟨t,rfl⟩:=rx
 obtain⟨t',rfl⟩:=ry
 exact add_str (λt' tk=>⟨.str (i ++ j),H,I.tok _,⟨_,rfl⟩,q⟩) hz
def DH (b:Expr):Prop:=∀o i,subscripted b false o i=operate [o,i] (getItem o i)
theorem vals1 {x:V} {us:List Sr} (r:Vals [x] us):∃u,us=[u]∧RelV x u:=by
 cases r with
 | cons r1 r2=>cases r2;exact⟨_,rfl,r1⟩
theorem vals2 {x y:V} {us:List Sr} (r:Vals [x,y] us):∃u w',us=[u,w']∧RelV x u∧RelV y w':=by
 cases r with
 | cons r1 r2=>
  cases r2 with
  | cons r3 r4=>cases r4;exact⟨_,_,rfl,r1,r3⟩
theorem aO:xI X (.type "str") (λxs H Q=>∃i,xs=[.int i]∧i.natAbs.log2 < 1920∧Q (.str (toString i)) H):=by
 intro pins s σ H xs us Q I r h
 obtain⟨i,rfl,hz,q⟩:=h
 obtain⟨u,rfl,t,rfl⟩:=vals1 r
 exact PySem.P.str_of_int hz ⟨.str _,H,I.tok _,⟨_,rfl⟩,q⟩
def Lm (K:Sd) (x:V) (H:Hp) (n:Nat):Prop:=
 match x with
 | .str y=>y.length≤S0∧n=y.length
 | .byt y=>y.size≤S0∧n=y.size
 | .ref p=>(∃xs,zK K H p xs∧n=xs.length)∨∃xs,jo K H p xs∧n=xs.length
 | _=>False
end
end L2
namespace L2
open PySem PySem.Spec PyProof.Rows
structure JN (h:Heap) (x dx C:Addr) (mA:Str→Option Sr):Prop where
 obj:h.get? x=some (NO C dx)
 ns:h.Ns1 dx mA
 ne:dx≠x
theorem aj {h:Heap} {dx:Addr} {mA:Str→Option Sr} (n:h.Ns1 dx mA):∃od,h.get? dx=some od∧∀name,Ej name od=some (mA name):=by
 obtain⟨o,es,ep,ho,hd,hk,_,hm⟩:=n
 refine⟨o,ho,λname=>?_⟩
 have e:=hm name
 unfold nsFind findBy at e
 rw[←Array.find?_toList] at e
 unfold Ej
 rw[hd]
 dsimp only
 split
 ·rename_i y q
  rw[q] at e
  exact congrArg some e
 ·rename_i q
  rw[q] at e
  have a:es.toList.any (·.refKey)=false:=by
   rw[List.any_eq_false]
   intro y hy
   obtain⟨z,t,hkey⟩:=hk y (Array.mem_toList_iff.mp hy)
   simp [zq3,hkey]
  have a':¬es.toList.any (·.refKey)=true:=by rw[a];exact S7
  rw[if_neg a']
  exact congrArg some e
theorem JN.look {h:Heap} {x dx C:Addr} {mA:Str→Option Sr} (I:JN h x dx C mA):∃od,Ex h x (NO C dx) C (some od)∧∀name,Ej name od=some (mA name):=
 let ⟨od,ho,hl⟩:=aj I.ns
 ⟨od,⟨I.obj,rfl,rfl,ho⟩,hl⟩
section
variable {prog:SM} {w:Tj} {A:TM} {E:Sr→Ss→Prop} {s:Ss} {K:Sd} {x dx C f:Addr} {mA:Str→Option Sr} {name:Str} {v:Sr}
theorem get_map {expr:Bool} {Q:Sr→Ss→Prop} (X:K.In s.heap) (I:JN s.heap x dx C mA) (hg:Ia K C name=true) (hh:Im K C=true)
  (ha:Tv K (.ref C) name=some none) (hv:mA name=some v) (hv':zzr v=true) (h:Q v { s with toks:=s.toks + 1 }) :
  S6 (S4 prog w) A (getAttr (.ref x) name expr) Q E s:=by
 obtain⟨od,J,hl⟩:=I.look
 exact PySem.W.get_value X J (IC hg).1 (PySem.W.findObj_own hh ha rfl (by rw[hl,hv])) hv' h
theorem Ys {pl:Sem Bool} {Q:Sr × List Sr→Ss→Prop} (X:K.In s.heap) (I:JN s.heap x dx C mA) (hg:Ia K C name=true)
  (hf:Tv K (.ref C) name=some (some (.ref f))) (ht:EL K (.ref f)=true) (hv:mA name=none) (h:Q (.ref f,[.ref x]) s) :
  S6 (S4 prog w) A (IZ (.ref x) name pl) Q E s:=by
 obtain⟨od,J,hl⟩:=I.look
 exact PySem.W.method_fn X J (IC hg).1 (IC hg).2 hf (beq_iff_eq.mp ht) (by show (Ej name od).map (·.isSome)=some false;rw[hl,hv];rfl) h
theorem BU {ns:List Str} {Q:Unit→Ss→Prop} (X:K.In s.heap) (I:JN s.heap x dx C mA)
  (hs:Tv K (.ref C) "__setattr__" = some (some (.builtin "object.__setattr__"))) (hp:A4 K C=true) (ht:E6 K C name=some none) (hh:Im K C=true)
  (hw:NA mA ns) (hsz:ns.length≤S0)
  (h:∀h',JN h' x dx C (λy=>if y=name then some v else mA y)→Ip dx s.heap h'→Q () { s with heap:=h',toks:=s.toks + 2 }) :
  S6 (S4 prog w) A (setAttr (.ref x) name v) Q E s:=by
 obtain⟨od,J,hl⟩:=I.look
 refine El X J hs (PySem.W.osa_open (s:={ s with toks:=s.toks + 1 }) (r:=none) X J hp ht λb=>?_)
 obtain⟨cd,hc,hd'⟩:=IQ hh
 have hx:s.heap.get? x=some ⟨.ref C,some dx,.plain,#[]⟩:=I.obj
 refine SX (Td (SX (SX (Ab hx (SX (Ek (s:={ s with toks:=s.toks + 1 }) (O2 X hc) ?_))))))
 rw[hd']
 refine Td (a:=some dx) (SX (Td (SX ?_)))
 refine A5 (s:={ s with toks:=s.toks + 1 }) I.ns λh' hn2 hs2=>?_
 obtain⟨oD,esD,epD,hoD,hdD,hcD⟩:=hn2.count (Es name v hw)
 refine SX (EY hoD (by rw[hdD];exact pastItsLine_dict (TV hcD (by rw[Se];omega))) ?_)
 exact Td (h _ ⟨(hs2.2 _ (TH I.ne)).trans I.obj,hn2,I.ne⟩ hs2)
theorem YU {R:Result→Ss→Prop} {vs:List Sr} {kw:List (Str × Sr)} (X:K.In s.heap) (hm:E7 K C=true)
  (hi:Tv K (.ref C) "__init__" = some (some (.ref f))) (hf:Ap K (.ref f)=some (.type "function"))
  (h:Og (S4 prog w) (A.under (.builtin "type.__call__" ⟨.ref C :: vs,kw⟩)) (.call (.ref f) ⟨.ref (s.heap.objs.size + 1) :: vs,kw⟩) (PySem.W.InitBack (s.heap.objs.size + 1) R)
   { s with heap:=(s.heap.push Na).push (NO C s.heap.objs.size) }) :
  Og (S4 prog w) A (.call (.ref C) ⟨vs,kw⟩) R s:=by
 obtain⟨hh,g,d,t,os⟩:=s
 exact PySem.W.make_core (PySem.W.makes_of X hm) (IW X hi) (λself=>zzV X self hf) (.inl rfl) h
end
def zB (f:Str) (v:V):List (Str × V)→List (Str × V)
 | []=>[(f,v)]
 | (g,x) :: r=>if g=f then (g,v) :: r else (g,x) :: zB f v r
theorem pC (f g:Str) (v:V):∀fs:List (Str × V),(zB f v fs).lookup g=if g=f then some v else fs.lookup g
 | []=>by
  show NK g [(f,v)]=_
  by_cases h:g=f
  ·have hb:(g == f)=true:=beq_iff_eq.mpr h
   simp only[NK,hb,if_pos h]
  ·have hb:(g == f)=false:=beq_eq_false_iff_ne.mpr h
   simp only[NK,hb,if_neg h]
 | (k,x) :: r=>by
  have ih:=pC f g v r
  rw[show zB f v ((k,x) :: r)=(if k=f then (k,v) :: r else (k,x) :: zB f v r) from rfl]
  by_cases hk:k=f
  ·rw[if_pos hk]
   by_cases h:g=k
   ·have hb:(g == k)=true:=beq_iff_eq.mpr h
    simp only[NK,hb,if_pos (h.trans hk)]
   ·have hb:(g == k)=false:=beq_eq_false_iff_ne.mpr h
    simp only[NK,hb,if_neg (λe:g=f=>h (e.trans hk.symm))]
  ·rw[if_neg hk]
   by_cases h:g=k
   ·have hb:(g == k)=true:=beq_iff_eq.mpr h
    simp only[NK,hb,if_neg (λe:g=f=>hk (h.symm.trans e))]
   ·have hb:(g == k)=false:=beq_eq_false_iff_ne.mpr h
    simp only[NK,hb]
    exact ih
theorem gy (f:Str) (v:V):∀fs:List (Str × V),f∈(zB f v fs).map (·.1)∧∀g,g∈fs.map (·.1)→g∈(zB f v fs).map (·.1)
 | []=>⟨by simp [zB],λg h=>by simp at h⟩
 | (k,x) :: r=>by
  obtain⟨i1,i2⟩:=gy f v r
  rw[show zB f v ((k,x) :: r)=(if k=f then (k,v) :: r else (k,x) :: zB f v r) from rfl]
  by_cases hk:k=f
  ·rw[if_pos hk]
   subst hk
   exact⟨by simp,λg h=>by simpa using h⟩
  ·rw[if_neg hk]
   refine⟨?_,λg h=>?_⟩
   ·rw[SE]
    exact SV _ i1
   ·rw[SE] at h ⊢
    rcases So.mp h with e | e
    ·exact So.mpr (.inl e)
    ·exact SV _ (i2 g e)
theorem jd (f:Str) (v:V):∀fs:List (Str × V),(zB f v fs).length≤fs.length + 1
 | []=>by simp [zB]
 | (k,x) :: r=>by
  have ih:=jd f v r
  rw[show zB f v ((k,x) :: r)=(if k=f then (k,v) :: r else (k,x) :: zB f v r) from rfl]
  by_cases hk:k=f
  ·rw[if_pos hk,Se,Se];omega
  ·rw[if_neg hk,Se,Se];omega
theorem vD.some_of {v:V} {o:Option Sr} (r:vD (some v) o):∃u,o=some u∧RelV v u:=by
 cases o with
 | none=>exact(show False from r).elim
 | some u=>exact⟨u,rfl,r⟩
theorem vD.none_of {o:Option Sr} (r:vD none o):o=none:=by
 cases o with
 | none=>rfl
 | some u=>exact(show False from r).elim
theorem VP {v:V} {u:Sr} (r:RelV v u):zzr u=true:=by
 cases v with
 | non=>cases (show u=Oa from r);rfl
 | bl b=>cases (show u=IA b from r);rfl
 | int i=>obtain⟨t,e⟩:=(show ∃t,u=AX i t from r);cases e;rfl
 | str x=>obtain⟨t,e⟩:=(show ∃t,u=AK x t from r);cases e;rfl
 | byt b=>obtain⟨t,e⟩:=(show ∃t,u=zqK b t from r);cases e;rfl
 | flt b=>obtain⟨t,e⟩:=(show ∃t,u=zzK b t from r);cases e;rfl
 | ref a=>cases (show u=Tf a from r);rfl
 | ty n=>cases (show u=I0 n from r);rfl
section
variable {P:SM} {w:Tj} {H H':Hp} {h h':Heap} {a C dx:Addr} {fs fs':List (Str × V)}
theorem sP (z8:bU P w H h) (e:H a=some (.ins C dx fs)):∃mA,JN h a dx C mA∧(∀f,vD (fs.lookup f) (mA f))∧NA mA (fs.map (·.1))∧fs.length≤1000∧H dx=some (.own a):=by
 obtain⟨d,z,ne,ob,mA,n,r,q⟩:=(show qY P w H h a (.ins C dx fs) from z8 a _ e)
 exact⟨mA,⟨ob,n,ne⟩,r,q,z,d⟩
end
structure uK (K:Sd) (C:Addr):Prop where
 pg:Ia K C zq4=true
 hd:Im K C=true
 po:A4 K C=true
 sa:Tv K (.ref C) "__setattr__" = some (some (.builtin "object.__setattr__"))
theorem uK.get {K:Sd} {C:Addr} (c:uK K C) (f:Str):Ia K C f=true:=c.pg
def zY (K:Sd) (C:Addr) (f:Str):Prop:=Tv K (.ref C) f=some none
theorem zY.C7 {K:Sd} {C:Addr} {f:Str} (n:zY K C f):E6 K C f=some none:=by
 unfold E6
 rw[show Tv K (.ref C) f=some none from n]
 rfl
structure Lb (K:Sd) (C:Addr) (f:Str) (v:V) (u:Sr):Prop where
 at_:Tv K (.ref C) f=some (some u)
 rel:RelV v u
 get:OC K u "__get__" = some none
 cp:PySem.W.copiedNames.contains f=false
structure Meth (K:Sd) (C:Addr) (m:Str) (f:Addr):Prop where
 at_:Tv K (.ref C) m=some (some (.ref f))
 fn:EL K (.ref f)=true
 kp:NQ K (.ref f)=true
section
variable {X:Cx} {pins:List (Addr × Obj)} {σ:St} {H:Hp} {s:Ss} {a C dx:Addr} {fs:List (Str × V)} {f:Str} {v:V} {A:TM} {E:Sr→Ss→Prop}
theorem Xk {b:Bool} {Q:Sr→Ss→Prop} (I:Inv X pins σ H s) (e:H a=some (.ins C dx fs)) (c:uK X.K C) (n:zY X.K C f) (l:fs.lookup f=some v)
  (h:∀u s',Inv X pins σ H s'→RelV v u→Q u s'):S6 (S4 X.prog X.w) A (getAttr (.ref a) f b) Q E s:=by
 obtain⟨mA,O,r,_,_,_⟩:=sP I.z8 e
 obtain⟨u,hu,ru⟩:=vD.some_of (v:=v) (o:=mA f) (by rw[←l];exact r f)
 exact get_map I.bD O (c.get f) c.hd n hu (VP ru) (h u _ (I.tok _) ru)
theorem gS {m:Str} {g:Addr} {pl:Sem Bool} {Q:Sr × List Sr→Ss→Prop} (I:Inv X pins σ H s) (e:H a=some (.ins C dx fs)) (c:uK X.K C) (k:Meth X.K C m g) (l:fs.lookup m=none)
  (h:Q (.ref g,[.ref a]) s):S6 (S4 X.prog X.w) A (IZ (.ref a) m pl) Q E s:=by
 obtain⟨mA,O,r,_,_,_⟩:=sP I.z8 e
 have hn:mA m=none:=vD.none_of (by rw[←l];exact r m)
 exact Ys I.bD O (c.get m) k.at_ k.fn hn h
theorem X2 {y:V} {u:Sr} {Q:Unit→Ss→Prop} (I:Inv X pins σ H s) (e:H a=some (.ins C dx fs)) (c:uK X.K C) (n:zY X.K C f) (hl:fs.length < 1000) (ry:RelV y u)
  (h:∀s',Inv X pins σ (upd H a (.ins C dx (zB f y fs))) s'→Q () s'):S6 (S4 X.prog X.w) A (setAttr (.ref a) f u) Q E s:=by
 obtain⟨mA,O,r,wi,_,ho⟩:=sP I.z8 e
 have hz:(fs.map (·.1)).length≤S0:=by rw[Su,sizeLine_eq];omega
 refine BU I.bD O c.sa c.po n.C7 c.hd wi hz λh' O' sb=>h _ ?_
 have hd:∃o,h'.get? dx=some o:=let ⟨o,_,_,e',_⟩:=O'.ns;⟨o,e'⟩
 refine I.write (x:=a) (e:=dx) (by rw[e];exact T9) (.inr ho) (λb q hb z=>(sb.2 b hb).trans z) hd ?_
 refine⟨by rw[zG O.ne];exact ho,?_,O.ne,O'.obj,_,O'.ns,λg=>?_,λg hg=>?_⟩
 ·have:=jd f y fs;omega
 ·show vD ((zB f y fs).lookup g) (if g=f then some u else mA g)
  rw[pC]
  by_cases q:g=f
  ·rw[if_pos q,if_pos q];exact ry
  ·rw[if_neg q,if_neg q];exact r g
 ·by_cases q:g=f
  ·rw[q];exact(gy f y fs).1
  ·refine(gy f y fs).2 g (wi g λz=>hg ?_)
   show (if g=f then some u else mA g)=none
   rw[if_neg q];exact z
theorem Inv.made (I:Inv X pins σ H s):Inv X pins σ (upd (upd H s.heap.objs.size (.own (s.heap.objs.size + 1))) (s.heap.objs.size + 1) (.ins C s.heap.objs.size []))
  { s with heap:=(s.heap.push Na).push (NO C s.heap.objs.size) }:=by
 have e1:(s.heap.push Na).get? s.heap.objs.size=some Na:=To s.heap rfl
 have e2:((s.heap.push Na).push (NO C s.heap.objs.size)).get? (s.heap.objs.size + 1)=some (NO C s.heap.objs.size):=by
  have:=To (s.heap.push Na) (o:=NO C s.heap.objs.size) rfl
  rwa [OT] at this
 have e3:(s.heap.push Na).Ns s.heap.objs.size (λ_=>none):=⟨Na,#[],_,e1,rfl,(λe he=>absurd he (by simp)),λ_=>rfl⟩
 have I1:=I.laid (a:=s.heap.objs.size) (o:=.own (s.heap.objs.size + 1)) (h':=s.heap.push Na) (t':=s.toks) (λb u q=>SQ _ q) (SD _) ⟨_,e1⟩
 refine I1.laid (a:=s.heap.objs.size + 1) (o:=.ins C s.heap.objs.size []) (t':=s.toks) (λb u q=>SQ _ q) (IS (OT _ _)) ?_
 have ne:s.heap.objs.size≠s.heap.objs.size + 1:=Ti (zzl _)
 refine⟨by rw[zG ne,zm],Tr _,ne,e2,λ_=>none,(A6 e3).at λo q=>SQ _ q,λ_=>T9,λy hy=>absurd rfl hy⟩
theorem HK {prog:SM} {w:Tj} {env:Env} {e:Expr} {f:Str} {pos:Pos} {s:Ss} {Q:Sr→Ss→Prop} (hb:Oh e f env (eval e env)=eval e env)
  (h:S6 (S4 prog w) A (eval e env) (λo s₁=>S6 (S4 prog w) A (getAttr o f true) Q E s₁) E s):S6 (S4 prog w) A (eval (.Attribute e f pos) env) Q E s:=
 Attribute_any_ h (by rw[arm_eval_Attribute,hb])
end
def Rg (K:Sd) (ta:TE) (f:Str):TE:=λσ H Q=>ta σ H λx H1=>∃a C dx fs v,x=.ref a∧H1 a=some (.ins C dx fs)∧uK K C∧zY K C f∧fs.lookup f=some v∧Q v H1
def LR (K:Sd) (ta:TE) (f:Str):TE:=λσ H Q=>ta σ H λx H1=>∃a C dx fs v u,x=.ref a∧H1 a=some (.ins C dx fs)∧uK K C∧Lb K C f v u∧fs.lookup f=none∧Q v H1
def U4 (K:Sd) (ta tv:TE) (f:Str):TS:=λD σ H=>tv σ H λy H1=>ta σ H1 λx H2=>∃a C dx fs,x=.ref a∧H2 a=some (.ins C dx fs)∧uK K C∧zY K C f∧fs.length < 1000∧
 D.nx σ (upd H2 a (.ins C dx (zB f y fs)))
def Lf (X:Cx) (op:Operator) (rd:V→V→Hp→VK→Prop):Prop:=
 ∀(pins:List (Addr × Obj)) (s:Ss) (σ:St) (H:Hp) (x y:V) (u v:Sr) (Q:VK),Inv X pins σ H s→RelV x u→RelV y v→rd x y H Q→S6 (S4 X.prog X.w) X.A (inplaceOp op u v) (EP X pins σ Q) X.xe s
def Ug (K:Sd) (ta tv:TE) (rd:V→V→Hp→VK→Prop) (f:Str):TS:=λD σ H=>ta σ H λx H1=>∃a C dx fs v,x=.ref a∧H1 a=some (.ins C dx fs)∧uK K C∧zY K C f∧fs.lookup f=some v∧
 tv σ H1 λy H2=>rd v y H2 λz H3=>∃dx' fs',H3 a=some (.ins C dx' fs')∧fs'.length < 1000∧D.nx σ (upd H3 a (.ins C dx' (zB f z fs')))
section
variable {X:Cx} {o e value:Expr} {f:Str} {pos pos' tpos:Pos} {ta tv:TE}
theorem Mt (he:PE X e ta) (hb:Oh e f X.env (eval e X.env)=eval e X.env):PE X (.Attribute e f pos) (Rg X.K ta f):=by
 intro pins s σ H Q I h
 refine HK hb (qW (he pins s σ H _ I h) λu s1 ⟨x,H1,I1,rx,a,C,dx,fs,v,ex,ea,c,n,l,q⟩=>?_)
 subst ex
 obtain rfl:u=Tf a:=rx
 exact Xk I1 ea c n l λu' s2 I2 ru=>⟨v,H1,I2,ru,q⟩
theorem qI (ha:PE X o ta) (hv:PE X value tv) (hs:IE value (some (.Attribute o f pos')) pos.line X.env=pure false):PS X (.Assign [.Attribute o f pos'] value pos) (U4 X.K ta tv f):=by
 intro pins s σ H D I h
 refine Il (qW (hv pins s σ H _ I h) λu s1 ⟨y,H1,I1,ry,q⟩=>qW (ha pins s1 σ H1 _ I1 q) λov s2 ⟨x,H2,I2,rx,a,C,dx,fs,ex,ea,c,n,l,q2⟩=>?_) hs
 subst ex
 obtain rfl:ov=Tf a:=rx
 exact X2 I2 ea c n l ry λs3 I3=>⟨σ,_,I3,q2⟩
def LW:V→V→Hp→VK→Prop:=λx y H Q=>∃i j,x=.int i∧y=.int j∧Q (.int (i + j)) H
def LP:V→V→Hp→VK→Prop:=λx y H Q=>∃i j,x=.int i∧y=.int j∧Q (.int (i - j)) H
theorem Pm {pl:Sem Bool} {m:Str} {apos:Pos} {args:List Expr} {pins:List (Addr × Obj)} {s:Ss} {σ:St} {H:Hp} {Q:Sr→Ss→Prop} {te:TE} (he:PE X e te) (I:Inv X pins σ H s)
  (h:te σ H λx H1=>∃a C dx fs g,x=.ref a∧H1 a=some (.ins C dx fs)∧uK X.K C∧Meth X.K C m g∧fs.lookup m=none∧
   ∀s1,Inv X pins σ H1 s1→S6 (S4 X.prog X.w) X.A (callWith pos (.ref g) [.ref a] (backTo pos (Tc args X.env)) (ON pos (NS [] X.env))) Q X.xe s1)
  (ht:eval (.Call (.Attribute e m apos) args [] pos) X.env=(do
   let ov ←eval e X.env
   standAt apos.atName
   let (f,first) ←holding [ov] (IZ ov m pl)
   callWith pos f first (backTo pos (Tc args X.env)) (ON pos (NS [] X.env)))) :
  S6 (S4 X.prog X.w) X.A (eval (.Call (.Attribute e m apos) args [] pos) X.env) Q X.xe s:=by
 refine N7 (pl:=pl) (qW (he pins s σ H _ I h) λu s1 ⟨x,H1,I1,rx,a,C,dx,fs,g,ex,ea,c,k,l,q⟩=>?_) ht
 subst ex
 obtain rfl:u=Tf a:=rx
 exact gS I1 ea c k l (q s1 I1)
end
section
variable {X:Cx} {pins:List (Addr × Obj)} {σ:St} {H:Hp} {s:Ss} {A:TM} {E:Sr→Ss→Prop} {Q:Sr→Ss→Prop} {c:Sr} {b:Bool}
inductive xZ (K:Sd) (H:Hp):V→Sr→Prop where
 | non:xZ K H .non (.type "NoneType")
 | bl (x:Bool):xZ K H (.bl x) (.type "bool")
 | int (i:Int):xZ K H (.int i) (.type "int")
 | str (x:Str):xZ K H (.str x) (.type "str")
 | flt (x:UInt64):xZ K H (.flt x) (.type "float")
 | lst {a:Addr} {xs:List V} (e:H a=some (.lst xs)):xZ K H (.ref a) (.type "list")
 | frz {a:Addr} {o:Obj} {xs:List V} (e:H a=some (.frz o (.lst xs))):xZ K H (.ref a) (.type "list")
 | tup {a:Addr} {xs:List V} (e:H a=some (.tup xs)):xZ K H (.ref a) (.type "tuple")
 | dK {a:Addr} {kvs:List (Key × V)} (e:H a=some (.dK kvs)):xZ K H (.ref a) (.type "dict")
 | dT {a:Addr} {kvs:List (List Key × V)} (e:H a=some (.dT kvs)):xZ K H (.ref a) (.type "dict")
 | ins {a C dx:Addr} {fs:List (Str × V)} (e:H a=some (.ins C dx fs)) (cl:uK K C) (ha:Tv K (.ref C) "__class__" = some (some (.builtin "object.__class__")))
   (hn:OC K (.builtin "object.__class__") "__get__" = some (some (.builtin "getset_descriptor.__get__"))) (sY:E8 K (.builtin "object.__class__")=some true)
   (hm:NJ K C (.type "object")=some true):xZ K H (.ref a) (.ref C)
theorem VC {x:V} {u t:Sr} (I:Inv X pins σ H s) (rx:RelV x u) (ty:xZ X.K H x t) (e:TK X.K t c=some b) (h:∀tk,Q (.bool b) { s with toks:=tk }) :
  S6 (S4 X.prog X.w) A (call (.builtin "isinstance") [u,c]) Q E s:=by
 cases ty with
 | non=>cases (show u=Oa from rx);exact Nr PySem.W.kitx_none I.bD T9 e (λz=>nomatch z) h
 | bl y=>cases (show u=IA y from rx);exact Nr PySem.W.kitx_bool I.bD T9 e (λz=>nomatch z) h
 | int i=>obtain⟨t,q⟩:=(show ∃t,u=AX i t from rx);cases q;exact Nr PySem.W.kitx_int I.bD T9 e (λz=>nomatch z) h
 | str y=>obtain⟨t,q⟩:=(show ∃t,u=AK y t from rx);cases q;exact Nr PySem.W.kitx_str I.bD T9 e (λz=>nomatch z) h
 | flt y=>obtain⟨t,q⟩:=(show ∃t,u=zzK y t from rx);cases q;exact Nr PySem.W.kitx_float I.bD T9 e (λz=>nomatch z) h
 | @lst a xs ea=>
  cases (show u=Tf a from rx)
  obtain⟨_,_,n,_,h1⟩:=(show qY X.prog X.w H s.heap a (.lst xs) from I.z8 a _ ea)
  exact Nr A7 I.bD ⟨_,h1,rfl⟩ e (λz=>nomatch z) h
 | @frz a ob xs ea=>
  cases (show u=Tf a from rx)
  obtain⟨_,_,_,n,_,h1⟩:=(show qY X.prog X.w H s.heap a (.frz ob (.lst xs)) from I.z8 a _ ea)
  exact Nr A7 I.bD ⟨_,h1,rfl⟩ e (λz=>nomatch z) h
 | @tup a xs ea=>
  cases (show u=Tf a from rx)
  obtain⟨_,_,_,p⟩:=(show qY X.prog X.w H s.heap a (.tup xs) from I.z8 a _ ea)
  obtain⟨o,h1,h2,_⟩:=p
  exact Nr PySem.W.kitx_tuple I.bD ⟨o,h1,h2⟩ e (λz=>nomatch z) h
 | @dK a kvs ea=>
  cases (show u=Tf a from rx)
  obtain⟨_,_,vs,_,p⟩:=(show qY X.prog X.w H s.heap a (.dK kvs) from I.z8 a _ ea)
  obtain⟨o,es,ep,h1,h2,_⟩:=p
  exact Nr A8 I.bD ⟨o,h1,h2.1⟩ e (λz=>nomatch z) h
 | @dT a kvs ea=>
  cases (show u=Tf a from rx)
  obtain⟨_,_,xs,_,o,es,ep,h1,h2,_⟩:=(show qY X.prog X.w H s.heap a (.dT kvs) from I.z8 a _ ea)
  exact Nr A8 I.bD ⟨o,h1,h2.1⟩ e (λz=>nomatch z) h
 | @ins a C dx fs ea cl ha hn sY hm=>
  cases (show u=Tf a from rx)
  obtain⟨mA,O,_⟩:=sP I.z8 ea
  obtain⟨od,J,_⟩:=O.look
  exact Nr (PySem.W.kitx_own (cl.get _) cl.hd ha hn sY hm) I.bD J e (λz=>nomatch z) h
end
end L2
namespace L2
open PySem PySem.Spec PyProof.Rows
structure xj (k:Nat) (A:TM):Prop where
 hd:A.handled=none
 dp:A.depth + 3 * k + 5 < recursionLimit
 un:A.units + 16 * k + 200 < cLine
theorem xj.mono {j k:Nat} {A:TM} (r:xj k A) (h:j≤k):xj j A:=⟨r.hd,by have:=r.dp;omega,by have:=r.un;omega⟩
theorem xj.deeper {k:Nat} {A:TM} (r:xj (k + 1) A) (env:Env):xj k (A.deeper env):=
 ⟨r.hd,by have:=r.dp;show A.depth + 1 + 3 * k + 5 < _;omega,by have:=r.un;show A.units + 3 + 16 * k + 200 < _;omega⟩
theorem Xm {A:TM} {C:Addr} {us:List Sr} {kw:List (Str × Sr)}:(A.under (.builtin "type.__call__" ⟨.ref C :: us,kw⟩)).depth=A.depth + 1:=by
 first | rfl | simp [A9,Code.weight,Code.isCreation,Code.isGuard,Code.isCaller,zqV,zzz,guardIds]
theorem Xd {A:TM} {C:Addr} {us:List Sr} {kw:List (Str × Sr)}:(A.under (.builtin "type.__call__" ⟨.ref C :: us,kw⟩)).units=A.units + 1:=by
 first | rfl | simp [A9,Code.cUnits,zqV,zzz]
theorem xj.make {k:Nat} {A:TM} (r:xj (k + 1) A) (C:Addr) (us:List Sr) (kw:List (Str × Sr)):xj k (A.under (.builtin "type.__call__" ⟨.ref C :: us,kw⟩)):=
 ⟨r.hd,by have:=r.dp;rw[Xm];omega,by have:=r.un;rw[Xd];omega⟩
theorem xj.depth {k:Nat} {A:TM} (r:xj k A):A.depth < recursionLimit:=by have:=r.dp;omega
theorem xj.units {k:Nat} {A:TM} (r:xj k A):A.units + 64 < cLine:=by have:=r.un;omega
def BE:TA:=λ_ H Q=>Q [] H
def CI (ta:TE) (tr:TA):TA:=λσ H Q=>ta σ H λx H1=>tr σ H1 λxs H2=>Q (x :: xs) H2
section
variable {X:Cx} {e:Expr} {es:List Expr} {te:TE} {t:TA} {pos:Pos}
theorem zq:PA X [] BE:=λ_ _ _ _ H Q I h=>Calls.spliced_nil ⟨[],H,I,.nil,h⟩
theorem zz (ha:PE X e te) (hr:PA X es t) (hs:Tc (e :: es) X.env=(false,eval e X.env) :: Tc es X.env:=by rfl):PA X (e :: es) (CI te t):=by
 intro pos pins s σ H Q I h
 rw[hs]
 show S6 _ _ (spliced ((false,eval e X.env) :: backTo pos (Tc es X.env))) _ _ s
 refine Calls.spliced_cons (qW (ha pins s σ H _ I h) λu s1 ⟨x,H1,I1,r1,q1⟩=>?_)
 exact qW (hr pos pins s1 σ H1 _ I1 q1) λus s2 ⟨xs,H2,I2,r2,q2⟩=>⟨x :: xs,H2,I2,.cons r1 r2,q2⟩
def Rr (t:TA):TE:=λσ H Q=>t σ H λxs H1=>xs.length≤S0∧∀p,H1 p=none→Q (.ref p) (upd H1 p (.tup xs))
def Rp (t:TA):TE:=λσ H Q=>t σ H λxs H1=>xs.length≤S0∧∀p,H1 p=none→Q (.ref p) (upd H1 p (.lst xs))
theorem Mi {x1} (h:PA X es t):PE X (.Tuple es x1 pos) (Rr t):=by
 intro pins s σ H Q I hq
 refine wpAny_Tuple_spliced (qW (h pos pins s σ H _ I hq) λus s1 ⟨xs,H1,I1,r,z,q⟩=>⟨by rw[←r.length];exact z,?_⟩)
 have hf:H1 s1.heap.objs.size=none:=I1.z8.fresh (SD _)
 refine⟨.ref s1.heap.objs.size,upd H1 s1.heap.objs.size (.tup xs),I1.laid (t':=s1.toks) (λb u e=>SQ _ e) (SD _) ?_,rfl,q _ hf⟩
 exact⟨z,us,r,⟨_,To _ rfl,rfl,_,rfl⟩⟩
theorem Mn (h:PA X es t):PE X (.List es pos) (Rp t):=by
 intro pins s σ H Q I hq
 refine wpAny_List_spliced (qW (h pos pins s σ H _ I hq) λus s1 ⟨xs,H1,I1,r,z,q⟩=>⟨by rw[←r.length];exact z,?_⟩)
 have hf:H1 s1.heap.objs.size=none:=I1.z8.fresh (SD _)
 refine⟨.ref s1.heap.objs.size,upd H1 s1.heap.objs.size (.lst xs),I1.laid (t':=s1.toks) (λb u e=>SQ _ e) (SD _) ?_,rfl,q _ hf⟩
 exact⟨z,us,0,r,To _ rfl⟩
end
abbrev Sp:=List V→Hp→VK→XK→Prop
abbrev sX:=List Env→Hp→Ss→XK→Sr→Ss→Prop
structure Qn (P:SM) (w:Tj) (K:Sd) (mg:Str→Option Sr) (base:Heap) (A:TM) (outer:List Env) (s:Ss) (H:Hp):Prop where
 frames:A.frames=some outer
 mod:Mod K mg base
 bs:∀b o,base.get? b=some o→s.heap.get? b=some o∧H b=none
 WC:base.objs.size≤s.heap.objs.size
 u7:s.heap.FunFrames base outer
 Pk:∀b∈Zm outer,H b=none
 z8:bU P w H s.heap
 bare:AllBare s.gens
def CE (outer:List Env) (P:SM) (w:Tj) (H:Hp) (s:Ss) (Q:VK) (u:Sr) (s':Ss):Prop:=
 ∃v H',s'.os=s.os∧AllBare s'.gens∧Un (Zm outer) [] H H' s.heap s'.heap∧bU P w H' s'.heap∧RelV v u∧Q v H'
def CR (CX:sX) (outer:List Env) (P:SM) (w:Tj) (H:Hp) (s:Ss) (Q:VK) (E:XK) (r:Result) (s':Ss):Prop:=
 match r with
 | .ok (.ret u)=>CE outer P w H s Q u s'
 | .ok _=>False
 | .error e=>CX outer H s E e s'
structure zo (P:SM) (w:Tj) (K:Sd) (mg:Str→Option Sr) (base:Heap) (CX:sX) (k:Nat) (f:Addr) (fd:SH) (ps:List Str) (sp:Sp):Prop where
 len:∀vs H Q E,sp vs H Q E→vs.length=ps.length
 run:∀(A:TM) (outer:List Env) (s:Ss) (H:Hp) (args:Args) (us:List Sr) (vs:List V) (Q:VK) (E:XK),xj k A→Qn P w K mg base A outer s H→BindsTo s fd args (ps.zip us)→Vals vs us→sp vs H Q E→
  Og (S4 P w) A (.call (.ref f) args) (CR CX outer P w H s Q E) s
theorem zo.mono {P:SM} {w:Tj} {K:Sd} {mg:Str→Option Sr} {base:Heap} {CX:sX} {j k:Nat} {f:Addr} {fd:SH} {ps:List Str} {sp:Sp} (F:zo P w K mg base CX j f fd ps sp) (h:j≤k) :
  zo P w K mg base CX k f fd ps sp:=⟨F.len,λA outer s H args us vs Q E hr=>F.run A outer s H args us vs Q E (hr.mono h)⟩
theorem Qn.make {P:SM} {w:Tj} {K:Sd} {mg:Str→Option Sr} {base:Heap} {A:TM} {outer:List Env} {s:Ss} {H:Hp} (e:Qn P w K mg base A outer s H) (C:Addr) (us:List Sr) (kw:List (Str × Sr)) :
  Qn P w K mg base (A.under (.builtin "type.__call__" ⟨.ref C :: us,kw⟩)) outer s H:=⟨by first | exact e.frames | (simpa [A9,Code.envs,zzz,pushEnvs] using e.frames),e.mod,e.bs,e.WC,e.u7,e.Pk,e.z8,e.bare⟩
section
variable {X:Cx} {pins:List (Addr × Obj)} {σ:St} {H:Hp} {s s':Ss}
theorem Inv.FH (I:Inv X pins σ H s):Qn X.prog X.w X.K X.mg X.base X.A X.stack s H:=
 ⟨I.ok.frames,I.ok.mod,I.bs,TV I.ok.WC I.sz,I.stack,I.ur,I.z8,I.bare⟩
theorem Inv.after {Q:VK} {u:Sr} (I:Inv X pins σ H s) (h:CE X.stack X.prog X.w H s Q u s'):EP X pins σ Q u s':=by
 obtain⟨v,H',os,bare,un,z8,r,q⟩:=h
 obtain⟨hh,g,d,t,os'⟩:=s'
 obtain rfl:os'=s.os:=os
 exact⟨v,H',I.call (h':=hh) (g':=g) (d':=d) (t':=t) (ch:=[]) un z8 bare (λb z=>absurd z (by simp)),r,q⟩
end
def Fq (sp:Sp) (dvs:List V) (E:XK) (t:TA):TE:=λσ H Q=>t σ H λvs H1=>sp (vs ++ dvs) H1 Q E
def R8 (C:Addr) (m:Str) (sp:Sp) (dvs:List V) (E:XK) (ta:TE) (t:TA):TE:=λσ H Q=>ta σ H λx H1=>∃a dx fs,x=.ref a∧H1 a=some (.ins C dx fs)∧fs.lookup m=none∧
 t σ H1 λvs H2=>sp (x :: (vs ++ dvs)) H2 Q E
def Fv (C:Addr) (sp:Sp) (dvs:List V) (E:XK) (t:TA):TE:=λσ H Q=>t σ H λvs H1=>∀x dx,H1 x=none→H1 dx=none→dx≠x→
 sp (.ref x :: (vs ++ dvs)) (upd (upd H1 dx (.own x)) x (.ins C dx [])) (λv H2=>v=.non∧Q (.ref x) H2) E
def Binds (K:Sd) (fd:SH) (ps:List Str) (ds:List Sr):Prop:=
 ∀(s:Ss) (us:List Sr),K.In s.heap→(us ++ ds).length=ps.length→BindsTo s fd ⟨us,[]⟩ (ps.zip (us ++ ds))
theorem Binds.all {K:Sd} {fd:SH} {ps:List Str} (h:∀us:List Sr,us.length=ps.length→bindArgs fd ⟨us,[]⟩=pure (ps.zip us)):Binds K fd ps []:=λs us _ hl=>by
 rw[Tt] at hl ⊢
 exact .of_eq (h us hl)
def Passes (CX:sX) (X:Cx) (E:XK):Prop:=∀(pins:List (Addr × Obj)) (σ:St) (H:Hp) (s:Ss) (e:Sr) (s':Ss),Inv X pins σ H s→CX X.stack H s E e s'→X.xe e s'
section
variable {X:Cx} {CX:sX} {k:Nat} {f C:Addr} {fd:SH} {ps:List Str} {sp:Sp} {dvs:List V} {ds:List Sr} {E:XK} {x m:Str} {p pos apos:Pos} {e o:Expr} {es:List Expr} {ta:TE} {t:TA}
theorem oF {pins:List (Addr × Obj)} {σ:St} {H:Hp} {s:Ss} {Q:VK} {us:List Sr} {vs:List V} (F:zo X.prog X.w X.K X.mg X.base CX k f fd ps sp) (hr:xj k X.A) (hb:Binds X.K fd ps ds) (hd:Vals dvs ds) (hx:Passes CX X E)
  (I:Inv X pins σ H s) (r:Vals vs us) (h:sp (vs ++ dvs) H Q E):S6 (S4 X.prog X.w) X.A (call (.ref f) us) (EP X pins σ Q) X.xe s:=by
 have r2:Vals (vs ++ dvs) (us ++ ds):=r.append hd
 have hl:(us ++ ds).length=ps.length:=by rw[←r2.length];exact F.len _ _ _ _ h
 refine ES (OQ (F.run X.A X.stack s H ⟨us,[]⟩ (us ++ ds) (vs ++ dvs) Q E hr I.FH (hb s us I.bD hl) r2 h) λr s' hq=>?_)
 cases r with
 | error e=>exact hx pins σ H s e s' I hq
 | ok fl=>
  cases fl with
  | ret u=>exact I.after hq
  | next=>exact T5 hq
  | brk=>exact T5 hq
  | cont=>exact T5 hq
theorem ze (F:zo X.prog X.w X.K X.mg X.base CX k f fd ps sp) (hr:xj k X.A) (hg:Gl X x) (hm:X.mg x=some (.ref f)) (hk:NQ X.K (.ref f)=true) (hb:Binds X.K fd ps ds) (hd:Vals dvs ds) (hx:Passes CX X E)
  (ha:PA X (e :: es) t) (hdb:(x == ("__debug__" : Str))=false:=by decide) (he:Tc (e :: es) X.env=(false,eval e X.env) :: Tc es X.env:=by rfl) (hpl:(backTo pos (Tc es X.env)).any (·.1)=false:=by rfl) :
  PE X (.Call (.Name x p) (e :: es) [] pos) (Fq sp dvs E t):=by
 intro pins s σ H Q I h
 refine NM (fG I hg hm ?_ hdb)
 refine N5 (h₀:=X.base) I.ok.mod.WR hk (qW (ha pos pins s σ H _ I h) λus s1 ⟨vs,H1,I1,r,q⟩=>⟨I1.bD,?_⟩) he hpl
 exact oF F hr hb hd hx I1 r q
structure Mk (K:Sd) (C f:Addr):Prop where
 makes:E7 K C=true
 init:Tv K (.ref C) "__init__" = some (some (.ref f))
 fn:EL K (.ref f)=true
 kp:NQ K (.ref C)=true
theorem Ji {pins:List (Addr × Obj)} {σ:St} {H:Hp} {s:Ss} {Q:VK} {us:List Sr} {vs:List V} (M:Mk X.K C f) (F:zo X.prog X.w X.K X.mg X.base CX k f fd ps sp) (hr:xj (k + 1) X.A) (hb:Binds X.K fd ps ds) (hd:Vals dvs ds)
  (hx:Passes CX X E) (I:Inv X pins σ H s) (r:Vals vs us)
  (h:∀x dx,H x=none→H dx=none→dx≠x→sp (.ref x :: (vs ++ dvs)) (upd (upd H dx (.own x)) x (.ins C dx [])) (λv H2=>v=.non∧Q (.ref x) H2) E) :
  S6 (S4 X.prog X.w) X.A (call (.ref C) us) (EP X pins σ Q) X.xe s:=by
 have hq:=h (s.heap.objs.size + 1) s.heap.objs.size (I.z8.fresh (OO _)) (I.z8.fresh (SD _)) (Ti (zzl _))
 have I2:=Inv.made (C:=C) I
 have r2:Vals (V.ref (s.heap.objs.size + 1) :: (vs ++ dvs)) (Tf (s.heap.objs.size + 1) :: (us ++ ds)):=.cons rfl (r.append hd)
 have hl:(Tf (s.heap.objs.size + 1) :: us ++ ds).length=ps.length:=by
  have e:=r2.length
  rw[F.len _ _ _ _ hq] at e
  exact e.symm
 refine ES (YU (f:=f) I.bD M.makes M.init (beq_iff_eq.mp M.fn) (OQ (F.run _ X.stack _ _ ⟨Tf (s.heap.objs.size + 1) :: us,[]⟩ (Tf (s.heap.objs.size + 1) :: (us ++ ds)) _ _ E (hr.make C us [])
  (I2.FH.make C us []) (hb _ (Tf (s.heap.objs.size + 1) :: us) I2.bD hl) r2 hq) λr s' hq'=>?_))
 cases r with
 | error e=>exact hx pins σ _ _ e s' I2 hq'
 | ok fl=>
  cases fl with
  | ret u=>
   obtain⟨v,H',I3,rv,ev,q3⟩:=I2.after hq'
   subst ev
   exact⟨rv,⟨V.ref (s.heap.objs.size + 1),H',I3,rfl,q3⟩⟩
  | next=>exact T5 hq'
  | brk=>exact T5 hq'
  | cont=>exact T5 hq'
theorem qP (M:Mk X.K C f) (F:zo X.prog X.w X.K X.mg X.base CX k f fd ps sp) (hr:xj (k + 1) X.A) (hg:Gl X x) (hm:X.mg x=some (.ref C)) (hb:Binds X.K fd ps ds) (hd:Vals dvs ds) (hx:Passes CX X E)
  (ha:PA X (e :: es) t) (hdb:(x == ("__debug__" : Str))=false:=by decide) (he:Tc (e :: es) X.env=(false,eval e X.env) :: Tc es X.env:=by rfl) (hpl:(backTo pos (Tc es X.env)).any (·.1)=false:=by rfl) :
  PE X (.Call (.Name x p) (e :: es) [] pos) (Fv C sp dvs E t):=by
 intro pins s σ H Q I h
 refine NM (fG I hg hm ?_ hdb)
 refine N5 (h₀:=X.base) I.ok.mod.WR M.kp (qW (ha pos pins s σ H _ I h) λus s1 ⟨vs,H1,I1,r,q⟩=>⟨I1.bD,?_⟩) he hpl
 exact Ji M F hr hb hd hx I1 r q
theorem Gg (M:Mk X.K C f) (F:zo X.prog X.w X.K X.mg X.base CX k f fd ps sp) (hr:xj (k + 1) X.A) (hg:Gl X x) (hm:X.mg x=some (.ref C)) (hb:Binds X.K fd ps ds) (hd:Vals dvs ds) (hx:Passes CX X E)
  (hdb:(x == ("__debug__" : Str))=false:=by decide):PE X (.Call (.Name x p) [] [] pos) (Fv C sp dvs E BE):=by
 intro pins s σ H Q I h
 refine NM (fG I hg hm ?_ hdb)
 exact AW I.bD M.kp (Ji (us:=[]) M F hr hb hd hx I .nil h)
end
def PK (X:Cx) (kws:List Keyword) (t:TA):Prop:=
 ∀(pos:Pos) (pins:List (Addr × Obj)) (s:Ss) (σ:St) (H:Hp) (Q:List V→Hp→Prop),Inv X pins σ H s→t σ H Q→S6 (S4 X.prog X.w) X.A (evalAll ((ON pos (NS kws X.env)).map (·.2))) (AP X pins σ Q) X.xe s
section
variable {X:Cx} {CX:sX} {k:Nat} {f C:Addr} {fd:SH} {ps ks:List Str} {sp:Sp} {E:XK} {x m:Str} {p pos apos kpos:Pos} {e o:Expr} {es:List Expr} {kws:List Keyword} {te ta:TE} {t tk:TA} {nm:Option Str}
structure Ue (K:Sd) (fd:SH) (ps ks:List Str) (g:List Sr→List Sr→List Sr) (gV:List V→List V→List V):Prop where
 to:∀(s:Ss) (us ws:List Sr),K.In s.heap→(g us ws).length=ps.length→BindsTo s fd ⟨us,ks.zip ws⟩ (ps.zip (g us ws))
 rel:∀{vs:List V} {us:List Sr} {zs:List V} {ws:List Sr},Vals vs us→Vals zs ws→Vals (gV vs zs) (g us ws)
def Rz (sp:Sp) (gV:List V→List V→List V) (E:XK) (t tk:TA):TE:=λσ H Q=>t σ H λvs H1=>tk σ H1 λzs H2=>sp (gV vs zs) H2 Q E
variable {g:List Sr→List Sr→List Sr} {gV:List V→List V→List V}
end
structure zd (N P:List Str) (sc:Scope):Prop where
 kind:sc.kind=.function
 co:sc.isCoroutine=false
 gen:sc.isGenerator=false
 nd:N.Nodup
 pre:N.take P.length=P
 par:∀x∈P,sc.names.lookup x=some .local∨sc.names.lookup x=some .cell
 Mv:∀y∈sc.names,y.2≠.free
theorem eB {kindOf:Str→Option IY} {x:Str}:∀{binds:List (Str × Sr)} {m:Str→Option Sr},(∀v,(x,v)∉binds)→bindL kindOf binds m x=m x
 | [],_,_=>rfl
 | (n,v) :: r,m,h=>by
  unfold bindL
  rw[eB λw hw=>h w (SV _ hw)]
  split
  ·have:x≠n:=by rintro rfl;exact h v Tu
   simp [this]
  ·rfl
theorem eY {kindOf:Str→Option IY} {x:Str}:∀{binds:List (Str × Sr)} {m:Str→Option Sr},(∀v,(x,v)∉binds)→bindC kindOf binds m x=m x
 | [],_,_=>rfl
 | (n,v) :: r,m,h=>by
  unfold bindC
  rw[eY λw hw=>h w (SV _ hw)]
  split
  ·rfl
  ·have:x≠n:=by rintro rfl;exact h v Tu
   simp [this]
theorem eG {kindOf:Str→Option IY} {x:Str} {v:Sr}:∀{P:List Str} {vs:List Sr} {i:Nat} {m:Str→Option Sr},P.Nodup→P[i]?=some x→vs[i]?=some v→kindOf x=some .local→
  bindL kindOf (P.zip vs) m x=some v
 | [],_,_,_,_,h,_,_=>by simp at h
 | _ :: _,[],_,_,_,_,h,_=>by simp at h
 | p :: P,w :: vs,0,m,nd,h1,h2,hk=>by
  simp at h1 h2;subst h1;subst h2
  show bindL kindOf ((p,w) :: P.zip vs) m p=_
  unfold bindL
  rw[eB λv hv=>(Tg.mp nd).1 (E9 hv).1,if_pos hk]
  simp
 | p :: P,w :: vs,i + 1,m,nd,h1,h2,hk=>by
  show bindL kindOf ((p,w) :: P.zip vs) m x=_
  unfold bindL
  exact eG (i:=i) (Tg.mp nd).2 (by simpa using h1) (by simpa using h2) hk
theorem eW {kindOf:Str→Option IY} {x:Str} {v:Sr}:∀{P:List Str} {vs:List Sr} {i:Nat} {m:Str→Option Sr},P.Nodup→P[i]?=some x→vs[i]?=some v→kindOf x≠some .local→
  bindC kindOf (P.zip vs) m x=some v
 | [],_,_,_,_,h,_,_=>by simp at h
 | _ :: _,[],_,_,_,_,h,_=>by simp at h
 | p :: P,w :: vs,0,m,nd,h1,h2,hk=>by
  simp at h1 h2;subst h1;subst h2
  show bindC kindOf ((p,w) :: P.zip vs) m p=_
  unfold bindC
  rw[eY λv hv=>(Tg.mp nd).1 (E9 hv).1,if_neg hk]
  simp
 | p :: P,w :: vs,i + 1,m,nd,h1,h2,hk=>by
  show bindC kindOf ((p,w) :: P.zip vs) m x=_
  unfold bindC
  exact eW (i:=i) (Tg.mp nd).2 (by simpa using h1) (by simpa using h2) hk
def start (N:List Str) (vs:List V):St:=vs.map some ++ Tb (N.length - vs.length) none
def Zq (CX:sX) (P:SM) (w:Tj) (K:Sd) (mg:Str→Option Sr) (base:Heap) (N:List Str) (qual:Str) (scope:Scope) (f:Addr) (cd:Sr) (A:TM) (outer:List Env) (s:Ss) (H:Hp) (E:XK):Cx where
 prog:=P
 w:=w
 K:=K
 mg:=mg
 base:=base
 A:=A.deeper (envOfC qual scope s.heap.objs.size f cd)
 N:=N
 s₀:=s
 H₀:=H
 env:=envOfC qual scope s.heap.objs.size f cd
 outer:=outer
 stack:=envOfC qual scope s.heap.objs.size f cd :: outer
 ex:=[]
 calm:=true
 fn:=λ_=>true
 pn:=[]
 xe:=λe s'=>S6 (S4 P w) (A.deeper (envOfC qual scope s.heap.objs.size f cd)) (leaving (envOfC qual scope s.heap.objs.size f cd) e) (λ_ s''=>CX outer H s E e s'') (λe' s''=>CX outer H s E e' s'') s'
theorem QJ {sc:Scope} {n:Nat} {x:Str} (h:sc.names.lookup x=some .cell):∃c,(cellsFrom n sc.names []).lookup x=some c:=by
 have q:=ET sc.names n [] (.inl h)
 exact EZ.mp q
theorem VD {CX:sX} {P:SM} {w:Tj} {K:Sd} {mg:Str→Option Sr} {base:Heap} {N ps:List Str} {qual:Str} {scope:Scope} {f:Addr} {cd:Sr} {A:TM} {outer:List Env} {s s1:Ss} {H:Hp} {E:XK} {us:List Sr} {vs:List V}
  (S:zd N ps scope) (hd:A.handled=none) (e0:Qn P w K mg base A outer s H) (hl:vs.length=ps.length) (r:Vals vs us)
  (x:InCallC s s.heap.objs.size (bindL (envOfC qual scope s.heap.objs.size f cd).kindOf (ps.zip us) λ_=>none) (cellsFrom (s.heap.objs.size + 1) scope.names []) (bindC (envOfC qual scope s.heap.objs.size f cd).kindOf (ps.zip us) λ_=>none) s1) :
  Inv (Zq CX P w K mg base N qual scope f cd A outer s H E) [] (start N vs) H s1:=by
 have hpl:ps.length≤N.length:=by have:=congrArg Nc S.pre;rw[S8] at this;omega
 obtain⟨h1,tk,rfl,hk⟩:=x.done
 have noA:∀b:Addr,b∉(Zq CX P w K mg base N qual scope f cd A outer s H E).ex:=λb z=>absurd (show b∈([]:List Addr) from z) (by simp)
 refine⟨⟨e0.mod,S.kind,rfl,rfl,SD _,λy z c h1 h2=>?_,λy hy=>?_,λy c _ h=>?_,λ_=>hd,Around.frames_deeper e0.frames,.inr ⟨rfl,rfl⟩,λb z=>absurd z (noA b),e0.bs,e0.WC,λb _ _=>noA b,λb z=>absurd z (noA b),e0.u7,e0.Pk⟩,
  rfl,e0.bare,Un.kept hk,⟨_,x.toInCall.ns,λi y v h1 h2 h3=>?_⟩,λy c h=>⟨_,x.cell y c h⟩,e0.z8.fresh (SD _),λy c h=>?_,λp hp=>absurd (show p∈([]:List (Addr × Obj)) from hp) (by simp),e0.z8.kept hk,?_⟩
 ·exact name_of_addr x.apart (Nj h1) (Nj h2)
 ·have hy:scope.names.lookup y=some .cell∨scope.names.lookup y=some .free:=hy
  rcases hy with hy | hy
  ·exact QJ hy
  ·exact absurd rfl (S.Mv _ (Nj hy))
 ·exact EU (x.above y c (Nj h))
 ·have hi:i < vs.length:=by
   unfold start at h2
   by_cases hi:i < vs.length
   ·exact hi
   ·rw[T3 (by simpa using hi)] at h2
    rw[EG] at h2
    split at h2<;>cases h2
  have ha:vs[i]?=some v:=by
   unfold start at h2
   rw[Nx (by simpa using hi),SW] at h2
   cases e:vs[i]? with
   | none=>rw[e] at h2;cases h2
   | some a=>rw[e] at h2;cases h2;rfl
  obtain⟨u,hu,rv⟩:=r.get ha
  have hp:ps[i]?=some y:=by
   rw[←S.pre,NU (by omega)];exact h1
  have ndP:ps.Nodup:=by rw[←S.pre];exact S.nd.sublist (OU _ _)
  refine⟨u,rv,?_⟩
  rcases S.par y (SN hp) with k | k
  ·exact .inl ⟨k,eG ndP hp hu k⟩
  ·obtain⟨c,e⟩:=QJ (n:=s.heap.objs.size + 1) k
   refine .inr ⟨.inl k,c,e,?_⟩
   have q:=x.cell y c e
   rw[eW ndP hp hu (by show scope.names.lookup y≠_;rw[k];decide)] at q
   exact q
 ·exact e0.z8.fresh (EU (x.above y c (Nj h)))
 ·unfold start
  show _=N.length
  rw[Sl,Su,Nf]
  omega
theorem Pj {CX:sX} {P:SM} {w:Tj} {K:Sd} {mg:Str→Option Sr} {base:Heap} {k:Nat} {f:Addr} {name qual:Str} {params:Arguments} {body:List Stmt} {scope:Scope} {dV kV doc pm cdv ct oc:Sr} {an od:Option Addr}
  {osl:Array (Option Sr)} {N ps:List Str} {sp:Sp} (lk:K.lookup f=some ⟨oc,od,.func (NW name qual params body scope dV kV doc pm an cdv ct),osl⟩) (hcd:Ic K cdv qual=true) (S:zd N ps scope)
  (len:∀vs H Q E,sp vs H Q E→vs.length=ps.length)
  (hbody:∀(A:TM) (outer:List Env) (s:Ss) (H:Hp) (vs:List V) (Q:VK) (E:XK),xj k (A.deeper (envOfC qual scope s.heap.objs.size f cdv))→sp vs H Q E→
   ∃t,JO (Zq CX P w K mg base N qual scope f cdv A outer s H E) body t∧t { nx:=λ_ H'=>Q .non H',rt:=Q } (start N vs) H) :
  zo P w K mg base CX (k + 1) f (NW name qual params body scope dV kV doc pm an cdv ct) ps sp:=by
 refine⟨len,λA outer s H args us vs Q E hr e0 hb r hsp=>?_⟩
 have hl:=len _ _ _ _ hsp
 have KX:K.In s.heap:=e0.mod.WR.keeps λb o e=>(e0.bs b o e).1
 have lim:s.heap.NoLimit:=e0.mod.nolimit.keeps λb o e=>(e0.bs b o e).1
 have hkind:∀y∈ps.zip us,scope.names.lookup y.1=some .local∨(scope.names.lookup y.1=some .cell∧((cellsFrom (s.heap.objs.size + 1) scope.names []).lookup y.1).isSome=true):=λ⟨n,v⟩ hy=>by
  rcases S.par n (E9 hy).1 with q | q
  ·exact .inl q
  ·exact .inr ⟨q,ET _ _ _ (.inl q)⟩
 refine codeAny_call_function hr.depth (KX _ _ lk) rfl S.co S.gen rfl (PySem.W.codeRec_of KX hcd) (hb _ _ _ _ ?_)
 refine wpAny_newFunctionEnv_cells S.kind hkind λenv he s1 x=>?_
 subst he
 refine⟨lim.keeps x.toInCall.keep,codeAny_func ?_⟩
 obtain⟨t,ht,hq⟩:=hbody A outer s H vs Q E (hr.deeper _) hsp
 have I:Inv (Zq CX P w K mg base N qual scope f cdv A outer s H E) [] (start N vs) H s1:=VD S hr.hd e0 hl r x
 refine TR (ht [] s1 (start N vs) H _ I hq) (λfl s' hs=>?_) λe s' hs=>hs
 have fin:∀{σ':St} {H':Hp} {v:V} {u:Sr},Inv (Zq CX P w K mg base N qual scope f cdv A outer s H E) [] σ' H' s'→RelV v u→Q v H'→CE outer P w H s Q u s':=
  λ{σ' H' v u} J rv q=>⟨v,H',J.os,J.bare,J.base,J.z8,rv,q⟩
 cases fl with
 | ret u=>
  obtain⟨v,σ',H',J,rv,q⟩:=hs
  exact fin J rv q
 | next=>
  obtain⟨σ',H',J,q⟩:=hs
  exact fin (v:=V.non) (u:=Oa) J rfl q
 | brk=>
  obtain⟨_,_,_,q⟩:=hs
  exact T5 q
 | cont=>
  obtain⟨_,_,_,q⟩:=hs
  exact T5 q
end L2
namespace L2
open PySem PySem.Spec PyProof.Rows
section
variable {X:Cx} {x:Str} {p pos:Pos} {e:Expr} {es:List Expr} {t:TA} {id T:String} {r:List V→Hp→VK→Prop}
def R3 (r:List V→Hp→VK→Prop) (t:TA):TE:=λσ H Q=>t σ H λvs H1=>r vs H1 Q
theorem zX (hc:xI X (.builtin id) r) (hg:Gl X x) (hm:X.mg x=none) (hv:Ov x=some (.builtin id)) (ha:PA X (e :: es) t) (hn:x≠"__name__":=by decide) (hdb:(x == ("__debug__" : Str))=false:=by decide)
  (he:Tc (e :: es) X.env=(false,eval e X.env) :: Tc es X.env:=by rfl) (hpl:(backTo pos (Tc es X.env)).any (·.1)=false:=by rfl):PE X (.Call (.Name x p) (e :: es) [] pos) (R3 r t):=by
 intro pins s σ H Q I h
 refine NM (rq I hg hm hv ?_ hn hdb)
 exact zzs (qW (ha pos pins s σ H _ I h) λus s1 ⟨vs,H1,I1,r1,q1⟩=>hc pins s1 σ H1 vs us Q I1 r1 q1) he hpl
theorem qz (hc:xI X (.type T) r) (hg:Gl X x) (hm:X.mg x=none) (hv:Ov x=some (.type T)) (ha:PA X (e :: es) t) (hn:x≠"__name__":=by decide) (hdb:(x == ("__debug__" : Str))=false:=by decide)
  (he:Tc (e :: es) X.env=(false,eval e X.env) :: Tc es X.env:=by rfl) (hpl:(backTo pos (Tc es X.env)).any (·.1)=false:=by rfl):PE X (.Call (.Name x p) (e :: es) [] pos) (R3 r t):=by
 intro pins s σ H Q I h
 refine NM (rq I hg hm hv ?_ hn hdb)
 exact N0 (qW (ha pos pins s σ H _ I h) λus s1 ⟨vs,H1,I1,r1,q1⟩=>hc pins s1 σ H1 vs us Q I1 r1 q1) he hpl
end
end L2
namespace HT
open PySem PyProof.Rows
def lexLt:List Int→List Int→Bool
 | [],[]=>false
 | [],_ :: _=>true
 | _ :: _,[]=>false
 | x :: xs,y :: ys=>if x=y then lexLt xs ys else decide (x < y)
section
open PySem.SeqAt
open PySem.AutoSeq1 (wpAny_loadPart')
open PySem.MeetsSeq PySem.MeetsSeq2 PySem.MeetsSeq3
end
section
variable {prog:SM} {w:Tj} {A:TM} {E:Sr→Ss→Prop} {s:Ss}
def Z4 (n d:Nat):Option Int→Nat
 | none=>d
 | some v=>if v < 0 then (v + (n:Int)).toNat else min v.toNat n
theorem Je (n d:Nat):Z4 n d none=d:=rfl
theorem sO (n d k:Nat):Z4 n d (some (k:Int))=min k n:=by
 show (if (k:Int) < 0 then ((k:Int) + (n:Int)).toNat else min (k:Int).toNat n)=min k n
 rw[if_neg (by omega),zzq]
end
end HT
namespace L2
open PySem PySem.Spec PyProof.Rows
abbrev TO:=St→Hp→(Option Int→Hp→Prop)→Prop
def PO (X:Cx) (e:Option Expr) (t:TO):Prop:=
 ∀(pins:List (Addr × Obj)) (s:Ss) (σ:St) (H:Hp) (Q:Option Int→Hp→Prop),Inv X pins σ H s→t σ H Q→
  S6 (S4 X.prog X.w) X.A (evalPart e X.env) (λu s'=>∃o H',Inv X pins σ H' s'∧IsPart u o∧Q o H') X.xe s
def BA:TO:=λ_ H Q=>Q none H
def C3 (t:TE):TO:=λσ H Q=>t σ H λx H1=>∃i,x=.int i∧Q (some i) H1
section
variable {X:Cx} {e:Expr} {te:TE} {lo hi:Option Expr} {tl th:TO} {pos p2:Pos}
theorem kc:PO X none BA:=by
 intro pins s σ H Q I h
 rw[evalPart_none]
 exact Td ⟨none,H,I,.none,h⟩
theorem qJ (h:PE X e te):PO X (some e) (C3 te):=by
 intro pins s σ H Q I hw
 rw[evalPart_some]
 refine qW (h pins s σ H _ I hw) λu s1 ⟨x,H1,I1,r1,q1⟩=>?_
 obtain⟨i,rfl,q⟩:=q1
 obtain⟨t,rfl⟩:=r1
 exact⟨some i,H1,I1,.int i t,q⟩
def Fc (X:Cx) (r:V→Option Int→Option Int→Hp→VK→Prop):Prop:=
 ∀(pins:List (Addr × Obj)) (s:Ss) (σ:St) (H:Hp) (x:V) (v vl vu:Sr) (lo hi:Option Int) (sl:Addr) (Q:VK),Inv X pins σ H s→RelV x v→s.heap.IsSliceOf sl vl vu .none→IsPart vl lo→IsPart vu hi→r x lo hi H Q→
  ∃T id,typeLookup (.type T) "__getitem__" = pure (some (.builtin id))∧s.TypeIs v T∧S6 (S4 X.prog X.w) X.A (getItem v (.ref sl)) (EP X pins σ Q) X.xe s
def L1 (r:V→Option Int→Option Int→Hp→VK→Prop) (te:TE) (tl th:TO):TE:=λσ H Q=>te σ H λx H1=>tl σ H1 λl H2=>th σ H2 λu H3=>r x l u H3 Q
theorem qR {r:V→Option Int→Option Int→Hp→VK→Prop} (hr:Fc X r) (he:PE X e te) (hl:PO X lo tl) (hu:PO X hi th):PE X (.Subscript e (.Slice lo hi none p2) pos) (L1 r te tl th):=by
 intro pins s σ H Q I h
 refine Subscript_ (qW (he pins s σ H _ I h) λv s1 ⟨x,H1,I1,r1,q1⟩=>?_)
 refine wpAny_Slice (qW (hl pins s1 σ H1 _ I1 q1) λvl s2 ⟨l,H2,I2,pl,q2⟩=>qW (hu pins s2 σ H2 _ I2 q2) λvu s3 ⟨u,H3,I3,pu,q3⟩=>?_)
 rw[evalPart_none]
 refine Td ?_
 have I4:Inv X pins σ H3 { s3 with heap:=s3.heap.push { cls:=.type "slice",data:=.fields #[vl,vu,.none] } }:=I3.kept (t':=s3.toks) λb ob q=>SQ _ q
 obtain⟨T,id,hT,ht,hg⟩:=hr pins { s3 with heap:=s3.heap.push { cls:=.type "slice",data:=.fields #[vl,vu,.none] } } σ H3 x v vl vu l u s3.heap.objs.size Q I4 r1 (zqT ..) pl pu q3
 show S6 (S4 X.prog X.w) X.A (subscriptTail e (.Slice lo hi none p2) v (.ref s3.heap.objs.size)) (EP X pins σ Q) X.xe { s3 with heap:=s3.heap.push { cls:=.type "slice",data:=.fields #[vl,vu,.none] } }
 exact tail_any (ops:=[.ref s3.heap.objs.size,v]) ht hT hg (by with_unfolding_all rfl)
def cb (xs:List V) (lo hi:Option Int):List V:=(xs.drop (HT.Z4 xs.length 0 lo)).take (HT.Z4 xs.length xs.length hi - HT.Z4 xs.length 0 lo)
theorem QW (xs:List V) (lo hi:Option Int):(cb xs lo hi).length≤xs.length:=by
 unfold cb
 rw[S8,Nb]
 omega
def LB (K:Sd):V→Option Int→Option Int→Hp→VK→Prop:=λx lo hi H Q=>∃a xs,x=.ref a∧jo K H a xs∧
 ¬(HT.Z4 xs.length 0 lo=0∧HT.Z4 xs.length xs.length hi=xs.length)∧∀p,H p=none→Q (.ref p) (upd H p (.tup (cb xs lo hi)))
def LY (K:Sd):R2:=λx y H Q=>∃a b ns ms,x=.ref a∧y=.ref b∧jo K H a (ns.map V.int)∧jo K H b (ms.map V.int)∧Q (.bl (HT.lexLt ns ms)) H
def RC (K:Sd):R2:=λx y H Q=>∃a b xs ys,x=.ref a∧y=.ref b∧jo K H a xs∧jo K H b ys∧xs≠[]∧xs.length + ys.length≤S0∧
 (ys=[]→Q (.ref a) H)∧(ys≠[]→∀p,H p=none→Q (.ref p) (upd H p (.tup (xs ++ ys))))
end
end L2
namespace L2
open PySem PySem.Spec PyProof.Rows
def JS (n:Nat) (i:Int):Option Nat:=if 0≤i then (if i < n then some i.toNat else none) else if -(n:Int)≤i then some (i + n).toNat else none
def vC {α:Type} (xs:List α) (i:Int):Option α:=(JS xs.length i).bind λj=>xs[j]?
theorem KU {n:Nat} {i:Int} {j:Nat} (h:JS n i=some j):seqIndex? i n=some j∧j < n∧-(n:Int)≤i∧i < n:=by
 unfold JS at h
 by_cases h0:0≤i
 ·rw[if_pos h0] at h
  by_cases h1:i < n
  ·rw[if_pos h1] at h
   have e:i.toNat=j:=Tq h
   exact⟨by rw[seqIndex_of h0 h1,e],by omega,by omega,h1⟩
  ·rw[if_neg h1] at h;cases h
 ·rw[if_neg h0] at h
  by_cases h1:-(n:Int)≤i
  ·rw[if_pos h1] at h
   have e:(i + n).toNat=j:=Tq h
   exact⟨by rw[seqIndex_neg (by omega) h1,e],by omega,h1,by omega⟩
  ·rw[if_neg h1] at h;cases h
theorem aR {α:Type} {xs:List α} {i:Int} {v:α} (h:vC xs i=some v):∃j,seqIndex? i xs.length=some j∧xs[j]?=some v∧j < xs.length∧-(xs.length:Int)≤i∧i < xs.length:=by
 unfold vC at h
 cases e:JS xs.length i with
 | none=>rw[e] at h;cases h
 | some j=>
  rw[e] at h
  obtain⟨h1,h2,h3,h4⟩:=KU e
  exact⟨j,h1,h,h2,h3,h4⟩
theorem kT {α:Type} {xs:List α} {j:Nat} {v:α} (h:xs[j]?=some v):vC xs (j:Int)=some v:=by
 have hj:j < xs.length:=(S3.mp h).1
 have e:JS xs.length (j:Int)=some j:=by
  unfold JS
  rw[if_pos (by omega),if_pos (by omega)];simp
 unfold vC;rw[e];exact h
theorem tF {α:Type} (xs:List α) (v:α):vC (xs ++ [v]) (-1)=some v:=by
 have hl:(xs ++ [v]).length=xs.length + 1:=by simp
 have e:JS (xs ++ [v]).length (-1)=some xs.length:=by
  unfold JS
  rw[hl,if_neg (by decide),if_pos (by omega)]
  congr 1
  omega
 unfold vC
 rw[e]
 show (xs ++ [v])[xs.length]?=some v
 simp
def HZ (b:Expr):Prop:=∀o i,subscripted b false o i=operate [o,i] (getItem o i)
def Dp (X:Cx) (r:R2):Prop:=
 ∀(value slice:Expr) (pins:List (Addr × Obj)) (s:Ss) (σ:St) (H:Hp) (x y:V) (v u:Sr) (Q:VK),Inv X pins σ H s→RelV x v→RelV y u→r x y H Q→
  subscripted slice false v u=operate [v,u] (getItem v u)→S6 (S4 X.prog X.w) X.A (subscriptTail value slice v u) (EP X pins σ Q) X.xe s
def aC (X:Cx) (id:String) (r:V→List V→Hp→VK→Prop):Prop:=
 ∀(pins:List (Addr × Obj)) (s:Ss) (σ:St) (H:Hp) (x:V) (xs:List V) (v:Sr) (us:List Sr) (Q:VK),Inv X pins σ H s→RelV x v→Vals xs us→r x xs H Q→
  S6 (S4 X.prog X.w) X.A (call (.builtin id) (v :: us)) (EP X pins σ Q) X.xe s
section
variable {X:Cx} {a b:Expr} {ta tb:TE} {pos:Pos}
theorem zu {r:R2} (hr:Dp X r) (ha:PE X a ta) (hb:PE X b tb) (hs:HZ b):PE X (.Subscript a b pos) (M9 r ta tb):=by
 intro pins s σ H Q I h
 exact Subscript_ (Fn ha hb I h λv u s2 x y H2 I2 rx ry q=>hr a b pins s2 σ H2 x y v u Q I2 rx ry q (hs _ _))
def MH (K:Sd):R2:=λx y H Q=>∃p xs i v,x=.ref p∧y=.int i∧zK K H p xs∧vC xs i=some v∧Q v H
def MB (K:Sd):R2:=λx y H Q=>∃p xs i v,x=.ref p∧y=.int i∧jo K H p xs∧vC xs i=some v∧Q v H
def CQ:R2:=λx y H Q=>∃z i c,x=.str z∧y=.int i∧z.length≤S0∧vC z.cps.toList i=some c∧Q (.str ⟨#[c]⟩) H
theorem HA:Dp X (MH X.K):=by
 intro value slice pins s σ H x y v u Q I rx ry h hs
 obtain⟨p,xs,i,z,rfl,rfl,hq,he,q⟩:=h
 cases rx
 obtain⟨t,rfl⟩:=ry
 obtain⟨its,r,pl,hz⟩:=I.list hq
 obtain⟨j,h1,h2,h3,h4,h5⟩:=aR he
 obtain⟨w,ew,rw'⟩:=r.get h2
 have hl:=r.length
 have hn:=rk
 have fin:EP X pins σ Q w s:=⟨z,H,I,rw',q⟩
 by_cases h0:0≤i
 ·have hj:i.toNat=j:=by
   rw[seqIndex_of h0 h5] at h1
   exact Tq h1
  exact item_listR pl.isList h0 (by omega) (by rw[hj];simpa using ew) fin hs
 ·have hj:(i + (its.toArray.size:Int)).toNat=j:=by
   rw[seqIndex_neg (by omega) h4] at h1
   rw[Th,←hl]
   exact Tq h1
  exact subscriptTail_builtinR (x:=w) pl.isList.typeIs slot_list_getitem.lookup
   (wpAny_getItem_list_neg (Q:=λr s'=>r=w∧EP X pins σ Q r s') pl.isList (by omega) (by rw[Th]<;>omega) (by omega) (by rw[hj];simpa using ew) ⟨rfl,fin⟩) hs
theorem FN:Dp X (MB X.K):=by
 intro value slice pins s σ H x y v u Q I rx ry h hs
 obtain⟨p,xs,i,z,rfl,rfl,hq,he,q⟩:=h
 cases rx
 obtain⟨t,rfl⟩:=ry
 obtain⟨its,r,pl,hz⟩:=I.tuple hq
 obtain⟨j,h1,h2,h3,h4,h5⟩:=aR he
 obtain⟨w,ew,rw'⟩:=r.get h2
 have hl:=r.length
 have hn:=rk
 have fin:EP X pins σ Q w s:=⟨z,H,I,rw',q⟩
 exact subscriptTail_builtinR (x:=w) pl.typeIs slot_tuple_getitem.lookup
  (getItem_tuple (j:=j) (Q:=λr s'=>r=w∧EP X pins σ Q r s') pl (by omega) (by omega) (by rw[Th,←hl];exact h1) (by simpa using ew) ⟨rfl,fin⟩) hs
theorem Zr:Dp X CQ:=by
 intro value slice pins s σ H x y v u Q I rx ry h hs
 obtain⟨z,i,c,rfl,rfl,hz,he,q⟩:=h
 obtain⟨t,rfl⟩:=rx
 obtain⟨t',rfl⟩:=ry
 obtain⟨j,h1,h2,h3,h4,h5⟩:=aR he
 have hl:z.cps.toList.length=z.length:=by simp [ND]
 rw[hl] at h1 h4 h5
 have hn:=rk
 exact tail_any (typeIs_str s z t) slot_str_getitem.lookup (getItem_str (c:=c) (by
  have e1:decide (i < -(2 ^ 63:Int))=false:=decide_eq_false (by omega)
  have e2:decide (i≥2 ^ 63)=false:=decide_eq_false (by omega)
  rw[e1,e2,Bool.or_false]) (by rw[h1];simpa using h2) ⟨.str ⟨#[c]⟩,H,I.tok _,⟨_,rfl⟩,q⟩) hs
def Sw (K:Sd):R2:=λx y H Q=>MH K x y H Q∨MB K x y H Q∨CQ x y H Q
theorem Xc (its:List Sr) (n j:Nat) (u:Sr):EN (·.setIfInBounds j u) { cls:=.type "list",data:=.seq its.toArray n }={ cls:=.type "list",data:=.seq (its.set j u).toArray n }:=by
 simp [EN]
theorem Inv.lst {pins:List (Addr × Obj)} {σ:St} {H:Hp} {s:Ss} {p:Addr} {xs:List V} (I:Inv X pins σ H s) (h:H p=some (.lst xs)) :
  ∃(its:List Sr) (n:Nat),Vals xs its∧s.heap.get? p=some { cls:=.type "list",data:=.seq its.toArray n }∧xs.length≤S0:=by
 obtain⟨z,its,n,r,e⟩:=I.z8 p _ h
 exact⟨its,n,r,e,z⟩
theorem Inv.F4 {pins:List (Addr × Obj)} {σ:St} {H:Hp} {s:Ss} {p:Addr} {xs ys:List V} {its its':List Sr} {n n':Nat} {f:Obj→Obj} (I:Inv X pins σ H s) (h:H p=some (.lst xs))
  (ho:s.heap.get? p=some { cls:=.type "list",data:=.seq its.toArray n }) (hf:f { cls:=.type "list",data:=.seq its.toArray n }={ cls:=.type "list",data:=.seq its'.toArray n' }) (r:Vals ys its') (hz:ys.length≤S0) (t:Nat) :
  Inv X pins σ (upd H p (.lst ys)) { s with heap:=s.heap.update p f,toks:=t }:=by
 have e:(s.heap.update p f).get? p=some { cls:=.type "list",data:=.seq its'.toArray n' }:=by
  rw[N8 f ho (by rw[hf]<;>rfl),hf]
 refine I.write (x:=p) (e:=p) (by rw[h];trivial) (.inl rfl) (λb u hb q=>(TN _ _ (TH hb)).trans q) ⟨_,e⟩ ?_
 exact⟨hz,its',n',r,e⟩
def CV:V→V→V→Hp→(Hp→Prop)→Prop:=λo i v H Q=>∃p xs k j,o=.ref p∧i=.int k∧H p=some (.lst xs)∧JS xs.length k=some j∧Q (upd H p (.lst (xs.set j v)))
theorem set_list:Ha X CV:=by
 intro pins s σ H o i v ov iv u Q I ro ri rv h
 obtain⟨p,xs,k,j,rfl,rfl,hp,hj,q⟩:=h
 cases ro
 obtain⟨t,rfl⟩:=ri
 obtain⟨its,n,r,ho,hz⟩:=I.lst hp
 obtain⟨h1,h2,h3,h4⟩:=KU hj
 have hl:=r.length
 have hn:=rk
 have I':Inv X pins σ (upd H p (.lst (xs.set j v))) { s with heap:=s.heap.update p (EN (·.setIfInBounds j u)) }:=
  I.F4 hp ho (Xc its n j u) (r.set rv j) (by rw[zzW];exact hz) s.toks
 by_cases h0:0≤k
 ·have hk:k.toNat=j:=by
   rw[seqIndex_of h0 h4] at h1
   exact Tq h1
  exact PySem.W.ki_setAt ho h0 (by omega) (by rw[Th,←hl];exact h4) (by rw[hk];exact⟨_,I',q⟩)
 ·have hk:(k + (its.toArray.size:Int)).toNat=j:=by
   rw[seqIndex_neg (by omega) h3] at h1
   rw[Th,←hl]
   exact Tq h1
  exact PySem.W.ki_setBack ho (by omega) (by rw[Th,←hl];exact h3) (by omega) (by rw[hk];exact⟨_,I',q⟩)
theorem Qj (lo hi:Option Int) (n:Nat):(sliceBounds lo hi none n).1=((HT.Z4 n 0 lo:Nat):Int)∧(sliceBounds lo hi none n).2.1=((HT.Z4 n n hi:Nat):Int)∧(sliceBounds lo hi none n).2.2=1:=by
 refine⟨?_,?_,rfl⟩
 ·cases lo with
  | none=>simp [sliceBounds,HT.Z4]
  | some i=>
   simp only[sliceBounds,HT.Z4,zzt,show (1:Int) > 0 by decide,if_true]
   by_cases h:i < 0
   ·simp only[h,if_true]<;>omega
   ·simp only[h,if_false]<;>omega
 ·cases hi with
  | none=>simp [sliceBounds,HT.Z4]
  | some i=>
   simp only[sliceBounds,HT.Z4,zzt,show (1:Int) > 0 by decide,if_true]
   by_cases h:i < 0
   ·simp only[h,if_true]<;>omega
   ·simp only[h,if_false]<;>omega
theorem ee (its:List Sr) (lo hi:Option Int):slicePick its.toArray lo hi none=((its.drop (HT.Z4 its.length 0 lo)).take (HT.Z4 its.length its.length hi - HT.Z4 its.length 0 lo)).toArray:=by
 obtain⟨h1,h2,h3⟩:=Qj lo hi its.toArray.size
 unfold slicePick
 rw[h1,h2,h3]
 simp only[sliceRange_one,pick_run,Th]<;>rfl
def U2 (K:Sd):V→Option Int→Option Int→Hp→VK→Prop:=λx lo hi H Q=>∃a xs,x=.ref a∧zK K H a xs∧∀p,H p=none→Q (.ref p) (upd H p (.lst (cb xs lo hi)))
theorem BR:Fc X (U2 X.K):=by
 intro pins s σ H x v vl vu lo hi sl Q I rx hs pl pu h
 obtain⟨a,xs,rfl,hx,q⟩:=h
 cases rx
 obtain⟨its,r,ht,hz⟩:=I.list hx
 have hlen:=r.length
 refine⟨"list",_,slot_list_getitem.lookup,ht.isList.typeIs,?_⟩
 refine wpAny_getItem_list_slice ht.isList hs pl pu .none (by simp) ?_ (by rw[Th]<;>omega)
 rw[ee,←hlen]
 refine⟨.ref s.heap.objs.size,_,I.laid (t':=s.toks) (o:=.lst (cb xs lo hi)) (λb ob q=>SQ _ q) (SD _) ?_,rfl,q _ (I.z8.fresh (SD _))⟩
 exact⟨TV (QW xs lo hi) hz,_,0,(r.drop (HT.Z4 xs.length 0 lo)).take (HT.Z4 xs.length xs.length hi - HT.Z4 xs.length 0 lo),To _ rfl⟩
def pF:V→Bool
 | .non=>true
 | .bl _=>true
 | .int _=>true
 | .str _=>true
 | _=>false
def HU:V→V→Bool
 | .non,.non=>true
 | .bl a,.bl b=>a == b
 | .bl a,.int b=>(if a then 1 else 0) == b
 | .int a,.bl b=>a == (if b then 1 else 0)
 | .int a,.int b=>a == b
 | .str a,.str b=>a == b
 | _,_=>false
theorem FP {A:TM} {s:Ss} {y x:V} {u v:Sr} (ry:RelV y u) (rx:RelV x v) (fy:pF y=true) (fx:pF x=true):zqN A s u v (HU y x):=by
 cases y with
 | non=>
  cases ry
  cases x with
  | non=>cases rx;exact zq8 _
  | bl b=>cases rx;exact zqW b
  | int b=>obtain⟨t,rfl⟩:=rx;exact zqF b t
  | str b=>obtain⟨t,rfl⟩:=rx;exact zqM b t
  | _=>exact absurd (show false=true from fx) S7
 | bl a=>
  cases ry
  cases x with
  | non=>cases rx;exact zqY a
  | bl b=>cases rx;exact zqG a b
  | int b=>obtain⟨t,rfl⟩:=rx;exact zqD a b t
  | str b=>obtain⟨t,rfl⟩:=rx;exact zqC a b t
  | _=>exact absurd (show false=true from fx) S7
 | int a=>
  obtain⟨t',rfl⟩:=ry
  cases x with
  | non=>cases rx;exact zqU a t'
  | bl b=>cases rx;exact zqR a t' b
  | int b=>obtain⟨t,rfl⟩:=rx;exact zqO a t' b t
  | str b=>obtain⟨t,rfl⟩:=rx;exact AU a t' b t
  | _=>exact absurd (show false=true from fx) S7
 | str a=>
  obtain⟨t',rfl⟩:=ry
  cases x with
  | non=>cases rx;exact zqL a t'
  | bl b=>cases rx;exact zqS a t' b
  | int b=>obtain⟨t,rfl⟩:=rx;exact AR a t' b t
  | str b=>obtain⟨t,rfl⟩:=rx;exact zqI a t' b t
  | _=>exact absurd (show false=true from fx) S7
 | _=>exact absurd (show false=true from fy) S7
def J3 (x:V) (u:Sr):Bool:=match u with
 | .none=>HU .non x
 | .bool b=>HU (.bl b) x
 | .int i _=>HU (.int i) x
 | .str z _=>HU (.str z) x
 | _=>false
theorem Yd {x y:V} {u:Sr} (r:RelV y u) (f:pF y=true):J3 x u=HU y x:=by
 cases y with
 | non=>cases r;rfl
 | bl b=>cases r;rfl
 | int i=>obtain⟨t,rfl⟩:=r;rfl
 | str z=>obtain⟨t,rfl⟩:=r;rfl
 | _=>exact absurd (show false=true from f) S7
theorem cw {x:V}:∀{xs:List V} {us:List Sr},Vals xs us→xs.all pF=true→us.any (J3 x)=xs.any λy=>HU y x
 | _,_,.nil,_=>rfl
 | y :: xs,u :: us,.cons r t,f=>by
  rw[Ob,Te] at f
  rw[Of,Of,Yd r f.1,cw t f.2]
theorem pU {A:TM} {s:Ss} {x:V} {v:Sr} (rx:RelV x v) (fx:pF x=true):∀{xs:List V} {us:List Sr},Vals xs us→xs.all pF=true→∀u∈us,zqN A s u v (J3 x u)
 | _,_,.nil,_=>λu hu=>by cases hu
 | y :: xs,u :: us,.cons r t,f=>λu' hu=>by
  rw[Ob,Te] at f
  rcases So.mp hu with rfl | hu
  ·rw[Yd r f.1];exact FP r rx f.1 fx
  ·exact pU rx fx t f.2 u' hu
def Qt (x:V) (xs:List V):Bool:=xs.any λy=>HU y x
def CZ (K:Sd) (neg:Bool):R2:=λx y H Q=>∃p xs,y=.ref p∧(zK K H p xs∨jo K H p xs)∧pF x=true∧xs.all pF=true∧Q (.bl (if neg then !Qt x xs else Qt x xs)) H
theorem Wv:bM X (Ny .In) (CZ X.K false):=by
 intro pins s σ H x y v u Q I rx ry h
 obtain⟨p,xs,rfl,hq,fx,fs,q⟩:=h
 cases ry
 rcases hq with hq | hq
 ·obtain⟨its,r,pl,hz⟩:=I.list hq
  refine SeqAt.in_listAt (J3 x) pl.isList (λw hw=>pU rx fx r fs w (by simpa using hw)) ⟨.bl _,H,I,rfl,?_⟩
  rw[show its.toArray.any (J3 x)=its.any (J3 x) by simp,cw r fs]
  exact q
 ·obtain⟨its,r,pl,hz⟩:=I.tuple hq
  refine SeqAt.in_tupleAt (J3 x) pl (λw hw=>pU rx fx r fs w (by simpa using hw)) ⟨.bl _,H,I,rfl,?_⟩
  rw[show its.toArray.any (J3 x)=its.any (J3 x) by simp,cw r fs]
  exact q
theorem ZS:bM X (Ny .NotIn) (CZ X.K true):=by
 intro pins s σ H x y v u Q I rx ry h
 obtain⟨p,xs,rfl,hq,fx,fs,q⟩:=h
 cases ry
 rcases hq with hq | hq
 ·obtain⟨its,r,pl,hz⟩:=I.list hq
  refine SeqAt.notIn_listAt (J3 x) pl.isList (λw hw=>pU rx fx r fs w (by simpa using hw)) ⟨.bl _,H,I,rfl,?_⟩
  rw[show its.toArray.any (J3 x)=its.any (J3 x) by simp,cw r fs]
  exact q
 ·obtain⟨its,r,pl,hz⟩:=I.tuple hq
  refine SeqAt.notIn_tupleAt (J3 x) pl (λw hw=>pU rx fx r fs w (by simpa using hw)) ⟨.bl _,H,I,rfl,?_⟩
  rw[show its.toArray.any (J3 x)=its.any (J3 x) by simp,cw r fs]
  exact q
theorem aT:xI X (.builtin "len") (λxs H Q=>∃p ys,xs=[.ref p]∧(zK X.K H p ys∨jo X.K H p ys)∧Q (.int ys.length) H):=by
 intro pins s σ H xs us Q I r h
 obtain⟨p,ys,rfl,hq,q⟩:=h
 obtain⟨u,rfl,rx⟩:=vals1 r
 cases rx
 have hn:=rk
 rcases hq with hq | hq
 ·obtain⟨its,r',pl,hz⟩:=I.list hq
  have hlen:=r'.length
  exact Calls.call_len_list pl.isList (by simp only[Th]<;>omega) ⟨.int ys.length,H,I.tok _,⟨s.toks + 1,by rw[Th,hlen]⟩,q⟩
 ·obtain⟨its,r',pl,hz⟩:=I.tuple hq
  have hlen:=r'.length
  exact len_tuple pl (by simp only[Th]<;>omega) ⟨.int ys.length,H,I.tok _,⟨s.toks + 1,by rw[Th,hlen]⟩,q⟩
theorem cy:xI X (.builtin "len") (λxs H Q=>∃z,xs=[.str z]∧z.length≤S0∧Q (.int z.length) H):=by
 intro pins s σ H xs us Q I r h
 obtain⟨z,rfl,hz,q⟩:=h
 obtain⟨u,rfl,t,rfl⟩:=vals1 r
 have hn:=rk
 exact len_str (by omega) ⟨.int z.length,H,I.tok _,⟨_,rfl⟩,q⟩
theorem aN:xI X (.type "list") (λxs H Q=>∃p ys,xs=[.ref p]∧(zK X.K H p ys∨jo X.K H p ys)∧∀l,H l=none→Q (.ref l) (upd H l (.lst ys))):=by
 intro pins s σ H xs us Q I r h
 obtain⟨p,ys,rfl,hq,q⟩:=h
 obtain⟨u,rfl,rx⟩:=vals1 r
 cases rx
 have fin:∀(its:List Sr),Vals ys its→ys.length≤S0→∀(h':Heap) (c':Nat),(∀b o',s.heap.get? b=some o'→h'.get? b=some o')→
   h'.get? s.heap.objs.size=some { cls:=.type "list",dict:=none,data:=.seq its.toArray c',slots:=#[] }→EP X pins σ Q (.ref s.heap.objs.size) { s with heap:=h' }:=λits r' hz h' c' kp e=>
  ⟨.ref s.heap.objs.size,_,I.laid (t':=s.toks) kp (SD _) (show qY X.prog X.w _ h' _ (.lst ys) from ⟨hz,its,c',r',e⟩),rfl,q _ (I.z8.fresh (SD _))⟩
 rcases hq with hq | hq
 ·obtain⟨its,r',pl,hz⟩:=I.list hq
  have hlen:=r'.length
  obtain⟨o,ho,hc,n,hd⟩:=pl.isList
  exact call_list_seq p (.inl rfl) ho hc hd (λh' c' kp e=>fin its r' hz h' c' kp e) (by simp only[Th]<;>omega)
 ·obtain⟨its,r',pl,hz⟩:=I.tuple hq
  have hlen:=r'.length
  obtain⟨o,ho,hc,n,hd⟩:=pl
  exact call_list_seq p (.inr rfl) ho hc hd (λh' c' kp e=>fin its r' hz h' c' kp e) (by simp only[Th]<;>omega)
def Ri (K:Sd) (T:String) (x:V) (H:Hp):Prop:=match x with
 | .str _=>T = "str"
 | .int _=>T = "int"
 | .ref p=>(T = "list"∧∃xs,zK K H p xs)∨(T = "tuple"∧∃o,K.lookup p=some o∧o.cls=.type "tuple"∧o.dict=none)∨
   (T = "dict"∧((∃kvs,H p=some (.dK kvs))∨∃kvs,H p=some (.dT kvs)))∨(T = "set"∧∃S n,H p=some (.set S n))
 | _=>False
theorem Hk {pins:List (Addr × Obj)} {σ:St} {H:Hp} {s:Ss} {T:String} {x:V} {v:Sr} (I:Inv X pins σ H s) (r:RelV x v) (ty:Ri X.K T x H) :
  s.TypeIs v T∧∀a,v=.ref a→∃ob,s.heap.get? a=some ob∧ob.dict=none:=by
 cases x with
 | str z=>
  obtain⟨t,rfl⟩:=r
  cases (show T = "str" from ty)
  exact⟨typeIs_str s z t,λ_ e=>nomatch e⟩
 | int i=>
  obtain⟨t,rfl⟩:=r
  cases (show T = "int" from ty)
  exact⟨typeIs_int s i t,λ_ e=>nomatch e⟩
 | ref p=>
  cases r
  rcases ty with ⟨rfl,xs,hq⟩ | ⟨rfl,o,hk,hc,hd⟩ | ⟨rfl,hk⟩ | ⟨rfl,S,n,hk⟩
  ·obtain⟨its,_,pl,_⟩:=I.list hq
   refine⟨pl.isList.typeIs,λa e=>?_⟩
   cases e
   obtain⟨o,n,e,c,hd,_⟩:=pl
   exact⟨o,e,hd⟩
  ·refine⟨⟨o,I.bD p o hk,hc⟩,λa e=>?_⟩
   cases e
   exact⟨o,I.bD _ o hk,hd⟩
  ·have z:∃o,s.heap.get? p=some o∧o.ExactDict:=by
    rcases hk with ⟨kvs,hk⟩ | ⟨kvs,hk⟩
    ·obtain⟨_,_,_,_,o,_,_,e,ex,_⟩:=I.z8 p _ hk
     exact⟨o,e,ex⟩
    ·obtain⟨_,_,_,_,o,_,_,e,ex,_⟩:=I.z8 p _ hk
     exact⟨o,e,ex⟩
   obtain⟨o,e,ex⟩:=z
   refine⟨⟨o,e,ex.1⟩,λa e2=>?_⟩
   cases e2
   exact⟨o,e,ex.2.1⟩
  ·obtain⟨o,_,_,_,e,ex,_⟩:=I.z8 p _ hk
   refine⟨⟨o,e,ex.1⟩,λa e2=>?_⟩
   cases e2
   exact⟨o,e,ex.2.1⟩
 | _=>exact T5 ty
def U9 (K:Sd) (T:String) (r:V→List V→Hp→VK→Prop) (to:TE):TE:=λσ H Q=>to σ H λx H1=>Ri K T x H1∧r x [] H1 Q
def R1 (K:Sd) (T:String) (r:V→List V→Hp→VK→Prop) (to:TE) (t:TA):TE:=λσ H Q=>to σ H λx H1=>Ri K T x H1∧t σ H1 λxs H2=>r x xs H2 Q
variable {o e:Expr} {es:List Expr} {to:TE} {t:TA} {name:Str} {apos cpos:Pos} {T id:String} {r:V→List V→Hp→VK→Prop}
theorem rY (pa:PlainAttrs T) (slot:Slot T name id) (hty:typeOf (.builtin id)=pure (.type "method_descriptor")) (hm:aC X id r) (ho:PE X o to)
  (hbase:Oh o name X.env (eval o X.env)=eval o X.env:=by rfl) (hline:(apos.endLine == cpos.line)=true:=by rfl):PE X (.Call (.Attribute o name apos) [] [] cpos) (U9 X.K T r to):=by
 intro pins s σ H Q I h
 refine wpAny_Call_method0_late hbase hline (qW (ho pins s σ H _ I h) λv s1 ⟨x,H1,I1,r1,ty,q1⟩=>?_)
 obtain⟨h1,h2⟩:=Hk I1 r1 ty
 exact⟨T,id,pa,slot,hty,h1,h2,EO rfl (PySem.evalArgs_none (hm pins s1 σ H1 x [] v [] Q I1 r1 .nil q1))⟩
theorem qC (pa:PlainAttrs T) (slot:Slot T name id) (hty:typeOf (.builtin id)=pure (.type "method_descriptor")) (hm:aC X id r) (ho:PE X o to) (ha:PA X (e :: es) t)
  (hbase:Oh o name X.env (eval o X.env)=eval o X.env:=by rfl)
  (hfew:((backTo cpos (Tc (e :: es) X.env)).all (λx=>!x.1) && (ON cpos (NS [] X.env)).all (λx=>x.1.isSome)
   && decide ((e :: es).length + ([]:List Keyword).length + (if ([]:List Keyword).isEmpty then 0 else 1) < 30))=true:=by rfl)
  (hline:(apos.endLine == cpos.line)=true:=by rfl) (hs:Tc (e :: es) X.env=(false,eval e X.env) :: Tc es X.env:=by rfl) (hplain:(backTo cpos (Tc es X.env)).any (·.1)=false:=by rfl) :
  PE X (.Call (.Attribute o name apos) (e :: es) [] cpos) (R1 X.K T r to t):=by
 intro pins s σ H Q I h
 refine wpAny_Call_method_late hbase hfew hline rfl (qW (ho pins s σ H _ I h) λv s1 ⟨x,H1,I1,r1,ty,q1⟩=>?_)
 obtain⟨h1,h2⟩:=Hk I1 r1 ty
 refine⟨T,id,pa,slot,hty,h1,h2,?_⟩
 have hA:=ha cpos pins s1 σ H1 _ I1 q1
 rw[hs] at hA ⊢
 refine EO (by show (false || (backTo cpos (Tc es X.env)).any (·.1))=false;rw[hplain]<;>rfl) (Calls.evalArgs_plain ?_)
 exact qW hA λus s2 ⟨vs,H2,I2,r2,q2⟩=>hm pins s2 σ H2 x vs v us Q I2 r1 r2 q2
end
end L2
namespace L2
open PySem PySem.Spec PyProof.Rows
def Ux (X:Cx) (id:String) (r:V→List V→Hp→VK→Prop):Prop:=
 ∀(pins:List (Addr × Obj)) (s:Ss) (σ:St) (H:Hp) (x:V) (xs:List V) (v:Sr) (us:List Sr) (Q:VK),Inv X pins σ H s→RelV x v→Vals xs us→r x xs H Q→
  S6 (S4 X.prog X.w) X.A (call (.builtin id) (v :: us)) (EP X pins σ Q) X.xe s
theorem Vals.one:∀{x:V} {us:List Sr},Vals [x] us→∃u,us=[u]∧RelV x u
 | _,_,.cons r .nil=>⟨_,rfl,r⟩
theorem Vals.zero:∀{us:List Sr},Vals [] us→us=[]
 | _,.nil=>rfl
theorem Vals.dropLast {xs:List V} {us:List Sr} (h:Vals xs us):Vals xs.dropLast us.dropLast:=by
 induction h with
 | nil=>exact .nil
 | cons r t ih=>
  cases t with
  | nil=>exact .nil
  | cons q t'=>exact .cons r ih
theorem Vals.rep {xs:List V} {us:List Sr} (h:Vals xs us):∀k:Nat,Vals (Tb k xs).flatten (Tb k us).flatten
 | 0=>.nil
 | k + 1=>by
  rw[Np,Np,OR,OR]
  exact Vals.append h (Vals.rep h k)
theorem J4 {α:Type} (l:List α):l.eraseIdx (l.length - 1)=l.dropLast:=by
 induction l with
 | nil=>rfl
 | cons a r ih=>
  cases r with
  | nil=>rfl
  | cons b r=>
   have e:(a :: b :: r).length - 1=((b :: r).length - 1) + 1:=by
    have h1:(a :: b :: r).length=r.length + 2:=rfl
    have h2:(b :: r).length=r.length + 1:=rfl
    omega
   rw[e,List.eraseIdx_cons_succ,ih]
   all_goals rfl
theorem foldl_rep (its:List Sr):∀(k:Nat) (acc:List Sr),
  zzU (λx1 x2=>x1 ++ x2) acc.toArray (Tb k its.toArray)=(acc ++ (Tb k its).flatten).toArray
 | 0,acc=>by simp
 | k + 1,acc=>by
  have e:acc.toArray ++ its.toArray=(acc ++ its).toArray:=by simp
  have e2:(acc ++ its) ++ (Tb k its).flatten=acc ++ (Tb (k + 1) its).flatten:=by
   rw[Np,OR,TC]
  rw[←e2,←foldl_rep its k (acc ++ its),←e,Np,List.foldl_cons]
section
variable {X:Cx} {pins:List (Addr × Obj)} {σ:St} {H:Hp} {s:Ss} {l b:Addr} {xs ys zs:List V}
theorem Inv.By {its its':List Sr} {n:Nat} {f:Array Sr→Array Sr} {t':Nat} (I:Inv X pins σ H s) (hH:H l=some (.lst xs))
  (e:s.heap.get? l=some { cls:=.type "list",data:=.seq its.toArray n }) (hf:f its.toArray=its'.toArray) (hv:Vals ys its') (hz:ys.length≤S0) :
  Inv X pins σ (upd H l (.lst ys)) { s with heap:=s.heap.update l (EN f),toks:=t' }:=by
 have q:=zq5 e f
 rw[hf] at q
 refine I.write (x:=l) (e:=l) (by rw[hH];exact trivial) (.inl rfl) (λb' u hb hu=>(TN s.heap (EN f) (TH hb)).trans hu) ⟨_,q⟩ ?_
 exact⟨hz,its',_,hv,q⟩
theorem Inv.YB {its:List Sr} {t':Nat} (I:Inv X pins σ H s) (hv:Vals ys its) (hz:ys.length≤S0) :
  Inv X pins σ (upd H s.heap.objs.size (.lst ys)) { s with heap:=s.heap.push { cls:=.type "list",data:=.seq its.toArray },toks:=t' }:=
 I.laid (λ_ _ q=>SQ _ q) (SD _) ⟨hz,its,0,hv,To _ rfl⟩
theorem Inv.fresh (I:Inv X pins σ H s):H s.heap.objs.size=none:=I.z8.fresh (SD _)
theorem Inv.Q4 (I:Inv X pins σ H s) (hH:H l=some (.lst xs)):xs.length≤S0∧∃(its:List Sr) (n:Nat),Vals xs its∧xs.length=its.length∧s.heap.get? l=some { cls:=.type "list",data:=.seq its.toArray n }:=by
 obtain⟨z,its,n,r,e⟩:=I.z8 l _ hH
 exact⟨z,its,n,r,r.length,e⟩
theorem Jw {n:Nat} (h:n≤S0):Om n=false:=by
 unfold Om
 exact decide_eq_false (by omega)
end
section
variable {X:Cx}
def BV:V→List V→Hp→VK→Prop:=λx vs H Q=>∃l xs y,x=.ref l∧vs=[y]∧H l=some (.lst xs)∧xs.length < S0∧Q .non (upd H l (.lst (xs ++ [y])))
theorem rh:Ux X "list.append" BV:=by
 intro pins s σ H x vs v us Q I rx rv h
 obtain⟨l,xs,y,rfl,rfl,hH,hz,q⟩:=h
 cases rx
 obtain⟨u,rfl,ru⟩:=rv.one
 obtain⟨z,its,n,r,hl,e⟩:=I.Q4 hH
 refine OI F.slot_list_append ⟨_,e,rfl⟩ F.entry_list_append (F.args_list_append_2 _ _) (PySem.list_append l its.toArray n u (by rw[Th];omega)) ⟨e,?_⟩
 refine⟨.non,_,I.By (its':=its ++ [u]) hH e (by simp) (r.append (.cons ru .nil)) ?_,rfl,q⟩
 rw[Sl,Ak]
 omega
def BY:V→List V→Hp→VK→Prop:=λx vs H Q=>∃l b xs zs,x=.ref l∧vs=[.ref b]∧H l=some (.lst xs)∧H b=some (.lst zs)∧xs.length + zs.length≤S0∧Q .non (upd H l (.lst (xs ++ zs)))
theorem V0:Ux X "list.extend" BY:=by
 intro pins s σ H x vs v us Q I rx rv h
 obtain⟨l,b,xs,zs,rfl,rfl,hH,hB,hz,q⟩:=h
 cases rx
 obtain⟨u,rfl,ru⟩:=rv.one
 cases ru
 obtain⟨z,its,n,r,hl,e⟩:=I.Q4 hH
 obtain⟨z2,its2,n2,r2,hl2,e2⟩:=I.Q4 hB
 have hsz:its.toArray.size + its2.toArray.size≤S0:=by rw[Th,Th];omega
 have hlong:¬(!its.toArray.isEmpty && Om (its.toArray.size + its2.toArray.size))=true:=by
  rw[Jw hsz,Bool.and_false]
  exact S7
 refine OI F.slot_list_extend ⟨_,e,rfl⟩ F.entry_list_extend (F.args_list_extend_2 _ _)
  (AutoSeq1.list_extend_list_list_0 l its.toArray n b its2.toArray n2 hlong (by rw[Th];omega) (by omega)) ⟨e,e2,?_⟩
 refine⟨.non,_,I.By (its':=its ++ its2) hH e (by simp) (r.append r2) ?_,rfl,q⟩
 rw[Sl]
 omega
def UA:V→List V→Hp→VK→Prop:=λx vs H Q=>∃l xs y,x=.ref l∧vs=[]∧H l=some (.lst xs)∧xs[xs.length - 1]?=some y∧Q y (upd H l (.lst xs.dropLast))
theorem Mq:Ux X "list.pop" UA:=by
 intro pins s σ H x vs v us Q I rx rv h
 obtain⟨l,xs,y,rfl,rfl,hH,hy,q⟩:=h
 cases rx
 have hus:=rv.zero
 subst hus
 obtain⟨z,its,n,r,hl,e⟩:=I.Q4 hH
 obtain⟨u,hu,ru⟩:=r.get hy
 have hy':its.toArray[its.toArray.size - 1]?=some u:=by
  show its.toArray[its.length - 1]?=some u
  rw[←Array.getElem?_toList,←hl]
  exact hu
 refine OI F.slot_list_pop ⟨_,e,rfl⟩ F.entry_list_pop (F.args_list_pop_1 _) (MeetsSeq.list_pop_last l its.toArray n u hy' (by rw[Th];omega)) ⟨e,?_⟩
 refine⟨y,_,I.By (its':=its.dropLast) hH e ?_ r.dropLast ?_,ru,q⟩
 ·show its.toArray.eraseIdxIfInBounds (its.toArray.size - 1)=its.dropLast.toArray
  rw[Th,List.eraseIdxIfInBounds_toArray,J4]
 ·rw[List.length_dropLast]
  omega
def U0:V→List V→Hp→VK→Prop:=λx vs H Q=>∃l xs i k y,x=.ref l∧vs=[.int i]∧H l=some (.lst xs)∧-(2 ^ 63)≤i∧i < 2 ^ 63∧seqIndex? i xs.length=some k∧xs[k]?=some y∧Q y (upd H l (.lst (xs.eraseIdx k)))
def CK:V→List V→Hp→VK→Prop:=λx vs H Q=>∃l xs,x=.ref l∧vs=[]∧H l=some (.lst xs)∧Q .non (upd H l (.lst xs.reverse))
def MY:V→List V→Hp→VK→Prop:=λx vs H Q=>∃l xs,x=.ref l∧vs=[]∧H l=some (.lst xs)∧Q .non (upd H l (.lst []))
theorem YO:Ux X "list.clear" MY:=by
 intro pins s σ H x vs v us Q I rx rv h
 obtain⟨l,xs,rfl,rfl,hH,q⟩:=h
 cases rx
 have hus:=rv.zero
 subst hus
 obtain⟨z,its,n,r,hl,e⟩:=I.Q4 hH
 refine OI F.slot_list_clear ⟨_,e,rfl⟩ F.entry_list_clear (F.args_list_clear_1 _) (AutoSeq1.list_clear_list_0 l its.toArray n (by rw[Th];omega)) ⟨e,?_⟩
 exact⟨.non,_,I.By (its':=[]) (ys:=[]) hH e rfl .nil (Tr _),rfl,q⟩
def UI:R2:=λx y H Q=>∃l b xs zs,x=.ref l∧y=.ref b∧H l=some (.lst xs)∧H b=some (.lst zs)∧xs.length + zs.length≤S0∧∀p,H p=none→Q (.ref p) (upd H p (.lst (xs ++ zs)))
theorem Mf:bM X (O9 .Add) UI:=by
 intro pins s σ H x y v u Q I rx ry h
 obtain⟨l,b,xs,zs,rfl,rfl,hH,hB,hz,q⟩:=h
 cases rx
 cases ry
 obtain⟨z,its,n,r,hl,e⟩:=I.Q4 hH
 obtain⟨z2,its2,n2,r2,hl2,e2⟩:=I.Q4 hB
 refine PySem.P.add_list e e2 ?_ (by rw[Th,Th];omega)
 have ea:its.toArray ++ its2.toArray=(its ++ its2).toArray:=by simp
 rw[ea]
 exact⟨.ref _,_,I.YB (t':=s.toks) (r.append r2) (by rw[Sl];omega),rfl,q _ I.fresh⟩
def U1:R2:=λx y H Q=>∃l k xs,x=.ref l∧y=.int k∧H l=some (.lst xs)∧-(2 ^ 63)≤k∧k < 2 ^ 63∧xs.length * k.toNat≤S0∧
 ∀p,H p=none→Q (.ref p) (upd H p (.lst (Tb k.toNat xs).flatten))
theorem len_rep {α:Type} (xs:List α) (k:Nat):(Tb k xs).flatten.length=k * xs.length:=by
 induction k with
 | zero=>simp
 | succ k ih=>rw[Np,OR,Sl,ih,Nat.succ_mul,Nat.add_comm]
theorem Mu:bM X (O9 .Mult) U1:=by
 intro pins s σ H x y v u Q I rx ry h
 obtain⟨l,k,xs,rfl,rfl,hH,h1,h2,hz,q⟩:=h
 cases rx
 obtain⟨t,rfl⟩:=ry
 obtain⟨z,its,n,r,hl,e⟩:=I.Q4 hH
 have hlen:its.toArray.size * k.toNat≤S0:=by rw[Th,←hl];exact hz
 have hcap:¬its.toArray.size * k.toNat > (2 ^ 63 - 1) / 8:=by
  have:(S0:Nat)≤(2 ^ 63 - 1) / 8:=by decide
  omega
 have hfit:¬(!Builtin.List.listFitsIndex k)=true:=by
  rw[fitsIndex_both h1 h2]
  exact S7
 have hlong:¬Om (its.toArray.size * k.toNat)=true:=by
  rw[Jw hlen]
  exact S7
 have hnew:zzU (λx1 x2=>x1 ++ x2) #[] (Tb (if its.toArray.isEmpty=true then 0 else k.toNat) its.toArray)=(Tb k.toNat its).flatten.toArray:=by
  have f0:∀m:Nat,zzU (λx1 x2=>x1 ++ x2) #[] (Tb m its.toArray)=(Tb m its).flatten.toArray:=λm=>by
   have:=foldl_rep its m []
   rw[Ta] at this
   exact this
  rw[f0]
  cases its with
  | nil=>simp
  | cons a r'=>rw[if_neg (by simp)]
 refine wpAny_binaryOp_repeat_ref (T:="list") (U:="int") (by decide) ⟨_,e,rfl⟩ (λs'=>typeIs_int s' k t) noFill_list_mul F.fills_int_mul zzY repeat_list F.slot_int_index.lookup
  (OI zzY (typeIs_int s k t) F.entry_int_rmul (F.args_int_rmul_2 _ _) (int___rmul___int_list k t l its.toArray n)
   ⟨e,rfl,⟨_,e,rfl⟩,OI F.slot_list_mul ⟨_,e,rfl⟩ F.entry_list_mul (F.args_list_mul_2 _ _) (A2 l its.toArray n k t hfit hcap hlong) ⟨e,?_⟩⟩)
 rw[hnew]
 exact⟨.ref _,_,I.YB (t':=s.toks) (r.rep k.toNat) (by rw[len_rep,Nat.mul_comm];exact hz),rfl,q _ I.fresh⟩
end
section
variable {prog:SM} {w:Tj} {A:TM} {E:Sr→Ss→Prop} {s:Ss}
end
section
variable {X:Cx}
end
end L2
namespace Att
open PySem PySem.W PySem.Calls PyProof.Rows
theorem l9 {P:Params} {h:Heap}:∀(ns:List Int) (vs:List Sr),WellAll P h vs (ns.map zq6)→IntsAre vs ns:=by
 intro ns
 induction ns with
 | nil=>
  intro vs w
  rw[Nk] at w
  cases w
  exact .nil
 | cons n ns ih=>
  intro vs w
  rw[SE] at w
  cases w with
  | cons a b=>
   cases a
   exact .cons _ _ (ih _ b)
theorem Wl {l:OpenLaw} {n:Nat} (hn:l.most=some n) {P:Params} {h:Heap} {args:List WData} {vals:List Sr}
  (hpre:l.row.toRowW.claim.pre args=true) (hwl:WellAll P h vals args) :
  ∃a vs ns,vals=[Tf a]∧args=[WData.list (ns.map zq6)]∧h.get? a=some { cls:=.type "list",data:=.seq vs.toArray }∧IntsAre vs ns∧ns.length≤n:=by
 have hsh:WShape.hasAll [] args [.list .int]=true:=(pre_splitW hpre).1
 have hc:l.pre.holds [] { args:=args }=true:=(pre_splitW hpre).2
 obtain⟨d,r,rfl,h1,h2⟩:=hasAllW_cons hsh
 obtain rfl:=hasAllW_nil h2
 obtain⟨xs,rfl,h3⟩:=hasW_list h1
 obtain⟨ns,rfl⟩:=items_int h3
 have hlen:ns.length≤n:=by
  unfold OpenLaw.pre at hc
  have h4:(WTm.not (.lt (.lit (.int (n:Int))) (.len (.arg 0)))).holds [] { args:=[.list (ns.map .int)] }=true:=by
   have h4:=(holds_andW hc).1
   rw[hn] at h4
   exact h4
  have h5:=condW_of h4 (w_not (w_lt w_lit (w_len_list (w_arg rfl))))
  rw[Su] at h5
  refine Nat.le_of_not_lt λq=>?_
  have q':(n:Int) < ((ns.length:Nat):Int):=by omega
  first
   | (rw[zjx q'] at h5;exact absurd h5 (by decide))
   | (simp at h5;omega)
 cases hwl with
 | cons w1 w2=>
  cases w2
  cases w1 with
  | list ho hall=>exact⟨_,_,ns,rfl,rfl,ho,l9 ns _ hall,hlen⟩
theorem Wg (l:OpenLaw) (args:List WData):l.row.toRowW.claim.post args (.bool true) args=true:=
 postW_of (r:=l.row.toRowW) (X:=(true == true))
  (show zqE [] (.bool true) .bool=true by first | rfl | decide | simp [zqE,WShape.arms,WShape.armsAll])
  (show (WTm.eq .res (.lit (.bool true))).value [] { args:=args,res:=some (.bool true),after:=args }=some (.bool (true == true)) from w_eq_bool (w_res rfl) w_lit) rfl
theorem Qe {l:OpenLaw} {n:Nat} {q:SM} {loose:List Str} {XP:(Str→Option Sr)→Heap→Prop} {YP:Tj→Heap→Prop} {d:DefRec}
  (hn:l.most=some n) (hdf:d.params.defaults=[])
  (call:∀(w:Tj) (s₀ s₁:Ss) (mg mb:Str→Option Sr) (fa:Addr) (o:Obj) (pm cd doc:Sr) (a:Addr) (vs:List Sr) (ns:List Int),
   Ground q loose [] XP w s₀ mg mb s₁.heap→YP w s₁.heap→
   s₁.heap.get? fa=some o→o.data=.func (docDef d.name d.params d.body d.scope pm cd doc)→s₁.heap.CodeRec cd d.name→mg d.name=some (.ref fa)→
   s₁.heap.get? a=some { cls:=.type "list",data:=.seq vs.toArray }→IntsAre vs ns→ns.length≤n→s₁.gens = #[]→
   Og (S4 l.prog w) callerA (.call (.ref fa) ⟨[.ref a],[]⟩) (λr s'=>r=.ok (.ret (.bool true))∧OldK s₁.heap s'.heap∧s'.os=s₁.os∧AllBare s'.gens) s₁) :
  WalkO q loose XP YP l.row.toRowW d [] (λf vs=>zzR f vs):=by
 intro w s₀ s₁ mg mb G Y fa o pm cd doc dV kV ho hd hcd hD hmg hg args vals as hpre hlay hrd hwl hlo
 obtain rfl:dV=.none:=Dflts.none hD hdf
 obtain rfl:kV=.none:=Dflts.noKw hD
 obtain⟨a,vs,ns,rfl,rfl,hobj,hints,hlen⟩:=Wl hn hpre hwl
 refine enter_call (OQ (call w s₀ s₁ mg mb fa o pm cd doc a vs ns G Y ho (fd_plain hd) hcd hmg hobj hints hlen hg) λr s' hq=>?_)
 obtain⟨rfl,h2,h3,h4⟩:=hq
 exact⟨.inl ⟨.bool true,.bool true,[],rfl,λ_=>rfl,.bool true,Wg l _,λ_=>⟨zq2,λ_ hm=>(nomatch hm)⟩⟩,h2,h3,h4⟩
section
variable {prog:SM} {w:Tj} {A:TM} {E:Sr→Ss→Prop} {s:Ss} {K:Frag}
def UL (h:Heap):Heap:={ h with objs:=#[] }
def ledger (h:Heap) (L d:Addr):List (Addr × Obj):=(NI h.objs.size).filterMap λa=>if a=L∨a=d then none else (h.get? a).map λo=>(a,o)
end
end Att
namespace L2
open PySem PySem.Spec PyProof.Rows
theorem aB:∀{vs:List Sr} {ns:List Int},IntsAre vs ns→Vals (ns.map V.int) vs
 | _,_,.nil=>.nil
 | _,_,.cons n t h=>.cons ⟨t,rfl⟩ (aB h)
def WA (H:Hp):Prop:=∀b,H b=none∨∃o xs,H b=some (.frz o (.lst xs))
theorem YX {P:SM} {w:Tj} {K:Sd} {mg mb:Str→Option Sr} {CX:sX} {k:Nat} {fa a:Addr} {fd:SH} {x:Str} {sp:Sp} {s₁:Ss} {vs:List Sr} {ns:List Int}
  (KX:K.In s₁.heap) (hns:s₁.heap.Ns NL mg) (hb:s₁.heap.Ns builtinsNs mb) (hbb:∀x:Str,x≠"__name__"→mb x=Ov x) (hlim:s₁.heap.NoLimit) (hg:s₁.gens = #[])
  (ha:s₁.heap.get? a=some { cls:=.type "list",data:=.seq vs.toArray }) (hi:IntsAre vs ns) (hl:ns.length≤S0) (hr:xj k callerA)
  (F:∀base:Heap,K.In base→base.Ns NL mg→zo P w K mg base CX k fa fd [x] sp) (hbind:∀(s:Ss) (u:Sr),BindsTo s fd ⟨[u],[]⟩ [(x,u)])
  (hsp:∀H:Hp,WA H→zK K H a (ns.map V.int)→sp [.ref a] H (λv _=>v=.bl true) λ_ _ _=>False)
  (hCX:∀H e s',CX [] H s₁ (λ_ _ _=>False) e s'→False) :
  Og (S4 P w) callerA (.call (.ref fa) ⟨[.ref a],[]⟩) (λr s'=>r=.ok (.ret (.bool true))∧OldK s₁.heap s'.heap∧s'.os=s₁.os∧AllBare s'.gens) s₁:=by
 have rv:=aB hi
 have lenV:=hi.length
 have core:∀H:Hp,WA H→zK K H a (ns.map V.int)→bU P w H s₁.heap→(∀b,H b≠none→b=a)→(H a≠none→K.lookup a=none)→
   Og (S4 P w) callerA (.call (.ref fa) ⟨[.ref a],[]⟩) (λr s'=>r=.ok (.ret (.bool true))∧OldK s₁.heap s'.heap∧s'.os=s₁.os∧AllBare s'.gens) s₁:=by
  intro H hO hS z8 hA hK
  have base_of:∀{b:Addr} {o:Obj},s₁.heap.get? b=some o→H b=none→(Zu s₁.heap H).get? b=some o:=λe n=>Yi e n
  have noA:∀{b:Addr} {o:Obj} {es:Array DictEntry} {ep:Nat},s₁.heap.get? b=some o→o.data=.dict es ep→H b=none:=λ{b o es ep} e d=>by
   cases q:H b with
   | none=>rfl
   | some u=>
    have e':b=a:=hA b (by rw[q];simp)
    subst e'
    rw[ha] at e;cases e
    have d':Data.seq vs.toArray _=Data.dict es ep:=d
    cases d'
  have nsK:∀{b:Addr} {m:Str→Option Sr},s₁.heap.Ns b m→(Zu s₁.heap H).Ns b m:=λ{b m} ⟨o,es,ep,e,d,r⟩=>⟨o,es,ep,base_of e (noA e d),d,r⟩
  have hKb:K.In (Zu s₁.heap H):=λb o e=>base_of (KX b o e) (by
   cases q:H b with
   | none=>rfl
   | some u=>
    have e':b=a:=hA b (by rw[q];simp)
    subst e'
    rw[hK (by rw[q];simp)] at e;cases e)
  have hM:Mod K mg (Zu s₁.heap H):=⟨hKb,nsK hns,⟨mb,nsK hb,hbb⟩,let ⟨mc,h1,h2⟩:=hlim;⟨mc,nsK h1,h2⟩⟩
  have e0:Qn P w K mg (Zu s₁.heap H) callerA [] s₁ H:=⟨rfl,hM,λb o e=>Bi e,IS (VF _ _),trivial,λb hb=>absurd (show b∈([]:List Addr) from hb) (by simp),z8,.of_eq hg⟩
  refine OQ ((F _ hKb (nsK hns)).run callerA [] s₁ H ⟨[.ref a],[]⟩ [.ref a] [.ref a] _ _ hr e0 (hbind s₁ (.ref a)) (.cons rfl .nil) (hsp H hO hS)) λr s' h=>?_
  cases r with
  | error e=>exact(hCX H e s' h).elim
  | ok fl=>
   cases fl with
   | next=>exact T5 h
   | brk=>exact T5 h
   | cont=>exact T5 h
   | ret u=>
    obtain⟨v,H',os,bare,un,hok',r',q⟩:=h
    have q':v=.bl true:=q
    subst q'
    obtain rfl:u=IA true:=r'
    refine⟨rfl,OldK.of_keep λb o e=>?_,os,bare⟩
    cases q:H b with
    | none=>exact un.keep b o e q (by intro z;exact absurd (show b∈([]:List Addr) from z) (by simp)) (by simp)
    | some u=>
     rcases hO b with z | ⟨ob,xs,z⟩
     ·rw[q] at z;cases z
     ·have z2:=un.uE b ob _ z
      obtain⟨e1,_⟩:=z8 b _ z
      obtain⟨e2,_⟩:=hok' b _ z2
      rw[e] at e1;cases e1
      exact e2
 cases hk:K.lookup a with
 | some o=>
  have e:=KX a o hk
  rw[ha] at e
  cases e
  refine core (λ_=>none) (λ_=>.inl rfl) (.inr ⟨_,vs.toArray,_,hk,rfl,rfl,rfl,by rw[Th,lenV];exact hl,by simpa using rv⟩) (λb u z=>by have z':(none:Option HO)=some u:=z;cases z') (λb z=>absurd rfl z) λz=>absurd rfl z
 | none=>
  refine core (λb=>if b=a then some (.frz { cls:=.type "list",data:=.seq vs.toArray } (.lst (ns.map V.int))) else none) (λb=>?_) (.inl (.inr ⟨{ cls:=.type "list",data:=.seq vs.toArray },if_pos rfl⟩)) (λb u z=>?_) (λb z=>?_) λ_=>hk
  ·by_cases hb:b=a
   ·exact .inr ⟨_,_,if_pos hb⟩
   ·exact .inl (if_neg hb)
  ·by_cases hb:b=a
   ·have z':=(if_pos hb).symm.trans z
    cases z'
    subst hb
    exact⟨ha,by rw[Su];exact hl,vs,_,rv,ha⟩
   ·have z':=(if_neg hb).symm.trans z
    cases z'
  ·by_cases hb:b=a
   ·exact hb
   ·exact absurd (if_neg hb) z
end L2
namespace L2
open PySem PySem.Spec PyProof.Rows
abbrev RX {K:Sd} {h:Heap} (_:K.In h):Sd:=K
theorem B4 {l:zzG} {n k:Nat} {q:SM} {loose:List Str} {XP:(Str→Option Sr)→Heap→Prop} {YP:Tj→Heap→Prop} {d:DefRec} {K:Params→Sd} {CX:Tj→sX} {sp:Tj→Sp} {x:Str}
  (hn:l.most=some n) (hn2:n≤S0) (hdf:d.params.defaults=[]) (hr:xj k callerA)
  (hY:∀(w:Tj) (h:Heap),YP w h→(K w.params).In h)
  (F:∀(w:Tj) (mg:Str→Option Sr) (fa:Addr) (h:Heap),(K w.params).In h→h.Ns NL mg→mg d.name=some (.ref fa)→
   ∃fd:SH,(∀(s:Ss) (u:Sr),BindsTo s fd ⟨[u],[]⟩ [(x,u)])∧
    ∀base:Heap,(K w.params).In base→base.Ns NL mg→zo l.prog w (K w.params) mg base (CX w) k fa fd [x] (sp w))
  (hsp:∀(w:Tj) (H:Hp) (a:Addr) (ns:List Int),ns.length≤n→WA H→zK (K w.params) H a (ns.map V.int)→sp w [.ref a] H (λv _=>v=.bl true) λ_ _ _=>False)
  (hCX:∀(w:Tj) (H:Hp) (s:Ss) (e:Sr) (s':Ss),CX w [] H s (λ_ _ _=>False) e s'→False) :
  zqh q loose XP YP l.row.toRowW d [] (λf vs=>zzR f vs):=by
 refine Att.Qe hn hdf λw s₀ s₁ mg mb fa o pm cd doc a vs ns G Y ho hd hcd hmg hobj hints hlen hg=>?_
 have KX:=hY w _ Y
 obtain⟨fd,hb,hF⟩:=F w mg fa _ KX G.T.g hmg
 exact YX KX G.T.g G.T.b G.T.builtins G.T.nolimit hg hobj hints (TV hlen hn2) hr hF hb (λH hO hS=>hsp w H a ns hlen hO hS) λH e s'=>hCX w H s₁ e s'
theorem Hw {l:zzG} {n k:Nat} {q:SM} {loose:List Str} {XP:(Str→Option Sr)→Heap→Prop} {YP:Tj→Heap→Prop} {d:DefRec} {K:Params→Sd} {CX:sX} {sp:Sd→Sp} {x:Str}
  (hn:l.most=some n) (hn2:n≤S0) (hdf:d.params.defaults=[]) (hr:xj k callerA)
  (hY:∀(w:Tj) (h:Heap),YP w h→(K w.params).In h)
  (F:∀(w:Tj) (mg:Str→Option Sr) (fa:Addr) (h:Heap),(K w.params).In h→h.Ns NL mg→mg d.name=some (.ref fa)→
   ∃fd:SH,(∀(s:Ss) (u:Sr),BindsTo s fd ⟨[u],[]⟩ [(x,u)])∧
    ∀base:Heap,(K w.params).In base→base.Ns NL mg→zo l.prog w (K w.params) mg base CX k fa fd [x] (sp (K w.params)))
  (hsp:∀(K:Sd) (H:Hp) (a:Addr) (ns:List Int),ns.length≤n→WA H→zK K H a (ns.map V.int)→sp K [.ref a] H (λv _=>v=.bl true) λ_ _ _=>False)
  (hCX:∀(H:Hp) (s:Ss) (e:Sr) (s':Ss),CX [] H s (λ_ _ _=>False) e s'→False) :
  zqh q loose XP YP l.row.toRowW d [] (λf vs=>zzR f vs):=
 B4 (K:=K) (CX:=λ_=>CX) (sp:=λw=>sp (K w.params)) hn hn2 hdf hr hY F (λw H a ns h1 h2 h3=>hsp (K w.params) H a ns h1 h2 h3) λ_ H s e s'=>hCX H s e s'
end L2
namespace L2
open PySem PySem.Spec PyProof.Rows
def inClass (s:Stmt) (j:Nat):Stmt:=match s with
 | .ClassDef _ _ _ body _ _ _ _ _ _ _=>body.getD j (.Pass ⟨0,0,0,0⟩)
 | _=>.Pass ⟨0,0,0,0⟩
def vq (s:Stmt):Arguments:=match s with
 | .FunctionDef _ a _ _ _ _ _ _ _ _=>a
 | _=>{ posonlyargs:=[],args:=[],vararg:=none,kwonlyargs:=[],kw_defaults:=[],kwarg:=none,defaults:=[] }
def xn (s:Stmt):List Stmt:=match s with
 | .FunctionDef _ _ b _ _ _ _ _ _ _=>b
 | _=>[]
def zy (s:Stmt):Scope:=match s with
 | .FunctionDef _ _ _ _ _ _ sc _ _ _=>sc
 | _=>{ kind:=.function,names:=[],isGenerator:=false,isCoroutine:=false }
abbrev zC:sX:=λ_ _ _ _ _ _=>False
abbrev E0:XK:=λ_ _ _=>False
theorem zJ {X:Cx}:Passes zC X E0:=λ_ _ _ _ _ _ _ h=>h.elim
structure Hi (K:Sd) (x qual:Str) (st:Stmt) (f:Addr) (fd:SH):Prop where
 ex:∃(oc:Sr) (od:Option Addr) (kV doc pm:Sr) (an:Option Addr) (cdv ct:Sr) (osl:Array (Option Sr)),
  fd=NW x qual (vq st) (xn st) (zy st) .none kV doc pm an cdv ct∧K.lookup f=some ⟨oc,od,.func fd,osl⟩∧Ic K cdv qual=true
 kp:NQ K (.ref f)=true
section
variable {P:SM} {w:Tj} {K:Sd} {mg:Str→Option Sr} {base:Heap}
theorem Hi.ok {x qual:Str} {st:Stmt} {f:Addr} {fd:SH} {N ps:List Str} {k:Nat} {sp:Sp} (F:Hi K x qual st f fd) (S:zd N ps (zy st)) (len:∀vs H Q E,sp vs H Q E→vs.length=ps.length)
  (hbody:∀(cdv:Sr) (A:TM) (outer:List Env) (s:Ss) (H:Hp) (vs:List V) (Q:VK) (E:XK),xj k (A.deeper (envOfC qual (zy st) s.heap.objs.size f cdv))→sp vs H Q E→
   ∃t,JO (Zq zC P w K mg base N qual (zy st) f cdv A outer s H E).Uw (xn st) t∧t { nx:=λ_ H'=>Q .non H',rt:=Q } (start N vs) H):zo P w K mg base zC (k + 1) f fd ps sp:=by
 obtain⟨oc,od,kV,doc,pm,an,cdv,ct,osl,rfl,lk,hcd⟩:=F.ex
 refine Pj lk hcd S len λA outer s H vs Q E hr hsp=>?_
 obtain⟨t,h,q⟩:=hbody cdv A outer s H vs Q E hr hsp
 exact⟨t,h.Uw,q⟩
theorem Hi.binds {x qual:Str} {st:Stmt} {f:Addr} {fd:SH} {ps:List Str} (F:Hi K x qual st f fd)
  (h:∀(kV doc pm:Sr) (an:Option Addr) (cdv ct:Sr) (us:List Sr),us.length=ps.length→bindArgs (NW x qual (vq st) (xn st) (zy st) .none kV doc pm an cdv ct) ⟨us,[]⟩=pure (ps.zip us)):Binds K fd ps []:=by
 obtain⟨oc,od,kV,doc,pm,an,cdv,ct,osl,rfl,lk,hcd⟩:=F.ex
 exact .all (h kV doc pm an cdv ct)
theorem Zd {x qual:Str} {st:Stmt} {f:Addr} {oc:Sr} {od an:Option Addr} {osl:Array (Option Sr)} {kV doc pm cdv ct:Sr} (l:K.lookup f=some ⟨oc,od,.func (NW x qual (vq st) (xn st) (zy st) .none kV doc pm an cdv ct),osl⟩)
  (c:Ic K cdv qual=true) (k:NQ K (.ref f)=true):Hi K x qual st f (NW x qual (vq st) (xn st) (zy st) .none kV doc pm an cdv ct):=⟨⟨oc,od,kV,doc,pm,an,cdv,ct,osl,rfl,l,c⟩,k⟩
end
theorem qi {A:TM} {k:Nat} (hr:xj k A):A.units + 1 < cLine:=AS (Nat.add_le_add_left (by decide:1≤64) _) hr.units
theorem gK {n:Nat} (h:n≤1000):n < S0:=AS h (by decide)
section
variable {X:Cx}
theorem pv (i:Nat) {x:Str} {pos:Pos} (hN:X.N[i]?=some x:=by rfl) (hv:UZ X.env.scope x:=by first | exact SA rfl | exact Af (SA rfl) | exact Af (Af rfl)) (hd:(x == ("__debug__" : Str))=false:=by decide)
  (hcd:(x == ("__classdict__" : Str))=false:=by decide):PE X (.Name x pos) (JF i):=Me hN hv hd hcd
end
theorem nH {A B:Prop} (h:B):if false=true then A else B:=by
 rw[if_neg S7]
 exact h
theorem cH {A B:Prop} (h:A):if true=true then A else B:=by
 rw[if_pos rfl]
 exact h
theorem zD {c A B:Prop} [Decidable c] (h1:c→A) (h2:¬c→B):if c then A else B:=by
 by_cases h:c
 ·rw[if_pos h]
  exact h1 h
 ·rw[if_neg h]
  exact h2 h
def zp (H H':Hp):Prop:=∀b o,H b=some o→H' b=some o
theorem zp.refl (H:Hp):zp H H:=λ_ _ h=>h
theorem zp.trans {H H1 H2:Hp} (a:zp H H1) (b:zp H1 H2):zp H H2:=λc o h=>b c o (a c o h)
theorem zp.free {H H':Hp} (e:zp H H') {l:Addr} (h:H' l=zqH):H l=zqH:=by
 cases q:H l with
 | none=>rfl
 | some o=>
  rw[e l o q] at h
  cases h
theorem zp.seq {K:Sd} {H H':Hp} {a:Addr} {xs:List V} (e:zp H H') (h:zK K H a xs):zK K H' a xs:=by
 rcases h with (h | ⟨o,h⟩) | h
 ·exact .inl (.inl (e _ _ h))
 ·exact .inl (.inr ⟨o,e _ _ h⟩)
 ·exact .inr h
end L2
namespace L2
open PySem PySem.Spec PyProof.Rows
section
variable {X:Cx}
end
def Uj (z:Str):It:=⟨λi _=>i < z.length,λi H x H'=>H'=H∧∃c,z.cps[i]?=some c∧x=.str ⟨#[c]⟩,λi _=>i=z.length⟩
theorem aM {prog:SM} {w:Tj} {A:TM} (hh:A.handled=none) (I:Addr) (x:Str) (t:Tok) :
  Walks prog w A I [I] [I] x.cps.size (SignAt x) (λi h=>h.IsStrIter I (IG x) x t i):=by
 unfold IG
 split
 ·exact Walks.strAscii hh I x t
 ·exact Walks.strWide hh I x t
theorem eQ (z:Str):["enumerate","zip","dict_itemiterator","dict_reverseitemiterator","odict_iterator","itertools.zip_longest","itertools.pairwise"].contains (IG z)=false:=by
 unfold IG
 split<;>decide
theorem Hj {P:SM} {w:Tj} {K:Sd} {tg:Expr} (z:Str) (t:Tok) (it:Addr):Turn P w K tg (Uj z) [it] it (λi h=>h.IsStrIter it (IG z) z t i) where
 mem:=by simp
 obj:=λi h st b hb=>by
  have e:b=it:=by simpa using hb
  subst e
  obtain⟨o,e,c,d⟩:=st
  exact⟨o,e,λv q=>by rw[d] at q;cases q⟩
 keep:=λi h h' st k=>by
  obtain⟨o,e,r⟩:=st
  exact⟨o,k it (by simp) o e,r⟩
 item:=by
  intro X hP hw hK hc i pins s σ H E I hf st hg
  subst hP hw hK
  obtain⟨f0,f1,f2,f3,f4,f5⟩:=hf it (by simp)
  have W:=aM (prog:=X.prog) (w:=X.w) (I.ok.hd hc) it z t
  refine W.item i s _ _ (show i < z.cps.size from hg) st λv h' tk hv st' kk=>?_
  obtain⟨c,u,hcx,rfl⟩:=hv
  have I1:Inv X pins σ H { s with heap:=h',toks:=tk }:=I.turned (λb o hb e=>kk b o (by simpa using hb) e) f0 f1 f3 f4 f5
  obtain⟨o,e,hcl,d⟩:=id st'
  exact⟨_,rfl,eO (s:={ s with heap:=h',toks:=tk }) e hcl d (eQ z) ⟨.str ⟨#[c]⟩,H,I1,⟨u,rfl⟩,⟨rfl,c,hcx,rfl⟩,st',λb hb=>(hf b hb).1⟩⟩
 done:=by
  intro X hP hw hK hc i pins s σ H E I hf st hg
  subst hP hw hK
  obtain⟨f0,f1,f2,f3,f4,f5⟩:=hf it (by simp)
  have hi:i=z.length:=hg
  subst hi
  have W:=aM (prog:=X.prog) (w:=X.w) (I.ok.hd hc) it z t
  exact W.done s _ _ st λh' tk kk=>⟨rfl,I.turned (λb o hb e=>kk b o (by simpa using hb) e) f0 f1 f3 f4 f5⟩
 self:=λA i s Q E st h=>by
  revert st
  unfold IG
  split
  ·intro st
   exact wpAny_pyIter_striter_ascii st h
  ·intro st
   exact wpAny_pyIter_striter_wide st h
section
variable {X:Cx} {tg:Expr}
def UP (tl:TE):TI:=λσ H R=>tl σ H λx H1=>∃z,x=.str z∧R (Uj z) H1
theorem MZ {l:Expr} {tl:TE} (hl:PE X l tl):PI X tg l (UP tl):=by
 intro pins s σ H R I h
 refine qW (hl pins s σ H _ I h) λv s1 ⟨x,H1,I1,r1,q1⟩=>?_
 obtain⟨z,e,q⟩:=q1
 subst e
 obtain⟨t,rfl⟩:=r1
 refine wpAny_pyIter_strU ?_
 refine⟨s1.heap.objs.size,[s1.heap.objs.size],_,_,H1,rfl,I1.kept (t':=s1.toks) λb o e=>SQ _ e,Hj z t _,⟨_,To _ rfl,rfl,rfl⟩,λb hb=>?_,q⟩
 have e:b=s1.heap.objs.size:=by simpa using hb
 subst e
 exact I1.Zf (SD _) (I1.z8.fresh (SD _))
end
def LH:V→Option Int→Option Int→Hp→VK→Prop:=λx lo hi H Q=>∃z,x=.str z∧z.length≤S0∧Q (.str (Txt.slice z lo hi)) H
section
variable {X:Cx}
theorem Kz {ns:List Str}:∀{us:List Sr},Vals (ns.map V.str) us→StrsAre us ns:=by
 induction ns with
 | nil=>intro us h;cases h;exact .nil
 | cons n ns ih=>
  intro us h
  cases h with
  | cons r t=>
   obtain⟨tk,rfl⟩:=r
   exact .cons n tk (ih t)
def rJoin (K:Sd):V→List V→Hp→VK→Prop:=λx vs H Q=>∃z p ys,x=.str z∧vs=[.ref p]∧zK K H p (ys.map V.str)∧(ys.map (·.length)).sum + ys.length * z.length≤16777216∧Q (.str (Ni z ys)) H
theorem Bf:aC X "str.join" (rJoin X.K):=by
 intro pins s σ H x vs v us Q I rx rv h
 obtain⟨z,p,ys,rfl,rfl,hq,hz,q⟩:=h
 obtain⟨t,rfl⟩:=rx
 obtain⟨u,rfl,ru⟩:=rv.one
 cases ru
 obtain⟨its,r,pl,_⟩:=I.list hq
 exact join_list pl.isList (Kz (by simpa using r)) hz λt' k=>⟨.str (Ni z ys),H,I.tok _,⟨t',rfl⟩,q⟩
def RS:R2:=λx y H Q=>∃z n,x=.str z∧y=.int n∧MulOk z n∧Q (.str (Txt.mul z n)) H
def RL:V→List V→Hp→VK→Prop:=λx vs H Q=>∃z y,x=.str z∧vs=[.str y]∧Q (.int (Txt.find z y)) H
theorem yH:xI X (.type "int") (λxs H Q=>∃z n,xs=[.str z]∧PySem.intText? z=some n∧z.length≤640∧Q (.int n) H):=by
 intro pins s σ H xs us Q I r h
 obtain⟨z,n,rfl,hn,hl,q⟩:=h
 obtain⟨u,rfl,t,rfl⟩:=vals1 r
 exact zqZ hn hl ⟨.int n,H,I.tok _,⟨_,rfl⟩,q⟩
def Yq:V→Sr
 | .ty n=>.type n
 | .ref a=>.ref a
 | _=>.none
theorem QQ:xI X (.builtin "isinstance") (λxs H Q=>∃x c t b,xs=[x,c]∧((∃n,c=.ty n)∨∃a,c=.ref a)∧xZ X.K H x t∧TK X.K t (Yq c)=some b∧Q (.bl b) H):=by
 intro pins s σ H xs us Q I r h
 obtain⟨x,c,t,b,rfl,hc,ty,hk,q⟩:=h
 obtain⟨u,u',rfl,rx,rc⟩:=vals2 r
 have e:u'=Yq c:=by
  rcases hc with ⟨n,rfl⟩ | ⟨a,rfl⟩
  ·exact rc
  ·exact rc
 subst e
 exact VC I rx ty hk λtk=>⟨.bl b,H,I.tok _,rfl,q⟩
theorem range_all (bs:List Bool):(NI bs.length).all (λi=>bs.getD i true)=bs.all id:=by
 rw[OG,Nt,Nt]
 constructor
 ·intro h x hx
  obtain⟨i,hi,e⟩:=O3 hx
  have:=h i (Ib.mpr hi)
  rw[Tx,Sn hi] at this
  rw[←e]
  exact this
 ·intro h i hi
  have hi':=Ib.mp hi
  rw[Tx,Sn hi']
  exact h _ (N4 hi')
theorem yG (hc:X.calm=true):xI X (.builtin "all") (λxs H Q=>∃(p:Addr) (bs:List Bool),xs=[.ref p]∧zK X.K H p (bs.map V.bl)∧Q (.bl (bs.all id)) H):=by
 intro pins s σ H xs us Q I r h
 obtain⟨p,bs,rfl,hq,q⟩:=h
 obtain⟨u,rfl,ru⟩:=vals1 r
 cases ru
 obtain⟨its,rv,pl,_⟩:=I.list hq
 have hl:=rv.length
 rw[Su] at hl
 refine call_all_walk (Er pl.isList ?_)
 have hne:p≠s.heap.objs.size:=Ti (by obtain⟨o,n,e,_⟩:=pl;exact SO e)
 refine⟨s.heap.objs.size,_,_,_,_,_,λi=>bs.getD i true,rfl,Walks.list (show X.A.in1.handled=none from I.ok.hd hc) s.heap.objs.size p hne its.toArray,⟨⟨_,To _ rfl,rfl,rfl⟩,?_⟩,?_,?_⟩
 ·obtain⟨o,e,rest⟩:=pl.isList
  exact⟨o,SQ _ e,rest⟩
 ·intro i v s' Q' E' hv hQ'
  have hv':its[i]?=some v:=by simpa using hv
  have hi:i < bs.length:=by rw[hl];exact(S3.mp hv').1
  obtain⟨u,e1,e2⟩:=rv.get (i:=i) (x:=V.bl bs[i]) (by rw[SW,Sn hi];rfl)
  rw[hv'] at e1
  cases e1
  cases e2
  dsimp only at hQ'
  rw[Tx,Sn hi] at hQ'
  exact NV hQ'
 ·intro h' tk kk
  have I1:Inv X pins σ H { s with heap:=h',toks:=tk }:=I.kept λb o e=>kk b o (by
   intro z
   have z':b=s.heap.objs.size:=by simpa using z
   exact absurd (SO e) (by rw[z'];exact N2 _)) (SQ _ e)
  refine⟨.bl _,H,I1,?_,q⟩
  show IA _=IA _
  rw[Th,←hl,range_all]
mutual
inductive cq (K:Sd) (H:Hp):V→PyData→Prop where
 | non:cq K H .non .none
 | bl (b:Bool):cq K H (.bl b) (.bool b)
 | int (i:Int):cq K H (.int i) (.int i)
 | str (x:Str):cq K H (.str x) (.str x)
 | lst {a:Addr} {xs:List V} {ds:List PyData}:zK K H a xs→vf K H xs ds→cq K H (.ref a) (.list ds)
 | tup {a:Addr} {xs:List V} {ds:List PyData}:jo K H a xs→vf K H xs ds→cq K H (.ref a) (.tuple ds)
inductive vf (K:Sd) (H:Hp):List V→List PyData→Prop where
 | nil:vf K H [] []
 | cons {x:V} {xs:List V} {d:PyData} {ds:List PyData}:cq K H x d→vf K H xs ds→vf K H (x :: xs) (d :: ds)
end
mutual
theorem cq.reads {pins:List (Addr × Obj)} {σ:St} {H:Hp} {s:Ss} (I:Inv X pins σ H s):∀{x:V} {d:PyData} {v:Sr},cq X.K H x d→RelV x v→∃as,Reads s.heap v d as
 | _,_,_,.non,r=>by cases r;exact⟨_,.none⟩
 | _,_,_,.bl b,r=>by cases r;exact⟨_,.bool b⟩
 | _,_,_,.int i,r=>by obtain⟨t,rfl⟩:=r;exact⟨_,.int i t⟩
 | _,_,_,.str x,r=>by obtain⟨t,rfl⟩:=r;exact⟨_,.str x t⟩
 | _,_,_,.lst hq rs,r=>by
  cases r
  obtain⟨its,rv,pl,_⟩:=I.list hq
  obtain⟨as,ra⟩:=vf.reads I rs rv
  obtain⟨o,n,e,c,_,d⟩:=pl
  exact⟨_,.list e c d (by simpa using ra)⟩
 | _,_,_,.tup hq rs,r=>by
  cases r
  obtain⟨its,rv,pl,_⟩:=I.tuple hq
  obtain⟨as,ra⟩:=vf.reads I rs rv
  obtain⟨o,e,c,n,d⟩:=pl
  exact⟨_,.tuple e c d (by simpa using ra)⟩
theorem vf.reads {pins:List (Addr × Obj)} {σ:St} {H:Hp} {s:Ss} (I:Inv X pins σ H s):∀{xs:List V} {ds:List PyData} {vs:List Sr},vf X.K H xs ds→Vals xs vs→∃as,ReadsAll s.heap vs ds as
 | _,_,_,.nil,r=>by cases r;exact⟨_,.nil⟩
 | _,_,_,.cons q qs,r=>by
  cases r with
  | cons r rs=>
   obtain⟨as,ra⟩:=cq.reads I q r
   obtain⟨bs,rb⟩:=vf.reads I qs rs
   exact⟨_,.cons ra rb⟩
end
def BW (K:Sd) (neg:Bool):R2:=λx y H Q=>∃d e,cq K H x d∧cq K H y e∧T6 d=true∧T6 e=true∧Q (.bl (if neg then !PyData.eqv d e else Iv d e)) H
theorem Mm (hu:X.A.units + 64 < cLine):bM X (Ny .Eq) (BW X.K false):=by
 intro pins s σ H x y v u Q I rx ry h
 obtain⟨d,e,h1,h2,h3,h4,q⟩:=h
 obtain⟨as,ra⟩:=h1.reads I rx
 obtain⟨bs,rb⟩:=h2.reads I ry
 exact eq_dataH ra rb h3 h4 hu ⟨.bl _,H,I,rfl,q⟩
theorem Md (hu:X.A.units + 64 < cLine):bM X (Ny .NotEq) (BW X.K true):=by
 intro pins s σ H x y v u Q I rx ry h
 obtain⟨d,e,h1,h2,h3,h4,q⟩:=h
 obtain⟨as,ra⟩:=h1.reads I rx
 obtain⟨bs,rb⟩:=h2.reads I ry
 exact ne_dataH ra rb h3 h4 hu ⟨.bl _,H,I,rfl,q⟩
theorem vf.strs {K:Sd} {H:Hp}:∀xs:List Str,vf K H (xs.map V.str) (xs.map Nz)
 | []=>.nil
 | x :: r=>.cons (.str x) (vf.strs r)
theorem pK:∀xs ys:List Str,Od (xs.map Nz) (ys.map Nz)=decide (xs=ys)
 | [],[]=>by simp [Od]
 | [],_ :: _=>by simp [Od]
 | _ :: _,[]=>by simp [Od]
 | x :: xs,y :: ys=>by
  simp only[SE,Od,Iv,pK xs ys]
  by_cases h:x=y<;>by_cases h':xs=ys<;>simp [h,h']
theorem b8:∀xs:List Str,(∀x∈xs,NR x=true)→OL (xs.map Nz)=true∧Ij (xs.map Nz)=0
 | [],_=>⟨rfl,rfl⟩
 | x :: r,h=>by
  have q:=b8 r λy hy=>h y (SV _ hy)
  simp [OL,Iu,Ij,IT,q.1,q.2,h x Tu]
theorem qV {xs:List Str} (h:∀x∈xs,NR x=true):T6 (.list (xs.map Nz))=true:=by
 have q:=b8 xs h
 simp [T6,Iu,IT,q.1,q.2]
end
section
variable {X:Cx} {CX:sX} {k:Nat} {f C:Addr} {fd:SH} {ps:List Str} {sp:Sp} {dvs:List V} {ds:List Sr} {E:XK} {x m:Str} {p pos apos:Pos} {e:Expr} {es:List Expr} {t:TA}
structure WT (K:Sd) (C:Addr) (m:Str) (f:Addr):Prop where
 ga:OC K (.ref C) "__getattribute__" = some (some (.builtin "type.__getattribute__"))
 rd:PySem.W.readsIn K C (.type "type")=true
 at_:PySem.W.findCls K (.ref C) (.type "type") m=some (.val (.ref f))
 kp:NQ K (.ref f)=true
theorem oW {pl:Sem Bool} (hg:Gl X x) (hm:X.mg x=some (.ref C)) (c:WT X.K C m f) (F:zo X.prog X.w X.K X.mg X.base CX k f fd ps sp) (hr:xj k X.A) (hb:Binds X.K fd ps ds) (hd:Vals dvs ds) (hx:Passes CX X E) (ha:PA X (e :: es) t)
  (hst:Tc (e :: es) X.env=(false,eval e X.env) :: Tc es X.env:=by rfl) (hpl:(backTo pos (Tc es X.env)).any (·.1)=false:=by rfl) (hdb:(x == ("__debug__" : Str))=false:=by decide)
  (ht:eval (.Call (.Attribute (.Name x p) m apos) (e :: es) [] pos) X.env=(do
   let ov ←eval (.Name x p) X.env
   standAt apos.atName
   let (f,first) ←holding [ov] (IZ ov m pl)
   callWith pos f first (backTo pos (Tc (e :: es) X.env)) (ON pos (NS [] X.env))):=by rfl) :
  PE X (.Call (.Attribute (.Name x p) m apos) (e :: es) [] pos) (Fq sp dvs E t):=by
 intro pins s σ H Q I h
 refine N7 (pl:=pl) (fG I hg hm ?_ hdb) ht
 refine PySem.W.method_cls I.bD c.ga (PySem.W.cls_value I.bD c.rd c.at_ rfl ?_)
 refine N5 (first:=[]) (h₀:=X.base) I.ok.mod.WR c.kp (qW (ha pos pins _ σ H _ (I.tok _) h) λus s1 ⟨vs,H1,I1,r,q⟩=>⟨I1.bD,?_⟩) hst hpl
 exact oF F hr hb hd hx I1 r q
end
end L2
namespace L2
open PySem PySem.Spec PyProof.Rows
def qv (env:Env):List (Str × IY)→List (Str × Addr)→List (Str × Addr)
 | [],acc=>acc
 | (n,k) :: r,acc=>qv env r (if k == .free then (n,(env.cells.lookup n).getD 0) :: acc else acc)
theorem mh {sc:Scope} {env:Env} (h:∀y∈sc.names,y.2=.free→∃c,env.cells.lookup y.1=some c):closureFor sc env=pure (qv env sc.names []):=by
 simp only[closureFor]
 have key:∀(l:List (Str × IY)) (acc:List (Str × Addr)),(∀y∈l,y.2=.free→∃c,env.cells.lookup y.1=some c)→
   (forIn l acc (λ(x:Str × IY) (r:List (Str × Addr))=>if (x.2 == TX)=true then do let a ←cellOf env x.1;pure (OH ((x.1,a) :: r)) else pure (OH r)):Sem (List (Str × Addr)))=pure (qv env l acc):=by
  intro l
  induction l with
  | nil=>intro acc _;rfl
  | cons y r ih=>
   intro acc hl
   obtain⟨n,k⟩:=y
   rw[List.forIn_cons]
   have ih':=λacc=>ih acc λz hz=>hl z (SV _ hz)
   by_cases hk:(k == TX)=true
   ·obtain⟨c,hc⟩:=hl (n,k) Tu (by simpa using hk)
    have hc':env.cells.lookup n=some c:=hc
    have e1:cellOf env n=pure c:=by unfold cellOf;rw[hc']
    simp only[hk,if_true,e1,qv,hc',Option.getD_some]
    exact ih' _
   ·simp only[hk,qv]
    exact ih' _
 rw[key sc.names [] h]
 rfl
theorem xW {env:Env}:∀(l:List (Str × IY)) (acc:List (Str × Addr)),(∀z c,acc.lookup z=some c→c=(env.cells.lookup z).getD 0)→
  (∀z c,(qv env l acc).lookup z=some c→c=(env.cells.lookup z).getD 0)∧(∀z,(qv env l acc).lookup z=none↔(acc.lookup z=none∧(z,TX)∉l))
 | [],acc,h=>⟨h,λz=>by simp [qv]⟩
 | (n,k) :: r,acc,h=>by
  by_cases hk:(k == TX)=true
  ·have hk':k=.free:=by simpa using hk
   subst hk'
   have h':∀z c,((n,(env.cells.lookup n).getD 0) :: acc).lookup z=some c→c=(env.cells.lookup z).getD 0:=by
    intro z c e
    rw[NC] at e
    cases hz:z == n with
    | true=>
     rw[hz] at e
     have e':(env.cells.lookup n).getD 0=c:=by simpa using e
     rw[beq_iff_eq.mp hz,e']
    | false=>
     rw[hz] at e
     exact h z c (by simpa using e)
   obtain⟨a,b⟩:=xW r _ h'
   refine⟨by simpa [qv] using a,λz=>?_⟩
   have b':=b z
   show (qv env r (if (TX == TX)=true then _ else acc)).lookup z=none↔_
   rw[if_pos hk,b',NC]
   cases hz:z == n with
   | true=>
    have:z=n:=beq_iff_eq.mp hz
    subst this
    simp
   | false=>
    have hne:z≠n:=by intro q;subst q;simp at hz
    simp [hne]
  ·obtain⟨a,b⟩:=xW r acc h
   have e0:qv env ((n,k) :: r) acc=qv env r acc:=by
    show qv env r (if (k == TX)=true then _ else acc)=_
    rw[if_neg hk]
   rw[e0]
   refine⟨a,λz=>?_⟩
   rw[b z]
   have hne:¬(TX=k):=by intro q;subst q;exact hk rfl
   simp [hne]
theorem jB {env:Env}:∀{names:List (Str × IY)} {x:Str},
  (names.map λ(n,k)=>if (k == TX && env.scope.kind == .function && env.kindOf n == some .cell) then (n,N3) else (n,k)).lookup x =
   (names.lookup x).map λk=>if (k == TX && env.scope.kind == .function && env.kindOf x == some .cell) then N3 else k
 | [],_=>rfl
 | (n,k) :: r,x=>by
  have ih:=@jB env r x
  rw[SE]
  show NK x ((if (k == TX && env.scope.kind == .function && env.kindOf n == some .cell)=true then (n,N3) else (n,k)) :: _)=_
  cases hx:x == n with
  | true=>
   have:x=n:=beq_iff_eq.mp hx
   subst this
   by_cases hc:(k == TX && env.scope.kind == .function && env.kindOf x == some .cell)=true
   ·rw[if_pos hc];simp only[NC,hx,Ng,if_pos hc]
   ·rw[if_neg hc];simp only[NC,hx,Ng,if_neg hc]
  | false=>
   by_cases hc:(k == TX && env.scope.kind == .function && env.kindOf n == some .cell)=true
   ·rw[if_pos hc,NC,NC,hx];exact ih
   ·rw[if_neg hc,NC,NC,hx];exact ih
structure yA (osc:Scope) (N:List Str) (sc:Scope) (x:Str) (names:List Str) (zU:List Nat):Prop where
 kind:sc.kind=.function
 oy:∀y∈sc.names,y.2≠.cell
 locs:∀y∈sc.names,y.2=.local→sc.names.lookup y.1=some .local
 frees:∀y∈sc.names,y.2=.free→osc.names.lookup y.1=some .cell
 own:sc.names.lookup x=some .local
 zU:names.map some=zU.map λi=>N[i]?
 Xv:∀y∈names,sc.names.lookup y=some .free
 nd:(x :: names).Nodup
def vZ (X:Cx) (sc:Scope) (x:Str) (names:List Str) (fp:List Addr) (s₀:Ss) (H₀:Hp):Cx where
 prog:=X.prog
 w:=X.w
 K:=X.K
 mg:=X.mg
 base:=X.base
 A:=X.A
 N:=x :: names
 s₀:=s₀
 H₀:=H₀
 env:=compEnvC sc (qv X.env sc.names []) s₀.heap.objs.size X.env
 outer:=X.stack
 stack:=X.stack
 ex:=fp
 fn:=λ_=>false
 calm:=X.calm
 pn:=[]
 xe:=λ_ _=>False
def kZ (σ:St) (zU:List Nat):St:=zU.map λi=>(σ[i]?).join
def Kp (J:It) (zU:List Nat) (te:TE) (σ:St) (Q:VK) (H1:Hp):Prop:=∀D,H1 D=none→∃W:Nat→Nat→Hp→Prop,(∃m,W 0 m (upd H1 D (.lst [])))∧∀i m H2,W i m H2→
 (J.stop i H2∧Q (.ref D) H2)∨(J.go i H2∧∀y H3,J.Hd i H2 y H3→te (some y :: kZ σ zU) H3 λv H4=>∃ys,H4 D=some (.lst ys)∧ys.length < S0∧∃m',m' < m∧W (i + 1) m' (upd H4 D (.lst (ys ++ [v]))))
def Fj (zU:List Nat) (wi:TI) (te:TE):TE:=λσ H Q=>wi σ H λJ H1=>Kp J zU te σ Q H1
section
variable {prog:SM} {w:Tj} {A:TM} {R:Result→Ss→Prop} {s:Ss}
theorem QX {elt target iter:Expr} {scope:Scope} {pos:Pos} {it acc:Sr} {env:Env} (I:Nat→Ss→Prop)
  (turn:∀n s,I n s→S6 (S4 prog w) A (pyNext it) (λr s₁=>match r with
   | none=>R (.ok .next) s₁
   | some v=>S6 (S4 prog w) A (OY target it v) (λ_ s₁'=>S6 (S4 prog w) A (assign target env v) (λ_ s₂=>
      S6 (S4 prog w) A (eval elt env) (λx s₄=>
       S6 (S4 prog w) A (call (.builtin "list.append") [acc,x]) (λ_ s₅=>∃m,m < n∧I m s₅) (IX (S4 prog w) A env λe s'=>R (.error e) s') s₄) (IX (S4 prog w) A env λe s'=>R (.error e) s') s₂)
      (IX (S4 prog w) A env λe s'=>R (.error e) s') s₁') (IX (S4 prog w) A env λe s'=>R (.error e) s') s₁) (IX (S4 prog w) A env λe s'=>R (.error e) s') s)
  (n:Nat) (h:I n s) :
  Og (S4 prog w) A (.compLoop (.ListComp elt [⟨target,iter,[],0⟩] scope pos) 0 it acc env) R s:=by
 refine codeAny_loop rfl I (λn s hI=>?_) n h
 show S6 _ A ((compTurn (.ListComp elt [⟨target,iter,[],0⟩] scope pos) 0 it acc env).onRaise (λx=>do noteFrame x env;theTreesLotGoes x)) _ _ s
 refine wpAny_noted ?_
 rw[compTurn_list]
 refine SX (OP (SX (TR (turn n s hI) (λr s₁ h₁=>?_) λ_ _ h'=>h')))
 cases r with
 | none=>exact Td h₁
 | some v=>
  refine SX (TR h₁ (λ_ s₁' h₁'=>?_) λ_ _ h'=>h')
  refine SX (TR h₁' (λ_ s₂ h₂=>SX (zzH ?_)) λ_ _ h'=>h')
  exact SX (SX (TR h₂ (λx s₄ h₄=>SX (TR h₄ (λ_ s₅ h₅=>Td (Td ⟨rfl,h₅⟩)) λ_ _ h'=>h')) λ_ _ h'=>h'))
end
section
variable {X:Cx}
theorem FX {pins:List (Addr × Obj)} {σ:St} {H:Hp} {s:Ss} {osc:Scope} {N:List Str} {sc:Scope} {x:Str} {names:List Str} {zU:List Nat} {fp:List Addr}
  (hos:X.env.scope=osc) (cs:yA osc N sc x names zU) (I:Inv X pins σ H s) (hf:∀b∈fp,wt X pins H b) (hlt:∀b∈fp,b < s.heap.objs.size):(vZ X sc x names fp s H).Ok:=by
 subst hos
 have cl:=xW (env:=X.env) sc.names [] (λz c e=>by simp at e)
 have hcl:∀y c,(qv X.env sc.names []).lookup y=some c→X.env.cells.lookup y=some c:=λy c e=>by
  have e1:=cl.1 y c e
  have hm:(y,TX)∈sc.names:=by
   by_cases q:(y,TX)∈sc.names
   ·exact q
   ·have:=(cl.2 y).mpr ⟨rfl,q⟩
    rw[this] at e;cases e
  obtain⟨c',hc'⟩:=I.ok.has y (.inl (cs.frees _ hm rfl))
  rw[hc'] at e1 ⊢
  rw[e1];rfl
 refine⟨I.ok.mod,?_,I.ok.glob,I.ok.blt,SD _,λy z c h1 h2=>I.ok.inj y z c (hcl y c h1) (hcl z c h2),λy hy=>?_,λy c h=>?_,I.ok.hd,I.ok.frames,.inl rfl,λb hb=>⟨?_,λy c h=>?_⟩,
  I.bs,TV I.ok.WC I.sz,λb o e hb=>?_,λb hb z=>?_,I.stack,I.ur⟩
 ·exact cs.kind
 ·have hy':(relabel sc X.env).names.lookup y=some .cell∨(relabel sc X.env).names.lookup y=some .free:=hy
  have key:sc.names.lookup y=some .free:=by
   unfold relabel at hy'
   rw[jB] at hy'
   cases q:sc.names.lookup y with
   | none=>rw[q] at hy';simp at hy'
   | some k=>
    rw[q] at hy'
    have hm:=Nj q
    have hnc:=cs.oy _ hm
    by_cases hk:k=.free
    ·rw[hk]
    ·have e:(if (k == TX && X.env.scope.kind == .function && X.env.kindOf y == some .cell)=true then N3 else k)=k:=if_neg (by simp [hk])
     rw[Ng,e] at hy'
     rcases hy' with z | z
     ·exact absurd (Tq z) hnc
     ·exact absurd (Tq z) hk
  have hm:=Nj key
  cases q:(qv X.env sc.names []).lookup y with
  | some c=>exact⟨c,q⟩
  | none=>exact absurd hm ((cl.2 y).mp q).2
 ·exact absurd (show false=true from h) (by simp)
 ·exact Ti (hlt b hb)
 ·exact(hf b hb).2.2.2.2.1 y c (hcl y c h)
 ·rcases(hf b hb).2.2.2.1 with z | z
  ·exact I.ok.V4 b o e z
  ·exact absurd (Tn (SO e) (TV I.ok.WC z)) (N2 _)
 ·rcases So.mp (I.iV b z) with q | q
  ·exact(hf b hb).2.1 q
  ·exact(hf b hb).2.2.1 q
theorem QV {pins:List (Addr × Obj)} {σ:St} {s₂:Ss} {osc:Scope} {N:List Str} {sc:Scope} {x:Str} {px pos:Pos} {elt iter:Expr} {names:List Str} {zU:List Nat} {te:TE} {E:Sr→Ss→Prop}
  {RR:Sr→Addr→Result→Ss→Prop} {H2:Hp} {it:Addr} {fp:List Addr} {tn:Nat→Heap→Prop} {J:It} {Qd:V→Hp→Prop}
  (hc:X.calm=true) (hos:X.env.scope=osc) (hN:X.N=N) (cs:yA osc N sc x names zU) (he:∀fp s₀ H₀,PE (vZ X sc x names fp s₀ H₀) elt te)
  (I2:Inv X pins σ H2 s₂) (T:Turn X.prog X.w X.K (.Name x px) J fp it tn) (st2:tn 0 s₂.heap) (f2:∀b∈fp,wt X pins H2 b)
  (hW:Kp J zU te σ Qd H2)
  (cont:∀D C H5 s6 m,Inv X pins σ H5 s6→s6.heap.Ns C m→wt X pins H5 C→Qd (.ref D) H5→RR (.ref D) C (.ok .next) s6) :
  S6 (S4 X.prog X.w) X.A (newList []) (λacc s₃=>S6 (S4 X.prog X.w) X.A (newFunctionEnv sc X.env.globals (qv X.env sc.names []) [] X.env.qual none .none (some X.env)) (λcenv s₄=>
   Og (S4 X.prog X.w) X.A (.compStart (.ListComp elt [⟨.Name x px,iter,[],0⟩] sc pos) 0 (.ref it) acc { cenv with scope:=relabel sc X.env }) (RR acc cenv.locals) s₄) E s₃) E s₂:=by
 subst hN
 refine Et (Am cs.oy (by intro y hy;simp at hy) (λh₁ hns₁ hsb₁=>?_) cs.kind)
 dsimp only at hns₁ hsb₁ ⊢
 have fp2:∀b∈fp,b < s₂.heap.objs.size:=λb hb=>by
  obtain⟨o,e,_⟩:=T.obj _ _ st2 b hb
  exact SO e
 have I3:Inv X pins σ (upd H2 s₂.heap.objs.size (.lst [])) { s₂ with heap:=s₂.heap.push { cls:=.type "list",dict:=none,data:=.seq ([]:List Sr).toArray } }:=I2.YB (t':=s₂.toks) (its:=[]) .nil (Tr _)
 obtain⟨W,⟨m0,w0⟩,turn⟩:=hW s₂.heap.objs.size I2.fresh
 have f3:∀b∈fp,wt X pins (upd H2 s₂.heap.objs.size (.lst [])) b:=λb hb=>⟨by rw[zG (Ti (fp2 b hb))];exact(f2 b hb).1,(f2 b hb).2⟩
 have hD:∀b o,s₂.heap.get? b=some o→(s₂.heap.push { cls:=.type "list",dict:=none,data:=.seq ([]:List Sr).toArray }).get? b=some o:=λb o e=>SQ _ e
 generalize hs3:({ s₂ with heap:=s₂.heap.push { cls:=.type "list",dict:=none,data:=.seq ([]:List Sr).toArray } }:Ss)=s₃ at *
 have hs3h:s₃.heap=s₂.heap.push { cls:=.type "list",dict:=none,data:=.seq ([]:List Sr).toArray }:=by rw[←hs3]
 rw[←hs3h] at hns₁ hsb₁ hD ⊢
 have KY:∀b∈fp,b < s₃.heap.objs.size:=λb hb=>by
  rw[hs3h,OT];exact zzj (fp2 b hb)
 have k3:∀b o,s₃.heap.get? b=some o→h₁.get? b=some o:=λb o e=>hsb₁.extBut b o (Ti (SO e)) (SQ _ e)
 have ok:=FX hos cs I3 f3 KY
 have cl:=xW (env:=X.env) sc.names [] (λz c e=>by simp at e)
 have hcl:∀y c,(qv X.env sc.names []).lookup y=some c→X.env.cells.lookup y=some c:=λy c e=>by
  have e1:=cl.1 y c e
  have hm:(y,TX)∈sc.names:=by
   by_cases q:(y,TX)∈sc.names
   ·exact q
   ·have:=(cl.2 y).mpr ⟨rfl,q⟩
    rw[this] at e;cases e
  obtain⟨c',hc'⟩:=I3.ok.has y (.inl (by show X.env.scope.names.lookup y=_;rw[hos];exact cs.frees _ hm rfl))
  rw[hc'] at e1 ⊢
  rw[e1];rfl
 have cell4:∀y c,(qv X.env sc.names []).lookup y=some c→∀v,s₃.heap.IsCell c v→h₁.IsCell c v:=λy c e v ⟨o,ho,hd⟩=>⟨o,k3 _ _ ho,hd⟩
 have lenC:zU.length=names.length:=by have:=congrArg Nc cs.zU;simpa using this.symm
 have I4:∀tk,Inv (vZ X sc x names fp s₃ (upd H2 s₂.heap.objs.size (.lst []))) [] (none :: kZ σ zU) (upd H2 s₂.heap.objs.size (.lst [])) { s₃ with heap:=h₁,toks:=tk }:=λtk=>by
  refine⟨ok,rfl,I3.bare,Un.kept k3,⟨_,hns₁,λi y v e1 e2 e3=>?_⟩,λy c e=>?_,I3.fresh,λy c e=>I3.yt y c (hcl y c e),λp hp=>absurd (show p∈([]:List (Addr × Obj)) from hp) (by simp),I3.z8.kept k3,?_⟩
  ·cases i with
   | zero=>simp at e2
   | succ j=>
    have e1':names[j]?=some y:=by simpa [vZ] using e1
    have e2':(kZ σ zU)[j]?=some (some v):=by simpa using e2
    unfold kZ at e2'
    rw[SW] at e2'
    cases qc:zU[j]? with
    | none=>rw[qc] at e2';cases e2'
    | some i0=>
     rw[qc] at e2'
     have e2'':(σ[i0]?).join=some v:=by simpa using e2'
     have e3':σ[i0]?=some (some v):=by
      cases qs:σ[i0]? with
      | none=>rw[qs] at e2'';cases e2''
      | some o=>rw[qs] at e2'';rw[show o=some v from by simpa using e2'']
     have eN:X.N[i0]?=some y:=by
      have q1:(names.map some)[j]?=(zU.map λi=>X.N[i]?)[j]?:=by rw[cs.zU]
      rw[SW,SW,e1',qc] at q1
      have q2:some y=X.N[i0]?:=by simpa using q1
      exact q2.symm
     have hfree:=cs.Xv y (SN e1')
     have hm:=Nj hfree
     have hcell:X.env.scope.names.lookup y=some .cell:=by rw[hos];exact cs.frees _ hm rfl
     obtain⟨m,hn,hl⟩:=I3.loc
     obtain⟨u,ru,lk⟩:=hl i0 y v eN e3' (.inr (.inl hcell))
     refine⟨u,ru,?_⟩
     rcases lk with ⟨kk,_⟩ | ⟨kk,c,ec,hcl'⟩
     ·have kk':X.env.scope.names.lookup y=some .local:=kk
      rw[hcell] at kk';cases kk'
     ·refine .inr ⟨?_,c,?_,?_⟩
      ·left
       show (relabel sc X.env).names.lookup y=some .cell
       unfold relabel
       rw[jB,hfree]
       have ef:(X.env.scope.kind == AN)=true:=by rw[I3.ok.kind];rfl
       have ek:(X.env.kindOf y == some N3)=true:=by
        show (X.env.scope.names.lookup y == some N3)=true
        rw[hcell];rfl
       simp [ef,ek]
      ·show (qv X.env sc.names []).lookup y=some c
       cases q:(qv X.env sc.names []).lookup y with
       | none=>exact absurd hm ((cl.2 y).mp q).2
       | some c'=>
        have:=hcl y c' q
        rw[ec] at this
        exact this.symm
      ·obtain⟨o,ho,hd⟩:=hcl'
       exact⟨o,k3 _ _ ho,hd⟩
  ·obtain⟨v,hv⟩:=I3.cell y c (hcl y c e)
   exact⟨v,cell4 y c e v hv⟩
  ·show (none :: kZ σ zU).length=(x :: names).length
   unfold kZ
   simp [lenC]
 have st4:tn 0 h₁:=T.keep _ _ _ st2 λb hb o e=>k3 b o (by rw[hs3h];exact SQ _ e)
 have fpok:∀{H':Hp},(∀b∈fp,H' b=none)→∀b∈fp,wt (vZ X sc x names fp s₃ (upd H2 s₂.heap.objs.size (.lst []))) [] H' b:=λhn b hb=>
  ⟨hn b hb,(ok.Dc b hb).1,ok.J5 b hb,.inl hb,(ok.Dc b hb).2,λp hp=>absurd (show p∈([]:List (Addr × Obj)) from hp) (by simp)⟩
 have loop:∀s₄:Ss,s₄={ s₃ with heap:=h₁,toks:=s₃.toks + ([]:List (Str × Sr)).length }→
   Og (S4 X.prog X.w) X.A (.compLoop (.ListComp elt [⟨.Name x px,iter,[],0⟩] sc pos) 0 (.ref it) (.ref s₂.heap.objs.size) (compEnvC sc (qv X.env sc.names []) s₃.heap.objs.size X.env))
    (RR (.ref s₂.heap.objs.size) s₃.heap.objs.size) s₄:=by
  rintro s₄ rfl
  refine QX (λn s'=>∃i H',Inv (vZ X sc x names fp s₃ (upd H2 s₂.heap.objs.size (.lst []))) [] (none :: kZ σ zU) H' s'∧tn i s'.heap∧(∀b∈fp,H' b=none)∧W i n H') ?_ m0
   ⟨0,_,I4 _,st4,λb hb=>(f3 b hb).1,w0⟩
  rintro n s5 ⟨i,H5,I5,st5,fr5,w5⟩
  rcases turn i n H5 w5 with ⟨stop,q⟩ | ⟨go,step⟩
  ·refine qW (T.done (vZ X sc x names fp s₃ (upd H2 s₂.heap.objs.size (.lst []))) rfl rfl rfl hc i [] s5 _ H5 _ I5 (fpok fr5) st5 stop) λr s6 ⟨hr,I6⟩=>?_
   subst hr
   obtain⟨m,hn,_⟩:=I6.loc
   have J6:Inv X pins σ H5 s6:=I3.W8 (ch:=fp) I6.os I6.base I6.z8 I6.bare λb hb=>⟨(f3 b hb).2.2.2.1,(f3 b hb).2.1,(f3 b hb).2.2.2.2.1,(f3 b hb).2.2.2.2.2⟩
   exact cont _ _ H5 s6 m J6 hn (I3.Zf (H':=H5) (SD _) I6.free) q
  ·refine qW (T.item (vZ X sc x names fp s₃ (upd H2 s₂.heap.objs.size (.lst []))) rfl rfl rfl hc i [] s5 _ H5 _ I5 (fpok fr5) st5 go) λr s6 ⟨u,hr,h6⟩=>?_
   subst hr
   refine qW h6 λ_ s6' ⟨y,H6,I6,r6,y6,st6,fr6⟩=>?_
   have I6':=I6.pinned (fpok fr6) (T.obj _ _ st6)
   have own':(relabel sc X.env).names.lookup x=some .local:=lookup_relabel_local cs.own
   refine TR (zM (X:=vZ X sc x names fp s₃ (upd H2 s₂.heap.objs.size (.lst []))) (i:=0) (x:=x) (pos:=px) cs.nd rfl (.inl own') (.inr own') _ s6' _ H6 y u (λσ' H'=>σ'=(none :: kZ σ zU).set 0 (some y)∧H'=H6) I6' r6 ⟨rfl,rfl⟩)
    (λ_ s7 ⟨σ7,H7,I7,e7,e7'⟩=>?_) λ_ _ z=>T5 z
   subst e7 e7'
   refine TR (he fp s₃ _ _ s7 _ H7 _ I7 (step y H7 y6)) (λv s8 ⟨vv,H8,I8,r8,ys,hD8,hz8,m',hm',w8⟩=>?_) λ_ _ z=>T5 z
   refine TR (rh (X:=vZ X sc x names fp s₃ (upd H2 s₂.heap.objs.size (.lst []))) _ s8 _ H8 (.ref s₂.heap.objs.size) [vv] (.ref s₂.heap.objs.size) [v] (λ_ H'=>H'=upd H8 s₂.heap.objs.size (.lst (ys ++ [vv]))) I8 rfl (.cons r8 .nil)
    ⟨_,ys,vv,rfl,rfl,hD8,hz8,rfl⟩) (λ_ s9 ⟨_,H9,I9,_,e9⟩=>?_) λ_ _ z=>T5 z
   subst e9
   refine⟨m',hm',i + 1,_,(I9.je).weak ?_ ?_,T.keep _ _ _ st6 λb hb o e=>(I9.pin (b,o) (SU _ (SU _ (xQ hb e)))).1,λb hb=>?_,w8⟩
   ·simp
   ·intro j v' ej
    cases j with
    | zero=>simp at ej
    | succ j=>simpa using ej
   ·obtain⟨o,e,d⟩:=T.obj _ _ st6 b hb
    exact(I9.pin (b,o) (SU _ (SU _ (xQ hb e)))).2.1
 exact EI (loop _ (by rw[←hs3])) (T.self _ 0 _ _ _ st4 (loop _ (by rw[←hs3])))
theorem eF {pins:List (Addr × Obj)} {σ:St} {H:Hp} {s:Ss} {osc:Scope} {N:List Str} {sc:Scope} {x:Str} {names:List Str} {zU:List Nat} (hos:X.env.scope=osc) (cs:yA osc N sc x names zU) (I:Inv X pins σ H s) :
  closureFor sc X.env=pure (qv X.env sc.names []):=
 mh λy hy hk=>I.ok.has y.1 (.inl (by show X.env.scope.names.lookup y.1=_;rw[hos];exact cs.frees y hy hk))
theorem cA {osc:Scope} {N:List Str} {sc:Scope} {x:Str} {px pos:Pos} {elt iter:Expr} {names:List Str} {zU:List Nat} {wi:TI} {te:TE}
  (hc:X.calm=true) (hos:X.env.scope=osc) (hN:X.N=N) (cs:yA osc N sc x names zU) (hi:PI X (.Name x px) iter wi) (he:∀fp s₀ H₀,PE (vZ X sc x names fp s₀ H₀) elt te)
  (hs:∀v,Oy iter X.env v=pure v:=by intro _;rfl):PE X (.ListComp elt [⟨.Name x px,iter,[],0⟩] sc pos) (Fj zU wi te):=by
 intro pins s σ H Q I h
 rw[eval_ListComp]
 refine Oc (use:=none) rfl hs (eF hos cs I) cs.kind cs.locs (qW (hi pins s σ H _ I h) λxv s1 h1=>qW h1 λitv s2 h2=>?_)
 obtain⟨it,fp,tn,J,H2,rfl,I2,T,st2,f2,hW⟩:=h2
 refine QV (Qd:=Q) (RR:=λacc C=>compPost (S4 X.prog X.w) X.A X.xe none (EP X pins σ Q) acc C) hc hos hN cs he I2 T st2 f2 hW λD C H5 s6 m I6 hn fC q=>?_
 refine⟨m,hn,λh' sb=>?_⟩
 obtain⟨g0,g1,g2,g3,g4,g5⟩:=fC
 exact⟨.ref D,H5,I6.turned (t':=s6.toks) (it:=C) (λb o hb e=>sb.extBut b o hb e) g0 g1 g3 g4 g5,rfl,q⟩
theorem ZN {osc:Scope} {N:List Str} {sc:Scope} {x y:Str} {px py pos spos:Pos} {elt iter:Expr} {names:List Str} {zU:List Nat} {wi:TI} {te:TE} {i:Nat}
  (hc:X.calm=true) (hos:X.env.scope=osc) (hN:X.N=N) (nd:X.N.Nodup) (cs:yA osc N sc x names zU) (hi':X.N[i]?=some y) (hy:X.env.scope.names.lookup y=some .local) (hi:PI X (.Name x px) iter wi)
  (he:∀fp s₀ H₀,PE (vZ X sc x names fp s₀ H₀) elt te) (hsw:IE (.ListComp elt [⟨.Name x px,iter,[],0⟩] sc pos) (some (.Name y py)) spos.line X.env=pure true:=by rfl)
  (hs:∀v,Oy iter X.env v=pure v:=by intro _;rfl):PS X (.Assign [.Name y py] (.ListComp elt [⟨.Name x px,iter,[],0⟩] sc pos) spos) (BO (Fj zU wi te) (zT i)):=by
 intro pins s σ H D I h
 rw[exec_Assign_Name_used _ _ _ _ hsw]
 refine SX (OP (SX ?_))
 show S6 _ X.A (do let _ ←comprehension (.ListComp elt [⟨.Name x px,iter,[],0⟩] sc pos) sc X.env _ (newList []) false (eval iter X.env) (some (assign (.Name y py) X.env))) _ _ s
 refine SX (TR (Oc (use:=some (assign (.Name y py) X.env)) (Q:=λ_ s'=>SP X pins D .next s') rfl hs (eF hos cs I) cs.kind cs.locs
  (qW (hi pins s σ H _ I h) λxv s1 h1=>qW h1 λitv s2 h2=>?_)) (λ_ s' hq=>Td (Td hq)) λ_ _ e=>e)
 obtain⟨it,fp,tn,J,H2,rfl,I2,T,st2,f2,hW⟩:=h2
 refine QV (Qd:=λx H1=>zT i x σ H1 D.nx) (RR:=λacc C=>compPost (S4 X.prog X.w) X.A X.xe (some (assign (.Name y py) X.env)) (λ_ s'=>SP X pins D .next s') acc C) hc hos hN cs he I2 T st2 f2 hW λD' C H5 s6 m I6 hn fC q=>?_
 show S6 _ X.A (assign (.Name y py) X.env (.ref D')) _ _ _
 obtain⟨oC,es,ep,eC,dC,rC⟩:=id hn
 obtain⟨g0,g1,g2,g3,g4,g5⟩:=id fC
 have I6p:Inv X (pins ++ [(C,oC)]) σ H5 s6:=I6.fM λp hp=>(SI.mp hp).elim (λz=>I6.pin p (SU _ z)) λz=>by
  have e:p=(C,oC):=by simpa using z
  subst e
  exact⟨eC,g0,g1,g2,λv z=>by rw[dC] at z;cases z⟩
 refine Eu (uo I6p nd hi' (.inl hy) (v:=.ref D') rfl (λs7 I7=>?_) (.inr hy))
 have e7:=(I7.pin (C,oC) (SU _ (SU _ (by simp)))).1
 refine⟨m,⟨oC,es,ep,e7,dC,rC⟩,λh' sb=>?_⟩
 exact⟨_,H5,(I7.je).turned (t':=s7.toks) (it:=C) (λb o hb e=>sb.extBut b o hb e) g0 g1 g3 g4 g5,q⟩
end
def Qo (J:It) (H:Hp) (xs:List V):Prop:=∀(i:Nat) (H':Hp),zp H H'→
 (i < xs.length→J.go i H')∧(∀y H3,J.Hd i H' y H3→H3=H'∧(i < xs.length→xs[i]?=some y))∧(i=xs.length→J.stop i H')
theorem xC {K:Sd} {a:Addr} {xs:List V} {H:Hp} (h:zK K H a xs):Qo (He K a) H xs:=λi H' s=>
 ⟨λhi=>⟨xs,xs[i],s.seq h,by simp [hi]⟩,λy H3 q=>⟨q.1,λ_=>q.2 xs (s.seq h)⟩,λe=>⟨xs,s.seq h,IS e.symm⟩⟩
theorem zp.CH {K:Sd} {H H':Hp} {a:Addr} {xs:List V} (e:zp H H') (h:jo K H a xs):jo K H' a xs:=by
 rcases h with (h | ⟨o,h⟩) | h
 ·exact .inl (.inl (e _ _ h))
 ·exact .inl (.inr ⟨o,e _ _ h⟩)
 ·exact .inr h
theorem XE {lo:Int} {n:Nat} {H:Hp}:Qo (WN lo n) H ((NI n).map λ(i:Nat)=>V.int (lo + (i:Int))):=λi H' s=>
 ⟨λhi=>by show i < n;simpa using hi,λy H3 q=>⟨q.1,λhi=>by
  have hi':i < n:=by simpa using hi
  rw[q.2,SW,Ou hi'];rfl⟩,λe=>by
  have:i=n:=by simpa using e
  exact IS this.symm⟩
theorem GJ {z:Str} {H:Hp}:Qo (Uj z) H (z.cps.toList.map λc=>V.str ⟨#[c]⟩):=λi H' s=>
 ⟨λhi=>by simpa [Uj,ND] using hi,λy H3 q=>⟨q.1,λhi=>by
  obtain⟨_,c,hc,e⟩:=q
  rw[e,SW]
  have:z.cps.toList[i]?=some c:=by simpa using hc
  rw[this];rfl⟩,λe=>by
  have:i=z.length:=by simpa [ND] using e
  exact this⟩
theorem b9 {J:It} {H:Hp} {xs:List V} {zU:List Nat} {te:TE} {σ:St} {Q:VK} (hJ:Qo J H xs) (Pr:Nat→V→V→Prop) (hsz:xs.length≤S0)
  (hs:∀(i:Nat) (y:V) (H':Hp) (Q':VK),xs[i]?=some y→zp H H'→(∀v H4,zp H' H4→Pr i y v→Q' v H4)→te (some y :: kZ σ zU) H' Q')
  (hd:∀(D:Addr) (H':Hp) (ys:List V),zp H H'→H D=none→H' D=some (.lst ys)→ys.length=xs.length→(∀(i:Nat) (y v:V),xs[i]?=some y→ys[i]?=some v→Pr i y v)→Q (.ref D) H') :
  Kp J zU te σ Q H:=by
 intro D hD
 refine⟨λi m H2=>m=xs.length - i∧i≤xs.length∧zp H H2∧∃ys,H2 D=some (.lst ys)∧ys.length=i∧∀(j:Nat) (y v:V),xs[j]?=some y→ys[j]?=some v→Pr j y v,
  ⟨xs.length,by simp,Tr _,λb o e=>by rw[zG (zh e hD)];exact e,[],zm,rfl,λj y v _ e=>by simp at e⟩,?_⟩
 rintro i m H2 ⟨rfl,hi,s2,ys,hy,hl,hp⟩
 obtain⟨j1,j2,j3⟩:=hJ i H2 s2
 by_cases hlt:i < xs.length
 ·refine .inr ⟨j1 hlt,λy H3 q=>?_⟩
  obtain⟨e3,ey⟩:=j2 y H3 q
  subst e3
  refine hs i y _ _ (ey hlt) s2 λv H4 s4 pr=>⟨ys,s4 D _ hy,by omega,xs.length - (i + 1),by omega,rfl,hlt,λb o e=>?_,ys ++ [v],zm,by simp [hl],λj y' v' e1 e2=>?_⟩
  ·rw[zG (zh e hD)]
   exact s4 b o (s2 b o e)
  ·by_cases hj:j < ys.length
   ·rw[Nx hj] at e2
    exact hp j y' v' e1 e2
   ·have hje:j=i:=by
     have:=(S3.mp e2).1
     simp at this;omega
    subst hje
    rw[T3 (by omega),hl,zzx] at e2
    rw[ey hlt] at e1
    cases e1
    have:v=v':=by simpa using e2
    subst this
    exact pr
 ·have e:i=xs.length:=by omega
  subst e
  exact .inl ⟨j3 rfl,hd D H2 ys s2 hD hy hl hp⟩
end L2
namespace L2
open PySem PySem.Spec PyProof.Rows
theorem zp.new {H H':Hp} {l:Addr} {o:HO} (e:zp H H') (hl:H' l=none):zp H (upd H' l o):=λb u q=>by
 have q':=e b u q
 rw[zG (zh q' hl)]
 exact q'
theorem zp.put {H H':Hp} {l:Addr} {o:HO} (e:zp H H') (hl:H l=none):zp H (upd H' l o):=λb u q=>by
 rw[zG (zh q hl)]
 exact e b u q
theorem zp.V1 {H:Hp} {l:Addr} {o:HO} (hl:H l=none):zp H (upd H l o):=(zp.refl H).new hl
theorem aS:∀(ys:List V),(∀v∈ys,∃b,v=V.bl b)→∃bs:List Bool,ys=bs.map V.bl
 | [],_=>⟨[],rfl⟩
 | v :: r,h=>by
  obtain⟨b,rfl⟩:=h v Tu
  obtain⟨bs,rfl⟩:=aS r λu hu=>h u (SV _ hu)
  exact⟨b :: bs,rfl⟩
theorem QN (sep:Str) (l:List Str):(Ni sep l).length≤(l.map (·.length)).sum + l.length * sep.length:=by
 have e:Ni sep l=Nh sep l:=beq_iff_eq.mp (join_plain_closes sep l)
 rw[e]
 exact StrLaws.join_length_le sep l
theorem fZ (a b:Str):(a ++ b).length=a.length + b.length:=by
 show (a.cps ++ b.cps).size=_
 rw[Array.size_append]
 rfl
def FT:List Expr→Bool
 | []=>true
 | .Constant (.str _) _ _ :: r=>FT r
 | _=>false
def Fz:List Expr→List V
 | []=>[]
 | .Constant (.str x) _ _ :: r=>V.str x :: Fz r
 | _=>[]
def Lq (es:List Expr):TA:=λ_ H Q=>Q (Fz es) H
theorem jX {es:List Expr} {p:Pos} {t:Option Expr} {l:Nat} {env:Env}:IE (.List es p) t l env=pure false:=rfl
theorem zg {n:Nat} (h:n≤1000):n≤S0:=EU (gK h)
end L2
namespace L2
open PySem PySem.Spec PyProof.Rows
section
variable {X:Cx} {CX:sX} {k:Nat} {f:Addr} {fd:SH} {ps:List Str} {sp:Sp} {dvs:List V} {ds:List Sr} {E:XK} {m:Str} {pos apos:Pos} {e o:Expr} {es:List Expr} {ta:TE} {t:TA}
theorem PS.join {st:Stmt} {t:TS} (h:PS X st t):PS X st (λD σ H=>∃M:St→Hp→Prop,t { D with nx:=M } σ H∧∀σ' H',M σ' H'→D.nx σ' H'):=by
 intro pins s σ H D I ⟨M,q,hM⟩
 refine qW (h pins s σ H _ I q) λfl s' r=>?_
 cases fl with
 | next=>obtain⟨σ',H',I',r⟩:=r;exact⟨σ',H',I',hM _ _ r⟩
 | brk=>exact r
 | cont=>exact r
 | ret u=>exact r
theorem PE.cut {e:Expr} {t:TE} (h:PE X e t):PE X e (λσ H Q=>∃M:VK,t σ H M∧∀v H',M v H'→Q v H'):=by
 intro pins s σ H Q I ⟨M,q,hM⟩
 exact qW (h pins s σ H _ I q) λu s' ⟨v,H',I',r,z⟩=>⟨v,H',I',r,hM v H' z⟩
def Rf (K:Sd) (f:Addr) (m:Str) (sp:Sp) (dvs:List V) (E:XK) (ta:TE) (t:TA):TE:=λσ H Q=>ta σ H λx H1=>∃a C dx fs,x=.ref a∧H1 a=some (.ins C dx fs)∧uK K C∧Meth K C m f∧fs.lookup m=none∧
 t σ H1 λvs H2=>sp (x :: (vs ++ dvs)) H2 Q E
end
def asc (x:Str):Prop:=∀c∈x.cps.toList,c < 128
theorem asc.ok {x:Str} (h:asc x):NR x=true:=by
 unfold NR
 rw[Array.all_eq_true]
 intro i hi
 have:=h x.cps[i] (by simp)
 exact zjx (by omega)
theorem cps_append (a b:Str):(a ++ b).cps.toList=a.cps.toList ++ b.cps.toList:=by
 show (a.cps ++ b.cps).toList=_
 simp
theorem join_eq (sep:Str) (l:List Str):Ni sep l=Nh sep l:=beq_iff_eq.mp (join_plain_closes sep l)
theorem vw {x:Str} {xs:List Str}:Qt (.str x) (xs.map V.str)=decide (x∈xs):=by
 induction xs with
 | nil=>rfl
 | cons y r ih=>
  unfold Qt at ih ⊢
  rw[SE,Of,ih]
  have:HU (.str y) (.str x)=decide (x=y):=by
   show (y == x)=_
   by_cases h:x=y
   ·subst h;simp
   ·rw[decide_eq_false h];exact beq_eq_false_iff_ne.mpr λq=>h q.symm
  rw[this]
  by_cases h:x=y<;>by_cases h':x∈r<;>simp [h,h']
end L2
namespace L2
open PySem PySem.Spec PyProof.Rows
def Nw (H:Hp) (o:HO) (Q:VK):Prop:=∀p H',zp H H'→H p=none→H' p=some o→Q (.ref p) H'
theorem Nw.el {H:Hp} {o:HO} {Q:VK} (h:Nw H o Q) (p:Addr) (hp:H p=none):Q (.ref p) (upd H p o):=h p _ (zp.V1 hp) hp zm
def Keeps (l:Addr) (H H':Hp):Prop:=∀b,b≠l→H' b=H b
theorem Keeps.upd {H:Hp} {l:Addr} {o:HO}:Keeps l H (upd H l o):=λ_ h=>zG h
def Ch (H:Hp) (l:Addr) (o:HO) (Q:Hp→Prop):Prop:=∀H',Keeps l H H'→H' l=some o→Q H'
theorem Ch.el {H:Hp} {l:Addr} {o:HO} {Q:Hp→Prop} (h:Ch H l o Q):Q (L2.upd H l o):=h _ Keeps.upd zm
theorem Keeps.put {H H1 H2:Hp} {l:Addr} (k:Keeps l H1 H2) (s:zp H H1) (n:H l=none):zp H H2:=λb o e=>by
 rw[k b (zh e n)]
 exact s b o e
theorem Keeps.look {H1 H2:Hp} {l b:Addr} {o:HO} (k:Keeps l H1 H2) (e:H1 b=some o) (n:b≠l):H2 b=some o:=by rw[k b n];exact e
def Fx (H H':Hp):Prop:=(∀b xs,H b=some (.tup xs)→H' b=some (.tup xs))∧∀b C dx fs,H b=some (.ins C dx fs)→H' b=some (.ins C dx fs)
section
variable {X:Cx}
theorem PE.mono {e:Expr} {t t':TE} (h:PE X e t) (m:∀σ H Q,t' σ H Q→t σ H Q):PE X e t':=λpins s σ H Q I q=>h pins s σ H Q I (m σ H Q q)
theorem xI.mono {f:Sr} {r r':List V→Hp→VK→Prop} (h:xI X f r) (m:∀xs H Q,r' xs H Q→r xs H Q):xI X f r':=λpins s σ H xs us Q I rv q=>h pins s σ H xs us Q I rv (m xs H Q q)
theorem aC.mono {id:String} {r r':V→List V→Hp→VK→Prop} (h:aC X id r) (m:∀x xs H Q,r' x xs H Q→r x xs H Q):aC X id r':=λpins s σ H x vs v us Q I rx rv q=>h pins s σ H x vs v us Q I rx rv (m x vs H Q q)
theorem bM.mono {f:Sr→Sr→Sem Sr} {r r':R2} (h:bM X f r) (m:∀x y H Q,r' x y H Q→r x y H Q):bM X f r':=λpins s σ H x y v u Q I rx ry q=>h pins s σ H x y v u Q I rx ry (m x y H Q q)
theorem Fc.mono {r r':V→Option Int→Option Int→Hp→VK→Prop} (h:Fc X r) (m:∀x l u H Q,r' x l u H Q→r x l u H Q):Fc X r':=λpins s σ H x v vl vu lo hi sl Q I rx hs pl pu q=>h pins s σ H x v vl vu lo hi sl Q I rx hs pl pu (m x lo hi H Q q)
def UR (t:TA):TE:=λσ H Q=>t σ H λxs H1=>xs.length≤S0∧Nw H1 (.tup xs) Q
def Cj (t:TA):TE:=λσ H Q=>t σ H λxs H1=>xs.length≤S0∧Nw H1 (.lst xs) Q
theorem PA.cut {es:List Expr} {t:TA} (h:PA X es t):PA X es (λσ H Q=>∃M:List V→Hp→Prop,t σ H M∧∀vs H',M vs H'→Q vs H'):=by
 intro pos pins s σ H Q I ⟨M,q,hM⟩
 exact qW (h pos pins s σ H _ I q) λu s' ⟨v,H',I',r,z⟩=>⟨v,H',I',r,hM v H' z⟩
theorem qx {es:List Expr} {t:TA} {pos:Pos} {x1} (h:PA X es t):PE X (.Tuple es x1 pos) (UR t):=(Mi h.cut).mono λ_ _ _ q=>⟨_,q,λ_ _ q=>⟨q.1,q.2.el⟩⟩
theorem zP {es:List Expr} {t:TA} {pos:Pos} (h:PA X es t):PE X (.List es pos) (Cj t):=(Mn h.cut).mono λ_ _ _ q=>⟨_,q,λ_ _ q=>⟨q.1,q.2.el⟩⟩
theorem Xn:xI X (.type "list") (λxs H Q=>∃p ys,xs=[.ref p]∧(zK X.K H p ys∨jo X.K H p ys)∧Nw H (.lst ys) Q):=
 aN.mono λ_ _ _ ⟨p,ys,a,b,c⟩=>⟨p,ys,a,b,c.el⟩
theorem Bs:Fc X (λx lo hi H Q=>∃a xs,x=.ref a∧zK X.K H a xs∧Nw H (.lst (cb xs lo hi)) Q):=
 BR.mono λ_ _ _ _ _ ⟨a,xs,e,b,c⟩=>⟨a,xs,e,b,c.el⟩
theorem vG:bM X (O9 .Add) (λx y H Q=>∃l b xs zs,x=.ref l∧y=.ref b∧H l=some (.lst xs)∧H b=some (.lst zs)∧xs.length + zs.length≤S0∧Nw H (.lst (xs ++ zs)) Q):=
 Mf.mono λ_ _ _ _ ⟨l,b,xs,zs,a,c,d,e,f,g⟩=>⟨l,b,xs,zs,a,c,d,e,f,g.el⟩
theorem qk:aC X "list.append" (λx vs H Q=>∃l xs y,x=.ref l∧vs=[y]∧H l=some (.lst xs)∧xs.length < S0∧Ch H l (.lst (xs ++ [y])) (Q .non)):=
 aC.mono rh λ_ _ _ _ ⟨l,xs,y,a,b,c,d,e⟩=>⟨l,xs,y,a,b,c,d,e.el⟩
theorem YE:aC X "list.clear" (λx vs H Q=>∃l xs,x=.ref l∧vs=[]∧H l=some (.lst xs)∧Ch H l (.lst []) (Q .non)):=
 aC.mono YO λ_ _ _ _ ⟨l,xs,a,b,c,e⟩=>⟨l,xs,a,b,c,e.el⟩
theorem oj:aC X "list.pop" (λx vs H Q=>∃l xs y,x=.ref l∧vs=[]∧H l=some (.lst xs)∧xs[xs.length - 1]?=some y∧Ch H l (.lst xs.dropLast) (Q y)):=
 aC.mono Mq λ_ _ _ _ ⟨l,xs,y,a,b,c,d,e⟩=>⟨l,xs,y,a,b,c,d,e.el⟩
theorem V2:aC X "list.extend" (λx vs H Q=>∃l b xs zs,x=.ref l∧vs=[.ref b]∧H l=some (.lst xs)∧H b=some (.lst zs)∧xs.length + zs.length≤S0∧Ch H l (.lst (xs ++ zs)) (Q .non)):=
 aC.mono V0 λ_ _ _ _ ⟨l,b,xs,zs,a,a',c,d,e,f⟩=>⟨l,b,xs,zs,a,a',c,d,e,f.el⟩
theorem aw:Ha X (λo i v H Q=>∃p xs k j,o=.ref p∧i=.int k∧H p=some (.lst xs)∧JS xs.length k=some j∧Ch H p (.lst (xs.set j v)) Q):=by
 intro pins s σ H o i v
 have h:=@set_list X pins s σ H o i v
 intros
 rename_i q
 exact h _ _ _ _ ‹_› ‹_› ‹_› ‹_› (by obtain⟨p,xs,k,j,a,b,c,d,e⟩:=q;exact⟨p,xs,k,j,a,b,c,d,e.el⟩)
end
structure qg (P:SM) (w:Tj) (K:Sd) (mg:Str→Option Sr) (base:Heap) (CX:sX) (k:Nat) (C:Addr) (m:Str) (sp:Sp):Prop where
 ex:∃f fd ps,Meth K C m f∧zo P w K mg base CX k f fd ps sp∧Binds K fd ps []
theorem qg.mk' {P:SM} {w:Tj} {K:Sd} {mg:Str→Option Sr} {base:Heap} {CX:sX} {j k:Nat} {C f:Addr} {m:Str} {sp:Sp} {fd:SH} {ps:List Str} (h1:Meth K C m f) (h2:zo P w K mg base CX j f fd ps sp) (h3:Binds K fd ps []) (h:j≤k) :
  qg P w K mg base CX k C m sp:=⟨f,fd,ps,h1,h2.mono h,h3⟩
def Kq (X:Cx) (CX:sX) (k:Nat) (m:Str) (E:XK) (ta:TE) (t:TA):TE:=λσ H Q=>ta σ H λx H1=>∃a C dx fs,x=.ref a∧H1 a=some (.ins C dx fs)∧uK X.K C∧fs.lookup m=none∧
 ∃sp,qg X.prog X.w X.K X.mg X.base CX k C m sp∧t σ H1 λvs H2=>sp (x :: vs) H2 Q E
section
variable {X:Cx} {k:Nat} {m:Str} {pos apos:Pos} {e o:Expr} {es:List Expr} {ta:TE} {t:TA}
theorem qU {pl:Sem Bool} (hr:xj k X.A) (he:PE X o ta) (ha:PA X (e :: es) t)
  (hst:Tc (e :: es) X.env=(false,eval e X.env) :: Tc es X.env:=by rfl) (hpl:(backTo pos (Tc es X.env)).any (·.1)=false:=by rfl)
  (ht:eval (.Call (.Attribute o m apos) (e :: es) [] pos) X.env=(do
   let ov ←eval o X.env
   standAt apos.atName
   let (f,first) ←holding [ov] (IZ ov m pl)
   callWith pos f first (backTo pos (Tc (e :: es) X.env)) (ON pos (NS [] X.env))):=by rfl) :
  PE X (.Call (.Attribute o m apos) (e :: es) [] pos) (Kq X zC k m E0 ta t):=by
 intro pins s σ H Q I h
 refine N7 (pl:=pl) (qW (he pins s σ H _ I h) λu s1 ⟨x,H1,I1,rx,a,C,dx,fs,ex,ea,c,l,sp,M,q⟩=>?_) ht
 subst ex
 obtain⟨f,fd,ps,hm,F,hb⟩:=M.ex
 obtain rfl:u=Tf a:=rx
 refine gS I1 ea c hm l ?_
 refine N5 (first:=[.ref a]) (h₀:=X.base) I.ok.mod.WR hm.kp (qW (ha pos pins s1 σ H1 _ I1 q) λus s2 ⟨vs,H2,I2,r,q2⟩=>⟨I2.bD,?_⟩) hst hpl
 exact oF (us:=.ref a :: us) (vs:=.ref a :: vs) F hr hb .nil zJ I2 (.cons rfl r) (by rw[Tt];exact q2)
theorem jf {pl:Sem Bool} (hr:xj k X.A) (he:PE X o ta)
  (ht:eval (.Call (.Attribute o m apos) [] [] pos) X.env=(do
   let ov ←eval o X.env
   standAt apos.atName
   let (f,first) ←holding [ov] (IZ ov m pl)
   callWith pos f first (backTo pos (Tc [] X.env)) (ON pos (NS [] X.env))):=by rfl) :
  PE X (.Call (.Attribute o m apos) [] [] pos) (Kq X zC k m E0 ta BE):=by
 intro pins s σ H Q I h
 refine N7 (pl:=pl) (qW (he pins s σ H _ I h) λu s1 ⟨x,H1,I1,rx,a,C,dx,fs,ex,ea,c,l,sp,M,q⟩=>?_) ht
 subst ex
 obtain⟨f,fd,ps,hm,F,hb⟩:=M.ex
 obtain rfl:u=Tf a:=rx
 refine gS I1 ea c hm l ?_
 exact AW (first:=[.ref a]) I1.bD hm.kp (oF (us:=[.ref a]) (vs:=[.ref a]) F hr hb .nil zJ I1 (.cons rfl .nil) q)
end
theorem Fs {α:Type} [Inhabited α] {xs:List α} {i:Int} (h0:0≤i) (h1:i < xs.length):vC xs i=some (xs.getD i.toNat default):=by
 have hj:i.toNat < xs.length:=by omega
 have e:=kT (xs:=xs) (j:=i.toNat) (v:=xs[i.toNat]) (by simp [hj])
 rw[IU h0] at e
 rw[e,Tx,Sn hj]
 rfl
theorem Kd {α:Type} {f:α→V} {xs:List α} {i:Int} (d:α) (h0:0≤i) (h1:i < xs.length):vC (xs.map f) i=some (f (xs.getD i.toNat d)):=by
 have hj:i.toNat < (xs.map f).length:=by rw[Su];omega
 have e:=kT (xs:=xs.map f) (j:=i.toNat) (v:=(xs.map f)[i.toNat]) (Sn hj)
 rw[IU h0] at e
 rw[e,List.getElem_map,Tx,Sn (by omega)]
 rfl
theorem jq {xs:List Int} {i:Int} (h0:0≤i) (h1:i < xs.length):vC (xs.map V.int) i=some (.int (xs.getD i.toNat 0)):=Kd 0 h0 h1
theorem bA {xs:List Str} {i:Int} (h0:0≤i) (h1:i < xs.length):vC (xs.map V.str) i=some (.str (xs.getD i.toNat "")):=Kd (f:=V.str) ("" : Str) h0 h1
theorem Ye {n:Nat} {i:Int} (h0:0≤i) (h1:i < n):JS n i=some i.toNat:=by
 unfold JS;rw[if_pos h0,if_pos h1]
theorem kH {α:Type} {P:α→Prop} {xs:List α} {j:Nat} (d:α) (h:∀x∈xs,P x) (hj:j < xs.length):P (xs.getD j d):=by
 rw[Tx,Sn hj]
 exact h _ (N4 hj)
theorem W3 {z:Str} {i:Int} (h0:0≤i) (h1:i < z.length):vC z.cps.toList i=some (z.cps.toList.getD i.toNat 0):=Fs h0 (by simpa [ND] using h1)
theorem bz {a b:Str} (h:a.cps.toList=b.cps.toList):a=b:=by
 cases a;cases b
 simp only at h
 rw[Array.toList_inj.mp h]
theorem QI (s x y:Str) (r:List Str):Nh s (x :: y :: r)=x ++ s ++ Nh s (y :: r):=rfl
theorem join_one (s x:Str):Nh s [x]=x:=rfl
end L2
namespace L2
open PySem PySem.Spec PyProof.Rows
theorem Fo {x y:Str} {n m:Nat} (hx:x.length≤n) (hy:y.length≤m) (h:n + m≤1000):x.length + y.length≤S0:=zg (by omega)
theorem HY {x y:Str} {n m:Nat} (hx:x.length≤n) (hy:y.length≤m):(x ++ y).length≤n + m:=by rw[fZ];omega
theorem YV (x:Str):x.length≤x.length:=SD _
end L2
namespace L2
open PySem PySem.Spec PyProof.Rows
def eV (K:Sd) (H:Hp) (x:V) (f:Str) (v:V):Prop:=∃a C dx fs,x=.ref a∧H a=some (.ins C dx fs)∧uK K C∧zY K C f∧fs.lookup f=some v
def UU (K:Sd) (ta:TE) (f:Str):TE:=λσ H Q=>ta σ H λx H1=>∃v,eV K H1 x f v∧Q v H1
theorem zS {X:Cx} {K:Sd} (hK:X.K=K) {e:Expr} {ta:TE} {f:Str} {pos:Pos} (he:PE X e ta) (hb:Oh e f X.env (eval e X.env)=eval e X.env):PE X (.Attribute e f pos) (UU K ta f):=by
 subst hK
 refine(Mt he.cut hb).mono λσ H Q q=>⟨_,q,λx H1 z=>?_⟩
 obtain⟨v,⟨a,C,dx,fs,h1,h2,h3,h4,h5⟩,q⟩:=z
 exact⟨a,C,dx,fs,v,h1,h2,h3,h4,h5,q⟩
theorem kq (K:Sd) (t:Sr):TK K t t=some true:=by
 unfold TK
 rw[if_pos (by simp)]
end L2
namespace L2
open PySem PySem.Spec PyProof.Rows
structure Sz (K:Sd) (C:Addr):Prop where
 makes:E7 K C=true
 init:Tv K (.ref C) "__init__" = some (some (.builtin "object.__init__"))
 kp:NQ K (.ref C)=true
section
variable {X:Cx} {C:Addr} {x:Str} {p pos:Pos}
end
end L2
namespace L2
open PySem PySem.Spec PyProof.Rows
theorem Y8 {n:Int} (h0:0≤n) (h1:n≤10 ^ 20):(SR (toString n)).length≤21∧1≤(SR (toString n)).length∧asc (SR (toString n)):=by
 obtain⟨m,rfl⟩:=Nd h0
 have e:=OM m
 have hl:(SR (toString ((m:Nat):Int))).length=(zzk 10 m).length:=by
  have:=congrArg Nc e
  rw[Su] at this
  rw[←this]
  simp [ND]
 refine⟨?_,?_,λc hc=>?_⟩
 ·rw[hl]
  refine digits10_le (by decide) ?_
  have:(m:Int) < 10 ^ 21:=by omega
  exact_mod_cast this
 ·rw[hl];exact toDigits_len_ge 10 m
 ·rw[e] at hc
  obtain⟨ch,hch,rfl⟩:=TY.mp hc
  have r:=zqb (N1 (by decide) (by decide) hch)
  omega
theorem VI {n:Int} (h0:0≤n) (h1:n≤10 ^ 20):n.natAbs.log2 < 1920:=by
 have:n.natAbs < 2 ^ 67:=by omega
 by_cases h:n.natAbs=0
 ·rw[h];decide
 ·exact zqt ((Nat.log2_lt h).mpr this) (by decide)
theorem pV (xs ys:List Str):Iv (.list (xs.map Nz)) (.list (ys.map Nz))=decide (xs=ys):=by
 simp only[Iv,pK]
end L2
namespace L2
open PySem PySem.Spec PyProof.Rows
theorem D9 {H H':Hp} {b:Addr} {o:HO} (e:H b=some o) (s:zp H H'):H' b=some o:=s b o e
theorem ML {K:Sd} {H H':Hp} {a:Addr} {xs:List V} (h:zK K H a xs) (s:zp H H'):zK K H' a xs:=s.seq h
end L2
namespace L2
open PySem PySem.Spec PyProof.Rows
end L2
namespace L2
open PySem PySem.Spec PyProof.Rows
section
variable {X:Cx} {K:Sd}
theorem vI {es:List Expr} {k:Nat} {t:Pz} {n:Nat} {pos:Pos} (hK:X.K=K) (hc:X.calm=true) (h:Df X es t)
  (hn:(Ik es X.env).length=n:=by rfl) (hst:(Ik es X.env).findIdx? (·.1)=none:=by rfl):PG X (.Tuple es k pos) (FU K n t):=hK▸Ma hc h hn hst
theorem zv (hK:X.K=K):Dp X (MH K):=hK▸HA
theorem qH (hK:X.K=K):Dp X (MB K):=hK▸FN
theorem qD (hK:X.K=K):Fc X (λx lo hi H Q=>∃a xs,x=.ref a∧zK K H a xs∧Nw H (.lst (cb xs lo hi)) Q):=hK▸Bs
theorem oV (hK:X.K=K):bM X (Ny .In) (CZ K false):=hK▸Wv
theorem fF (hK:X.K=K):bM X (Ny .NotIn) (CZ K true):=hK▸ZS
theorem fP (hK:X.K=K) (hu:X.A.units + 64 < cLine):bM X (Ny .Eq) (BW K false):=hK▸Mm hu
theorem ZL (hK:X.K=K) (hu:X.A.units + 64 < cLine):bM X (Ny .NotEq) (BW K true):=hK▸Md hu
theorem zH (hK:X.K=K):xI X (.builtin "len") (λxs H Q=>∃p ys,xs=[.ref p]∧(zK K H p ys∨jo K H p ys)∧Q (.int ys.length) H):=hK▸aT
theorem jP (hK:X.K=K):xI X (.type "list") (λxs H Q=>∃p ys,xs=[.ref p]∧(zK K H p ys∨jo K H p ys)∧Nw H (.lst ys) Q):=hK▸Xn
theorem qT (hK:X.K=K):xI X (.builtin "isinstance") (λxs H Q=>∃x c t b,xs=[x,c]∧((∃n,c=.ty n)∨∃a,c=.ref a)∧xZ K H x t∧TK K t (Yq c)=some b∧Q (.bl b) H):=hK▸QQ
theorem pR (hK:X.K=K):aC X "str.join" (rJoin K):=hK▸Bf
theorem qf {tg l:Expr} {tl:TE} (hK:X.K=K) (hl:PE X l tl):PI X tg l (Pw K tl):=hK▸BJ hl
theorem Ba {tg l:Expr} {tl:TE} (hK:X.K=K) (hl:PE X l tl):PI X tg l (D4 K tl):=hK▸MQ hl
end
end L2
namespace L2
open PySem PySem.Spec PyProof.Rows
structure wc (osc:Scope) (N:List Str) (sc:Scope) (xs names:List Str) (zU:List Nat):Prop where
 kind:sc.kind=.function
 oy:∀y∈sc.names,y.2≠.cell
 locs:∀y∈sc.names,y.2=.local→sc.names.lookup y.1=some .local
 frees:∀y∈sc.names,y.2=.free→osc.names.lookup y.1=some .cell
 own:∀x∈xs,sc.names.lookup x=some .local
 zU:names.map some=zU.map λi=>N[i]?
 Xv:∀y∈names,sc.names.lookup y=some .free
 nd:(xs ++ names).Nodup
def jv (X:Cx) (sc:Scope) (xs names:List Str) (fp:List Addr) (s₀:Ss) (H₀:Hp):Cx where
 prog:=X.prog
 w:=X.w
 K:=X.K
 mg:=X.mg
 base:=X.base
 A:=X.A
 N:=xs ++ names
 s₀:=s₀
 H₀:=H₀
 env:=compEnvC sc (qv X.env sc.names []) s₀.heap.objs.size X.env
 outer:=X.stack
 stack:=X.stack
 ex:=fp
 fn:=λ_=>false
 calm:=X.calm
 pn:=[]
 xe:=λ_ _=>False
theorem yy {X:Cx} {sc:Scope} {xs names:List Str} {fp:List Addr} {s₀:Ss} {H₀:Hp} {x:Str} (h:sc.names.lookup x=some .local):(jv X sc xs names fp s₀ H₀).env.scope.names.lookup x=some .local:=lookup_relabel_local h
def DY (X:Cx) (ifs:List Expr) (t:TT):Prop:=
 ∀(pins:List (Addr × Obj)) (s:Ss) (σ:St) (H:Hp) (Q:Bool→Hp→Prop),Inv X pins σ H s→t σ H Q→
  S6 (S4 X.prog X.w) X.A (forIn ifs true λc r=>if r=true then do let ok ←isTrue c X.env (eval c X.env);pure (OH ok) else pure (OH r)) (TP X pins σ Q) X.xe s
def B0:TT:=λ_ H Q=>Q true H
theorem sL {X:Cx}:DY X [] B0:=λ_ _ _ H _ I q=>zzH ⟨H,I,q⟩
theorem ZE {X:Cx} {c:Expr} {t:TT} (h:PT X c t):DY X [c] t:=λpins s σ H Q I q=>wpAny_tests_one (h pins s σ H Q I q)
def tK (J:It) (n:Nat) (zU:List Nat) (g:TG) (tt:TT) (te:TE) (σ:St) (Q:VK) (H1:Hp):Prop:=∀D,H1 D=none→∃W:Nat→Nat→St→Hp→Prop,(∃m,W 0 m (Tb n none ++ kZ σ zU) (upd H1 D (.lst [])))∧∀i m σ1 H2,W i m σ1 H2→
 (J.stop i H2∧Q (.ref D) H2)∨(J.go i H2∧∀y H3,J.Hd i H2 y H3→g y σ1 H3 λσ2 H4=>tt σ2 H4 λb H5=>if b=true then te σ2 H5 λv H6=>∃ys,H6 D=some (.lst ys)∧ys.length < S0∧∃m',m' < m∧W (i + 1) m' σ2 (upd H6 D (.lst (ys ++ [v])))
  else ∃m',m' < m∧W (i + 1) m' σ2 H5)
def G4 (n:Nat) (zU:List Nat) (wi:TI) (g:TG) (tt:TT) (te:TE):TE:=λσ H Q=>wi σ H λJ H1=>tK J n zU g tt te σ Q H1
section
variable {prog:SM} {w:Tj} {A:TM} {R:Result→Ss→Prop} {s:Ss}
theorem a8 {elt target iter:Expr} {ifs:List Expr} {scope:Scope} {pos:Pos} {it acc:Sr} {env:Env} (I:Nat→Ss→Prop)
  (turn:∀n s,I n s→S6 (S4 prog w) A (pyNext it) (λr s₁=>match r with
   | none=>R (.ok .next) s₁
   | some v=>S6 (S4 prog w) A (OY target it v) (λ_ s₁'=>S6 (S4 prog w) A (assign target env v) (λ_ s₂=>
     S6 (S4 prog w) A (forIn ifs true λc r=>if r=true then do let ok ←isTrue c env (eval c env);pure (OH ok) else pure (OH r)) (λok s₃=>
      if ok=true then S6 (S4 prog w) A (eval elt env) (λx s₄=>
       S6 (S4 prog w) A (call (.builtin "list.append") [acc,x]) (λ_ s₅=>∃m,m < n∧I m s₅) (IX (S4 prog w) A env λe s'=>R (.error e) s') s₄) (IX (S4 prog w) A env λe s'=>R (.error e) s') s₃
      else ∃m,m < n∧I m s₃) (IX (S4 prog w) A env λe s'=>R (.error e) s') s₂)
      (IX (S4 prog w) A env λe s'=>R (.error e) s') s₁') (IX (S4 prog w) A env λe s'=>R (.error e) s') s₁) (IX (S4 prog w) A env λe s'=>R (.error e) s') s)
  (n:Nat) (h:I n s) :
  Og (S4 prog w) A (.compLoop (.ListComp elt [⟨target,iter,ifs,0⟩] scope pos) 0 it acc env) R s:=by
 refine codeAny_loop rfl I (λn s hI=>?_) n h
 show S6 _ A ((compTurn (.ListComp elt [⟨target,iter,ifs,0⟩] scope pos) 0 it acc env).onRaise (λx=>do noteFrame x env;theTreesLotGoes x)) _ _ s
 refine wpAny_noted ?_
 rw[compTurn_list]
 refine SX (OP (SX (TR (turn n s hI) (λr s₁ h₁=>?_) λ_ _ h'=>h')))
 cases r with
 | none=>exact Td h₁
 | some v=>
  refine SX (TR h₁ (λ_ s₁' h₁'=>?_) λ_ _ h'=>h')
  refine SX (TR h₁' (λ_ s₂ h₂=>SX (TR h₂ (λok s₃ h₃=>?_) λ_ _ h'=>h')) λ_ _ h'=>h')
  cases ok with
  | false=>exact Td ⟨rfl,h₃⟩
  | true=>
   exact SX (SX (TR h₃ (λx s₄ h₄=>SX (TR h₄ (λ_ s₅ h₅=>Td (Td ⟨rfl,h₅⟩)) λ_ _ h'=>h')) λ_ _ h'=>h'))
end
section
variable {X:Cx}
theorem HM {pins:List (Addr × Obj)} {σ:St} {H:Hp} {s:Ss} {osc:Scope} {N:List Str} {sc:Scope} {xs names:List Str} {zU:List Nat} {fp:List Addr}
  (hos:X.env.scope=osc) (cs:wc osc N sc xs names zU) (I:Inv X pins σ H s) (hf:∀b∈fp,wt X pins H b) (hlt:∀b∈fp,b < s.heap.objs.size):(jv X sc xs names fp s H).Ok:=by
 subst hos
 have cl:=xW (env:=X.env) sc.names [] (λz c e=>by simp at e)
 have hcl:∀y c,(qv X.env sc.names []).lookup y=some c→X.env.cells.lookup y=some c:=λy c e=>by
  have e1:=cl.1 y c e
  have hm:(y,TX)∈sc.names:=by
   by_cases q:(y,TX)∈sc.names
   ·exact q
   ·have:=(cl.2 y).mpr ⟨rfl,q⟩
    rw[this] at e;cases e
  obtain⟨c',hc'⟩:=I.ok.has y (.inl (cs.frees _ hm rfl))
  rw[hc'] at e1 ⊢
  rw[e1];rfl
 refine⟨I.ok.mod,?_,I.ok.glob,I.ok.blt,SD _,λy z c h1 h2=>I.ok.inj y z c (hcl y c h1) (hcl z c h2),λy hy=>?_,λy c h=>?_,I.ok.hd,I.ok.frames,.inl rfl,λb hb=>⟨?_,λy c h=>?_⟩,
  I.bs,TV I.ok.WC I.sz,λb o e hb=>?_,λb hb z=>?_,I.stack,I.ur⟩
 ·exact cs.kind
 ·have hy':(relabel sc X.env).names.lookup y=some .cell∨(relabel sc X.env).names.lookup y=some .free:=hy
  have key:sc.names.lookup y=some .free:=by
   unfold relabel at hy'
   rw[jB] at hy'
   cases q:sc.names.lookup y with
   | none=>rw[q] at hy';simp at hy'
   | some k=>
    rw[q] at hy'
    have hm:=Nj q
    have hnc:=cs.oy _ hm
    by_cases hk:k=.free
    ·rw[hk]
    ·have e:(if (k == TX && X.env.scope.kind == .function && X.env.kindOf y == some .cell)=true then N3 else k)=k:=if_neg (by simp [hk])
     rw[Ng,e] at hy'
     rcases hy' with z | z
     ·exact absurd (Tq z) hnc
     ·exact absurd (Tq z) hk
  have hm:=Nj key
  cases q:(qv X.env sc.names []).lookup y with
  | some c=>exact⟨c,q⟩
  | none=>exact absurd hm ((cl.2 y).mp q).2
 ·exact absurd (show false=true from h) (by simp)
 ·exact Ti (hlt b hb)
 ·exact(hf b hb).2.2.2.2.1 y c (hcl y c h)
 ·rcases(hf b hb).2.2.2.1 with z | z
  ·exact I.ok.V4 b o e z
  ·exact absurd (Tn (SO e) (TV I.ok.WC z)) (N2 _)
 ·rcases So.mp (I.iV b z) with q | q
  ·exact(hf b hb).2.1 q
  ·exact(hf b hb).2.2.1 q
theorem eM {pins:List (Addr × Obj)} {σ:St} {s₂:Ss} {osc:Scope} {N:List Str} {sc:Scope} {pos:Pos} {elt iter tg:Expr} {ifs:List Expr} {xs names:List Str} {zU:List Nat} {g:TG} {tt:TT} {te:TE} {E:Sr→Ss→Prop}
  {RR:Sr→Addr→Result→Ss→Prop} {H2:Hp} {it:Addr} {fp:List Addr} {tn:Nat→Heap→Prop} {J:It} {Qd:V→Hp→Prop}
  (hc:X.calm=true) (hos:X.env.scope=osc) (hN:X.N=N) (cs:wc osc N sc xs names zU) (hg:∀fp s₀ H₀,PG (jv X sc xs names fp s₀ H₀) tg g) (ht:∀fp s₀ H₀,DY (jv X sc xs names fp s₀ H₀) ifs tt) (he:∀fp s₀ H₀,PE (jv X sc xs names fp s₀ H₀) elt te)
  (I2:Inv X pins σ H2 s₂) (T:Turn X.prog X.w X.K tg J fp it tn) (st2:tn 0 s₂.heap) (f2:∀b∈fp,wt X pins H2 b)
  (hW:tK J xs.length zU g tt te σ Qd H2)
  (cont:∀D C H5 s6 m,Inv X pins σ H5 s6→s6.heap.Ns C m→wt X pins H5 C→Qd (.ref D) H5→RR (.ref D) C (.ok .next) s6) :
  S6 (S4 X.prog X.w) X.A (newList []) (λacc s₃=>S6 (S4 X.prog X.w) X.A (newFunctionEnv sc X.env.globals (qv X.env sc.names []) [] X.env.qual none .none (some X.env)) (λcenv s₄=>
   Og (S4 X.prog X.w) X.A (.compStart (.ListComp elt [⟨tg,iter,ifs,0⟩] sc pos) 0 (.ref it) acc { cenv with scope:=relabel sc X.env }) (RR acc cenv.locals) s₄) E s₃) E s₂:=by
 subst hN
 refine Et (Am cs.oy (by intro y hy;simp at hy) (λh₁ hns₁ hsb₁=>?_) cs.kind)
 dsimp only at hns₁ hsb₁ ⊢
 have fp2:∀b∈fp,b < s₂.heap.objs.size:=λb hb=>by
  obtain⟨o,e,_⟩:=T.obj _ _ st2 b hb
  exact SO e
 have I3:Inv X pins σ (upd H2 s₂.heap.objs.size (.lst [])) { s₂ with heap:=s₂.heap.push { cls:=.type "list",dict:=none,data:=.seq ([]:List Sr).toArray } }:=I2.YB (t':=s₂.toks) (its:=[]) .nil (Tr _)
 obtain⟨W,⟨m0,w0⟩,turn⟩:=hW s₂.heap.objs.size I2.fresh
 have f3:∀b∈fp,wt X pins (upd H2 s₂.heap.objs.size (.lst [])) b:=λb hb=>⟨by rw[zG (Ti (fp2 b hb))];exact(f2 b hb).1,(f2 b hb).2⟩
 have hD:∀b o,s₂.heap.get? b=some o→(s₂.heap.push { cls:=.type "list",dict:=none,data:=.seq ([]:List Sr).toArray }).get? b=some o:=λb o e=>SQ _ e
 generalize hs3:({ s₂ with heap:=s₂.heap.push { cls:=.type "list",dict:=none,data:=.seq ([]:List Sr).toArray } }:Ss)=s₃ at *
 have hs3h:s₃.heap=s₂.heap.push { cls:=.type "list",dict:=none,data:=.seq ([]:List Sr).toArray }:=by rw[←hs3]
 rw[←hs3h] at hns₁ hsb₁ hD ⊢
 have KY:∀b∈fp,b < s₃.heap.objs.size:=λb hb=>by
  rw[hs3h,OT];exact zzj (fp2 b hb)
 have k3:∀b o,s₃.heap.get? b=some o→h₁.get? b=some o:=λb o e=>hsb₁.extBut b o (Ti (SO e)) (SQ _ e)
 have ok:=HM hos cs I3 f3 KY
 have cl:=xW (env:=X.env) sc.names [] (λz c e=>by simp at e)
 have hcl:∀y c,(qv X.env sc.names []).lookup y=some c→X.env.cells.lookup y=some c:=λy c e=>by
  have e1:=cl.1 y c e
  have hm:(y,TX)∈sc.names:=by
   by_cases q:(y,TX)∈sc.names
   ·exact q
   ·have:=(cl.2 y).mpr ⟨rfl,q⟩
    rw[this] at e;cases e
  obtain⟨c',hc'⟩:=I3.ok.has y (.inl (by show X.env.scope.names.lookup y=_;rw[hos];exact cs.frees _ hm rfl))
  rw[hc'] at e1 ⊢
  rw[e1];rfl
 have cell4:∀y c,(qv X.env sc.names []).lookup y=some c→∀v,s₃.heap.IsCell c v→h₁.IsCell c v:=λy c e v ⟨o,ho,hd⟩=>⟨o,k3 _ _ ho,hd⟩
 have lenC:zU.length=names.length:=by have:=congrArg Nc cs.zU;simpa using this.symm
 have I4:∀tk,Inv (jv X sc xs names fp s₃ (upd H2 s₂.heap.objs.size (.lst []))) [] (Tb xs.length none ++ kZ σ zU) (upd H2 s₂.heap.objs.size (.lst [])) { s₃ with heap:=h₁,toks:=tk }:=λtk=>by
  refine⟨ok,rfl,I3.bare,Un.kept k3,⟨_,hns₁,λi y v e1 e2 e3=>?_⟩,λy c e=>?_,I3.fresh,λy c e=>I3.yt y c (hcl y c e),λp hp=>absurd (show p∈([]:List (Addr × Obj)) from hp) (by simp),I3.z8.kept k3,?_⟩
  ·have hle:xs.length≤i:=by
    by_cases q:i < xs.length
    ·rw[Nx (by rw[Nf];exact q),EG,if_pos q] at e2
     cases e2
    ·omega
   obtain⟨j,rfl⟩:∃j,i=xs.length + j:=⟨i - xs.length,by omega⟩
   ·have e1':names[j]?=some y:=by
     have e1z:(xs ++ names)[xs.length + j]?=some y:=e1
     rw[T3 (zzn _ _),Oo] at e1z
     exact e1z
    have e2':(kZ σ zU)[j]?=some (some v):=by
     rw[T3 (by rw[Nf];exact zzn _ _),Nf,Oo] at e2
     exact e2
    unfold kZ at e2'
    rw[SW] at e2'
    cases qc:zU[j]? with
    | none=>rw[qc] at e2';cases e2'
    | some i0=>
     rw[qc] at e2'
     have e2'':(σ[i0]?).join=some v:=by simpa using e2'
     have e3':σ[i0]?=some (some v):=by
      cases qs:σ[i0]? with
      | none=>rw[qs] at e2'';cases e2''
      | some o=>rw[qs] at e2'';rw[show o=some v from by simpa using e2'']
     have eN:X.N[i0]?=some y:=by
      have q1:(names.map some)[j]?=(zU.map λi=>X.N[i]?)[j]?:=by rw[cs.zU]
      rw[SW,SW,e1',qc] at q1
      have q2:some y=X.N[i0]?:=by simpa using q1
      exact q2.symm
     have hfree:=cs.Xv y (SN e1')
     have hm:=Nj hfree
     have hcell:X.env.scope.names.lookup y=some .cell:=by rw[hos];exact cs.frees _ hm rfl
     obtain⟨m,hn,hl⟩:=I3.loc
     obtain⟨u,ru,lk⟩:=hl i0 y v eN e3' (.inr (.inl hcell))
     refine⟨u,ru,?_⟩
     rcases lk with ⟨kk,_⟩ | ⟨kk,c,ec,hcl'⟩
     ·have kk':X.env.scope.names.lookup y=some .local:=kk
      rw[hcell] at kk';cases kk'
     ·refine .inr ⟨?_,c,?_,?_⟩
      ·left
       show (relabel sc X.env).names.lookup y=some .cell
       unfold relabel
       rw[jB,hfree]
       have ef:(X.env.scope.kind == AN)=true:=by rw[I3.ok.kind];rfl
       have ek:(X.env.kindOf y == some N3)=true:=by
        show (X.env.scope.names.lookup y == some N3)=true
        rw[hcell];rfl
       simp [ef,ek]
      ·show (qv X.env sc.names []).lookup y=some c
       cases q:(qv X.env sc.names []).lookup y with
       | none=>exact absurd hm ((cl.2 y).mp q).2
       | some c'=>
        have:=hcl y c' q
        rw[ec] at this
        exact this.symm
      ·obtain⟨o,ho,hd⟩:=hcl'
       exact⟨o,k3 _ _ ho,hd⟩
  ·obtain⟨v,hv⟩:=I3.cell y c (hcl y c e)
   exact⟨v,cell4 y c e v hv⟩
  ·show (Tb xs.length none ++ kZ σ zU).length=(xs ++ names).length
   unfold kZ
   simp [lenC]
 have st4:tn 0 h₁:=T.keep _ _ _ st2 λb hb o e=>k3 b o (by rw[hs3h];exact SQ _ e)
 have fpok:∀{H':Hp},(∀b∈fp,H' b=none)→∀b∈fp,wt (jv X sc xs names fp s₃ (upd H2 s₂.heap.objs.size (.lst []))) [] H' b:=λhn b hb=>
  ⟨hn b hb,(ok.Dc b hb).1,ok.J5 b hb,.inl hb,(ok.Dc b hb).2,λp hp=>absurd (show p∈([]:List (Addr × Obj)) from hp) (by simp)⟩
 have loop:∀s₄:Ss,s₄={ s₃ with heap:=h₁,toks:=s₃.toks + ([]:List (Str × Sr)).length }→
   Og (S4 X.prog X.w) X.A (.compLoop (.ListComp elt [⟨tg,iter,ifs,0⟩] sc pos) 0 (.ref it) (.ref s₂.heap.objs.size) (compEnvC sc (qv X.env sc.names []) s₃.heap.objs.size X.env))
    (RR (.ref s₂.heap.objs.size) s₃.heap.objs.size) s₄:=by
  rintro s₄ rfl
  refine a8 (λn s'=>∃i σ' H',Inv (jv X sc xs names fp s₃ (upd H2 s₂.heap.objs.size (.lst []))) [] σ' H' s'∧tn i s'.heap∧(∀b∈fp,H' b=none)∧W i n σ' H') ?_ m0
   ⟨0,_,_,I4 _,st4,λb hb=>(f3 b hb).1,w0⟩
  rintro n s5 ⟨i,σ5,H5,I5,st5,fr5,w5⟩
  rcases turn i n σ5 H5 w5 with ⟨stop,q⟩ | ⟨go,step⟩
  ·refine qW (T.done (jv X sc xs names fp s₃ (upd H2 s₂.heap.objs.size (.lst []))) rfl rfl rfl hc i [] s5 _ H5 _ I5 (fpok fr5) st5 stop) λr s6 ⟨hr,I6⟩=>?_
   subst hr
   obtain⟨m,hn,_⟩:=I6.loc
   have J6:Inv X pins σ H5 s6:=I3.W8 (ch:=fp) I6.os I6.base I6.z8 I6.bare λb hb=>⟨(f3 b hb).2.2.2.1,(f3 b hb).2.1,(f3 b hb).2.2.2.2.1,(f3 b hb).2.2.2.2.2⟩
   exact cont _ _ H5 s6 m J6 hn (I3.Zf (H':=H5) (SD _) I6.free) q
  ·refine qW (T.item (jv X sc xs names fp s₃ (upd H2 s₂.heap.objs.size (.lst []))) rfl rfl rfl hc i [] s5 _ H5 _ I5 (fpok fr5) st5 go) λr s6 ⟨u,hr,h6⟩=>?_
   subst hr
   refine qW h6 λ_ s6' ⟨y,H6,I6,r6,y6,st6,fr6⟩=>?_
   have I6':=I6.pinned (fpok fr6) (T.obj _ _ st6)
   have back:∀{σ':St} {H':Hp} {s':Ss},Inv (jv X sc xs names fp s₃ (upd H2 s₂.heap.objs.size (.lst []))) ([] ++ dU fp s6'.heap) σ' H' s'→tn (i + 1) s'.heap∧∀b∈fp,H' b=none:=λI9=>
    ⟨T.keep _ _ _ st6 λb hb o e=>(I9.pin (b,o) (SU _ (SU _ (xQ hb e)))).1,λb hb=>by
     obtain⟨o,e,d⟩:=T.obj _ _ st6 b hb
     exact(I9.pin (b,o) (SU _ (SU _ (xQ hb e)))).2.1⟩
   refine TR (hg fp s₃ _ _ s6' _ H6 y u _ I6' r6 (step y H6 y6)) (λ_ s7 ⟨σ7,H7,I7,q7⟩=>?_) λ_ _ z=>T5 z
   refine TR (ht fp s₃ _ _ s7 _ H7 _ I7 q7) (λb s8 ⟨H8,I8,q8⟩=>?_) λ_ _ z=>T5 z
   cases b with
   | false=>
    rw[if_neg S7] at q8 ⊢
    obtain⟨m',hm',w8⟩:=q8
    exact⟨m',hm',i + 1,σ7,H8,I8.je,(back I8).1,(back I8).2,w8⟩
   | true=>
    rw[if_pos rfl] at q8 ⊢
    refine TR (he fp s₃ _ _ s8 _ H8 _ I8 q8) (λv s9 ⟨vv,H9,I9,r9,ys,hD9,hz9,m',hm',w9⟩=>?_) λ_ _ z=>T5 z
    refine TR (rh (X:=jv X sc xs names fp s₃ (upd H2 s₂.heap.objs.size (.lst []))) _ s9 _ H9 (.ref s₂.heap.objs.size) [vv] (.ref s₂.heap.objs.size) [v] (λ_ H'=>H'=upd H9 s₂.heap.objs.size (.lst (ys ++ [vv]))) I9 rfl (.cons r9 .nil)
     ⟨_,ys,vv,rfl,rfl,hD9,hz9,rfl⟩) (λ_ s10 ⟨_,H10,I10,_,e10⟩=>?_) λ_ _ z=>T5 z
    subst e10
    exact⟨m',hm',i + 1,σ7,_,I10.je,(back I10).1,(back I10).2,w9⟩
 exact EI (loop _ (by rw[←hs3])) (T.self _ 0 _ _ _ st4 (loop _ (by rw[←hs3])))
theorem tL {pins:List (Addr × Obj)} {σ:St} {H:Hp} {s:Ss} {osc:Scope} {N:List Str} {sc:Scope} {xs names:List Str} {zU:List Nat} (hos:X.env.scope=osc) (cs:wc osc N sc xs names zU) (I:Inv X pins σ H s) :
  closureFor sc X.env=pure (qv X.env sc.names []):=
 mh λy hy hk=>I.ok.has y.1 (.inl (by show X.env.scope.names.lookup y.1=_;rw[hos];exact cs.frees y hy hk))
theorem wg {osc:Scope} {N:List Str} {sc:Scope} {pos:Pos} {elt iter tg:Expr} {ifs:List Expr} {g:TG} {tt:TT} {xs names:List Str} {zU:List Nat} {wi:TI} {te:TE}
  (hc:X.calm=true) (hos:X.env.scope=osc) (hN:X.N=N) (cs:wc osc N sc xs names zU) (hi:PI X tg iter wi) (hg:∀fp s₀ H₀,PG (jv X sc xs names fp s₀ H₀) tg g) (ht:∀fp s₀ H₀,DY (jv X sc xs names fp s₀ H₀) ifs tt) (he:∀fp s₀ H₀,PE (jv X sc xs names fp s₀ H₀) elt te)
  (hs:∀v,Oy iter X.env v=pure v:=by intro _;rfl):PE X (.ListComp elt [⟨tg,iter,ifs,0⟩] sc pos) (G4 xs.length zU wi g tt te):=by
 intro pins s σ H Q I h
 rw[eval_ListComp]
 refine Oc (use:=none) rfl hs (tL hos cs I) cs.kind cs.locs (qW (hi pins s σ H _ I h) λxv s1 h1=>qW h1 λitv s2 h2=>?_)
 obtain⟨it,fp,tn,J,H2,rfl,I2,T,st2,f2,hW⟩:=h2
 refine eM (Qd:=Q) (RR:=λacc C=>compPost (S4 X.prog X.w) X.A X.xe none (EP X pins σ Q) acc C) hc hos hN cs hg ht he I2 T st2 f2 hW λD C H5 s6 m I6 hn fC q=>?_
 refine⟨m,hn,λh' sb=>?_⟩
 obtain⟨g0,g1,g2,g3,g4,g5⟩:=fC
 exact⟨.ref D,H5,I6.turned (t':=s6.toks) (it:=C) (λb o hb e=>sb.extBut b o hb e) g0 g1 g3 g4 g5,rfl,q⟩
theorem ez {osc:Scope} {N:List Str} {sc:Scope} {y:Str} {py pos spos:Pos} {elt iter tg:Expr} {ifs:List Expr} {g:TG} {tt:TT} {xs names:List Str} {zU:List Nat} {wi:TI} {te:TE} {i:Nat}
  (hc:X.calm=true) (hos:X.env.scope=osc) (hN:X.N=N) (nd:X.N.Nodup) (cs:wc osc N sc xs names zU) (hi':X.N[i]?=some y) (hy:X.env.scope.names.lookup y=some .local) (hi:PI X tg iter wi)
  (hg:∀fp s₀ H₀,PG (jv X sc xs names fp s₀ H₀) tg g) (ht:∀fp s₀ H₀,DY (jv X sc xs names fp s₀ H₀) ifs tt) (he:∀fp s₀ H₀,PE (jv X sc xs names fp s₀ H₀) elt te) (hsw:IE (.ListComp elt [⟨tg,iter,ifs,0⟩] sc pos) (some (.Name y py)) spos.line X.env=pure true:=by rfl)
  (hs:∀v,Oy iter X.env v=pure v:=by intro _;rfl):PS X (.Assign [.Name y py] (.ListComp elt [⟨tg,iter,ifs,0⟩] sc pos) spos) (BO (G4 xs.length zU wi g tt te) (zT i)):=by
 intro pins s σ H D I h
 rw[exec_Assign_Name_used _ _ _ _ hsw]
 refine SX (OP (SX ?_))
 show S6 _ X.A (do let _ ←comprehension (.ListComp elt [⟨tg,iter,ifs,0⟩] sc pos) sc X.env _ (newList []) false (eval iter X.env) (some (assign (.Name y py) X.env))) _ _ s
 refine SX (TR (Oc (use:=some (assign (.Name y py) X.env)) (Q:=λ_ s'=>SP X pins D .next s') rfl hs (tL hos cs I) cs.kind cs.locs
  (qW (hi pins s σ H _ I h) λxv s1 h1=>qW h1 λitv s2 h2=>?_)) (λ_ s' hq=>Td (Td hq)) λ_ _ e=>e)
 obtain⟨it,fp,tn,J,H2,rfl,I2,T,st2,f2,hW⟩:=h2
 refine eM (Qd:=λx H1=>zT i x σ H1 D.nx) (RR:=λacc C=>compPost (S4 X.prog X.w) X.A X.xe (some (assign (.Name y py) X.env)) (λ_ s'=>SP X pins D .next s') acc C) hc hos hN cs hg ht he I2 T st2 f2 hW λD' C H5 s6 m I6 hn fC q=>?_
 show S6 _ X.A (assign (.Name y py) X.env (.ref D')) _ _ _
 obtain⟨oC,es,ep,eC,dC,rC⟩:=id hn
 obtain⟨g0,g1,g2,g3,g4,g5⟩:=id fC
 have I6p:Inv X (pins ++ [(C,oC)]) σ H5 s6:=I6.fM λp hp=>(SI.mp hp).elim (λz=>I6.pin p (SU _ z)) λz=>by
  have e:p=(C,oC):=by simpa using z
  subst e
  exact⟨eC,g0,g1,g2,λv z=>by rw[dC] at z;cases z⟩
 refine Eu (uo I6p nd hi' (.inl hy) (v:=.ref D') rfl (λs7 I7=>?_) (.inr hy))
 have e7:=(I7.pin (C,oC) (SU _ (SU _ (by simp)))).1
 refine⟨m,⟨oC,es,ep,e7,dC,rC⟩,λh' sb=>?_⟩
 exact⟨_,H5,(I7.je).turned (t':=s7.toks) (it:=C) (λb o hb e=>sb.extBut b o hb e) g0 g1 g3 g4 g5,q⟩
end
theorem QK {J:It} {H:Hp} {xs:List V} {n:Nat} {zU:List Nat} {g:TG} {tt:TT} {te:TE} {σ:St} {Q:VK} (hJ:Qo J H xs) (tv:V→List (Option V)) (hn:∀y,(tv y).length=n) (p:V→Bool) (Pr:V→V→Prop) (hsz:xs.length≤S0)
  (hg:∀(i:Nat) (y:V) (ts:List (Option V)) (H':Hp) (K':St→Hp→Prop),xs[i]?=some y→ts.length=n→zp H H'→K' (tv y ++ kZ σ zU) H'→g y (ts ++ kZ σ zU) H' K')
  (ht:∀(i:Nat) (y:V) (H':Hp) (Q':Bool→Hp→Prop),xs[i]?=some y→zp H H'→(∀H4,zp H' H4→Q' (p y) H4)→tt (tv y ++ kZ σ zU) H' Q')
  (he:∀(i:Nat) (y:V) (H':Hp) (Q':VK),xs[i]?=some y→p y=true→zp H H'→(∀v H4,zp H' H4→Pr y v→Q' v H4)→te (tv y ++ kZ σ zU) H' Q')
  (hd:∀(D:Addr) (H':Hp) (ys:List V),zp H H'→H D=none→H' D=some (.lst ys)→Paired Pr (xs.filter p) ys→Q (.ref D) H') :
  tK J n zU g tt te σ Q H:=by
 intro D hD
 refine⟨λi m σ1 H2=>m=xs.length - i∧i≤xs.length∧(∃ts:List (Option V),ts.length=n∧σ1=ts ++ kZ σ zU)∧zp H H2∧∃ys,H2 D=some (.lst ys)∧Paired Pr ((xs.take i).filter p) ys,
  ⟨xs.length,by simp,Tr _,⟨_,Nf,rfl⟩,zp.V1 hD,[],zm,by simpa using Paired.nil⟩,?_⟩
 rintro i m σ1 H2 ⟨rfl,hi,⟨ts,htl,rfl⟩,s2,ys,hy,hp⟩
 obtain⟨j1,j2,j3⟩:=hJ i H2 s2
 by_cases hlt:i < xs.length
 ·refine .inr ⟨j1 hlt,λy H3 q=>?_⟩
  obtain⟨e3,ey⟩:=j2 y H3 q
  subst e3
  have hyi:=ey hlt
  have htake:xs.take (i + 1)=xs.take i ++ [y]:=by
   rw[List.take_add_one,hyi];rfl
  have hlen:ys.length≤i:=by
   rw[←hp.length]
   exact TV (Io _ _) (by rw[S8];omega)
  refine hg i y ts _ _ hyi htl s2 ?_
  refine ht i y _ _ hyi s2 λH5 s5=>?_
  cases hpy:p y with
  | false=>
   rw[if_neg S7]
   refine⟨xs.length - (i + 1),by omega,rfl,hlt,⟨tv y,hn y,rfl⟩,s2.trans s5,ys,s5 _ _ hy,?_⟩
   rw[htake,AO,show [y].filter p=[] by simp [hpy],Tt]
   exact hp
  | true=>
   rw[if_pos rfl]
   refine he i y _ _ hyi hpy (s2.trans s5) λv H6 s6 pr=>⟨ys,s6 _ _ (s5 _ _ hy),by omega,xs.length - (i + 1),by omega,rfl,hlt,⟨tv y,hn y,rfl⟩,((s2.trans s5).trans s6).put hD,ys ++ [v],zm,?_⟩
   rw[htake,AO,show [y].filter p=[y] by simp [hpy]]
   exact hp.snoc pr
 ·have e:i=xs.length:=by omega
  subst e
  refine .inl ⟨j3 rfl,hd D H2 ys s2 hD hy ?_⟩
  rw[T7] at hp
  exact hp
theorem a9 {J:It} {H:Hp} {xs:List V} {zU:List Nat} {tt:TT} {te:TE} {σ:St} {Q:VK} (hJ:Qo J H xs) (p:V→Bool) (Pr:V→V→Prop) (hsz:xs.length≤S0)
  (ht:∀(i:Nat) (y:V) (H':Hp) (Q':Bool→Hp→Prop),xs[i]?=some y→zp H H'→(∀H4,zp H' H4→Q' (p y) H4)→tt (some y :: kZ σ zU) H' Q')
  (he:∀(i:Nat) (y:V) (H':Hp) (Q':VK),xs[i]?=some y→p y=true→zp H H'→(∀v H4,zp H' H4→Pr y v→Q' v H4)→te (some y :: kZ σ zU) H' Q')
  (hd:∀(D:Addr) (H':Hp) (ys:List V),zp H H'→H D=none→H' D=some (.lst ys)→Paired Pr (xs.filter p) ys→Q (.ref D) H') :
  tK J 1 zU (zT 0) tt te σ Q H:=
 QK hJ (λy=>[some y]) (λ_=>rfl) p Pr hsz (λi y ts H' K' _ htl _ q=>by
  match ts,htl with
  | [_],_=>exact q) ht he hd
theorem uG {J:It} {H:Hp} {xs:List V} {n:Nat} {zU:List Nat} {g:TG} {te:TE} {σ:St} {Q:VK} (hJ:Qo J H xs) (tv:V→List (Option V)) (hn:∀y,(tv y).length=n) (Pr:V→V→Prop) (hsz:xs.length≤S0)
  (hg:∀(i:Nat) (y:V) (ts:List (Option V)) (H':Hp) (K':St→Hp→Prop),xs[i]?=some y→ts.length=n→zp H H'→K' (tv y ++ kZ σ zU) H'→g y (ts ++ kZ σ zU) H' K')
  (he:∀(i:Nat) (y:V) (H':Hp) (Q':VK),xs[i]?=some y→zp H H'→(∀v H4,zp H' H4→Pr y v→Q' v H4)→te (tv y ++ kZ σ zU) H' Q')
  (hd:∀(D:Addr) (H':Hp) (ys:List V),zp H H'→H D=none→H' D=some (.lst ys)→Paired Pr xs ys→Q (.ref D) H') :
  tK J n zU g B0 te σ Q H:=
 QK hJ tv hn (λ_=>true) Pr hsz hg (λi y H' Q' _ s' k=>k H' (zp.refl _)) (λi y H' Q' hy _ s' k=>he i y H' Q' hy s' k) (λD H' ys s' hD e q=>hd D H' ys s' hD e (by rw[List.filter_eq_self.mpr (λ_ _=>rfl)] at q;exact q))
end L2
namespace L2
open PySem PySem.Spec PyProof.Rows
section
variable {X:Cx} {pins:List (Addr × Obj)} {σ:St} {H:Hp} {s:Ss} {h':Heap}
theorem Inv.Le {ch:List Addr} {a:Addr} {o:HO} {t':Nat} (I:Inv X pins σ H s) (hf:∀b∈ch,wt X pins H b) (k:∀b u,b∉ch→s.heap.get? b=some u→h'.get? b=some u)
  (hp:s.heap.objs.size≤a) (new:qY X.prog X.w (upd H a o) h' a o):Inv X pins σ (upd H a o) { s with heap:=h',toks:=t' }:=by
 have hn:=I.z8.fresh hp
 have nit:∀b u,H b=some u→b∉ch:=λb u e z=>by rw[(hf b z).1] at e;cases e
 have ne:∀b u,s.heap.get? b=some u→b≠a:=λb u e z=>absurd (Tn (SO (z▸e)) hp) (N2 _)
 refine I.step (g':=s.gens) (d':=s.drawn) (ch:=ch) (λb hb=>?_) (λb o _ _ hc e _=>k b o hc e) (λb o _ _ hc e _=>⟨o.slots,k b o hc e⟩) (λb o hc e n=>?_) (λb o hc e=>⟨o,k b o hc e⟩) (λb xs e=>?_) (λb o u e=>?_) (λb ps e=>⟨#[],?_⟩) (λm hm=>?_) (λb u e=>?_) I.bare
 ·obtain⟨_,f1,_,f3,f4,f5⟩:=hf b hb
  exact⟨f3,f1,f4,f5⟩
 ·rw[zG (ne b o e)];exact n
 ·rw[zG (zh e hn)];exact e
 ·rw[zG (zh e hn)];exact e
 ·rw[zG (zh e hn),e];simp
 ·obtain⟨o,es,ep,ho,r⟩:=hm
  exact⟨o,es,ep,k _ o (λz=>(hf _ z).2.1 rfl) ho,r⟩
 ·by_cases hb:b=a
  ·subst hb;rw[zm] at e;cases e;exact new
  ·rw[zG hb] at e
   refine(I.z8 b u e).eZ (λc v hc q=>k c v ?_ q) (λc q=>by rw[zG (zh q hn)];exact q) λc xs q=>by rw[zG (zh q hn)];exact q
   rcases hc with z | z
   ·rw[z];exact nit b u e
   ·exact nit c _ z
theorem Inv.UG {ch:List Addr} {t':Nat} (I:Inv X pins σ H s) (hf:∀b∈ch,wt X pins H b) (k:∀b u,b∉ch→s.heap.get? b=some u→h'.get? b=some u):Inv X pins σ H { s with heap:=h',toks:=t' }:=by
 have nit:∀b u,H b=some u→b∉ch:=λb u e z=>by rw[(hf b z).1] at e;cases e
 refine I.step (g':=s.gens) (d':=s.drawn) (ch:=ch) (λb hb=>?_) (λb o _ _ hc e _=>k b o hc e) (λb o _ _ hc e _=>⟨o.slots,k b o hc e⟩) (λb o hc e n=>n) (λb o hc e=>⟨o,k b o hc e⟩) (λb xs e=>e) (λb o u e=>e) (λb ps e=>⟨#[],by rw[e];simp⟩) (λm hm=>?_) (λb u e=>?_) I.bare
 ·obtain⟨_,f1,_,f3,f4,f5⟩:=hf b hb
  exact⟨f3,f1,f4,f5⟩
 ·obtain⟨o,es,ep,ho,r⟩:=hm
  exact⟨o,es,ep,k _ o (λz=>(hf _ z).2.1 rfl) ho,r⟩
 ·refine(I.z8 b u e).eZ (λc v hc q=>k c v ?_ q) (λc q=>q) λc xs q=>q
  rcases hc with z | z
  ·rw[z];exact nit b u e
  ·exact nit c _ z
end
def Ui (K:Sd) (a b:Addr):It:=
 ⟨λi H=>∃xs ys x y,zK K H a xs∧zK K H b ys∧xs[i]?=some x∧ys[i]?=some y,
  λi H v H'=>∃t x y,H t=none∧v=.ref t∧H'=upd H t (.tup [x,y])∧(∀xs,zK K H a xs→xs[i]?=some x)∧∀ys,zK K H b ys→ys[i]?=some y,
  λi H=>∃xs ys,zK K H a xs∧zK K H b ys∧(xs.length≤i∨ys.length≤i)⟩
def DD (z TI TO i1 i2 l1 l2:Addr) (i:Nat) (h:Heap):Prop:=
 IsZip h z TI TO .none∧IsPair h TI (.ref i1) (.ref i2)∧(∃a b,IsPair h TO a b)∧h.IsListIter i1 l1 i∧h.IsListIter i2 l2 i
theorem Hx {P:SM} {w:Tj} {K:Sd} {es:List Expr} {k1:Nat} {pos:Pos} {z TI TO i1 i2 l1 l2:Addr} (D:ZipApart z TI TO i1 i2 l1 l2) :
  Turn P w K (.Tuple es k1 pos) (Ui K l1 l2) [z,TI,TO,i1,i2] z (DD z TI TO i1 i2 l1 l2) where
 mem:=by simp
 obj:=λi h st b hb=>by
  obtain⟨a1,a2,⟨x,y,a3⟩,⟨o4,e4,_,d4⟩,o5,e5,_,d5⟩:=st
  simp only[So,Tw,or_false] at hb
  rcases hb with rfl | rfl | rfl | rfl | rfl
  ·exact⟨_,a1,λv q=>by cases q⟩
  ·exact⟨_,a2,λv q=>by cases q⟩
  ·exact⟨_,a3,λv q=>by cases q⟩
  ·exact⟨_,e4,λv q=>by rw[d4] at q;cases q⟩
  ·exact⟨_,e5,λv q=>by rw[d5] at q;cases q⟩
 keep:=λi h h' st k=>by
  obtain⟨a1,a2,⟨x,y,a3⟩,a4,a5⟩:=st
  exact⟨k z (by simp) _ a1,k TI (by simp) _ a2,⟨x,y,k TO (by simp) _ a3⟩,a4.at λo e=>k i1 (by simp) o e,a5.at λo e=>k i2 (by simp) o e⟩
 item:=by
  intro X hP hw hK hc i pins s σ H E I hf st hg
  subst hP hw hK
  obtain⟨xs,ys,x,y,hq1,hq2,hx,hy⟩:=hg
  obtain⟨its1,rv1,p1,_⟩:=I.list hq1
  obtain⟨its2,rv2,p2,_⟩:=I.list hq2
  obtain⟨u1,hu1,ru1⟩:=rv1.get hx
  obtain⟨u2,hu2,ru2⟩:=rv2.get hy
  obtain⟨a1,a2,⟨a,b,a3⟩,a4,a5⟩:=st
  refine wpAny_pyNext_zip_item D a1 a2 a3 a4 a5 p1.isList p2.isList (x:=u1) (y:=u2) (by simpa using hu1) (by simpa using hu2) λh' b1 b2 b3 b4 b5 b6 bk=>?_
  refine⟨_,rfl,wpAny_letOwnedTupleGo_zip b1 λh2 c1 c2=>?_⟩
  have lt:∀{c o},s.heap.get? c=some o→s.heap.objs.size≠c:=λe=>O0 (SO e)
  have keepA:∀c o,c∉[z,TI,TO,i1,i2]→s.heap.get? c=some o→h2.get? c=some o:=λc o hc e=>by
   simp only[So,Tw,or_false,not_or] at hc
   exact c2.extBut _ _ hc.1 (bk c o hc.1 hc.2.2.1 hc.2.2.2.1 hc.2.2.2.2 e)
  have T2:IsPair h2 s.heap.objs.size u1 u2:=c2.extBut _ _ (lt a1) b5
  refine⟨.ref s.heap.objs.size,upd H s.heap.objs.size (.tup [x,y]),I.Le (t':=s.toks) hf keepA (SD _) ?_,rfl,⟨_,x,y,I.fresh,rfl,rfl,λzs hz=>by rw[I.nM hz hq1];exact hx,λzs hz=>by rw[I.nM hz hq2];exact hy⟩,?_,λb hb=>?_⟩
  ·exact⟨by show 2≤S0;decide,[u1,u2],.cons ru1 (.cons ru2 .nil),_,T2,rfl,0,rfl⟩
  ·exact⟨c1,c2.extBut _ _ D.TIz (bk TI _ D.TIz D.TITO D.TIi1 D.TIi2 a2),⟨_,_,c2.extBut _ _ D.TOz b2⟩,b3.extBut c2.extBut D.i1z,b4.extBut c2.extBut D.i2z⟩
  ·have hb':∃o,s.heap.get? b=some o:=by
    obtain⟨o4,e4,_⟩:=a4
    obtain⟨o5,e5,_⟩:=a5
    simp only[So,Tw,or_false] at hb
    rcases hb with rfl | rfl | rfl | rfl | rfl
    ·exact⟨_,a1⟩
    ·exact⟨_,a2⟩
    ·exact⟨_,a3⟩
    ·exact⟨_,e4⟩
    ·exact⟨_,e5⟩
   obtain⟨o,e⟩:=hb'
   rw[zG (TH (lt e))]
   exact(hf b hb).1
 done:=by
  intro X hP hw hK hc i pins s σ H E I hf st hg
  subst hP hw hK
  obtain⟨xs,ys,hq1,hq2,he⟩:=hg
  obtain⟨its1,rv1,p1,_⟩:=I.list hq1
  obtain⟨its2,rv2,p2,_⟩:=I.list hq2
  have l1':=rv1.length
  have l2':=rv2.length
  obtain⟨a1,a2,⟨a,b,a3⟩,a4,a5⟩:=st
  refine wpAny_pyNext_zip_end (I.ok.hd hc) D a1 a2 a3 a4 a5 p1.isList p2.isList ?_ λh' bk=>⟨rfl,I.UG (t':=s.toks) hf λc o hc e=>?_⟩
  ·rcases he with he | he
   ·exact .inl (by simp;omega)
   ·exact .inr (by simp;omega)
  ·simp only[So,Tw,or_false,not_or] at hc
   exact bk c o hc.1 hc.2.2.1 hc.2.2.2.1 hc.2.2.2.2 e
 self:=λ_ _ _ _ _ st h=>zzo st.1 h
def D5 (K:Sd) (ta:TA):TI:=λσ H R=>ta σ H λvs H1=>∃a b xs ys,vs=[.ref a,.ref b]∧zK K H1 a xs∧zK K H1 b ys∧R (Ui K a b) H1
section
variable {X:Cx}
theorem MJ {es:List Expr} {k1:Nat} {tpos:Pos} {a b:Expr} {ta:TA} {p pos:Pos} (hg:Gl X "zip") (hm:X.mg "zip" = none) (ha:PA X [a,b] ta) (hv:Ov "zip" = some (.type "zip"))
  (he:Tc [a,b] X.env=(false,eval a X.env) :: Tc [b] X.env:=by rfl) (hpl:(backTo pos (Tc [b] X.env)).any (·.1)=false:=by rfl) :
  PI X (.Tuple es k1 tpos) (.Call (.Name "zip" p) [a,b] [] pos) (D5 X.K ta):=by
 intro pins s σ H R I h
 refine NM (rq I hg hm hv ?_)
 refine N0 (qW (ha pos pins s σ H _ I h) λus s1 ⟨vs,H1,I1,r1,q1⟩=>?_) he hpl
 obtain⟨l1,l2,xs,ys,rfl,hq1,hq2,q⟩:=q1
 obtain⟨its1,rv1,p1,_⟩:=I1.list hq1
 obtain⟨its2,rv2,p2,_⟩:=I1.list hq2
 cases r1 with
 | cons r rr=>
  cases rr with
  | cons r' rr=>
   cases rr
   cases r
   cases r'
   have b1:l1 < s1.heap.objs.size:=by obtain⟨_,_,e,_⟩:=p1;exact SO e
   have b2:l2 < s1.heap.objs.size:=by obtain⟨_,_,e,_⟩:=p2;exact SO e
   refine call_zip_2 p1.isList p2.isList λh' c1 c2 c3 c4 c5 c6 ck=>?_
   refine zzo (s:={ s1 with heap:=h' }) c1 ?_
   refine⟨_,_,_,_,H1,rfl,I1.kept (t':=s1.toks) ck,Hx (zipApart_new b1 b2),⟨c1,c2,⟨_,_,c3⟩,c4,c5⟩,λc hc=>?_,q⟩
   have:s1.heap.objs.size≤c:=by
    simp only[So,Tw,or_false] at hc
    rcases hc with rfl | rfl | rfl | rfl | rfl<;>omega
   exact I1.Zf this (I1.z8.fresh this)
theorem aP:∀(tk:Nat) (xs:List Str),Vals (xs.map V.str) (strsFrom tk xs)
 | _,[]=>.nil
 | tk,x :: r=>.cons ⟨tk,rfl⟩ (aP (tk + 1) r)
def MP:V→List V→Hp→VK→Prop:=λx vs H Q=>∃z y,x=.str z∧vs=[.str y]∧(y.length == 0)=false∧z.length + 2≤S0∧Nw H (.lst ((NB z y).map V.str)) Q
theorem gf:aC X "str.split" MP:=by
 intro pins s σ H x vs v us Q I rx rv h
 obtain⟨z,y,rfl,rfl,hy,hz,q⟩:=h
 obtain⟨t,rfl⟩:=rx
 obtain⟨u,rfl,ru⟩:=rv.one
 obtain⟨t',rfl⟩:=ru
 have hsz:z.length≤S0:=by omega
 have hle:=Av z y
 have fin:∀(l:List Sr) (tk:Nat),Vals ((NB z y).map V.str) l→EP X pins σ Q (.ref s.heap.objs.size) { s with heap:=s.heap.push { cls:=.type "list",data:=.seq l.toArray },toks:=tk }:=λl tk r=>
  ⟨.ref s.heap.objs.size,_,I.YB (t':=tk) r (by rw[Su];omega),rfl,q.el _ I.fresh⟩
 cases h1:(decide (z.length < y.length) || decide (O4 z < O4 y)) with
 | true=>
  refine OI EH (typeIs_str _ _ _) En (Ey _ _) (meets_str_split_cannot_occur z y t t' h1) ?_
  refine fin [.str z t] s.toks ?_
  have e:NB z y=[z]:=if_pos h1
  rw[e];exact .cons ⟨t,rfl⟩ .nil
 | false=>
  cases hf:(Ot z y 0 z.length (z.length + 1)).isEmpty with
  | true=>
   refine OI EH (typeIs_str _ _ _) En (Ey _ _) (meets_str_split_not_found z y t t' h1 hy hf) ?_
   refine fin [.str z t] s.toks ?_
   have e:NB z y=[z]:=(if_neg (ne_true_of_eq_false h1)).trans (if_pos hf)
   rw[e];exact .cons ⟨t,rfl⟩ .nil
  | false=>
   have e:NB z y=zqp z (Ot z y 0 z.length (z.length + 1)) y.length:=(if_neg (ne_true_of_eq_false h1)).trans (if_neg (ne_true_of_eq_false hf))
   rw[e] at hle
   refine OI EH (typeIs_str _ _ _) En (Ey _ _) (meets_str_split_sep z y t t' h1 hy hf hsz (by omega)) ?_
   refine fin _ _ ?_
   rw[e];exact aP _ _
theorem BZ {K:Sd} {es:List Expr} {k1:Nat} {tpos:Pos} {a b:Expr} {ta:TA} {p pos:Pos} (hK:X.K=K) (hg:Gl X "zip") (hm:X.mg "zip" = none) (ha:PA X [a,b] ta) (hv:Ov "zip" = some (.type "zip"))
  (he:Tc [a,b] X.env=(false,eval a X.env) :: Tc [b] X.env:=by rfl) (hpl:(backTo pos (Tc [b] X.env)).any (·.1)=false:=by rfl) :
  PI X (.Tuple es k1 tpos) (.Call (.Name "zip" p) [a,b] [] pos) (D5 K ta):=hK▸MJ hg hm ha hv he hpl
end
theorem Yx {K:Sd} {a b:Addr} {H:Hp} {xs ys:List V} {zU:List Nat} {te:TE} {σ:St} {Q:VK} (hx:zK K H a xs) (hy:zK K H b ys) (Pr:V→V→V→Prop) (hsz:xs.length≤S0)
  (he:∀(i:Nat) (x y:V) (H':Hp) (Q':VK),xs[i]?=some x→ys[i]?=some y→zp H H'→(∀v H4,zp H' H4→Pr x y v→Q' v H4)→te ([some x,some y] ++ kZ σ zU) H' Q')
  (hd:∀(D:Addr) (H':Hp) (vs:List V),zp H H'→H D=none→H' D=some (.lst vs)→vs.length=min xs.length ys.length→(∀(i:Nat) x y v,xs[i]?=some x→ys[i]?=some y→vs[i]?=some v→Pr x y v)→Q (.ref D) H') :
  tK (Ui K a b) 2 zU (FU K 2 (QD (zT 0) (QD (zT 1) FC))) B0 te σ Q H:=by
 intro D hD
 refine⟨λi m σ1 H2=>m=min xs.length ys.length - i∧i≤min xs.length ys.length∧(∃ts:List (Option V),ts.length=2∧σ1=ts ++ kZ σ zU)∧zp H H2∧∃vs,H2 D=some (.lst vs)∧vs.length=i∧∀(j:Nat) x y v,xs[j]?=some x→ys[j]?=some y→vs[j]?=some v→Pr x y v,
  ⟨min xs.length ys.length,by omega,Tr _,⟨_,Nf,rfl⟩,zp.V1 hD,[],zm,rfl,λj x y v _ _ e=>by simp at e⟩,?_⟩
 rintro i m σ1 H2 ⟨rfl,hi,⟨ts,htl,rfl⟩,s2,vs,hv,hvl,hp⟩
 have hx2:zK K H2 a xs:=ML hx s2
 have hy2:zK K H2 b ys:=ML hy s2
 by_cases hlt:i < min xs.length ys.length
 ·have h1:i < xs.length:=by omega
  have h2:i < ys.length:=by omega
  refine .inr ⟨⟨xs,ys,_,_,hx2,hy2,Sn h1,Sn h2⟩,λu H3 q=>?_⟩
  obtain⟨tp,x,y,htn,rfl,rfl,ex,ey⟩:=q
  have ex:=ex xs hx2
  have ey:=ey ys hy2
  have s3:zp H2 (upd H2 tp (.tup [x,y])):=zp.V1 htn
  match ts,htl with
  | [_,_],_=>
   refine⟨tp,[x,y],rfl,jo.of zm,rfl,x,[y],rfl,y,[],rfl,rfl,?_⟩
   unfold B0
   dsimp only
   rw[if_pos rfl]
   refine he i x y _ _ ex ey (s2.trans s3) λv H6 s6 pr=>⟨vs,s6 _ _ (s3 _ _ hv),by omega,min xs.length ys.length - (i + 1),by omega,rfl,hlt,⟨[some x,some y],rfl,rfl⟩,((s2.trans s3).trans s6).put hD,vs ++ [v],zm,by rw[Sl,hvl];rfl,λj x' y' v' e1 e2 e3=>?_⟩
   by_cases hj:j < vs.length
   ·rw[Nx hj] at e3
    exact hp j x' y' v' e1 e2 e3
   ·have hji:j=i:=by
     have:=(S3.mp e3).1
     rw[Sl,Ak] at this
     omega
    subst hji
    rw[T3 (by omega),hvl,zzx] at e3
    rw[ex] at e1
    rw[ey] at e2
    cases e1
    cases e2
    cases e3
    exact pr
 ·have e:i=min xs.length ys.length:=by omega
  refine .inl ⟨⟨xs,ys,hx2,hy2,by omega⟩,hd D H2 vs s2 hD hv (by omega) hp⟩
end L2
namespace L2
open PyProof.Rows PySem PySem.Spec
def tP (h:Heap) (e C:Addr) (d:Option Addr) (tb:Sr):Prop:=∃vs sl,h.get? e=some ⟨.ref C,d,.fields vs,sl⟩∧vs.size=6∧vs[1]?=some tb∧vs[2]?=some .none
def Hu (h:Heap) (T:Addr) (fl:Sr):Prop:=∃oT ts,h.get? T=some oT∧oT.data=.fields ts∧ts[3]?=some fl
structure uX (fs ch:List Addr) (h h':Heap):Prop where
 keep:∀b o,h.get? b=some o→b∉fs→b∉ch→h'.get? b=some o
 slot:∀b o,h.get? b=some o→b∈fs→b∉ch→∃sl,h'.get? b=some { o with slots:=sl }
 there:∀b o,h.get? b=some o→∃o',h'.get? b=some o'
theorem uX.trans {fs ch:List Addr} {h h1 h2:Heap} (a:uX fs ch h h1) (b:uX fs ch h1 h2):uX fs ch h h2 where
 keep:=λc o e hf hc=>b.keep c o (a.keep c o e hf hc) hf hc
 slot:=λc o e hf hc=>by
  obtain⟨sl,e1⟩:=a.slot c o e hf hc
  obtain⟨sl',e2⟩:=b.slot c _ e1 hf hc
  exact⟨sl',e2⟩
 there:=λc o e=>by
  obtain⟨o',e1⟩:=a.there c o e
  exact b.there c o' e1
theorem uX.mono {fs ch ch':List Addr} {h h1:Heap} (a:uX fs ch h h1) (hs:∀b∈ch,b∈ch'):uX fs ch' h h1:=
 ⟨λc o e hf hc=>a.keep c o e hf λz=>hc (hs c z),λc o e hf hc=>a.slot c o e hf λz=>hc (hs c z),a.there⟩
section
variable {M:Model} {A:TM} {E:Sr→Ss→Prop} {s:Ss} {base:Heap} {env:Env} {outer:List Env} {L e C:Addr} {d:Option Addr}
theorem uX.one {fs:List Addr} {h:Heap} {a:Addr} {f:Obj→Obj} {o:Obj} (ha:h.get? a=some o) (hf:(f o).isFreed=false):uX fs [a] h (h.update a f):=by
 have ne:∀b,b∉[a]→a≠b:=λb hb q=>hb (by rw[q];exact SY.mpr rfl)
 refine⟨λb u e _ hc=>(TN _ _ (ne b hc)).trans e,λb u e _ hc=>⟨u.slots,(TN _ _ (ne b hc)).trans e⟩,λb u e=>?_⟩
 by_cases q:a=b
 ·subst q;exact⟨_,N8 _ ha hf⟩
 ·exact⟨u,(TN _ _ q).trans e⟩
theorem uX.push {fs ch:List Addr} {h:Heap} {o:Obj}:uX fs ch h (h.push o):=
 ⟨λb u e _ _=>SQ _ e,λb u e _ _=>⟨u.slots,SQ _ e⟩,λb u e=>⟨u,SQ _ e⟩⟩
theorem uX.slots {fs ch:List Addr} {h h':Heap} (x:Heap.SlotsOnly fs h h'):uX fs ch h h':=
 ⟨λb u e hf _=>(x.2.1 b hf).trans e,λb u e _ _=>x.2.2 b u e,λb u e=>by obtain⟨sl,q⟩:=x.2.2 b u e;exact⟨_,q⟩⟩
theorem ny {tb head:Sr} {hadNext:Bool} {Q:Unit→Ss→Prop} (hfr:A.frames=some (env :: outer)) (hl:s.heap.FunFrames base (env :: outer)) (hf:env.frame=some L) (hx:tP s.heap e C d tb)
  (hQ:∀h' T,s.heap.objs.size≤T→tP h' e C d (.ref T)→Hu h' T (rawInt L)→uX ((env :: outer).filterMap (·.frame)) [e] s.heap h'→Q () { s with heap:=h' }):S6 M A (do let a ←frameOf env;let pl ←entryPlaceOf L hadNext;let b ←AY head a .none (rawInt L) .none pl;setField (.ref e) 1 b) Q E s:=by
 obtain⟨vs,sl,he,hsz,h1,h2⟩:=hx
 have hne:e∉(env :: outer).filterMap (·.frame):=λhm=>by
  obtain⟨_,o,ho,hnf⟩:=hl.mem hm;rw[he] at ho;injection ho with ho;subst ho;exact hnf vs rfl
 refine SX (wpAny_frameOf_fun hfr hl hf λh1' hs1=>?_)
 refine SX (wpAny_entryPlaceOf λpl hpl=>?_);unfold AY newFields
 refine SX (Et ?_ (hpl.sizeOk5 _ _ _ _ _));have e1:h1'.get? e=some ⟨.ref C,d,.fields vs,sl⟩:=(hs1.2.1 e hne).trans he
 generalize hot:({ cls:=.type "traceback",dict:=none,data:=.fields ([head,.ref L,.none,rawInt L,.none] ++ (if pl.isEmpty then Tb 6 Oa else pl)).toArray }:Obj)=ot
 have e2:=SQ (h:=h1') ot e1
 have hTe:h1'.objs.size≠e:=O0 (SO e1)
 have nf:(EJ (·.setIfInBounds 1 (Tf h1'.objs.size)) ⟨.ref C,d,.fields vs,sl⟩).isFreed=false:=Ii (Iw rfl _)
 have eT:((h1'.push ot).update e (EJ (·.setIfInBounds 1 (Tf h1'.objs.size)))).get? h1'.objs.size=some ot:=(TN _ _ (TH hTe)).trans (To h1' (by subst hot;rfl))
 refine Ad e2 rfl (by omega) (hQ _ h1'.objs.size ?_ ⟨vs.setIfInBounds 1 (Tf h1'.objs.size),sl,?_,by simpa using hsz,by simp [hsz],?_⟩ ⟨ot,_,eT,by subst hot;rfl,?_⟩ ?_)
 ·rw[hs1.1];exact SD _
 ·exact N8 _ e2 nf
 ·rw[Array.getElem?_setIfInBounds_ne (by decide)];exact h2
 ·simp
 ·exact(uX.slots hs1).trans (uX.push.trans (uX.one e2 nf))
theorem Xi {Q:Unit→Ss→Prop} (hfr:A.frames=some (env :: outer)) (hl:s.heap.FunFrames base (env :: outer)) (hf:env.frame=some L) (hx:tP s.heap e C d .none)
  (hQ:∀h' T,s.heap.objs.size≤T→tP h' e C d (.ref T)→Hu h' T (rawInt L)→uX ((env :: outer).filterMap (·.frame)) [e] s.heap h'→Q () { s with heap:=h' }):S6 M A (noteFrame (.ref e) env) Q E s:=by
 have hx':=hx
 obtain⟨vs,sl,he,hsz,h1,h2⟩:=hx
 unfold noteFrame
 simp only[hf]
 refine SX (Ac he rfl h1 ?_)
 rw[if_neg (by decide)]
 exact ny hfr hl hf hx' hQ
theorem V5 {T0:Addr} {Q:Unit→Ss→Prop} (hfr:A.frames=some (env :: outer)) (hl:s.heap.FunFrames base (env :: outer)) (hf:env.frame=some L) (hx:tP s.heap e C d (.ref T0)) (ht:Hu s.heap T0 .none) (hne:T0≠e)
  (hQ:∀h' T,s.heap.objs.size≤T→tP h' e C d (.ref T)→Hu h' T (rawInt L)→uX ((env :: outer).filterMap (·.frame)) [e,T0] s.heap h'→Q () { s with heap:=h' }):S6 M A (noteFrame (.ref e) env) Q E s:=by
 obtain⟨vs,sl,he,hsz,h1,h2⟩:=hx
 obtain⟨oT,ts,hT,hdT,h3⟩:=ht
 have nf:(EJ (·.setIfInBounds 3 Oa) oT).isFreed=false:=Ii (Iw hdT _)
 unfold noteFrame
 simp only[hf]
 refine SX (Ac he rfl h1 ?_)
 rw[if_pos (show (Tf T0 != Oa)=true from by simp)]
 refine SX (Ac hT hdT h3 ?_);rw[if_neg (show ¬((Oa == rawInt L)=true) from by simp [rawInt])]
 refine SX (Ad hT hdT (Eg.mp h3).1 ?_);have hn:∀b o,s.heap.get? b=some o→(∀vs,o.data≠.fields vs)→b≠T0:=λb o hb hnf q=>by
  rw[q,hT] at hb;cases hb;exact hnf ts hdT
 refine ny (base:=base) hfr (hl.of_keeps λb o hb hnf=>⟨o,(TN _ _ (TH (hn b o hb hnf))).trans hb,rfl⟩) hf ⟨vs,sl,(TN _ _ hne).trans he,hsz,h1,h2⟩ λh' T k1 k2 k3 k4=>?_
 rw[Heap.size_update] at k1
 exact hQ h' T k1 k2 k3 (((uX.one hT nf).mono (by simp)).trans (k4.mono (by simp)))
theorem land {T:Addr} {fl:Sr} {Q:Unit→Ss→Prop} (hx:tP s.heap e C d (.ref T)) (ht:Hu s.heap T fl) (hne:T≠e)
  (hQ:∀h',tP h' e C d (.ref T)→Hu h' T .none→(∀fs,uX fs [T] s.heap h')→Q () { s with heap:=h' }):S6 M A (setFlight (.ref e) none) Q E s:=by
 obtain⟨vs,sl,he,hsz,h1,h2⟩:=hx
 obtain⟨oT,ts,hT,hdT,h3⟩:=ht
 have h3':3 < ts.size:=(Eg.mp h3).1
 have nf:(EJ (·.setIfInBounds 3 Oa) oT).isFreed=false:=Ii (Iw hdT _)
 unfold setFlight
 refine SX (Ac he rfl h1 ?_)
 rw[if_pos (show (Tf T != Oa)=true from by simp)];refine Ad hT hdT h3' (hQ _ ⟨vs,sl,(TN _ _ hne).trans he,hsz,h1,h2⟩ ⟨_,_,N8 _ hT nf,Iw hdT _,by simp [h3']⟩ λfs=>uX.one hT nf)
theorem Q3 {Q:Unit→Ss→Prop} (hfr:A.frames=some (env :: outer)) (hl:s.heap.FunFrames base (env :: outer)) (hf:env.frame=some L) (hx:tP s.heap e C d .none)
  (hQ:∀h' T,s.heap.objs.size≤T→T≠e→tP h' e C d (.ref T)→Hu h' T .none→uX ((env :: outer).filterMap (·.frame)) [e,T] s.heap h'→Q () { s with heap:=h' }):S6 M A (leaving env (.ref e)) Q E s:=by
 have he:e < s.heap.objs.size:=by obtain⟨vs,sl,he,_⟩:=hx;exact SO he
 unfold leaving
 refine SX (Xi hfr hl hf hx λh1 T k1 k2 k3 k4=>?_)
 have hne:T≠e:=O0 (Tn he k1)
 exact land k2 k3 hne λh2 j1 j2 j3=>hQ h2 T k1 hne j1 j2 ((k4.mono (by simp)).trans ((j3 _).mono (by simp)))
theorem Xh {T0:Addr} {Q:Unit→Ss→Prop} (hfr:A.frames=some (env :: outer)) (hl:s.heap.FunFrames base (env :: outer)) (hf:env.frame=some L) (hx:tP s.heap e C d (.ref T0)) (ht:Hu s.heap T0 .none) (hne0:T0≠e)
  (hQ:∀h' T,s.heap.objs.size≤T→T≠e→tP h' e C d (.ref T)→Hu h' T .none→uX ((env :: outer).filterMap (·.frame)) [e,T0,T] s.heap h'→Q () { s with heap:=h' }):S6 M A (leaving env (.ref e)) Q E s:=by
 have he:e < s.heap.objs.size:=by obtain⟨vs,sl,he,_⟩:=hx;exact SO he
 unfold leaving
 refine SX (V5 hfr hl hf hx ht hne0 λh1 T k1 k2 k3 k4=>?_)
 have hne:T≠e:=O0 (Tn he k1)
 exact land k2 k3 hne λh2 j1 j2 j3=>hQ h2 T k1 hne j1 j2 ((k4.mono (by simp)).trans ((j3 _).mono (by simp)))
end
end L2
namespace L2
open PyProof.Rows PySem PySem.Spec
def xO (e C:Addr) (d:Option Addr):HO:=.ext λh=>∃tb,tP h e C d tb
theorem Fb {P:SM} {w:Tj} {H:Hp} {h:Heap} {e C:Addr} {d:Option Addr} {tb:Sr} (x:tP h e C d tb):qY P w H h e (xO e C d):=by
 obtain⟨vs,sl,he,r⟩:=x
 refine⟨⟨tb,vs,sl,he,r⟩,⟨_,he⟩,λh1 h2 ⟨tb',vs',sl',he',r'⟩ k=>⟨tb',vs',sl',k _ he',r'⟩⟩
structure Uz (a C:Addr) (d:Option Addr) (n:Nat) (H:Hp) (h:Heap) (T:Addr):Prop where
 at':tP h a C d (.ref T)
 tr:Hu h T .none
 ne:T≠a
 new:n≤T
 free:H T=none
 is:H a=some (xO a C d)
def rA (P:SM) (w:Tj):sX:=λouter H s E e s'=>∃(a C:Addr) (d:Option Addr) (T:Addr) (H':Hp),e=.ref a∧s'.os=s.os∧AllBare s'.gens∧Un (Zm outer) [] H H' s.heap s'.heap∧bU P w H' s'.heap∧Uz a C d s.heap.objs.size H' s'.heap T∧E (.ref C) (some a) H'
theorem KC {P:SM} {w:Tj} {H:Hp} {h h':Heap} {fs ch:List Addr} {a C:Addr} {d:Option Addr} {tb:Sr} (x:bU P w H h) (t:uX fs ch h h') (hf:∀b∈fs,H b=none) (hc:∀b∈ch,b=a∨H b=none) (ha:H a=some (xO a C d)) (hx:tP h' a C d tb):bU P w H h':=by
 intro b o e
 by_cases q:b=a
 ·subst q
  rw[ha] at e
  cases e
  exact Fb hx
 ·have kp:∀c u,c≠a→H c≠none→h.get? c=some u→h'.get? c=some u:=λc u hca hcn e=>t.keep c u e (λz=>hcn (hf c z)) λz=>(hc c z).elim hca hcn
  refine(x b o e).eZ (λc u hcu e'=>?_) (λ_ z=>z) (λ_ _ z=>z)
  rcases hcu with rfl | hcu
  ·exact kp c u q (by rw[e];exact λz=>nomatch z) e'
  ·refine kp c u (λz=>?_) (by rw[hcu];exact λz=>nomatch z) e'
   rw[z,ha] at hcu
   cases hcu
end L2
namespace L2
open PyProof.Rows PySem PySem.Spec
section
variable {X:Cx} {pins:List (Addr × Obj)} {σ:St} {H:Hp} {s:Ss} {a C:Addr} {d:Option Addr} {E:XK}
theorem Inv.Ly (I:Inv X pins σ H s) {h':Heap} {ch:List Addr} (hex:X.ex=[]) (t:uX (Zm X.stack) ch s.heap h') (hc:∀b∈ch,H b≠none∨X.s₀.heap.objs.size≤b):Un X.fs [] X.H₀ H X.s₀.heap h':=by
 have u:=I.base
 rw[hex] at u
 have nch:∀b o,X.s₀.heap.get? b=some o→X.H₀ b=none→b∉ch:=λb o e n hb=>by
  rcases hc b hb with q | q
  ·exact q (u.free b o e n (by simp))
  ·exact absurd (SO e) (zqA.mpr q)
 have nloc:∀b o,X.s₀.heap.get? b=some o→b≠X.env.locals:=λb o e z=>absurd (SO e) (zqA.mpr (by rw[z];exact I.ok.above))
 refine⟨λb o e n hb _=>?_,λb o e n hb _=>?_,u.free,λb o e _=>?_,u.iY,u.uE,u.iW⟩
 ·refine t.keep b o (u.keep b o e n hb (by simp)) (λz=>?_) (nch b o e n)
  rcases So.mp (I.iV b z) with q | q
  ·exact nloc b o e q
  ·exact hb q
 ·obtain⟨sl,e1⟩:=u.slot b o e n hb (by simp)
  by_cases q:b∈Zm X.stack
  ·obtain⟨sl',e2⟩:=t.slot b _ e1 q (nch b o e n)
   exact⟨sl',e2⟩
  ·exact⟨sl,t.keep b _ e1 q (nch b o e n)⟩
 ·obtain⟨o',e1⟩:=u.there b o e (by simp)
  exact t.there b o' e1
theorem Inv.F0 {M:Model} {EE:Sr→Ss→Prop} (I:Inv X pins σ H s) (hst:X.stack=X.env :: X.outer) (hf:X.env.frame=some X.env.locals) (hex:X.ex=[]) (ha:H a=some (xO a C d)) (hx:tP s.heap a C d .none) (hE:E (.ref C) (some a) H) :
  S6 M X.A (leaving X.env (.ref a)) (λ_ s''=>rA X.prog X.w X.outer X.H₀ X.s₀ E (.ref a) s'') EE s:=by
 have hfr:=I.ok.frames
 have hst':=I.stack
 have hfree:=I.ur
 rw[hst] at hfr hst'
 refine Q3 hfr hst' hf hx λh' T k1 k2 k3 k4 k5=>?_
 have hT:H T=none:=I.z8.fresh k1
 have hs:X.s₀.heap.objs.size≤T:=TV I.sz k1
 have k5':uX (Zm X.stack) [a,T] s.heap h':=by rw[hst];exact k5
 refine⟨a,C,d,T,H,rfl,I.os,I.bare,I.Ly hex k5' (λb hb=>?_),KC I.z8 k5' hfree (λb hb=>?_) ha k3,⟨k3,k4,k2,hs,hT,ha⟩,hE⟩
 ·simp only[So,Tw,or_false] at hb
  rcases hb with rfl | rfl
  ·exact .inl (by rw[ha];exact λz=>nomatch z)
  ·exact .inr hs
 ·simp only[So,Tw,or_false] at hb
  rcases hb with rfl | rfl
  ·exact .inl rfl
  ·exact .inr hT
theorem Inv.YK {M:Model} {EE:Sr→Ss→Prop} {T0:Addr} {n:Nat} (I:Inv X pins σ H s) (hst:X.stack=X.env :: X.outer) (hf:X.env.frame=some X.env.locals) (hex:X.ex=[]) (F:Uz a C d n H s.heap T0) (hn:X.s₀.heap.objs.size≤n) (hE:E (.ref C) (some a) H) :
  S6 M X.A (leaving X.env (.ref a)) (λ_ s''=>rA X.prog X.w X.outer X.H₀ X.s₀ E (.ref a) s'') EE s:=by
 have hfr:=I.ok.frames
 have hst':=I.stack
 have hfree:=I.ur
 rw[hst] at hfr hst'
 refine Xh hfr hst' hf F.at' F.tr F.ne λh' T k1 k2 k3 k4 k5=>?_
 have hT:H T=none:=I.z8.fresh k1
 have hs:X.s₀.heap.objs.size≤T:=TV I.sz k1
 have k5':uX (Zm X.stack) [a,T0,T] s.heap h':=by rw[hst];exact k5
 refine⟨a,C,d,T,H,rfl,I.os,I.bare,I.Ly hex k5' (λb hb=>?_),KC I.z8 k5' hfree (λb hb=>?_) F.is k3,⟨k3,k4,k2,hs,hT,F.is⟩,hE⟩
 ·simp only[So,Tw,or_false] at hb
  rcases hb with (rfl | rfl | rfl)
  ·exact .inl (by rw[F.is];exact λz=>nomatch z)
  ·exact .inr (TV hn F.new)
  ·exact .inr hs
 ·simp only[So,Tw,or_false] at hb
  rcases hb with (rfl | rfl | rfl)
  ·exact .inl rfl
  ·exact .inr F.free
  ·exact .inr hT
theorem Inv.DE {e:Sr} {s':Ss} (I:Inv X pins σ H s) (h:rA X.prog X.w X.stack H s E e s'):∃a C d T H',e=.ref a∧Inv X pins σ H' s'∧Uz a C d X.s₀.heap.objs.size H' s'.heap T∧E (.ref C) (some a) H':=by
 obtain⟨a,C,d,T,H',rfl,os,bare,un,z8,F,q⟩:=h
 refine⟨a,C,d,T,H',rfl,I.W8 os (ch:=[]) un z8 bare (λb z=>absurd z (by simp)),⟨F.at',F.tr,F.ne,TV I.sz F.new,F.free,F.is⟩,q⟩
end
end L2
namespace L2
open PyProof.Rows PySem PySem.Spec
section
variable {P:SM} {w:Tj} {K:Sd} {mg:Str→Option Sr} {base:Heap}
theorem lG {N:List Str} {qual:Str} {scope:Scope} {f:Addr} {cd:Sr} {A:TM} {outer:List Env} {s:Ss} {H:Hp} {E E':XK} (hE:∀c a H,E c a H→E' c a H):Passes (rA P w) (Zq (rA P w) P w K mg base N qual scope f cd A outer s H E') E:=by
 intro pins σ H1 s1 e s' I h
 obtain⟨a,C,d,T,H',rfl,I',F,q⟩:=I.DE h
 exact I'.YK rfl rfl rfl F (SD _) (hE _ _ _ q)
theorem Hi.Ht {x qual:Str} {st:Stmt} {f:Addr} {fd:SH} {N ps:List Str} {k:Nat} {sp:Sp} (F:Hi K x qual st f fd) (S:zd N ps (zy st)) (len:∀vs H Q E,sp vs H Q E→vs.length=ps.length)
  (hbody:∀(cdv:Sr) (A:TM) (outer:List Env) (s:Ss) (H:Hp) (vs:List V) (Q:VK) (E:XK),xj k (A.deeper (envOfC qual (zy st) s.heap.objs.size f cdv))→sp vs H Q E→
   ∃t,JO (Zq (rA P w) P w K mg base N qual (zy st) f cdv A outer s H E) (xn st) t∧t { nx:=λ_ H'=>Q .non H',rt:=Q } (start N vs) H):zo P w K mg base (rA P w) (k + 1) f fd ps sp:=by
 obtain⟨oc,od,kV,doc,pm,an,cdv,ct,osl,rfl,lk,hcd⟩:=F.ex
 exact Pj lk hcd S len λA outer s H vs Q E hr hsp=>hbody cdv A outer s H vs Q E hr hsp
end
end L2
namespace L2
open PyProof.Rows PySem PySem.Spec
def zI:List Sr→Bool
 | .ref _ :: r=>zI r
 | l=>l == [.type "ValueError",.type "Exception",.type "BaseException",.type "object"]
theorem oG (self:Sr):∀{l:List Sr},zI l=true→refuseLoop self "__setattr__" l=pure ()
 | .ref c :: r,e=>by rw[refuseLoop_ref];exact oG self e
 | [],e=>by simp [zI] at e
 | .type n :: r,e=>by
  have:(I0 n :: r)=[.type "ValueError",.type "Exception",.type "BaseException",.type "object"]:=by simpa [zI] using e
  rw[this];exact PySem.F.store_ValueError.passes self
 | .none :: r,e=>by simp [zI] at e
 | .bool _ :: r,e=>by simp [zI] at e
 | .int _ _ :: r,e=>by simp [zI] at e
 | .str _ _ :: r,e=>by simp [zI] at e
 | .builtin _ :: r,e=>by simp [zI] at e
 | .float _ _ :: r,e=>by simp [zI] at e
theorem Vc:∀{l:List Sr},zI l=true→l.contains (.type "object")=true∧l.isEmpty=false
 | .ref c :: r,e=>⟨by rw[OJ,(Vc (l:=r) e).1,zzv],rfl⟩
 | [],e=>by simp [zI] at e
 | .type n :: r,e=>by
  have:(I0 n :: r)=[.type "ValueError",.type "Exception",.type "BaseException",.type "object"]:=by simpa [zI] using e
  rw[this];exact⟨by decide,rfl⟩
 | .none :: r,e=>by simp [zI] at e
 | .bool _ :: r,e=>by simp [zI] at e
 | .int _ _ :: r,e=>by simp [zI] at e
 | .str _ _ :: r,e=>by simp [zI] at e
 | .builtin _ :: r,e=>by simp [zI] at e
 | .float _ _ :: r,e=>by simp [zI] at e
structure Hr (K:Sd) (C:Addr):Prop where
 mro:(EX K C).any (λcd=>zI cd.mro && cd.hasDict)=true
 sa:Tv K (.ref C) "__setattr__" = some (some (.builtin "object.__setattr__"))
section
variable {prog:SM} {w:Tj} {A:TM} {K:Sd} {C x:Addr} {s:Ss} {R:Result→Ss→Prop}
theorem JR {ox:Obj} {od:Option Obj} {name:Str} {tk:Tok} {v:Sr} (X:K.In s.heap) (I:Ex s.heap x ox C od) (hp:(EX K C).any (λcd=>zI cd.mro && cd.hasDict)=true) (ht:Tv K (.ref C) name=some none)
  (h:∀b,S6 (S4 prog w) A.in1 (A3 (.ref x) (.ref C) (.str name tk) name v b) (λfin s'=>match fin with | .done f=>R (.ok f) s' | .again c'=>c'.quiet=true∧Og (S4 prog w) A c' R s') (λe s'=>R (.error e) s') s):Og (S4 prog w) A (.call (.builtin "object.__setattr__") ⟨[.ref x,.str name tk,v],[]⟩) R s:=by
 have SF:=PySem.F.store_object;obtain⟨cd,hc,ho⟩:=IQ hp
 rw[Te] at ho
 have hv:=Vc ho.1
 have sub:zqf (S4 prog w) s.heap (isInstance (.ref x) (.type "object")) true:=I.type.andThen (PySem.W.looks_mroIn X (by unfold NJ;rw[hc,Sa,if_neg (by rw[hv.2];decide),hv.1]))
 refine Au SF.slot.plain SF.entry (@PySem.W.check_slot (S4 prog w) _ _ s "object.__setattr__" "object" "__setattr__" (.ref x) [.str name tk,v] [] _ SF.kind SF.split sub (SF.args (.ref x) (.str name tk) v) ?_)
 have hm:zqf (S4 prog w) s.heap (mroOf (.ref C)) cd.mro:=(O2 X hc).andThen .now
 rw[PySem.W.osa_eq,refuse_eq]
 refine SX (SX (I.type.here (SX (hm.here ?_))));rw[oG _ ho.1]
 refine Td (SX (I.type.here (SX ((IW X ht).here (SX (Td ?_))))))
 exact h _
theorem Kb {E:Sr→Ss→Prop} {name:Str} {v:Sr} {vs:Array Sr} {sl:Array (Option Sr)} {Q:Unit→Ss→Prop} (X:K.In s.heap) (c:Hr K C) (hn:Tv K (.ref C) name=some none) (he:s.heap.get? x=some ⟨.ref C,none,.fields vs,sl⟩)
  (h:∀h' tk,h'.get? x=some ⟨.ref C,some s.heap.objs.size,.fields vs,sl⟩→h'.Ns1 s.heap.objs.size (λy=>if y=name then some v else none)→(∀b o,b≠x→s.heap.get? b=some o→h'.get? b=some o)→Q () { s with heap:=h',toks:=tk }):S6 (S4 prog w) A (setAttr (.ref x) name v) Q E s:=by
 have I:Ex s.heap x ⟨.ref C,none,.fields vs,sl⟩ C none:=⟨he,rfl,rfl,trivial⟩
 refine El X I c.sa (JR (s:={ s with toks:=s.toks + 1 }) X I c.mro hn λb=>?_)
 obtain⟨cd,hc,hd'⟩:=IQ c.mro
 rw[Te] at hd'
 have hxs:x≠s.heap.objs.size:=Ti (SO he)
 refine SX (Td (SX (SX (Ab he (SX (Ek (s:={ s with toks:=s.toks + 1 }) (O2 X hc) ?_))))))
 rw[hd'.2]
 rw[if_neg (by decide)]
 dsimp only
 rw[if_neg (by simp [typeHasDict])]
 have he1:(s.heap.push { cls:=.type "dict",data:=.dict #[] }).get? x=some ⟨.ref C,none,.fields vs,sl⟩:=SQ _ he
 refine SX (wpAny_alloc (SX (wpAny_update he1 ?_)))
 refine Td (a:=some s.heap.objs.size) ?_
 have hgd:((s.heap.push { cls:=.type "dict",data:=.dict #[] }).update x λo=>{ o with dict:=some s.heap.objs.size }).get? s.heap.objs.size=some { cls:=.type "dict",data:=.dict #[] }:=
  (TN _ _ hxs).trans (Eo rfl rfl)
 have hnd:((s.heap.push { cls:=.type "dict",data:=.dict #[] }).update x λo=>{ o with dict:=some s.heap.objs.size }).Ns s.heap.objs.size (λ_=>none):=⟨_,#[],_,hgd,rfl,λe he=>absurd he (by simp),λ_=>rfl⟩
 show S6 _ _ (zzi s.heap.objs.size (.str name s.toks) name v) _ _ _
 refine SX (Td (SX ?_));refine A5 (A6 hnd) λh' hn2 hs2=>?_
 obtain⟨oD,esD,epD,hoD,hdD,hcD⟩:=hn2.count (Es name v zq7)
 refine SX (EY hoD (by rw[hdD];exact pastItsLine_dict (TV hcD (by rw[Se,S1,sizeLine_eq];omega))) ?_);refine Td (h h' _ ?_ hn2 λb o hb e=>?_)
 ·exact(hs2.2 x hxs).trans (N8 _ he1 rfl)
 ·exact(hs2.2 b (Ti (SO e))).trans ((TN _ _ (TH hb)).trans (SQ _ e))
theorem WM {E:Sr→Ss→Prop} {name:Str} {v:Sr} {vs:Array Sr} {sl:Array (Option Sr)} {dx:Addr} {mA:Str→Option Sr} {ns:List Str} {Q:Unit→Ss→Prop} (X:K.In s.heap) (c:Hr K C) (hn:Tv K (.ref C) name=some none) (he:s.heap.get? x=some ⟨.ref C,some dx,.fields vs,sl⟩)
  (hd:s.heap.Ns1 dx mA) (hw:NA mA ns) (hsz:ns.length≤1000) (h:∀h' tk,h'.Ns1 dx (λy=>if y=name then some v else mA y)→Ip dx s.heap h'→Q () { s with heap:=h',toks:=tk }):S6 (S4 prog w) A (setAttr (.ref x) name v) Q E s:=by
 obtain⟨od,ho,hl⟩:=aj hd
 have I:Ex s.heap x ⟨.ref C,some dx,.fields vs,sl⟩ C (some od):=⟨he,rfl,rfl,ho⟩
 refine El X I c.sa (JR (s:={ s with toks:=s.toks + 1 }) X I c.mro hn λb=>?_)
 obtain⟨cd,hc,hd'⟩:=IQ c.mro
 rw[Te] at hd'
 refine SX (Td (SX (SX (Ab he (SX (Ek (s:={ s with toks:=s.toks + 1 }) (O2 X hc) ?_))))))
 rw[hd'.2]
 refine Td (a:=some dx) (SX (Td (SX ?_)));refine A5 (s:={ s with toks:=s.toks + 1 }) hd λh' hn2 hs2=>?_
 obtain⟨oD,esD,epD,hoD,hdD,hcD⟩:=hn2.count (Es name v hw)
 refine SX (EY hoD (by rw[hdD];exact pastItsLine_dict (TV hcD (by rw[Se,sizeLine_eq];omega))) ?_)
 exact Td (h h' _ hn2 hs2)
end
end L2
namespace L2
open PyProof.Rows PySem PySem.Spec
section
variable {w:Tj} {A:TM} {E:Sr→Ss→Prop} {h:Heap} {g:Array GenState} {d:Drawn} {t:Nat} {os:OsState} {prog:SM}
variable {nm q:Str} {C N:Addr} {bs bm:List Sr} {hdct:Bool} {sn:List Str} {sub:List Sr} {ab:Bool} {col:Option Bool} {dd:Option Addr} {k0 k1 k2 k3 k5:Option Sr} {B newId initId:String} {bmB:List Sr}
theorem Ky {M:Model} (F:ExcBaseFacts B newId initId bmB) (hcont:(Tf C :: bm).contains (.type B)=true) {rest:List Sr} {Q:Unit→Ss→Prop} (hC:h.get? C=some (excClassObj nm q C N bs bm hdct sn sub ab col dd k0 k1 k2 k3 k5 newId)) (hq:Q () ⟨h,g,d,t,os⟩):S6 M A (Oi newId ⟨.ref C :: rest,[]⟩) Q E ⟨h,g,d,t,os⟩:=by
 have hstar:=F.noStar
 simp only[Oi,F.newKind,F.newSplit,F.newRow];(repeat (first | refine NT hC ?_ | (refine O5 hC ?_;rw[hcont]) | refine wpAny_staticBase_exc hC ?_ | refine zze hC ?_ | simp only[bne_self_eq_false,AI,if_false] | wp_step))
 exact hq
theorem Hb {R:Result→Ss→Prop} (F:ExcBaseFacts B newId initId bmB) (hcB:(Tf C :: bm).contains (.type B)=true) (hcA:(Tf C :: bm).contains (.type "AttributeError")=false) (hcN:(Tf C :: bm).contains (.type "NameError")=false) {rest:List Sr}
  (hC:h.get? C=some (excClassObj nm q C N bs bm hdct sn sub ab col dd k0 k1 k2 k3 k5 newId)) (hrest:rest.length≤S0)
  (hq:R (.ok (.ret (.ref (h.objs.size + 1)))) ⟨(h.push { cls:=.type "tuple",data:=.seq rest.toArray }).push { cls:=.ref C,data:=.fields #[.ref h.objs.size,.none,.none,.none,.bool false,.none] },g,d,t,os⟩):Og (S4 prog w) A (.builtin newId ⟨.ref C :: rest,[]⟩) R ⟨h,g,d,t,os⟩:=by
 have hends:=F.ends
 refine codeAny_builtinAt F.entry ?_;unfold Builtin.«BaseException.__new__»
 refine zzB ?_
 show PySem.wpAt _ _ _ (stack >>= _) _ _ _
 refine zzB (PySem.wpAt_stack λp below=>AG ?_)
 wp_walk
 refine AG ?_
 rw[F.owner]
 (repeat (first | with_reducible refine wpAny_madeHere_exc F.canon hC ?_ | with_reducible refine NT hC ?_ | (with_reducible refine O5 hC ?_;first | rw[hcB] | rw[hcA] | rw[hcN]) | wp_step));show R _ _
 rw[OT]
 exact hq
theorem Kh (F:ExcBaseFacts B newId initId bmB) (hcB:(Tf C :: bm).contains (.type B)=true) (hcA:(Tf C :: bm).contains (.type "AttributeError")=false) (hcN:(Tf C :: bm).contains (.type "NameError")=false) {K:Sd} (X:K.In h) {rest:List Sr} {fI:Addr} {Q:Fin→Ss→Prop}
  (hC:h.get? C=some (excClassObj nm q C N bs bm hdct sn sub ab col dd k0 k1 k2 k3 k5 newId)) (hi:Tv K (.ref C) "__init__" = some (some (.ref fI))) (hf:Ap K (.ref fI)=some (.type "function")) (hrest:rest.length≤S0)
  (hq:∀h' e,Ar h h' e (.ref C) rest→h.objs.size≤e→S6 (S4 prog w) A (call (.ref fI) (.ref e :: rest)) (λr s'=>r=.none∧Q (.done (.ret (.ref e))) s') E ⟨h',g,d,t,os⟩):S6 (S4 prog w) A (Builtin.«type.__call__» ⟨.ref C :: rest,[]⟩) Q E ⟨h,g,d,t,os⟩:=by
 (repeat (first | with_reducible refine NT hC ?_ | with_reducible refine zze hC ?_ | wp_step));refine codeAny_call_builtin_code (Iy _ F.quiet) (Ky F hcB hC ?_)
 refine Hb F hcB hcA hcN hC hrest ?_
 show S6 _ _ _ _ _ _
 generalize ht:({ cls:=.type "tuple",data:=.seq rest.toArray }:Obj)=ot
 generalize hx:({ cls:=.ref C,data:=.fields #[.ref h.objs.size,.none,.none,.none,.bool false,.none] }:Obj)=ox
 have keep:∀b o,h.get? b=some o→((h.push ot).push ox).get? b=some o:=λb o e=>SQ _ (SQ _ e)
 have there:((h.push ot).push ox).get? (h.objs.size + 1)=some ox:=by subst hx;subst ht;exact Eo (by simp only[OT]) rfl
 have there2:((h.push ot).push ox).get? h.objs.size=some ot:=by subst hx;subst ht;exact SQ _ (Eo rfl rfl)
 have hC1:=keep _ _ hC
 have self:(Tf C :: bm).contains (.ref C)=true:=by simp
 have oxc:ox.cls=.ref C:=by subst hx;rfl
 have X1:K.In ((h.push ot).push ox):=X.keeps keep
 unfold isInstance
 repeat (first | (with_reducible refine NT there ?_;rw[oxc]) | (with_reducible refine O5 hC1 ?_;rw[self]) | wp_step)
 show S6 _ _ (typeLookup (.ref C) _) _ _ _;refine(IW X1 hi).here ?_
 refine O8 (SX ((zzV X1 _ hf).here ?_))
 refine SX (TR (hq _ (h.objs.size + 1) ⟨keep,IK (OO _),h.objs.size,by rw[there,←hx],IK (SD _),by rw[there2,←ht]⟩ (OO _)) (λr s' hr=>?_) λ_ _ x=>x)
 obtain⟨rfl,hQ⟩:=hr
 wp_walk
 exact hQ
theorem Kg (F:ExcBaseFacts B newId initId bmB) (hcB:(Tf C :: bm).contains (.type B)=true) (hcA:(Tf C :: bm).contains (.type "AttributeError")=false) (hcN:(Tf C :: bm).contains (.type "NameError")=false) {K:Sd} (X:K.In h) {rest:List Sr} {fI:Addr} {Q:Sr→Ss→Prop}
  (hC:h.get? C=some (excClassObj nm q C N bs bm hdct sn sub ab col dd k0 k1 k2 k3 k5 newId)) (hi:Tv K (.ref C) "__init__" = some (some (.ref fI))) (hf:Ap K (.ref fI)=some (.type "function")) (hrest:rest.length≤S0)
  (hq:∀h' e,Ar h h' e (.ref C) rest→h.objs.size≤e→S6 (S4 prog w) (A.under (.builtin "type.__call__" ⟨.ref C :: rest,[]⟩)) (call (.ref fI) (.ref e :: rest)) (λr s'=>r=.none∧Q (.ref e) s') E ⟨h',g,d,t,os⟩):S6 (S4 prog w) A (call (.ref C) rest) Q E ⟨h,g,d,t,os⟩:=by
 have f1:=tc_lookup
 have f2:=tc_bind (.ref C)
 have hT:(⟨h,g,d,t,os⟩:Ss).TypeIs (.ref C) "type":=⟨_,hC,rfl⟩;refine ES (Az ?_)
 show S6 _ _ (callAny (.ref C) _) _ _ _;(repeat (any_goals (first | assumption | with_reducible refine NT hC ?_ | wp_step)))
 refine⟨rfl,?_⟩
 exact codeAny_call_builtin_at (Iy _ (by decide +kernel)) entry_typeCall (wpAny_check_type_call_sub hC (Kh F hcB hcA hcN X hC hi hf hrest λh' e hm hn=>hq h' e hm hn))
end
end L2
namespace L2
open PyProof.Rows PySem PySem.Spec
def xN (e C:Addr) (d:Option Addr):HO:=.ext λh=>tP h e C d .none
def xD (dx:Addr) (fs:List (Str × V)):HO:=.ext λh=>∃mA,h.Ns1 dx mA∧(∀f,vD (fs.lookup f) (mA f))∧NA mA (fs.map (·.1))
theorem Fh {P:SM} {w:Tj} {H:Hp} {h:Heap} {e C:Addr} {d:Option Addr} (x:tP h e C d .none):qY P w H h e (xN e C d):=by
 obtain⟨vs,sl,he,r⟩:=x
 refine⟨⟨vs,sl,he,r⟩,⟨_,he⟩,λh1 h2 ⟨vs',sl',he',r'⟩ k=>⟨vs',sl',k _ he',r'⟩⟩
theorem Hg {P:SM} {w:Tj} {H:Hp} {h:Heap} {e C:Addr} {d:Option Addr} (x:bU P w H h) (q:H e=some (xN e C d)):tP h e C d .none:=(x e _ q).1
theorem Fg {P:SM} {w:Tj} {H:Hp} {h:Heap} {dx:Addr} {fs:List (Str × V)} {mA:Str→Option Sr} (n:h.Ns1 dx mA) (r:∀f,vD (fs.lookup f) (mA f)) (wi:NA mA (fs.map (·.1))):qY P w H h dx (xD dx fs):=by
 have n':=n
 obtain⟨o,es,ep,ho,_⟩:=n'
 refine⟨⟨mA,n,r,wi⟩,⟨o,ho⟩,λh1 h2 ⟨mA',⟨o',es',ep',ho',q⟩,r'⟩ k=>⟨mA',⟨o',es',ep',k _ ho',q⟩,r'⟩⟩
theorem C8 {P:SM} {w:Tj} {H:Hp} {h:Heap} {dx:Addr} {fs:List (Str × V)} (x:bU P w H h) (q:H dx=some (xD dx fs)):∃mA,h.Ns1 dx mA∧(∀f,vD (fs.lookup f) (mA f))∧NA mA (fs.map (·.1)):=(x dx _ q).1
section
variable {X:Cx} {pins:List (Addr × Obj)} {σ:St} {H:Hp} {s:Ss} {a C dx:Addr} {f:Str} {y:V} {u:Sr} {o value:Expr} {ta tv:TE} {pos pos':Pos}
theorem Jr {fs:List (Str × V)} {mA:Str→Option Sr} (r:∀g,vD (fs.lookup g) (mA g)) (ry:RelV y u) (f:Str):∀g,vD ((zB f y fs).lookup g) ((λz=>if z=f then some u else mA z) g):=λg=>by
 rw[pC]
 by_cases q:g=f
 ·simp only[q,if_true];exact ry
 ·simp only[q,if_false];exact r g
theorem iB {fs:List (Str × V)} {mA:Str→Option Sr} (wi:NA mA (fs.map (·.1))) (f:Str):NA (λz=>if z=f then some u else mA z) ((zB f y fs).map (·.1)):=λg hg=>by
 by_cases q:g=f
 ·rw[q];exact(gy f y fs).1
 ·refine(gy f y fs).2 g (wi g λz=>hg ?_)
  show (if g=f then some u else mA g)=none
  rw[if_neg q];exact z
theorem Hf {A:TM} {E:Sr→Ss→Prop} {Q:Unit→Ss→Prop} (I:Inv X pins σ H s) (e:H a=some (xN a C none)) (c:Hr X.K C) (n:zY X.K C f) (ry:RelV y u)
  (h:∀dx s',H dx=none→dx≠a→Inv X pins σ (upd (upd H dx (xD dx [(f,y)])) a (xN a C (some dx))) s'→Q () s'):S6 (S4 X.prog X.w) A (setAttr (.ref a) f u) Q E s:=by
 obtain⟨vs,sl,he,hsz,h1,h2⟩:=Hg I.z8 e
 refine Kb I.bD c n he λh' tk k1 k2 k3=>h s.heap.objs.size _ (I.z8.fresh (SD _)) (O0 (SO he)) ?_
 have hax:a≠s.heap.objs.size:=Ti (SO he)
 have k2':=k2
 obtain⟨od,es,ep,ho,hd,hr⟩:=k2'
 have nf:od.isFreed=false:=(Heap.get?_some_iff.mp ho).2
 have g1:(s.heap.push od).get? s.heap.objs.size=some od:=To _ nf
 have n1:(s.heap.push od).Ns1 s.heap.objs.size (λz=>if z=f then some u else none):=⟨od,es,ep,g1,hd,hr⟩
 have r0:∀g,vD (NK g ([(f,y)]:List (Str × V))) ((λz=>if z=f then some u else none) g):=Jr (fs:=[]) (mA:=λ_=>none) (λ_=>T9) ry f
 have w0:NA (λz=>if z=f then some u else none) (([(f,y)]:List (Str × V)).map (·.1)):=iB (fs:=[]) (mA:=λ_=>none) (y:=y) (λg hg=>absurd rfl hg) f
 have I1:=I.laid (a:=s.heap.objs.size) (o:=xD s.heap.objs.size [(f,y)]) (h':=s.heap.push od) (t':=s.toks) (λb q z=>SQ _ z) (SD _) (Fg n1 r0 w0)
 refine I1.write (x:=a) (e:=a) (h':=h') (t':=tk) (by rw[zG hax,e];exact T9) (.inl rfl) (λb q hb z=>?_) ⟨_,k1⟩ (Fh ⟨vs,sl,k1,hsz,h1,h2⟩)
 by_cases qb:b=s.heap.objs.size
 ·subst qb
  rw[show (s.heap.push od).get? s.heap.objs.size=some od from g1] at z
  cases z
  exact ho
 ·refine k3 b q hb ?_
  rwa [Heap.get?_push_ne _ _ _ qb] at z
theorem Hm {A:TM} {E:Sr→Ss→Prop} {Q:Unit→Ss→Prop} {fs:List (Str × V)} (I:Inv X pins σ H s) (e:H a=some (xN a C (some dx))) (ed:H dx=some (xD dx fs)) (c:Hr X.K C) (n:zY X.K C f) (hl:fs.length≤900) (ry:RelV y u)
  (h:∀s',Inv X pins σ (upd H dx (xD dx (zB f y fs))) s'→Q () s'):S6 (S4 X.prog X.w) A (setAttr (.ref a) f u) Q E s:=by
 obtain⟨vs,sl,he,hsz,h1,h2⟩:=Hg I.z8 e
 obtain⟨mA,n1,r1,w1⟩:=C8 I.z8 ed
 refine WM I.bD c n he n1 w1 (by rw[Su];omega) λh' tk k1 k2=>h _ ?_
 have hd:∃o,h'.get? dx=some o:=let ⟨o,_,_,e',_⟩:=k1;⟨o,e'⟩
 exact I.write (x:=dx) (e:=dx) (by rw[ed];exact T9) (.inl rfl) (λb q hb z=>(k2.2 b hb).trans z) hd (Fg k1 (Jr r1 ry f) (iB w1 f))
def LF (K:Sd) (ta tv:TE) (f:Str):TS:=λD σ H=>tv σ H λy H1=>ta σ H1 λx H2=>∃a C,x=.ref a∧Hr K C∧zY K C f∧
 ((H2 a=some (xN a C none)∧∀dx,H2 dx=none→dx≠a→D.nx σ (upd (upd H2 dx (xD dx [(f,y)])) a (xN a C (some dx))))∨
  (∃dx fs,H2 a=some (xN a C (some dx))∧H2 dx=some (xD dx fs)∧fs.length≤900∧D.nx σ (upd H2 dx (xD dx (zB f y fs)))))
theorem ZO (ha:PE X o ta) (hv:PE X value tv) (hs:IE value (some (.Attribute o f pos')) pos.line X.env=pure false):PS X (.Assign [.Attribute o f pos'] value pos) (LF X.K ta tv f):=by
 intro pins s σ H D I h
 refine Il (qW (hv pins s σ H _ I h) λu s1 ⟨y,H1,I1,ry,q⟩=>qW (ha pins s1 σ H1 _ I1 q) λov s2 ⟨x,H2,I2,rx,a,C,ex,c,n,q2⟩=>?_) hs
 subst ex
 obtain rfl:ov=Tf a:=rx
 rcases q2 with ⟨e1,k⟩ | ⟨dx,fs,e1,e2,hl,k⟩
 ·exact Hf I2 e1 c n ry λdx s3 hn hne I3=>⟨σ,_,I3,k dx hn hne⟩
 ·exact Hm I2 e1 e2 c n hl ry λs3 I3=>⟨σ,_,I3,k⟩
theorem iH:∀{l:List Sr},zI l=true→l.contains (.type "ValueError")=true∧l.contains (.type "BaseException")=true∧l.contains (.type "AttributeError")=false∧l.contains (.type "NameError")=false
 | .ref c :: r,e=>by
  obtain⟨a,b,c,d⟩:=iH (l:=r) e
  exact⟨by rw[OJ,a,zzv],by rw[OJ,b,zzv],by rw[OJ,c];rfl,by rw[OJ,d];rfl⟩
 | [],e=>by simp [zI] at e
 | .type n :: r,e=>by
  have:(I0 n :: r)=[.type "ValueError",.type "Exception",.type "BaseException",.type "object"]:=by simpa [zI] using e
  rw[this];decide
 | .none :: r,e=>by simp [zI] at e
 | .bool _ :: r,e=>by simp [zI] at e
 | .int _ _ :: r,e=>by simp [zI] at e
 | .str _ _ :: r,e=>by simp [zI] at e
 | .builtin _ :: r,e=>by simp [zI] at e
 | .float _ _ :: r,e=>by simp [zI] at e
def gY (K:Sd) (C:Addr):Bool:=match K.lookup C with
 | some ⟨c,_,.cls cd,sl⟩=>c == .type "type" && cd.mro.head? == some (.ref C) && zI cd.mro && !cd.hasDel && sl.size == 6 && sl[4]? == some (some (.builtin "ValueError.__new__"))
 | _=>false
theorem Hh {K:Sd} {h:Heap} (x:K.In h) (e:gY K C=true):∃nm q N bs bm hdct sn sub ab col dd k0 k1 k2 k3 k5,h.get? C=some (excClassObj nm q C N bs bm hdct sn sub ab col dd k0 k1 k2 k3 k5 "ValueError.__new__")∧zI (.ref C :: bm)=true:=by
 unfold gY at e
 split at e
 ·rename_i c dd cd sl hk
  simp only[Te,beq_iff_eq,zzw] at e
  obtain⟨⟨⟨⟨⟨rfl,hm⟩,hv⟩,hdel⟩,hsz⟩,h4⟩:=e
  obtain⟨nm,bs,mro,ns,qn,hd,sn,sub,ab,col,del⟩:=cd;obtain rfl:del=false:=hdel
  cases mro with
  | nil=>cases hm
  | cons m bm=>
   obtain rfl:m=.ref C:=Tq hm
   obtain⟨l⟩:=sl
   obtain⟨k0,k1,k2,k3,k5,hl⟩:=six_places (l:=l) (v:=some (.builtin "ValueError.__new__")) (by simpa using hsz) (by simpa using h4)
   subst hl
   exact⟨nm,qn,ns,bs,bm,hd,sn,sub,ab,col,dd,k0,k1,k2,k3,k5,x _ _ hk,hv⟩
 ·cases e
def Uu (C:Addr) (o:Obj):Bool:=match o with
 | ⟨c,_,.cls cd,sl⟩=>c == .type "type" && cd.mro.head? == some (.ref C) && zI cd.mro && !cd.hasDel && sl.size == 6 && sl[4]? == some (some (.builtin "ValueError.__new__")) && cd.hasDict
 | _=>false
theorem Dy {K:Sd} {o:Obj} (l:K.lookup C=some o) (h:Uu C o=true):gY K C=true:=by
 unfold Uu at h
 split at h
 ·unfold gY
  rw[l]
  exact(Bool.and_eq_true_iff.mp h).1
 ·cases h
theorem B7 {K:Sd} {o:Obj} (l:K.lookup C=some o) (h:Uu C o=true):(EX K C).any (λcd=>zI cd.mro && cd.hasDict)=true:=by
 unfold Uu at h
 split at h
 ·rename_i c d cd sl
  unfold EX
  rw[l]
  simp only[Te] at h;simp [h.1.1.1.1.2,h.2]
 ·cases h
structure DF (K:Sd) (C f:Addr):Prop where
 xc:gY K C=true
 init:Tv K (.ref C) "__init__" = some (some (.ref f))
 fn:EL K (.ref f)=true
 kp:NQ K (.ref C)=true
section
variable {CX:sX} {k:Nat} {fI:Addr} {fd:SH} {ps:List Str} {sp:Sp} {dvs vs:List V} {ds us:List Sr} {E:XK} {Q:VK} {x:Str} {p:Pos} {e:Expr} {es:List Expr} {t:TA}
theorem Bg {h h':Heap} {e:Addr} {args:List Sr} (m:Ar h h' e (.ref C) args):tP h' e C none .none:=by
 obtain⟨t,he,_⟩:=m.there
 exact⟨_,_,he,rfl,rfl,rfl⟩
theorem Wu (M:DF X.K C fI) (F:zo X.prog X.w X.K X.mg X.base CX k fI fd ps sp) (hr:xj (k + 1) X.A) (hb:Binds X.K fd ps ds) (hd:Vals dvs ds) (hx:Passes CX X E) (I:Inv X pins σ H s) (r:Vals vs us) (hz:vs.length≤S0)
  (h:∀a,H a=none→sp (.ref a :: (vs ++ dvs)) (upd H a (xN a C none)) (λv H2=>v=.non∧Q (.ref a) H2) E):S6 (S4 X.prog X.w) X.A (call (.ref C) us) (EP X pins σ Q) X.xe s:=by
 obtain⟨nm,q,N,bs,bm,hdct,sn,sub,ab,col,dd,k0,k1,k2,k3,k5,hC,hv⟩:=Hh I.bD M.xc
 obtain⟨c1,c2,c3,c4⟩:=iH hv
 have WR:=I.bD
 obtain⟨hp,g,d,tk,os⟩:=s;refine Kg PySem.F.excBase_ValueError c1 c3 c4 WR hC M.init (beq_iff_eq.mp M.fn) (by rw[←r.length];exact hz) λh' e hm hn=>?_
 have hq:=h e (I.z8.fresh hn)
 have I2:Inv X pins σ (upd H e (xN e C none)) ⟨h',g,d,tk,os⟩:=I.laid (a:=e) (o:=xN e C none) (h':=h') (t':=tk) hm.keeps hn (Fh (Bg hm))
 have r2:Vals (V.ref e :: (vs ++ dvs)) (Tf e :: (us ++ ds)):=.cons rfl (r.append hd)
 have hl:(Tf e :: us ++ ds).length=ps.length:=by
  have e':=r2.length
  rw[F.len _ _ _ _ hq] at e'
  exact e'.symm
 refine ES (OQ (F.run _ X.stack _ _ ⟨Tf e :: us,[]⟩ (Tf e :: (us ++ ds)) _ _ E (hr.make C us []) (I2.FH.make C us []) (hb _ (Tf e :: us) I2.bD hl) r2 hq) λr s' hq'=>?_)
 cases r with
 | error e'=>exact hx pins σ _ _ e' s' I2 hq'
 | ok fl=>
  cases fl with
  | ret u=>
   obtain⟨v,H',I3,rv,ev,q3⟩:=I2.after hq'
   subst ev
   exact⟨rv,⟨V.ref e,H',I3,rfl,q3⟩⟩
  | next=>exact T5 hq'
  | brk=>exact T5 hq'
  | cont=>exact T5 hq'
def M7 (C:Addr) (sp:Sp) (dvs:List V) (E:XK) (t:TA):TE:=λσ H Q=>t σ H λvs H1=>vs.length≤S0∧∀a,H1 a=none→sp (.ref a :: (vs ++ dvs)) (upd H1 a (xN a C none)) (λv H2=>v=.non∧Q (.ref a) H2) E
theorem km {pos:Pos} (M:DF X.K C fI) (F:zo X.prog X.w X.K X.mg X.base CX k fI fd ps sp) (hr:xj (k + 1) X.A) (hg:Gl X x) (hm:X.mg x=some (.ref C)) (hb:Binds X.K fd ps ds) (hd:Vals dvs ds) (hx:Passes CX X E)
  (ha:PA X (e :: es) t) (hdb:(x == ("__debug__" : Str))=false:=by decide) (he:Tc (e :: es) X.env=(false,eval e X.env) :: Tc es X.env:=by rfl) (hpl:(backTo pos (Tc es X.env)).any (·.1)=false:=by rfl) :
  PE X (.Call (.Name x p) (e :: es) [] pos) (M7 C sp dvs E t):=by
 intro pins s σ H Q I h
 refine NM (fG I hg hm ?_ hdb)
 refine N5 (h₀:=X.base) I.ok.mod.WR M.kp (qW (ha pos pins s σ H _ I h) λus s1 ⟨vs,H1,I1,r,hz,q⟩=>⟨I1.bD,?_⟩) he hpl
 exact Wu M F hr hb hd hx I1 r hz q
structure Lo (K:Sd) (C:Addr):Prop where
 xc:gY K C=true
 init:Tv K (.ref C) "__init__" = some (some (.builtin "ValueError.__init__"))
 kp:NQ K (.ref C)=true
def Ud (C:Addr):TE:=λ_ H Q=>∀a,H a=none→Q (.ref a) (upd H a (xN a C none))
end
end
end L2
namespace L2
open PyProof.Rows PySem PySem.Spec
section
variable {X:Cx} {pins:List (Addr × Obj)} {σ:St} {H:Hp} {s:Ss} {a C:Addr} {d:Option Addr} {e:Expr} {te:TE} {pos:Pos} {E:XK}
theorem BG {K:Sd} {M:Model} {A:TM} {EE:Sr→Ss→Prop} {env:Env} {x:Sem Sr} {Q:Flow→Ss→Prop} (hh:A.handled=none)
  (h:S6 M A x (λv s1=>∃e C d,v=.ref e∧K.In s1.heap∧gY K C=true∧tP s1.heap e C d .none∧EE (.ref e) s1) EE s):S6 M A (raiseStmt env (some x) none) Q EE s:=by
 unfold raiseStmt
 refine SX (TR h (λv s1 h1=>?_) λ_ _ z=>z)
 obtain⟨e,C,d,rfl,WR,hk,⟨vs,sl,he,hsz,h1,h2⟩,hE⟩:=h1
 obtain⟨nm,q,N,bs,bm,hdct,sn,sub,ab,col,dd,k0,k1,k2,k3,k5,hC,hv⟩:=Hh WR hk
 have hcB:=(iH hv).2.1
 obtain⟨hp,g,dr,tk,os⟩:=s1
 (repeat (first | with_reducible refine NT he ?_ | with_reducible refine NT hC ?_ | (with_reducible refine O5 hC ?_;rw[hcB]) | wp_step));rw[h1]
 refine Td ?_
 rw[if_neg (by decide)]
 exact Td (wpAny_raiseNew_none hh hE)
def Raises (X:Cx) (E:XK):Prop:=∀(pins:List (Addr × Obj)) (σ:St) (H:Hp) (s:Ss) (a C:Addr) (d:Option Addr),Inv X pins σ H s→H a=some (xO a C d)→tP s.heap a C d .none→E (.ref C) (some a) H→X.xe (.ref a) s
theorem wz {P:SM} {w:Tj} {K:Sd} {mg:Str→Option Sr} {base:Heap} {N:List Str} {qual:Str} {scope:Scope} {f:Addr} {cd:Sr} {A:TM} {outer:List Env} {s:Ss} {H:Hp} {E:XK}:Raises (Zq (rA P w) P w K mg base N qual scope f cd A outer s H E) E:=
 λ_ _ _ _ _ _ _ I ha hx hE=>I.F0 rfl rfl rfl ha hx hE
def Dz (K:Sd) (E:XK) (te:TE):TS:=λ_ σ H=>te σ H λv H1=>∃a C d,v=.ref a∧gY K C=true∧H1 a=some (xN a C d)∧E (.ref C) (some a) (upd H1 a (xO a C d))
theorem kr (hX:Raises X E) (hc:X.calm=true) (he:PE X e te):PS X (.Raise (some e) none pos) (Dz X.K E te):=by
 intro pins s σ H D I h
 rw[arm_exec_Raise]
 refine SX (OP (BG (K:=X.K) (I.ok.hd hc) ?_))
 refine SX (qW (he pins s σ H _ I h) λu s1 ⟨v,H1,I1,rv,a,C,d,ev,hk,ha,hE⟩=>SX (OP (Td ?_)))
 subst ev
 obtain rfl:u=Tf a:=rv
 have hx:=Hg I1.z8 ha
 obtain⟨vs,sl,hg,r⟩:=id hx
 have I2:Inv X pins σ (upd H1 a (xO a C d)) s1:=I1.write (x:=a) (e:=a) (h':=s1.heap) (t':=s1.toks) (by rw[ha];exact T9) (.inl rfl) (λb q _ z=>z) ⟨_,hg⟩ (Fb hx)
 exact⟨a,C,d,rfl,I1.bD,hk,hx,hX pins σ _ s1 a C d I2 zm hx hE⟩
end
end L2
namespace L2
open PyProof.Rows PySem PySem.Spec
section
variable {X:Cx} {pins:List (Addr × Obj)} {σ:St} {H:Hp} {s:Ss} {a C:Addr} {d:Option Addr} {E Eh:XK}
def DZ (X:Cx) (pins:List (Addr × Obj)) (σ:St) (Eh:XK) (ex:Sr) (s':Ss):Prop:=∃a C d T H',ex=.ref a∧Inv X pins σ H' s'∧Uz a C d X.s₀.heap.objs.size H' s'.heap T∧(∀p∈X.pn ++ pins,p.1≠T)∧Eh (.ref C) (some a) H'
def Lc (X:Cx) (Eh:XK) (e:Expr) (te:TE):Prop:=∀(pins:List (Addr × Obj)) (s:Ss) (σ:St) (H:Hp) (Q:VK),Inv X pins σ H s→te σ H Q→S6 (S4 X.prog X.w) X.A (eval e X.env) (EP X pins σ Q) (DZ X pins σ Eh) s
section
variable {k:Nat} {f:Addr} {fd:SH} {ps:List Str} {sp:Sp} {dvs:List V} {ds:List Sr} {x:Str} {p pos:Pos} {e:Expr} {es:List Expr} {t:TA}
end
def Cx.held (X:Cx) (a:Addr):Cx:={ X with A:=X.A.mark (some (.ref a)),calm:=false }
def Lj (K:Sd) (Eh:XK) (P:Addr) (i:Nat) (te:TE) (th:Addr→TS):TS:=λD σ H=>(te σ H λ_ H1=>D.nx σ H1)∧∀C a H',Eh (.ref C) (some a) H'→Eb K (.ref C) (.ref P)=some true∧
 th a { nx:=λσ H=>D.nx (σ.set i none) H,rt:=D.rt,bk:=λσ H=>D.bk (σ.set i none) H,ct:=λσ H=>D.ct (σ.set i none) H } (σ.set i (some (.ref a))) H'
end
end L2
namespace L2
open PyProof.Rows PySem PySem.Spec
def DM (H:Hp) (a C:Addr) (fs:List (Str × V)):Prop:=(fs=[]∧H a=some (xO a C none))∨∃dx,H a=some (xO a C (some dx))∧H dx=some (xD dx fs)
section
variable {prog:SM} {w:Tj} {A:TM} {E:Sr→Ss→Prop} {s:Ss} {K:Sd} {x C:Addr} {ox:Obj} {od:Option Obj} {name:Str} {tk:Tok} {v:Sr} {R:Result→Ss→Prop}
end
structure UQ (K:Sd) (C:Addr):Prop where
 ga:Tv K (.ref C) "__getattribute__" = some (some (.builtin "BaseException.__getattribute__"))
 gn:Tv K (.ref C) "__getattr__" = some none
 bx:NJ K C (.type "BaseException")=some true
 hd:Im K C=true
 ha:Tv K (.ref C) "__class__" = some (some (.builtin "object.__class__"))
 hn:OC K (.builtin "object.__class__") "__get__" = some (some (.builtin "getset_descriptor.__get__"))
 sY:E8 K (.builtin "object.__class__")=some true
 hm:NJ K C (.type "object")=some true
section
variable {X:Cx} {K:Sd}
def Lk (K:Sd) (ta:TE) (f:Str):TE:=λσ H Q=>ta σ H λx H1=>∃a C fs v,x=.ref a∧DM H1 a C fs∧UQ K C∧zY K C f∧fs.lookup f=some v∧Q v H1
end
end L2
namespace L2
open PyProof.Rows PySem PySem.Spec
structure DB (k:Nat) (A:TM):Prop where
 dp:A.depth + 3 * k + 5 < recursionLimit
 un:A.units + 16 * k + 200 < cLine
structure RQ (P:SM) (w:Tj) (K:Sd) (mg:Str→Option Sr) (base:Heap) (CX:sX) (k:Nat) (f:Addr) (fd:SH) (ps:List Str) (sp:Sp):Prop where
 len:∀vs H Q E,sp vs H Q E→vs.length=ps.length
 run:∀(A:TM) (outer:List Env) (s:Ss) (H:Hp) (args:Args) (us:List Sr) (vs:List V) (Q:VK) (E:XK),DB k A→Qn P w K mg base A outer s H→BindsTo s fd args (ps.zip us)→Vals vs us→sp vs H Q E→Og (S4 P w) A (.call (.ref f) args) (CR CX outer P w H s Q E) s
section
variable {P:SM} {w:Tj} {K:Sd} {mg:Str→Option Sr} {base:Heap} {CX:sX}
def Cx.any (X:Cx):Cx:={ X with calm:=false,xe:=λ_ _=>False }
section
variable {X:Cx} {pins:List (Addr × Obj)} {σ:St} {H:Hp} {s:Ss} {k:Nat} {f:Addr} {fd:SH} {ps:List Str} {sp:Sp} {dvs:List V} {ds:List Sr} {x:Str} {p pos:Pos} {e:Expr} {es:List Expr} {t:TA}
end
end
end L2
namespace L2
open PyProof.Rows PySem PySem.Spec
section
variable {prog:SM} {w:Tj} {A:TM} {E:Sr→Ss→Prop} {s:Ss} {a e C:Addr} {d:Option Addr} {tb:Sr} {oe:Obj} {vs:Array Sr}
end
end L2
namespace L2
open PyProof.Rows PySem PySem.Spec
structure DP (aa:Addr) (P:SM) (w:Tj) (K:Sd) (tg:Expr) (J:It) (fp:List Addr) (it:Addr) (tn:Nat→Heap→Prop):Prop where
 mem:it∈fp
 obj:∀i h,tn i h→∀b∈fp,∃o,h.get? b=some o∧∀v,o.data≠.cell v
 keep:∀i h h',tn i h→(∀b∈fp,∀o,h.get? b=some o→h'.get? b=some o)→tn i h'
 item:∀(X:Cx),X.prog=P→X.w=w→X.K=K→X.A.handled=some (.ref aa)→∀(i:Nat) (pins:List (Addr × Obj)) (s:Ss) (σ:St) (H:Hp) (E:Sr→Ss→Prop),Inv X pins σ H s→(∀b∈fp,wt X pins H b)→tn i s.heap→J.go i H→
  S6 (S4 P w) X.A (pyNext (.ref it)) (λr s1=>∃u,r=some u∧S6 (S4 P w) X.A (OY tg (.ref it) u) (λ_ s2=>∃x H',Inv X pins σ H' s2∧RelV x u∧J.Hd i H x H'∧tn (i + 1) s2.heap∧∀b∈fp,H' b=none) E s1) E s
 done:∀(X:Cx),X.prog=P→X.w=w→X.K=K→X.A.handled=some (.ref aa)→∀(i:Nat) (pins:List (Addr × Obj)) (s:Ss) (σ:St) (H:Hp) (E:Sr→Ss→Prop),Inv X pins σ H s→(∀b∈fp,wt X pins H b)→tn i s.heap→J.stop i H→S6 (S4 P w) X.A (pyNext (.ref it)) (λr s1=>r=none∧Inv X pins σ H s1) E s
 self:∀(A:TM) (i:Nat) (s:Ss) (Q:Sr→Ss→Prop) (E:Sr→Ss→Prop),tn i s.heap→Q (.ref it) s→S6 (S4 P w) A (pyIter (.ref it)) Q E s
def Uo (aa:Addr) (lo:Int) (n:Nat):It:=⟨λi _=>i < n,λi H x H'=>H'=H∧x=.int (lo + i),λi H=>n≤i∧∃C d,H aa=some (xO aa C d)⟩
section
variable {X:Cx}
def Lr (X:Cx) (aa:Addr) (tg iter:Expr) (wi:TI):Prop:=∀(pins:List (Addr × Obj)) (s:Ss) (σ:St) (H:Hp) (R:It→Hp→Prop),Inv X pins σ H s→wi σ H R→
 S6 (S4 X.prog X.w) X.A (eval iter X.env) (λv s1=>S6 (S4 X.prog X.w) X.A (pyIter v) (λitv s2=>∃(it:Addr) (fp:List Addr) (tn:Nat→Heap→Prop) (J:It) (H':Hp),itv=.ref it∧Inv X pins σ H' s2∧DP aa X.prog X.w X.K tg J fp it tn∧tn 0 s2.heap∧(∀b∈fp,wt X pins H' b)∧R J H') X.xe s1) X.xe s
def UB (aa:Addr) (ta:TA):TI:=λσ H R=>ta σ H λvs H1=>∃j:Int,vs=[.int j]∧-(2 ^ 62)≤j∧j < 2 ^ 62∧R (Uo aa 0 j.toNat) H1
end
end L2
namespace L2
open PySem PySem.Spec PyProof.Rows
section
variable {κ:Type} [DecidableEq κ]
def xy (kvs:List (κ × V)) (k:κ):Option V:=(kvs.find? λkv=>decide (kv.1=k)).map (·.2)
def putK (kvs:List (κ × V)) (k:κ) (v:V):List (κ × V):=
 if (kvs.any λkv=>decide (kv.1=k))=true then kvs.map (λkv=>if kv.1=k then (kv.1,v) else kv) else kvs ++ [(k,v)]
def Yf (kvs:List (κ × V)) (k:κ):List (κ × V):=kvs.filter λkv=>decide (kv.1≠k)
theorem jL {p:κ × V} {r:List (κ × V)} {k:κ} (e:p.1=k):xy (p :: r) k=some p.2:=by simp [xy,Nl,e]
theorem jR {p:κ × V} {r:List (κ × V)} {k:κ} (e:¬p.1=k):xy (p :: r) k=xy r k:=by simp [xy,Nl,e]
theorem gW (k:κ):∀kvs:List (κ × V),(kvs.any λkv=>decide (kv.1=k))=(xy kvs k).isSome
 | []=>rfl
 | p :: r=>by
  rw[Of]
  by_cases e:p.1=k
  ·simp only[jL e,zjx e,Bool.true_or,Option.isSome_some]
  ·rw[jR e,decide_eq_false e,Bool.false_or];exact gW k r
theorem JC (k j:κ) (y:V):∀kvs:List (κ × V),xy (kvs.map λkv=>if kv.1=k then (kv.1,y) else kv) j=(xy kvs j).map λx=>if j=k then y else x
 | []=>rfl
 | p :: r=>by
  have ih:=JC k j y r
  rw[SE]
  by_cases h:p.1=k
  ·rw[if_pos h]
   by_cases e:p.1=j
   ·rw[jL (p:=(p.1,y)) e,jL e,Ng,if_pos (e.symm.trans h)]
   ·rw[jR (p:=(p.1,y)) e,jR e,ih]
  ·rw[if_neg h]
   by_cases e:p.1=j
   ·rw[jL (p:=p) e,jL e,Ng,if_neg (λz=>h (e.trans z))]
   ·rw[jR (p:=p) e,jR e,ih]
theorem aH (k j:κ) (y:V):∀kvs:List (κ × V),xy kvs k=none→xy (kvs ++ [(k,y)]) j=if j=k then some y else xy kvs j
 | [],_=>by
  by_cases e:k=j
  ·rw[if_pos e.symm];exact jL (p:=(k,y)) e
  ·rw[if_neg (λz=>e z.symm)];exact jR (p:=(k,y)) e
 | p :: r,hn=>by
  rw[T8]
  have hk:¬p.1=k:=λz=>by rw[jL z] at hn;cases hn
  rw[jR hk] at hn
  have ih:=aH k j y r hn
  by_cases e:p.1=j
  ·rw[jL e,jL e,if_neg (λz=>hk (e.trans z))]
  ·rw[jR e,jR e,ih]
theorem Hv (kvs:List (κ × V)) (k j:κ) (y:V):xy (putK kvs k y) j=if j=k then some y else xy kvs j:=by
 unfold putK
 by_cases a:(kvs.any λkv=>decide (kv.1=k))=true
 ·rw[if_pos a,JC]
  rw[gW] at a
  by_cases e:j=k
  ·obtain⟨x,hx⟩:=EZ.mp a
   rw[if_pos e,e,hx,Ng,if_pos rfl]
  ·rw[if_neg e]
   cases xy kvs j with
   | none=>rfl
   | some x=>rw[Ng,if_neg e]
 ·rw[if_neg a]
  refine aH k j y kvs ?_
  rw[gW] at a
  cases q:xy kvs k with
  | none=>rfl
  | some x=>rw[q] at a;exact(a rfl).elim
theorem lJ (kvs:List (κ × V)) (k:κ) (v:V):(putK kvs k v).length≤kvs.length + 1:=by
 unfold putK
 split
 ·rw[Su];omega
 ·rw[Sl,Se,S1];omega
theorem Gf {kvs:List (κ × V)} {k:κ} (v:V) (h:xy kvs k=none):putK kvs k v=kvs ++ [(k,v)]:=by
 unfold putK
 rw[gW,h]
 exact if_neg (by decide)
theorem vD.gv {o:Option V} {u:Option Sr} (r:vD o u):o.isSome=u.isSome:=by
 cases o with
 | none=>cases u with
  | none=>rfl
  | some _=>exact(show False from r).elim
 | some _=>cases u with
  | none=>exact(show False from r).elim
  | some _=>rfl
theorem vD.getD {o:Option V} {u:Option Sr} {d:V} {d':Sr} (r:vD o u) (rd:RelV d d'):RelV (o.getD d) (u.getD d'):=by
 cases o with
 | none=>cases u with
  | none=>exact rd
  | some _=>exact(show False from r).elim
 | some _=>cases u with
  | none=>exact(show False from r).elim
  | some _=>exact r
theorem KV.val {kvs:List (κ × V)} {vs:List (κ × Sr)} (r:KV kvs vs) (k:κ):vD (xy kvs k) (valueAt vs k):=by
 unfold KV at r
 induction r with
 | nil=>exact T9
 | @cons p q ps qs h t ih=>
  obtain⟨h1,h2⟩:=h
  by_cases e:p.1=k
  ·have e':q.1=k:=h1.symm.trans e
   have b:valueAt (q :: qs) k=some q.2:=by simp [valueAt,Nl,e']
   rw[jL e,b];exact h2
  ·have e':¬q.1=k:=λz=>e (h1.trans z)
   have b:valueAt (q :: qs) k=valueAt qs k:=by simp [valueAt,Nl,e']
   rw[jR e,b];exact ih
theorem KV.any {kvs:List (κ × V)} {vs:List (κ × Sr)} (r:KV kvs vs) (k:κ):(kvs.any λkv=>decide (kv.1=k))=vs.any λkv=>decide (kv.1=k):=by
 unfold KV at r
 induction r with
 | nil=>rfl
 | cons h t ih=>rw[Of,Of,ih,h.1]
theorem KV.MC {kvs:List (κ × V)} {vs:List (κ × Sr)} (r:KV kvs vs) (k:κ) {y:V} {u:Sr} (ry:RelV y u) :
  KV (kvs.map λkv=>if kv.1=k then (kv.1,y) else kv) (vs.map λkv=>if kv.1=k then (kv.1,u) else kv):=by
 unfold KV at r ⊢
 induction r with
 | nil=>exact .nil
 | @cons p q ps qs h t ih=>
  rw[SE,SE]
  refine .cons ?_ ih
  obtain⟨h1,h2⟩:=h
  by_cases e:p.1=k
  ·rw[if_pos e,if_pos (h1.symm.trans e)];exact⟨h1,ry⟩
  ·rw[if_neg e,if_neg (λz=>e (h1.trans z))];exact⟨h1,h2⟩
theorem KV.put {kvs:List (κ × V)} {vs:List (κ × Sr)} (r:KV kvs vs) (k:κ) {y:V} {u:Sr} (ry:RelV y u):KV (putK kvs k y) (stored vs k u):=by
 unfold putK stored
 rw[r.any k]
 by_cases e:(vs.any λkv=>decide (kv.1=k))=true
 ·rw[if_pos e,if_pos e];exact r.MC k ry
 ·rw[if_neg e,if_neg e];exact Paired.snoc r ⟨rfl,ry⟩
theorem KV.keys {kvs:List (κ × V)} {vs:List (κ × Sr)} (r:KV kvs vs):kvs.map (·.1)=vs.map (·.1):=by
 unfold KV at r
 induction r with
 | nil=>rfl
 | cons h t ih=>rw[SE,SE,ih,h.1]
theorem KV.length {kvs:List (κ × V)} {vs:List (κ × Sr)} (r:KV kvs vs):kvs.length=vs.length:=TF r
end
theorem nB {P:SM} {w:Tj} {k:Key} {u:Sr} (r:RelV (kV k) u):(qN P w).is k u=true:=by
 cases k with
 | inl i=>obtain⟨t,e⟩:=(show ∃t,u=AX i t from r);subst e;exact Q9 P w i t
 | inr x=>obtain⟨t,e⟩:=(show ∃t,u=AK x t from r);subst e;exact Jz P w x t
theorem eA {P:SM} {w:Tj}:∀{ks:List Key} {us:List Sr},Vals (ks.map kV) us→ItemsAre (qN P w) ks us
 | [],_,r=>by rw[Nk] at r;cases r;exact .nil
 | k :: ks,_,r=>by
  rw[SE] at r
  cases r with
  | cons h t=>exact .cons (nB h) (eA t)
abbrev KT (H:Hp):List (List Key × V)→List (List Key × Addr × Sr)→Prop:=Paired λp q=>p.1=q.1∧H q.2.1=some (.tup (p.1.map kV))∧RelV p.2 q.2.2
theorem KT.val {H:Hp} {kvs:List (List Key × V)} {xs:List (List Key × Addr × Sr)} (r:KT H kvs xs) (k:List Key):vD (xy kvs k) ((atKey xs k).map (·.2)):=by
 induction r with
 | nil=>exact T9
 | @cons p q ps qs h t ih=>
  obtain⟨h1,_,h2⟩:=h
  by_cases e:p.1=k
  ·have e':q.1=k:=h1.symm.trans e
   have b:atKey (q :: qs) k=some q.2:=by simp [atKey,Nl,e']
   rw[jL e,b];exact h2
  ·have e':¬q.1=k:=λz=>e (h1.trans z)
   have b:atKey (q :: qs) k=atKey qs k:=by simp [atKey,Nl,e']
   rw[jR e,b];exact ih
theorem KT.MC {H:Hp} {kvs:List (List Key × V)} {xs:List (List Key × Addr × Sr)} (r:KT H kvs xs) (k:List Key) {y:V} {u:Sr} (ry:RelV y u) :
  KT H (kvs.map λkv=>if kv.1=k then (kv.1,y) else kv) (xs.map (putAt k u)):=by
 induction r with
 | nil=>exact .nil
 | @cons p q ps qs h t ih=>
  rw[SE,SE]
  refine .cons ?_ ih
  obtain⟨h1,h2,h3⟩:=h
  unfold putAt
  by_cases e:p.1=k
  ·rw[if_pos e,if_pos (h1.symm.trans e)];exact⟨h1,h2,ry⟩
  ·rw[if_neg e,if_neg (λz=>e (h1.trans z))];exact⟨h1,h2,h3⟩
theorem KT.put {H:Hp} {kvs:List (List Key × V)} {xs:List (List Key × Addr × Sr)} (r:KT H kvs xs) (k:List Key) {b:Addr} {y:V} {u:Sr} (hb:H b=some (.tup (k.map kV))) (ry:RelV y u) :
  KT H (putK kvs k y) (storedH xs k b u):=by
 have e:(kvs.any λkv=>decide (kv.1=k))=(atKey xs k).isSome:=by
  rw[gW,(r.val k).gv,Ei]
 unfold putK storedH
 rw[e]
 by_cases q:(atKey xs k).isSome=true
 ·rw[if_pos q,if_pos q];exact r.MC k ry
 ·rw[if_neg q,if_neg q];exact Paired.snoc r ⟨rfl,hb,ry⟩
theorem KT.keeps {H H':Hp} {kvs:List (List Key × V)} {xs:List (List Key × Addr × Sr)} (r:KT H kvs xs) (ht:∀b ys,H b=some (.tup ys)→H' b=some (.tup ys)):KT H' kvs xs:=
 Paired.YR r λ_ _ z=>⟨z.1,ht _ _ z.2.1,z.2.2⟩
section
variable {P:SM} {w:Tj} {H:Hp} {h:Heap} {a:Addr}
theorem Po {u:HO} (ok:bU P w H h) (e:Rd H a u):qY P w H h a u:=e.ok ok
theorem lZ {kvs:List (Key × V)} (ok:bU P w H h) (e:Rd H a (.dK kvs)):kvs.length≤S0∧(a == OS)=false∧∃vs,KV kvs vs∧h.DictOf (qN P w) a vs:=
 show qY P w H h a (.dK kvs) from Po ok e
theorem Ka {kvs:List (Key × V)} (ok:bU P w H h) (e:H a=some (.dK kvs)):kvs.length≤S0∧(a == OS)=false∧∃vs,KV kvs vs∧h.DictOf (qN P w) a vs:=lZ ok (.inl e)
theorem de {ks:List Key} (ok:bU P w H h) (e:H a=some (.tup (ks.map kV))):(II (qN P w)).is h ks a:=by
 obtain⟨_,its,r,o,h1,h2,n,h3⟩:=(show qY P w H h a (.tup (ks.map kV)) from ok a _ e)
 exact⟨o,its.toArray,n,h1,h2,h3,by simpa using eA r⟩
theorem nk {kvs:List (List Key × V)} (ok:bU P w H h) (e:Rd H a (.dT kvs)):kvs.length≤S0∧(a == OS)=false∧
  ∃xs,KT H kvs xs∧h.DictOfH (II (qN P w)) a xs:=by
 obtain⟨z,y,xs,r,o,es,ep,h1,h2,h3,h4,h5⟩:=(show qY P w H h a (.dT kvs) from Po ok e)
 refine⟨z,y,xs,r,o,es,ep,h1,h2,h3,h4,λx hx=>?_,h5⟩
 have all:∀{l:List (List Key × V)} {m:List (List Key × Addr × Sr)},KT H l m→∀x∈m,(II (qN P w)).is h x.1 x.2.1:=by
  intro l m q
  induction q with
  | nil=>intro x hx;exact nomatch hx
  | @cons p q ps qs hq t ih=>
   intro x hx
   rcases So.mp hx with e | hx
   ·subst e
    exact de ok (by rw[←hq.1];exact hq.2.1)
   ·exact ih x hx
 exact all r x hx
theorem DO {kvs:List (List Key × V)} (ok:bU P w H h) (e:H a=some (.dT kvs)):kvs.length≤S0∧(a == OS)=false∧
  ∃xs,KT H kvs xs∧h.DictOfH (II (qN P w)) a xs:=nk ok (.inl e)
end
def jS (H:Hp) (a:Addr) (y:V) (r:Option V):Prop:=
 (∃kvs k,Rd H a (.dK kvs)∧y=kV k∧r=xy kvs k)∨∃kvs k b,Rd H a (.dT kvs)∧y=.ref b∧H b=some (.tup (k.map kV))∧r=xy kvs k
def Vr (H:Hp) (a:Addr) (y v:V) (H':Hp):Prop:=
 (∃kvs k,H a=some (.dK kvs)∧y=kV k∧kvs.length < S0∧H'=upd H a (.dK (putK kvs k v)))∨
 ∃kvs k b,H a=some (.dT kvs)∧y=.ref b∧H b=some (.tup (k.map kV))∧kvs.length < S0∧H'=upd H a (.dT (putK kvs k v))
theorem jS.k {H:Hp} {a:Addr} {kvs:List (Key × V)} {k:Key} (e:H a=some (.dK kvs)):jS H a (kV k) (xy kvs k):=.inl ⟨kvs,k,.inl e,rfl,rfl⟩
theorem Vr.k {H:Hp} {a:Addr} {kvs:List (Key × V)} {k:Key} {v:V} (e:H a=some (.dK kvs)) (hl:kvs.length < S0):Vr H a (kV k) v (upd H a (.dK (putK kvs k v))):=.inl ⟨kvs,k,e,rfl,hl,rfl⟩
section
variable {X:Cx} {pins:List (Addr × Obj)} {σ:St} {H:Hp} {s:Ss} {a:Addr} {y v:V} {u r:Sr} {o:Option V} {A:TM} {E:Sr→Ss→Prop}
theorem Inv.big (I:Inv X pins σ H s):OS < s.heap.objs.size:=by
 have h:NL < s.heap.objs.size:=(I.mod.glob.keeps I.bk).lt
 exact zqt (by decide) h
theorem VZ {Q:Sr→Ss→Prop} (hu:A.units + 1 < cLine) (I:Inv X pins σ H s) (g:jS H a y (some v)) (ry:RelV y u) (h:∀w' s',Inv X pins σ H s'→RelV v w'→Q w' s') :
  S6 (S4 X.prog X.w) A (getItem (.ref a) u) Q E s:=by
 rcases g with ⟨kvs,k,e,ey,l⟩ | ⟨kvs,k,b,e,ey,eb,l⟩
 ·subst ey
  obtain⟨z,hd,vs,rel,dd⟩:=lZ I.z8 e
  obtain⟨w',hw,rw'⟩:=vD.some_of (v:=v) (o:=valueAt vs k) (by rw[l];exact rel.val k)
  exact wpAny_getItem_of (nB ry) dd.mapOf hw (h w' _ (I.tok _) rw')
 ·subst ey
  cases (show u=Tf b from ry)
  obtain⟨z,hd,xs,rel,dd⟩:=nk I.z8 e
  obtain⟨w',hw,rw'⟩:=vD.some_of (v:=v) (o:=(atKey xs k).map (·.2)) (by rw[l];exact rel.val k)
  obtain⟨p,hp,hp2⟩:=Option.map_eq_some_iff.mp hw
  refine wpAny_getItem_heap (N6 hu) (de I.z8 eb) dd hp ?_
  rw[hp2]
  exact h w' _ (I.tok _) rw'
theorem UW {Q:Sr→Ss→Prop} (hu:A.units + 1 < cLine) (I:Inv X pins σ H s) (g:jS H a y o) (ry:RelV y u) (h:∀s',Inv X pins σ H s'→Q (.bool o.isSome) s') :
  S6 (S4 X.prog X.w) A (Ny .In u (.ref a)) Q E s:=by
 rcases g with ⟨kvs,k,e,ey,l⟩ | ⟨kvs,k,b,e,ey,eb,l⟩
 ·subst ey
  obtain⟨z,hd,vs,rel,dd⟩:=lZ I.z8 e
  refine wpAny_in_of (nB ry) hd dd.mapOf ?_
  rw[←(rel.val k).gv,←l]
  exact h _ (I.tok _)
 ·subst ey
  cases (show u=Tf b from ry)
  obtain⟨z,hd,xs,rel,dd⟩:=nk I.z8 e
  refine wpAny_in_heap (N6 hu) (de I.z8 eb) hd dd ?_
  have q:=(rel.val k).gv
  rw[Ei] at q
  rw[←q,←l]
  exact h _ (I.tok _)
theorem HD {Q:Sr→Ss→Prop} (hu:A.units + 1 < cLine) (I:Inv X pins σ H s) (g:jS H a y o) (ry:RelV y u) (h:∀s',Inv X pins σ H s'→Q (.bool (!o.isSome)) s') :
  S6 (S4 X.prog X.w) A (Ny .NotIn u (.ref a)) Q E s:=by
 rcases g with ⟨kvs,k,e,ey,l⟩ | ⟨kvs,k,b,e,ey,eb,l⟩
 ·subst ey
  obtain⟨z,hd,vs,rel,dd⟩:=lZ I.z8 e
  refine wpAny_notIn_of (nB ry) hd dd.mapOf ?_
  rw[←(rel.val k).gv,←l]
  exact h _ (I.tok _)
 ·subst ey
  cases (show u=Tf b from ry)
  obtain⟨z,hd,xs,rel,dd⟩:=nk I.z8 e
  refine wpAny_notIn_heap (N6 hu) (de I.z8 eb) hd dd ?_
  have q:=(rel.val k).gv
  rw[Ei] at q
  rw[←q,←l]
  exact h _ (I.tok _)
theorem Ks {h':Heap} {t':Nat} {ob:HO} (I:Inv X pins σ H s) (mu:DK (H a)) (hs:Ip a s.heap h') (he:∃q,h'.get? a=some q) (new:qY X.prog X.w (upd H a ob) h' a ob) :
  Inv X pins σ (upd H a ob) { s with heap:=h',toks:=t' }:=
 I.write (x:=a) (e:=a) mu (.inl rfl) (λb q hb z=>(hs.2 b hb).trans z) he new
theorem Yg {P:SM} {w:Tj} {H':Hp} {h':Heap} {kvs:List (Key × V)} {vs:List (Key × Sr)} (z:kvs.length≤S0) (hd:(a == OS)=false) (rel:KV kvs vs) (dd:h'.DictOf (qN P w) a vs) :
  qY P w H' h' a (.dK kvs):=⟨z,hd,vs,rel,dd⟩
theorem VQ {H':Hp} {Q:Unit→Ss→Prop} (hu:A.units + 1 < cLine) (I:Inv X pins σ H s) (g:Vr H a y v H') (ry:RelV y u) (rv:RelV v r) (h:∀s',Inv X pins σ H' s'→Q () s') :
  S6 (S4 X.prog X.w) A (setItem (.ref a) u r) Q E s:=by
 rcases g with ⟨kvs,k,e,ey,l,eH⟩ | ⟨kvs,k,b,e,ey,eb,l,eH⟩
 ·subst ey eH
  obtain⟨z,hd,vs,rel,dd⟩:=Ka I.z8 e
  have hz:vs.length≤S0:=by rw[←rel.length];exact z
  have hl:(putK kvs k v).length≤S0:=by have:=lJ kvs k v;omega
  refine wpAny_setItem_pairs (hsz:=hz) (nB ry) dd λh' dd' hs=>h _ ?_
  have he:∃q,h'.get? a=some q:=let ⟨q,_,_,hq,_⟩:=dd';⟨q,hq⟩
  exact Ks I (by rw[e];exact T9) hs he (Yg hl hd (rel.put k rv) dd')
 ·subst ey eH
  cases (show u=Tf b from ry)
  obtain⟨z,hd,xs,rel,dd⟩:=DO I.z8 e
  have hz:xs.length≤S0:=by rw[←TF rel];exact z
  have hl:(putK kvs k v).length≤S0:=by have:=lJ kvs k v;omega
  refine wpAny_setItem_heap (hsz:=hz) (N6 hu) (de I.z8 eb) dd λh' dd' hs=>h _ ?_
  obtain⟨q,es,ep,hq,h2,h3,h4,_,h5⟩:=dd'
  refine Ks I (by rw[e];exact T9) hs ⟨q,hq⟩ ⟨hl,hd,_,(rel.put k eb rv).keeps λc ys ec=>?_,q,es,ep,hq,h2,h3,h4,h5⟩
  rw[zG (mX ec e (λz=>nomatch z))]
  exact ec
end
section
variable {X:Cx} {pins:List (Addr × Obj)} {σ:St} {H:Hp} {s:Ss} {a:Addr} {kvs:List (Key × V)} {k:Key} {u:Sr} {A:TM} {E:Sr→Ss→Prop}
end
def DW (i:Expr):Prop:=∀ov iv,subscripted i false ov iv=operate [ov,iv] (getItem ov iv)
theorem BN {prog:SM} {w:Tj} {A:TM} {E:Sr→Ss→Prop} {s:Ss} {env:Env} {value slice:Expr} {pos:Pos} {T id:String} {Q:Sr→Ss→Prop}
  (hl:typeLookup (.type T) "__getitem__" = pure (some (.builtin id))) (hs:DW slice)
  (h:S6 (S4 prog w) A (eval value env) (λo s₁=>S6 (S4 prog w) A (eval slice env) (λi s₂=>s₂.TypeIs o T∧S6 (S4 prog w) A (getItem o i) Q E s₂) E s₁) E s) :
  S6 (S4 prog w) A (eval (.Subscript value slice pos) env) Q E s:=by
 refine Subscript_ (TR h (λo s₁ h₁=>TR h₁ (λi s₂ h₂=>?_) λ_ _ x=>x) λ_ _ x=>x)
 obtain⟨hT,h₂⟩:=h₂
 unfold subscriptTail
 refine SX ?_
 rw[getitemInPython_of_ne hT.not_modules]
 refine SX (wpAny_specialOf hT hl ?_)
 have fin:S6 (S4 prog w) A (subscripted slice false o i) (λr s₃=>S6 (S4 prog w) A (letTemporaryGo value o r >>= λ_=>pure r) Q E s₃) E s₂:=by
  rw[hs o i]
  exact wpAny_operating (TR h₂ (λr s₃ h₃=>SX (wpAny_letTemporaryGo (Td h₃))) λ_ _ x=>x)
 first
  | exact Td (SX fin)
  | exact SX (Td (SX fin))
  | exact SX fin
theorem QB {X:Cx} {pins:List (Addr × Obj)} {σ:St} {H:Hp} {s:Ss} {a:Addr} {y:V} {o:Option V} (I:Inv X pins σ H s) (g:jS H a y o):s.TypeIs (.ref a) "dict":=by
 rcases g with ⟨kvs,k,e,_,_⟩ | ⟨kvs,k,b,e,_,_,_⟩
 ·obtain⟨_,_,vs,_,dd⟩:=lZ I.z8 e
  exact dd.typeIs
 ·obtain⟨_,_,xs,_,dd⟩:=nk I.z8 e
  exact dd.typeIs
def G5 (td ty:TE):TE:=λσ H Q=>td σ H λx H1=>ty σ H1 λy H2=>∃a v,x=.ref a∧jS H2 a y (some v)∧Q v H2
def Rx (ty td:TE):TE:=λσ H Q=>ty σ H λy H1=>td σ H1 λx H2=>∃a o,x=.ref a∧jS H2 a y o∧Q (.bl o.isSome) H2
def BI (ty td:TE):TE:=λσ H Q=>ty σ H λy H1=>td σ H1 λx H2=>∃a o,x=.ref a∧jS H2 a y o∧Q (.bl (!o.isSome)) H2
def RI (td ty tv:TE):TS:=λD σ H=>tv σ H λv H1=>td σ H1 λx H2=>ty σ H2 λy H3=>∃a H4,x=.ref a∧Vr H3 a y v H4∧D.nx σ H4
def RN (td ty tv:TE) (rd:V→V→Hp→VK→Prop):TS:=λD σ H=>td σ H λx H1=>ty σ H1 λy H2=>∃a v,x=.ref a∧jS H2 a y (some v)∧
 tv σ H2 λy2 H3=>rd v y2 H3 λz H4=>∃H5,Vr H4 a y z H5∧D.nx σ H5
def RO (td ty:TE):TS:=λD σ H=>td σ H λx H1=>ty σ H1 λy H2=>∃a kvs k,x=.ref a∧H2 a=some (.dK kvs)∧y=kV k∧(xy kvs k).isSome=true∧D.nx σ (upd H2 a (.dK (Yf kvs k)))
section
variable {X:Cx} {o i e value:Expr} {pos pos' tpos:Pos} {td ty tv:TE}
theorem qB (hu:X.A.units + 1 < cLine) (ho:PE X o td) (hi:PE X i ty) (hs:DW i):PE X (.Subscript o i pos) (G5 td ty):=by
 intro pins s σ H Q I h
 refine BN PySem.F.slot_dict_getitem.lookup hs (qW (ho pins s σ H _ I h) λu s1 ⟨x,H1,I1,rx,q1⟩=>qW (hi pins s1 σ H1 _ I1 q1) λiv s2 ⟨y,H2,I2,ry,a,v,ex,g,q2⟩=>?_)
 subst ex
 obtain rfl:u=Tf a:=rx
 exact⟨QB I2 g,VZ hu I2 g ry λw' s3 I3 rw'=>⟨v,H2,I3,rw',q2⟩⟩
theorem XB (hu:X.A.units + 1 < cLine) (hi:PE X i ty) (ho:PE X o td):PC X .In i o (Rx ty td):=by
 intro pins s σ H Q I h
 refine qW (hi pins s σ H _ I h) λiv s1 ⟨y,H1,I1,ry,q1⟩=>qW (ho pins s1 σ H1 _ I1 q1) λu s2 ⟨x,H2,I2,rx,a,ov,ex,g,q2⟩=>?_
 subst ex
 obtain rfl:u=Tf a:=rx
 exact UW hu I2 g ry λs3 I3=>⟨.bl ov.isSome,H2,I3,rfl,q2⟩
theorem au (hu:X.A.units + 1 < cLine) (hi:PE X i ty) (ho:PE X o td):PC X .NotIn i o (BI ty td):=by
 intro pins s σ H Q I h
 refine qW (hi pins s σ H _ I h) λiv s1 ⟨y,H1,I1,ry,q1⟩=>qW (ho pins s1 σ H1 _ I1 q1) λu s2 ⟨x,H2,I2,rx,a,ov,ex,g,q2⟩=>?_
 subst ex
 obtain rfl:u=Tf a:=rx
 exact HD hu I2 g ry λs3 I3=>⟨.bl (!ov.isSome),H2,I3,rfl,q2⟩
end
theorem Yy {P:SM} {w:Tj} {H:Hp} (h:Heap) (hb:OS < h.objs.size):qY P w H (h.push { cls:=.type "dict",data:=.dict #[] }) h.objs.size (.dK []):=
 ⟨Tr _,beq_eq_false_iff_ne.mpr (TH (Ti hb)),[],.nil,zq9 h⟩
def M6:TE:=λ_ H Q=>∀p,H p=none→Q (.ref p) (upd H p (.dK []))
def Rk:TE:=λ_ H Q=>∀p,H p=none→Q (.ref p) (upd H p (.dT []))
section
variable {X:Cx} {pos:Pos}
theorem Gy:PE X (.Dict [] [] pos) M6:=λpins s σ H Q I h=>
 wpAny_Dict_empty ⟨.ref s.heap.objs.size,_,I.laid (a:=s.heap.objs.size) (o:=.dK []) (t':=s.toks) (λ_ _ q=>SQ _ q) (SD _) (Yy s.heap I.big),rfl,h _ (I.z8.fresh (SD _))⟩
end
def Kj:List (TE × TE)→St→Hp→(List (V × V)→Hp→Prop)→Prop
 | [],_,H,Q=>Q [] H
 | (tk,tv) :: r,σ,H,Q=>tk σ H λx H1=>tv σ H1 λy H2=>Kj r σ H2 λps H3=>Q ((x,y) :: ps) H3
abbrev VV:List (V × V)→List (Sr × Sr)→Prop:=Paired λp q=>RelV p.1 q.1∧RelV p.2 q.2
def Sj (X:Cx) (pos:Pos) (keys:List (Option Expr)) (values:List Expr) (trs:List (TE × TE)):Prop:=
 ∀(pins:List (Addr × Obj)) (s:Ss) (σ:St) (H:Hp) (Q:List (V × V)→Hp→Prop),Inv X pins σ H s→Kj trs σ H Q→
  S6 (S4 X.prog X.w) X.A (evalPairs (pairTrees keys values X.env pos)) (λvs s'=>∃ps H',Inv X pins σ H' s'∧VV ps vs∧Q ps H') X.xe s
def F8 (kvs more:List (Key × V)):List (Key × V):=more.foldl (λacc kv=>putK acc kv.1 kv.2) kvs
def R6 (trs:List (TE × TE)):TE:=λσ H Q=>∀p,H p=none→Kj trs σ (upd H p (.dK [])) λps H2=>H2 p=some (.dK [])∧∃kvs:List (Key × V),ps=kvs.map (λkv=>(kV kv.1,kv.2))∧kvs.length≤15∧Q (.ref p) (upd H2 p (.dK (F8 [] kvs)))
structure M1 (X:Cx) (o:Expr) (m:Str) (apos:Pos) (e:Expr) (cpos:Pos):Prop where
 base:Oh o m X.env (eval o X.env)=eval o X.env
 Zy:((backTo cpos (Tc [e] X.env)).all (λx=>!x.1) && (ON cpos (NS [] X.env)).all (λx=>x.1.isSome)
  && decide (([e]:List Expr).length + ([]:List Keyword).length + (if ([]:List Keyword).isEmpty then 0 else 1) < 30))=true
 line:(apos.endLine == cpos.line)=true
 trees:backTo cpos (Tc [e] X.env)=[(false,eval e X.env)]
structure M2 (X:Cx) (o:Expr) (m:Str) (apos:Pos) (e f:Expr) (cpos:Pos):Prop where
 base:Oh o m X.env (eval o X.env)=eval o X.env
 Zy:((backTo cpos (Tc [e,f] X.env)).all (λx=>!x.1) && (ON cpos (NS [] X.env)).all (λx=>x.1.isSome)
  && decide (([e,f]:List Expr).length + ([]:List Keyword).length + (if ([]:List Keyword).isEmpty then 0 else 1) < 30))=true
 line:(apos.endLine == cpos.line)=true
 trees:backTo cpos (Tc [e,f] X.env)=[(false,eval e X.env),(false,eval f X.env)]
def Uq (H:Hp) (a:Addr):Prop:=(∃kvs,Rd H a (.dK kvs))∨∃kvs,Rd H a (.dT kvs)
section
variable {X:Cx} {pins:List (Addr × Obj)} {σ:St} {H:Hp} {s:Ss} {a:Addr} {y d:V} {u r:Sr} {o:Option V} {A:TM} {E:Sr→Ss→Prop}
theorem FV {Q:Sr→Ss→Prop} (hu:A.units + 1 < cLine) (I:Inv X pins σ H s) (g:jS H a y o) (ry:RelV y u) (h:∀w' s',Inv X pins σ H s'→RelV (o.getD .non) w'→Q w' s') :
  S6 (S4 X.prog X.w) A (call (.builtin "dict.get") [.ref a,u]) Q E s:=by
 rcases g with ⟨kvs,k,e,ey,l⟩ | ⟨kvs,k,b,e,ey,eb,l⟩
 ·subst ey
  obtain⟨z,hd,vs,rel,dd⟩:=lZ I.z8 e
  refine call_meetsIn NP dd.typeIs OX (EB _ _) (meets_dict_get (qN X.prog X.w) a (nB ry) hd) ⟨_,dd.mapOf,h _ _ (I.tok _) ?_⟩
  rw[l]
  exact(rel.val k).getD rfl
 ·subst ey
  cases (show u=Tf b from ry)
  obtain⟨z,hd,xs,rel,dd⟩:=nk I.z8 e
  refine call_meetsIn NP dd.typeIs OX (EB _ _) (meetsH_dict_get (II (qN X.prog X.w)) a b hd) ⟨N6 hu,k,xs,de I.z8 eb,dd,h _ _ (I.tok _) ?_⟩
  rw[l]
  exact(rel.val k).getD rfl
theorem FW {Q:Sr→Ss→Prop} (hu:A.units + 1 < cLine) (I:Inv X pins σ H s) (g:jS H a y o) (ry:RelV y u) (rd:RelV d r) (h:∀w' s',Inv X pins σ H s'→RelV (o.getD d) w'→Q w' s') :
  S6 (S4 X.prog X.w) A (call (.builtin "dict.get") [.ref a,u,r]) Q E s:=by
 rcases g with ⟨kvs,k,e,ey,l⟩ | ⟨kvs,k,b,e,ey,eb,l⟩
 ·subst ey
  obtain⟨z,hd,vs,rel,dd⟩:=lZ I.z8 e
  refine call_meetsIn NP dd.typeIs OX (EF _ _ _) (meets_dict_get_default (qN X.prog X.w) a (nB ry) hd r) ⟨_,dd.mapOf,h _ _ (I.tok _) ?_⟩
  rw[l]
  exact(rel.val k).getD rd
 ·subst ey
  cases (show u=Tf b from ry)
  obtain⟨z,hd,xs,rel,dd⟩:=nk I.z8 e
  refine call_meetsIn NP dd.typeIs OX (EF _ _ _) (meetsH_dict_get_default (II (qN X.prog X.w)) a b hd r) ⟨N6 hu,k,xs,de I.z8 eb,dd,h _ _ (I.tok _) ?_⟩
  rw[l]
  exact(rel.val k).getD rd
end
def Rq (td ty:TE):TE:=λσ H Q=>td σ H λx H1=>∃a,x=.ref a∧Uq H1 a∧ty σ H1 λy H2=>∃o,jS H2 a y o∧Q (o.getD .non) H2
def Rj (td ty tx:TE):TE:=λσ H Q=>td σ H λx H1=>∃a,x=.ref a∧Uq H1 a∧ty σ H1 λy H2=>tx σ H2 λz H3=>∃o,jS H3 a y o∧Q (o.getD z) H3
def Rv (td ty:TE):TE:=λσ H Q=>td σ H λx H1=>∃a,x=.ref a∧Uq H1 a∧ty σ H1 λy H2=>∃kvs k v,H2 a=some (.dK kvs)∧y=kV k∧xy kvs k=some v∧Q v (upd H2 a (.dK (Yf kvs k)))
def Ry (td ty tx:TE):TE:=λσ H Q=>td σ H λx H1=>∃a,x=.ref a∧Uq H1 a∧ty σ H1 λy H2=>tx σ H2 λz H3=>∃kvs k,H3 a=some (.dK kvs)∧y=kV k∧
 (∀v,xy kvs k=some v→Q v (upd H3 a (.dK (Yf kvs k))))∧(xy kvs k=none→Q z H3)
section
variable {X:Cx} {o e f:Expr} {apos cpos:Pos} {td ty tx:TE}
end
section
variable {X:Cx} {pins:List (Addr × Obj)} {σ:St} {H:Hp} {s:Ss} {a:Addr} {kvs:List (Key × V)} {A:TM} {E:Sr→Ss→Prop}
theorem Yk {Q:Sr→Ss→Prop} (I:Inv X pins σ H s) (e:Rd H a (.dK kvs)) (h:∀p s',H p=none→Inv X pins σ (upd H p (.dK kvs)) s'→Q (.ref p) s'):S6 (S4 X.prog X.w) A (call (.type "dict") [.ref a]) Q E s:=by
 obtain⟨z,hd,vs,rel,dd⟩:=lZ I.z8 e
 refine kt_call_dict hd dd (by rw[←rel.length];exact z) λh' dd' hs=>?_
 refine h _ _ (I.z8.fresh (SD _)) (I.laid (a:=s.heap.objs.size) (o:=.dK kvs) (t':=s.toks) (λb q hq=>?_) (SD _) (Yg z (beq_eq_false_iff_ne.mpr (TH (Ti I.big))) rel dd'))
 exact(hs.2 b (Ti (SO hq))).trans (SQ _ hq)
end
section
variable {X:Cx} {pins:List (Addr × Obj)} {σ:St} {H:Hp} {s:Ss} {a:Addr} {y:V} {u:Sr} {A:TM} {E:Sr→Ss→Prop}
end
end L2
namespace L2
open PySem PySem.Spec PyProof.Rows
section
variable {X:Cx}
end
section
variable {κ:Type} [DecidableEq κ]
theorem K6:∀{l:List κ} {k:κ},l.Nodup→¬k∈l→(l ++ [k]).Nodup
 | [],k,_,_=>by simp
 | a :: r,k,h,hk=>by
  obtain⟨h1,h2⟩:=Tg.mp h
  show (a :: (r ++ [k])).Nodup
  refine Tg.mpr ⟨λm=>?_,K6 h2 λm=>hk (So.mpr (Af m))⟩
  rcases SI.mp m with q | q
  ·exact h1 q
  ·exact hk (So.mpr (SA (SY.mp q).symm))
end
end L2
namespace L2
open PySem PySem.Spec PyProof.Rows
section
variable {X:Cx}
theorem cR {pos:Pos}:PE X (.Dict [] [] pos) (λ_ H Q=>Nw H (.dK []) Q):=Gy.mono λ_ _ _ q=>q.el
theorem gI:xI X (.type "dict") (λxs H Q=>∃a kvs,xs=[.ref a]∧H a=some (.dK kvs)∧Nw H (.dK kvs) Q):=by
 intro pins s σ H xs us Q I r h
 obtain⟨a,kvs,rfl,e,q⟩:=h
 obtain⟨u,rfl,ru⟩:=vals1 r
 cases ru
 exact Yk I (.inl e) λp s' hp I'=>⟨.ref p,_,I',rfl,q.el p hp⟩
theorem Y0 (hu:X.A.units + 1 < cLine):aC X "dict.get" (λx vs H Q=>∃a kvs k z,x=.ref a∧vs=[kV k,z]∧H a=some (.dK kvs)∧Q ((xy kvs k).getD z) H):=by
 intro pins s σ H x vs v us Q I rx rv h
 obtain⟨a,kvs,k,z,rfl,rfl,e,q⟩:=h
 cases rx
 obtain⟨u,u',rfl,r1,r2⟩:=vals2 rv
 exact FW hu I (jS.k e) r1 r2 λw' s' I' rw'=>⟨_,H,I',rw',q⟩
theorem YA (hu:X.A.units + 1 < cLine):aC X "dict.get" (λx vs H Q=>∃a kvs k,x=.ref a∧vs=[kV k]∧H a=some (.dK kvs)∧Q ((xy kvs k).getD .non) H):=by
 intro pins s σ H x vs v us Q I rx rv h
 obtain⟨a,kvs,k,rfl,rfl,e,q⟩:=h
 cases rx
 obtain⟨u,rfl,r1⟩:=vals1 rv
 exact FV hu I (jS.k e) r1 λw' s' I' rw'=>⟨_,H,I',rw',q⟩
theorem jQ (hu:X.A.units + 1 < cLine):Ha X (λo i v H Q=>∃a kvs k,o=.ref a∧i=kV k∧H a=some (.dK kvs)∧kvs.length < S0∧Ch H a (.dK (putK kvs k v)) Q):=by
 intro pins s σ H o i v ov iv u Q I ro ri rv h
 obtain⟨a,kvs,k,rfl,rfl,e,l,q⟩:=h
 cases ro
 exact VQ hu I (Vr.k e l) ri rv λs' I'=>⟨_,I',q.el⟩
end
end L2
namespace L2
open PyProof.Rows PySem PySem.Spec
theorem Wi (v:Sr):checkTypeCall "set" ⟨[v],[]⟩=pure ():=by kernel_rfl
theorem GX (v:Sr):Oi "set.__new__" ⟨[.type "set",v],[]⟩=pure ():=by kernel_rfl
theorem Mx:isSubtype (.type "list") (.type "set")=pure false:=by rw[isSubtype_type];kernel_rfl
theorem Bl:isSubtype (.type "list") (.type "frozenset")=pure false:=by rw[isSubtype_type];kernel_rfl
theorem JY:entryFor table "set.update.loop" = some Builtin.«set.update.loop»:=entryFor_of_tree (by kernel_rfl)
section
variable {w:Tj} {A:TM} {E:Sr→Ss→Prop} {s:Ss} {prog:SM}
theorem Wo {v:Sr} {Q₁:Sr→Ss→Prop} (h:∀led:Bool,Q₁ (.ref s.heap.objs.size) { s with heap:=s.heap.push { cls:=.type "set",dict:=none,data:=.set #[] 0 (.fresh 0 0 led) } }):Og (S4 prog w) A (.call (.builtin "set.__new__") ⟨[.type "set",v],[]⟩) (wants Q₁ E) s:=by
 refine Az ?_
 show S6 _ A.in1 (do Oi "set.__new__" ⟨[.type "set",v],[]⟩;again (.builtin "set.__new__" ⟨[.type "set",v],[]⟩)) _ _ s
 refine SX (wpAny_of_eq (GX v) (Td ⟨plainId_quiet zzP _,IP F.entry_set_new ?_⟩))
 (rw[Around.under_plainId zzP _])
 have hsub:=sub_set_self
 (obtain⟨hp,g,d,tk,os⟩:=s)
 unfold Builtin.«set.__new__» zzL;dsimp only
 wp_walk
 refine wpAny_askSetting (Td ?_);dsimp only;simp only[newObj]
 exact SX (wpAny_alloc (Td (Td (h _))))
theorem XA {M:Model} {self v:Sr} {Q:Unit→Ss→Prop} (hT:s.TypeIs self "set") (hQ:Q () s):S6 M A (Oi "set.__init__" ⟨[self,v],[]⟩) Q E s:=by
 simp only[Oi,kind_set_init,split_set_init,sig_set_init];refine SX (zza hT sub_set_self ?_)
 simp only[Bool.not_true,AI,if_false];unfold Bind.checkArgs;dsimp only
 refine SX (m:=zqn "set" true _ _) (zz4 (by decide) (SX (m:=zqn "*" false _ _) (zz5 (self:=self) rfl hT λshort=>?_)))
 (have hrn:(EA == E1)=false:=by decide)
 rw[show (if (EA == E1)=true then [self,v].length else [self,v].length - 1)=1 by simp [hrn]]
 simp only[Nk]
 rw[show zq0 ⟨.positional,"set","*",.self,[⟨"iterable",.posOnly,false⟩]⟩ "set" short 1 []=pure () by (simp [zq0,Bind.checkCount,Bind.isPositional];intro z;exact absurd z (by decide))]
 exact Td hQ
end
def QG:List Str→List Str→Nat
 | _,[]=>0
 | seen,z :: r=>(if z∈seen then 0 else 1) + QG (z :: seen) r
section
variable {w:Tj} {A:TM} {E:Sr→Ss→Prop} {prog:SM}
theorem X0 {K:Type} [DecidableEq K] {knd:KeyKind prog w K} {h h':Heap} {a it:Addr} {S:K→Bool} {n:Nat} (x:IJ knd h a S n) (hb:Ip it h h') (hne:a≠it):IJ knd h' a S n:=by
 obtain⟨o,es,ep,t,ho,r⟩:=x
 exact⟨o,es,ep,t,(hb.2 a hne).trans ho,r⟩
theorem GK {K:Type} [DecidableEq K] {knd:KeyKind prog w K} {h:Heap} {a:Addr} {S S':K→Bool} {n:Nat} (x:IJ knd h a S n) (e:∀y,S' y=S y):IJ knd h a S' n:=by
 have:S'=S:=funext e
 rw[this];exact x
theorem GV {a it l:Addr} {items:Array Sr} (hh:A.handled=none) (hia:it≠a) (hli:l≠it) (hla:l≠a):∀(rest:List Str) (i:Nat) (s:Ss) (seen:List Str) (n:Nat) (R:Result→Ss→Prop),s.heap.IsListIter it l i→s.heap.IsList l items→items.size=i + rest.length→(∀(j:Nat) (z:Str),rest[j]?=some z→∃t,items[i + j]?=some (.str z t))→
  s.heap.SetOf (strKind prog w) a (λy=>decide (y∈seen)) n→n + rest.length < 1000→
  (∀h' tk S',(∀b o,b≠it→b≠a→s.heap.get? b=some o→h'.get? b=some o)→h'.SetOf (strKind prog w) a S' (n + QG seen rest)→R (.ok (.ret .none)) { s with heap:=h',toks:=tk })→
  Og (S4 prog w) A (.builtin "set.update.loop" ⟨[.ref a,.ref it],[]⟩) R s:=by
 intro rest
 induction rest with
 | nil=>
  intro i s seen n R h1 h2 h3 h4 h5 h6 k
  refine IP JY ?_
  show S6 _ _ (pyNext (.ref it) >>= _) _ _ s
  refine SX (Ax ?_ h1 h2 (by rw[Array.getElem?_eq_none_iff];simp at h3;omega) λh' hx=>?_)
  ·exact hh
  ·refine Td (k h' s.toks (λy=>decide (y∈seen)) (λb o hb _ e=>hx b o hb e) ?_)
   obtain⟨o,es,ep,t,ho,q⟩:=h5
   exact⟨o,es,ep,t,hx _ _ (TH hia) ho,q⟩
 | cons z r ih=>
  intro i s seen n R h1 h2 h3 h4 h5 h6 k
  obtain⟨t,ht⟩:=h4 0 z rfl
  refine IP JY ?_
  show S6 _ _ (pyNext (.ref it) >>= _) _ _ s
  refine SX (ER h1 h2 ht λh' hi' hb=>?_)
  dsimp only
  unfold setAdd
  refine SX (O8 (O8 (SX ((strKind prog w).pyHash (strKind_is prog w z t) ?_))))
  have h5':=X0 h5 hb (TH hia)
  have hl':h'.IsList l items:=by
   obtain⟨o,ho,q⟩:=h2
   exact⟨o,(hb.2 l hli).trans ho,q⟩
  refine wpAny_setAddHashed_of (s:={ s with heap:=h',toks:=s.toks + 1 }) (strKind_is prog w z t) rfl h5' (by simp only[Se] at h6;unfold scanBound;omega) λh2' hb2 h52=>?_
  refine Td ⟨Iy _ (by decide +kernel),?_⟩
  have hl2:h2'.IsList l items:=by
   obtain⟨o,ho,q⟩:=hl'
   exact⟨o,(hb2.2 l hla).trans ho,q⟩
  have hi2:h2'.IsListIter it l (i + 1):=by
   obtain⟨o,ho,q⟩:=hi'
   exact⟨o,(hb2.2 it hia).trans ho,q⟩
  have h53:h2'.SetOf (strKind prog w) a (λy=>decide (y∈z :: seen)) (n + if z∈seen then 0 else 1):=by
   have e:(if decide (z∈seen)=true then n else n + 1)=n + if z∈seen then 0 else 1:=by by_cases q:z∈seen<;>simp [q]
   rw[←e]
   exact GK h52 λy=>by by_cases q:y=z<;>by_cases q':y∈seen<;>simp [q,q']
  refine ih (i + 1) { s with heap:=h2',toks:=s.toks + 1 } (z :: seen) _ R hi2 hl2 (by simp only[Se] at h3;omega) (λj y hj=>?_) h53 ?_ λh3' tk S' q1 q2=>?_
  ·obtain⟨t',ht'⟩:=h4 (j + 1) y (by simpa using hj)
   exact⟨t',by rw[←ht'];congr 1;omega⟩
  ·simp only[Se] at h6
   split<;>omega
  ·refine k h3' tk S' (λb o b1 b2 e=>q1 b o b1 b2 ((hb2.2 b b2).trans ((hb.2 b b1).trans e))) ?_
   rw[show n + QG seen (z :: r)=n + (if z∈seen then 0 else 1) + QG (z :: seen) r by simp only[QG];omega]
   exact q2
set_option maxHeartbeats 1000001 in
theorem Wn {s:Ss} {a l:Addr} {led:Bool} {items:Array Sr} {zs:List Str} {Q:Fin→Ss→Prop} (hh:A.handled=none) (ha:s.heap.get? a=some { cls:=.type "set",dict:=none,data:=.set #[] 0 (.fresh 0 0 led) }) (hl:s.heap.IsList l items) (hz:items.size=zs.length) (hi:∀(j:Nat) (z:Str),zs[j]?=some z→∃t,items[j]?=some (.str z t)) (hn:zs.length < 1000) (hla:l≠a)
  (h:∀h' tk S',(∀b o,b≠a→s.heap.get? b=some o→h'.get? b=some o)→h'.SetOf (strKind prog w) a S' (QG [] zs)→Q (.done (.ret .none)) { s with heap:=h',toks:=tk }):S6 (S4 prog w) A (Builtin.«set.__init__» ⟨[.ref a,.ref l],[]⟩) Q E s:=by
 have hT:AB s (.ref a) "set":=⟨_,ha,rfl⟩
 unfold Builtin.«set.__init__» noKeywords
 obtain⟨ol,hol,hcl,nl,hdl⟩:=id hl
 have hTl:AB s (.ref l) "list":=⟨ol,hol,hcl⟩
 wp_walk
 refine wpAny_of_eq Mx (zza hTl Bl ?_)
 (rw[if_neg S7])
 refine SX (wpAny_typeOf hTl ?_)
 rw[if_neg (by decide)]
 refine SX (Er hl ?_)
 generalize hoi:({ cls:=.type "list_iterator",data:=.fields #[.ref l,.int 0 0] }:Obj)=oi
 show S6 _ _ (runValue (.builtin "set.update.loop" ⟨[.ref a,.ref s.heap.objs.size],[]⟩) >>= _) _ _ { s with heap:=s.heap.push oi }
 have sa:a < s.heap.objs.size:=SO ha
 have sl:l < s.heap.objs.size:=SO hol
 have k0:∀b o,s.heap.get? b=some o→(s.heap.push oi).get? b=some o:=λb o e=>SQ _ e
 refine SX (wpAny_runValue (GV hh (O0 sa) (Ti sl) hla zs 0 { s with heap:=s.heap.push oi } [] 0 _ ?_ ⟨ol,k0 _ _ hol,hcl,nl,hdl⟩ (by omega) (λj z e=>by simpa using hi j z e) ⟨_,#[],0,_,k0 _ _ ha,⟨rfl,rfl,rfl⟩,rfl,λe he=>by simp at he,λy=>by simp,by unfold scanBound;simp,rfl,rfl⟩ (by omega) λh' tk S' q1 q2=>?_))
 ·exact⟨oi,To _ (by rw[←hoi];rfl),by rw[←hoi],by rw[←hoi];rfl⟩
 ·refine Td (Td (h h' tk S' (λb o hb e=>q1 b o (Ti (SO e)) hb (k0 b o e)) ?_))
  rw[E2] at q2;exact q2
set_option maxHeartbeats 1000001 in
theorem Vo {s:Ss} {l:Addr} {items:Array Sr} {zs:List Str} {Q:Sr→Ss→Prop} (hh:A.handled=none) (hl:s.heap.IsList l items) (hz:items.size=zs.length) (hi:∀(j:Nat) (z:Str),zs[j]?=some z→∃t,items[j]?=some (.str z t)) (hn:zs.length < 1000)
  (h:∀h' tk a S',s.heap.objs.size≤a→(∀b o,s.heap.get? b=some o→h'.get? b=some o)→h'.SetOf (strKind prog w) a S' (QG [] zs)→Q (.ref a) { s with heap:=h',toks:=tk }):S6 (S4 prog w) A (call (.type "set") [.ref l]) Q E s:=by
 (obtain⟨c,tl,hmro⟩:=OK.mro)
 have hmade:=OK.made;have hsub:=OK.sub
 (refine ES (Az ?_))
 show S6 _ _ (callAny (.type "set") _) _ _ _;refine Td ⟨Iy _ (by decide +kernel),IP F.entry_type_call ?_⟩
 (rw[Around.under_plain (weight_type_call_type "set" [.ref l] []) rfl])
 have h1:=OK.notType;have h2:=OK.canCreate
 have hct:=Wi (.ref l)
 (repeat (any_goals (first | assumption | wp_step)))
 refine OQ (Wo (v:=.ref l) (E:=E) (Q₁:=λobj s₁=>∃led:Bool,obj=.ref s.heap.objs.size∧s₁={ s with heap:=s.heap.push { cls:=.type "set",dict:=none,data:=.set #[] 0 (.fresh 0 0 led) } }) λled=>⟨led,rfl,rfl⟩) λr s₁ hr=>?_
 cases r with
 | error e=>exact hr
 | ok fl=>
  cases fl with
  | ret obj=>
   obtain⟨led,rfl,rfl⟩:=hr
   (have hS:(s.heap.push { cls:=.type "set",dict:=none,data:=.set #[] 0 (.fresh 0 0 led) }).get? s.heap.objs.size=some { cls:=.type "set",dict:=none,data:=.set #[] 0 (.fresh 0 0 led) }:=To _ rfl)
   (have hT:AB { s with heap:=s.heap.push { cls:=.type "set",dict:=none,data:=.set #[] 0 (.fresh 0 0 led) } } (.ref s.heap.objs.size) "set":=⟨_,hS,rfl⟩)
   have hli:=OK.init.lookup;have hbi:=OK.init.bind (.ref s.heap.objs.size)
   (repeat (any_goals (first | assumption | wp_step)))
   refine OQ (Au (R:=wants (λr s₂=>r=.none∧Q (.ref s.heap.objs.size) s₂) E) OK.init.plain F.entry_set_init (XA hT ?_)) λr₂ s₂ hr₂=>?_
   ·refine Wn (A:=A.in1.in1) hh hS (by obtain⟨ol,hol,q⟩:=hl;exact⟨ol,SQ _ hol,q⟩) hz hi hn (by obtain⟨ol,hol,q⟩:=hl;exact Ti (SO hol)) λh' tk S' q1 q2=>⟨rfl,?_⟩
    exact h h' tk _ S' (SD _) (λb o e=>q1 b o (Ti (SO e)) (SQ _ e)) q2
   ·cases r₂ with
    | error e=>exact hr₂
    | ok fl₂=>
     cases fl₂ with
     | ret r=>obtain⟨rfl,hq⟩:=hr₂;(repeat (any_goals (first | assumption | wp_step)))
     | _=>exact hr₂.elim
  | _=>exact hr.elim
end
end L2
namespace L2
open PyProof.Rows PySem PySem.Spec
def De (P:SM) (w:Tj) (a:Addr) (n:Nat):HO:=.ext λh=>∃S,IJ (strKind P w) h a S n
theorem ME {P:SM} {w:Tj} {H:Hp} {h:Heap} {a:Addr} {S:Str→Bool} {n:Nat} (x:IJ (strKind P w) h a S n):qY P w H h a (De P w a n):=by
 have x':=x
 obtain⟨o,es,ep,t,ho,r⟩:=x'
 refine⟨⟨S,x⟩,⟨o,ho⟩,λh1 h2 ⟨S',o',es',ep',t',ho',r'⟩ k=>⟨S',o',es',ep',t',k _ ho',r'⟩⟩
theorem MI {P:SM} {w:Tj} {H:Hp} {h:Heap} {a:Addr} {n:Nat} (x:bU P w H h) (q:H a=some (De P w a n)):∃S,IJ (strKind P w) h a S n:=(x a _ q).1
section
variable {X:Cx} {K:Sd}
theorem Bc (hK:X.K=K) (hc:X.calm=true):xI X (.type "set") (λxs H Q=>∃p zs,xs=[.ref p]∧zK K H p (zs.map V.str)∧zs.length < 1000∧∀a,H a=none→Q (.ref a) (upd H a (De X.prog X.w a (QG [] zs)))):=by
 subst hK
 (intro pins s σ H xs us Q I r h)
 obtain⟨p,zs,rfl,hl,hn,k⟩:=h
 (obtain⟨u,rfl,ru⟩:=vals1 r)
 cases ru
 obtain⟨its,rv,⟨o,n,ho,hcl,_,hd⟩,_⟩:=I.list hl
 have hz:its.length=zs.length:=by rw[←rv.length,Su]
 refine Vo (zs:=zs) (I.ok.hd hc) ⟨o,ho,hcl,n,hd⟩ (by simpa using hz) (λj z e=>?_) hn λh' tk a S' q1 q2 q3=>?_
 ·obtain⟨u,e1,⟨t,rfl⟩⟩:=rv.get (i:=j) (x:=.str z) (by rw[SW,e];rfl)
  exact⟨t,by simpa using e1⟩
 ·exact⟨.ref a,_,I.laid (a:=a) (o:=De X.prog X.w a (QG [] zs)) (h':=h') (t':=tk) q2 q1 (ME q3),rfl,k a (I.z8.fresh q1)⟩
theorem Vn:xI X (.builtin "len") (λxs H Q=>∃a n,xs=[V.ref a]∧H a=some (De X.prog X.w a n)∧Q (.int (n:Nat)) H):=by
 (intro pins s σ H xs us Q I r h)
 obtain⟨a,n,rfl,ha,q⟩:=h
 (obtain⟨u,rfl,ru⟩:=vals1 r)
 cases ru
 obtain⟨S,o,es,ep,t,ho,hex,hd,_,_,hb,hf,hn⟩:=MI I.z8 ha
 refine call_len_set ho hex hd hf (by have:es.size < 4096:=hb;omega) ?_
 rw[hn]
 exact⟨.int n,H,I.tok _,⟨_,rfl⟩,q⟩
end
end L2
namespace L2
theorem Yv:∀(seen zs:List zqr),QG seen zs≤zs.length
 | _,[]=>SD _
 | seen,z :: r=>by
  have:=Yv (z :: seen) r
  simp only[QG,Se]
  split<;>omega
theorem Kt:∀(seen zs:List zqr),QG seen zs=zs.length↔zs.Nodup∧∀z∈zs,z∉seen
 | _,[]=>by simp [QG]
 | seen,z :: r=>by
  have h1:=Yv (z :: seen) r
  have h2:=Kt (z :: seen) r
  simp only[QG,Se,Tg,So]
  by_cases q:z∈seen
  ·rw[if_pos q]
   constructor
   ·intro e;omega
   ·rintro ⟨_,h⟩;exact absurd q (h z (.inl rfl))
  ·rw[if_neg q]
   constructor
   ·intro e
    obtain⟨a,b⟩:=h2.mp (by omega)
    refine⟨⟨λhz=>(b z hz) (by simp),a⟩,?_⟩
    rintro y (rfl | hy)
    ·exact q
    ·exact λhs=>b y hy (SV _ hs)
   ·rintro ⟨⟨a,b⟩,c⟩
    have:=h2.mpr ⟨b,λy hy hs=>?_⟩
    ·omega
    ·rcases So.mp hs with rfl | hs
     ·exact a hy
     ·exact c y (.inr hy) hs
theorem FY (zs:List zqr):decide (((QG [] zs:Nat):Int)=(zs.length:Nat))=decide zs.Nodup:=by
 have:=Kt [] zs
 rw[decide_eq_decide]
 constructor
 ·intro e;exact(this.mp (by omega)).1
 ·intro e;have:=this.mpr ⟨e,λ_ _ h=>by cases h⟩;omega
end L2
namespace L2
open PySem PySem.Spec PyProof.Rows
def RD {α:Type} (xs:List α) (ix:List Nat):List α:=ix.filterMap (xs[·]?)
section
variable {X:Cx} {e ec:Expr} {te:TE} {lo hi:Option Expr} {tl th ts:TO} {pos p2:Pos}
def LG (K:Sd):V→Option Int→Option Int→Option Int→Hp→VK→Prop:=λx lo hi st H Q=>∃a xs,x=.ref a∧zK K H a xs∧st≠some 0∧∀zs:List V,(∀z∈zs,z∈xs)→zs.length≤xs.length→Nw H (.lst zs) Q
def L3 (r:V→Option Int→Option Int→Option Int→Hp→VK→Prop) (te:TE) (tl th ts:TO):TE:=λσ H Q=>te σ H λx H1=>tl σ H1 λl H2=>th σ H2 λu H3=>ts σ H3 λc H4=>r x l u c H4 Q
def UE (K:Sd):V→List V→Hp→VK→Prop:=λx vs H Q=>∃z p ys,x=.str z∧vs=[.ref p]∧jo K H p (ys.map V.str)∧(ys.map (·.length)).sum + ys.length * z.length≤16777216∧Q (.str (Ni z ys)) H
end
end L2
namespace L2
open PyProof.Rows PySem PySem.Spec
def RH (bt:Nat→Nat→Bool):Nat→Nat→Option Nat→Option Nat
 | 0,_,b=>b
 | k + 1,i,none=>RH bt k (i + 1) (some i)
 | k + 1,i,some j=>RH bt k (i + 1) (some (if bt i j=true then i else j))
def Us (P:Nat→Sr→Prop) (its:Array Sr):Option Nat→Prop
 | none=>its = #[]
 | some j=>∃v,its = #[v,v]∧P j v
def Lp (P:Nat→Sr→Prop) (d v:Sr):Option Nat→Prop
 | none=>v=d
 | some j=>P j v
def RW (its:Array Sr) (c:Nat):Obj:={ cls:=.type "list",dict:=none,data:=.seq its c,slots:=#[] }
section
variable {prog:SM} {w:Tj} {A:TM} {R:Result→Ss→Prop} {I S:Addr} {fp wr:List Addr} {n:Nat} {P:Nat→Sr→Prop} {St:Nat→Heap→Prop} {d:Sr}
end
section
variable {w:Tj} {A:TM} {E:Sr→Ss→Prop} {s:Ss} {prog:SM}
end
def CJ (K:Sd) (d:V):V→Hp→VK→Prop:=λx H Q=>∃l ns,x=.ref l∧zK K H l (ns.map V.int)∧(ns=[]→Q d H)∧∀M:Int,M∈ns→(∀a∈ns,a≤M)→Q (.int M) H
def R7 (K:Sd) (te tk:TE):TE:=λσ H Q=>te σ H λx H1=>tk σ H1 λd H2=>CJ K d x H2 Q
section
variable {X:Cx} {e ek:Expr} {te tk:TE} {p pos kp:Pos}
end
end L2
namespace L2
open PyProof.Rows PySem PySem.Spec
def R5 (D0:Ends) (M:St→Hp→Prop):TS:=λD σ H=>D=D0∧M σ H
end L2
namespace L2
open PyProof.Rows PySem PySem.Spec
section
variable {pins:List (Addr × Obj)} {σ:St} {H:Hp} {s:Ss} {X:Cx}
def pX (H:Hp) (d:Addr):Hp:=λb=>if b=d then none else H b
theorem cX {H:Hp} {d b:Addr} (h:b≠d):pX H d b=H b:=if_neg h
theorem dv {H:Hp} {d:Addr}:pX H d d=none:=if_pos rfl
theorem J0 {H H0:Hp} {d:Addr} (h:zp H0 H) (n:H0 d=none):zp H0 (pX H d):=λb o e=>by
 rw[cX (zh e n)]
 exact h b o e
theorem Inv.forget {d:Addr} {kvs:List (Key × V)} (I:Inv X pins σ H s) (e:H d=some (.dK kvs)):Inv X pins σ (pX H d) s:=by
 have nn:∀b,H b=none→pX H d b=none:=λb n=>by
  unfold pX
  split
  ·rfl
  ·exact n
 have ss:∀b o,H b=some o→(∀kvs,o≠.dK kvs)→pX H d b=some o:=λb o q h=>by
  rw[cX λz=>by rw[z,e] at q;exact h kvs (Tq q).symm]
  exact q
 refine⟨I.ok,I.os,I.bare,⟨I.base.keep,I.base.slot,λb o q n hx=>nn b (I.base.free b o q n hx),I.base.there,λb xs q=>ss b _ (I.base.iY b xs q) (λ_ z=>by cases z),λb o u q=>ss b _ (I.base.uE b o u q) (λ_ z=>by cases z),λb ps q=>?_⟩,I.loc,I.cell,nn _ I.free,λx c q=>nn c (I.yt x c q),λp hp=>?_,λb u q=>?_,I.len⟩
 ·obtain⟨more,q⟩:=I.base.iW b ps q
  exact⟨more,ss b _ q (λ_ z=>by cases z)⟩
 ·obtain⟨a1,a2,a3⟩:=I.pin p hp
  exact⟨a1,nn _ a2,a3⟩
 ·have hb:b≠d:=λz=>by rw[z,dv] at q;cases q
  rw[cX hb] at q
  exact(I.z8 b u q).eZ (λ_ _ _ q=>q) (λc q=>ss c _ q (λ_ z=>by cases z)) (λc xs q=>ss c _ q (λ_ z=>by cases z))
theorem KL {P:SM} {w:Tj} {k:Key} {u:Sr} (h:(qN P w).is k u=true):RelV (kV k) u:=by
 rcases qE (show nP k u=true from h) with ⟨i,t,rfl,rfl⟩ | ⟨x,t,rfl,rfl⟩
 ·exact⟨t,rfl⟩
 ·exact⟨t,rfl⟩
theorem Inv.Pu {a:Addr} {o:HO} (I:Inv X pins σ H s) (e:H a=some o):a∉X.fs:=λhb=>by
 obtain⟨_,o',ho,_⟩:=I.ok.u7.mem hb
 rw[I.base.free a o' ho (I.ok.Pk a hb) λz=>I.ok.J5 a z hb] at e
 cases e
def C0 (td:TE) (g:TG) (tb:TS):TS:=λD σ H=>td σ H λx H1=>∃a kvs,x=.ref a∧H1 a=some (.dK kvs)∧∃Pv:Nat→St→Hp→Prop,Pv 0 σ (pX H1 a)∧
 (∀i k v σ H,kvs[i]?=some (k,v)→Pv i σ H→g (kV k) σ H λσ2 H2=>tb { D with nx:=Pv (i + 1),ct:=Pv (i + 1),bk:=D.nx } σ2 H2)∧∀σ H,Pv kvs.length σ H→D.nx σ H
theorem BX {tg iter:Expr} {body:List Stmt} {td:TE} {g:TG} {tb:TS} {pos:Pos} (hp:PassesOwn (S4 X.prog X.w) X.A X.env X.xe) (hc:X.calm=true) (hi:PE X iter td) (hg:PG X tg g) (hb:JO X body tb)
  (hs:∀x,Oy iter X.env x=pure x:=by intro _;rfl):PS X (.For tg iter body [] pos) (C0 td g tb):=by
 intro pins s σ H D I h
 refine wpAny_For (qW (hi pins s σ H _ I h) λv s1 ⟨x,H1,I1,r1,a,kvs,ex,ea,Pv,p0,hstep,hend⟩=>?_) hs
 subst ex
 obtain rfl:v=Tf a:=r1
 obtain⟨hz,hd,vs,rel,dd⟩:=Ka I1.z8 ea
 obtain⟨ep,da⟩:=dd.dictAt
 obtain⟨od,es,hod,hcd,hdd,hk,hpp,hn⟩:=id da
 have hl:vs.length=kvs.length:=rel.length.symm
 refine zzy hd da ?_
 have I2:=I1.kept (t':=s1.toks) (h':=s1.heap.push { cls:=.type "dict_keyiterator",data:=.fields #[.ref a,.int 0 0,.int vs.length 0,.int ep 0] }) λb o e=>SQ _ e
 have hne:a≠X.env.locals:=λz=>by rw[z,I1.free] at ea;cases ea
 have I3:Inv X (pins ++ [(a,od)]) σ (pX H1 a) _:=(I2.forget ea).fM λp hp=>(SI.mp hp).elim (λz=>(I2.forget ea).pin p (SU _ z)) λz=>by
  obtain rfl:=SY.mp z
  exact⟨SQ _ hod,dv,hne,I1.Pu ea,λv z=>by rw[hdd] at z;cases z⟩
 have I1':Inv X (pins ++ [(a,od)]) σ (pX H1 a) s1:=(I1.forget ea).fM λp hp=>(SI.mp hp).elim (λz=>(I1.forget ea).pin p (SU _ z)) λz=>by
  obtain rfl:=SY.mp z
  exact⟨hod,dv,hne,I1.Pu ea,λv z=>by rw[hdd] at z;cases z⟩
 have f0:wt X (pins ++ [(a,od)]) (pX H1 a) s1.heap.objs.size:=I1'.Zf (SD _) (I1'.z8.fresh (SD _))
 have hat:∀{σ':St} {H':Hp} {s':Ss},Inv X (pins ++ [(a,od)]) σ' H' s'→s'.heap.DictAt (qN X.prog X.w) a vs ep:=λJ=>⟨od,es,(J.pin (a,od) (SU _ (SU _ (SY.mpr rfl)))).1,hcd,hdd,hk,hpp,hn⟩
 have hit0:(s1.heap.push { cls:=.type "dict_keyiterator",data:=.fields #[.ref a,.int 0 0,.int vs.length 0,.int ep 0] }).IsKeyIter s1.heap.objs.size a 0 vs.length ep:=⟨_,To _ rfl,rfl,rfl⟩
 generalize s1.heap.objs.size=it at f0 hit0
 have un:∀{pl:List (Addr × Obj)} {σ':St} {H':Hp} {s':Ss},Inv X (pins ++ pl) σ' H' s'→Inv X pins σ' H' s':=λJ=>J.je
 refine AV (λn s'=>∃i σ' H',Inv X (pins ++ [(a,od)]) σ' H' s'∧s'.heap.IsKeyIter it a i vs.length ep∧H' it=none∧n=kvs.length - i∧i≤kvs.length∧Pv i σ' H') ?_ kvs.length ⟨0,σ,_,I3,hit0,f0.1,rfl,Tr _,p0⟩
 rintro n s3 ⟨i,σ3,H3,J,st,fr,rfl,hi3,p3⟩
 have F:wt X (pins ++ [(a,od)]) H3 it:=⟨fr,f0.2⟩
 obtain⟨g0,g1,g2,g3,g4,g5⟩:=F
 by_cases hlt:i < kvs.length
 ·have hx:vs[i]?=some vs[i]:=Sn (by omega)
  have hkx:kvs[i]?=some kvs[i]:=Sn hlt
  have hkey:kvs[i].1=vs[i].1:=by
   have e:=congrArg (λl=>l[i]?) rel.keys
   simp only[SW,hx,hkx,Ng] at e
   exact Tq e
  refine NX hp (E3 (k:=vs[i].1) (v:=vs[i].2) st (hat J) hx λkey h' hkk hit' sb=>?_)
  have J1:Inv X (pins ++ [(a,od)]) σ3 H3 { s3 with heap:=h' }:=J.turned (t':=s3.toks) (λb o hb e=>(sb.2 b hb).trans e) g0 g1 g3 g4 g5
  obtain⟨oi,e,c,d⟩:=id hit'
  refine NX hp (eO (s:={ s3 with heap:=h' }) e c d (by decide) ?_)
  have J2:=J1.pinned (fp:=[it]) (λb hb=>by obtain rfl:=SY.mp hb;exact⟨g0,g1,g2,g3,g4,g5⟩) (λb hb=>by obtain rfl:=SY.mp hb;exact⟨oi,e,λv z=>by rw[d] at z;cases z⟩)
  have hR:RelV (kV kvs[i].1) key:=by rw[hkey];exact KL hkk
  have hmem:(it,oi)∈dU [it] h':=xQ (SY.mpr rfl) e
  refine NX hp (qW (hg _ { s3 with heap:=h' } σ3 H3 (kV kvs[i].1) key _ J2 hR (hstep i _ kvs[i].2 σ3 H3 hkx p3)) λ_ s6 ⟨σ6,H6,I6,q6⟩=>?_)
  (refine NX hp (qW (hb _ s6 σ6 H6 _ I6 q6) λf s7 q7=>?_))
  have again:∀{σ7:St} {H7:Hp},Inv X ((pins ++ [(a,od)]) ++ dU [it] h') σ7 H7 s7→Pv (i + 1) σ7 H7→∃m,m < kvs.length - i∧∃i σ' H',Inv X (pins ++ [(a,od)]) σ' H' s7∧s7.heap.IsKeyIter it a i vs.length ep∧H' it=none∧m=kvs.length - i∧i≤kvs.length∧Pv i σ' H':=λ{σ7 H7} J7 n7=>by
   have hpin:=J7.pin (it,oi) (SU _ (SU _ hmem))
   exact⟨kvs.length - (i + 1),by omega,i + 1,σ7,H7,J7.je,⟨oi,hpin.1,c,d⟩,hpin.2.1,rfl,hlt,n7⟩
  cases f with
  | next=>exact(let ⟨_,_,J7,m7⟩:=q7;again J7 m7)
  | cont=>exact(let ⟨_,_,J7,m7⟩:=q7;again J7 m7)
  | brk=>obtain⟨σ7,H7,I7,q7⟩:=q7;exact⟨σ7,H7,un I7.je,q7⟩
  | ret v=>obtain⟨x7,σ7,H7,I7,r7,q7⟩:=q7;exact⟨x7,σ7,H7,un I7.je,r7,q7⟩
 ·have e:i=kvs.length:=by omega
  subst e
  refine NX hp (Aw (I.ok.hd hc) st (hat J) (Ay (by omega)) λh' eb=>?_)
  exact IB ⟨σ3,H3,un (J.turned (t':=s3.toks) (λb o hb e=>eb b o hb e) g0 g1 g3 g4 g5),hend _ _ p3⟩
end
section
variable {X:Cx} {k:Nat} {m:Str} {pos apos:Pos} {e o:Expr} {es:List Expr} {ta:TE} {t:TA} {CX:sX} {E:XK}
theorem c7 {pl:Sem Bool} (hx:Passes CX X E) (hr:xj k X.A) (he:PE X o ta) (ha:PA X (e :: es) t) (hst:Tc (e :: es) X.env=(false,eval e X.env) :: Tc es X.env:=by rfl) (hpl:(backTo pos (Tc es X.env)).any (·.1)=false:=by rfl)
  (ht:eval (.Call (.Attribute o m apos) (e :: es) [] pos) X.env=(do let ov ←eval o X.env;standAt apos.atName;let (f,first) ←holding [ov] (IZ ov m pl);callWith pos f first (backTo pos (Tc (e :: es) X.env)) (ON pos (NS [] X.env))):=by rfl) :
  PE X (.Call (.Attribute o m apos) (e :: es) [] pos) (Kq X CX k m E ta t):=by
 intro pins s σ H Q I h
 refine N7 (pl:=pl) (qW (he pins s σ H _ I h) λu s1 ⟨x,H1,I1,rx,a,C,dx,fs,ex,ea,c,l,sp,M,q⟩=>?_) ht
 subst ex
 obtain⟨f,fd,ps,hm,F,hb⟩:=M.ex
 (obtain rfl:u=Tf a:=rx)
 refine gS I1 ea c hm l (N5 (first:=[.ref a]) (h₀:=X.base) I.ok.mod.WR hm.kp (qW (ha pos pins s1 σ H1 _ I1 q) λus s2 ⟨vs,H2,I2,r,q2⟩=>⟨I2.bD,?_⟩) hst hpl)
 exact oF (us:=.ref a :: us) (vs:=.ref a :: vs) F hr hb .nil hx I2 (.cons rfl r) (by rw[Tt];exact q2)
def M8 (P:SM) (w:Tj) (K:Sd) (mg:Str→Option Sr) (base:Heap) (CX:sX) (k:Nat) (m:Str) (E:XK) (ta:TE) (t:TA):TE:=λσ H Q=>ta σ H λx H1=>∃a C dx fs,x=.ref a∧H1 a=some (.ins C dx fs)∧uK K C∧fs.lookup m=none∧∃sp,qg P w K mg base CX k C m sp∧t σ H1 λvs H2=>sp (x :: vs) H2 Q E
theorem Gh {P:SM} {w:Tj} {K:Sd} {mg:Str→Option Sr} {base:Heap} {pl:Sem Bool} (hP:X.prog=P) (hw:X.w=w) (hK:X.K=K) (hmg:X.mg=mg) (hbs:X.base=base) (hr:xj k X.A) (he:PE X o ta) (ha:PA X (e :: es) t) (hst:Tc (e :: es) X.env=(false,eval e X.env) :: Tc es X.env:=by rfl) (hpl:(backTo pos (Tc es X.env)).any (·.1)=false:=by rfl)
  (ht:eval (.Call (.Attribute o m apos) (e :: es) [] pos) X.env=(do let ov ←eval o X.env;standAt apos.atName;let (f,first) ←holding [ov] (IZ ov m pl);callWith pos f first (backTo pos (Tc (e :: es) X.env)) (ON pos (NS [] X.env))):=by rfl) :
  PE X (.Call (.Attribute o m apos) (e :: es) [] pos) (M8 P w K mg base zC k m E0 ta t):=by
 subst hP hw hK hmg hbs
 exact qU hr he ha hst hpl ht
def Rl (tx te:TE):TE:=λσ H Q=>tx σ H λx H0=>te σ H0 λy H1=>Nw H1 (.tup [x,y]) Q
end
section
variable {X:Cx} {pins:List (Addr × Obj)} {σ:St} {H:Hp} {s:Ss} {a C:Addr} {d:Option Addr} {Eh:XK}
def endsAt (D:Ends) (i:Nat):Ends:={ nx:=λσ H=>D.nx (σ.set i none) H,rt:=D.rt,bk:=λσ H=>D.bk (σ.set i none) H,ct:=λσ H=>D.ct (σ.set i none) H }
def Lx (K:Sd) (Eh:XK) (P1 P2:Addr) (j i:Nat) (te:TE) (th1 th2:Addr→TS):TS:=λD σ H=>(te σ H λv H1=>zT j v σ H1 λσ' H'=>D.nx σ' H')∧∀C a H',Eh (.ref C) (some a) H'→(Eb K (.ref C) (.ref P1)=some true∧
 th1 a (endsAt D i) (σ.set i (some (.ref a))) H')∨(Eb K (.ref C) (.ref P1)=some false∧Eb K (.ref C) (.ref P2)=some true∧th2 a (endsAt D i) (σ.set i (some (.ref a))) H')
end
end L2
namespace L2
open PyProof.Rows PySem PySem.Spec
section
variable {pins:List (Addr × Obj)} {σ:St} {H:Hp} {s:Ss} {X:Cx}
theorem Inv.swap {a:Addr} {u v:HO} (I:Inv X pins σ H s) (e:H a=some u) (hv:qY X.prog X.w (upd H a v) s.heap a v) (h1:∀xs,u≠.tup xs) (h2:∀y,u≠.own y) (h3:∀ps,u≠.tbl ps) (h4:∀o x,X.H₀ a≠some (.frz o x)):Inv X pins σ (upd H a v) s:=by
 have kp:∀b o,H b=some o→o≠u→upd H a v b=some o:=λb o q hne=>by
  rw[zG λz=>hne (by rw[z,e] at q;exact(Tq q).symm)]
  exact q
 have nn:∀b,H b=none→upd H a v b=none:=λb q=>by
  rw[zG λz=>by rw[z,e] at q;cases q]
  exact q
 refine⟨I.ok,I.os,I.bare,⟨I.base.keep,I.base.slot,λb o q n hx=>nn b (I.base.free b o q n hx),I.base.there,λb xs q=>kp b _ (I.base.iY b xs q) (λz=>h1 xs z.symm),λb o x q=>?_,λb ps q=>?_⟩,I.loc,I.cell,nn _ I.free,λx c q=>nn c (I.yt x c q),λp hp=>?_,λb o q=>?_,I.len⟩
 ·have hb:b≠a:=λz=>h4 o x (by rw[←z];exact q)
  rw[zG hb]
  exact I.base.uE b o x q
 ·obtain⟨more,z⟩:=I.base.iW b ps q
  exact⟨more,kp b _ z λy=>h3 _ y.symm⟩
 ·obtain⟨a1,a2,a3⟩:=I.pin p hp
  exact⟨a1,nn _ a2,a3⟩
 ·by_cases hb:b=a
  ·subst hb
   rw[zm] at q
   cases q
   exact hv
  ·rw[zG hb] at q
   exact(I.z8 b o q).eZ (λ_ _ _ q=>q) (λc q=>kp c _ q λz=>h2 _ z.symm) (λc xs q=>kp c _ q λz=>h1 _ z.symm)
theorem Inv.freeze {a:Addr} {kvs:List (Key × V)} (I:Inv X pins σ H s) (e:H a=some (.dK kvs)):∃od,s.heap.get? a=some od∧Inv X pins σ (upd H a (.frz od (.dK kvs))) s:=by
 obtain⟨hz,hd,vs,rel,dd⟩:=Ka I.z8 e
 obtain⟨od,es,ep,hod,r⟩:=id dd
 refine⟨od,hod,I.swap e ⟨hod,hz,hd,vs,rel,dd⟩ (λ_ z=>by cases z) (λ_ z=>by cases z) (λ_ z=>by cases z) λo x z=>?_⟩
 have:=I.base.uE a o x z
 rw[e] at this
 cases this
theorem Inv.Ro {a:Addr} {od:Obj} {kvs:List (Key × V)} (I:Inv X pins σ H s) (e:H a=some (.frz od (.dK kvs))) (h4:∀o x,X.H₀ a≠some (.frz o x)):Inv X pins σ (upd H a (.dK kvs)) s:=
 I.swap e (I.z8 a _ e).2 (λ_ z=>by cases z) (λ_ z=>by cases z) (λ_ z=>by cases z) h4
def Ut (a:Addr) (od:Obj) (kvs:List (Key × V)):It:=⟨λi H=>H a=some (.frz od (.dK kvs))∧i < kvs.length,λi H x H'=>H'=H∧∃kv,kvs[i]?=some kv∧x=kV kv.1,λi H=>H a=some (.frz od (.dK kvs))∧kvs.length≤i⟩
theorem WW {P:SM} {w:Tj} {K:Sd} {tg:Expr} (a it:Addr) (od:Obj) (kvs:List (Key × V)) (es:Array DictEntry) (ep:Nat) (hdd:od.data=.dict es ep):Turn P w K tg (Ut a od kvs) [it] it (λi h=>h.IsKeyIter it a i kvs.length ep) where
 mem:=by simp
 obj:=λi h st b hb=>by
  obtain rfl:b=it:=by simpa using hb
  obtain⟨o,e,c,d⟩:=st
  (exact⟨o,e,λv z=>by rw[d] at z;cases z⟩)
 keep:=λ_ _ _ st kk=>st.at λo q=>kk it (by simp) o q
 item:=by
  (intro X hP hw hK hc i pins s σ H E I hf st hg)
  subst hP hw hK
  obtain⟨ea,hlt⟩:=hg
  obtain⟨hod,hz,hd,vs,rel,dd⟩:=(show qY X.prog X.w H s.heap a (.frz od (.dK kvs)) from I.z8 a _ ea)
  obtain⟨od',es',ep',hod',r1,r2,r3,r4,r5⟩:=id dd
  rw[hod] at hod'
  cases hod'
  rw[hdd] at r2
  cases r2
  have hl:vs.length=kvs.length:=rel.length.symm
  have hx:vs[i]?=some vs[i]:=Sn (by omega)
  have hkx:kvs[i]?=some kvs[i]:=Sn hlt
  have hkey:kvs[i].1=vs[i].1:=by
   have e:=congrArg (λl=>l[i]?) rel.keys
   simp only[SW,hx,hkx,Ng] at e
   exact Tq e
  (obtain⟨f0,f1,f2,f3,f4,f5⟩:=hf it (by simp))
  rw[←hl] at st
  refine E3 (k:=vs[i].1) (v:=vs[i].2) st ⟨od,es,hod,r1,hdd,r3,r4,r5⟩ hx λkey h' hkk st' sb=>?_
  (have I1:Inv X pins σ H { s with heap:=h' }:=I.turned (t':=s.toks) (λb o hb e=>(sb.2 b hb).trans e) f0 f1 f3 f4 f5)
  obtain⟨o,e,c,d⟩:=id st'
  rw[hl] at st'
  exact⟨key,rfl,eO (s:={ s with heap:=h' }) e c d (by decide) ⟨kV kvs[i].1,H,I1,by rw[hkey];exact KL hkk,⟨rfl,_,hkx,rfl⟩,st',λb hb=>(hf b hb).1⟩⟩
 done:=by
  (intro X hP hw hK hc i pins s σ H E I hf st hg)
  subst hP hw hK
  obtain⟨ea,hle⟩:=hg
  obtain⟨hod,hz,hd,vs,rel,dd⟩:=(show qY X.prog X.w H s.heap a (.frz od (.dK kvs)) from I.z8 a _ ea)
  obtain⟨od',es',ep',hod',r1,r2,r3,r4,r5⟩:=id dd
  rw[hod] at hod'
  cases hod'
  rw[hdd] at r2
  cases r2
  have hl:vs.length=kvs.length:=rel.length.symm
  (obtain⟨f0,f1,f2,f3,f4,f5⟩:=hf it (by simp))
  rw[←hl] at st
  exact Aw (I.ok.hd hc) st ⟨od,es,hod,r1,hdd,r3,r4,r5⟩ (Ay (by omega)) λh' eb=>⟨rfl,I.turned (t':=s.toks) (λb o hb e=>eb b o hb e) f0 f1 f3 f4 f5⟩
 self:=λ_ _ _ _ _ st h=>wpAny_pyIter_keyiter st h
def DA (td:TE):TI:=λσ H R=>td σ H λx H1=>∃a kvs,x=.ref a∧H1 a=some (.dK kvs)∧∀od,R (Ut a od kvs) (upd H1 a (.frz od (.dK kvs)))
theorem BQ {tg l:Expr} {td:TE} (hl:PE X l td):PI X tg l (DA td):=by
 intro pins s σ H R I h
 (refine qW (hl pins s σ H _ I h) λv s1 ⟨x,H1,I1,r1,q1⟩=>?_)
 obtain⟨a,kvs,rfl,ea,q⟩:=q1
 cases r1
 obtain⟨od,hod,IF⟩:=I1.freeze ea
 obtain⟨hz,hd,vs,rel,dd⟩:=Ka I1.z8 ea
 obtain⟨ep,da⟩:=dd.dictAt
 obtain⟨od',es,hod',r1,r2,r3⟩:=id da
 rw[hod] at hod'
 cases hod'
 have hl:vs.length=kvs.length:=rel.length.symm
 refine zzy hd da ?_
 refine⟨s1.heap.objs.size,[s1.heap.objs.size],_,_,_,rfl,IF.kept (t':=s1.toks) λb o e=>SQ _ e,WW a _ od kvs es ep r2,⟨_,To _ rfl,rfl,by rw[←hl];rfl⟩,λb hb=>?_,q od⟩
 obtain rfl:b=s1.heap.objs.size:=by simpa using hb
 exact IF.Zf (SD _) (IF.z8.fresh (SD _))
theorem Ws {a:Addr} {od:Obj} {kvs:List (Key × V)} {H:Hp} (h:H a=some (.frz od (.dK kvs))):Qo (Ut a od kvs) H (kvs.map λkv=>kV kv.1):=λi H' s=>by
 rw[Su]
 refine⟨λhi=>⟨s _ _ h,hi⟩,λy H3 q=>⟨q.1,λ_=>?_⟩,λe=>⟨s _ _ h,IS e.symm⟩⟩
 obtain⟨_,kv,hkv,rfl⟩:=q
 rw[SW,hkv]
 rfl
def C6 (H0:Hp) (t:TS):TS:=λD σ H=>t { D with nx:=λσ' H'=>∃a od kvs,H' a=some (.frz od (.dK kvs))∧(∀o x,H0 a≠some (.frz o x))∧D.nx σ' (upd H' a (.dK kvs)) } σ H
theorem BK {st:Stmt} {t:TS} (h:PS X st t):PS X st (C6 X.H₀ t):=by
 intro pins s σ H D I q
 refine qW (h pins s σ H _ I q) λf s1 z=>?_
 cases f with
 | next=>
  obtain⟨σ',H',J,a,od,kvs,ea,h4,q'⟩:=z
  exact⟨σ',_,J.Ro ea h4,q'⟩
 | ret u=>exact z
 | brk=>exact z
 | cont=>exact z
end
end L2
set_option maxRecDepth 100000
namespace My
open PySem PySem.Spec PyProof.Rows L2
seal PE PT PW PA PS JO PI PG Df PO PC Lr Lc
local macro_rules | `(tactic| walk_at "lk")=>`(tactic| first | assumption | exact zm | exact D9 (by assumption) (by walk_at "sm") | (refine zp.look (by assumption) ?_;walk_at "lk"))
local macro_rules | `(tactic| walk_at "sq")=>`(tactic| first | assumption | exact zK.of (by walk_at "lk") | exact ML (by assumption) (by walk_at "sm"))
local macro_rules | `(tactic| walk_at "sqT")=>`(tactic| first | assumption | exact jo.of (by walk_at "lk") | exact seqTS (by assumption) (by walk_at "sm"))
local macro_rules | `(tactic| walk_at "sm")=>`(tactic| first | assumption | exact zp.refl _ | (refine zp.trans ?_ (by assumption);walk_at "sm"))
local macro_rules | `(tactic| walk_at "sz")=>`(tactic| first | with_reducible assumption | with_reducible exact one_len | ((with_reducible apply HY)<;>walk_at "sz") | ((with_reducible apply slice_len);walk_at "sz") | with_reducible exact YV _)
local macro_rules | `(tactic| walk_at "num")=>`(tactic| first | decide +kernel | omega | (simp only[Se,S1];omega))
local macro_rules | `(tactic| walk_at "lsz")=>`(tactic| first
 | ((with_reducible apply Fo);(focus walk_at "sz");(focus walk_at "sz");walk_at "num")
 | ((with_reducible apply zg);first | decide +kernel | (simp only[Se,S1,Su,Sl];omega))
 | ((with_reducible apply small_of);(focus walk_at "sz");walk_at "num"))
local macro_rules | `(tactic| walk_at "ar")=>`(tactic| first
 | walk_at "lsz"
 | omega
 | (refine OF ?_ ?_<;>omega)
 | (refine SA (OF ?_ ?_)<;>omega)
 | (refine Af (OF ?_ ?_)<;>omega)
 | decide +kernel
 | (show (0:Int) < _;decide +kernel)
 | (show (0:Int) < _;omega)
 | (refine OF ?_ (OF ?_ ?_)<;>decide +kernel))
local macro_rules | `(tactic| walk_at "lsl")=>`(tactic| first
 | exact gK (by simp only[Se,S1,Su,Sl];omega)
 | exact gK (by omega))
local macro_rules | `(tactic| walk_at "own")=>`(tactic| fail)
local macro_rules | `(tactic| walk_at "fld")=>`(tactic| fail)
local macro_rules | `(tactic| walk_at "r1")=>`(tactic| (fail_if_success (refine zzg (α:=Nat→Nat→L2.St→Hp→Prop) ?_ ?_));first
 | refine⟨_,rfl,?_⟩
 | refine⟨_,(by walk_at "fld" : eV _ _ _ _ _),?_⟩
 | refine⟨_,_,rfl,rfl,?_⟩
 | refine⟨_,_,_,_,rfl,rfl,by walk_at "sq",jq (by walk_at "num") (by walk_at "num"),?_⟩
 | refine⟨_,_,_,_,rfl,rfl,by walk_at "sq",bA (by walk_at "num") (by walk_at "num"),?_⟩
 | refine⟨_,_,_,_,rfl,rfl,by walk_at "sqT",rfl,?_⟩
 | refine⟨_,_,rfl,.inr (by walk_at "sqT"),rfl,rfl,?_⟩
 | refine⟨_,_,rfl,.inl (by walk_at "sq"),rfl,rfl,?_⟩
 | refine⟨_,_,_,rfl,rfl,by walk_at "lsz",W3 (by omega) (by omega),?_⟩
 | refine⟨_,_,_,rfl,rfl,by walk_at "lk",by walk_at "lsl",?_⟩
 | refine⟨_,_,rfl,by walk_at "sq",?_⟩
 | refine⟨_,_,rfl,by walk_at "sqT",rfl,?_⟩
 | (refine OF ?_ ?_;· (apply zzg;walk_at "sq"))
 | (refine OF (SA (OF rfl ?_)) ?_;· (apply zzg;walk_at "sq"))
 | refine⟨_,_,rfl,?_⟩
 | refine⟨_,_,_,rfl,?_⟩
 | refine OF rfl ?_
 | (refine OF ?_ ?_;· assumption)
 | refine⟨_,_,.type "bool",true,rfl,.inl ⟨_,rfl⟩,xZ.bl _,kq _ _,?_⟩
 | refine⟨_,_,.type "str",true,rfl,.inl ⟨_,rfl⟩,xZ.str _,kq _ _,?_⟩
 | refine⟨_,_,.type "int",true,rfl,.inl ⟨_,rfl⟩,xZ.int _,kq _ _,?_⟩
 | refine⟨_,_,.type "list",true,rfl,.inl ⟨_,rfl⟩,xZ.lst (by walk_at "lk"),kq _ _,?_⟩
 | (refine OF ?_ ?_;· walk_at "ar")
 | refine nH ?_
 | refine cH ?_
 | refine iteNS rfl ?_)
local macro_rules | `(tactic| walk_at "rd")=>`(tactic| repeat (first | walk_at "own" | walk_at "r1"))
local macro_rules | `(tactic| walk_at "rdi")=>`(tactic| repeat (first | walk_at "own" | walk_at "r1" | ((show Nw _ _ _);intro _ _ _ _ _)))
set_option genInjectivity false
set_option genSizeOf false
def top (i:Nat):Stmt:=AF.main.body.getD i (.Pass ⟨0,0,0,0⟩)
abbrev mM:Stmt:=inClass (top 3) 0
abbrev mF:Stmt:=inClass (top 4) 0
abbrev bK:Stmt:=inClass (top 5) 0
abbrev mB:Stmt:=inClass (top 8) 0
abbrev dN:Stmt:=inClass (top 8) 3
abbrev fg:Stmt:=inClass (top 8) 5
abbrev bV:Stmt:=inClass (top 8) 6
abbrev lP:Stmt:=inClass (top 9) 0
abbrev gr:Stmt:=inClass (top 9) 2
abbrev ux:Stmt:=inClass (top 9) 3
abbrev mP:Stmt:=inClass (top 9) 4
abbrev yQ:Stmt:=inClass (top 10) 1
abbrev oM:Stmt:=inClass (top 11) 0
abbrev bX:Stmt:=inClass (top 11) 2
abbrev lH:Stmt:=inClass (top 11) 4
abbrev uk:Stmt:=inClass (top 12) 0
abbrev yJ:Stmt:=inClass (top 12) 2
abbrev mD:Stmt:=inClass (top 12) 3
abbrev oU:Stmt:=inClass (top 14) 0
abbrev lM:Stmt:=inClass (top 15) 0
abbrev lF:Stmt:=inClass (top 16) 0
abbrev lD:Stmt:=top 23
abbrev mS:Stmt:=top 24
abbrev kD:Stmt:=top 25
abbrev uh:Stmt:=top 29
abbrev yI:Stmt:=top 30
abbrev lU:Stmt:=top 31
abbrev oS:Stmt:=top 32
abbrev lC:Stmt:=top 33
abbrev mR:Stmt:=top 34
abbrev yE:Stmt:=top 35
abbrev ff:Stmt:=top 36
abbrev uy:Stmt:=inClass (top 38) 0
abbrev ug:Stmt:=inClass (top 38) 1
abbrev uv:Stmt:=inClass (top 38) 2
abbrev fh:Stmt:=inClass (top 38) 3
abbrev mU:Stmt:=inClass (top 38) 4
abbrev uw:Stmt:=inClass (top 38) 5
abbrev gZ:Stmt:=inClass (top 38) 6
abbrev gs:Stmt:=inClass (top 38) 7
abbrev mC:Stmt:=inClass (top 38) 8
abbrev oR:Stmt:=top 39
abbrev mL:Stmt:=top 40
abbrev kn:Stmt:=top 41
abbrev bW:Stmt:=top 42
abbrev bY:Stmt:=top 43
abbrev Ja:Stmt:=top 50
abbrev fc:Stmt:=top 51
abbrev mT:Stmt:=top 52
abbrev yk:Stmt:=top 53
abbrev fu:Stmt:=top 54
abbrev lB:Stmt:=inClass (top 55) 0
abbrev gu:Stmt:=inClass (top 55) 1
abbrev uj:Stmt:=inClass (top 55) 2
abbrev ya:Stmt:=inClass (top 55) 3
abbrev yZ:Stmt:=inClass (top 55) 4
abbrev vM:Stmt:=inClass (top 55) 5
abbrev mH:Stmt:=inClass (top 55) 6
abbrev mG:Stmt:=inClass (top 55) 7
abbrev JZ:Stmt:=top 57
abbrev iz:Stmt:=top 58
abbrev rH:Stmt:=top 59
abbrev oI:Stmt:=top 60
abbrev ai:Stmt:=top 61
abbrev aJ:Stmt:=top 62
abbrev oA:Stmt:=top 63
abbrev oN:Stmt:=top 64
abbrev aZ:Stmt:=top 65
abbrev JQ:Stmt:=top 66
abbrev JJ:Stmt:=top 67
abbrev iq:Stmt:=top 68
abbrev ae:Stmt:=top 69
abbrev aK:Stmt:=top 70
abbrev JX:Stmt:=top 71
abbrev rG:Stmt:=top 72
abbrev oO:Stmt:=top 73
abbrev oE:Stmt:=top 74
abbrev lR:Stmt:=top 75
abbrev aX:Stmt:=top 76
abbrev ao:Stmt:=top 77
abbrev aQ:Stmt:=top 78
abbrev Vk:Stmt:=top 79
structure Def (K:Sd) (mg:Str→Option Sr) (x:Str) (st:Stmt) (ps:List Str) (f:Addr) (fd:SH):Prop where
 fn:Hi K x x st f fd
 bd:Binds K fd ps []
 mg:mg x=some (.ref f)
structure ju (K:Sd) (c:Addr) (x q:Str) (st:Stmt) (ps:List Str) (f:Addr) (fd:SH):Prop where
 fn:Hi K x q st f fd
 bd:Binds K fd ps []
 at_:Tv K (.ref c) x=some (some (.ref f))
structure z5 where
 ja:Addr
 xf:Addr
 xo:Addr
 z6:Addr
 dw:Addr
 wW:Addr
 ji:Addr
 xG:Addr
 kK:Addr
 gM:Addr
 yM:Addr
 x8:Addr
 kJ:Addr
 vK:Addr
 pW:Addr
 jO:Addr
 x9:Addr
 yD:Addr
 wY:Addr
 jW:Addr
 vc:Addr
 vt:Addr
 vx:Addr
 jI:Addr
 gR:Addr
 vj:Addr
 pG:Addr
 dy:Addr
 pY:Addr
 yR:Addr
 xm:Addr
 wB:Addr
 kz:Addr
 gU:Addr
 gD:Addr
 wG:Addr
 yU:Addr
 gC:Addr
 kY:Addr
 kW:Addr
 yC:Addr
 nh:Addr
 xu:Addr
 wH:Addr
 vV:Addr
 vW:Addr
 cK:Addr
 wF:Addr
 vk:Addr
 wM:Addr
 wD:Addr
 yl:Addr
 kX:Addr
 gF:Addr
 xA:Addr
 x6:Addr
 xx:Addr
 yF:Addr
 yP:Addr
 pB:Addr
 dc:Addr
 uL:Addr
 df:Addr
 gx:Addr
 fV:Addr
 pP:Addr
 dh:Addr
 uS:Addr
 nZ:Addr
 nQ:Addr
 nJ:Addr
 fK:Addr
 uO:Addr
 nX:Addr
 uR:Addr
 nu:Addr
 dm:Addr
 pH:Addr
 uN:Addr
 uU:Addr
 uT:Addr
 Zw:Addr
 QZ:Addr
 vm:Addr
 xE:Addr
 jl:Addr
 DL:Addr
 qX:Addr
 jw:Addr
 qS:Addr
 xV:Addr
 qG:Addr
 j8:Addr
 zE:Addr
 jj:Addr
 zV:Addr
 zR:Addr
 Zl:Addr
 fY:Addr
 xh:SH
 kO:SH
 vQ:SH
 jy:SH
 m6:SH
 pk:SH
 bZ:SH
 yd:SH
 y9:SH
 cu:SH
 md:SH
 yc:SH
 gH:SH
 ba:SH
 lg:SH
 vL:SH
 yr:SH
 mr:SH
 gB:SH
 xY:SH
 yu:SH
 vd:SH
 kA:SH
 jN:SH
 gP:SH
 kI:SH
 pe:SH
 m8:SH
 pd:SH
 yB:SH
 xb:SH
 wJ:SH
 vS:SH
 cQ:SH
 cn:SH
 pf:SH
 mi:SH
 cZ:SH
 gq:SH
 gz:SH
 ml:SH
 tS:SH
 xp:SH
 wQ:SH
 vJ:SH
 vX:SH
 cJ:SH
 wX:SH
 vz:SH
 wK:SH
 wV:SH
 pj:SH
 y8:SH
 cm:SH
 yf:SH
 ym:SH
 vP:SH
 mm:SH
 mf:SH
 pQ:SH
 dj:SH
 uP:SH
 dz:SH
 gj:SH
 fX:SH
 pJ:SH
 m9:SH
 uF:SH
 tN:SH
 tO:SH
 tI:SH
 fJ:SH
 uC:SH
 tE:SH
 uB:SH
 tT:SH
 dq:SH
 pZ:SH
 uD:SH
 uH:SH
 uM:SH
 Zj:SH
def gT:List Str:=["acts","any","be","by","calm","done","else","end","in","let","may","must","not","part","parties","rest","sore","to","whole"]
def zF:List Str:=["calm","sore","end"]
abbrev z4:Str:="abcdefghijklmnopqrstuvwxyz"
abbrev jE:Str:="0123456789"
structure Txt (K:Sd) (mg:Str→Option Sr) (t:z5):Prop where
 jV:ju K t.vm "__init__" "NoText.__init__" mM ["self","row"] t.ja t.xh
 bN:ju K t.xE "__init__" "NoName.__init__" mF ["self","word"] t.xf t.kO
 mw:ju K t.jl "__init__" "CalmRoom.__init__" bK ["self","word"] t.xo t.vQ
 xK:ju K t.qX "__init__" "Clause.__init__" mB ["self","label","who","act"] t.z6 t.jy
 Vu:ju K t.qX "sort_word" "Clause.sort_word" dN ["self"] t.dw t.m6
 cj:ju K t.qX "leads" "Clause.leads" fg ["self"] t.wW t.pk
 kS:ju K t.qX "number" "Clause.number" bV ["self"] t.ji t.bZ
 uV:ju K t.jw "__init__" "Duty.__init__" lP ["self","label","who","act","turns","room"] t.xG t.yd
 bL:ju K t.jw "sort_word" "Duty.sort_word" gr ["self"] t.kK t.y9
 tV:ju K t.jw "leads" "Duty.leads" ux ["self"] t.gM t.cu
 lz:ju K t.jw "number" "Duty.number" mP ["self"] t.yM t.md
 bu:ju K t.qS "sort_word" "Leave.sort_word" yQ ["self"] t.x8 t.yc
 tJ:ju K t.xV "__init__" "Ban.__init__" oM ["self","label","who","act","room"] t.kJ t.gH
 mx:ju K t.xV "sort_word" "Ban.sort_word" bX ["self"] t.vK t.ba
 eX:ju K t.xV "leads" "Ban.leads" lH ["self"] t.pW t.lg
 mI:ju K t.qG "__init__" "Power.__init__" uk ["self","label","who","act","room"] t.jO t.vL
 br:ju K t.qG "sort_word" "Power.sort_word" yJ ["self"] t.x9 t.yr
 lj:ju K t.qG "leads" "Power.leads" mD ["self"] t.yD t.mr
 tW:ju K t.j8 "__init__" "Let.__init__" oU ["self","name","value"] t.wY t.gB
 ko:ju K t.zE "__init__" "Part.__init__" lM ["self","name","rooms","rows"] t.jW t.xY
 uW:ju K t.jj "__init__" "Pact.__init__" lF ["self","parties","acts","rooms","whole"] t.vc t.yu
 jz:Def K mg "is_name" lD ["word"] t.vt t.vd
 jC:Def K mg "number_of" mS ["word"] t.vx t.kA
 jk:Def K mg "written_with" kD ["word","signs","most"] t.jI t.jN
 bw:Def K mg "names_of" uh ["row","word","most"] t.gR t.gP
 jD:Def K mg "are_names" yI ["words","most"] t.vj t.kI
 fS:Def K mg "room_of" lU ["row"] t.pG t.pe
 ue:Def K mg "let_of" oS ["row"] t.dy t.m8
 fL:Def K mg "part_of" lC ["row"] t.pY t.pd
 yY:Def K mg "clause_of" mR ["row"] t.yR t.yB
 zN:Def K mg "fits_form" yE ["words","form"] t.xm t.xb
 wj:Def K mg "fits_place" ff ["word","place"] t.wB t.wJ
 mE:ju K t.zV "__init__" "Scope.__init__" uy ["self","pact"] t.kz t.vS
 m5:ju K t.zV "know" "Scope.know" ug ["self","name","kind","meaning"] t.gU t.cQ
 tG:ju K t.zV "bind" "Scope.bind" uv ["self","name","value"] t.gD t.cn
 cx:ju K t.zV "copied" "Scope.copied" fh ["self"] t.wG t.pf
 ly:ju K t.zV "party" "Scope.party" mU ["self","word"] t.yU t.mi
 tH:ju K t.zV "deed" "Scope.deed" uw ["self","word"] t.gC t.cZ
 wo:ju K t.zV "room_for" "Scope.room_for" gZ ["self","word"] t.kY t.gq
 bO:ju K t.zV "falls_to" "Scope.falls_to" gs ["self","word"] t.kW t.gz
 yp:ju K t.zV "meant" "Scope.meant" mC ["self","word","kinds"] t.yC t.ml
 d9:Def K mg "flat" oR ["pact"] t.nh t.tS
 jc:Def K mg "flat_rows" mL ["rows","scope","rooms","depth"] t.xu t.xp
 wq:Def K mg "covered_by" kn ["part","scope","rooms"] t.wH t.wQ
 vg:Def K mg "flat_clause" bW ["clause","scope","rooms","depth"] t.vV t.vJ
 vh:Def K mg "room_led_to" bY ["clause","scope"] t.vW t.vX
 Qf:Def K mg "read" Ja ["text"] t.cK t.cJ
 jt:Def K mg "read_names" fc ["rows","number","word","most","taken"] t.wF t.wX
 jU:Def K mg "told_once" mT ["names"] t.vk t.vz
 wx:Def K mg "read_rooms" yk ["rows","taken"] t.wM t.wK
 wy:Def K mg "read_whole" fu ["rows","start"] t.wD t.wV
 eK:ju K t.zR "__init__" "Body.__init__" lB ["self"] t.yl t.pj
 xT:ju K t.zR "many_open" "Body.many_open" gu ["self"] t.kX t.y8
 tX:ju K t.zR "takes" "Body.takes" uj ["self","row"] t.gF t.cm
 bp:ju K t.zR "takes_done" "Body.takes_done" ya ["self"] t.xA t.yf
 bc:ju K t.zR "takes_head" "Body.takes_head" yZ ["self","head"] t.x6 t.ym
 yb:ju K t.zR "takes_clause" "Body.takes_clause" vM ["self","clause"] t.xx t.vP
 yh:ju K t.zR "put_in" "Body.put_in" mH ["self","row"] t.yF t.mm
 bR:ju K t.zR "closed" "Body.closed" mG ["self"] t.yP t.mf
 jn:Def K mg "_law_cell" JZ ["_law_script","_law_k"] t.pB t.pQ
 uJ:Def K mg "_law_stream" iz ["_law_number","_law_many"] t.dc t.dj
 tu:Def K mg "_law_names" rH ["_law_cell_here","_law_many"] t.uL t.uP
 uZ:Def K mg "_law_header" oI ["_law_script"] t.df t.dz
 vb:Def K mg "_law_kinds" ai ["_law_header_here"] t.gx t.gj
 bh:Def K mg "_law_scope" aJ ["_law_header_here"] t.fV t.fX
 xg:Def K mg "_law_pick" oA ["_law_header_here","_law_scope_here","_law_wanted","_law_number"] t.pP t.pJ
 ua:Def K mg "_law_clause" oN ["_law_header_here","_law_scope_here","_law_label","_law_xs"] t.dh t.m9
 tZ:Def K mg "_law_opens" aZ ["_law_header_here","_law_scope_here","_law_label","_law_xs"] t.uS t.uF
 w_next:Def K mg "_law_next" JQ ["_law_header_here","_law_stack","_law_label","_law_xs"] t.nZ t.tN
 Qc:Def K mg "_law_rows" JJ ["_law_script","_law_header_here","_law_most"] t.nQ t.tO
 w_text:Def K mg "_law_text" iq ["_law_header_here","_law_rows_here"] t.nJ t.tI
 j7:Def K mg "_law_meant" ae ["_law_kinds_here","_law_scope_here","_law_word","_law_wanted"] t.fK t.fJ
 tQ:Def K mg "_law_wrong" aK ["_law_kinds_here","_law_scope_here","_law_row"] t.uO t.uC
 Qu:Def K mg "_law_told" JX ["_law_scope_here","_law_row","_law_rooms","_law_depth"] t.nX t.tE
 tm:Def K mg "_law_inner" rG ["_law_kinds_here","_law_scope_here","_law_row","_law_rooms"] t.uR t.uB
 Qm:Def K mg "_law_flat" oO ["_law_header_here","_law_rows_here"] t.nu t.tT
 uQ:Def K mg "_law_object" oE ["_law_row"] t.dm t.dq
 fT:Def K mg "_law_by_hand" lR ["_law_header_here","_law_rows_here"] t.pH t.pZ
 bb:Def K mg "_law_whole" aX ["_law_found"] t.uN t.uD
 tf:Def K mg "_law_alike" ao ["_law_found","_law_due"] t.uU t.uH
 bg:Def K mg "_law_right" aQ ["_law_found","_law_due"] t.uT t.uM
 Fw:Def K mg "law" Vk ["_law_script"] t.Zw t.Zj
 ki:mg "list" = none
 qo:mg "len" = none
 vU:mg "range" = none
 W6:mg "all" = none
 Kc:mg "int" = none
 Pq:mg "str" = none
 qL:mg "isinstance" = none
 Ft:mg "bool" = none
 Ku:mg "tuple" = none
 aL:mg "dict" = none
 DU:mg "zip" = none
 HV:mg "ValueError" = none
 DC:mg "set" = none
 FR:mg "KEPT" = some (.ref t.Zl)
 VB:∃tk,mg "LETTERS" = some (.str "abcdefghijklmnopqrstuvwxyz" tk)
 VH:∃tk,mg "FIGURES" = some (.str "0123456789" tk)
 nW:∃tk,mg "MOST_LETTERS" = some (.int 8 tk)
 nV:∃tk,mg "MOST_FIGURES" = some (.int 20 tk)
 KG:mg "MARKS" = some (.ref t.fY)
 cY:∃tk,mg "MOST_ROOMS" = some (.int 12 tk)
 nY:∃tk,mg "MOST_PARTIES" = some (.int 4 tk)
 QC:∃tk,mg "MOST_ACTS" = some (.int 6 tk)
 QR:∃tk,mg "MOST_ROWS" = some (.int 90 tk)
 QU:∃tk,mg "MOST_OPEN" = some (.int 6 tk)
 vN:∃tk,mg "FIRST_ROOM" = some (.int 2 tk)
 Pp:mg "PactError" = some (.ref t.QZ)
 gg:mg "NoText" = some (.ref t.vm)
 Q7:mg "NoName" = some (.ref t.xE)
 Xf:mg "CalmRoom" = some (.ref t.jl)
 RP:mg "Row" = some (.ref t.DL)
 Q6:mg "Clause" = some (.ref t.qX)
 YF:mg "Duty" = some (.ref t.jw)
 Ze:mg "Leave" = some (.ref t.qS)
 Pb:mg "Ban" = some (.ref t.xV)
 K2:mg "Power" = some (.ref t.qG)
 YM:mg "Let" = some (.ref t.j8)
 dQ:mg "Part" = some (.ref t.zE)
 YD:mg "Pact" = some (.ref t.jj)
 K3:mg "Scope" = some (.ref t.zV)
 F5:mg "Body" = some (.ref t.zR)
 Mh:∃(o:Obj) (its:Array Sr) (n:Nat),K.lookup t.Zl=some o∧o.cls=.type "tuple"∧o.data=.seq its n∧its.size≤S0∧Vals (gT.map V.str) its.toList
 Bo:∃(o:Obj) (its:Array Sr) (n:Nat),K.lookup t.fY=some o∧o.cls=.type "tuple"∧o.data=.seq its n∧its.size≤S0∧Vals (zF.map V.str) its.toList
 Ve:uK K t.qX
 iN:zY K t.qX "act"
 sv:zY K t.qX "label"
 nT:zY K t.qX "room"
 sy:zY K t.qX "turns"
 iO:zY K t.qX "who"
 VA:Mk K t.qX t.z6
 HB:uK K t.jw
 Jx:zY K t.jw "act"
 iI:zY K t.jw "label"
 ZK:zY K t.jw "room"
 iE:zY K t.jw "turns"
 Jk:zY K t.jw "who"
 ZZ:Mk K t.jw t.xG
 cF:Meth K t.jw "sort_word" t.kK
 iL:Meth K t.jw "leads" t.gM
 nU:Meth K t.jw "number" t.yM
 W9:uK K t.qS
 ZV:zY K t.qS "act"
 nN:zY K t.qS "label"
 iA:zY K t.qS "room"
 nO:zY K t.qS "turns"
 ZW:zY K t.qS "who"
 dW:Meth K t.qS "sort_word" t.x8
 nD:Mk K t.qS t.z6
 nR:Meth K t.qS "leads" t.wW
 sq:Meth K t.qS "number" t.ji
 Fe:uK K t.xV
 Xs:zY K t.xV "act"
 ZJ:zY K t.xV "label"
 Jj:zY K t.xV "room"
 ZX:zY K t.xV "turns"
 Xt:zY K t.xV "who"
 Xl:Mk K t.xV t.kJ
 rg:Meth K t.xV "sort_word" t.vK
 ZQ:Meth K t.xV "leads" t.pW
 iU:Meth K t.xV "number" t.ji
 Yz:uK K t.qG
 ZY:zY K t.qG "act"
 nE:zY K t.qG "label"
 i4:zY K t.qG "room"
 nA:zY K t.qG "turns"
 ZG:zY K t.qG "who"
 nC:Mk K t.qG t.jO
 dY:Meth K t.qG "sort_word" t.x9
 nL:Meth K t.qG "leads" t.yD
 sj:Meth K t.qG "number" t.ji
 tR:uK K t.j8
 lX:zY K t.j8 "name"
 cD:zY K t.j8 "value"
 YN:Mk K t.j8 t.wY
 kN:uK K t.zE
 gN:zY K t.zE "name"
 yN:zY K t.zE "rooms"
 gO:zY K t.zE "rows"
 fH:Mk K t.zE t.jW
 vR:uK K t.jj
 cC:zY K t.jj "acts"
 bQ:zY K t.jj "parties"
 yT:zY K t.jj "rooms"
 mQ:zY K t.jj "whole"
 K4:Mk K t.jj t.vc
 qq:uK K t.zV
 wL:zY K t.zV "kinds"
 ky:zY K t.zV "meanings"
 mJ:zY K t.zV "pact"
 Jq:Mk K t.zV t.kz
 mZ:Meth K t.zV "know" t.gU
 iS:Meth K t.zV "bind" t.gD
 sx:Meth K t.zV "copied" t.wG
 nS:Meth K t.zV "party" t.yU
 iT:Meth K t.zV "deed" t.gC
 yn:Meth K t.zV "room_for" t.kY
 cM:Meth K t.zV "falls_to" t.kW
 wR:Meth K t.zV "meant" t.yC
 qe:uK K t.zR
 kx:zY K t.zR "bodies"
 yS:zY K t.zR "heads"
 pT:zY K t.zR "labels"
 Bp:Mk K t.zR t.yl
 kj:Meth K t.zR "many_open" t.kX
 iR:Meth K t.zR "takes" t.gF
 dJ:Meth K t.zR "takes_done" t.xA
 dX:Meth K t.zR "takes_head" t.x6
 pS:Meth K t.zR "takes_clause" t.xx
 wU:Meth K t.zR "put_in" t.yF
 pL:Meth K t.zR "closed" t.yP
 WB:Hr K t.vm
 kL:DF K t.vm t.ja
 i3:zY K t.vm "row"
 WH:Hr K t.xE
 Dg:UQ K t.xE
 rE:DF K t.xE t.xf
 nI:zY K t.xE "word"
 JU:Hr K t.jl
 B8:UQ K t.jl
 lT:DF K t.jl t.xo
 rp:zY K t.jl "word"
 eP:WT K t.qX "__init__" t.z6
 Yj:WT K t.qS "__init__" t.z6
 QA:TK K (.ref t.jw) (.ref t.j8)=some false
 Zt:TK K (.ref t.jw) (.ref t.zE)=some false
 Zn:TK K (.ref t.qS) (.ref t.j8)=some false
 iM:TK K (.ref t.qS) (.ref t.zE)=some false
 Xw:TK K (.ref t.xV) (.ref t.j8)=some false
 QE:TK K (.ref t.xV) (.ref t.zE)=some false
 Zi:TK K (.ref t.qG) (.ref t.j8)=some false
 iD:TK K (.ref t.qG) (.ref t.zE)=some false
 Xy:TK K (.ref t.j8) (.ref t.j8)=some true
 Pg:TK K (.ref t.j8) (.ref t.zE)=some false
 Q0:TK K (.ref t.zE) (.ref t.j8)=some false
 Zo:TK K (.ref t.zE) (.ref t.zE)=some true
 Q1:TK K (.type "int") (.type "bool")=some false
 iC:TK K (.type "list") (.type "tuple")=some false
 Xe:OC K (.builtin "object.__class__") "__get__" = some (some (.builtin "getset_descriptor.__get__"))
 Gz:E8 K (.builtin "object.__class__")=some true
 WK:Tv K (.ref t.qX) "__class__" = some (some (.builtin "object.__class__"))∧NJ K t.qX (.type "object")=some true
 B1:Tv K (.ref t.jw) "__class__" = some (some (.builtin "object.__class__"))∧NJ K t.jw (.type "object")=some true
 G7:Tv K (.ref t.qS) "__class__" = some (some (.builtin "object.__class__"))∧NJ K t.qS (.type "object")=some true
 Dq:Tv K (.ref t.xV) "__class__" = some (some (.builtin "object.__class__"))∧NJ K t.xV (.type "object")=some true
 G9:Tv K (.ref t.qG) "__class__" = some (some (.builtin "object.__class__"))∧NJ K t.qG (.type "object")=some true
 G8:Tv K (.ref t.j8) "__class__" = some (some (.builtin "object.__class__"))∧NJ K t.j8 (.type "object")=some true
 Vd:Tv K (.ref t.zE) "__class__" = some (some (.builtin "object.__class__"))∧NJ K t.zE (.type "object")=some true
section
variable {P:SM} {w:Tj} {K:Sd} {mg:Str→Option Sr} {base:Heap} {t:z5}
end
structure Good (N:Nat) (x:Str):Prop where
 lo:1≤x.length
 hi:x.length≤N
 as:asc x
structure CF (K:Sd) (C fI:Addr):Prop where
 cl:uK K C
 nl:zY K C "label"
 nw:zY K C "who"
 na:zY K C "act"
 nt:zY K C "turns"
 nr:zY K C "room"
 Sv:Mk K C fI
def f3 (l w a:Str):List (Str × V):=[("label",.str l),("who",.str w),("act",.str a)]
def f4 (l w a r:Str):List (Str × V):=[("label",.str l),("who",.str w),("act",.str a),("room",.str r)]
def f5 (l w a:Str) (n:Int) (r:Str):List (Str × V):=[("label",.str l),("who",.str w),("act",.str a),("turns",.int n),("room",.str r)]
theorem n1:¬(("label" : Str) = "who"):=by decide +kernel
theorem n2:¬(("label" : Str) = "act"):=by decide +kernel
theorem n3:¬(("who" : Str) = "act"):=by decide +kernel
theorem n4:¬(("label" : Str) = "room"):=by decide +kernel
theorem n5:¬(("who" : Str) = "room"):=by decide +kernel
theorem n6:¬(("act" : Str) = "room"):=by decide +kernel
theorem n7:¬(("label" : Str) = "turns"):=by decide +kernel
theorem n8:¬(("who" : Str) = "turns"):=by decide +kernel
theorem n9:¬(("act" : Str) = "turns"):=by decide +kernel
theorem RF:¬(("turns" : Str) = "room"):=by decide +kernel
theorem put3 (l w a:Str):zB "act" (.str a) (zB "who" (.str w) (zB "label" (.str l) []))=f3 l w a:=by
 simp only[zB,f3,if_neg n1,if_neg n2,if_neg n3]
theorem Cr (l w a r:Str):zB "room" (.str r) (f3 l w a)=f4 l w a r:=by
 simp only[zB,f3,f4,if_neg n4,if_neg n5,if_neg n6]
theorem UO (l w a:Str) (n:Int) (r:Str):zB "room" (.str r) (zB "turns" (.int n) (f3 l w a))=f5 l w a n r:=by
 simp only[zB,f3,f5,if_neg n7,if_neg n8,if_neg n9,if_neg n4,if_neg n5,if_neg n6,if_neg RF]
def dt (k:Int) (l w a:Str) (n:Int) (r:Str):List (Str × V):=if k=0 then f5 l w a n r else if k=2∨k=3 then f4 l w a r else f3 l w a
theorem zL {x:Str} {v:V} {r:List (Str × V)}:NK x ((x,v) :: r)=some v:=by simp [NK]
theorem zt {x y:Str} {v:V} {r:List (Str × V)} (h:¬(x=y)):NK x ((y,v) :: r)=NK x r:=by
 have:(x == y)=false:=beq_eq_false_iff_ne.mpr h
 simp [NK,this]
theorem Xq (k:Int) (l w a:Str) (n:Int) (r:Str):(dt k l w a n r).lookup ("label" : Str)=some (.str l):=by
 unfold dt;split
 ·exact zL
 ·split<;>exact zL
theorem Yl (k:Int) (l w a:Str) (n:Int) (r:Str):(dt k l w a n r).lookup ("who" : Str)=some (.str w):=by
 have h:=λq=>n1 (Nn q)
 unfold dt;split
 ·exact(zt h).trans zL
 ·split<;>exact(zt h).trans zL
theorem Yr (k:Int) (l w a:Str) (n:Int) (r:Str):(dt k l w a n r).lookup ("act" : Str)=some (.str a):=by
 have h1:=λq=>n2 (Nn q)
 have h2:=λq=>n3 (Nn q)
 unfold dt;split
 ·exact(zt h1).trans ((zt h2).trans zL)
 ·split<;>exact(zt h1).trans ((zt h2).trans zL)
theorem Xj (l w a:Str) (n:Int) (r:Str):(dt 0 l w a n r).lookup ("turns" : Str)=some (.int n):=
 (zt λq=>n7 (Nn q)).trans ((zt λq=>n8 (Nn q)).trans ((zt λq=>n9 (Nn q)).trans zL))
theorem VG {k:Int} (hk:k=0∨k=2∨k=3) (l w a:Str) (n:Int) (r:Str):(dt k l w a n r).lookup ("room" : Str)=some (.str r):=by
 have h1:=λq=>n4 (Nn q)
 have h2:=λq=>n5 (Nn q)
 have h3:=λq=>n6 (Nn q)
 have h4:=λq=>RF (Nn q)
 unfold dt
 by_cases h0:k=0
 ·rw[if_pos h0]
  exact(zt h1).trans ((zt h2).trans ((zt h3).trans ((zt h4).trans zL)))
 ·rw[if_neg h0,if_pos (hk.resolve_left h0)]
  exact(zt h1).trans ((zt h2).trans ((zt h3).trans zL))
theorem Zp {m:Str} (k:Int) (l w a:Str) (n:Int) (r:Str) (h:m∉(["label","who","act","turns","room"]:List Str)):(dt k l w a n r).lookup m=none:=by
 simp only[So,not_or] at h
 obtain⟨h1,h2,h3,h4,h5,_⟩:=h
 unfold dt;split
 ·exact(zt h1).trans ((zt h2).trans ((zt h3).trans ((zt h4).trans ((zt h5).trans rfl))))
 ·split
  ·exact(zt h1).trans ((zt h2).trans ((zt h3).trans ((zt h5).trans rfl)))
  ·exact(zt h1).trans ((zt h2).trans ((zt h3).trans rfl))
def y7 (t:z5) (k:Int):Addr:=if k=0 then t.jw else if k=1 then t.qS else if k=2 then t.xV else if k=3 then t.qG else t.qX
def At (t:z5) (H:Hp) (p:Addr) (k:Int) (l w a:Str) (n:Int) (r:Str):Prop:=∃dx,H p=some (.ins (y7 t k) dx (dt k l w a n r))
theorem At.same {t:z5} {H H':Hp} {p:Addr} {k:Int} {l w a:Str} {n:Int} {r:Str} (h:At t H p k l w a n r) (s:zp H H'):At t H' p k l w a n r:=by
 obtain⟨dx,e⟩:=h
 exact⟨dx,s _ _ e⟩
def We (K:Sd):Sp:=λvs H Q _=>∃(p C dx fI:Addr) (l w a:Str),vs=[.ref p,.str l,.str w,.str a]∧CF K C fI∧H p=some (.ins C dx [])∧Q .non (upd H p (.ins C dx (f3 l w a)))
def Wa (K:Sd):Sp:=λvs H Q _=>∃(p C dx fI:Addr) (l w a r:Str),vs=[.ref p,.str l,.str w,.str a,.str r]∧CF K C fI∧H p=some (.ins C dx [])∧Q .non (upd H p (.ins C dx (f4 l w a r)))
def MS (K:Sd):Sp:=λvs H Q _=>∃(p C dx fI:Addr) (l w a:Str) (n:Int) (r:Str),vs=[.ref p,.str l,.str w,.str a,.int n,.str r]∧CF K C fI∧H p=some (.ins C dx [])∧Q .non (upd H p (.ins C dx (f5 l w a n r)))
theorem aI {K:Sd} {mg:Str→Option Sr} {t:z5} (T:Txt K mg t):CF K t.jw t.xG:=⟨T.HB,T.iI,T.Jk,T.Jx,T.iE,T.ZK,T.ZZ⟩
theorem tM {K:Sd} {mg:Str→Option Sr} {t:z5} (T:Txt K mg t):CF K t.qS t.z6:=⟨T.W9,T.nN,T.ZW,T.ZV,T.nO,T.iA,T.nD⟩
theorem JE {K:Sd} {mg:Str→Option Sr} {t:z5} (T:Txt K mg t):CF K t.xV t.kJ:=⟨T.Fe,T.ZJ,T.Xt,T.Xs,T.ZX,T.Jj,T.Xl⟩
theorem tD {K:Sd} {mg:Str→Option Sr} {t:z5} (T:Txt K mg t):CF K t.qG t.jO:=⟨T.Yz,T.nE,T.ZG,T.ZY,T.nA,T.i4,T.nC⟩
theorem Vi {K:Sd} {mg:Str→Option Sr} {t:z5} (T:Txt K mg t):CF K t.qX t.z6:=⟨T.Ve,T.sv,T.iO,T.iN,T.sy,T.nT,T.VA⟩
theorem tU {K:Sd} {mg:Str→Option Sr} {t:z5} (T:Txt K mg t) (k:Int):∃fI,CF K (y7 t k) fI:=by
 unfold y7
 split
 ·exact⟨_,aI T⟩
 split
 ·exact⟨_,tM T⟩
 split
 ·exact⟨_,JE T⟩
 split
 ·exact⟨_,tD T⟩
 ·exact⟨_,Vi T⟩
section
variable {K:Sd} {mg:Str→Option Sr} {t:z5} {H:Hp} {p:Addr} {k:Int} {l w a:Str} {n:Int} {r:Str} {Q:VK}
theorem At.fl (T:Txt K mg t) (h:At t H p k l w a n r):eV K H (.ref p) "label" (.str l):=by
 obtain⟨dx,e⟩:=h
 obtain⟨fI,F⟩:=tU T k
 exact⟨p,_,dx,_,rfl,e,F.cl,F.nl,Xq _ _ _ _ _ _⟩
theorem At.fw (T:Txt K mg t) (h:At t H p k l w a n r):eV K H (.ref p) "who" (.str w):=by
 obtain⟨dx,e⟩:=h
 obtain⟨fI,F⟩:=tU T k
 exact⟨p,_,dx,_,rfl,e,F.cl,F.nw,Yl _ _ _ _ _ _⟩
theorem At.fa (T:Txt K mg t) (h:At t H p k l w a n r):eV K H (.ref p) "act" (.str a):=by
 obtain⟨dx,e⟩:=h
 obtain⟨fI,F⟩:=tU T k
 exact⟨p,_,dx,_,rfl,e,F.cl,F.na,Yr _ _ _ _ _ _⟩
theorem At.ft (T:Txt K mg t) (h:At t H p 0 l w a n r):eV K H (.ref p) "turns" (.int n):=by
 obtain⟨dx,e⟩:=h
 obtain⟨fI,F⟩:=tU T 0
 exact⟨p,_,dx,_,rfl,e,F.cl,F.nt,Xj _ _ _ _ _⟩
theorem At.fr (T:Txt K mg t) (h:At t H p k l w a n r) (hk:k=0∨k=2∨k=3):eV K H (.ref p) "room" (.str r):=by
 obtain⟨dx,e⟩:=h
 obtain⟨fI,F⟩:=tU T k
 exact⟨p,_,dx,_,rfl,e,F.cl,F.nr,VG hk _ _ _ _ _⟩
end
section
variable {P:SM} {w:Tj} {K:Sd} {mg:Str→Option Sr} {base:Heap} {t:z5}
theorem ik:zd ["self","label","who","act"] ["self","label","who","act"] (zy mB):=by walk_at "sc"
theorem jF (T:Txt K mg t):zo P w K mg base zC 1 t.z6 t.jy ["self","label","who","act"] (We K):=by
 refine T.xK.fn.ok ik (by walk_at "ln") ?_;walk_at "hd"
 obtain⟨p,C,dx,fI,l,w,a,rfl,F,hp,k⟩:=h
 refine⟨_,(zj (qI (pv 0) (pv 1) rfl)
   (zj (qI (pv 0) (pv 2) rfl)
   (zk (qI (pv 0) (pv 3) rfl)))),?_⟩
 refine⟨_,rfl,_,rfl,p,C,dx,[],rfl,hp,F.cl,F.nl,(by show 0 < 1000;decide),?_⟩
 refine⟨_,rfl,_,rfl,p,C,dx,_,rfl,zm,F.cl,F.nw,(by show 1 < 1000;decide),?_⟩
 refine⟨_,rfl,_,rfl,p,C,dx,_,rfl,zm,F.cl,F.na,?_,?_⟩
 ·have:=jd ("who" : Str) (.str w) (zB "label" (.str l) [])
  have e:(zB ("label" : Str) (.str l) []).length=1:=rfl
  omega
 ·rw[yW,yW,put3]
  exact k
theorem Z7:zd ["self","label","who","act","turns","room"] ["self","label","who","act","turns","room"] (zy lP):=by walk_at "sc"
theorem cS (T:Txt K mg t):zo P w K mg base zC 2 t.xG t.yd ["self","label","who","act","turns","room"] (MS K):=by
 have G_Clause_init:zo P w K mg base zC 1 t.z6 t.jy ["self","label","who","act"] (We K):=(jF T).mono (by decide)
 refine T.uV.fn.ok Z7 (by walk_at "ln") ?_;walk_at "hd"
 obtain⟨p,C,dx,fI,l,w,a,n,r,rfl,F,hp,k⟩:=h
 refine⟨_,(zj (zO (oW rfl T.Q6 T.eP G_Clause_init hr T.xK.bd .nil zJ (zz (pv 0) (zz (pv 1) (zz (pv 2) (zz (pv 3) zq))))))
   (zj (qI (pv 0) (pv 4) rfl)
   (zk (qI (pv 0) (pv 5) rfl)))),?_⟩
 refine⟨_,rfl,_,rfl,_,rfl,_,rfl,p,C,dx,fI,l,w,a,rfl,F,hp,?_⟩
 refine⟨_,rfl,_,rfl,p,C,dx,_,rfl,zm,F.cl,F.nt,(by show 3 < 1000;decide),?_⟩
 refine⟨_,rfl,_,rfl,p,C,dx,_,rfl,zm,F.cl,F.nr,?_,?_⟩
 ·have:=jd ("turns" : Str) (.int n) (f3 l w a)
  have e:(f3 l w a).length=3:=rfl
  omega
 ·rw[yW,yW,UO]
  exact k
theorem JK:zd ["self","label","who","act","room"] ["self","label","who","act","room"] (zy oM):=by walk_at "sc"
theorem lV (T:Txt K mg t):zo P w K mg base zC 2 t.kJ t.gH ["self","label","who","act","room"] (Wa K):=by
 have G_Clause_init:zo P w K mg base zC 1 t.z6 t.jy ["self","label","who","act"] (We K):=(jF T).mono (by decide)
 refine T.tJ.fn.ok JK (by walk_at "ln") ?_;walk_at "hd"
 obtain⟨p,C,dx,fI,l,w,a,r,rfl,F,hp,k⟩:=h
 refine⟨_,(zj (zO (oW rfl T.Q6 T.eP G_Clause_init hr T.xK.bd .nil zJ (zz (pv 0) (zz (pv 1) (zz (pv 2) (zz (pv 3) zq))))))
   (zk (qI (pv 0) (pv 4) rfl))),?_⟩
 refine⟨_,rfl,_,rfl,_,rfl,_,rfl,p,C,dx,fI,l,w,a,rfl,F,hp,?_⟩
 refine⟨_,rfl,_,rfl,p,C,dx,_,rfl,zm,F.cl,F.nr,(by show 3 < 1000;decide),?_⟩
 rw[yW,Cr]
 exact k
theorem eh:zd ["self","label","who","act","room"] ["self","label","who","act","room"] (zy uk):=by walk_at "sc"
theorem mK (T:Txt K mg t):zo P w K mg base zC 2 t.jO t.vL ["self","label","who","act","room"] (Wa K):=by
 have G_Clause_init:zo P w K mg base zC 1 t.z6 t.jy ["self","label","who","act"] (We K):=(jF T).mono (by decide)
 refine T.mI.fn.ok eh (by walk_at "ln") ?_;walk_at "hd"
 obtain⟨p,C,dx,fI,l,w,a,r,rfl,F,hp,k⟩:=h
 refine⟨_,(zj (zO (oW rfl T.Ze T.Yj G_Clause_init hr T.xK.bd .nil zJ (zz (pv 0) (zz (pv 1) (zz (pv 2) (zz (pv 3) zq))))))
   (zk (qI (pv 0) (pv 4) rfl))),?_⟩
 refine⟨_,rfl,_,rfl,_,rfl,_,rfl,p,C,dx,fI,l,w,a,rfl,F,hp,?_⟩
 refine⟨_,rfl,_,rfl,p,C,dx,_,rfl,zm,F.cl,F.nr,(by show 3 < 1000;decide),?_⟩
 rw[yW,Cr]
 exact k
theorem jZ {H:Hp} {x dx:Addr} {o o':HO} (hx:H x=none) (hdx:H dx=none) (hne:dx≠x):zp H (upd (upd (upd H dx (.own x)) x o) x o'):=by
 rw[yW]
 exact(zp.V1 hdx).new (by rw[zG (TH hne)];exact hx)
theorem Ke:jE.length=10∧jE.cps.toList=[48,49,50,51,52,53,54,55,56,57]:=by decide +kernel
theorem KI:z4.length=26∧z4.cps.toList.length=26∧∀c∈z4.cps.toList,c < 128:=by decide +kernel
def has (z:Str) (c:Nat):Bool:=!(Ot z ⟨#[c]⟩ 0 z.length 1).isEmpty
def bC (x z:Str) (m:Int):Bool:=decide (1≤x.length) && decide ((x.length:Int)≤m) && x.cps.toList.all (has z)
def zZ (x:Str):Bool:=bC x z4 8 && !Qt (.str x) (gT.map V.str)
theorem VU:(gT.map V.str).all pF=true:=by decide +kernel
theorem QL (c:Nat):has jE c=decide (48≤c∧c≤57):=by
 unfold has
 rw[Ee,Ke.2]
 by_cases h:48≤c∧c≤57
 ·rw[zjx h]
  simp
  omega
 ·rw[decide_eq_false h]
  simp
  omega
def gE (x:Str):Int:=if bC x jE 20=true∧x.cps.toList.head?≠some 48 then ((NN x.cps.toList:Nat):Int) else 0
def X7:Sp:=λvs H Q _=>∃(x z:Str) (m:Int),vs=[.str x,.str z,.int m]∧x.length≤400∧z.length≤100∧∀H',zp H H'→Q (.bl (bC x z m)) H'
def Qy:Sp:=λvs H Q _=>∃(x:Str),vs=[.str x]∧x.length≤400∧∀H',zp H H'→Q (.bl (zZ x)) H'
def GL:Sp:=λvs H Q _=>∃(x:Str),vs=[.str x]∧x.length≤400∧∀H',zp H H'→Q (.int (gE x)) H'
theorem W2 {x z:Str} {bs:List Bool} (hl:bs.length=x.length) (h:∀(i:Nat) (c:Nat) (b:Bool),x.cps.toList[i]?=some c→bs[i]?=some b→b=has z c):bs.all id=x.cps.toList.all (has z):=by
 have e:bs=x.cps.toList.map (has z):=by
  apply Ir
  intro i
  rw[SW]
  cases q:x.cps.toList[i]? with
  | none=>
   have:x.cps.toList.length≤i:=T4.mp q
   exact T4.mpr (by rw[hl];simpa [ND] using this)
  | some c=>
   have hi:i < bs.length:=by
    rw[hl]
    have:=(S3.mp q).1
    simpa [ND] using this
   rw[Sn hi,Ng,h i c _ q (Sn hi)]
 rw[e,zqo]
 rfl
theorem lS {x:Str} {m:Int} (h:bC x jE m=true):1≤x.length∧(x.length:Int)≤m∧Ig x.cps.toList:=by
 unfold bC at h
 rw[Te,Te] at h
 obtain⟨⟨h1,h2⟩,h3⟩:=h
 refine⟨zjj h1,zjj h2,λc hc=>?_⟩
 have:=Nt.mp h3 c hc
 rw[QL] at this
 exact zjj this
theorem QP {x:Str} (h:1≤x.length):∃c,x.cps.toList.head?=some c∧vC x.cps.toList 0=some c:=by
 have hl:0 < x.cps.toList.length:=by have h':1≤x.cps.size:=h;rw[ID];omega
 cases e:x.cps.toList with
 | nil=>rw[e] at hl;simp at hl
 | cons c r=>exact⟨c,rfl,kT (xs:=c :: r) (j:=0) (v:=c) rfl⟩
theorem Mb (c d:Nat):decide (V.str ⟨#[c]⟩=V.str ⟨#[d]⟩)=decide (c=d):=by
 by_cases h:c=d
 ·subst h;simp
 ·have:¬(V.str ⟨#[c]⟩=V.str ⟨#[d]⟩):=λq=>h (by injection q with q;injection q with q;simpa using q)
  rw[decide_eq_false this,decide_eq_false h]
theorem Hc:("0" : Str)=⟨#[48]⟩:=by decide +kernel
theorem Bq (T:Txt K mg t) (H:Hp):jo K H t.Zl (gT.map V.str):=.inr T.Mh
theorem uu:zd ["word","signs","most"] ["word","signs","most"] (zy kD):=by walk_at "sc"
theorem yi (T:Txt K mg t):zo P w K mg base zC 1 t.jI t.jN ["word","signs","most"] X7:=by
 refine T.jk.fn.ok uu (by walk_at "ln") ?_;walk_at "hd"
 obtain⟨x,z,m,rfl,hx,hz,k⟩:=h
 refine⟨_,(zj (zW (PW.pt (vF (zc Gk (zX cy rfl T.qo S5 (zz (pv 0) zq)) zx (zQ _)) (kM (zc mY (zX cy rfl T.qo S5 (zz (pv 0) zq)) (pv 2) (zQ _)))))
    (zk (zf xF)) zr)
   (zk (zf (zX (yG rfl) rfl T.W6 Ie (zz (cA (osc:=zy kD) (N:=["word","signs","most"]) (names:=["signs"]) (zU:=[1]) rfl rfl rfl ⟨rfl,by decide +kernel,by decide +kernel,by decide +kernel,rfl,rfl,by decide +kernel,by decide +kernel⟩ (MZ (pv 0)) (λ_ _ _=>(ye Ww (pv 0) (pv 1) rfl))) zq))))),?_⟩
 refine⟨_,rfl,x,rfl,zg (by omega),_,_,rfl,rfl,_,rfl,?_⟩
 refine zD (λh1=>cH ?_) (λh1=>?_)
 ·have e:bC x z m=false:=by
   have:¬(1≤x.length):=by have:=zjj h1;omega
   simp [bC,this]
  have:=k H (zp.refl H)
  rw[e] at this
  exact this
 refine⟨_,rfl,x,rfl,zg (by omega),_,rfl,_,_,rfl,rfl,_,rfl,?_⟩
 refine zD (λh2=>?_) (λh2=>?_)
 ·have e:bC x z m=false:=by
   have:¬((x.length:Int)≤m):=by have:=zjj h2;omega
   simp [bC,this]
  have:=k H (zp.refl H)
  rw[e] at this
  exact this
 have e1:1≤x.length:=by have:¬((x.length:Int) < 1):=λq=>h1 (zjx q);omega
 have e2:(x.length:Int)≤m:=by have:¬(m < (x.length:Int)):=λq=>h2 (zjx q);omega
 refine⟨_,rfl,x,rfl,b9 (GJ (z:=x)) (λ_ y v=>∀c,y=.str ⟨#[c]⟩→v=.bl (has z c)) (zg (by simp [ND] at hx ⊢;omega)) ?_ ?_⟩
 ·intro i y H' Q' hy s' kk
  rw[SW] at hy
  cases q:x.cps.toList[i]? with
  | none=>rw[q] at hy;cases hy
  | some c=>
   rw[q] at hy
   cases hy
   refine⟨_,rfl,_,rfl,_,_,rfl,rfl,kk _ _ (zp.refl _) λc' e=>?_⟩
   have:c=c':=by simpa using e
   subst this
   rfl
 ·intro D H' ys s' hD hy hlen hp
  have hlen':ys.length=x.length:=by simpa [ND] using hlen
  obtain⟨bs,rfl⟩:=aS ys λv hv=>by
   obtain⟨i,hi,e⟩:=O3 hv
   have hix:i < x.cps.toList.length:=by rw[hlen'] at hi;simpa [ND] using hi
   exact⟨_,hp i _ v (by rw[SW,Sn hix];rfl) (by rw[Sn hi,e]) _ rfl⟩
  refine⟨D,bs,rfl,zK.of hy,?_⟩
  have e3:bs.all id=x.cps.toList.all (has z):=W2 (by simpa using hlen') λi c b q1 q2=>by
   have:=hp i (.str ⟨#[c]⟩) (.bl b) (by rw[SW,q1];rfl) (by rw[SW,q2];rfl) c rfl
   simpa using this
  have:=k H' s'
  rw[show bC x z m=bs.all id by rw[e3];simp [bC,e1,e2]] at this
  exact this
theorem Qz:zd ["word"] ["word"] (zy lD):=by walk_at "sc"
theorem gA (T:Txt K mg t):zo P w K mg base zC 2 t.vt t.vd ["word"] Qy:=by
 have G_v_written_with:zo P w K mg base zC 1 t.jI t.jN ["word","signs","most"] X7:=(yi T).mono (by decide)
 refine T.jz.fn.ok Qz (by walk_at "ln") ?_;walk_at "hd"
 obtain⟨x,rfl,hx,k⟩:=h
 refine⟨_,(zk (zf (ZT (ze G_v_written_with hr rfl T.jk.mg T.jk.fn.kp T.jk.bd .nil zJ (zz (pv 0) (zz (qO rfl (T.VB).choose_spec (v:=.str z4) ⟨_,rfl⟩) (zz (qO rfl (T.nW).choose_spec (v:=.int 8) ⟨_,rfl⟩) zq)))) (oY (ye (fF (K:=K) rfl) (pv 0) (qO rfl T.FR (v:=.ref t.Zl) rfl) rfl))))),?_⟩
 refine⟨_,rfl,x,z4,8,rfl,hx,by decide +kernel,λH' s'=>⟨_,rfl,?_⟩⟩
 refine zD (λh1=>?_) (λh1=>?_)
 ·refine⟨_,rfl,_,_,rfl,.inr (Bq T H'),rfl,VU,?_⟩
  have:=k H' s'
  rw[show zZ x = !Qt (.str x) (gT.map V.str) by simp [zZ,h1]] at this
  exact this
 ·have:=k H' s'
  rw[show zZ x=false by simp [zZ,h1]] at this
  exact this
theorem il:zd ["word"] ["word"] (zy mS):=by walk_at "sc"
theorem p4 (T:Txt K mg t):zo P w K mg base zC 2 t.vx t.kA ["word"] GL:=by
 have G_v_written_with:zo P w K mg base zC 1 t.jI t.jN ["word","signs","most"] X7:=(yi T).mono (by decide)
 refine T.jC.fn.ok il (by walk_at "ln") ?_;walk_at "hd"
 obtain⟨x,rfl,hx,k⟩:=h
 refine⟨_,(zj (zW (PW.pt (vF (jh (qt (ze G_v_written_with hr rfl T.jk.mg T.jk.fn.kp T.jk.bd .nil zJ (zz (pv 0) (zz (qO rfl (T.VH).choose_spec (v:=.str jE) ⟨_,rfl⟩) (zz (qO rfl (T.nV).choose_spec (v:=.int 20) ⟨_,rfl⟩) zq)))))) (kM (zc qj (zu Zr (pv 0) zx (λ_ _=>rfl)) zw (zQ _)))))
    (zk (zf zx)) zr)
   (zk (zf (qz yH rfl T.Kc OD (zz (pv 0) zq))))),?_⟩
 refine⟨_,rfl,x,jE,20,rfl,hx,by rw[Ke.1];decide,λH' s'=>⟨_,rfl,?_⟩⟩
 cases hw:bC x jE 20 with
 | false=>
  refine cH (cH ?_)
  have:=k H' s'
  rw[show gE x=0 by unfold gE;rw[if_neg (by rw[hw];simp)]] at this
  exact this
 | true=>
  refine nH ?_
  obtain⟨h1,h2,h3⟩:=lS hw
  obtain⟨c,e1,e2⟩:=QP h1
  refine⟨_,rfl,x,_,c,rfl,rfl,zg (by omega),e2,rfl,_,rfl,?_⟩
  have hz:=Mb c 48
  rw[←Hc] at hz
  refine zD (λh4=>?_) (λh4=>?_)
  ·have h4':decide (V.str ⟨#[c]⟩=V.str ("0" : Str))=true:=h4
   rw[hz] at h4'
   have hc:c=48:=zjj h4'
   have:=k H' s'
   rw[show gE x=0 by unfold gE;rw[if_neg (by rw[e1,hc];simp)]] at this
   exact this
  ·have hc:c≠48:=λq=>h4 (by show decide (V.str ⟨#[c]⟩=V.str ("0" : Str))=true;rw[hz];exact zjx q)
   have hne:x.cps.toList≠[]:=λq=>by rw[q] at e1;cases e1
   refine⟨_,rfl,x,_,rfl,Al h3 hne (by omega),by omega,?_⟩
   have:=k H' s'
   rw[show gE x=((NN x.cps.toList:Nat):Int) by unfold gE;rw[if_pos ⟨hw,by rw[e1];simpa using hc⟩]] at this
   exact this
end
local macro_rules | `(tactic| walk_at "at")=>`(tactic| first | assumption | exact At.same (by assumption) (by walk_at "sm"))
local macro_rules | `(tactic| walk_at "fld")=>`(tactic| first
 | with_reducible exact At.fl (by assumption) (by walk_at "at") | with_reducible exact At.fw (by assumption) (by walk_at "at") | with_reducible exact At.fa (by assumption) (by walk_at "at")
 | with_reducible exact At.ft (by assumption) (by walk_at "at") | with_reducible exact At.fr (by assumption) (by walk_at "at") (by first | assumption | omega))
section
variable {P:SM} {w:Tj} {K:Sd} {mg:Str→Option Sr} {base:Heap} {t:z5}
def vn (x p:Str):Bool:=if p = "NAME" then zZ x else if p = "WHO" then zZ x || decide (x = "any") else if p = "NUMBER" then decide (gE x > 0) else decide (x=p)
def jJ (ws fs:List Str):Bool:=decide (ws.length=fs.length) && (ws.zip fs).all λp=>vn p.1 p.2
def f9 (ws:List Str) (m:Int):Bool:=decide (1≤ws.length) && decide ((ws.length:Int)≤m) && ws.all zZ
structure Sh (ws:List Str):Prop where
 Zy:ws.length≤200
 short:∀x∈ws,x.length≤400
theorem Sh.drop {ws:List Str} (h:Sh ws) (n:Nat):Sh (ws.drop n):=⟨by have:=h.Zy;rw[Nb];omega,λx hx=>h.short x (IH hx)⟩
theorem Sh.take {ws:List Str} (h:Sh ws) (n:Nat):Sh (ws.take n):=⟨by have:=h.Zy;rw[S8];omega,λx hx=>h.short x (Nu hx)⟩
theorem ui (a b:Str):decide (V.str a=V.str b)=decide (a=b):=by
 by_cases h:a=b
 ·subst h;simp
 ·have:¬(V.str a=V.str b):=λq=>h (by injection q)
  rw[decide_eq_false this,decide_eq_false h]
theorem sE {a b:Str} (h:decide (V.str a=V.str b)=true):a=b:=by rw[ui] at h;exact zjj h
theorem tj {a b:Str} (h:¬decide (V.str a=V.str b)=true):a≠b:=λq=>h (by rw[ui];exact zjx q)
theorem Vf {a b:Str} (h:(!decide (V.str a=V.str b))=true):a≠b:=λq=>by subst q;simp at h
theorem Vp {a b:Str} (h:¬(!decide (V.str a=V.str b))=true):a=b:=by
 rw[ui] at h
 by_cases q:a=b
 ·exact q
 ·exact absurd (by rw[decide_eq_false q];rfl) h
theorem om {b:Bool} (h:(!b)=true):b=false:=by cases b;rfl;cases h
theorem oh {b:Bool} (h:¬(!b)=true):b=true:=by cases b;exact absurd rfl h;rfl
theorem rN {ws:List Str} {i:Nat} (h:i < ws.length):ws.getD i ""∈ws:=by
 rw[Tx,Sn h]
 exact N4 h
def Vg:Sp:=λvs H Q _=>∃(x p:Str),vs=[.str x,.str p]∧x.length≤400∧∀H',zp H H'→Q (.bl (vn x p)) H'
def Qk (K:Sd):Sp:=λvs H Q _=>∃(a b:Addr) (ws fs:List Str),vs=[.ref a,.ref b]∧zK K H a (ws.map V.str)∧zK K H b (fs.map V.str)∧Sh ws∧∀H',zp H H'→Q (.bl (jJ ws fs)) H'
def GY (K:Sd):Sp:=λvs H Q _=>∃(a:Addr) (m:Int) (ws:List Str),vs=[.ref a,.int m]∧zK K H a (ws.map V.str)∧Sh ws∧∀H',zp H H'→Q (.bl (f9 ws m)) H'
theorem all_map {α:Type} {xs:List α} {bs:List Bool} {f:α→Bool} (hl:bs.length=xs.length) (h:∀(i:Nat) x b,xs[i]?=some x→bs[i]?=some b→b=f x):bs.all id=xs.all f:=by
 have e:bs=xs.map f:=by
  apply Ir
  intro i
  rw[SW]
  cases q:xs[i]? with
  | none=>exact T4.mpr (by rw[hl];exact T4.mp q)
  | some c=>
   have hi:i < bs.length:=by rw[hl];exact(S3.mp q).1
   rw[Sn hi,Ng,h i c _ q (Sn hi)]
 rw[e,zqo]
 rfl
theorem sJ:zd ["word","place"] ["word","place"] (zy ff):=by walk_at "sc"
theorem sd (T:Txt K mg t):zo P w K mg base zC 3 t.wB t.wJ ["word","place"] Vg:=by
 have G_v_is_name:zo P w K mg base zC 2 t.vt t.vd ["word"] Qy:=(gA T).mono (by decide)
 have G_v_number_of:zo P w K mg base zC 2 t.vx t.kA ["word"] GL:=(p4 T).mono (by decide)
 refine T.wj.fn.ok sJ (by walk_at "ln") ?_;walk_at "hd"
 obtain⟨x,p,rfl,hx,k⟩:=h
 refine⟨_,(zj (zW (zc qj (pv 1) zw (zQ _))
    (zk (zf (ze G_v_is_name hr rfl T.jz.mg T.jz.fn.kp T.jz.bd .nil zJ (zz (pv 0) zq)))) zr)
   (zj (zW (zc qj (pv 1) zw (zQ _))
    (zk (zf (Cm (ze G_v_is_name hr rfl T.jz.mg T.jz.fn.kp T.jz.bd .nil zJ (zz (pv 0) zq)) (oY (ye qj (pv 0) zw (zQ _)))))) zr)
   (zj (zW (zc qj (pv 1) zw (zQ _))
    (zk (zf (ye mY (ze G_v_number_of hr rfl T.jC.mg T.jC.fn.kp T.jC.bd .nil zJ (zz (pv 0) zq)) zx (zQ _)))) zr)
   (zk (zf (ye qj (pv 0) (pv 1) (zQ _))))))),?_⟩
 walk_at "rd"
 refine zD (λh1=>?_) (λh1=>?_)
 ·have e:=sE h1
  subst e
  walk_at "rd"
  intro H' s'
  have:=k H' s'
  unfold vn at this
  rw[if_pos rfl] at this
  exact this
 have n1:=tj h1
 walk_at "rd"
 refine zD (λh2=>?_) (λh2=>?_)
 ·have e:=sE h2
  subst e
  walk_at "rd"
  intro H' s'
  have:=k H' s'
  unfold vn at this
  rw[if_neg n1,if_pos rfl] at this
  refine⟨_,rfl,?_⟩
  refine zD (λh3=>?_) (λh3=>?_)
  ·rw[h3] at this;exact this
  ·walk_at "rd"
   rw[ui]
   rw[Bool.eq_false_iff.mpr h3] at this
   exact this
 have n2:=tj h2
 walk_at "rd"
 refine zD (λh3=>?_) (λh3=>?_)
 ·have e:=sE h3
  subst e
  walk_at "rd"
  intro H' s'
  walk_at "rd"
  have:=k H' s'
  unfold vn at this
  rw[if_neg n1,if_neg n2,if_pos rfl] at this
  exact this
 have n3:=tj h3
 walk_at "rd"
 have:=k H (zp.refl H)
 unfold vn at this
 rw[if_neg n1,if_neg n2,if_neg n3] at this
 rw[ui]
 exact this
theorem ir:zd ["words","form"] ["words","form"] (zy yE):=by walk_at "sc"
theorem yz (T:Txt K mg t):zo P w K mg base zC 4 t.xm t.xb ["words","form"] (Qk K):=by
 have G_v_fits_place:zo P w K mg base zC 3 t.wB t.wJ ["word","place"] Vg:=(sd T).mono (by decide)
 refine T.zN.fn.ok ir (by walk_at "ln") ?_;walk_at "hd"
 obtain⟨a,b,ws,fs,rfl,hA,hB,hS,k⟩:=h
 refine⟨_,(zj (zW (zc cE (zX (zH (K:=K) rfl) rfl T.qo S5 (zz (pv 0) zq)) (zX (zH (K:=K) rfl) rfl T.qo S5 (zz (pv 1) zq)) (zQ _))
    (zk (zf xF)) zr)
   (zk (zf (zX (yG rfl) rfl T.W6 Ie (zz (wg (osc:=zy yE) (N:=["words","form"]) (xs:=["word","place"]) (names:=[]) (zU:=[]) rfl rfl rfl ⟨rfl,by decide +kernel,by decide +kernel,by decide +kernel,by decide +kernel,rfl,by decide +kernel,by decide +kernel⟩ (BZ (K:=K) rfl rfl T.DU (zz (pv 0) (zz (pv 1) zq)) zqQ) (λ_ _ _=>(vI (K:=K) (n:=2) rfl rfl (qu (zM (i:=0) (show (["word","place"]:List Str).Nodup from by decide +kernel) rfl (.inl (yy rfl)) (.inr (yy rfl))) (qu (zM (i:=1) (show (["word","place"]:List Str).Nodup from by decide +kernel) rfl (.inl (yy rfl)) (.inr (yy rfl))) vE)) rfl rfl)) (λ_ _ _=>sL) (λ_ _ _=>(ze G_v_fits_place hr rfl T.wj.mg T.wj.fn.kp T.wj.bd .nil zJ (zz (pv 0) (zz (pv 1) zq))))) zq))))),?_⟩
 refine⟨_,rfl,a,_,rfl,.inl hA,_,rfl,b,_,rfl,.inl hB,rfl,_,rfl,?_⟩
 rw[Su,Su]
 refine zD (λh1=>?_) (λh1=>?_)
 ·have:=k H (zp.refl H)
  have e:¬ws.length=fs.length:=by
   intro q;rw[q] at h1;simp at h1
  unfold jJ at this
  rw[decide_eq_false e] at this
  exact this
 have hl:ws.length=fs.length:=by
  by_cases q:ws.length=fs.length
  ·exact q
  ·exact absurd (by simp;omega) h1
 refine⟨_,rfl,_,rfl,a,b,_,_,rfl,hA,hB,?_⟩
 refine Yx hA hB (λx y v=>∀x' y',x=.str x'→y=.str y'→v=.bl (vn x' y')) (zg (by have:=hS.Zy;rw[Su];omega)) ?_ ?_
 ·intro i x y H' Q' e1 e2 s' kk
  rw[SW] at e1 e2
  cases q1:ws[i]? with
  | none=>rw[q1] at e1;cases e1
  | some x'=>
   cases q2:fs[i]? with
   | none=>rw[q2] at e2;cases e2
   | some y'=>
    rw[q1] at e1
    rw[q2] at e2
    cases e1
    cases e2
    refine⟨_,rfl,_,rfl,x',y',rfl,hS.short x' (SN q1),λH4 s4=>kk _ _ s4 λa b ea eb=>?_⟩
    cases ea
    cases eb
    rfl
 ·intro D H' vs s' hD hv hvl hp
  rw[Su,Su,hl,zqi] at hvl
  obtain⟨bs,rfl⟩:=aS vs λv hv'=>by
   obtain⟨i,hi,e⟩:=O3 hv'
   have h1:i < ws.length:=by omega
   have h2:i < fs.length:=by omega
   exact⟨_,hp i _ _ v (by rw[SW,Sn h1];rfl) (by rw[SW,Sn h2];rfl) (by rw[Sn hi,e]) _ _ rfl rfl⟩
  refine⟨D,bs,rfl,zK.of hv,?_⟩
  have e:bs.all id=(ws.zip fs).all λp=>vn p.1 p.2:=all_map (by rw[List.length_zip,hl,zqi];simpa using hvl) λi p b q1 q2=>by
   rw[List.getElem?_zip_eq_some] at q1
   have:=hp i _ _ (.bl b) (by rw[SW,q1.1];rfl) (by rw[SW,q1.2];rfl) (by rw[SW,q2];rfl) _ _ rfl rfl
   simpa using this
  have:=k H' s'
  unfold jJ at this
  rw[zjx hl,←e] at this
  exact this
theorem iu:zd ["words","most"] ["words","most"] (zy yI):=by walk_at "sc"
theorem pA (T:Txt K mg t):zo P w K mg base zC 3 t.vj t.kI ["words","most"] (GY K):=by
 have G_v_is_name:zo P w K mg base zC 2 t.vt t.vd ["word"] Qy:=(gA T).mono (by decide)
 refine T.jD.fn.ok iu (by walk_at "ln") ?_;walk_at "hd"
 obtain⟨a,m,ws,rfl,hA,hS,k⟩:=h
 refine⟨_,(zk (zf (ZT (Gw Pt Pt zx (zX (zH (K:=K) rfl) rfl T.qo S5 (zz (pv 0) zq)) (pv 1)) (oY (zX (yG rfl) rfl T.W6 Ie (zz (cA (osc:=zy yI) (N:=["words","most"]) (names:=[]) (zU:=[]) rfl rfl rfl ⟨rfl,by decide +kernel,by decide +kernel,by decide +kernel,rfl,rfl,by decide +kernel,by decide +kernel⟩ (qf (K:=K) rfl (pv 0)) (λ_ _ _=>(ze G_v_is_name hr rfl T.jz.mg T.jz.fn.kp T.jz.bd .nil zJ (zz (pv 0) zq)))) zq)))))),?_⟩
 walk_at "rd"
 refine⟨a,_,rfl,.inl hA,_,_,rfl,rfl,_,rfl,?_⟩
 rw[Su]
 have no:∀H',zp H H'→f9 ws m=false→Q (.bl false) H':=λH' s' e=>by have:=k H' s';rw[e] at this;exact this
 refine zD (λh1=>?_) (λh1=>?_)
 ·have h1':1≤ws.length:=by have:=zjj h1;omega
  refine⟨_,rfl,_,_,rfl,rfl,_,rfl,?_⟩
  refine zD (λh2=>?_) (λh2=>?_)
  ·have h2':(ws.length:Int)≤m:=zjj h2
   refine⟨_,rfl,a,rfl,⟨_,hA⟩,b9 (xC hA) (λ_ y v=>∀x,y=.str x→v=.bl (zZ x)) (zg (by have:=hS.Zy;rw[Su];omega)) ?_ ?_⟩
   ·intro i y H' Q' e1 s' kk
    rw[SW] at e1
    cases q1:ws[i]? with
    | none=>rw[q1] at e1;cases e1
    | some x'=>
     rw[q1] at e1
     cases e1
     exact⟨_,rfl,x',rfl,hS.short x' (SN q1),λH4 s4=>kk _ _ s4 λa ea=>by cases ea;rfl⟩
   ·intro D H' vs s' hD hv hvl hp
    rw[Su] at hvl
    obtain⟨bs,rfl⟩:=aS vs λv hv'=>by
     obtain⟨i,hi,e⟩:=O3 hv'
     have h1:i < ws.length:=by omega
     exact⟨_,hp i _ v (by rw[SW,Sn h1];rfl) (by rw[Sn hi,e]) _ rfl⟩
    refine⟨D,bs,rfl,zK.of hv,?_⟩
    have e:bs.all id=ws.all zZ:=all_map (by simpa using hvl) λi p b q1 q2=>by
     have:=hp i _ (.bl b) (by rw[SW,q1];rfl) (by rw[SW,q2];rfl) _ rfl
     simpa using this
    have:=k H' s'
    unfold f9 at this
    rw[zjx h1',zjx h2',←e] at this
    exact this
  ·refine no H (zp.refl H) ?_
   have:¬(ws.length:Int)≤m:=λq=>h2 (zjx q)
   simp [f9,this]
 ·refine⟨false,rfl,nH ?_⟩
  refine no H (zp.refl H) ?_
  have:¬1≤ws.length:=λq=>h1 (zjx (by omega))
  simp only[f9,decide_eq_false this,zzC]
def vi (x:Str):List Str:=NB x " "
theorem sI (x:Str):1≤(vi x).length∧(vi x).length≤x.length + 2:=⟨OV x " ",Av x " "⟩
theorem iK {x:Str} (h:x.length≤190):Sh (vi x):=⟨by have:=(sI x).2;omega,λy hy=>by have:=zql (x:=x) (y:=" ") hy;omega⟩
theorem we {α:Type} (f:α→V) (xs:List α) (n:Nat):cb (xs.map f) (some (n:Int)) none=(xs.drop n).map f:=by
 unfold cb
 rw[HT.sO,HT.Je,Su,←zqm,←EK]
 by_cases h:n≤xs.length
 ·rw[OB h,E4 (by rw[Nb];omega)]
 ·rw[zzZ (by omega),zzx,E5 (SD _),E5 (by omega)]
  rfl
theorem QY {α:Type} (f:α→V) (xs:List α) (n:Nat):cb (xs.map f) none (some (n:Int))=(xs.take n).map f:=by
 unfold cb
 rw[HT.sO,HT.Je,Su,Ep,Nat.sub_zero,←EK]
 by_cases h:n≤xs.length
 ·rw[OB h]
 ·rw[zzZ (by omega),T7,E4 (by omega)]
def wd (ws:List Str) (i:Nat):Str:=ws.getD i ""
def Yc:List Str:=["let","NAME","be","NAME"]
def ng:List Str:=["part","NAME"]
def KZ:List Str:=["NAME","NAME","must","NAME","by","NUMBER","else","NAME"]
def Zv:List Str:=["NAME","WHO","may","NAME"]
def HR:List Str:=["NAME","WHO","may","not","NAME","else","NAME"]
def J8:List Str:=["NAME","WHO","by","NAME","to","NAME"]
def xk (ws:List Str) (x:Str) (m:Int):List Str:=if wd ws 0≠x∨f9 (ws.drop 1) m=false then [] else ws.drop 1
def fz (ws:List Str):Option (Str × Str):=if ws.length=2∧Qt (.str (wd ws 0)) (zF.map V.str)=true∧zZ (wd ws 1)=true then some (wd ws 0,wd ws 1) else none
def VO (ws:List Str):Option (Str × Str):=if jJ ws Yc=true then some (wd ws 1,wd ws 3) else none
def kf (ws:List Str):Option (Str × List Str):=if jJ (ws.take 2) ng=true then (if ws.length=2 then some (wd ws 1,[]) else if wd ws 2≠"in"∨f9 (ws.drop 3) 12=false then none else some (wd ws 1,ws.drop 3)) else none
def qZ (ws:List Str):Option (Int × Str × Str × Str × Int × Str):=
 if jJ ws KZ=true then some (0,wd ws 0,wd ws 1,wd ws 3,gE (wd ws 5),wd ws 7)
 else if jJ ws Zv=true then some (1,wd ws 0,wd ws 1,wd ws 3,0,"")
 else if jJ ws HR=true then some (2,wd ws 0,wd ws 1,wd ws 4,0,wd ws 6)
 else if jJ ws J8=true then some (3,wd ws 0,wd ws 1,wd ws 3,0,wd ws 5)
 else none
theorem gk {ws fs:List Str} (h:jJ ws fs=true):ws.length=fs.length:=by
 unfold jJ at h
 rw[Te] at h
 exact zjj h.1
def Du (n v:Str):List (Str × V):=[("name",.str n),("value",.str v)]
def KY (n:Str) (a b:Addr):List (Str × V):=[("name",.str n),("rooms",.ref a),("rows",.ref b)]
theorem m1:¬(("name" : Str) = "value"):=by decide +kernel
theorem m2:¬(("name" : Str) = "rooms"):=by decide +kernel
theorem m3:¬(("name" : Str) = "rows"):=by decide +kernel
theorem m4:¬(("rooms" : Str) = "rows"):=by decide +kernel
theorem Ct (n v:Str):zB "value" (.str v) (zB "name" (.str n) [])=Du n v:=by
 simp only[zB,Du,if_neg m1]
theorem Cn (n:Str) (a b:Addr):zB "rows" (.ref b) (zB "rooms" (.ref a) (zB "name" (.str n) []))=KY n a b:=by
 simp only[zB,KY,if_neg m2,if_neg m3,if_neg m4]
def Fp (t:z5) (H:Hp) (p:Addr) (n v:Str):Prop:=∃dx,H p=some (.ins t.j8 dx (Du n v))
def WS (t:z5) (H0 H:Hp) (p:Addr) (n:Str) (rs:List Str) (ys:List V):Prop:=∃dx a b,H p=some (.ins t.zE dx (KY n a b))∧H a=some (.lst (rs.map V.str))∧H b=some (.lst ys)∧H0 a=none∧H0 b=none
abbrev Lg (t:z5) (H0 H:Hp) (p:Addr) (n:Str) (rs:List Str):Prop:=WS t H0 H p n rs []
theorem WS.back {t:z5} {H0 H1 H:Hp} {p:Addr} {n:Str} {rs:List Str} {ys:List V} (h:WS t H1 H p n rs ys) (s:zp H0 H1):WS t H0 H p n rs ys:=by
 obtain⟨dx,a,b,e1,e2,e3,f1,f2⟩:=h
 exact⟨dx,a,b,e1,e2,e3,s.free f1,s.free f2⟩
def Off (p:Addr) (H H':Hp):Prop:=∀b o,b≠p→H b=some o→H' b=some o
def MT (t:z5):Sp:=λvs H Q _=>∃(p dx:Addr) (n v:Str),vs=[.ref p,.str n,.str v]∧H p=some (.ins t.j8 dx [])∧Q .non (upd H p (.ins t.j8 dx (Du n v)))
def GD (K:Sd) (t:z5):Sp:=λvs H Q _=>∃(p dx a b:Addr) (n:Str) (xs:List Str) (ys:List V),vs=[.ref p,.str n,.ref a,.ref b]∧H p=some (.ins t.zE dx [])∧H a=some (.lst (xs.map V.str))∧H b=some (.lst ys)∧
 ∀H',Off p H H'→WS t H H' p n xs ys→Q .non H'
def PU:Sp:=λvs H Q _=>∃(x y:Str) (m:Int),vs=[.str x,.str y,.int m]∧x.length≤190∧∀l H',zp H H'→H l=none→H' l=some (.lst ((xk (vi x) y m).map V.str))→Q (.ref l) H'
def GI:Sp:=λvs H Q _=>∃(x:Str),vs=[.str x]∧x.length≤190∧∀H',zp H H'→(fz (vi x)=none→Q .non H')∧∀p m n,fz (vi x)=some (m,n)→H p=none→H' p=some (.tup [.str m,.str n])→Q (.ref p) H'
def PM (t:z5):Sp:=λvs H Q _=>∃(x:Str),vs=[.str x]∧x.length≤190∧∀H',zp H H'→(VO (vi x)=none→Q .non H')∧∀p n v,VO (vi x)=some (n,v)→H p=none→Fp t H' p n v→Q (.ref p) H'
def GN (t:z5):Sp:=λvs H Q _=>∃(x:Str),vs=[.str x]∧x.length≤190∧∀H',zp H H'→(kf (vi x)=none→Q .non H')∧∀p n rs,kf (vi x)=some (n,rs)→H p=none→Lg t H H' p n rs→Q (.ref p) H'
def JH (t:z5):Sp:=λvs H Q _=>∃(x:Str),vs=[.str x]∧x.length≤190∧∀H',zp H H'→(qZ (vi x)=none→Q .non H')∧∀p k l u a n r,qZ (vi x)=some (k,l,u,a,n,r)→H p=none→At t H' p k l u a n r→Q (.ref p) H'
theorem jA {H:Hp} {p dx:Addr} {o o2:HO} (hp:H p=none) (hdx:H dx=none):zp H (upd (upd H dx o) p o2):=λb u e=>by rw[zG (zh e hp),zG (zh e hdx)];exact e
theorem gh {H H':Hp} {p dx:Addr} {o o2:HO} (hp:H p=none) (hdx:H dx=none) (f:Off p (upd (upd H dx o) p o2) H'):zp H H':=λb u e=>f b u (zh e hp) (jA hp hdx b u e)
theorem Q8 (T:Txt K mg t) (H:Hp):jo K H t.fY (zF.map V.str):=.inr T.Bo
theorem Xu:(zF.map V.str).all pF=true:=by decide +kernel
theorem JV:zd ["self","name","value"] ["self","name","value"] (zy oU):=by walk_at "sc"
theorem lW (T:Txt K mg t):zo P w K mg base zC 1 t.wY t.gB ["self","name","value"] (MT t):=by
 refine T.tW.fn.ok JV (by walk_at "ln") ?_;walk_at "hd"
 obtain⟨p,dx,n,v,rfl,hp,k⟩:=h
 refine⟨_,(zj (qI (pv 0) (pv 1) rfl)
   (zk (qI (pv 0) (pv 2) rfl))),?_⟩
 refine⟨_,rfl,_,rfl,p,_,dx,[],rfl,hp,T.tR,T.lX,(by show 0 < 1000;decide),?_⟩
 refine⟨_,rfl,_,rfl,p,_,dx,_,rfl,zm,T.tR,T.cD,(by show 1 < 1000;decide),?_⟩
 rw[yW,Ct]
 exact k
theorem Z9:zd ["self","name","rooms","rows"] ["self","name","rooms","rows"] (zy lM):=by walk_at "sc"
theorem vO (T:Txt K mg t):zo P w K mg base zC 1 t.jW t.xY ["self","name","rooms","rows"] (GD K t):=by
 refine T.ko.fn.ok Z9 (by walk_at "ln") ?_;walk_at "hd"
 obtain⟨p,dx,a,b,n,xs,ys,rfl,hp,hA,hB,k⟩:=h
 refine⟨_,(zj (qI (pv 0) (pv 1) rfl)
   (zj (qI (pv 0) (qz (jP (K:=K) rfl) rfl T.ki TQ (zz (pv 2) zq)) rfl)
   (zk (qI (pv 0) (qz (jP (K:=K) rfl) rfl T.ki TQ (zz (pv 3) zq)) rfl)))),?_⟩
 have na:a≠p:=mX hA hp (by intro z;cases z)
 have nb:b≠p:=mX hB hp (by intro z;cases z)
 refine⟨_,rfl,_,rfl,p,_,dx,[],rfl,hp,T.kN,T.gN,(by show 0 < 1000;decide),?_⟩
 have o1:Off p H (upd H p (.ins t.zE dx (zB "name" (.str n) []))):=λc o hc e=>by rw[zG hc];exact e
 generalize hH1:upd H p (.ins t.zE dx (zB "name" (.str n) []))=H1 at o1 ⊢
 have e1:H1 p=some (.ins t.zE dx (zB "name" (.str n) [])):=by rw[←hH1];exact zm
 refine⟨_,rfl,a,_,rfl,.inl (zK.of (o1 _ _ na hA)),?_⟩
 intro q1 H2 s2 hq1 e2
 refine⟨_,rfl,p,_,dx,_,rfl,s2 _ _ e1,T.kN,T.yN,(by show 1 < 1000;decide),?_⟩
 have nq1:q1≠p:=TH (zh e1 hq1)
 have o2:Off p H2 (upd H2 p (.ins t.zE dx (zB "rooms" (.ref q1) (zB "name" (.str n) [])))):=λc o hc e=>by rw[zG hc];exact e
 generalize hH3:upd H2 p (.ins t.zE dx (zB "rooms" (.ref q1) (zB "name" (.str n) [])))=H3 at o2 ⊢
 have e3:H3 p=some (.ins t.zE dx (zB "rooms" (.ref q1) (zB "name" (.str n) []))):=by rw[←hH3];exact zm
 refine⟨_,rfl,b,_,rfl,.inl (zK.of (o2 _ _ nb (s2 _ _ (o1 _ _ nb hB)))),?_⟩
 intro q2 H4 s4 hq2 e4
 refine⟨_,rfl,p,_,dx,_,rfl,s4 _ _ e3,T.kN,T.gO,?_,?_⟩
 ·have:=jd ("rooms" : Str) (.ref q1) (zB "name" (.str n) [])
  have e:(zB ("name" : Str) (.str n) []).length=1:=rfl
  omega
 have nq2:q2≠p:=TH (zh e3 hq2)
 rw[Cn]
 refine k _ (λc o hc e=>by rw[zG hc];exact s4 _ _ (o2 _ _ hc (s2 _ _ (o1 _ _ hc e)))) ⟨dx,q1,q2,zm,?_,?_,?_,?_⟩
 ·rw[zG nq1];exact s4 _ _ (o2 _ _ nq1 e2)
 ·rw[zG nq2];exact e4
 ·rw[←hH1,zG nq1] at hq1;exact hq1
 ·have z:H2 q2=none:=by rw[←hH3,zG nq2] at hq2;exact hq2
  have z1:=s2.free z
  rw[←hH1,zG nq2] at z1;exact z1
theorem mN:zd ["row","word","most","words"] ["row","word","most"] (zy uh):=by walk_at "sc"
theorem i9 (T:Txt K mg t):zo P w K mg base zC 4 t.gR t.gP ["row","word","most"] PU:=by
 have G_v_are_names:zo P w K mg base zC 3 t.vj t.kI ["words","most"] (GY K):=(pA T).mono (by decide)
 refine T.bw.fn.ok mN (by walk_at "ln") ?_;walk_at "hd"
 obtain⟨x,y,m,rfl,hx,k⟩:=h
 refine⟨_,(zj (za (i:=3) mN.nd rfl (SA rfl) (qC T1 NY NG gf (pv 0) (zz zw zq)))
   (zj (zW (PW.pt (vF (zc cE (zu (zv (K:=K) rfl) (pv 3) zx (λ_ _=>rfl)) (pv 1) (zQ _)) (kM (jh (qt (ze G_v_are_names hr rfl T.jD.mg T.jD.fn.kp T.jD.bd .nil zJ (zz (qR (qD (K:=K) rfl) (pv 3) (qJ zx) kc) (zz (pv 2) zq))))))))
    (zk (zf (zP zq))) zr)
   (zk (zf (qR (qD (K:=K) rfl) (pv 3) (qJ zx) kc))))),?_⟩
 walk_at "rd"
 refine⟨zg (by omega),?_⟩
 intro lw H1 s1 hlw e1
 have hS:=iK hx
 have hl:=(sI x).1
 have e1':H1 lw=some (.lst ((vi x).map V.str)):=e1
 clear e1
 generalize vi x=ws at *
 walk_at "rd"
 refine zD (λh1=>?_) (λh1=>?_)
 ·have n:xk ws y m=[]:=if_pos (.inl (Vf h1))
  walk_at "rd"
  intro l H2 s2 hl2 e2
  exact k l H2 (s1.trans s2) (s1.free hl2) (by rw[n];exact e2)
 have w0:=Vp h1
 walk_at "rd"
 intro lc H2 s2 hlc e2
 replace e2:H2 lc=some (.lst ((ws.drop 1).map V.str)):=by rw[←we V.str ws 1];exact e2
 refine⟨_,rfl,lc,m,_,rfl,zK.of e2,hS.drop 1,λH3 s3=>?_⟩
 walk_at "rd"
 cases hN:f9 (ws.drop 1) m with
 | false=>
  refine cH ?_
  have n:xk ws y m=[]:=if_pos (.inr hN)
  walk_at "rd"
  intro l H4 s4 hl4 e4
  exact k l H4 (((s1.trans s2).trans s3).trans s4) (((s1.trans s2).trans s3).free hl4) (by rw[n];exact e4)
 | true=>
  refine nH ?_
  have n:xk ws y m=ws.drop 1:=if_neg (λq=>q.elim (λq=>q w0) (λq=>by rw[hN] at q;cases q))
  walk_at "rd"
  intro l H4 s4 hl4 e4
  replace e4:H4 l=some (.lst ((ws.drop 1).map V.str)):=by rw[←we V.str ws 1];exact e4
  exact k l H4 (((s1.trans s2).trans s3).trans s4) (((s1.trans s2).trans s3).free hl4) (by rw[n];exact e4)
theorem uc:zd ["row","words"] ["row"] (zy lU):=by walk_at "sc"
theorem ZU (T:Txt K mg t):zo P w K mg base zC 3 t.pG t.pe ["row"] GI:=by
 have G_v_is_name:zo P w K mg base zC 2 t.vt t.vd ["word"] Qy:=(gA T).mono (by decide)
 refine T.fS.fn.ok uc (by walk_at "ln") ?_;walk_at "hd"
 obtain⟨x,rfl,hx,k⟩:=h
 refine⟨_,(zj (za (i:=1) uc.nd rfl (SA rfl) (qC T1 NY NG gf (pv 0) (zz zw zq)))
   (zj (zW (PW.pt (vF (zc cE (zX (zH (K:=K) rfl) rfl T.qo S5 (zz (pv 1) zq)) zx (zQ _)) (vF (zc (fF (K:=K) rfl) (zu (zv (K:=K) rfl) (pv 1) zx (λ_ _=>rfl)) (qO rfl T.KG (v:=.ref t.fY) rfl) rfl) (kM (jh (qt (ze G_v_is_name hr rfl T.jz.mg T.jz.fn.kp T.jz.bd .nil zJ (zz (zu (zv (K:=K) rfl) (pv 1) zx (λ_ _=>rfl)) zq))))))))
    (zk (zf yj)) zr)
   (zk (zf (qx (zz (zu (zv (K:=K) rfl) (pv 1) zx (λ_ _=>rfl)) (zz (zu (zv (K:=K) rfl) (pv 1) zx (λ_ _=>rfl)) zq))))))),?_⟩
 walk_at "rd"
 refine⟨zg (by omega),?_⟩
 intro lw H1 s1 hlw e1
 have hS:=iK hx
 have e1':H1 lw=some (.lst ((vi x).map V.str)):=e1
 clear e1
 generalize vi x=ws at *
 refine⟨_,rfl,lw,_,rfl,.inl (zK.of e1'),rfl,_,rfl,?_⟩
 rw[Su]
 have no:∀H',zp H H'→fz ws=none→Q .non H':=λH' s' e=>(k H' s').1 e
 refine zD (λh1=>cH (no _ s1 (if_neg λq=>?_))) (λh1=>?_)
 ·rw[q.1] at h1;simp at h1
 have hl:ws.length=2:=by
  by_cases q:ws.length=2
  ·exact q
  ·exact absurd (by simp;omega) h1
 walk_at "rd"
 refine⟨_,_,rfl,.inr (Q8 T _),rfl,Xu,_,rfl,?_⟩
 refine zD (λh2=>cH (no _ s1 (if_neg λq=>?_))) (λh2=>?_)
 ·have z:Qt (.str (wd ws 0)) (zF.map V.str)=false:=om h2
  rw[z] at q
  cases q.2.1
 have hM:Qt (.str (wd ws 0)) (zF.map V.str)=true:=oh h2
 walk_at "rd"
 refine⟨hS.short _ (rN (by omega)),λH2 s2=>?_⟩
 walk_at "rd"
 refine zD (λh3=>no _ (s1.trans s2) (if_neg λq=>?_)) (λh3=>?_)
 ·have z:zZ (wd ws 1)=false:=om h3
  rw[z] at q
  cases q.2.2
 have hN:zZ (wd ws 1)=true:=oh h3
 walk_at "rd"
 intro p H3 s3 hp e3
 exact(k H3 ((s1.trans s2).trans s3)).2 p (wd ws 0) (wd ws 1) (if_pos ⟨hl,hM,hN⟩) ((s1.trans s2).free hp) e3
theorem lL:zd ["row","words"] ["row"] (zy oS):=by walk_at "sc"
theorem Jg (T:Txt K mg t):zo P w K mg base zC 5 t.dy t.m8 ["row"] (PM t):=by
 have G_v_fits_form:zo P w K mg base zC 4 t.xm t.xb ["words","form"] (Qk K):=(yz T).mono (by decide)
 have M_Let_init:zo P w K mg base zC 3 t.wY t.gB ["self","name","value"] (MT t):=(lW T).mono (by decide)
 refine T.ue.fn.ok lL (by walk_at "ln") ?_;walk_at "hd"
 obtain⟨x,rfl,hx,k⟩:=h
 refine⟨_,(zj (za (i:=1) lL.nd rfl (SA rfl) (qC T1 NY NG gf (pv 0) (zz zw zq)))
   (zj (zW (jh (qt (ze G_v_fits_form hr rfl T.zN.mg T.zN.fn.kp T.zN.bd .nil zJ (zz (pv 1) (zz (zP (zz zw (zz zw (zz zw (zz zw zq))))) zq)))))
    (zk (zf yj)) zr)
   (zk (zf (qP T.YN M_Let_init hr rfl T.YM T.tW.bd .nil zJ (zz (zu (zv (K:=K) rfl) (pv 1) zx (λ_ _=>rfl)) (zz (zu (zv (K:=K) rfl) (pv 1) zx (λ_ _=>rfl)) zq))))))),?_⟩
 walk_at "rd"
 refine⟨zg (by omega),?_⟩
 intro lw H1 s1 hlw e1
 have hS:=iK hx
 have e1':H1 lw=some (.lst ((vi x).map V.str)):=e1
 clear e1
 generalize vi x=ws at *
 walk_at "rd"
 intro lf H2 s2 hlf e2
 refine⟨lw,lf,ws,Yc,rfl,zK.of (s2 _ _ e1'),zK.of e2,hS,λH3 s3=>?_⟩
 walk_at "rd"
 refine zD (λh3=>(k _ ((s1.trans s2).trans s3)).1 (if_neg λq=>?_)) (λh3=>?_)
 ·have z:jJ ws Yc=false:=om h3
  rw[z] at q
  cases q
 have hF:jJ ws Yc=true:=oh h3
 have hl:ws.length=4:=gk hF
 walk_at "rd"
 intro p dx hp hdx hne
 refine⟨p,dx,_,_,rfl,zm,rfl,?_⟩
 exact(k _ (((s1.trans s2).trans s3).trans (jZ hp hdx hne))).2 p _ _ (if_pos hF) (((s1.trans s2).trans s3).free hp) ⟨dx,zm⟩
theorem ud:zd ["row","words"] ["row"] (zy lC):=by walk_at "sc"
theorem ZC (T:Txt K mg t):zo P w K mg base zC 5 t.pY t.pd ["row"] (GN t):=by
 have G_v_are_names:zo P w K mg base zC 4 t.vj t.kI ["words","most"] (GY K):=(pA T).mono (by decide)
 have G_v_fits_form:zo P w K mg base zC 4 t.xm t.xb ["words","form"] (Qk K):=(yz T).mono (by decide)
 have M_Part_init:zo P w K mg base zC 3 t.jW t.xY ["self","name","rooms","rows"] (GD K t):=(vO T).mono (by decide)
 refine T.fL.fn.ok ud (by walk_at "ln") ?_;walk_at "hd"
 obtain⟨x,rfl,hx,k⟩:=h
 refine⟨_,(zj (za (i:=1) ud.nd rfl (SA rfl) (qC T1 NY NG gf (pv 0) (zz zw zq)))
   (zj (zW (jh (qt (ze G_v_fits_form hr rfl T.zN.mg T.zN.fn.kp T.zN.bd .nil zJ (zz (qR (qD (K:=K) rfl) (pv 1) kc (qJ zx)) (zz (zP (zz zw (zz zw zq))) zq)))))
    (zk (zf yj)) zr)
   (zj (zW (zc qj (zX (zH (K:=K) rfl) rfl T.qo S5 (zz (pv 1) zq)) zx (zQ _))
    (zk (zf (qP T.fH M_Part_init hr rfl T.dQ T.ko.bd .nil zJ (zz (zu (zv (K:=K) rfl) (pv 1) zx (λ_ _=>rfl)) (zz (zP zq) (zz (zP zq) zq)))))) zr)
   (zj (zW (PW.pt (vF (zc cE (zu (zv (K:=K) rfl) (pv 1) zx (λ_ _=>rfl)) zw (zQ _)) (kM (jh (qt (ze G_v_are_names hr rfl T.jD.mg T.jD.fn.kp T.jD.bd .nil zJ (zz (qR (qD (K:=K) rfl) (pv 1) (qJ zx) kc) (zz (qO rfl (T.cY).choose_spec (v:=.int 12) ⟨_,rfl⟩) zq))))))))
    (zk (zf yj)) zr)
   (zk (zf (qP T.fH M_Part_init hr rfl T.dQ T.ko.bd .nil zJ (zz (zu (zv (K:=K) rfl) (pv 1) zx (λ_ _=>rfl)) (zz (qR (qD (K:=K) rfl) (pv 1) (qJ zx) kc) (zz (zP zq) zq)))))))))),?_⟩
 walk_at "rd"
 refine⟨zg (by omega),?_⟩
 intro lw H1 s1 hlw e1
 have hS:=iK hx
 have e1':H1 lw=some (.lst ((vi x).map V.str)):=e1
 clear e1
 generalize vi x=ws at *
 walk_at "rd"
 intro lc H2 s2 hlc e2
 replace e2:H2 lc=some (.lst ((ws.take 2).map V.str)):=by rw[←QY V.str ws 2];exact e2
 walk_at "rd"
 intro lf H3 s3 hlf e3
 refine⟨lc,lf,ws.take 2,ng,rfl,zK.of (s3 _ _ e2),zK.of e3,hS.take 2,λH4 s4=>?_⟩
 have sA:zp H H4:=((s1.trans s2).trans s3).trans s4
 walk_at "rd"
 refine zD (λh3=>(k _ sA).1 (if_neg λq=>?_)) (λh3=>?_)
 ·have z:jJ (ws.take 2) ng=false:=om h3
  rw[z] at q
  cases q
 have hF:jJ (ws.take 2) ng=true:=oh h3
 have hl:2≤ws.length:=by have:(ws.take 2).length=2:=gk hF;rw[S8] at this;omega
 have e4:H4 lw=some (.lst (ws.map V.str)):=s4 _ _ (s3 _ _ (s2 _ _ e1'))
 clear e1' e2 e3 s1 s2 s3 s4
 refine⟨_,rfl,lw,_,rfl,.inl (zK.of e4),rfl,_,rfl,?_⟩
 rw[Su]
 refine zD (λh4=>?_) (λh4=>?_)
 ·have hl2:ws.length=2:=by have:=zjj h4;injection this with this;omega
  walk_at "rd"
  intro a1 H5 s5 ha1 e5
  walk_at "rd"
  intro a2 H6 s6 ha2 e6
  walk_at "rd"
  intro p dx hp hdx hne
  have sM:=jA (o:=HO.own p) (o2:=HO.ins t.zE dx []) hp hdx
  refine⟨p,dx,a1,a2,_,[],[],rfl,zm,sM _ _ (s6 _ _ e5),sM _ _ e6,λH7 o7 h7=>⟨rfl,?_⟩⟩
  exact(k H7 (((sA.trans s5).trans s6).trans (gh hp hdx o7))).2 p _ _ (by unfold kf;rw[if_pos hF,if_pos hl2];rfl) (((sA.trans s5).trans s6).free hp) (h7.back (((sA.trans s5).trans s6).trans sM))
 have hl3:¬ws.length=2:=λq=>h4 (zjx (by rw[q];rfl))
 walk_at "rd"
 refine zD (λh5=>cH ((k _ sA).1 ?_)) (λh5=>?_)
 ·unfold kf
  rw[if_pos hF,if_neg hl3,if_pos (.inl (Vf h5))]
 have hin:wd ws 2 = "in":=Vp h5
 walk_at "rd"
 intro lc H5 s5 hlc e5
 replace e5:H5 lc=some (.lst ((ws.drop 3).map V.str)):=by rw[←we V.str ws 3];exact e5
 refine⟨lc,_,_,rfl,zK.of e5,hS.drop 3,λH6 s6=>?_⟩
 walk_at "rd"
 refine zD (λh6=>(k _ ((sA.trans s5).trans s6)).1 ?_) (λh6=>?_)
 ·unfold kf
  rw[if_pos hF,if_neg hl3,if_pos (.inr (om h6))]
 have hN:f9 (ws.drop 3) 12=true:=oh h6
 have e6:H6 lw=some (.lst (ws.map V.str)):=s6 _ _ (s5 _ _ e4)
 clear e4 e5
 walk_at "rd"
 intro a1 H7 s7 ha1 e7
 replace e7:H7 a1=some (.lst ((ws.drop 3).map V.str)):=by rw[←we V.str ws 3];exact e7
 walk_at "rd"
 intro a2 H8 s8 ha2 e8
 walk_at "rd"
 intro p dx hp hdx hne
 have sM:=jA (o:=HO.own p) (o2:=HO.ins t.zE dx []) hp hdx
 refine⟨p,dx,a1,a2,_,_,[],rfl,zm,sM _ _ (s8 _ _ e7),sM _ _ e8,λH9 o9 h9=>⟨rfl,?_⟩⟩
 exact(k H9 (((((sA.trans s5).trans s6).trans s7).trans s8).trans (gh hp hdx o9))).2 p _ _ (by unfold kf;rw[if_pos hF,if_neg hl3,if_neg (λq=>q.elim (λq=>q hin) (λq=>by rw[hN] at q;cases q))];rfl) (((((sA.trans s5).trans s6).trans s7).trans s8).free hp) (h9.back (((((sA.trans s5).trans s6).trans s7).trans s8).trans sM))
theorem fe:zd ["row","words"] ["row"] (zy mR):=by walk_at "sc"
theorem oQ (T:Txt K mg t):zo P w K mg base zC 5 t.yR t.yB ["row"] (JH t):=by
 have G_v_fits_form:zo P w K mg base zC 4 t.xm t.xb ["words","form"] (Qk K):=(yz T).mono (by decide)
 have G_v_number_of:zo P w K mg base zC 4 t.vx t.kA ["word"] GL:=(p4 T).mono (by decide)
 have M_Ban_init:zo P w K mg base zC 3 t.kJ t.gH ["self","label","who","act","room"] (Wa K):=(lV T).mono (by decide)
 have M_Clause_init:zo P w K mg base zC 3 t.z6 t.jy ["self","label","who","act"] (We K):=(jF T).mono (by decide)
 have M_Duty_init:zo P w K mg base zC 3 t.xG t.yd ["self","label","who","act","turns","room"] (MS K):=(cS T).mono (by decide)
 have M_Power_init:zo P w K mg base zC 3 t.jO t.vL ["self","label","who","act","room"] (Wa K):=(mK T).mono (by decide)
 refine T.yY.fn.ok fe (by walk_at "ln") ?_;walk_at "hd"
 obtain⟨x,rfl,hx,k⟩:=h
 refine⟨_,(zj (za (i:=1) fe.nd rfl (SA rfl) (qC T1 NY NG gf (pv 0) (zz zw zq)))
   (zj (zW (qt (ze G_v_fits_form hr rfl T.zN.mg T.zN.fn.kp T.zN.bd .nil zJ (zz (pv 1) (zz (zP (zz zw (zz zw (zz zw (zz zw (zz zw (zz zw (zz zw (zz zw zq))))))))) zq))))
    (zk (zf (qP T.ZZ M_Duty_init hr rfl T.YF T.uV.bd .nil zJ (zz (zu (zv (K:=K) rfl) (pv 1) zx (λ_ _=>rfl)) (zz (zu (zv (K:=K) rfl) (pv 1) zx (λ_ _=>rfl)) (zz (zu (zv (K:=K) rfl) (pv 1) zx (λ_ _=>rfl)) (zz (ze G_v_number_of hr rfl T.jC.mg T.jC.fn.kp T.jC.bd .nil zJ (zz (zu (zv (K:=K) rfl) (pv 1) zx (λ_ _=>rfl)) zq)) (zz (zu (zv (K:=K) rfl) (pv 1) zx (λ_ _=>rfl)) zq)))))))) zr)
   (zj (zW (qt (ze G_v_fits_form hr rfl T.zN.mg T.zN.fn.kp T.zN.bd .nil zJ (zz (pv 1) (zz (zP (zz zw (zz zw (zz zw (zz zw zq))))) zq))))
    (zk (zf (qP T.nD M_Clause_init hr rfl T.Ze T.xK.bd .nil zJ (zz (zu (zv (K:=K) rfl) (pv 1) zx (λ_ _=>rfl)) (zz (zu (zv (K:=K) rfl) (pv 1) zx (λ_ _=>rfl)) (zz (zu (zv (K:=K) rfl) (pv 1) zx (λ_ _=>rfl)) zq)))))) zr)
   (zj (zW (qt (ze G_v_fits_form hr rfl T.zN.mg T.zN.fn.kp T.zN.bd .nil zJ (zz (pv 1) (zz (zP (zz zw (zz zw (zz zw (zz zw (zz zw (zz zw (zz zw zq)))))))) zq))))
    (zk (zf (qP T.Xl M_Ban_init hr rfl T.Pb T.tJ.bd .nil zJ (zz (zu (zv (K:=K) rfl) (pv 1) zx (λ_ _=>rfl)) (zz (zu (zv (K:=K) rfl) (pv 1) zx (λ_ _=>rfl)) (zz (zu (zv (K:=K) rfl) (pv 1) zx (λ_ _=>rfl)) (zz (zu (zv (K:=K) rfl) (pv 1) zx (λ_ _=>rfl)) zq))))))) zr)
   (zj (zW (qt (ze G_v_fits_form hr rfl T.zN.mg T.zN.fn.kp T.zN.bd .nil zJ (zz (pv 1) (zz (zP (zz zw (zz zw (zz zw (zz zw (zz zw (zz zw zq))))))) zq))))
    (zk (zf (qP T.nC M_Power_init hr rfl T.K2 T.mI.bd .nil zJ (zz (zu (zv (K:=K) rfl) (pv 1) zx (λ_ _=>rfl)) (zz (zu (zv (K:=K) rfl) (pv 1) zx (λ_ _=>rfl)) (zz (zu (zv (K:=K) rfl) (pv 1) zx (λ_ _=>rfl)) (zz (zu (zv (K:=K) rfl) (pv 1) zx (λ_ _=>rfl)) zq))))))) zr)
   (zk (zf yj))))))),?_⟩
 walk_at "rd"
 refine⟨zg (by omega),?_⟩
 intro lw H1 s1 hlw e1
 have hS:=iK hx
 have e1':H1 lw=some (.lst ((vi x).map V.str)):=e1
 clear e1
 generalize vi x=ws at *
 walk_at "rd"
 intro lf H2 s2 hlf e2
 refine⟨lw,lf,ws,KZ,rfl,zK.of (s2 _ _ e1'),zK.of e2,hS,λH3 s3=>?_⟩
 have e3:H3 lw=some (.lst (ws.map V.str)):=s3 _ _ (s2 _ _ e1')
 have sA:zp H H3:=(s1.trans s2).trans s3
 clear e1' e2 s1 s2 s3
 walk_at "rd"
 refine zD (λh1=>?_) (λh1=>?_)
 ·have hl:ws.length=8:=gk h1
  walk_at "rd"
  refine⟨hS.short _ (rN (by omega)),λH4 s4=>?_⟩
  have e4:H4 lw=some (.lst (ws.map V.str)):=s4 _ _ e3
  clear e3
  walk_at "rd"
  intro p dx hp hdx hne
  refine⟨p,_,dx,_,_,_,_,_,_,rfl,aI T,zm,rfl,?_⟩
  exact(k _ ((sA.trans s4).trans (jZ hp hdx hne))).2 p 0 _ _ _ _ _ (by unfold qZ;rw[if_pos h1];rfl) ((sA.trans s4).free hp) ⟨dx,zm⟩
 have f1:¬jJ ws KZ=true:=h1
 walk_at "rd"
 intro lf2 H4 s4 hlf2 e4
 refine⟨lw,lf2,ws,Zv,rfl,zK.of (s4 _ _ e3),zK.of e4,hS,λH5 s5=>?_⟩
 have e5:H5 lw=some (.lst (ws.map V.str)):=s5 _ _ (s4 _ _ e3)
 have sB:zp H H5:=(sA.trans s4).trans s5
 clear e3 e4 s4 s5 sA
 walk_at "rd"
 refine zD (λh2=>?_) (λh2=>?_)
 ·have hl:ws.length=4:=gk h2
  walk_at "rd"
  intro p dx hp hdx hne
  refine⟨p,_,dx,_,_,_,_,rfl,tM T,zm,rfl,?_⟩
  exact(k _ (sB.trans (jZ hp hdx hne))).2 p 1 _ _ _ 0 "" (by unfold qZ;rw[if_neg f1,if_pos h2];rfl) (sB.free hp) ⟨dx,zm⟩
 have f2:¬jJ ws Zv=true:=h2
 walk_at "rd"
 intro lf3 H6 s6 hlf3 e6
 refine⟨lw,lf3,ws,HR,rfl,zK.of (s6 _ _ e5),zK.of e6,hS,λH7 s7=>?_⟩
 have e7:H7 lw=some (.lst (ws.map V.str)):=s7 _ _ (s6 _ _ e5)
 have sC:zp H H7:=(sB.trans s6).trans s7
 clear e5 e6 s6 s7 sB
 walk_at "rd"
 refine zD (λh3=>?_) (λh3=>?_)
 ·have hl:ws.length=7:=gk h3
  walk_at "rd"
  intro p dx hp hdx hne
  refine⟨p,_,dx,_,_,_,_,_,rfl,JE T,zm,rfl,?_⟩
  exact(k _ (sC.trans (jZ hp hdx hne))).2 p 2 _ _ _ 0 _ (by unfold qZ;rw[if_neg f1,if_neg f2,if_pos h3];rfl) (sC.free hp) ⟨dx,zm⟩
 have f3:¬jJ ws HR=true:=h3
 walk_at "rd"
 intro lf4 H8 s8 hlf4 e8
 refine⟨lw,lf4,ws,J8,rfl,zK.of (s8 _ _ e7),zK.of e8,hS,λH9 s9=>?_⟩
 have e9:H9 lw=some (.lst (ws.map V.str)):=s9 _ _ (s8 _ _ e7)
 have sD:zp H H9:=(sC.trans s8).trans s9
 clear e7 e8 s8 s9 sC
 walk_at "rd"
 refine zD (λh4=>?_) (λh4=>?_)
 ·have hl:ws.length=6:=gk h4
  walk_at "rd"
  intro p dx hp hdx hne
  refine⟨p,_,dx,_,_,_,_,_,rfl,tD T,zm,rfl,?_⟩
  exact(k _ (sD.trans (jZ hp hdx hne))).2 p 3 _ _ _ 0 _ (by unfold qZ;rw[if_neg f1,if_neg f2,if_neg f3,if_pos h4];rfl) (sD.free hp) ⟨dx,zm⟩
 exact(k _ sD).1 (by unfold qZ;rw[if_neg f1,if_neg f2,if_neg f3,if_neg h4])
theorem boot_set:Ov (SR "set")=some (I0 "set"):=by kernel_rfl
def Hl (t:z5) (n:Int) (H:Hp):XK:=λc o H'=>∃a,o=some a∧c=.ref t.vm∧zp H H'∧DM H' a t.vm [("row",.int n)]
theorem Hl.back {t:z5} {n:Int} {H0 H:Hp} {c:Sr} {o:Option Addr} {H':Hp} (h:Hl t n H c o H') (s:zp H0 H):Hl t n H0 c o H':=by
 obtain⟨a,h1,h2,h3,h4⟩:=h
 exact⟨a,h1,h2,s.trans h3,h4⟩
def rL (K:Sd) (f:Str):Sp:=λvs H Q _=>∃(a C:Addr) (v:V),vs=[.ref a,v]∧Hr K C∧zY K C f∧H a=some (xN a C none)∧∀dx,H dx=none→dx≠a→Q .non (upd (upd H dx (xD dx [(f,v)])) a (xN a C (some dx)))
structure uY (rows:List Str):Prop where
 Zy:rows.length≤400
 short:∀x∈rows,x.length≤190
def kP (rows:List Str) (i:Nat) (x:Str) (m:Int) (taken:List Str):Option (List Str):=
 if i=rows.length then none else
  let ns:=xk (vi (wd rows i)) x m
  if ns=[]∨¬(taken ++ ns).Nodup then none else some ns
theorem FL {z:Str} {c:Nat} (h:has z c=true):c∈z.cps.toList:=by
 unfold has at h
 rw[Ee] at h
 simpa using h
theorem gp {x:Str} (h:zZ x=true):asc x:=λc hc=>by
 unfold zZ bC at h
 (simp only[Te] at h)
 exact KI.2.2 c (FL (Nt.mp h.1.2 c hc))
theorem ak {ws:List Str} {x:Str} {m:Int}:(xk ws x m).length≤ws.length∧∀y∈xk ws x m,zZ y=true:=by
 unfold xk
 split
 ·exact⟨Tr _,λy hy=>by cases hy⟩
 ·rename_i h
  refine⟨by rw[Nb];omega,λy hy=>?_⟩
  have:f9 (ws.drop 1) m=true:=by
   cases q:f9 (ws.drop 1) m with
   | true=>rfl
   | false=>exact absurd (.inr q) h
  unfold f9 at this
  rw[Te] at this
  exact Nt.mp this.2 y hy
def X6 (K:Sd):Sp:=λvs H Q _=>∃(l:Addr) (zs:List Str),vs=[.ref l]∧zK K H l (zs.map V.str)∧zs.length < 1000∧∀H',zp H H'→Q (.bl (decide zs.Nodup)) H'
def CD (K:Sd) (t:z5):Sp:=λvs H Q E=>∃(a b:Addr) (i:Nat) (x:Str) (m:Int) (rows taken:List Str),vs=[.ref a,.int i,.str x,.int m,.ref b]∧zK K H a (rows.map V.str)∧H b=some (.lst (taken.map V.str))∧i≤rows.length∧uY rows∧taken.length≤300∧m≤100∧
 (kP rows i x m taken=none→∀c o H',Hl t i H c o H'→E c o H')∧∀ns l H',kP rows i x m taken=some ns→zp H H'→H l=none→H' l=some (.lst (ns.map V.str))→Q (.ref l) H'
theorem ig:zd ["self","row"] ["self","row"] (zy mM):=by walk_at "sc"
theorem wI (T:Txt K mg t):zo P w K mg base zC 1 t.ja t.xh ["self","row"] (rL K "row"):=by
 refine T.jV.fn.ok ig (by walk_at "ln") ?_;walk_at "hd"
 obtain⟨a,C,v,rfl,c,n,e,k⟩:=h
 exact⟨_,(zk (ZO (pv 0) (pv 1) rfl)),_,rfl,_,rfl,a,C,rfl,c,n,.inl ⟨e,k⟩⟩
theorem XR {C:Addr} {f:Str} {v:V} {H:Hp} {E:XK} {X:XK} (c:Hr K C) (n:zY K C f) (xc:gY K C=true) (k:∀a H',zp H H'→DM H' a C [(f,v)]→E (.ref C) (some a) H') :
  ∀a,H a=none→rL K f (.ref a :: ([v] ++ [])) (upd H a (xN a C none)) (λu H2=>u=.non∧∃a' C' d,V.ref a=.ref a'∧gY K C'=true∧H2 a'=some (xN a' C' d)∧E (.ref C') (some a') (upd H2 a' (xO a' C' d))) X:=by
 intro a ha
 refine⟨a,C,v,rfl,c,n,zm,λdx hd hne=>⟨rfl,a,C,some dx,rfl,xc,zm,k a _ (λb o e=>?_) (.inr ⟨dx,zm,?_⟩)⟩⟩
 ·have q:=zh e ha
  have e':(upd H a (xN a C none)) b=some o:=by rw[zG q];exact e
  rw[zG q,zG q,zG (zh e' hd)];exact e'
 ·rw[zG hne,zG hne];exact zm
theorem g9 (T:Txt K mg t) {n:Int} {H:Hp} {E:XK} {X:XK} (k:∀c o H',Hl t n H c o H'→E c o H') :
  ∀a,H a=none→rL K "row" (.ref a :: ([V.int n] ++ [])) (upd H a (xN a t.vm none)) (λu H2=>u=.non∧∃a' C' d,V.ref a=.ref a'∧gY K C'=true∧H2 a'=some (xN a' C' d)∧E (.ref C') (some a') (upd H2 a' (xO a' C' d))) X:=
 XR T.WB T.i3 T.kL.xc λa H' s x=>k _ _ _ ⟨a,rfl,rfl,s,x⟩
theorem ie:zd ["names"] ["names"] (zy mT):=by walk_at "sc"
theorem p5 (T:Txt K mg t):zo P w K mg base zC 1 t.vk t.vz ["names"] (X6 K):=by
 refine T.jU.fn.ok ie (by walk_at "ln") ?_;walk_at "hd"
 obtain⟨l,zs,rfl,hl,hn,k⟩:=h
 refine⟨_,(zk (zf (ye qj (zX Vn rfl T.qo S5 (zz (qz (Bc (K:=K) rfl rfl) rfl T.DC boot_set (zz (pv 0) zq)) zq)) (zX (zH (K:=K) rfl) rfl T.qo S5 (zz (pv 0) zq)) (zQ _)))),?_⟩
 refine⟨_,rfl,l,zs,rfl,hl,hn,λa ha=>?_⟩
 refine⟨a,_,rfl,zm,?_⟩
 have s1:zp H (upd H a (De P w a (QG [] zs))):=zp.V1 ha
 refine⟨_,rfl,l,_,rfl,.inl (s1.seq hl),rfl,?_⟩
 rw[show decide (V.int ((QG [] zs:Nat):Int)=V.int ((zs.map V.str).length:Nat))=decide zs.Nodup from by rw[Su,←FY];simp]
 exact k _ s1
theorem bB:zd ["rows","number","word","most","taken","names"] ["rows","number","word","most","taken"] (zy fc):=by walk_at "sc"
theorem su (T:Txt K mg t):zo P w K mg base (rA P w) 6 t.wF t.wX ["rows","number","word","most","taken"] (CD K t):=by
 have G_v_names_of:zo P w K mg base zC 5 t.gR t.gP ["row","word","most"] PU:=(i9 T).mono (by decide)
 have G_v_told_once:zo P w K mg base zC 5 t.vk t.vz ["names"] (X6 K):=(p5 T).mono (by decide)
 have M_NoText_init:zo P w K mg base zC 4 t.ja t.xh ["self","row"] (rL K "row"):=(wI T).mono (by decide)
 refine T.jt.fn.Ht bB (by walk_at "ln") ?_;walk_at "hd"
 obtain⟨a,b,i,x,m,rows,taken,rfl,hA,hB,hi,hR,hT,hm,kE,kQ⟩:=h
 refine⟨_,(zj (zW (zc qj (pv 1) (zX (zH (K:=K) rfl) rfl T.qo S5 (zz (pv 0) zq)) (zQ _))
    (zk (kr wz rfl (km T.kL M_NoText_init hr rfl T.gg T.jV.bd .nil zJ (zz (pv 1) zq)))) zr)
   (zj (za (i:=5) bB.nd rfl (SA rfl) (ze G_v_names_of hr rfl T.bw.mg T.bw.fn.kp T.bw.bd .nil zJ (zz (zu (zv (K:=K) rfl) (pv 0) (pv 1) (λ_ _=>rfl)) (zz (pv 2) (zz (pv 3) zq)))))
   (zj (zW (PW.pt (vF (zc (fP (K:=K) rfl hr.units) (pv 5) (zP zq) (zQ _)) (kM (jh (qt (ze G_v_told_once hr rfl T.jU.mg T.jU.fn.kp T.jU.bd .nil zJ (zz (zi vG (pv 4) (pv 5)) zq)))))))
    (zk (kr wz rfl (km T.kL M_NoText_init hr rfl T.gg T.jV.bd .nil zJ (zz (pv 1) zq)))) zr)
   (zk (zf (pv 5)))))),?_⟩
 walk_at "rd"
 refine⟨a,_,rfl,.inl hA,rfl,_,rfl,?_⟩
 refine zD (λh1=>?_) (λh1=>?_)
 ·walk_at "rd"
  exact g9 T (kE (by
   have:(i:Int)=((rows.map V.str).length:Nat):=by simpa using h1
   rw[Su] at this
   unfold kP;rw[if_pos (by omega)]))
 have hi':i < rows.length:=by
  have:¬(i:Int)=((rows.map V.str).length:Nat):=by simpa using h1
  rw[Su] at this;omega
 have hwd:wd rows i∈rows:=rN hi'
 have eR:kP rows i x m taken=(if xk (vi (wd rows i)) x m=[]∨¬(taken ++ xk (vi (wd rows i)) x m).Nodup then none else some (xk (vi (wd rows i)) x m)):=by
  unfold kP;rw[if_neg (by omega)]
 walk_at "rd"
 simp only[zzq]
 refine⟨hR.short _ hwd,λl H1 s1 hl e1=>?_⟩
 have e1':H1 l=some (.lst ((xk (vi (wd rows i)) x m).map V.str)):=e1
 clear e1
 have hn:=@ak (vi (wd rows i)) x m
 have hw:=(sI (wd rows i)).2
 have hw2:=hR.short _ hwd
 have hb:(xk (vi (wd rows i)) x m).length≤192:=by omega
 have ho:=hn.2
 clear hn hw hw2
 generalize xk (vi (wd rows i)) x m=ns at *
 have sh:T6 (.list (ns.map Nz))=true:=qV λy hy=>(gp (ho y hy)).ok
 walk_at "rd"
 intro l2 H2 s2 hl2 e2
 have sh0:T6 (.list (([]:List Str).map Nz))=true:=qV (xs:=[]) λy hy=>by cases hy
 refine⟨_,_,cq.lst (zK.of (s2 _ _ e1')) (vf.strs ns),cq.lst (zK.of e2) (vf.strs []),sh,sh0,_,rfl,?_⟩
 rw[pV]
 refine zD (λh2=>?_) (λh2=>?_)
 ·walk_at "rd"
  exact g9 T λc o H' z=>kE (by rw[eR,if_pos (.inl (zjj h2))]) c o H' (z.back (s1.trans s2))
 have hne:¬ns=[]:=λq=>h2 (zjx q)
 walk_at "rd"
 refine⟨b,l,_,_,rfl,rfl,s2 _ _ (s1 _ _ hB),s2 _ _ e1',zg (by simp only[Su];omega),?_⟩
 intro l3 H3 s3 hl3 e3
 refine⟨l3,taken ++ ns,rfl,zK.of (by rw[e3,SG]),(by rw[Sl];omega),λH4 s4=>?_⟩
 have sA:zp H H4:=((s1.trans s2).trans s3).trans s4
 walk_at "rd"
 refine zD (λh3=>?_) (λh3=>?_)
 ·walk_at "rd"
  exact g9 T λc o H' z=>kE (by rw[eR,if_pos (.inr (of_decide_eq_false (om h3)))]) c o H' (z.back sA)
 walk_at "rd"
 exact kQ ns l H4 (by rw[eR,if_neg (λq=>q.elim hne (λq=>q (zjj (oh h3))))]) sA hl (s4 _ _ (s3 _ _ (s2 _ _ e1')))
def jm (taken:List Str):List (Str × Str)→List Str→Except Nat (List (Str × Str))
 | found,[]=>if found=[] then .error 2 else .ok found
 | found,x :: r=>match fz (vi x) with
  | none=>if found=[] then .error 2 else .ok found
  | some mn=>if found.length=12∨¬(taken ++ (found ++ [mn]).map (·.2)).Nodup then .error (2 + found.length) else jm taken (found ++ [mn]) r
def xq (H:Hp) (v:V) (mn:Str × Str):Prop:=∃p,v=.ref p∧H p=some (.tup [.str mn.1,.str mn.2])
def lE (mn:Str × Str):Prop:=mn.1∈zF∧zZ mn.2=true
theorem Gu {ws:List Str} {m n:Str} (h:fz ws=some (m,n)):lE (m,n):=by
 unfold fz at h
 split at h
 ·rename_i q
  cases h
  rw[vw] at q
  exact⟨zjj q.2.1,q.2.2⟩
 ·cases h
theorem YL:∀x∈zF,NR x=true:=by decide +kernel
def Dn (mn:Str × Str):PyData:=.tuple [.str mn.1,.str mn.2]
theorem Gm:∀{fnd:List (Str × Str)},(∀mn∈fnd,lE mn)→OL (fnd.map Dn)=true∧Ij (fnd.map Dn)≤2
 | [],_=>⟨rfl,Tr _⟩
 | mn :: r,h=>by
  have q:=Gm (fnd:=r) λx hx=>h x (SV _ hx)
  have h1:=YL _ (h mn Tu).1
  have h2:=(gp (h mn Tu).2).ok
  have q2:=q.2
  simp [OL,Iu,Ij,IT,Dn,q.1,h1,h2]
  omega
theorem Wb {fnd:List (Str × Str)} (h:∀mn∈fnd,lE mn):T6 (.list (fnd.map Dn))=true:=by
 have q:=Gm h
 simp [T6,Iu,IT,q.1]
 omega
theorem xq.same {H H':Hp} {v:V} {mn:Str × Str} (h:xq H v mn) (s:zp H H'):xq H' v mn:=by
 obtain⟨p,e,q⟩:=h
 exact⟨p,e,s _ _ q⟩
theorem xq.keeps {H H':Hp} {v:V} {mn:Str × Str} {l:Addr} {xs:List V} (h:xq H v mn) (k:Keeps l H H') (e:H l=some (.lst xs)):xq H' v mn:=by
 obtain⟨p,e',q⟩:=h
 exact⟨p,e',k.look q (mX q e (by intro z;cases z))⟩
theorem Paired.snoc {α β:Type} {F:α→β→Prop} {a:α} {b:β}:∀{xs:List α} {ys:List β},Paired F xs ys→F a b→Paired F (xs ++ [a]) (ys ++ [b])
 | [],[],_,h=>.cons h .nil
 | _ :: _,_ :: _,.cons h t,q=>.cons h (Paired.snoc t q)
def JD (H:Hp) (y:V):List (Option V):=match y with
 | .ref p=>(match H p with | some (.tup [u,v])=>[some u,some v] | _=>[none,none])
 | _=>[none,none]
theorem Qp (H:Hp) (y:V):(JD H y).length=2:=by
 unfold JD
 split
 ·split<;>rfl
 ·rfl
theorem Paired.Xr {α β:Type} {F:α→β→Prop} {a:α}:∀{xs:List α} {ys:List β},Paired F xs ys→a∈xs→∃b∈ys,F a b
 | _ :: _,_ :: _,.cons h t,q=>by
  rcases So.mp q with rfl | q
  ·exact⟨_,Tu,h⟩
  ·obtain⟨b,hb,hF⟩:=Paired.Xr t q
   exact⟨b,SV _ hb,hF⟩
theorem hV {H:Hp}:∀{vs:List V} {fnd:List (Str × Str)} {ys:List V},Paired (xq H) vs fnd→Paired (λy v=>∀p m n,y=V.ref p→H p=some (.tup [.str m,.str n])→v=V.str n) vs ys→ys=(fnd.map (·.2)).map V.str
 | [],[],[],_,_=>rfl
 | _ :: _,_ :: _,_ :: _,.cons ⟨p,e,q⟩ t,.cons h t'=>by
  rw[h p _ _ e q,hV t t']
  rfl
theorem Jl {K:Sd} {H:Hp}:∀{vs:List V} {fnd:List (Str × Str)},Paired (xq H) vs fnd→vf K H vs (fnd.map Dn)
 | [],[],_=>.nil
 | _ :: _,_ :: _,.cons ⟨p,e,q⟩ t=>by
  subst e
  exact .cons (cq.tup (jo.of q) (.cons (.str _) (.cons (.str _) .nil))) (Jl t)
theorem MU (fnd:List (Str × Str)):Iv (.list (fnd.map Dn)) (.list (([]:List Str).map Nz))=decide (fnd=[]):=by
 cases fnd<;>simp [Iv,Od]
def CC (K:Sd) (t:z5):Sp:=λvs H Q E=>∃(a b:Addr) (rows taken:List Str),vs=[.ref a,.ref b]∧zK K H a (rows.map V.str)∧H b=some (.lst (taken.map V.str))∧uY rows∧taken.length≤400∧
 (∀n:Nat,jm taken [] (rows.drop 2)=.error n→∀c o H',Hl t n H c o H'→E c o H')∧∀rs l H' vs,jm taken [] (rows.drop 2)=.ok rs→zp H H'→H l=none→H' l=some (.lst vs)→Paired (xq H') vs rs→Q (.ref l) H'
theorem xa:zd ["rows","taken","rooms","row","room"] ["rows","taken"] (zy yk):=by walk_at "sc"
theorem sr (T:Txt K mg t):zo P w K mg base (rA P w) 6 t.wM t.wK ["rows","taken"] (CC K t):=by
 have G_v_room_of:zo P w K mg base zC 5 t.pG t.pe ["row"] GI:=(ZU T).mono (by decide)
 have G_v_told_once:zo P w K mg base zC 5 t.vk t.vz ["names"] (X6 K):=(p5 T).mono (by decide)
 have M_NoText_init:zo P w K mg base zC 4 t.ja t.xh ["self","row"] (rL K "row"):=(wI T).mono (by decide)
 refine T.wx.fn.Ht xa (by walk_at "ln") ?_;walk_at "hd"
 obtain⟨a,b,rows,taken,rfl,hA,hB,hR,hT,kE,kQ⟩:=h
 refine⟨_,(zj (za (i:=2) xa.nd rfl (SA rfl) (zP zq) jX)
   (zj (PS.join (jg zzh rfl (qf (K:=K) rfl (qR (qD (K:=K) rfl) (pv 0) (qJ (qO rfl (T.vN).choose_spec (v:=.int 2) ⟨_,rfl⟩)) kc)) (zM (i:=3) xa.nd rfl (SA rfl))
    (zj (za (i:=4) xa.nd rfl (SA rfl) (ze G_v_room_of hr rfl T.fS.mg T.fS.fn.kp T.fS.bd .nil zJ (zz (pv 3) zq)))
   (zj (zW (zc XG (pv 4) yj (zQ _))
    (zk (Gp)) zr)
   (zj (zW (PW.pt (vF (zc qj (zX (zH (K:=K) rfl) rfl T.qo S5 (zz (pv 2) zq)) (qO rfl (T.cY).choose_spec (v:=.int 12) ⟨_,rfl⟩) (zQ _)) (kM (jh (qt (ze G_v_told_once hr rfl T.jU.mg T.jU.fn.kp T.jU.bd .nil zJ (zz (zi vG (pv 1) (wg (osc:=zy yk) (N:=["rows","taken","rooms","row","room"]) (xs:=["mark","name"]) (names:=[]) (zU:=[]) rfl rfl rfl ⟨rfl,by decide +kernel,by decide +kernel,by decide +kernel,by decide +kernel,rfl,by decide +kernel,by decide +kernel⟩ (qf (K:=K) rfl (zi vG (pv 2) (zP (zz (pv 4) zq)))) (λ_ _ _=>(vI (K:=K) (n:=2) rfl rfl (qu (zM (i:=0) (show (["mark","name"]:List Str).Nodup from by decide +kernel) rfl (.inl (yy rfl)) (.inr (yy rfl))) (qu (zM (i:=1) (show (["mark","name"]:List Str).Nodup from by decide +kernel) rfl (.inl (yy rfl)) (.inr (yy rfl))) vE)) rfl rfl)) (λ_ _ _=>sL) (λ_ _ _=>(pv 1)))) zq)))))))
    (zk (kr wz rfl (km T.kL M_NoText_init hr rfl T.gg T.jV.bd .nil zJ (zz (zi qp (qO rfl (T.vN).choose_spec (v:=.int 2) ⟨_,rfl⟩) (zX (zH (K:=K) rfl) rfl T.qo S5 (zz (pv 2) zq))) zq)))) zr)
   (zk (zO (qC SS S9 Tz qk (pv 2) (zz (pv 4) zq)))))))))
   (zj (zW (zc (fP (K:=K) rfl hr.units) (pv 2) (zP zq) (zQ _))
    (zk (kr wz rfl (km T.kL M_NoText_init hr rfl T.gg T.jV.bd .nil zJ (zz (qO rfl (T.vN).choose_spec (v:=.int 2) ⟨_,rfl⟩) zq)))) zr)
   (zk (zf (pv 2)))))),?_⟩
 refine⟨Tr _,?_⟩
 intro l H1 s1 hl e1
 refine⟨λσ' H'=>(∃(vs:List V) (fnd:List (Str × Str)) (v3 v4:Option V),σ'=[some (.ref a),some (.ref b),some (.ref l),v3,v4]∧zp H H'∧H' l=some (.lst vs)∧Paired (xq H') vs fnd∧fnd.length≤12∧(∀mn∈fnd,lE mn)∧jm taken [] (rows.drop 2)=(if fnd=[] then .error 2 else .ok fnd))∨False,?_,?_⟩
 ·walk_at "rd"
  intro l0 H2 s2 hl0 e2
  have e2':H2 l0=some (.lst ((rows.drop 2).map V.str)):=by rw[←we V.str rows 2];exact e2
  clear e2
  walk_at "rd"
  have hne0:l0≠l:=TH (zh e1 hl0)
  refine xr (K:=K) (a:=l0) (xs:=(rows.drop 2).map V.str) (λi σ H'=>∃(vs:List V) (fnd:List (Str × Str)) (v3 v4:Option V),σ=[some (.ref a),some (.ref b),some (.ref l),v3,v4]∧zp H H'∧H' l=some (.lst vs)∧H' l0=some (.lst ((rows.drop 2).map V.str))∧Paired (xq H') vs fnd∧fnd.length≤12∧(∀mn∈fnd,lE mn)∧jm taken [] (rows.drop 2)=jm taken fnd ((rows.drop 2).drop i))
   ⟨[],[],none,none,rfl,s1.trans s2,s2 _ _ e1,e2',.nil,Tr _,λ_ z=>(by cases z),by rw[Ep]⟩ (λi σ H' _ ⟨_,_,_,_,_,_,_,q,_⟩=>zK.of q) ?_ ?_
  ·rintro i y σ H3 hi ⟨vs,fnd,v3,v4,rfl,s3,e3,e30,hP,hf,z8,hr'⟩
   rw[SW] at hi
   cases q:(rows.drop 2)[i]? with
   | none=>rw[q] at hi;cases hi
   | some x=>
    rw[q] at hi
    cases hi
    have hx:x∈rows:=IH (SN q)
    have hd:(rows.drop 2).drop i=x :: (rows.drop 2).drop (i + 1):=by
     obtain⟨hi',e⟩:=S3.mp q
     rw[←e];exact Ox hi'
    rw[hd] at hr'
    walk_at "rd"
    refine⟨hR.short _ hx,λH4 s4=>⟨λh0=>?_,λp m n h0 hp e4=>?_⟩⟩
    ·walk_at "rd"
     refine .inl ⟨vs,fnd,_,_,rfl,s3.trans s4,s4 _ _ e3,Paired.imp' (λ_ _ z=>z.same s4) hP,hf,z8,?_⟩
     rw[hr',jm,h0]
    ·have hP4:Paired (xq H4) (vs ++ [.ref p]) (fnd ++ [(m,n)]):=Paired.snoc (Paired.imp' (λ_ _ z=>z.same s4) hP) ⟨p,rfl,e4⟩
     have hlen:vs.length=fnd.length:=TF hP
     have eRR:jm taken fnd (x :: zzQ (i + 1) (zzQ 2 rows))=if fnd.length=12∨¬(taken ++ (fnd ++ [(m,n)]).map (·.2)).Nodup then .error (2 + fnd.length) else jm taken (fnd ++ [(m,n)]) (zzQ (i + 1) (zzQ 2 rows)):=by rw[jm,h0]
     rw[eRR] at hr'
     have e34:=s4 _ _ e3
     have raise2:(fnd.length=12∨¬(taken ++ (fnd ++ [(m,n)]).map (·.2)).Nodup)→∀c o H',Hl t (2 + (vs.length:Nat):Int) H c o H'→E c o H':=λz c o H' q=>kE (2 + fnd.length) (by rw[hr',if_pos z]) c o H' (by rw[←hlen];exact q)
     walk_at "rd"
     refine⟨l,_,rfl,.inl (zK.of e34),rfl,_,rfl,?_⟩
     refine zD (λh12=>?_) (λh12=>?_)
     ·walk_at "rd"
      refine⟨l,_,rfl,.inl (zK.of e34),?_⟩
      walk_at "rd"
      exact g9 T λc o H' z=>raise2 (.inl (by
       have:((vs.length:Nat):Int)=12:=by simpa using h12
       omega)) c o H' (z.back (s3.trans s4))
     have hn12:¬fnd.length=12:=λq=>h12 (by rw[hlen,q];rfl)
     walk_at "rd"
     intro l5 H5 s5 hl5 e5
     refine⟨l,l5,_,_,rfl,rfl,s5 _ _ e34,e5,zg (by simp only[Se,S1];omega),?_⟩
     intro l6 H6 s6 hl6 e6
     have hP6:Paired (xq H6) (vs ++ [.ref p]) (fnd ++ [(m,n)]):=Paired.imp' (λ_ _ z=>z.same (s5.trans s6)) hP4
     refine⟨l6,rfl,⟨_,zK.of e6⟩,uG (xC (zK.of e6)) (JD H6) (Qp H6) (λy v=>∀p m n,y=V.ref p→H6 p=some (.tup [.str m,.str n])→v=V.str n) (zg (by rw[Sl];simp only[Se,S1];omega)) ?_ ?_ ?_⟩
     ·intro j y ts H' K' hy hts s' k'
      obtain⟨mn,_,p',rfl,ep⟩:=Paired.Xr hP6 (SN hy)
      have et:JD H6 (.ref p')=[some (.str mn.1),some (.str mn.2)]:=by unfold JD;simp only[ep]
      rw[et] at k'
      match ts,hts with
      | [t1,t2],_=>exact⟨p',_,rfl,jo.of (s' _ _ ep),rfl,_,_,rfl,_,_,rfl,rfl,k'⟩
     ·intro j y H' Q' hy s' kk
      obtain⟨mn,_,p',rfl,ep⟩:=Paired.Xr hP6 (SN hy)
      have et:JD H6 (.ref p')=[some (.str mn.1),some (.str mn.2)]:=by unfold JD;simp only[ep]
      rw[et]
      refine⟨_,rfl,kk _ _ (zp.refl _) λp2 m2 n2 e q=>?_⟩
      cases e
      rw[ep] at q
      cases q
      rfl
     intro D H7 ys s7 hD e7 hPr
     rw[hV hP6 hPr] at e7
     have sA:zp H H7:=(((s3.trans s4).trans s5).trans s6).trans s7
     walk_at "rd"
     refine⟨b,D,_,_,rfl,rfl,sA _ _ hB,e7,zg (by simp only[Su,Sl,Se,S1];omega),?_⟩
     intro l8 H8 s8 hl8 e8
     refine⟨l8,taken ++ (fnd ++ [(m,n)]).map (·.2),rfl,zK.of (by rw[e8,←SG]),(by simp only[Su,Sl,Se,S1];omega),λH9 s9=>?_⟩
     have sB:zp H4 H9:=(((s5.trans s6).trans s7).trans s8).trans s9
     walk_at "rd"
     refine zD (λh3=>?_) (λh3=>?_)
     ·walk_at "rd"
      refine⟨l,_,rfl,.inl (zK.of (sB _ _ e34)),?_⟩
      walk_at "rd"
      exact g9 T λc o H' z=>raise2 (.inr (of_decide_eq_false (om h3))) c o H' (z.back ((s3.trans s4).trans sB))
     walk_at "rd"
     intro H10 k10 e10
     have e9l:=sB _ _ e34
     refine⟨vs ++ [.ref p],fnd ++ [(m,n)],_,_,rfl,k10.put ((s3.trans s4).trans sB) hl,e10,k10.look (sB _ _ (s4 _ _ e30)) (λq=>?_),Paired.imp' (λ_ _ z=>(z.same sB).keeps k10 e9l) hP4,(by rw[Sl];simp only[Se,S1];omega),(λz hz=>(SI.mp hz).elim (z8 z) (λhz=>by rw[SY.mp hz];exact Gu h0)),?_⟩
     ·exact hne0 q
     ·rw[hr',if_neg (λq=>q.elim hn12 (λq=>q (zjj (oh h3))))]
  ·rintro σ H3 ⟨vs,fnd,v3,v4,rfl,s3,e3,e30,hP,hf,z8,hr'⟩
   rw[Su,zzJ,jm] at hr'
   exact .inl ⟨vs,fnd,v3,v4,rfl,s3,e3,hP,hf,z8,hr'⟩
 ·rintro σ H3 (⟨vs,fnd,v3,v4,rfl,s3,e3,hP,hf,z8,hr'⟩ | ⟨⟨⟩⟩)
  walk_at "rd"
  intro l4 H4 s4 hl4 e4
  have sh0:T6 (.list (([]:List Str).map Nz))=true:=qV (xs:=[]) λy hy=>by cases hy
  have hP4:Paired (xq H4) vs fnd:=Paired.imp' (λ_ _ z=>z.same s4) hP
  refine⟨_,_,cq.lst (zK.of (s4 _ _ e3)) (Jl hP4),cq.lst (zK.of e4) (vf.strs []),Wb z8,sh0,_,rfl,?_⟩
  rw[MU]
  refine zD (λh2=>?_) (λh2=>?_)
  ·walk_at "rd"
   exact g9 T λc o H' z=>kE 2 (by rw[hr',if_pos (zjj h2)]) c o H' (z.back (s3.trans s4))
  walk_at "rd"
  exact kQ fnd l H4 vs (by rw[hr',if_neg (λq=>h2 (zjx q))]) (s3.trans s4) hl (s4 _ _ e3) hP4
inductive Rw where
 | lt (n v:Str)
 | cl (k:Int) (l u a:Str) (n:Int) (r:Str)
 | pt (n:Str) (rs:List Str) (rows:List Rw)
mutual
def jT (t:z5) (ms:List Addr) (H:Hp):Rw→V→Prop
 | .lt n v,x=>∃p,x=.ref p∧p∉ms∧Fp t H p n v
 | .cl k l u a n r,x=>∃p,x=.ref p∧p∉ms∧At t H p k l u a n r
 | .pt n rs rows,x=>∃p dx a b ys,x=.ref p∧p∉ms∧a∉ms∧b∉ms∧H p=some (.ins t.zE dx (KY n a b))∧H a=some (.lst (rs.map V.str))∧H b=some (.lst ys)∧qy t ms H rows ys
def qy (t:z5) (ms:List Addr) (H:Hp):List Rw→List V→Prop
 | [],ys=>ys=[]
 | r :: rs,ys=>∃y ys',ys=y :: ys'∧jT t ms H r y∧qy t ms H rs ys'
end
def Fm (ms:List Addr) (H H':Hp):Prop:=∀b o,b∉ms→H b=some o→H' b=some o
theorem Fm.trans {ms ms':List Addr} {H H1 H2:Hp} (a:Fm ms H H1) (b:Fm ms' H1 H2) (hm:∀b∈ms',b∈ms∨H b=none):Fm ms H H2:=λc o hc e=>b c o (λz=>(hm c z).elim hc (λq=>by rw[e] at q;cases q)) (a c o hc e)
theorem Fm.same {ms:List Addr} {H H1 H2:Hp} (a:Fm ms H H1) (s:zp H1 H2):Fm ms H H2:=λc o hc e=>s _ _ (a c o hc e)
theorem Fm.of {ms:List Addr} {H H1:Hp} (s:zp H H1):Fm ms H H1:=λc o _ e=>s _ _ e
theorem Fm.Kx {ms:List Addr} {H0 H H1:Hp} (a:Fm ms H H1) (s:zp H0 H) (h:∀b∈ms,H0 b=none):zp H0 H1:=λc o e=>a c o (λz=>by rw[h c z] at e;cases e) (s c o e)
theorem cL {ms ms':List Addr} {H:Hp} {b:Addr} {o:HO} (hm:∀b∈ms',b∈ms∨H b=none) (h:b∉ms) (e:H b=some o):b∉ms':=λz=>(hm b z).elim h (λq=>by rw[e] at q;cases q)
mutual
theorem jT.move {t:z5} {ms ms':List Addr} {H H':Hp} (hk:Fm ms H H') (hm:∀b∈ms',b∈ms∨H b=none):∀{r:Rw} {x:V},jT t ms H r x→jT t ms' H' r x
 | .lt n v,x,h=>by
  unfold jT at h ⊢
  obtain⟨p,e,hp,dx,q⟩:=h
  exact⟨p,e,cL hm hp q,dx,hk _ _ hp q⟩
 | .cl k l u a n r,x,h=>by
  unfold jT at h ⊢
  obtain⟨p,e,hp,dx,q⟩:=h
  exact⟨p,e,cL hm hp q,dx,hk _ _ hp q⟩
 | .pt n rs rows,x,h=>by
  unfold jT at h ⊢
  obtain⟨p,dx,a,b,ys,e,hp,ha,hb,e1,e2,e3,q⟩:=h
  exact⟨p,dx,a,b,ys,e,cL hm hp e1,cL hm ha e2,cL hm hb e3,hk _ _ hp e1,hk _ _ ha e2,hk _ _ hb e3,qy.move hk hm q⟩
theorem qy.move {t:z5} {ms ms':List Addr} {H H':Hp} (hk:Fm ms H H') (hm:∀b∈ms',b∈ms∨H b=none):∀{rs:List Rw} {ys:List V},qy t ms H rs ys→qy t ms' H' rs ys
 | [],ys,h=>by unfold qy at h ⊢;exact h
 | r :: rs,ys,h=>by
  unfold qy at h ⊢
  obtain⟨y,ys',e,h1,h2⟩:=h
  exact⟨y,ys',e,jT.move hk hm h1,qy.move hk hm h2⟩
end
theorem qy.snoc {t:z5} {ms:List Addr} {H:Hp} {r:Rw} {y:V} (h:jT t ms H r y):∀{rs:List Rw} {ys:List V},qy t ms H rs ys→qy t ms H (rs ++ [r]) (ys ++ [y])
 | [],ys,q=>by
  unfold qy at q
  subst q
  show qy t ms H [r] [y]
  unfold qy
  exact⟨y,[],rfl,h,by unfold qy;rfl⟩
 | r' :: rs,ys,q=>by
  unfold qy at q
  obtain⟨y',ys',rfl,h1,h2⟩:=q
  show qy t ms H (r' :: (rs ++ [r])) (y' :: (ys' ++ [y]))
  unfold qy
  exact⟨y',_,rfl,h1,qy.snoc h h2⟩
theorem qy.len {t:z5} {ms:List Addr} {H:Hp}:∀{rs:List Rw} {ys:List V},qy t ms H rs ys→ys.length=rs.length
 | [],ys,q=>by unfold qy at q;rw[q];rfl
 | r' :: rs,ys,q=>by
  unfold qy at q
  obtain⟨y',ys',rfl,h1,h2⟩:=q
  rw[Se,Se,qy.len h2]
abbrev Fr:=Str × List Str × List Rw
def bT (t:z5) (ms:List Addr) (H:Hp) (B:Nat):List Addr→List Addr→List Fr→Prop
 | [],[],[]=>True
 | p :: ps,q :: qs,(n,rs,rows) :: fr=>(∃dx a b,p∉ms∧a∉ms∧H p=some (.ins t.zE dx (KY n a b))∧H a=some (.lst (rs.map V.str)))∧(∃ys,H q=some (.lst ys)∧qy t ms H rows ys∧rows.length≤B)∧bT t ms H B ps qs fr
 | _,_,_=>False
def J9 (a b c:Addr):List (Str × V):=[("heads",.ref a),("bodies",.ref b),("labels",.ref c)]
def ve (ls:List Str):List (Key × V):=ls.map λl=>(.inr l,.bl true)
structure aD (t:z5) (H:Hp) (me dx hd bd lb:Addr) (hps bqs:List Addr) (fr:List Fr) (ls:List Str) (B:Nat):Prop where
 nd:(me :: hd :: bd :: lb :: bqs).Nodup
 se:H me=some (.ins t.zR dx (J9 hd bd lb))
 hh:H hd=some (.lst (hps.map V.ref).reverse)
 hb:H bd=some (.lst (bqs.map V.ref).reverse)
 hl:H lb=some (.dK (ve ls))
 fa:bT t (me :: hd :: bd :: lb :: bqs) H B hps bqs fr
 Zy:ls.length≤B
def vp (t:z5) (H:Hp) (me:Addr) (fr:List Fr) (ls:List Str) (B:Nat) (ms:List Addr):Prop:=∃dx hd bd lb hps bqs,ms=me :: hd :: bd :: lb :: bqs∧aD t H me dx hd bd lb hps bqs fr ls B
theorem bT.len {t:z5} {ms:List Addr} {H:Hp} {B:Nat}:∀{ps qs:List Addr} {fr:List Fr},bT t ms H B ps qs fr→ps.length=fr.length∧qs.length=fr.length
 | [],[],[],_=>⟨rfl,rfl⟩
 | p :: ps,q :: qs,(n,rs,rows) :: fr,h=>by
  have:=bT.len h.2.2
  simp [this.1,this.2]
theorem bT.move {t:z5} {ms ms':List Addr} {H H':Hp} {B B':Nat} (hk:Fm ms H H') (hm:∀b∈ms',b∈ms∨H b=none) (hB:B≤B'):∀{ps qs:List Addr} {fr:List Fr},bT t ms H B ps qs fr→(∀q∈qs,∀o,H q=some o→H' q=some o)→bT t ms' H' B' ps qs fr
 | [],[],[],_,_=>T9
 | p :: ps,q :: qs,(n,rs,rows) :: fr,h,hq=>by
  obtain⟨⟨dx,a,b,h1,h2,h3,h4⟩,⟨ys,h5,h6,h7⟩,h8⟩:=h
  exact⟨⟨dx,a,b,cL hm h1 h3,cL hm h2 h4,hk _ _ h1 h3,hk _ _ h2 h4⟩,⟨ys,hq q Tu _ h5,h6.move hk hm,by omega⟩,bT.move hk hm hB h8 λc hc=>hq c (SV _ hc)⟩
theorem bT.WU {t:z5} {ms:List Addr} {H:Hp} {B:Nat}:∀{ps qs:List Addr} {fr:List Fr},bT t ms H B ps qs fr→∀q∈qs,∃o,H q=some o
 | [],[],[],_,q,hq=>by cases hq
 | p :: ps,q :: qs,(n,rs,rows) :: fr,h,c,hc=>by
  obtain⟨_,⟨ys,h5,_,_⟩,h8⟩:=h
  (rcases So.mp hc with rfl | hc)
  ·exact⟨_,h5⟩
  ·exact bT.WU h8 c hc
theorem aD.WU {t:z5} {H:Hp} {me dx hd bd lb:Addr} {hps bqs:List Addr} {fr:List Fr} {ls:List Str} {B:Nat} (h:aD t H me dx hd bd lb hps bqs fr ls B):∀b∈me :: hd :: bd :: lb :: bqs,∃o,H b=some o:=by
 intro b hb
 simp only[So] at hb
 rcases hb with rfl | rfl | rfl | rfl | hb
 ·exact⟨_,h.se⟩
 ·exact⟨_,h.hh⟩
 ·exact⟨_,h.hb⟩
 ·exact⟨_,h.hl⟩
 ·exact h.fa.WU b hb
theorem bT.inv {t:z5} {ms:List Addr} {H:Hp} {B:Nat} {n:Str} {rs:List Str} {rows:List Rw} {fr:List Fr}:∀{hps bqs:List Addr},bT t ms H B hps bqs ((n,rs,rows) :: fr)→∃p ps q qs,hps=p :: ps∧bqs=q :: qs∧(∃dx a b,p∉ms∧a∉ms∧H p=some (.ins t.zE dx (KY n a b))∧H a=some (.lst (rs.map V.str)))∧(∃ys,H q=some (.lst ys)∧qy t ms H rows ys∧rows.length≤B)∧bT t ms H B ps qs fr
 | [],_,h=>by simp [bT] at h
 | _ :: _,[],h=>by simp [bT] at h
 | p :: ps,q :: qs,h=>⟨p,ps,q,qs,rfl,rfl,h.1,h.2.1,h.2.2⟩
def Qw (t:z5):Sp:=λvs H Q _=>∃(self:Addr) (fr:List Fr) (ls:List Str) (B:Nat) (ms:List Addr),vs=[.ref self]∧vp t H self fr ls B ms∧Q (.int (((fr.length:Nat):Int) - 1)) H
def Vh (t:z5):Sp:=λvs H Q _=>∃(self:Addr) (y:V) (n:Str) (rs:List Str) (rows:List Rw) (fr:List Fr) (ls:List Str) (B:Nat) (ms:List Addr) (r:Rw),vs=[.ref self,y]∧vp t H self ((n,rs,rows) :: fr) ls B ms∧jT t ms H r y∧B < 1000∧∀H',Fm ms H H'→vp t H' self ((n,rs,rows ++ [r]) :: fr) ls (B + 1) ms→Q .non H'
def iJ (t:z5):Sp:=λvs H Q _=>∃(self:Addr) (n:Str) (rs:List Str) (rows:List Rw) (fr:List Fr) (ls:List Str) (B:Nat) (ms:List Addr),vs=[.ref self]∧vp t H self ((n,rs,rows) :: fr) ls B ms∧B≤1000∧∀p H' ms',Fm ms H H'→(∀b∈ms',b∈ms)→vp t H' self fr ls B ms'→jT t ms' H' (.pt n rs rows) (.ref p)→Q (.ref p) H'
theorem b1:¬(("bodies" : Str) = "heads"):=by decide +kernel
theorem b2:¬(("labels" : Str) = "heads"):=by decide +kernel
theorem b3:¬(("labels" : Str) = "bodies"):=by decide +kernel
section
variable {H:Hp} {self dx hd bd lb:Addr} {hps bqs:List Addr} {fr:List Fr} {ls:List Str} {B:Nat}
theorem aD.f1 (h:aD t H self dx hd bd lb hps bqs fr ls B) (T:Txt K mg t):eV K H (.ref self) "heads" (.ref hd):=⟨self,_,dx,_,rfl,h.se,T.qe,T.yS,zL⟩
theorem aD.f2 (h:aD t H self dx hd bd lb hps bqs fr ls B) (T:Txt K mg t):eV K H (.ref self) "bodies" (.ref bd):=⟨self,_,dx,_,rfl,h.se,T.qe,T.kx,(zt b1).trans zL⟩
theorem aD.f3 (h:aD t H self dx hd bd lb hps bqs fr ls B) (T:Txt K mg t):eV K H (.ref self) "labels" (.ref lb):=⟨self,_,dx,_,rfl,h.se,T.qe,T.pT,(zt b2).trans ((zt b3).trans zL)⟩
end
theorem ub:zd ["self"] ["self"] (zy gu):=by walk_at "sc"
theorem kg (T:Txt K mg t):zo P w K mg base zC 1 t.kX t.y8 ["self"] (Qw t):=by
 refine T.xT.fn.ok ub (by walk_at "ln") ?_;walk_at "hd"
 obtain⟨self,fr,ls,B,ms,rfl,⟨dx,hd,bd,lb,hps,bqs,rfl,h⟩,k⟩:=h
 refine⟨_,(zk (zf (zi dD (zX (zH (K:=K) rfl) rfl T.qo S5 (zz (zS (K:=K) rfl (pv 0) rfl) zq)) zx))),?_⟩
 refine⟨_,rfl,_,h.f1 T,hd,_,rfl,.inl (zK.of h.hh),?_⟩
 refine⟨_,_,rfl,rfl,?_⟩
 have:(hps.map V.ref).reverse.length=fr.length:=by rw[Ol,Su];exact h.fa.len.1
 rw[this]
 exact k
theorem ij:zd ["self","row"] ["self","row"] (zy mH):=by walk_at "sc"
theorem wO (T:Txt K mg t):zo P w K mg base zC 1 t.yF t.mm ["self","row"] (Vh t):=by
 refine T.yh.fn.ok ij (by walk_at "ln") ?_;walk_at "hd"
 obtain⟨self,y,n,rs,rows,fr,ls,B,ms,r,rfl,⟨dx,hd,bd,lb,hps,bqs,rfl,h⟩,hr',hB,k⟩:=h
 refine⟨_,(zk (zO (qC SS S9 Tz qk (zu (zv (K:=K) rfl) (zS (K:=K) rfl (pv 0) rfl) (c8 bj zx) (λ_ _=>rfl)) (zz (pv 1) zq)))),?_⟩
 obtain⟨nd,se,hh,hb,hl,fa,Zy⟩:=id h
 obtain⟨p,ps,q,qs,rfl,rfl,f1,⟨ys,e1,e2,e3⟩,f3⟩:=fa.inv
 refine⟨_,rfl,_,h.f2 T,?_⟩
 refine⟨_,rfl,bd,_,_,.ref q,rfl,rfl,zK.of hb,(by rw[SE,Nv];exact tF _ _),?_⟩
 have hq:q∈self :: hd :: bd :: lb :: q :: qs:=by simp
 refine⟨.inl ⟨rfl,_,zK.of e1⟩,_,rfl,q,ys,_,rfl,rfl,e1,zg (by have:=e2.len;omega),?_⟩
 intro H' k' e'
 have fm:Fm (self :: hd :: bd :: lb :: q :: qs) H H':=λb o hb e=>by rw[k' b (λz=>hb (by rw[z];exact hq))];exact e
 have ne:∀b,b∈self :: hd :: bd :: lb :: qs→b≠q:=λb hx z=>by
  subst z
  simp only[Tg,So,not_or] at nd hx
  rcases hx with hx | hx | hx | hx | hx
  ·exact nd.1.2.2.2.1 hx.symm
  ·exact nd.2.1.2.2.1 hx.symm
  ·exact nd.2.2.1.2.1 hx.symm
  ·exact nd.2.2.2.1.1 hx.symm
  ·exact nd.2.2.2.2.1 hx
 have hm:∀b∈self :: hd :: bd :: lb :: q :: qs,b∈self :: hd :: bd :: lb :: q :: qs∨H b=none:=λb hb=>.inl hb
 refine k H' fm ⟨dx,hd,bd,lb,p :: ps,q :: qs,rfl,nd,?_,?_,?_,?_,⟨?_,⟨ys ++ [y],e',qy.snoc (hr'.move fm hm) (e2.move fm hm),?_⟩,f3.move fm hm (OO _) λc hc o e=>by rw[k' c (ne c (by simp [hc]))];exact e⟩,by omega⟩
 ·rw[k' self (ne self (by simp))];exact se
 ·rw[k' hd (ne hd (by simp))];exact hh
 ·rw[k' bd (ne bd (by simp))];exact hb
 ·rw[k' lb (ne lb (by simp))];exact hl
 ·obtain⟨dx',a,b,g1,g2,g3,g4⟩:=f1
  exact⟨dx',a,b,g1,g2,fm _ _ g1 g3,fm _ _ g2 g4⟩
 ·rw[Sl];simp only[Se,S1];omega
theorem Ck {a b c d q:Addr} {qs:List Addr} (h:(a :: b :: c :: d :: q :: qs).Nodup):(a :: b :: c :: d :: qs).Nodup∧∀x∈a :: b :: c :: d :: qs,x≠q:=by
 have h':=h
 simp only[Tg,So,not_or] at h ⊢
 refine⟨⟨⟨h.1.1,h.1.2.1,h.1.2.2.1,h.1.2.2.2.2⟩,⟨h.2.1.1,h.2.1.2.1,h.2.1.2.2.2⟩,⟨h.2.2.1.1,h.2.2.1.2.2⟩,h.2.2.2.1.2,h.2.2.2.2.2⟩,λx hx z=>?_⟩
 subst z
 rcases hx with hx | hx | hx | hx | hx
 ·exact h.1.2.2.2.1 hx.symm
 ·exact h.2.1.2.2.1 hx.symm
 ·exact h.2.2.1.2.1 hx.symm
 ·exact h.2.2.2.1.1 hx.symm
 ·exact h.2.2.2.2.1 hx
theorem fo:zd ["self","head"] ["self"] (zy mG):=by walk_at "sc"
theorem pO (T:Txt K mg t):zo P w K mg base zC 3 t.yP t.mf ["self"] (iJ t):=by
 have M_Part_init:zo P w K mg base zC 1 t.jW t.xY ["self","name","rooms","rows"] (GD K t):=(vO T).mono (by decide)
 refine T.bR.fn.ok fo (by walk_at "ln") ?_;walk_at "hd"
 obtain⟨self,n,rs,rows,fr,ls,B,ms,rfl,⟨dx,hd,bd,lb,hps,bqs,rfl,h⟩,hB,k⟩:=h
 refine⟨_,(zj (za (i:=1) fo.nd rfl (SA rfl) (rY SS N9 Oz oj (zS (K:=K) rfl (pv 0) rfl)))
   (zk (zf (qP T.fH M_Part_init hr rfl T.dQ T.ko.bd .nil zJ (zz (zS (K:=K) rfl (pv 1) rfl) (zz (zS (K:=K) rfl (pv 1) rfl) (zz (rY SS N9 Oz oj (zS (K:=K) rfl (pv 0) rfl)) zq))))))),?_⟩
 obtain⟨nd,se,hh,hb,hl,fa,Zy⟩:=id h
 obtain⟨p,ps,q,qs,rfl,rfl,⟨dx',a,b,g1,g2,g3,g4⟩,⟨ys,e1,e2,e3⟩,f3⟩:=fa.inv
 have WU:=h.WU
 refine⟨_,rfl,_,h.f1 T,?_⟩
 refine⟨.inl ⟨rfl,_,zK.of hh⟩,hd,_,.ref p,rfl,rfl,hh,(by rw[SE,Nv];simp),?_⟩
 intro H1 k1 e1'
 rw[SE,Nv,As] at e1'
 obtain⟨nd2,nq⟩:=Ck nd
 have nab:hd≠bd:=by simp only[Tg,So,not_or] at nd;exact nd.2.1.1
 have nsh:self≠hd:=by simp only[Tg,So,not_or] at nd;exact nd.1.1
 have nsb:self≠bd:=by simp only[Tg,So,not_or] at nd;exact nd.1.2.1
 have nlh:lb≠hd:=by simp only[Tg,So,not_or] at nd;exact λz=>nd.2.1.2.1 z.symm
 have nlb:lb≠bd:=by simp only[Tg,So,not_or] at nd;exact λz=>nd.2.2.1.1 z.symm
 have ph:p≠hd:=λz=>g1 (by rw[z];simp)
 have ah:a≠hd:=λz=>g2 (by rw[z];simp)
 have p1:H1 p=some (.ins t.zE dx' (KY n a b)):=by rw[k1 p ph];exact g3
 have a1:H1 a=some (.lst (rs.map V.str)):=by rw[k1 a ah];exact g4
 have s1:H1 self=some (.ins t.zR dx (J9 hd bd lb)):=by rw[k1 self nsh];exact se
 have b1':H1 bd=some (.lst ((q :: qs).map V.ref).reverse):=by rw[k1 bd (TH nab)];exact hb
 refine⟨_,rfl,_,⟨p,_,dx',_,rfl,p1,T.kN,T.gN,zL⟩,?_⟩
 refine⟨_,rfl,_,⟨p,_,dx',_,rfl,p1,T.kN,T.yN,(zt (λz=>m2 z.symm)).trans zL⟩,?_⟩
 refine⟨_,rfl,_,⟨self,_,dx,_,rfl,s1,T.qe,T.kx,(zt b1).trans zL⟩,?_⟩
 refine⟨.inl ⟨rfl,_,zK.of b1'⟩,bd,_,.ref q,rfl,rfl,b1',(by rw[SE,Nv];simp),?_⟩
 intro H2 k2 e2'
 rw[SE,Nv,As] at e2'
 intro x dxx hx hdx hne
 have keep2:∀c o,c≠hd→c≠bd→H c=some o→H2 c=some o:=λc o h1 h2 e=>by rw[k2 c h2,k1 c h1];exact e
 have keepm:∀c o,H2 c=some o→(upd (upd H2 dxx (HO.own x)) x (HO.ins t.zE dxx [])) c=some o:=jA hx hdx
 have ab:a≠bd:=λz=>g2 (by rw[z];simp)
 have qh:q≠hd:=TH (nq hd (by simp))
 have qb':q≠bd:=TH (nq bd (by simp))
 refine⟨x,dxx,a,q,n,rs,ys,rfl,zm,keepm _ _ (keep2 _ _ ah ab g4),keepm _ _ (keep2 _ _ qh qb' e1),λH3 o3 h3=>⟨rfl,?_⟩⟩
 obtain⟨dx3,qa,qb,r1,r2,r3,z1,z2⟩:=h3
 have keep3:∀c o,H2 c=some o→H3 c=some o:=λc o e=>o3 c o (zh e hx) (keepm c o e)
 have ke:∀c o,c≠hd→c≠bd→H c=some o→H3 c=some o:=λc o h1 h2 e=>keep3 c o (keep2 c o h1 h2 e)
 have h2h:H2 hd=some (.lst (ps.map V.ref).reverse):=by rw[k2 hd nab];exact e1'
 have sub:∀c∈self :: hd :: bd :: lb :: qs,c∈self :: hd :: bd :: lb :: q :: qs:=λc hc=>by
  simp only[So] at hc ⊢
  rcases hc with z | z | z | z | z<;>simp [z]
 have fm:Fm (self :: hd :: bd :: lb :: q :: qs) H H3:=λc o hc e=>ke c o (λz=>hc (by rw[z];simp)) (λz=>hc (by rw[z];simp)) e
 have dom2:∀c∈self :: hd :: bd :: lb :: qs,∃o,H2 c=some o:=λc hc=>by
  by_cases q1:c=hd
  ·subst q1;exact⟨_,h2h⟩
  ·by_cases q2:c=bd
   ·subst q2;exact⟨_,e2'⟩
   ·obtain⟨o,e⟩:=WU c (sub c hc)
    exact⟨o,keep2 c o q1 q2 e⟩
 have ni:∀y,(upd (upd H2 dxx (HO.own x)) x (HO.ins t.zE dxx [])) y=none→y∉self :: hd :: bd :: lb :: qs:=λy e hy=>by
  obtain⟨o,e'⟩:=dom2 y hy
  rw[keepm y o e'] at e;cases e
 have hm:∀c∈self :: hd :: bd :: lb :: qs,c∈self :: hd :: bd :: lb :: q :: qs∨H c=none:=λc hc=>.inl (sub c hc)
 have nqs:∀c∈qs,c≠hd∧c≠bd:=λc hc=>by
  simp only[Tg,So,not_or] at nd2
  exact⟨λz=>nd2.2.1.2.2 (by rw[←z];exact hc),λz=>nd2.2.2.1.2 (by rw[←z];exact hc)⟩
 refine k x H3 (self :: hd :: bd :: lb :: qs) fm sub ⟨dx,hd,bd,lb,ps,qs,rfl,nd2,ke _ _ nsh nsb se,keep3 _ _ h2h,keep3 _ _ e2',ke _ _ nlh nlb hl,f3.move fm hm (SD _) (λc hc o e=>ke c o (nqs c hc).1 (nqs c hc).2 e),Zy⟩ ?_
 unfold jT
 refine⟨x,dx3,qa,qb,ys,rfl,λhxm=>?_,ni qa z1,ni qb z2,r1,r2,r3,e2.move fm hm⟩
 obtain⟨o,e'⟩:=dom2 x hxm
 rw[hx] at e';cases e'
end
def GB (t:z5):Sp:=λvs H Q _=>∃(self:Addr) (fr:List Fr) (ls:List Str) (B:Nat) (ms:List Addr),vs=[.ref self]∧vp t H self fr ls B ms∧B < 1000∧fr≠[]∧(fr.length=1→Q (.bl false) H)∧
 ∀n rs rows n2 rs2 rows2 fr',fr=(n,rs,rows) :: (n2,rs2,rows2) :: fr'→∀H' ms',Fm ms H H'→(∀b∈ms',b∈ms)→vp t H' self ((n2,rs2,rows2 ++ [.pt n rs rows]) :: fr') ls (B + 1) ms'→Q (.bl true) H'
def GF (t:z5):Sp:=λvs H Q _=>∃(self p dx a b:Addr) (n:Str) (rs:List Str) (fr:List Fr) (ls:List Str) (B:Nat) (ms:List Addr),vs=[.ref self,.ref p]∧vp t H self fr ls B ms∧B < 1000∧fr.length≤7∧p∉ms∧a∉ms∧H p=some (.ins t.zE dx (KY n a b))∧H a=some (.lst (rs.map V.str))∧(fr.length=7∨n∈ls→Q (.bl false) H)∧
 (¬(fr.length=7∨n∈ls)→∀H' ms',Fm ms H H'→(∀b∈ms',b∈ms∨H b=none)→vp t H' self ((n,rs,[]) :: fr) (ls ++ [n]) (B + 1) ms'→Q (.bl true) H')
def GH (t:z5):Sp:=λvs H Q _=>∃(self p:Addr) (k:Int) (l u a:Str) (n:Int) (r:Str) (pn:Str) (rs:List Str) (rows:List Rw) (fr:List Fr) (ls:List Str) (B:Nat) (ms:List Addr),vs=[.ref self,.ref p]∧vp t H self ((pn,rs,rows) :: fr) ls B ms∧B < 998∧p∉ms∧At t H p k l u a n r∧(l∈ls→Q (.bl false) H)∧
 (l∉ls→∀H',Fm ms H H'→vp t H' self ((pn,rs,rows ++ [.cl k l u a n r]) :: fr) (ls ++ [l]) (B + 2) ms→Q (.bl true) H')
theorem du {a b c:Addr} {m:Str} (h1:¬m = "heads") (h2:¬m = "bodies") (h3:¬m = "labels"):(J9 a b c).lookup m=none:=(zt h1).trans ((zt h2).trans ((zt h3).trans rfl))
theorem ZH {a b c:Addr}:(J9 a b c).lookup ("many_open" : Str)=none:=du (by decide +kernel) (by decide +kernel) (by decide +kernel)
theorem Xo {a b c:Addr}:(J9 a b c).lookup ("put_in" : Str)=none:=du (by decide +kernel) (by decide +kernel) (by decide +kernel)
theorem av {a b c:Addr}:(J9 a b c).lookup ("closed" : Str)=none:=du (by decide +kernel) (by decide +kernel) (by decide +kernel)
theorem Cg {a b c:Addr}:(J9 a b c).lookup ("takes_done" : Str)=none:=du (by decide +kernel) (by decide +kernel) (by decide +kernel)
theorem Cb {a b c:Addr}:(J9 a b c).lookup ("takes_head" : Str)=none:=du (by decide +kernel) (by decide +kernel) (by decide +kernel)
theorem Cy {a b c:Addr}:(J9 a b c).lookup ("takes_clause" : Str)=none:=du (by decide +kernel) (by decide +kernel) (by decide +kernel)
theorem Cp {a b c:Addr}:(J9 a b c).lookup ("takes" : Str)=none:=du (by decide +kernel) (by decide +kernel) (by decide +kernel)
theorem Xg {ls:List Str} {n:Str}:(xy (ve ls) (.inr n)).isSome=decide (n∈ls):=by
 rw[←gW]
 unfold ve
 rw[zzb]
 rw[OG]
 simp
theorem KN {ls:List Str} {n:Str} (h:n∉ls):putK (ve ls) (.inr n) (.bl true)=ve (ls ++ [n]):=by
 rw[Gf]
 ·unfold ve;rw[SG];rfl
 ·have:=@Xg ls n
  rw[decide_eq_false h] at this
  cases q:xy (ve ls) (.inr n) with
  | none=>rfl
  | some v=>rw[q] at this;cases this
section
variable {P:SM} {w:Tj} {K:Sd} {mg:Str→Option Sr} {base:Heap} {t:z5}
theorem dO:zd ["self"] ["self"] (zy ya):=by walk_at "sc"
theorem dH (T:Txt K mg t):zo P w K mg base zC 5 t.xA t.yf ["self"] (GB t):=by
 refine T.bp.fn.ok dO (by walk_at "ln") ?_;walk_at "hd"
 obtain⟨self,fr,ls,B,ms,rfl,hb,hB,hne,k0,k1⟩:=h
 refine⟨_,(zj (zW (zc qj (jf hr (pv 0)) zx (zQ _))
    (zk (zf xF)) zr)
   (zj (zO (qU hr (pv 0) (zz (jf hr (pv 0)) zq)))
   (zk (zf xF)))),?_⟩
 have M1:qg P w K mg base zC 4 t.zR "many_open" (Qw t):=.mk' T.kj (kg T) T.xT.bd (by decide)
 have M2:qg P w K mg base zC 4 t.zR "put_in" (Vh t):=.mk' T.wU (wO T) T.yh.bd (by decide)
 have M3:qg P w K mg base zC 4 t.zR "closed" (iJ t):=.mk' T.pL (pO T) T.bR.bd (by decide)
 obtain⟨dx,hd,bd,lb,hps,bqs,e,h⟩:=id hb
 refine⟨_,rfl,self,_,dx,_,rfl,h.se,T.qe,ZH,_,M1,?_⟩
 refine⟨self,fr,ls,B,ms,rfl,hb,?_⟩
 walk_at "rd"
 refine zD (λh1=>?_) (λh1=>?_)
 ·walk_at "rd"
  exact k0 (by
   have:((fr.length:Nat):Int) - 1=0:=by simpa using h1
   omega)
 match fr,hne with
 | [(n,rs,rows)],_=>exact absurd rfl h1
 | (n,rs,rows) :: (n2,rs2,rows2) :: fr',_=>
  walk_at "rd"
  refine⟨self,_,dx,_,rfl,h.se,T.qe,Xo,_,M2,?_⟩
  refine⟨_,rfl,self,_,dx,_,rfl,h.se,T.qe,av,_,M3,?_⟩
  refine⟨self,n,rs,rows,_,ls,B,ms,rfl,hb,by omega,λp H1 ms1 fm1 sub1 hb1 hr1=>?_⟩
  refine⟨self,.ref p,n2,rs2,rows2,fr',ls,B,ms1,.pt n rs rows,rfl,hb1,hr1,hB,λH2 fm2 hb2=>?_⟩
  exact k1 _ _ _ _ _ _ _ rfl H2 ms1 (fm1.trans fm2 (λb hb=>.inl (sub1 b hb))) sub1 hb2
theorem dI:zd ["self","head"] ["self","head"] (zy yZ):=by walk_at "sc"
theorem dB (T:Txt K mg t):zo P w K mg base zC 3 t.x6 t.ym ["self","head"] (GF t):=by
 refine T.bc.fn.ok dI (by walk_at "ln") ?_;walk_at "hd"
 obtain⟨self,p,dxp,a,b,n,rs,fr,ls,B,ms,rfl,hb,hB,h7,hp,ha,ep,ea,k0,k1⟩:=h
 refine⟨_,(zj (zW (PW.pt (vF (zc qj (jf hr (pv 0)) (qO rfl (T.QU).choose_spec (v:=.int 6) ⟨_,rfl⟩) (zQ _)) (kM (ZI (XB (qi hr) (zS (K:=K) rfl (pv 1) rfl) (zS (K:=K) rfl (pv 0) rfl))))))
    (zk (zf xF)) zr)
   (zj (ku xF (vH (zS (K:=K) rfl (pv 0) rfl) (zS (K:=K) rfl (pv 1) rfl) (jQ (qi hr))))
   (zj (zO (qC SS S9 Tz qk (zS (K:=K) rfl (pv 0) rfl) (zz (pv 1) zq)))
   (zj (zO (qC SS S9 Tz qk (zS (K:=K) rfl (pv 0) rfl) (zz (zP zq) zq)))
   (zk (zf xF)))))),?_⟩
 have M1:qg P w K mg base zC 2 t.zR "many_open" (Qw t):=.mk' T.kj (kg T) T.xT.bd (by decide)
 obtain⟨dx,hd,bd,lb,hps,bqs,e,h⟩:=id hb
 have fnm:eV K H (.ref p) "name" (.str n):=⟨p,_,dxp,_,rfl,ep,T.kN,T.gN,zL⟩
 refine⟨_,rfl,self,_,dx,_,rfl,h.se,T.qe,ZH,_,M1,?_⟩
 refine⟨self,fr,ls,B,ms,rfl,hb,?_⟩
 walk_at "rd"
 refine zD (λh1=>?_) (λh1=>?_)
 ·walk_at "rd"
  exact k0 (.inl (by
   have:((fr.length:Nat):Int) - 1=6:=by simpa using h1
   omega))
 have n7:¬fr.length=7:=λz=>h1 (by rw[z];rfl)
 refine⟨_,rfl,_,fnm,_,rfl,_,h.f3 T,lb,_,rfl,jS.k (k:=.inr n) h.hl,?_⟩
 rw[Xg]
 subst e
 obtain⟨nd,se,hh,hbb,hl,fa,Zy⟩:=id h
 have ndx:=nd
 simp only[Tg,So,not_or] at ndx
 obtain⟨⟨nsh,nsb,nsl,_⟩,⟨nhb,nhl,_⟩,⟨nbl,_⟩,_,_⟩:=ndx
 refine⟨_,rfl,?_⟩
 refine zD (λh2=>?_) (λh2=>?_)
 ·exact k0 (.inr (zjj h2))
 have hnl:n∉ls:=λz=>h2 (zjx z)
 refine⟨_,rfl,_,h.f3 T,_,rfl,_,fnm,lb,_,.inr n,rfl,rfl,hl,zg (by unfold ve;rw[Su];omega),?_⟩
 intro H1 k1' e1
 rw[KN hnl] at e1
 have s1:H1 self=some (.ins t.zR dx (J9 hd bd lb)):=by rw[k1' self nsl];exact se
 have h1':H1 hd=some (.lst (hps.map V.ref).reverse):=by rw[k1' hd nhl];exact hh
 have b1':H1 bd=some (.lst (bqs.map V.ref).reverse):=by rw[k1' bd nbl];exact hbb
 have lh:=fa.len
 refine⟨_,rfl,_,⟨self,_,dx,_,rfl,s1,T.qe,T.yS,zL⟩,.inl ⟨rfl,_,zK.of h1'⟩,_,rfl,hd,_,_,rfl,rfl,h1',zg (by rw[Ol,Su];omega),?_⟩
 intro H2 k2 e2
 have s2:H2 self=some (.ins t.zR dx (J9 hd bd lb)):=by rw[k2 self nsh];exact s1
 have b2':H2 bd=some (.lst (bqs.map V.ref).reverse):=by rw[k2 bd (TH nhb)];exact b1'
 have l2':H2 lb=some (.dK (ve (ls ++ [n]))):=by rw[k2 lb (TH nhl)];exact e1
 refine⟨_,rfl,_,⟨self,_,dx,_,rfl,s2,T.qe,T.kx,(zt b1).trans zL⟩,.inl ⟨rfl,_,zK.of b2'⟩,Tr _,?_⟩
 intro q H3 s3 hq e3
 refine⟨bd,_,_,rfl,rfl,s3 _ _ b2',zg (by rw[Ol,Su];omega),?_⟩
 intro H4 k4 e4
 have ke:∀c o,c≠hd→c≠bd→c≠lb→H c=some o→H4 c=some o:=λc o z1 z2 z3 e=>by
  rw[k4 c z2];refine s3 _ _ ?_;rw[k2 c z1,k1' c z3];exact e
 have WU:=h.WU
 have dom2:∀c∈self :: hd :: bd :: lb :: bqs,∃o,H2 c=some o:=λc hc=>by
  by_cases q1:c=hd
  ·subst q1;exact⟨_,e2⟩
  ·rw[k2 c q1]
   by_cases q3:c=lb
   ·subst q3;exact⟨_,e1⟩
   ·rw[k1' c q3];exact WU c hc
 have qn:q∉self :: hd :: bd :: lb :: bqs:=λz=>by
  obtain⟨o,e⟩:=dom2 q z
  rw[hq] at e;cases e
 have Hq:H q=none:=by
  cases z:H q with
  | none=>rfl
  | some o=>
   have q1:q≠hd:=λy=>qn (by rw[y];simp)
   have q3:q≠lb:=λy=>qn (by rw[y];simp)
   rw[k2 q q1,k1' q q3,z] at hq;cases hq
 have fm:Fm (self :: hd :: bd :: lb :: bqs) H H4:=λc o hc e=>ke c o (λz=>hc (by rw[z];simp)) (λz=>hc (by rw[z];simp)) (λz=>hc (by rw[z];simp)) e
 have hm:∀c∈self :: hd :: bd :: lb :: q :: bqs,c∈self :: hd :: bd :: lb :: bqs∨H c=none:=λc hc=>by
  simp only[So] at hc
  rcases hc with z | z | z | z | z | z
  ·exact .inl (by simp [z])
  ·exact .inl (by simp [z])
  ·exact .inl (by simp [z])
  ·exact .inl (by simp [z])
  ·exact .inr (by rw[z];exact Hq)
  ·exact .inl (by simp [z])
 have qb:q≠bd:=λy=>qn (by rw[y];simp)
 have q4:H4 q=some (.lst []):=by rw[k4 q qb];exact e3
 have nqs:∀c∈bqs,c≠hd∧c≠bd∧c≠lb:=λc hc=>by
  simp only[Tg,So,not_or] at nd
  exact⟨λz=>nd.2.1.2.2 (by rw[←z];exact hc),λz=>nd.2.2.1.2 (by rw[←z];exact hc),λz=>nd.2.2.2.1 (by rw[←z];exact hc)⟩
 refine k1 (λz=>z.elim n7 hnl) H4 (self :: hd :: bd :: lb :: q :: bqs) fm hm ⟨dx,hd,bd,lb,p :: hps,q :: bqs,rfl,?_,ke _ _ nsh nsb nsl se,?_,?_,?_,⟨⟨dxp,a,b,cL hm hp ep,cL hm ha ea,fm _ _ hp ep,fm _ _ ha ea⟩,⟨[],q4,by unfold qy;rfl,Tr _⟩,fa.move fm hm (OO _) (λc hc o e=>ke c o (nqs c hc).1 (nqs c hc).2.1 (nqs c hc).2.2 e)⟩,by rw[Sl];simp only[Se,S1];omega⟩
 ·have nd':=nd
  simp only[Tg,So,not_or] at nd' qn ⊢
  exact⟨⟨nd'.1.1,nd'.1.2.1,nd'.1.2.2.1,TH qn.1,nd'.1.2.2.2⟩,⟨nd'.2.1.1,nd'.2.1.2.1,TH qn.2.1,nd'.2.1.2.2⟩,⟨nd'.2.2.1.1,TH qn.2.2.1,nd'.2.2.1.2⟩,⟨TH qn.2.2.2.1,nd'.2.2.2.1⟩,qn.2.2.2.2,nd'.2.2.2.2⟩
 ·rw[k4 hd nhb,SE,Nv];exact s3 _ _ e2
 ·rw[SE,Nv];exact e4
 ·rw[k4 lb (TH nbl)];exact s3 _ _ l2'
theorem vp.same {t:z5} {H H':Hp} {me:Addr} {fr:List Fr} {ls:List Str} {B:Nat} {ms:List Addr} (h:vp t H me fr ls B ms) (s:zp H H'):vp t H' me fr ls B ms:=by
 obtain⟨dx,hd,bd,lb,hps,bqs,e,h⟩:=h
 subst e
 exact⟨dx,hd,bd,lb,hps,bqs,rfl,h.nd,s _ _ h.se,s _ _ h.hh,s _ _ h.hb,s _ _ h.hl,h.fa.move (Fm.of s) (λb hb=>.inl hb) (SD _) (λc _ o e=>s _ _ e),h.Zy⟩
theorem vp.up {t:z5} {H:Hp} {me:Addr} {fr:List Fr} {ls:List Str} {B B':Nat} {ms:List Addr} (h:vp t H me fr ls B ms) (hB:B≤B'):vp t H me fr ls B' ms:=by
 obtain⟨dx,hd,bd,lb,hps,bqs,e,h⟩:=h
 subst e
 exact⟨dx,hd,bd,lb,hps,bqs,rfl,h.nd,h.se,h.hh,h.hb,h.hl,h.fa.move (Fm.of (zp.refl _)) (λb hb=>.inl hb) hB (λc _ o e=>e),TV h.Zy hB⟩
theorem vp.WU {t:z5} {H:Hp} {me:Addr} {fr:List Fr} {ls:List Str} {B:Nat} {ms:List Addr} (h:vp t H me fr ls B ms):∀b∈ms,∃o,H b=some o:=by
 obtain⟨dx,hd,bd,lb,hps,bqs,e,h⟩:=h
 subst e
 exact h.WU
theorem vp.out {t:z5} {H:Hp} {me:Addr} {fr:List Fr} {ls:List Str} {B:Nat} {ms:List Addr} {p:Addr} (h:vp t H me fr ls B ms) (hp:H p=none):p∉ms:=λz=>by
 obtain⟨o,e⟩:=h.WU p z
 rw[hp] at e;cases e
def push:List Fr→Rw→List Fr
 | (n,rs,rows) :: fr,r=>(n,rs,rows ++ [r]) :: fr
 | [],_=>[]
def bP (fr:List Fr) (ls:List Str) (x:Str):Option (List Fr × List Str):=
 if x = "done" then (match fr with
  | (n,rs,rows) :: (n2,rs2,rows2) :: fr'=>some ((n2,rs2,rows2 ++ [.pt n rs rows]) :: fr',ls)
  | _=>none)
 else match kf (vi x) with
  | some (n,rs)=>if fr.length=7∨n∈ls then none else some ((n,rs,[]) :: fr,ls ++ [n])
  | none=>match qZ (vi x) with
   | some (k,l,u,a,n,r)=>if l∈ls then none else some (push fr (.cl k l u a n r),ls ++ [l])
   | none=>match VO (vi x) with
    | none=>none
    | some (n,v)=>some (push fr (.lt n v),ls)
def Vb (t:z5):Sp:=λvs H Q _=>∃(self:Addr) (x:Str) (fr:List Fr) (ls:List Str) (B:Nat) (ms:List Addr),vs=[.ref self,.str x]∧vp t H self fr ls B ms∧B < 998∧x.length≤190∧fr≠[]∧fr.length≤7∧(bP fr ls x=none→∀H',Fm ms H H'→Q (.bl false) H')∧
 ∀fr' ls' H' ms',bP fr ls x=some (fr',ls')→Fm ms H H'→(∀b∈ms',b∈ms∨H b=none)→vp t H' self fr' ls' (B + 2) ms'→Q (.bl true) H'
theorem fi:zd ["self","clause"] ["self","clause"] (zy vM):=by walk_at "sc"
theorem pI (T:Txt K mg t):zo P w K mg base zC 3 t.xx t.vP ["self","clause"] (GH t):=by
 refine T.yb.fn.ok fi (by walk_at "ln") ?_;walk_at "hd"
 obtain⟨self,p,k,l,u,a,n,r,pn,rs,rows,fr,ls,B,ms,rfl,hb,hB,hp,hA,k0,k1⟩:=h
 refine⟨_,(zj (zW (ZI (XB (qi hr) (zS (K:=K) rfl (pv 1) rfl) (zS (K:=K) rfl (pv 0) rfl)))
    (zk (zf xF)) zr)
   (zj (ku xF (vH (zS (K:=K) rfl (pv 0) rfl) (zS (K:=K) rfl (pv 1) rfl) (jQ (qi hr))))
   (zj (zO (qU hr (pv 0) (zz (pv 1) zq)))
   (zk (zf xF))))),?_⟩
 have M2:qg P w K mg base zC 2 t.zR "put_in" (Vh t):=.mk' T.wU (wO T) T.yh.bd (by decide)
 obtain⟨dx,hd,bd,lb,hps,bqs,e,h⟩:=id hb
 subst e
 have fl:=hA.fl T
 refine⟨_,rfl,_,fl,_,rfl,_,h.f3 T,lb,_,rfl,jS.k (k:=.inr l) h.hl,?_⟩
 rw[Xg]
 refine⟨_,rfl,?_⟩
 refine zD (λh2=>?_) (λh2=>?_)
 ·exact k0 (zjj h2)
 have hnl:l∉ls:=λz=>h2 (zjx z)
 obtain⟨nd,se,hh,hbb,hl,fa,Zy⟩:=id h
 have ndx:=nd
 simp only[Tg,So,not_or] at ndx
 obtain⟨⟨nsh,nsb,nsl,_⟩,⟨nhb,nhl,_⟩,⟨nbl,_⟩,nlq,_⟩:=ndx
 refine⟨_,rfl,_,h.f3 T,_,rfl,_,fl,lb,_,.inr l,rfl,rfl,hl,zg (by unfold ve;rw[Su];omega),?_⟩
 intro H1 k1' e1
 rw[KN hnl] at e1
 have fm:Fm (self :: hd :: bd :: lb :: bqs) H H1:=λc o hc e=>by rw[k1' c (λz=>hc (by rw[z];simp))];exact e
 have hm:∀c∈self :: hd :: bd :: lb :: bqs,c∈self :: hd :: bd :: lb :: bqs∨H c=none:=λc hc=>.inl hc
 have s1:H1 self=some (.ins t.zR dx (J9 hd bd lb)):=by rw[k1' self nsl];exact se
 have hb1:vp t H1 self ((pn,rs,rows) :: fr) (ls ++ [l]) (B + 1) (self :: hd :: bd :: lb :: bqs):=⟨dx,hd,bd,lb,hps,bqs,rfl,nd,s1,by rw[k1' hd nhl];exact hh,by rw[k1' bd nbl];exact hbb,e1,fa.move fm hm (OO _) (λc hc o e=>by rw[k1' c (λz=>nlq (by rw[←z];exact hc))];exact e),by rw[Sl];simp only[Se,S1];omega⟩
 refine⟨_,rfl,self,_,dx,_,rfl,s1,T.qe,Xo,_,M2,?_⟩
 obtain⟨dxc,ec⟩:=hA
 have hr1:jT t (self :: hd :: bd :: lb :: bqs) H1 (.cl k l u a n r) (.ref p):=by unfold jT;exact⟨p,rfl,hp,dxc,fm _ _ hp ec⟩
 refine⟨_,rfl,self,.ref p,pn,rs,rows,fr,_,_,_,_,rfl,hb1,hr1,by omega,λH2 fm2 hb2=>?_⟩
 exact k1 hnl H2 (fm.trans fm2 hm) hb2
theorem vy:zd ["self","row","head","clause","let"] ["self","row"] (zy uj):=by walk_at "sc"
theorem i5 (T:Txt K mg t):zo P w K mg base zC 7 t.gF t.cm ["self","row"] (Vb t):=by
 have G_v_clause_of:zo P w K mg base zC 6 t.yR t.yB ["row"] (JH t):=(oQ T).mono (by decide)
 have G_v_let_of:zo P w K mg base zC 6 t.dy t.m8 ["row"] (PM t):=(Jg T).mono (by decide)
 have G_v_part_of:zo P w K mg base zC 6 t.pY t.pd ["row"] (GN t):=(ZC T).mono (by decide)
 refine T.tX.fn.ok vy (by walk_at "ln") ?_;walk_at "hd"
 obtain⟨self,x,fr,ls,B,ms,rfl,hb,hB,hx,hne,h7,k0,k1⟩:=h
 refine⟨_,(zj (zW (zc qj (pv 1) zw (zQ _))
    (zk (zf (jf hr (pv 0)))) zr)
   (zj (za (i:=2) vy.nd rfl (SA rfl) (ze G_v_part_of hr rfl T.fL.mg T.fL.fn.kp T.fL.bd .nil zJ (zz (pv 1) zq)))
   (zj (zW (zc K9 (pv 2) yj (zQ _))
    (zk (zf (qU hr (pv 0) (zz (pv 2) zq)))) zr)
   (zj (za (i:=3) vy.nd rfl (SA rfl) (ze G_v_clause_of hr rfl T.yY.mg T.yY.fn.kp T.yY.bd .nil zJ (zz (pv 1) zq)))
   (zj (zW (zc K9 (pv 3) yj (zQ _))
    (zk (zf (qU hr (pv 0) (zz (pv 3) zq)))) zr)
   (zj (za (i:=4) vy.nd rfl (SA rfl) (ze G_v_let_of hr rfl T.ue.mg T.ue.fn.kp T.ue.bd .nil zJ (zz (pv 1) zq)))
   (zj (zW (zc XG (pv 4) yj (zQ _))
    (zk (zf xF)) zr)
   (zj (zO (qU hr (pv 0) (zz (pv 4) zq)))
   (zk (zf xF)))))))))),?_⟩
 have M1:qg P w K mg base zC 6 t.zR "takes_done" (GB t):=.mk' T.dJ (dH T) T.bp.bd (by decide)
 have M2:qg P w K mg base zC 6 t.zR "takes_head" (GF t):=.mk' T.dX (dB T) T.bc.bd (by decide)
 have M3:qg P w K mg base zC 6 t.zR "takes_clause" (GH t):=.mk' T.pS (pI T) T.yb.bd (by decide)
 have M4:qg P w K mg base zC 6 t.zR "put_in" (Vh t):=.mk' T.wU (wO T) T.yh.bd (by decide)
 obtain⟨dx,hd,bd,lb,hps,bqs,e,h⟩:=id hb
 obtain⟨pn,prs,prow,cW,rfl⟩:∃pn prs prow cW,fr=(pn,prs,prow) :: cW:=by
  match fr,hne with
  | (a,b,c) :: r,_=>exact⟨a,b,c,r,rfl⟩
 have se:=h.se
 have hmm:∀c∈ms,c∈ms∨H c=none:=λc hc=>.inl hc
 walk_at "rd"
 refine zD (λh1=>?_) (λh1=>?_)
 ·have hxd:x = "done":=sE h1
  refine⟨_,rfl,self,_,dx,_,rfl,se,T.qe,Cg,_,M1,?_⟩
  refine⟨self,_,ls,B,ms,rfl,hb,by omega,hne,λhl1=>?_,λn rs rows n2 rs2 rows2 fr' ef H' ms' fm sub hb'=>?_⟩
  ·refine k0 ?_ H (λ_ _ _ e=>e)
   unfold bP
   rw[if_pos hxd]
   have hf0:cW=[]:=List.length_eq_zero_iff.mp (by simpa using hl1)
   rw[hf0]
  ·refine k1 _ _ H' ms' ?_ fm (λb hb=>.inl (sub b hb)) (hb'.up (by omega))
   unfold bP
   rw[if_pos hxd,ef]
 have hxd:¬x = "done":=tj h1
 have eT:bP ((pn,prs,prow) :: cW) ls x=(match kf (vi x) with
  | some (n,rs)=>if ((pn,prs,prow) :: cW).length=7∨n∈ls then none else some ((n,rs,[]) :: (pn,prs,prow) :: cW,ls ++ [n])
  | none=>match qZ (vi x) with
   | some (k,l,u,a,n,r)=>if l∈ls then none else some (push ((pn,prs,prow) :: cW) (.cl k l u a n r),ls ++ [l])
   | none=>match VO (vi x) with
    | none=>none
    | some (n,v)=>some (push ((pn,prs,prow) :: cW) (.lt n v),ls)):=by unfold bP;rw[if_neg hxd]
 walk_at "rd"
 refine λH1 s1=>⟨λh0=>?_,λp n rs h0 hp hP=>?_⟩
 ·rw[h0] at eT
  walk_at "rd"
  refine λH2 s2=>⟨λh0c=>?_,λp k l u a n r h0c hp hA=>?_⟩
  ·rw[h0c] at eT
   walk_at "rd"
   refine λH3 s3=>⟨λh0l=>?_,λp n v h0l hp hL=>?_⟩
   ·rw[h0l] at eT
    walk_at "rd"
    exact k0 eT H3 (Fm.of ((s1.trans s2).trans s3))
   ·rw[h0l] at eT
    have sA:zp H H3:=(s1.trans s2).trans s3
    have hout:p∉ms:=(hb.same (s1.trans s2)).out hp
    walk_at "rd"
    refine⟨self,_,dx,_,rfl,sA _ _ se,T.qe,Xo,_,M4,?_⟩
    refine⟨_,rfl,self,.ref p,pn,prs,prow,cW,ls,B,ms,.lt n v,rfl,hb.same sA,(by unfold jT;exact⟨p,rfl,hout,hL⟩),by omega,λH4 fm4 hb4=>?_⟩
    exact k1 _ _ H4 ms eT ((Fm.of sA).trans fm4 hmm) hmm (hb4.up (by omega))
  ·rw[h0c] at eT
   have sA:zp H H2:=s1.trans s2
   have hout:p∉ms:=(hb.same s1).out hp
   walk_at "rd"
   refine⟨self,_,dx,_,rfl,sA _ _ se,T.qe,Cy,_,M3,?_⟩
   refine⟨_,rfl,self,p,k,l,u,a,n,r,pn,prs,prow,cW,ls,B,ms,rfl,hb.same sA,hB,hout,hA,λhl=>?_,λhl H' fm hb'=>?_⟩
   ·exact k0 (by rw[eT];exact if_pos hl) H2 (Fm.of sA)
   ·exact k1 _ _ H' ms (by rw[eT];exact if_neg hl) ((Fm.of sA).trans fm hmm) hmm hb'
 ·rw[h0] at eT
  obtain⟨dxp,a,b,q1,q2,q3,z1,z2⟩:=hP
  walk_at "rd"
  refine⟨self,_,dx,_,rfl,s1 _ _ se,T.qe,Cb,_,M2,?_⟩
  refine⟨_,rfl,self,p,dxp,a,b,n,rs,_,ls,B,ms,rfl,hb.same s1,by omega,h7,hb.out hp,hb.out z1,q1,q2,λhl=>?_,λhl H' ms' fm hm' hb'=>?_⟩
  ·exact k0 (by rw[eT];exact if_pos hl) H1 (Fm.of s1)
  ·exact k1 _ _ H' ms' (by rw[eT];exact if_neg hl) ((Fm.of s1).trans fm hmm) (λc hc=>(hm' c hc).elim .inl (λz=>.inr (s1.free z))) (hb'.up (by omega))
def CM (t:z5):Sp:=λvs H Q _=>∃(self dx:Addr),vs=[.ref self]∧H self=some (.ins t.zR dx [])∧∀H' ms,(∀b o,b≠self→H b=some o→H' b=some o)→(∀b∈ms,b=self∨H b=none)→vp t H' self [("whole",[],[])] [] 0 ms→Q .non H'
def y4:Nat→List Str→List Fr→List Str→Except Nat (List Fr)
 | _,[],fr,_=>.ok fr
 | i,x :: r,fr,ls=>if i=90 then .error i else match bP fr ls x with
  | none=>.error i
  | some (fr',ls')=>y4 (i + 1) r fr' ls'
def FG (n:Nat):Except Nat (List Fr)→Except Nat Rw
 | .error i=>.error i
 | .ok [(a,b,c)]=>.ok (.pt a b c)
 | .ok _=>.error n
def cz (rows:List Str) (start:Nat):Except Nat Rw:=FG rows.length (y4 start (rows.drop start) [("whole",[],[])] [])
theorem WX {fr fr':List Fr} {ls ls':List Str} {x:Str} (h:bP fr ls x=some (fr',ls')) (h0:fr≠[]) (h7:fr.length≤7):fr'≠[]∧fr'.length≤7:=by
 obtain⟨pn,prs,prow,cW,rfl⟩:∃pn prs prow cW,fr=(pn,prs,prow) :: cW:=by
  match fr,h0 with
  | (a,b,c) :: r,_=>exact⟨a,b,c,r,rfl⟩
 have hp:∀r,(push ((pn,prs,prow) :: cW) r)≠[]∧(push ((pn,prs,prow) :: cW) r).length≤7:=λr=>⟨by simp [push],by simpa [push] using h7⟩
 unfold bP at h
 split at h
 ·match cW,h with
  | (a,b,c) :: r,h=>
   cases h
   refine⟨by simp,?_⟩
   simp only[Se] at h7 ⊢
   omega
 ·split at h
  ·split at h
   ·cases h
   ·rename_i hn
    cases h
    refine⟨by simp,?_⟩
    have:¬((pn,prs,prow) :: cW).length=7:=λz=>hn (.inl z)
    simp only[Se] at h7 this ⊢
    omega
  ·split at h
   ·split at h
    ·cases h
    ·cases h;exact hp _
   ·split at h
    ·cases h
    ·cases h;exact hp _
def CU (K:Sd) (t:z5):Sp:=λvs H Q E=>∃(a:Addr) (start:Nat) (rows:List Str),vs=[.ref a,.int start]∧zK K H a (rows.map V.str)∧start≤rows.length∧uY rows∧
 (∀n:Nat,cz rows start=.error n→∀c o H',Hl t n H c o H'→E c o H')∧∀rw p H',cz rows start=.ok rw→zp H H'→jT t [] H' rw (.ref p)→Q (.ref p) H'
theorem Cs (a b c:Addr):zB "labels" (.ref c) (zB "bodies" (.ref b) (zB "heads" (.ref a) []))=J9 a b c:=by
 simp only[zB,J9,if_neg (λz=>b1 (Nn z)),if_neg (λz=>b2 (Nn z)),if_neg (λz=>b3 (Nn z))]
theorem xi {H:Hp} {p:Addr} {o:HO}:Off p H (upd H p o):=λc o' hc e=>by rw[zG hc];exact e
theorem Z6:zd ["self"] ["self"] (zy lB):=by walk_at "sc"
theorem ZD (T:Txt K mg t):zo P w K mg base zC 3 t.yl t.pj ["self"] (CM t):=by
 have M_Part_init:zo P w K mg base zC 1 t.jW t.xY ["self","name","rooms","rows"] (GD K t):=(vO T).mono (by decide)
 refine T.eK.fn.ok Z6 (by walk_at "ln") ?_;walk_at "hd"
 obtain⟨self,dx,rfl,se,k⟩:=h
 refine⟨_,(zj (qI (pv 0) (zP (zz (qP T.fH M_Part_init hr rfl T.dQ T.ko.bd .nil zJ (zz zw (zz (zP zq) (zz (zP zq) zq)))) zq)) rfl)
   (zj (qI (pv 0) (zP (zz (zP zq) zq)) rfl)
   (zk (qI (pv 0) cR rfl)))),?_⟩
 refine⟨Tr _,?_⟩
 intro a1 H1 s1 ha1 ea1
 refine⟨Tr _,?_⟩
 intro a2 H2 s2 ha2 ea2
 intro p dxp hp hdxp hne
 have mk:∀c o,H2 c=some o→(upd (upd H2 dxp (HO.own p)) p (HO.ins t.zE dxp [])) c=some o:=jA hp hdxp
 refine⟨p,dxp,a1,a2,"whole",[],[],rfl,zm,mk _ _ (s2 _ _ ea1),mk _ _ ea2,λH3 o3 h3=>⟨rfl,?_⟩⟩
 obtain⟨dx3,qa,qb,r1,r2,r3,z1,z2⟩:=h3
 have k3:zp H H3:=λc o e=>o3 c o (zh (s2 _ _ (s1 _ _ e)) hp) (mk c o (s2 _ _ (s1 _ _ e)))
 refine⟨zg (by show 1≤1000;decide),?_⟩
 intro hd H4 s4 hhd ehd
 have se4:=s4 _ _ (k3 _ _ se)
 refine⟨_,rfl,self,_,dx,[],rfl,se4,T.qe,T.yS,(by show 0 < 1000;decide),?_⟩
 have o5:Off self H4 (upd H4 self (.ins t.zR dx (zB "heads" (.ref hd) []))):=xi
 generalize hH5:upd H4 self (.ins t.zR dx (zB "heads" (.ref hd) []))=H5 at o5 ⊢
 have e5:H5 self=some (.ins t.zR dx (zB "heads" (.ref hd) [])):=by rw[←hH5];exact zm
 refine⟨Tr _,?_⟩
 intro q H6 s6 hq eq
 refine⟨zg (by show 1≤1000;decide),?_⟩
 intro bd H7 s7 hbd ebd
 refine⟨_,rfl,self,_,dx,_,rfl,s7 _ _ (s6 _ _ e5),T.qe,T.kx,(by show 1 < 1000;decide),?_⟩
 have o8:Off self H7 (upd H7 self (.ins t.zR dx (zB "bodies" (.ref bd) (zB "heads" (.ref hd) [])))):=xi
 generalize hH8:upd H7 self (.ins t.zR dx (zB "bodies" (.ref bd) (zB "heads" (.ref hd) [])))=H8 at o8 ⊢
 have e8:H8 self=some (.ins t.zR dx (zB "bodies" (.ref bd) (zB "heads" (.ref hd) []))):=by rw[←hH8];exact zm
 intro lb H9 s9 hlb elb
 refine⟨_,rfl,self,_,dx,_,rfl,s9 _ _ e8,T.qe,T.pT,?_,?_⟩
 ·have:=jd ("bodies" : Str) (.ref bd) (zB "heads" (.ref hd) [])
  have e:(zB ("heads" : Str) (.ref hd) []).length=1:=rfl
  omega
 have o10:Off self H9 (upd H9 self (.ins t.zR dx (zB "labels" (.ref lb) (zB "bodies" (.ref bd) (zB "heads" (.ref hd) []))))):=xi
 rw[Cs] at o10 ⊢
 have hds:hd≠self:=TH (zh (k3 _ _ se) hhd)
 have qs:q≠self:=TH (zh e5 hq)
 have bs:bd≠self:=TH (zh (s6 _ _ e5) hbd)
 have lbs':lb≠self:=TH (zh e8 hlb)
 have ps:p≠self:=TH (zh (s2 _ _ (s1 _ _ se)) hp)
 have qas:qa≠self:=TH (zh (mk _ _ (s2 _ _ (s1 _ _ se))) z1)
 have up:∀c o,c≠self→H3 c=some o→H9 c=some o:=λc o hc e=>s9 _ _ (o8 _ _ hc (s7 _ _ (s6 _ _ (o5 _ _ hc (s4 _ _ e)))))
 have h5d:H5 hd=some (.lst [.ref p]):=o5 _ _ hds ehd
 have h6d:=s6 _ _ h5d
 have h8d:H8 hd=some (.lst [.ref p]):=o8 _ _ hds (s7 _ _ h6d)
 have h8q:H8 q=some (.lst []):=o8 _ _ qs (s7 _ _ eq)
 have h8b:H8 bd=some (.lst [.ref q]):=o8 _ _ bs ebd
 have hqd:hd≠q:=zh h5d hq
 have hdb:hd≠bd:=zh h6d hbd
 have hdl:hd≠lb:=zh h8d hlb
 have bql:bd≠q:=TH (zh eq hbd)
 have bl:bd≠lb:=zh h8b hlb
 have lq:lb≠q:=TH (zh h8q hlb)
 have h5p:H5 p=some (.ins t.zE dx3 (KY "whole" qa qb)):=o5 _ _ ps (s4 _ _ r1)
 have h5a:H5 qa=some (.lst (([]:List Str).map V.str)):=o5 _ _ qas (s4 _ _ r2)
 have nin:∀c o,c≠self→H3 c=some o→c∉[self,hd,bd,lb,q]:=λc o hc e hm=>by
  have e5':H5 c=some o:=o5 _ _ hc (s4 _ _ e)
  (simp only[So,Tw,or_false] at hm)
  rcases hm with z | z | z | z | z
  ·exact hc z
  ·rw[z,hhd] at e;cases e
  ·have:=s6 _ _ e5';rw[z,hbd] at this;cases this
  ·have:=o8 _ _ hc (s7 _ _ (s6 _ _ e5'));rw[z,hlb] at this;cases this
  ·rw[z,hq] at e5';cases e5'
 have free:∀c,c∈[self,hd,bd,lb,q]→c=self∨H c=none:=λc hm=>by
  (simp only[So,Tw,or_false] at hm)
  by_cases hc:c=self
  ·exact .inl hc
  ·refine .inr ?_
   cases z:H c with
   | none=>rfl
   | some o=>
    have:=nin c o hc (k3 _ _ z)
    exact absurd (by simpa using hm) this
 refine k _ [self,hd,bd,lb,q] (λc o hc e=>o10 _ _ hc (up c o hc (k3 _ _ e))) free ⟨dx,hd,bd,lb,[p],[q],rfl,?_,zm,o10 _ _ hds (s9 _ _ h8d),o10 _ _ bs (s9 _ _ h8b),o10 _ _ lbs' elb,⟨⟨dx3,qa,qb,nin p _ ps r1,nin qa _ qas r2,o10 _ _ ps (up _ _ ps r1),o10 _ _ qas (up _ _ qas r2)⟩,⟨[],o10 _ _ qs (s9 _ _ h8q),by unfold qy;rfl,SD _⟩,T9⟩,SD _⟩
 simp only[Tg,So,Tw,not_or,or_false,Ao,not_false_eq_true,and_true]
 exact⟨⟨TH hds,TH bs,TH lbs',TH qs⟩,⟨hdb,hdl,hqd⟩,⟨bl,bql⟩,lq⟩
theorem vB:zd ["rows","start","body","number"] ["rows","start"] (zy fu):=by walk_at "sc"
theorem si (T:Txt K mg t):zo P w K mg base (rA P w) 8 t.wD t.wV ["rows","start"] (CU K t):=by
 have M_Body_init:zo P w K mg base zC 6 t.yl t.pj ["self"] (CM t):=(ZD T).mono (by decide)
 have M_NoText_init:zo P w K mg base zC 6 t.ja t.xh ["self","row"] (rL K "row"):=(wI T).mono (by decide)
 refine T.wy.fn.Ht vB (by walk_at "ln") ?_;walk_at "hd"
 obtain⟨a,start,rows,rfl,hA,hst,hR,kE,kQ⟩:=h
 refine⟨_,(zj (za (i:=2) vB.nd rfl (SA rfl) (Gg T.Bp M_Body_init hr rfl T.F5 T.eK.bd .nil zJ))
   (zj (jg zzh rfl (Wy rfl T.vU (zz (pv 1) (zz (zX (zH (K:=K) rfl) rfl T.qo S5 (zz (pv 0) zq)) zq))) (zM (i:=3) vB.nd rfl (SA rfl))
    (zk (zW (PW.pt (vF (zc qj (pv 3) (qO rfl (T.QR).choose_spec (v:=.int 90) ⟨_,rfl⟩) (zQ _)) (kM (jh (qt (qU hr (pv 2) (zz (zu (zv (K:=K) rfl) (pv 0) (pv 3) (λ_ _=>rfl)) zq)))))))
    (zk (kr wz rfl (km T.kL M_NoText_init hr rfl T.gg T.jV.bd .nil zJ (zz (pv 3) zq)))) zr)))
   (zj (zW (zc mY (jf hr (pv 2)) zx (zQ _))
    (zk (kr wz rfl (km T.kL M_NoText_init hr rfl T.gg T.jV.bd .nil zJ (zz (zX (zH (K:=K) rfl) rfl T.qo S5 (zz (pv 0) zq)) zq)))) zr)
   (zk (zf (jf hr (pv 2))))))),?_⟩
 have M1:qg P w K mg base zC 7 t.zR "takes" (Vb t):=.mk' T.iR (i5 T) T.tX.bd (by decide)
 have M2:qg P w K mg base zC 7 t.zR "many_open" (Qw t):=.mk' T.kj (kg T) T.xT.bd (by decide)
 have M3:qg P w K mg base zC 7 t.zR "closed" (iJ t):=.mk' T.pL (pO T) T.bR.bd (by decide)
 intro self dx hs hdx hne
 refine⟨self,dx,rfl,zm,λH1 ms k1 fr1 hb1=>⟨rfl,?_⟩⟩
 have s1:zp H H1:=λc o e=>k1 c o (zh e hs) (jA hs hdx c o e)
 have f1:∀c∈ms,H c=none:=λc hc=>by
  rcases fr1 c hc with z | z
  ·rw[z];exact hs
  ·cases q:H c with
   | none=>rfl
   | some o=>rw[jA hs hdx c o q] at z;cases z
 walk_at "rd"
 refine⟨a,_,rfl,.inl (s1.seq hA),?_⟩
 have hlen:(rows.map V.str).length=rows.length:=Su ..
 refine⟨_,_,rfl,⟨by omega,by have:=hR.Zy;omega,by omega,by have:=hR.Zy;omega⟩,?_⟩
 have hn:(((rows.map V.str).length:Nat) - (start:Int)).toNat=rows.length - start:=by rw[hlen];omega
 rw[hn]
 refine kG (lo:=(start:Int)) (n:=rows.length - start) (λi σ H'=>∃(fr:List Fr) (ls:List Str) (ms:List Addr) (v3:Option V),σ=[some (.ref a),some (.int start),some (.ref self),v3]∧zp H H'∧(∀c∈ms,H c=none)∧vp t H' self fr ls (2 * i) ms∧fr≠[]∧fr.length≤7∧y4 start (rows.drop start) [("whole",[],[])] []=y4 (start + i) (rows.drop (start + i)) fr ls)
  ⟨_,_,ms,none,rfl,s1,f1,hb1,by simp,by simp,by rw[Nat.add_zero]⟩ ?_ ?_
 ·rintro i σ H2 hi ⟨fr,ls,ms2,v3,rfl,s2,f2,hb2,hne2,h72,hr2⟩
  have hi':start + i < rows.length:=by omega
  have hwd:wd rows (start + i)∈rows:=rN hi'
  have hd:rows.drop (start + i)=wd rows (start + i) :: rows.drop (start + i + 1):=by
   unfold wd
   rw[Tx,Sn hi']
   exact Ox hi'
  rw[hd] at hr2
  have hfew:=hR.Zy
  have eb:y4 (start + i) (wd rows (start + i) :: rows.drop (start + i + 1)) fr ls=if start + i=90 then .error (start + i) else match bP fr ls (wd rows (start + i)) with
   | none=>.error (start + i)
   | some (fr',ls')=>y4 (start + i + 1) (rows.drop (start + i + 1)) fr' ls':=by rw[y4]
  have bad:y4 (start + i) (wd rows (start + i) :: rows.drop (start + i + 1)) fr ls=.error (start + i)→∀c o H',Hl t ((start:Int) + i) H c o H'→E c o H':=λz c o H' q=>kE (start + i) (by unfold cz;rw[hr2,z];rfl) c o H' (by rw[Int.natCast_add];exact q)
  walk_at "rd"
  refine zD (λh1=>?_) (λh1=>?_)
  ·walk_at "rd"
   exact g9 T λc o H' z=>bad (by
    have:(start:Int) + i=90:=by simpa using h1
    rw[eb,if_pos (by omega)]) c o H' (z.back s2)
  have h90:¬start + i=90:=λz=>h1 (by
   have:(start:Int) + i=90:=by omega
   simp [this])
  rw[if_neg h90] at eb
  obtain⟨dx2,hd2,bd2,lb2,hps2,bqs2,e2,h2⟩:=id hb2
  walk_at "rd"
  refine⟨self,_,dx2,_,rfl,h2.se,T.qe,Cp,_,M1,?_⟩
  have hix:vC (rows.map V.str) ((start:Int) + i)=some (.str (wd rows (start + i))):=by
   have:=bA (xs:=rows) (i:=(start:Int) + i) (by omega) (by omega)
   rw[this]
   unfold wd
   rw[show ((start:Int) + i).toNat=start + i by omega]
  refine⟨_,rfl,_,rfl,a,_,_,_,rfl,rfl,s2.seq hA,hix,?_⟩
  refine⟨self,_,fr,ls,2 * i,ms2,rfl,hb2,by omega,hR.short _ hwd,hne2,h72,λhN H3 fm3=>?_,λfr' ls' H3 ms3 hS fm3 hm3 hb3=>?_⟩
  ·rw[hN] at eb
   walk_at "rd"
   exact g9 T λc o H' z=>bad eb c o H' (z.back (fm3.Kx s2 f2))
  ·rw[hS] at eb
   obtain⟨g1,g2⟩:=WX hS hne2 h72
   walk_at "rd"
   exact⟨fr',ls',ms3,_,rfl,fm3.Kx s2 f2,λc hc=>(hm3 c hc).elim (f2 c) (λz=>s2.free z),hb3.up (by omega),g1,g2,by rw[hr2,eb];rfl⟩
 ·rintro σ H2 ⟨fr,ls,ms2,v3,rfl,s2,f2,hb2,hne2,h72,hr2⟩
  have hfew:=hR.Zy
  rw[show start + (rows.length - start)=rows.length by omega,zzJ,y4] at hr2
  obtain⟨dx2,hd2,bd2,lb2,hps2,bqs2,e2,h2⟩:=id hb2
  walk_at "rd"
  refine⟨self,_,dx2,_,rfl,h2.se,T.qe,ZH,_,M2,?_⟩
  refine⟨self,fr,ls,_,ms2,rfl,hb2,?_⟩
  walk_at "rd"
  refine zD (λh1=>?_) (λh1=>?_)
  ·have h1':(0:Int) < ((fr.length:Nat):Int) - 1:=zjj h1
   walk_at "rd"
   refine⟨a,_,rfl,.inl (s2.seq hA),?_⟩
   rw[hlen]
   walk_at "rd"
   exact g9 T λc o H' z=>kE rows.length (by
    unfold cz
    rw[hr2]
    match fr,h1' with
    | _ :: _ :: _,_=>rfl
    | [_],h=>exact absurd h (by simp)) c o H' (z.back s2)
  have h1':¬(0:Int) < ((fr.length:Nat):Int) - 1:=λz=>h1 (zjx z)
  obtain⟨n,rs,rws,rfl⟩:∃n rs rws,fr=[(n,rs,rws)]:=by
   match fr,hne2,h1' with
   | [(n,rs,rws)],_,_=>exact⟨n,rs,rws,rfl⟩
   | _ :: _ :: _,_,h=>exact absurd (by simp only[Se];omega) h
  walk_at "rd"
  refine⟨self,_,dx2,_,rfl,h2.se,T.qe,av,_,M3,?_⟩
  refine⟨self,n,rs,rws,[],ls,_,ms2,rfl,hb2,by omega,λp H3 ms3 fm3 sub3 hb3 hr3=>?_⟩
  exact kQ _ p H3 (by unfold cz;rw[hr2];rfl) (fm3.Kx s2 f2) (hr3.move (λ_ _ _ e=>e) (λb hb=>by cases hb))
def Px (a b c:Addr) (x:V):List (Str × V):=[("parties",.ref a),("acts",.ref b),("rooms",.ref c),("whole",x)]
theorem a1:¬(("parties" : Str) = "acts"):=by decide +kernel
theorem a2:¬(("parties" : Str) = "rooms"):=by decide +kernel
theorem a3:¬(("parties" : Str) = "whole"):=by decide +kernel
theorem a4:¬(("acts" : Str) = "rooms"):=by decide +kernel
theorem a5:¬(("acts" : Str) = "whole"):=by decide +kernel
theorem a6:¬(("rooms" : Str) = "whole"):=by decide +kernel
theorem Co (a b c:Addr) (x:V):zB "whole" x (zB "rooms" (.ref c) (zB "acts" (.ref b) (zB "parties" (.ref a) [])))=Px a b c x:=by
 simp only[zB,Px,if_neg a1,if_neg a2,if_neg a3,if_neg a4,if_neg a5,if_neg a6]
def GC (K:Sd) (t:z5):Sp:=λvs H Q _=>∃(p dx a b c:Addr) (x:V) (xs ys zs:List V),vs=[.ref p,.ref a,.ref b,.ref c,x]∧H p=some (.ins t.jj dx [])∧H a=some (.lst xs)∧H b=some (.lst ys)∧H c=some (.lst zs)∧
 ∀H' a' b' c',Off p H H'→H' p=some (.ins t.jj dx (Px a' b' c' x))→H' a'=some (.lst xs)→H' b'=some (.lst ys)→H' c'=some (.lst zs)→H a'=none→H b'=none→H c'=none→Q .non H'
def va (t:z5) (H:Hp) (p:Addr) (ps as:List Str) (zb:List (Str × Str)) (rw:Rw):Prop:=∃dx a b c x vs,H p=some (.ins t.jj dx (Px a b c x))∧H a=some (.lst (ps.map V.str))∧H b=some (.lst (as.map V.str))∧H c=some (.lst vs)∧Paired (xq H) vs zb∧jT t [] H rw x
theorem pN {H H':Hp} {p c:Addr} {o:HO} (f:Off p H H') (hp:H' p=some o) (hc:H' c=none):H c=none:=by
 cases e:H c with
 | none=>rfl
 | some u=>
  rw[f c u (λz=>by rw[z,hp] at hc;cases hc) e] at hc
  cases hc
def bJ (rows:List Str):Except Nat (List Str × List Str × List (Str × Str) × Rw):=
 match kP rows 0 "parties" 4 [] with
 | none=>.error 0
 | some ps=>match kP rows 1 "acts" 6 ps with
  | none=>.error 1
  | some as=>match jm (ps ++ as) [] (rows.drop 2) with
   | .error n=>.error n
   | .ok zb=>match cz rows (2 + zb.length) with
    | .error n=>.error n
    | .ok rw=>.ok (ps,as,zb,rw)
theorem dR {taken:List Str}:∀{rest:List Str} {found zb:List (Str × Str)},jm taken found rest=.ok zb→zb.length≤found.length + rest.length∧zb≠[]
 | [],found,zb,h=>by
  unfold jm at h
  split at h
  ·cases h
  ·rename_i z;cases h;exact⟨by simp,z⟩
 | x :: r,found,zb,h=>by
  unfold jm at h
  split at h
  ·split at h
   ·cases h
   ·rename_i z;cases h;exact⟨by omega,z⟩
  ·split at h
   ·cases h
   ·have:=dR h
    rw[Sl] at this
    simp only[Se,S1] at this ⊢
    exact⟨by omega,this.2⟩
theorem Hy {rows:List Str} (hR:uY rows) (i:Nat):(wd rows i).length≤190:=by
 by_cases hi:i < rows.length
 ·exact hR.short _ (rN hi)
 ·have hz:(wd rows i).length=0:=by
   unfold wd
   rw[Tx,T4.mpr (by omega)]
   decide +kernel
  omega
theorem oq {rows:List Str} {i:Nat} {x:Str} {m:Int} {taken ns:List Str} (hR:uY rows) (h:kP rows i x m taken=some ns):ns.length≤192:=by
 unfold kP at h
 split at h
 ·cases h
 ·dsimp only at h
  split at h
  ·cases h
  ·cases h
   have hn:=@ak (vi (wd rows i)) x m
   have hw:=(sI (wd rows i)).2
   have:=Hy hR i
   omega
def GO (t:z5):Sp:=λvs H Q E=>∃(x:Str),vs=[.str x]∧x.length≤60000∧uY (NB x "; ")∧
 (∀n:Nat,bJ (NB x "; ")=.error n→∀c o H',Hl t n H c o H'→E c o H')∧∀ps as zb rw p H',bJ (NB x "; ")=.ok (ps,as,zb,rw)→zp H H'→va t H' p ps as zb rw→Q (.ref p) H'
theorem Z8:zd ["self","parties","acts","rooms","whole"] ["self","parties","acts","rooms","whole"] (zy lF):=by walk_at "sc"
theorem cN (T:Txt K mg t):zo P w K mg base zC 1 t.vc t.yu ["self","parties","acts","rooms","whole"] (GC K t):=by
 refine T.uW.fn.ok Z8 (by walk_at "ln") ?_;walk_at "hd"
 obtain⟨p,dx,a,b,c,x,xs,ys,zs,rfl,hp,hA,hB,hC,k⟩:=h
 refine⟨_,(zj (qI (pv 0) (qz (jP (K:=K) rfl) rfl T.ki TQ (zz (pv 1) zq)) rfl)
   (zj (qI (pv 0) (qz (jP (K:=K) rfl) rfl T.ki TQ (zz (pv 2) zq)) rfl)
   (zj (qI (pv 0) (qz (jP (K:=K) rfl) rfl T.ki TQ (zz (pv 3) zq)) rfl)
   (zk (qI (pv 0) (pv 4) rfl))))),?_⟩
 have na:a≠p:=mX hA hp (by intro z;cases z)
 have nb:b≠p:=mX hB hp (by intro z;cases z)
 have nc:c≠p:=mX hC hp (by intro z;cases z)
 refine⟨_,rfl,a,_,rfl,.inl (zK.of hA),?_⟩
 intro q1 H1 s1 hq1 e1
 refine⟨_,rfl,p,_,dx,_,rfl,s1 _ _ hp,T.vR,T.bQ,(by show 0 < 1000;decide),?_⟩
 have o2:Off p H1 (upd H1 p (.ins t.jj dx (zB "parties" (.ref q1) []))):=xi
 generalize hH2:upd H1 p (.ins t.jj dx (zB "parties" (.ref q1) []))=H2 at o2 ⊢
 have e2:H2 p=some (.ins t.jj dx (zB "parties" (.ref q1) [])):=by rw[←hH2];exact zm
 refine⟨_,rfl,b,_,rfl,.inl (zK.of (o2 _ _ nb (s1 _ _ hB))),?_⟩
 intro q3 H3 s3 hq3 e3
 refine⟨_,rfl,p,_,dx,_,rfl,s3 _ _ e2,T.vR,T.cC,(by show 1 < 1000;decide),?_⟩
 have o4:Off p H3 (upd H3 p (.ins t.jj dx (zB "acts" (.ref q3) (zB "parties" (.ref q1) [])))):=xi
 generalize hH4:upd H3 p (.ins t.jj dx (zB "acts" (.ref q3) (zB "parties" (.ref q1) [])))=H4 at o4 ⊢
 have e4:H4 p=some (.ins t.jj dx (zB "acts" (.ref q3) (zB "parties" (.ref q1) []))):=by rw[←hH4];exact zm
 refine⟨_,rfl,c,_,rfl,.inl (zK.of (o4 _ _ nc (s3 _ _ (o2 _ _ nc (s1 _ _ hC))))),?_⟩
 intro q5 H5 s5 hq5 e5
 have l2:(zB ("acts" : Str) (.ref q3) (zB "parties" (.ref q1) [])).length≤2:=by
  have:=jd ("acts" : Str) (.ref q3) (zB "parties" (.ref q1) [])
  have e:(zB ("parties" : Str) (.ref q1) []).length=1:=rfl
  omega
 refine⟨_,rfl,p,_,dx,_,rfl,s5 _ _ e4,T.vR,T.yT,by omega,?_⟩
 have o6:Off p H5 (upd H5 p (.ins t.jj dx (zB "rooms" (.ref q5) (zB "acts" (.ref q3) (zB "parties" (.ref q1) []))))):=xi
 generalize hH6:upd H5 p (.ins t.jj dx (zB "rooms" (.ref q5) (zB "acts" (.ref q3) (zB "parties" (.ref q1) []))))=H6 at o6 ⊢
 have e6:H6 p=some (.ins t.jj dx (zB "rooms" (.ref q5) (zB "acts" (.ref q3) (zB "parties" (.ref q1) [])))):=by rw[←hH6];exact zm
 refine⟨_,rfl,_,rfl,p,_,dx,_,rfl,e6,T.vR,T.mQ,?_,?_⟩
 ·have:=jd ("rooms" : Str) (.ref q5) (zB "acts" (.ref q3) (zB "parties" (.ref q1) []))
  omega
 have o7:Off p H6 (upd H6 p (.ins t.jj dx (zB "whole" x (zB "rooms" (.ref q5) (zB "acts" (.ref q3) (zB "parties" (.ref q1) [])))))):=xi
 rw[Co] at o7 ⊢
 have n1:q1≠p:=TH (zh hp hq1)
 have n3:q3≠p:=TH (zh e2 hq3)
 have n5:q5≠p:=TH (zh e4 hq5)
 exact k _ q1 q3 q5 (λd o hd e=>o7 _ _ hd (o6 _ _ hd (s5 _ _ (o4 _ _ hd (s3 _ _ (o2 _ _ hd (s1 _ _ e))))))) zm (o7 _ _ n1 (o6 _ _ n1 (s5 _ _ (o4 _ _ n1 (s3 _ _ (o2 _ _ n1 e1)))))) (o7 _ _ n3 (o6 _ _ n3 (s5 _ _ (o4 _ _ n3 e3)))) (o7 _ _ n5 (o6 _ _ n5 e5)) hq1 (s1.free (pN o2 e2 hq3)) (s1.free (pN o2 e2 (s3.free (pN o4 e4 hq5))))
theorem wm:zd ["text","rows","parties","acts","rooms","whole"] ["text"] (zy Ja):=by walk_at "sc"
theorem V8 (T:Txt K mg t):zo P w K mg base (rA P w) 9 t.cK t.cJ ["text"] (GO t):=by
 have G_v_read_names:zo P w K mg base (rA P w) 8 t.wF t.wX ["rows","number","word","most","taken"] (CD K t):=(su T).mono (by decide)
 have G_v_read_rooms:zo P w K mg base (rA P w) 8 t.wM t.wK ["rows","taken"] (CC K t):=(sr T).mono (by decide)
 have G_v_read_whole:zo P w K mg base (rA P w) 8 t.wD t.wV ["rows","start"] (CU K t):=(si T).mono (by decide)
 have M_Pact_init:zo P w K mg base zC 7 t.vc t.yu ["self","parties","acts","rooms","whole"] (GC K t):=(cN T).mono (by decide)
 refine T.Qf.fn.Ht wm (by walk_at "ln") ?_;walk_at "hd"
 obtain⟨x,rfl,hx,hR,kE,kQ⟩:=h
 refine⟨_,(zj (za (i:=1) wm.nd rfl (SA rfl) (qC T1 NY NG gf (pv 0) (zz zw zq)))
   (zj (za (i:=2) wm.nd rfl (SA rfl) (ze G_v_read_names hr rfl T.jt.mg T.jt.fn.kp T.jt.bd .nil (lG λ_ _ _ z=>z) (zz (pv 1) (zz zx (zz zw (zz (qO rfl (T.nY).choose_spec (v:=.int 4) ⟨_,rfl⟩) (zz (zP zq) zq)))))))
   (zj (za (i:=3) wm.nd rfl (SA rfl) (ze G_v_read_names hr rfl T.jt.mg T.jt.fn.kp T.jt.bd .nil (lG λ_ _ _ z=>z) (zz (pv 1) (zz zx (zz zw (zz (qO rfl (T.QC).choose_spec (v:=.int 6) ⟨_,rfl⟩) (zz (pv 2) zq)))))))
   (zj (za (i:=4) wm.nd rfl (SA rfl) (ze G_v_read_rooms hr rfl T.wx.mg T.wx.fn.kp T.wx.bd .nil (lG λ_ _ _ z=>z) (zz (pv 1) (zz (zi vG (pv 2) (pv 3)) zq))))
   (zj (za (i:=5) wm.nd rfl (SA rfl) (ze G_v_read_whole hr rfl T.wy.mg T.wy.fn.kp T.wy.bd .nil (lG λ_ _ _ z=>z) (zz (pv 1) (zz (zi qp (qO rfl (T.vN).choose_spec (v:=.int 2) ⟨_,rfl⟩) (zX (zH (K:=K) rfl) rfl T.qo S5 (zz (pv 4) zq))) zq))))
   (zk (zf (qP T.K4 M_Pact_init hr rfl T.YD T.uW.bd .nil zJ (zz (pv 2) (zz (pv 3) (zz (pv 4) (zz (pv 5) zq)))))))))))),?_⟩
 walk_at "rd"
 refine⟨by rw[sizeLine_eq];omega,?_⟩
 intro lr H1 s1 hlr e1
 have hpos:1≤(NB x (SR "; ")).length:=OV x "; "
 have e1':H1 lr=some (.lst ((NB x "; ").map V.str)):=e1
 clear e1
 generalize NB x (SR "; ")=rows at *
 walk_at "rd"
 intro l0 H2 s2 hl0 e2
 have sA:zp H H2:=s1.trans s2
 refine⟨lr,l0,0,_,_,rows,[],rfl,zK.of (s2 _ _ e1'),e2,Tr _,hR,Tr _,by decide,λhN c o H' z=>?_,λps lp H3 hS s3 hlp e3=>?_⟩
 ·exact kE 0 (by unfold bJ;rw[hN]) c o H' (z.back sA)
 have hps:=oq hR hS
 walk_at "rd"
 refine⟨lr,lp,1,_,_,rows,ps,rfl,zK.of (s3 _ _ (s2 _ _ e1')),e3,hpos,hR,by omega,by decide,λhN c o H' z=>?_,λas la H4 hS4 s4 hla e4=>?_⟩
 ·exact kE 1 (by unfold bJ;rw[hS];dsimp only;rw[hN]) c o H' (z.back (sA.trans s3))
 have has:=oq hR hS4
 walk_at "rd"
 refine⟨lp,la,_,_,rfl,rfl,s4 _ _ e3,e4,zg (by simp only[Su];omega),?_⟩
 intro lt H5 s5 hlt e5
 have e5':H5 lt=some (.lst ((ps ++ as).map V.str)):=by rw[e5,SG]
 have sB:zp H H5:=((sA.trans s3).trans s4).trans s5
 refine⟨lr,lt,rows,ps ++ as,rfl,zK.of (s5 _ _ (s4 _ _ (s3 _ _ (s2 _ _ e1')))),e5',hR,by rw[Sl];omega,λn hN c o H' z=>?_,λzb l6 H6 vs hS6 s6 hl6 e6 hP6=>?_⟩
 ·exact kE n (by unfold bJ;rw[hS];dsimp only;rw[hS4];dsimp only;rw[hN]) c o H' (z.back sB)
 have hrl:=(dR hS6).1
 have hr0:=IL.mpr (dR hS6).2
 rw[Nb,S1,E2] at hrl
 have hvl:vs.length=zb.length:=TF hP6
 walk_at "rd"
 refine⟨l6,_,rfl,.inl (zK.of e6),?_⟩
 refine⟨_,_,rfl,rfl,?_⟩
 have ecast:(2:Int) + ((vs.length:Nat):Int)=((2 + zb.length:Nat):Int):=by rw[hvl];omega
 have sC:zp H H6:=sB.trans s6
 refine⟨lr,2 + zb.length,rows,by rw[←ecast];rfl,zK.of (s6 _ _ (s5 _ _ (s4 _ _ (s3 _ _ (s2 _ _ e1'))))),by omega,hR,λn hN c o H' z=>?_,λrw' p H7 hS7 s7 hr7=>?_⟩
 ·exact kE n (by unfold bJ;rw[hS];dsimp only;rw[hS4];dsimp only;rw[hS6];dsimp only;rw[hN]) c o H' (z.back sC)
 walk_at "rd"
 intro q dxq hq hdq hne
 have mk:∀c o,H7 c=some o→(upd (upd H7 dxq (HO.own q)) q (HO.ins t.jj dxq [])) c=some o:=jA hq hdq
 refine⟨q,dxq,lp,la,l6,.ref p,_,_,_,rfl,zm,mk _ _ (s7 _ _ (s6 _ _ (s5 _ _ (s4 _ _ e3)))),mk _ _ (s7 _ _ (s6 _ _ (s5 _ _ e4))),mk _ _ (s7 _ _ e6),λH8 a' b' c' o8 g1 g2 g3 g4 _ _ _=>⟨rfl,?_⟩⟩
 have s8:zp H7 H8:=λc o e=>o8 c o (zh e hq) (mk c o e)
 exact kQ ps as zb rw' q H8 (by unfold bJ;rw[hS];dsimp only;rw[hS4];dsimp only;rw[hS6];dsimp only;rw[hS7]) ((sC.trans s7).trans s8) ⟨_,a',b',c',_,_,g1,g2,g3,g4,Paired.imp' (λ_ _ z=>z.same (s7.trans s8)) hP6,hr7.move (λ_ _ _ e=>s8 _ _ e) (λb hb=>by cases hb)⟩
def lits:List Str:=["any","must","may","not","by","else","to","let","be","part","in","calm","sore","end"]
def Rt (k:Nat) (x:Str):Prop:=(k=0∧zZ x=true)∨(k=1∧zZ x=false∧0 < gE x∧x∉lits)∨(k=2∧zZ x=false∧gE x=0∧x∉lits)∨(3≤k∧lits[k - 3]?=some x)
def KJ (k p:Nat):Bool:=if p=100 then k == 0 else if p=101 then k == 0 || k == 3 else if p=102 then k == 1 else k == p
def qM (ks ps:List Nat):Bool:=decide (ks.length=ps.length) && (ks.zip ps).all λq=>KJ q.1 q.2
def XM (p:Nat):Str:=if p=100 then "NAME" else if p=101 then "WHO" else if p=102 then "NUMBER" else lits.getD (p - 3) ""
def lY:List Nat:=[100,100,4,100,7,102,8,100]
def p8:List Nat:=[100,101,5,100]
def XH:List Nat:=[100,101,5,6,100,8,100]
def rV:List Nat:=[100,101,7,100,9,100]
def Be:List Nat:=[10,100,11,100]
def ay:List Nat:=[12,100]
def Gj (p:Nat):Bool:=p == 100 || p == 101 || p == 102 || (decide (3≤p) && decide (p≤16))
theorem jx:KZ=lY.map XM∧Zv=p8.map XM∧HR=XH.map XM∧J8=rV.map XM∧Yc=Be.map XM∧ng=ay.map XM:=by decide +kernel
theorem sU:∀x∈lits,zZ x=false∧gE x=0:=by decide +kernel
theorem Bv:lits.Nodup:=by decide +kernel
theorem Zc:∀c∈z4.cps.toList,¬(48≤c∧c≤57):=by decide +kernel
theorem KH (z:Str) (c:Nat):has z c=decide (c∈z.cps.toList):=Ee z c
theorem iP {x z:Str} {m:Int} (h:bC x z m=true):1≤x.length∧(x.length:Int)≤m∧∀c∈x.cps.toList,c∈z.cps.toList:=by
 unfold bC at h
 rw[Te,Te] at h
 obtain⟨⟨h1,h2⟩,h3⟩:=h
 refine⟨zjj h1,zjj h2,λc hc=>?_⟩
 have:=Nt.mp h3 c hc
 rw[KH] at this
 exact zjj this
theorem name_num {x:Str} (h:zZ x=true):gE x=0:=by
 unfold zZ at h
 rw[Te] at h
 obtain⟨h1,_,h3⟩:=iP h.1
 unfold gE
 refine if_neg λq=>?_
 obtain⟨_,_,d3⟩:=lS q.1
 obtain⟨c,e,_⟩:=QP h1
 have hc:c∈x.cps.toList:=List.mem_of_mem_head? e
 exact Zc c (h3 c hc) (d3 c hc)
theorem YI {x:Str} (h:zZ x=true):x∉lits:=λq=>by rw[(sU x q).1] at h;cases h
theorem F3 {k j:Nat} {x:Str} (hk:lits[k]?=some x) (hj:lits[j]?=some x):k=j:=og Bv hk hj
theorem Rt.num {k:Nat} {x:Str} (h:Rt k x):decide (gE x > 0)=(k == 1):=by
 rcases h with ⟨rfl,h⟩ | ⟨rfl,h1,h2,h3⟩ | ⟨rfl,h1,h2,h3⟩ | ⟨h1,h2⟩
 ·rw[name_num h];rfl
 ·rw[zjx h2];rfl
 ·rw[h2];rfl
 ·have hm:=SN h2
  rw[(sU x hm).2]
  have:(k == 1)=false:=beq_eq_false_iff_ne.mpr (by omega)
  rw[this];rfl
theorem Rt.name {k:Nat} {x:Str} (h:Rt k x):zZ x=(k == 0):=by
 rcases h with ⟨rfl,h⟩ | ⟨rfl,h1,h2,h3⟩ | ⟨rfl,h1,h2,h3⟩ | ⟨h1,h2⟩
 ·rw[h];rfl
 ·rw[h1];rfl
 ·rw[h1];rfl
 ·have hm:=SN h2
  rw[(sU x hm).1]
  exact(beq_eq_false_iff_ne.mpr (by omega)).symm
theorem Rt.lit {k j:Nat} {x y:Str} (h:Rt k x) (hj:lits[j]?=some y):decide (x=y)=(k == j + 3):=by
 have nm:x∉lits→k < 3→decide (x=y)=(k == j + 3):=λh h3=>by
  have:¬x=y:=λq=>h (by rw[q];exact SN hj)
  rw[decide_eq_false this]
  exact(beq_eq_false_iff_ne.mpr (by omega)).symm
 rcases h with ⟨rfl,h⟩ | ⟨rfl,h1,h2,h3⟩ | ⟨rfl,h1,h2,h3⟩ | ⟨h1,h2⟩
 ·exact nm (YI h) (by omega)
 ·exact nm h3 (by omega)
 ·exact nm h3 (by omega)
 ·by_cases q:k=j + 3
  ·subst q
   rw[AE] at h2
   rw[hj] at h2
   cases h2
   simp
  ·have:¬x=y:=λe=>q (by subst e;have:=F3 h2 hj;omega)
   rw[decide_eq_false this]
   exact(beq_eq_false_iff_ne.mpr q).symm
theorem MX:∀p < 17,3≤p→XM p≠"NAME"∧XM p≠"WHO"∧XM p≠"NUMBER"∧lits[p - 3]?=some (XM p):=by decide +kernel
theorem Xz (x:Str):vn x "NAME" = zZ x:=if_pos rfl
theorem Kw:("WHO" : Str)≠"NAME"∧("NUMBER" : Str)≠"NAME"∧("NUMBER" : Str)≠"WHO":=by decide +kernel
theorem Rt.fits {k p:Nat} {x:Str} (h:Rt k x) (hp:Gj p=true):vn x (XM p)=KJ k p:=by
 unfold KJ
 by_cases h1:p=100
 ·subst h1
  rw[if_pos rfl]
  show vn x "NAME" = _
  rw[Xz,h.name]
 rw[if_neg h1]
 by_cases h2:p=101
 ·subst h2
  rw[if_pos rfl]
  show vn x "WHO" = _
  unfold vn
  rw[if_neg Kw.1,if_pos rfl,h.name,h.lit (j:=0) rfl]
 rw[if_neg h2]
 by_cases h3:p=102
 ·subst h3
  rw[if_pos rfl]
  show vn x "NUMBER" = _
  unfold vn
  rw[if_neg Kw.2.1,if_neg Kw.2.2,if_pos rfl,h.num]
 rw[if_neg h3]
 have hp':3≤p∧p≤16:=by
  unfold Gj at hp
  simp [h1,h2,h3] at hp
  exact hp
 obtain⟨a,b,c,d⟩:=MX p (by omega) hp'.1
 unfold vn
 rw[if_neg a,if_neg b,if_neg c,h.lit d,Nat.sub_add_cancel hp'.1]
abbrev fE:List Nat→List Str→Prop:=Paired Rt
theorem fE.fits:∀{ks:List Nat} {ws:List Str},fE ks ws→∀{ps:List Nat},ps.all Gj=true→jJ ws (ps.map XM)=qM ks ps:=by
 intro ks ws r ps hp
 unfold jJ qM
 rw[Su,←r.length]
 congr 1
 induction r generalizing ps with
 | nil=>rfl
 | cons h t ih=>
  cases ps with
  | nil=>rfl
  | cons p ps=>
   rw[Ob,Te] at hp
   rw[SE,AA,AA,Ob,Ob,ih hp.2]
   rw[show vn _ (XM p)=KJ _ p from h.fits hp.1]
def ag (ks:List Nat):Bool:=qM (ks.take 2) ay && (ks.length == 2 || (ks.getD 2 99 == 13 && (decide (1≤(ks.drop 3).length) && decide ((ks.drop 3).length≤12) && (ks.drop 3).all (· == 0))))
def Pe (ks:List Nat):Bool:=ks.length == 2 && (decide (14≤ks.getD 0 99) && decide (ks.getD 0 99≤16)) && ks.getD 1 99 == 0
def RM (ks:List Nat):Bool:=!qM ks lY && !qM ks p8 && !qM ks XH && !qM ks rV && !qM ks Be && !ag ks && !Pe ks
def UY (ws:List Str):Prop:=qZ ws=none∧VO ws=none∧kf ws=none∧fz ws=none
theorem fE.take:∀{ks:List Nat} {ws:List Str} (n:Nat),fE ks ws→fE (ks.take n) (ws.take n)
 | _,_,0,_=>.nil
 | _,_,_ + 1,.nil=>.nil
 | _,_,n + 1,.cons r t=>.cons r (fE.take n t)
theorem fE.drop:∀{ks:List Nat} {ws:List Str} (n:Nat),fE ks ws→fE (ks.drop n) (ws.drop n)
 | _,_,0,r=>r
 | _,_,_ + 1,.nil=>.nil
 | _,_,n + 1,.cons _ t=>fE.drop n t
theorem fE.append:∀{ks js:List Nat} {ws zs:List Str},fE ks ws→fE js zs→fE (ks ++ js) (ws ++ zs)
 | _,_,_,_,.nil,s=>s
 | _,_,_,_,.cons r t,s=>.cons r (fE.append t s)
theorem fE.pick:∀{ks:List Nat} {ws:List Str} {i:Nat},fE ks ws→i < ks.length→Rt (ks.getD i 99) (My.wd ws i)
 | _,_,_,.nil,h=>by simp at h
 | _,_,0,.cons r _,_=>r
 | _,_,i + 1,.cons _ t,h=>fE.pick (i:=i) t (by simpa using h)
theorem fE.names:∀{ks:List Nat} {ws:List Str},fE ks ws→ws.all zZ=ks.all (· == 0)
 | _,_,.nil=>rfl
 | _,_,.cons r t=>by rw[Ob,Ob,fE.names t,r.name]
theorem XD:lY.all Gj=true∧p8.all Gj=true∧XH.all Gj=true∧rV.all Gj=true∧Be.all Gj=true∧ay.all Gj=true:=by decide
theorem wN {ks ps:List Nat} {ws fs:List Str} (r:fE ks ws) (hp:ps.all Gj=true) (e:fs=ps.map XM) (h:qM ks ps=false):¬jJ ws fs=true:=by
 rw[e,r.fits hp,h]
 simp
theorem fN {ks ps:List Nat} {ws fs:List Str} (r:fE ks ws) (hp:ps.all Gj=true) (e:fs=ps.map XM) (h:qM ks ps=true):jJ ws fs=true:=by
 rw[e,r.fits hp,h]
theorem VW {ks ps:List Nat} (h:qM ks ps=true):ks.length=ps.length:=by
 unfold qM at h
 rw[Te] at h
 exact zjj h.1
theorem fE.part {ks:List Nat} {ws:List Str} (r:fE ks ws) (h:ag ks=false):kf ws=none:=by
 have hl:=r.length
 unfold kf
 by_cases hf:jJ (ws.take 2) ng=true
 ·rw[if_pos hf]
  have hT:qM (ks.take 2) ay=true:=by
   have:=(r.take 2).fits XD.2.2.2.2.2
   rw[←jx.2.2.2.2.2,hf] at this
   exact this.symm
  have h2:2≤ks.length:=by have:(ks.take 2).length=2:=VW hT;rw[S8] at this;omega
  unfold ag at h
  rw[hT,AM,Bool.or_eq_false_iff] at h
  have hn:¬ws.length=2:=λq=>by
   have:ks.length=2:=by omega
   rw[this] at h
   simp at h
  rw[if_neg hn]
  refine if_pos ?_
  by_cases hin:wd ws 2 = "in"
  ·refine .inr ?_
   have r2:=fE.pick (i:=2) r (by omega)
   have e13:(ks.getD 2 99 == 13)=true:=by rw[←r2.lit (j:=10) (y:="in") rfl];exact zjx hin
   have h3:=h.2
   rw[e13,AM] at h3
   unfold f9
   rw[(r.drop 3).names,←(r.drop 3).length]
   have hc:decide (((ks.drop 3).length:Int)≤12)=decide ((ks.drop 3).length≤12):=by
    by_cases q:(ks.drop 3).length≤12
    ·rw[zjx q,zjx (by omega)]
    ·rw[decide_eq_false q,decide_eq_false (by omega)]
   rw[hc]
   exact h3
  ·exact .inl hin
 ·exact if_neg hf
theorem Qq {c:Nat}:∀{xs ys X Y:List Nat},c∉xs→c∉ys→xs ++ c :: X=ys ++ c :: Y→xs=ys∧X=Y
 | [],[],_,_,_,_,h=>by simpa using h
 | [],y :: ys,_,_,_,hy,h=>by
  simp only[Ta,T8,Aq] at h
  exact absurd (by rw[h.1];simp) hy
 | x :: xs,[],_,_,hx,_,h=>by
  simp only[Ta,T8,Aq] at h
  exact absurd (by rw[←h.1];simp) hx
 | x :: xs,y :: ys,X,Y,hx,hy,h=>by
  simp only[T8,Aq] at h
  obtain⟨e1,e2⟩:=Qq (c:=c) (λq=>hx (SV _ q)) (λq=>hy (SV _ q)) h.2
  exact⟨by rw[h.1,e1],e2⟩
theorem Vt:(" " : Str).cps.toList=[32]:=by decide +kernel
theorem W7:(" " : Str)=⟨#[32]⟩:=by decide +kernel
theorem kB (x y:Str) (r:List Str):(Nh " " (x :: y :: r)).cps.toList=x.cps.toList ++ 32 :: (Nh " " (y :: r)).cps.toList:=by
 rw[QI,cps_append,cps_append,Vt]
 simp
theorem QT:∀{as bs:List Str},as≠[]→bs≠[]→(∀x∈as,32∉x.cps.toList)→(∀x∈bs,32∉x.cps.toList)→Nh " " as=Nh " " bs→as=bs
 | [],_,h,_,_,_,_=>absurd rfl h
 | _ :: _,[],_,h,_,_,_=>absurd rfl h
 | [a],[b],_,_,_,_,e=>by rw[show a=b from e]
 | [a],b :: b' :: r,_,_,ha,_,e=>by
  have e':=congrArg (λz=>z.cps.toList) e
  simp only[kB,L2.join_one] at e'
  exact absurd (by rw[e'];simp) (ha a (by simp))
 | a :: a' :: r,[b],_,_,_,hb,e=>by
  have e':=congrArg (λz=>z.cps.toList) e
  simp only[kB,L2.join_one] at e'
  exact absurd (by rw[←e'];simp) (hb b (by simp))
 | a :: a' :: r,b :: b' :: r',_,_,ha,hb,e=>by
  have e':=congrArg (λz=>z.cps.toList) e
  simp only[kB] at e'
  obtain⟨e1,e2⟩:=Qq (ha a (by simp)) (hb b (by simp)) e'
  have:=QT (as:=a' :: r) (bs:=b' :: r') (by simp) (by simp) (λx hx=>ha x (SV _ hx)) (λx hx=>hb x (SV _ hx)) (bz e2)
  rw[bz e1,this]
theorem iX {ws:List Str} (h:ws≠[]) (hb:∀x∈ws,32∉x.cps.toList):vi (Ni " " ws)=ws:=by
 unfold vi
 rw[join_eq]
 refine(QT h ?_ hb ?_ ?_).symm
 ·intro q
  have:=OV (Nh " " ws) " "
  rw[q] at this
  simp at this
 ·intro x hx
  rw[W7] at hx
  exact StrLaws.split_free _ 32 x hx
 ·exact(A0 _ _).symm
structure Wk (x:Str):Prop where
 as:asc x
 nb:32∉x.cps.toList
def JM (ws:List Str):Nat:=(ws.map (·.length)).sum + ws.length
theorem B2 (as bs:List Str):JM (as ++ bs)=JM as + JM bs:=by
 unfold JM
 rw[SG,List.sum_append,Sl]
 omega
theorem B3 (x:Str):JM [x]=x.length + 1:=by simp [JM]
theorem rT {n:Nat}:∀{ws:List Str},(∀x∈ws,x.length≤n)→JM ws≤(n + 1) * ws.length
 | [],_=>by simp [JM]
 | x :: r,h=>by
  have h1:=h x (by simp)
  have h2:=rT (n:=n) (ws:=r) λy hy=>h y (SV _ hy)
  have e:JM (x :: r)=JM [x] + JM r:=B2 [x] r
  rw[e,B3,Se,zqB]
  omega
theorem sN (ws:List Str):(Ni " " ws).length≤JM ws:=by
 have:=QN " " ws
 have e:(" " : Str).length=1:=by decide +kernel
 rw[e] at this
 unfold JM
 omega
theorem Z1 (ws:List Str):(ws.map (·.length)).sum + ws.length * (" " : Str).length=JM ws:=by
 have e:(" " : Str).length=1:=by decide +kernel
 rw[e];unfold JM;omega
def Cq (c k:Int):Int:=(c % 2147483629 + 104729 * (k + 1)) % 2147483629 * ((c % 2147483629 + 104729 * (k + 1)) % 2147483629) % 2147483647 * 48271 % 2147483647 / 7
def DT (ns:List Int) (k:Int):Int:=if k < (ns.length:Int) then ns.getD k.toNat 0 % 1000000000000000000000007 else 0
def U8 (K:Sd):Sp:=λvs H Q _=>∃(a:Addr) (k:Int) (ns:List Int),vs=[.ref a,.int k]∧zK K H a (ns.map V.int)∧0≤k∧Q (.int (DT ns k)) H
def RE:Sp:=λvs H Q _=>∃(c k:Int),vs=[.int c,.int k]∧0≤k∧k≤1000∧Q (.int (Cq c k)) H
abbrev sS:Str:="fgjkqvxz"
def Hn:List Nat:=[102,103,106,107,113,118,120,122]
theorem Pa:sS.length=8∧sS.cps.toList=Hn:=by decide +kernel
theorem sF:z4.length=26∧z4.cps.toList.length=26:=by decide +kernel
theorem MN:∀c∈Hn,c∈z4.cps.toList:=by decide +kernel
theorem VR:∀x∈gT,∀c∈x.cps.toList,c∉Hn:=by decide +kernel
def X8 (j:Int):Nat:=Hn.getD j.toNat 0
theorem Bd {x:Str} (h1:1≤x.length) (h2:x.length≤8) (h3:∀c∈x.cps.toList,c∈z4.cps.toList) (h4:∃c∈x.cps.toList,c∈Hn):zZ x=true:=by
 unfold zZ bC
 rw[zjx h1,zjx (show (x.length:Int)≤8 by omega)]
 have e:x.cps.toList.all (has z4)=true:=Nt.mpr λc hc=>by rw[KH];exact zjx (h3 c hc)
 rw[e,vw]
 obtain⟨c,hc,hs⟩:=h4
 rw[decide_eq_false (λq=>VR x q c hc hs)]
 rfl
theorem xP {x:Str} (h:zZ x=true):1≤x.length∧x.length≤8∧Wk x:=by
 unfold zZ at h
 rw[Te] at h
 obtain⟨h1,h2,h3⟩:=iP h.1
 refine⟨h1,by omega,λc hc=>KI.2.2 c (h3 c hc),λhc=>?_⟩
 have:¬32∈z4.cps.toList:=by decide +kernel
 exact this (h3 32 hc)
def Yo:List Str:=["part","done","let","calm","sore","end","acts","any","in","else","may","not"]
def Up (c:Int):Int:=2 + c / 81 % (7 - (if c % 3=1 then 1 else 0))
def RV (c:Int):Int:=c / 500 % Up c
def Sx (c:Int):Nat:=(Yo.getD (c / 12 % 12).toNat "").length
def LV (c:Int):Int:=(RV c + 1 + c / 3600 % (Up c - 1)) % Up c
def dZ (j:Int):Nat:=z4.cps.toList.getD (j % 26).toNat 0
def Li (c k:Int) (j:Nat):Nat:=if (j:Int)=LV c then dZ (k / 8 + c / 7) else if (j:Int)=RV c then X8 (k % 8) else dZ (Cq c j)
def DR (c k:Int):List Nat:=(NI (Up c).toNat).map (Li c k)
def LX (c k:Int):List Nat:=if c % 12=5∧k < 8 then [X8 (k % 8)] else if c % 12=7 then (Yo.getD (c / 12 % 12).toNat "").cps.toList ++ [X8 (k % 8),dZ (k / 8)] else if c % 3=1∧k % 2=1 then DR c (k - 1) ++ [dZ (c / 3)] else DR c k
def LK (c k:Int):Str:=⟨(LX c k).toArray⟩
def Uh:Sp:=λvs H Q _=>∃(c k:Int),vs=[.int c,.int k]∧0≤c∧c < 1000000000∧0≤k∧k < 208∧∀H',zp H H'→Q (.str (LK c k)) H'
theorem Qh (k:Int):X8 (k % 8)∈Hn:=by
 unfold X8
 have h0:0≤k % 8:=Ts _ (by omega)
 have h1:k % 8 < 8:=Tp _ (by omega)
 have hj:(k % 8).toNat < Hn.length:=by show (k % 8).toNat < 8;omega
 rw[Tx,Sn hj]
 exact N4 hj
theorem KO (k:Int):z4.cps.toList.getD (k % 26).toNat 0∈z4.cps.toList:=by
 have h0:0≤k % 26:=Ts _ (by omega)
 have h1:k % 26 < 26:=Tp _ (by omega)
 have hj:(k % 26).toNat < z4.cps.toList.length:=by rw[sF.2];omega
 rw[Tx,Sn hj]
 exact N4 hj
def LS (x:Str):Prop:=∀c∈x.cps.toList,c∈z4.cps.toList
def Lv (c k k':Int) (tl:Str):Prop:=(c % 3=1∧k % 2=1∧k'=k - 1∧tl.cps.toList=[dZ (c / 3)])∨(¬(c % 3=1∧k % 2=1)∧k'=k∧tl = "")
theorem D6 {a b:Int} (h:decide (V.int a=V.int b)=true):a=b:=by have:=zjj h;injection this
theorem Py {a b:Int} (h:a=b):decide (V.int a=V.int b)=true:=by subst h;exact zjx rfl
theorem UC:z4.cps.toList.Nodup:=by decide +kernel
theorem LD:Hn.Nodup:=by decide +kernel
theorem getD_inj {L:List Nat} (h:L.Nodup) {i j:Nat} (hi:i < L.length) (hj:j < L.length) (e:L.getD i 0=L.getD j 0):i=j:=by
 rw[Tx,Tx,Sn hi,Sn hj] at e
 have e':L[i]=L[j]:=e
 have hp:=OE.mp h
 rcases Nat.lt_trichotomy i j with q | q | q
 ·exact absurd e' (Em.mp hp i j hi hj q)
 ·exact q
 ·exact absurd e'.symm (Em.mp hp j i hj hi q)
theorem YW {a b:Int} (e:dZ a=dZ b):a % 26=b % 26:=by
 have a0:0≤a % 26:=Ts _ (by decide)
 have a1:a % 26 < 26:=Tp _ (by decide)
 have b0:0≤b % 26:=Ts _ (by decide)
 have b1:b % 26 < 26:=Tp _ (by decide)
 have:=getD_inj UC (i:=(a % 26).toNat) (j:=(b % 26).toNat) (by rw[sF.2];omega) (by rw[sF.2];omega) e
 omega
theorem BS {a b:Int} (e:X8 (a % 8)=X8 (b % 8)):a % 8=b % 8:=by
 have a0:0≤a % 8:=Ts _ (by decide)
 have a1:a % 8 < 8:=Tp _ (by decide)
 have b0:0≤b % 8:=Ts _ (by decide)
 have b1:b % 8 < 8:=Tp _ (by decide)
 have:=getD_inj LD (i:=(a % 8).toNat) (j:=(b % 8).toNat) (by show _ < 8;omega) (by show _ < 8;omega) e
 omega
theorem BC:("; " : Str)=⟨#[59,32]⟩:=by decide +kernel
theorem GQ:("; " : Str).cps.toList=[59,32]:=by decide +kernel
def DV (l:List Nat):Prop:=∀j:Nat,l[j]?=some 59→l[j + 1]?=some 32→False
theorem W5 {x:Str} {i:Nat} (h1:x.cps.toList[i]?=some 59) (h2:x.cps.toList[i + 1]?=some 32):A1 x ⟨#[59,32]⟩ x.length i:=by
 obtain⟨g1,e1⟩:=S3.mp h1
 obtain⟨g2,e2⟩:=S3.mp h2
 have hl:x.cps.toList.length=x.length:=by simp [ND]
 refine⟨by show i + 2≤x.length;omega,?_⟩
 rw[StrLaws.subAt_eq]
 show ((x.cps.toList.drop i).take 2 == [59,32])=true
 rw[Ox g1,Ox g2,e1,e2]
 rfl
theorem Jd {x:Str} {a b:Nat} (hn:∀k,a≤k→k < b→¬A1 x ⟨#[59,32]⟩ x.length k):DV (zq1 x a b).cps.toList:=by
 intro j h1 h2
 rw[StrLaws.strSub_toList] at h1 h2
 have hj:j + 1 < b - a:=by
  have:=(S3.mp h2).1
  rw[S8] at this
  omega
 rw[NU (by omega),Ef] at h1
 rw[NU hj,Ef] at h2
 exact hn (a + j) (by omega) (by omega) (W5 h1 (by rw[Nat.add_assoc];exact h2))
theorem af {x:Str}:∀{cuts:List Nat} {a f:Nat},StrLaws.ChainG x ⟨#[59,32]⟩ x.length a cuts f→(∀k,f≤k→¬A1 x ⟨#[59,32]⟩ x.length k)→∀p∈StrLaws.partsFrom x 2 a cuts,DV p.cps.toList
 | [],a,f,h,hn,y,hy=>by
  obtain rfl:f=a:=h
  rw[SY.mp hy]
  exact Jd λk h1 _=>hn k h1
 | d :: r,a,f,h,hn,y,hy=>by
  rcases So.mp hy with rfl | hy'
  ·exact Jd h.2.2.1
  ·exact af h.2.2.2 hn y hy'
theorem WZ (x:Str):∀p∈NB x ⟨#[59,32]⟩,DV p.cps.toList:=by
 obtain⟨f,hG,hn⟩:=StrLaws.occ_tight x ⟨#[59,32]⟩ (by show 1≤2;decide)
 intro p hp
 have whole:(∀k,¬A1 x ⟨#[59,32]⟩ x.length k)→DV x.cps.toList:=λh j h1 h2=>h j (W5 h1 h2)
 unfold NB at hp
 split at hp
 ·rename_i hc
  rw[SY.mp hp]
  refine whole λk hA=>?_
  (rw[Bool.or_eq_true,decide_eq_true_eq,decide_eq_true_eq] at hc)
  rcases hc with q | q
  ·have:=hA.1;omega
  ·have e:O4 ⟨#[59,32]⟩=1:=by decide +kernel
   rw[e] at q
   unfold O4 at q
   split at q
   ·omega
   ·split at q<;>omega
 ·split at hp
  ·rename_i he
   rw[SY.mp hp]
   rw[List.isEmpty_iff.mp he] at hG
   obtain rfl:f=0:=hG
   exact whole λk=>hn k (Tr _)
  ·rw[StrLaws.partsBetween_eq] at hp
   exact af hG hn p hp
def G2 (l:List Nat):Prop:=∀j:Nat,l[j]?=some 59→l[j + 1]?=some 32
theorem G2.free {l:List Nat} (h:59∉l):G2 l:=λj e=>absurd (SN e) h
theorem wC (x y:Str) (r:List Str):(Nh "; " (x :: y :: r)).cps.toList=x.cps.toList ++ 59 :: 32 :: (Nh "; " (y :: r)).cps.toList:=by
 rw[QI,cps_append,cps_append,GQ]
 simp
theorem G2.glue {x l:List Nat} (hx:59∉x) (hl:G2 l):G2 (x ++ 59 :: 32 :: l):=by
 intro j e
 by_cases q:j < x.length
 ·rw[Nx q] at e
  exact absurd (SN e) hx
 ·rw[T3 (by omega)] at e ⊢
  rw[show j + 1 - x.length=(j - x.length) + 1 by omega]
  generalize j - x.length=i at e ⊢
  match i,e with
  | 0,_=>rfl
  | 1,e=>cases e
  | i + 2,e=>exact hl i e
theorem G2.join:∀{rows:List Str},(∀x∈rows,59∉x.cps.toList)→G2 (Nh "; " rows).cps.toList
 | [],_=>G2.free (by decide +kernel)
 | [x],h=>by rw[L2.join_one];exact G2.free (h x (by simp))
 | x :: y :: r,h=>by
  rw[wC]
  exact G2.glue (h x (by simp)) (G2.join λz hz=>h z (SV _ hz))
theorem nK:∀{ps:List Str},G2 (Nh "; " ps).cps.toList→(∀p∈ps,DV p.cps.toList)→∀p∈ps,59∉p.cps.toList
 | [],_,_,p,hp=>by cases hp
 | [x],h,hn,p,hp=>by
  rw[L2.join_one] at h
  rw[SY.mp hp]
  intro hm
  (obtain⟨j,hj⟩:=Ai hm)
  exact hn x (by simp) j hj (h j hj)
 | x :: y :: r,h,hn,p,hp=>by
  rw[wC] at h
  have h':G2 (Nh "; " (y :: r)).cps.toList:=λj e=>by
   have:=h (x.cps.toList.length + (j + 2)) (by rw[T3 (by omega),Oo];exact e)
   rw[T3 (by omega),show x.cps.toList.length + (j + 2) + 1 - x.cps.toList.length=j + 1 + 2 by omega] at this
   exact this
  (rcases So.mp hp with rfl | hp)
  ·intro hm
   (obtain⟨j,hj⟩:=Ai hm)
   have hjl:=(S3.mp hj).1
   have e:=h j (by rw[Nx hjl];exact hj)
   by_cases q:j + 1 < p.cps.toList.length
   ·rw[Nx q] at e
    exact hn p (by simp) j hj e
   ·rw[T3 (by omega),show j + 1 - p.cps.toList.length=0 by omega] at e
    cases e
  ·exact nK h' (λz hz=>hn z (SV _ hz)) p hp
theorem az:∀{as bs:List Str},as≠[]→bs≠[]→(∀x∈as,59∉x.cps.toList)→(∀x∈bs,59∉x.cps.toList)→Nh "; " as=Nh "; " bs→as=bs
 | [],_,h,_,_,_,_=>absurd rfl h
 | _ :: _,[],_,h,_,_,_=>absurd rfl h
 | [a],[b],_,_,_,_,e=>by rw[show a=b from e]
 | [a],b :: b' :: r,_,_,ha,_,e=>by
  have e':=congrArg (λz=>z.cps.toList) e
  simp only[wC,L2.join_one] at e'
  exact absurd (by rw[e'];simp) (ha a (by simp))
 | a :: a' :: r,[b],_,_,_,hb,e=>by
  have e':=congrArg (λz=>z.cps.toList) e
  simp only[wC,L2.join_one] at e'
  exact absurd (by rw[←e'];simp) (hb b (by simp))
 | a :: a' :: r,b :: b' :: r',_,_,ha,hb,e=>by
  have e':=congrArg (λz=>z.cps.toList) e
  simp only[wC] at e'
  obtain⟨e1,e2⟩:=Qq (ha a (by simp)) (hb b (by simp)) e'
  have:=az (as:=a' :: r) (bs:=b' :: r') (by simp) (by simp) (λx hx=>ha x (SV _ hx)) (λx hx=>hb x (SV _ hx)) (bz (zjq e2).2)
  rw[bz e1,this]
theorem Wm {rows:List Str} (h:rows≠[]) (hb:∀x∈rows,59∉x.cps.toList):NB (Ni "; " rows) "; " = rows:=by
 rw[join_eq]
 have hj:Nh "; " (NB (Nh "; " rows) "; ")=Nh "; " rows:=A0 _ _
 refine(az h ?_ hb ?_ hj.symm).symm
 ·intro q
  have:=OV (Nh "; " rows) "; "
  rw[q] at this
  simp at this
 ·refine nK ?_ ?_
  ·rw[hj];exact G2.join hb
  ·rw[BC];exact WZ _
def mq (ws:List Str):Str:=Ni " " ws
theorem K5 {x:Str} (h:zZ x=true):32∉x.cps.toList:=(xP h).2.2.nb
theorem KR:∀x∈(["let","be","part","done","parties","acts","calm","sore","end"]:List Str),32∉x.cps.toList∧59∉x.cps.toList∧x.length≤7:=by decide +kernel
theorem BP {a b:Str} (ha:zZ a=true) (hb:zZ b=true):fE [10,0,11,0] ["let",a,"be",b]:=.cons (.inr (.inr (.inr ⟨by decide,rfl⟩))) (.cons (.inl ⟨rfl,ha⟩) (.cons (.inr (.inr (.inr ⟨by decide,rfl⟩))) (.cons (.inl ⟨rfl,hb⟩) .nil)))
theorem Gs {n:Str} (h:zZ n=true):fE [12,0] ["part",n]:=.cons (.inr (.inr (.inr ⟨by decide,rfl⟩))) (.cons (.inl ⟨rfl,h⟩) .nil)
theorem p9 {fr:List Fr} {r:Rw}:(push fr r).length=fr.length:=by
 cases fr with
 | nil=>rfl
 | cons f fr=>obtain⟨a,b,c⟩:=f;rfl
theorem ZF {n:Int} (h1:1≤n) (h2:n < 10 ^ 20):Rt 1 (SR (toString n))∧gE (SR (toString n))=n∧Wk (SR (toString n))∧(SR (toString n)).length≤20:=by
 obtain⟨m,rfl⟩:=Nd (show 0≤n by omega)
 have e:=OM m
 have hg:=Y8 (n:=(m:Int)) (by omega) (by omega)
 generalize hs:SR (toString ((m:Nat):Int))=s at *
 have hl:s.length=(zzk 10 m).length:=by
  have:=congrArg Nc e
  rw[Su] at this
  rw[←this]
  simp [ND]
 have hdig:Ig s.cps.toList:=by
  rw[e]
  intro c hc
  obtain⟨ch,hch,rfl⟩:=TY.mp hc
  have:=N1 (b:=10) (by decide) (by decide) hch
  simp [zzp] at this
  exact⟨by have:=this.1;exact this,by have:=this.2;exact this⟩
 have hv:NN s.cps.toList=m:=by rw[e];exact Ae m
 have hhead:s.cps.toList.head?≠some 48:=by
  intro q
  have ta:=zzS s.cps.toList hdig
  rw[hv] at ta
  cases qc:s.cps.toList with
  | nil=>rw[qc] at q;cases q
  | cons c r=>
   rw[qc] at q ta hv
   have hc:c=48:=by simpa using q
   subst hc
   rw[List.dropWhile_cons] at ta
   have hlen:(zzk 10 m).length=r.length + 1:=by
    rw[←hl]
    have:s.length=s.cps.toList.length:=by simp [ND]
    rw[this,qc];rfl
   have hd:(r.dropWhile (· == 48)).length≤r.length:=(List.dropWhile_sublist _).length_le
   cases qd:r.dropWhile (· == 48) with
   | nil=>
    simp only[show ((48:Nat) == 48)=true from rfl,if_true,qd] at ta
    rw[ta] at hlen
    have:r=[]:=by cases r;rfl;simp at hlen
    subst this
    have:NN [48]=0:=rfl
    omega
   | cons d r'=>
    simp only[show ((48:Nat) == 48)=true from rfl,if_true,qd] at ta
    rw[ta,Su] at hlen
    rw[qd] at hd
    omega
 have hlen20:s.length≤20:=by
  rw[hl]
  refine digits10_le (by decide) ?_
  exact_mod_cast h2
 have hw:bC s jE 20=true:=by
  unfold bC
  rw[zjx hg.2.1,zjx (show (s.length:Int)≤20 by omega)]
  simp only[AM]
  exact Nt.mpr λc hc=>by rw[QL];exact zjx (hdig c hc)
 have hn:gE s=(m:Int):=by
  unfold gE
  rw[if_pos ⟨hw,hhead⟩,hv]
 have nl:zZ s=false:=by
  cases q:zZ s with
  | false=>rfl
  | true=>rw[name_num q] at hn;omega
 refine⟨.inr (.inl ⟨rfl,nl,by rw[hn];omega,λq=>?_⟩),hn,⟨hg.2.2,λhc=>?_⟩,hlen20⟩
 ·rw[(sU s q).2] at hn;omega
 ·have:=hdig 32 hc;omega
theorem Bw:∀x∈lits,(∀c∈x.cps.toList,c < 128)∧32∉x.cps.toList∧x.length≤4:=by decide +kernel
theorem rn {x:Str} (h:zZ x=true):Rt 0 x:=.inl ⟨rfl,h⟩
theorem rl {x:Str} {k:Nat} (h:lits[k]?=some x):Rt (k + 3) x:=.inr (.inr (.inr ⟨by omega,by rw[AE];exact h⟩))
structure Wt (k:Nat) (x:Str):Prop where
 rt:Rt k x
 wk:Wk x
 len:x.length≤20
theorem wn {x:Str} (h:zZ x=true):Wt 0 x:=⟨rn h,(xP h).2.2,by have:=(xP h).2.1;omega⟩
theorem wl {x:Str} {k:Nat} (h:lits[k]?=some x):Wt (k + 3) x:=by
 obtain⟨h1,h2,h3⟩:=Bw x (SN h)
 exact⟨rl h,⟨h1,h2⟩,by omega⟩
abbrev WD:List Nat→List Str→Prop:=Paired Wt
theorem WD.Di {ks:List Nat} {ws:List Str} (h:WD ks ws):fE ks ws:=Paired.YR h λ_ _ q=>q.rt
theorem WD.wk:∀{ks:List Nat} {ws:List Str},WD ks ws→∀x∈ws,Wk x∧x.length≤20
 | _,_,.nil,x,hx=>by cases hx
 | _,_,.cons r t,x,hx=>by
  (rcases So.mp hx with rfl | hx)
  ·exact⟨r.wk,r.len⟩
  ·exact WD.wk t x hx
theorem HP {ks:List Nat} {ws:List Str} (r:fE ks ws) (h1:qM ks lY=false) (h2:qM ks p8=false) (h3:qM ks XH=false) (h4:qM ks rV=false):qZ ws=none:=by
 obtain⟨f1,f2,f3,f4,f5,f6⟩:=jx
 obtain⟨o1,o2,o3,o4,o5,o6⟩:=XD
 unfold qZ
 rw[if_neg (wN r o1 f1 h1),if_neg (wN r o2 f2 h2),if_neg (wN r o3 f3 h3),if_neg (wN r o4 f4 h4)]
def WG (u:Str):Prop:=zZ u=true∨u = "any"
theorem wu {u:Str} (h:WG u):∃k,(k=0∨k=3)∧Wt k u:=by
 rcases h with h | rfl
 ·exact⟨0,.inl rfl,wn h⟩
 ·exact⟨3,.inr rfl,wl (k:=0) rfl⟩
theorem Jc {ks:List Nat} {ws:List Str} (r:fE ks ws) (h:qM (ks.take 2) ay=true):jJ (ws.take 2) ng=true:=fN (r.take 2) XD.2.2.2.2.2 jx.2.2.2.2.2 h
theorem rO:∀{rs:List Str},(∀x∈rs,zZ x=true)→WD (Tb rs.length 0) rs
 | [],_=>.nil
 | x :: r,h=>.cons (wn (h x (by simp))) (rO λy hy=>h y (SV _ hy))
def p6 (m:Nat):List Nat:=[12,0,13] ++ Tb m 0
def Pn (m:Nat):Bool:=!qM (p6 m) lY && !qM (p6 m) p8 && !qM (p6 m) XH && !qM (p6 m) rV && !qM (p6 m) Be && !Pe (p6 m) && qM ((p6 m).take 2) ay
theorem UN:∀m < 13,1≤m→Pn m=true:=by decide +kernel
inductive Ew where
 | lt (a b:Str)
 | mu (l w a:Str) (n:Int) (r:Str)
 | my (l w a:Str)
 | bn (l w a r:Str)
 | pw (l w a r:Str)
 | pt (n:Str) (rs:List Str)
 | dn
def Ew.ws:Ew→List Str
 | .lt a b=>["let",a,"be",b]
 | .mu l w a n r=>[l,w,"must",a,"by",SR (toString n),"else",r]
 | .my l w a=>[l,w,"may",a]
 | .bn l w a r=>[l,w,"may","not",a,"else",r]
 | .pw l w a r=>[l,w,"by",a,"to",r]
 | .pt n []=>["part",n]
 | .pt n (x :: rs)=>"part" :: n :: "in" :: x :: rs
 | .dn=>["done"]
def Ew.row (e:Ew):Str:=Ni " " e.ws
def Ew.ok:Ew→Prop
 | .lt a b=>zZ a=true∧zZ b=true
 | .mu l w a n r=>zZ l=true∧zZ w=true∧zZ a=true∧1≤n∧n < 10 ^ 20∧zZ r=true
 | .my l w a=>zZ l=true∧WG w∧zZ a=true
 | .bn l w a r=>zZ l=true∧WG w∧zZ a=true∧zZ r=true
 | .pw l w a r=>zZ l=true∧WG w∧zZ a=true∧zZ r=true
 | .pt n rs=>zZ n=true∧(∀x∈rs,zZ x=true)∧rs.length≤12
 | .dn=>True
def Ew.take (fr:List Fr) (ls:List Str):Ew→Option (List Fr × List Str)
 | .lt a b=>some (push fr (.lt a b),ls)
 | .mu l w a n r=>if l∈ls then none else some (push fr (.cl 0 l w a n r),ls ++ [l])
 | .my l w a=>if l∈ls then none else some (push fr (.cl 1 l w a 0 ""),ls ++ [l])
 | .bn l w a r=>if l∈ls then none else some (push fr (.cl 2 l w a 0 r),ls ++ [l])
 | .pw l w a r=>if l∈ls then none else some (push fr (.cl 3 l w a 0 r),ls ++ [l])
 | .pt n rs=>if fr.length=7∨n∈ls then none else some ((n,rs,[]) :: fr,ls ++ [n])
 | .dn=>match fr with
  | (n,rs,rows) :: (n2,rs2,rows2) :: fr'=>some ((n2,rs2,rows2 ++ [.pt n rs rows]) :: fr',ls)
  | _=>none
theorem Ew.L9:∀{e:Ew},e.ok→(∃ks,WD ks e.ws)∨e=.dn
 | .lt a b,h=>.inl ⟨_,.cons (wl (k:=7) rfl) (.cons (wn h.1) (.cons (wl (k:=8) rfl) (.cons (wn h.2) .nil)))⟩
 | .mu l w a n r,h=>by
  obtain⟨t1,t2,t3,t4⟩:=ZF h.2.2.2.1 h.2.2.2.2.1
  exact .inl ⟨[0,0,4,0,7,1,8,0],.cons (wn h.1) (.cons (wn h.2.1) (.cons (wl (k:=1) rfl) (.cons (wn h.2.2.1) (.cons (wl (k:=4) rfl) (.cons ⟨t1,t3,t4⟩ (.cons (wl (k:=5) rfl) (.cons (wn h.2.2.2.2.2) .nil)))))))⟩
 | .my l w a,h=>by
  obtain⟨k,hk,hw⟩:=wu h.2.1
  exact .inl ⟨[0,k,5,0],.cons (wn h.1) (.cons hw (.cons (wl (k:=2) rfl) (.cons (wn h.2.2) .nil)))⟩
 | .bn l w a r,h=>by
  obtain⟨k,hk,hw⟩:=wu h.2.1
  exact .inl ⟨[0,k,5,6,0,8,0],.cons (wn h.1) (.cons hw (.cons (wl (k:=2) rfl) (.cons (wl (k:=3) rfl) (.cons (wn h.2.2.1) (.cons (wl (k:=5) rfl) (.cons (wn h.2.2.2) .nil))))))⟩
 | .pw l w a r,h=>by
  obtain⟨k,hk,hw⟩:=wu h.2.1
  exact .inl ⟨[0,k,7,0,9,0],.cons (wn h.1) (.cons hw (.cons (wl (k:=4) rfl) (.cons (wn h.2.2.1) (.cons (wl (k:=6) rfl) (.cons (wn h.2.2.2) .nil)))))⟩
 | .pt n [],h=>.inl ⟨_,.cons (wl (k:=9) rfl) (.cons (wn h.1) .nil)⟩
 | .pt n (x :: rs),h=>.inl ⟨_,.cons (wl (k:=9) rfl) (.cons (wn h.1) (.cons (wl (k:=10) rfl) (rO h.2.1)))⟩
 | .dn,_=>.inr rfl
theorem Ew.wk {e:Ew} (h:e.ok):∀x∈e.ws,Wk x∧x.length≤20:=by
 rcases Ew.L9 h with ⟨ks,w⟩ | rfl
 ·exact w.wk
 ·intro x hx
  simp only[Ew.ws,So,Tw,or_false] at hx
  subst hx
  exact⟨⟨by unfold asc;decide +kernel,by decide +kernel⟩,by decide +kernel⟩
theorem Ew.ne (e:Ew):e.ws≠[]:=by
 cases e with
 | pt n rs=>cases rs<;>simp [Ew.ws]
 | _=>simp [Ew.ws]
theorem Ew.vi {e:Ew} (h:e.ok):vi e.row=e.ws:=iX e.ne λx hx=>(Ew.wk h x hx).1.nb
theorem eU:Ew.row .dn = "done":=by decide +kernel
theorem Ew.Y5 {e:Ew} (h:e.ok) (hn:e≠.dn):¬e.row = "done":=λq=>by
 have e1:=Ew.vi h
 have e2:My.vi (Ew.row .dn)=(["done"]:List Str):=Ew.vi (e:=.dn) T9
 rw[q,←eU,e2] at e1
 cases e with
 | dn=>exact hn rfl
 | pt n rs=>cases rs<;>simp [Ew.ws] at e1
 | _=>simp [Ew.ws] at e1
theorem Ew.takes {e:Ew} (h:e.ok) (fr:List Fr) (ls:List Str):bP fr ls e.row=e.take fr ls:=by
 unfold bP
 by_cases hd:e=.dn
 ·subst hd
  rw[if_pos eU]
  rfl
 rw[if_neg (Ew.Y5 h hd),Ew.vi h]
 cases e with
 | dn=>exact absurd rfl hd
 | lt a b=>
  have r:=BP h.1 h.2
  have f5:kf (Ew.lt a b).ws=none:=if_neg (wN (r.take 2) XD.2.2.2.2.2 jx.2.2.2.2.2 (by decide))
  have f6:qZ (Ew.lt a b).ws=none:=HP r (by decide) (by decide) (by decide) (by decide)
  have f7:VO (Ew.lt a b).ws=some (a,b):=if_pos (fN r XD.2.2.2.2.1 jx.2.2.2.2.1 (by decide))
  rw[f5]
  dsimp only
  rw[f6]
  dsimp only
  rw[f7]
  rfl
 | mu l w a n r'=>
  obtain⟨t1,t2,t3,t4⟩:=ZF h.2.2.2.1 h.2.2.2.2.1
  have hw:WD [0,0,4,0,7,1,8,0] (Ew.mu l w a n r').ws:=.cons (wn h.1) (.cons (wn h.2.1) (.cons (wl (k:=1) rfl) (.cons (wn h.2.2.1) (.cons (wl (k:=4) rfl) (.cons ⟨t1,t3,t4⟩ (.cons (wl (k:=5) rfl) (.cons (wn h.2.2.2.2.2) .nil)))))))
  have r:=hw.Di
  have f5:kf (Ew.mu l w a n r').ws=none:=r.part (by decide)
  have f6:qZ (Ew.mu l w a n r').ws=some (0,l,w,a,n,r'):=by
   unfold qZ
   rw[if_pos (fN r XD.1 jx.1 (by decide))]
   show some ((0:Int),l,w,a,gE (SR (toString n)),r')=_
   rw[t2]
  rw[f5]
  dsimp only
  rw[f6]
  rfl
 | my l w a=>
  obtain⟨k,hk,hu⟩:=wu h.2.1
  have hw:WD [0,k,5,0] (Ew.my l w a).ws:=.cons (wn h.1) (.cons hu (.cons (wl (k:=2) rfl) (.cons (wn h.2.2) .nil)))
  have r:=hw.Di
  have hdd:∀j,j=0∨j=3→(qM [0,j,5,0] lY=false∧qM [0,j,5,0] p8=true∧ag [0,j,5,0]=false):=by
   rintro j (rfl | rfl)<;>decide
  obtain⟨d1,d2,d4⟩:=hdd k hk
  have f5:kf (Ew.my l w a).ws=none:=r.part d4
  have f6:qZ (Ew.my l w a).ws=some ((1:Int),l,w,a,(0:Int),("" : Str)):=by
   unfold qZ
   rw[if_neg (wN r XD.1 jx.1 d1),if_pos (fN r XD.2.1 jx.2.1 d2)]
   rfl
  rw[f5]
  dsimp only
  rw[f6]
  rfl
 | bn l w a r'=>
  obtain⟨k,hk,hu⟩:=wu h.2.1
  have hw:WD [0,k,5,6,0,8,0] (Ew.bn l w a r').ws:=.cons (wn h.1) (.cons hu (.cons (wl (k:=2) rfl) (.cons (wl (k:=3) rfl) (.cons (wn h.2.2.1) (.cons (wl (k:=5) rfl) (.cons (wn h.2.2.2) .nil))))))
  have r:=hw.Di
  have hdd:∀j,j=0∨j=3→(qM [0,j,5,6,0,8,0] lY=false∧qM [0,j,5,6,0,8,0] p8=false∧qM [0,j,5,6,0,8,0] XH=true∧ag [0,j,5,6,0,8,0]=false):=by
   rintro j (rfl | rfl)<;>decide
  obtain⟨d1,d2,d3,d4⟩:=hdd k hk
  have f5:kf (Ew.bn l w a r').ws=none:=r.part d4
  have f6:qZ (Ew.bn l w a r').ws=some (2,l,w,a,0,r'):=by
   unfold qZ
   rw[if_neg (wN r XD.1 jx.1 d1),if_neg (wN r XD.2.1 jx.2.1 d2),if_pos (fN r XD.2.2.1 jx.2.2.1 d3)]
   rfl
  rw[f5]
  dsimp only
  rw[f6]
  rfl
 | pw l w a r'=>
  obtain⟨k,hk,hu⟩:=wu h.2.1
  have hw:WD [0,k,7,0,9,0] (Ew.pw l w a r').ws:=.cons (wn h.1) (.cons hu (.cons (wl (k:=4) rfl) (.cons (wn h.2.2.1) (.cons (wl (k:=6) rfl) (.cons (wn h.2.2.2) .nil)))))
  have r:=hw.Di
  have hdd:∀j,j=0∨j=3→(qM [0,j,7,0,9,0] lY=false∧qM [0,j,7,0,9,0] p8=false∧qM [0,j,7,0,9,0] XH=false∧qM [0,j,7,0,9,0] rV=true∧ag [0,j,7,0,9,0]=false):=by
   rintro j (rfl | rfl)<;>decide
  obtain⟨d1,d2,d3,d5,d4⟩:=hdd k hk
  have f5:kf (Ew.pw l w a r').ws=none:=r.part d4
  have f6:qZ (Ew.pw l w a r').ws=some (3,l,w,a,0,r'):=by
   unfold qZ
   rw[if_neg (wN r XD.1 jx.1 d1),if_neg (wN r XD.2.1 jx.2.1 d2),if_neg (wN r XD.2.2.1 jx.2.2.1 d3),if_pos (fN r XD.2.2.2.1 jx.2.2.2.1 d5)]
   rfl
  rw[f5]
  dsimp only
  rw[f6]
  rfl
 | pt n rs=>
  have f5:kf (Ew.pt n rs).ws=some (n,rs):=by
   cases rs with
   | nil=>
    have r:fE [12,0] (Ew.pt n []).ws:=Gs h.1
    unfold kf
    rw[if_pos (Jc r (by decide)),if_pos (show (Ew.pt n []).ws.length=2 from rfl)]
    rfl
   | cons x rs=>
    have h3:WD [12,0,13] ["part",n,"in"]:=.cons (wl (k:=9) rfl) (.cons (wn h.1) (.cons (wl (k:=10) rfl) .nil))
    have r:fE (p6 (x :: rs).length) (Ew.pt n (x :: rs)).ws:=h3.Di.append (rO h.2.1).Di
    have h2:(x :: rs).length≤12:=h.2.2
    have hpat:=UN (x :: rs).length (by omega) (by simp)
    unfold Pn at hpat
    simp only[Te,zzw] at hpat
    have ha:f9 (x :: rs) 12=true:=by
     unfold f9
     rw[zjx (show 1≤(x :: rs).length by simp),zjx (show ((x :: rs).length:Int)≤12 by omega)]
     exact Nt.mpr h.2.1
    unfold kf
    have hl:¬(Ew.pt n (x :: rs)).ws.length=2:=by simp [Ew.ws]
    have hdr:(Ew.pt n (x :: rs)).ws.drop 3=x :: rs:=rfl
    rw[if_pos (Jc r hpat.2),if_neg hl,hdr,if_neg (λq=>q.elim (λq=>q rfl) (λq=>by rw[ha] at q;cases q))]
    rfl
  rw[f5]
  rfl
structure Ql (ps as:List Str) (zb:List (Str × Str)):Prop where
 p1:1≤ps.length
 p2:ps.length≤4
 a1:1≤as.length
 a2:as.length≤6
 r1:1≤zb.length
 r2:zb.length≤12
 pn:∀x∈ps,zZ x=true
 an:∀x∈as,zZ x=true
 rn:∀mn∈zb,lE mn
 nd:(ps ++ as ++ zb.map (·.2)).Nodup
def uz (mn:Str × Str):Str:=mq [mn.1,mn.2]
def rowsOf (ps as:List Str) (zb:List (Str × Str)) (evs:List Ew):List Str:=mq ("parties" :: ps) :: mq ("acts" :: as) :: (zb.map uz ++ evs.map Ew.row)
theorem JB {x:Str} {ns:List Str} (hx:x∈(["parties","acts"]:List Str)) (hn:∀y∈ns,zZ y=true):vi (mq (x :: ns))=x :: ns:=by
 refine iX (by simp) λy hy=>?_
 rcases So.mp hy with rfl | hy
 ·simp only[So,Tw,or_false] at hx
  rcases hx with rfl | rfl
  ·exact(KR _ (by simp)).1
  ·exact(KR _ (by simp)).1
 ·exact K5 (hn y hy)
theorem Vl {ns:List Str} (hn:∀y∈ns,zZ y=true):ns.all zZ=true:=Nt.mpr hn
theorem lK {x:Str} {ns:List Str} {m:Int} (h1:1≤ns.length) (hn:∀y∈ns,zZ y=true) (hm:(ns.length:Int)≤m):xk (x :: ns) x m=ns:=by
 unfold xk f9
 rw[List.drop_one,List.tail_cons,Vl hn,zjx h1,show wd (x :: ns) 0=x from rfl,zjx hm,if_neg (by simp)]
theorem Za:∀x∈zF,32∉x.cps.toList∧59∉x.cps.toList∧x.length≤4∧x≠"part"∧x≠"done":=by decide +kernel
theorem MO {mn:Str × Str} (h:lE mn):vi (uz mn)=[mn.1,mn.2]:=by
 refine iX (by simp) λy hy=>?_
 simp only[So,Tw,or_false] at hy
 rcases hy with rfl | rfl
 ·exact(Za _ h.1).1
 ·exact K5 h.2
theorem Gr {mn:Str × Str} (h:lE mn):fz (vi (uz mn))=some mn:=by
 rw[MO h]
 unfold fz
 rw[if_pos ⟨rfl,by rw[vw];exact zjx h.1,h.2⟩]
 rfl
theorem Gd {e:Ew} (h:e.ok):fz (vi e.row)=none:=by
 rw[Ew.vi h]
 unfold fz
 refine if_neg λq=>?_
 have hp:("part" : Str)∉zF:=by decide +kernel
 have two:∀{x y:Str} {r:List Str},1≤r.length→¬(x :: y :: r).length=2:=λ{x y r} h=>by simp only[Se];omega
 cases e with
 | pt n rs=>
  cases rs with
  | nil=>
   have:=q.2.1
   rw[vw] at this
   exact hp (zjj this)
  | cons x rs=>exact two (by simp) q.1
 | dn=>exact absurd q.1 (by simp [Ew.ws])
 | lt a b=>exact two (by simp) q.1
 | mu l w a n r=>exact two (by simp) q.1
 | my l w a=>exact two (by simp) q.1
 | bn l w a r=>exact two (by simp) q.1
 | pw l w a r=>exact two (by simp) q.1
theorem ar {taken:List Str} {evs:List Ew} (he:∀e∈evs,e.ok):∀{zb found:List (Str × Str)},(∀mn∈zb,lE mn)→(taken ++ (found ++ zb).map (·.2)).Nodup→found ++ zb≠[]→found.length + zb.length≤12→
  jm taken found (zb.map uz ++ evs.map Ew.row)=.ok (found ++ zb)
 | [],found,_,_,hne,hf=>by
  rw[Tt] at hne
  rw[Nk,Ta,Tt]
  cases evs with
  | nil=>simp only[Nk,jm,if_neg hne]
  | cons e r=>
   rw[SE,jm,Gd (he e Tu)]
   dsimp only
   rw[if_neg hne]
 | mn :: r,found,hr,hnd,hne,hf=>by
  have e:found ++ mn :: r=(found ++ [mn]) ++ r:=by simp
  rw[e] at hnd hne
  rw[SE,T8,jm,Gr (hr mn Tu)]
  dsimp only
  have hnd1:(taken ++ (found ++ [mn]).map (·.2)).Nodup:=by
   rw[SG,←TC] at hnd
   exact(TU.mp hnd).1
  simp only[Se] at hf
  rw[if_neg (λz=>z.elim (λz=>by omega) (λz=>z hnd1)),ar he (λx hx=>hr x (SV _ hx)) hnd hne (by rw[Sl];simp only[Se,S1];omega),e]
theorem BH {ps as:List Str} {zb:List (Str × Str)} {evs:List Ew} (h:Ql ps as zb) (he:∀e∈evs,e.ok) :
  bJ (rowsOf ps as zb evs)=match FG (rowsOf ps as zb evs).length (y4 (2 + zb.length) (evs.map Ew.row) [("whole",[],[])] []) with
   | .error n=>.error n
   | .ok rw=>.ok (ps,as,zb,rw):=by
 have e0:vi (wd (rowsOf ps as zb evs) 0)=("parties" : Str) :: ps:=JB (by simp) h.pn
 have e1:vi (wd (rowsOf ps as zb evs) 1)=("acts" : Str) :: as:=JB (by simp) h.an
 have hlen:(rowsOf ps as zb evs).length=2 + zb.length + evs.length:=by unfold rowsOf;simp only[Se,Sl,Su];omega
 have nd:=h.nd
 have nd2:(ps ++ as).Nodup:=(TU.mp nd).1
 have nd1:ps.Nodup:=(TU.mp nd2).1
 have h1:=h.p1;have h2:=h.p2;have h3:=h.a1;have h4:=h.a2;have h5:=h.r1;have h6:=h.r2
 have nps:ps≠[]:=λz=>by rw[z] at h1;simp at h1
 have nas:as≠[]:=λz=>by rw[z] at h3;simp at h3
 have nrm:zb≠[]:=λz=>by rw[z] at h5;simp at h5
 have hn0:kP (rowsOf ps as zb evs) 0 "parties" 4 []=some ps:=by
  unfold kP
  rw[if_neg (by omega),e0]
  dsimp only
  rw[lK h.p1 h.pn (by omega),if_neg (λz=>z.elim nps (λz=>z (by simpa using nd1)))]
 have hn1:kP (rowsOf ps as zb evs) 1 "acts" 6 ps=some as:=by
  unfold kP
  rw[if_neg (by omega),e1]
  dsimp only
  rw[lK h.a1 h.an (by omega),if_neg (λz=>z.elim nas (λz=>z nd2))]
 have hrr:jm (ps ++ as) [] ((rowsOf ps as zb evs).drop 2)=.ok zb:=by
  have:=ar (taken:=ps ++ as) (evs:=evs) he (zb:=zb) (found:=[]) h.rn (by simpa using nd) (by simpa using nrm) (by simpa using h6)
  simpa [rowsOf] using this
 have hdrop:(rowsOf ps as zb evs).drop (2 + zb.length)=evs.map Ew.row:=by
  unfold rowsOf
  rw[show 2 + zb.length=zb.length + 1 + 1 by omega,AH,AH]
  rw[show zb.length=(zb.map uz).length by rw[Su],List.drop_left]
 unfold bJ
 rw[hn0]
 dsimp only
 rw[hn1]
 dsimp only
 rw[hrr]
 dsimp only
 unfold cz
 rw[hdrop]
 all_goals (cases FG (rowsOf ps as zb evs).length (y4 (2 + zb.length) (evs.map Ew.row) [("whole",[],[])] [])<;>rfl)
def XT:Nat→List Ew→List Fr→List Str→Except Nat (List Fr)
 | _,[],fr,_=>.ok fr
 | i,e :: r,fr,ls=>if i=90 then .error i else match e.take fr ls with
  | none=>.error i
  | some (fr',ls')=>XT (i + 1) r fr' ls'
theorem Qa:∀{evs:List Ew} {i:Nat} {fr:List Fr} {ls:List Str},(∀e∈evs,e.ok)→y4 i (evs.map Ew.row) fr ls=XT i evs fr ls
 | [],_,_,_,_=>rfl
 | e :: r,i,fr,ls,h=>by
  rw[SE,y4,XT,Ew.takes (h e Tu)]
  by_cases q:i=90
  ·rw[if_pos q,if_pos q]
  ·rw[if_neg q,if_neg q]
   cases e.take fr ls with
   | none=>rfl
   | some p=>exact Qa λx hx=>h x (SV _ hx)
def yL:Ew→List Str
 | .mu l _ _ _ _=>[l]
 | .my l _ _=>[l]
 | .bn l _ _ _=>[l]
 | .pw l _ _ _=>[l]
 | .pt n _=>[n]
 | _=>[]
def jH (evs:List Ew):List Str:=evs.flatMap yL
def dp (d:Nat):Ew→Option Nat
 | .pt _ _=>if d < 6 then some (d + 1) else none
 | .dn=>if 0 < d then some (d - 1) else none
 | _=>some d
def Zx:Nat→List Ew→Option Nat
 | d,[]=>some d
 | d,e :: r=>(dp d e).bind λd'=>Zx d' r
theorem Vm {d d':Nat} {e:Ew} {fr:List Fr} {ls:List Str} (hd:dp d e=some d') (hf:fr.length=d + 1) (h6:d≤6) (hl:∀x∈yL e,x∉ls):∃fr',e.take fr ls=some (fr',ls ++ yL e)∧fr'.length=d' + 1∧d'≤6:=by
 cases e with
 | lt a b=>
  cases hd
  exact⟨push fr (.lt a b),by simp [Ew.take,yL],by rw[p9];exact hf,h6⟩
 | mu l w a n r=>
  cases hd
  exact⟨_,by rw[Ew.take,if_neg (hl l (by simp [yL]))];rfl,by rw[p9];exact hf,h6⟩
 | my l w a=>
  cases hd
  exact⟨_,by rw[Ew.take,if_neg (hl l (by simp [yL]))];rfl,by rw[p9];exact hf,h6⟩
 | bn l w a r=>
  cases hd
  exact⟨_,by rw[Ew.take,if_neg (hl l (by simp [yL]))];rfl,by rw[p9];exact hf,h6⟩
 | pw l w a r=>
  cases hd
  exact⟨_,by rw[Ew.take,if_neg (hl l (by simp [yL]))];rfl,by rw[p9];exact hf,h6⟩
 | pt n rs=>
  simp only[dp] at hd
  split at hd
  ·cases hd
   exact⟨_,by rw[Ew.take,if_neg (λz=>z.elim (λz=>by omega) (hl n (by simp [yL])))];rfl,by simp only[Se];omega,by omega⟩
  ·cases hd
 | dn=>
  simp only[dp] at hd
  split at hd
  ·cases hd
   match fr,hf with
   | [f],hf=>simp only[Se,S1] at hf;omega
   | (n,rs,rows) :: (n2,rs2,rows2) :: fr',hf=>
    exact⟨(n2,rs2,rows2 ++ [.pt n rs rows]) :: fr',by simp [Ew.take,yL],by simp only[Se] at hf ⊢;omega,by omega⟩
  ·cases hd
theorem GZ:∀{evs:List Ew} {i d d':Nat} {fr:List Fr} {ls:List Str},Zx d evs=some d'→fr.length=d + 1→d≤6→(ls ++ jH evs).Nodup→i + evs.length≤90→∃fr',XT i evs fr ls=.ok fr'∧fr'.length=d' + 1
 | [],i,d,d',fr,ls,h,hf,_,_,_=>by cases h;exact⟨fr,rfl,hf⟩
 | e :: r,i,d,d',fr,ls,h,hf,h6,hn,hi=>by
  rw[Zx] at h
  cases hd:dp d e with
  | none=>rw[hd] at h;cases h
  | some d1=>
   rw[hd,Sa] at h
   have hn':((ls ++ yL e) ++ jH r).Nodup:=by
    have:jH (e :: r)=yL e ++ jH r:=by simp [jH]
    rw[this,←TC] at hn
    exact hn
   have hl:∀x∈yL e,x∉ls:=λx hx hs=>by
    have:=(TU.mp hn').1
    exact(TU.mp this).2.2 x hs x hx rfl
   obtain⟨fr1,e1,l1,s1⟩:=Vm hd hf h6 hl
   simp only[Se] at hi
   rw[XT,if_neg (by omega),e1]
   exact GZ h l1 s1 hn' (by omega)
def cI (c:Int):Int:=c % 3
def iG (c:Int):Int:=(c % 3 + 1 + c / 3 % 2) % 3
theorem Dt (c:Int):0≤cI c∧cI c < 3∧0≤iG c∧iG c < 3∧cI c≠iG c:=by
 unfold cI iG
 have h1:c % 3=0∨c % 3=1∨c % 3=2:=by omega
 have h2:c / 3 % 2=0∨c / 3 % 2=1:=by omega
 rcases h1 with h1 | h1 | h1<;>rcases h2 with h2 | h2<;>rw[h1,h2]<;>decide
def gG (c n:Int):Int:=n - n % 2 * (c / 6 % 2)
theorem Kr {c n:Int}:gG c n=n∨(n % 2=1∧gG c n=n - 1):=by
 unfold gG
 have h2:c / 6 % 2=0∨c / 6 % 2=1:=by omega
 have h1:n % 2=0∨n % 2=1:=by omega
 rcases h1 with h1 | h1<;>rcases h2 with h2 | h2<;>rw[h1,h2]<;>omega
def Qr (c b:Int):List Nat:=(((NI 8).map λj:Nat=>dZ (c / 7 / ((j:Int) + 1) + (j:Int) * j)).set (cI c).toNat (X8 ((b * 3 + c / 17) % 8))).set (iG c).toNat (dZ (c / 11 + b / 8))
theorem Dj (c b:Int):(Qr c b).length=8:=by unfold Qr;simp
theorem Dk (c b:Int):(Qr c b)[(cI c).toNat]?=some (X8 ((b * 3 + c / 17) % 8)):=by
 have h:=Dt c
 unfold Qr
 rw[IV (by omega),OZ (by rw[Su,zzf];omega)]
theorem Dv (c b:Int):(Qr c b)[(iG c).toNat]?=some (dZ (c / 11 + b / 8)):=by
 have h:=Dt c
 unfold Qr
 rw[OZ (by rw[zzW,Su,zzf];omega)]
theorem Dx (c b:Int):∀x∈Qr c b,x∈z4.cps.toList:=by
 intro x hx
 unfold Qr at hx
 rcases Ed hx with hx | rfl
 ·rcases Ed hx with hx | rfl
  ·obtain⟨j,_,rfl⟩:=TY.mp hx
   exact KO _
  ·exact MN _ (Qh _)
 ·exact KO _
def u9:List Str:=["any","part","done","let","may","end","not","else"]
theorem eE:∀x∈u9,3≤x.cps.toList.length∧x.cps.toList.length≤4∧(∀c∈x.cps.toList,c∈z4.cps.toList)∧∀c∈x.cps.toList,c∉Hn:=by decide +kernel
def Yn (c n:Int):Prop:=c / 12 % 6=1∧1 < n % 4
instance (c n:Int):Decidable (Yn c n):=by unfold Yn;infer_instance
def RB (c:Int):Str:=u9.getD (c / 72 % 8).toNat ""
theorem Yt (c:Int):RB c∈u9:=by
 have b0:0≤c / 72 % 8:=Ts _ (by decide)
 have b1:c / 72 % 8 < 8:=Tp _ (by decide)
 exact rN (ws:=u9) (i:=(c / 72 % 8).toNat) (by show _ < 8;omega)
def KP (c n:Int):Str:=if Yn c n then RB c else ""
def iF (c n:Int):Int:=if Yn c n then 3 + n - gG c n else 3 + c / (gG c n + 13) % 5 + n - gG c n
theorem bq (c n:Int):3≤iF c n∧iF c n≤8∧(Yn c n→iF c n≤4):=by
 have hb:=@Kr c n
 unfold iF
 split
 ·omega
 ·have b0:0≤c / (gG c n + 13) % 5:=Ts _ (by decide)
  have b1:c / (gG c n + 13) % 5 < 5:=Tp _ (by decide)
  refine⟨by omega,by omega,λh=>absurd h (by assumption)⟩
def K7 (c n:Int):List Nat:=(KP c n).cps.toList ++ (Qr c (gG c n)).take (iF c n).toNat
def JT (c n:Int):Str:=⟨(K7 c n).toArray⟩
theorem fB (c n:Int):(JT c n).cps.toList=K7 c n:=rfl
theorem Ym:("" : Str).cps.toList=[]:=by decide +kernel
theorem rS (c n:Int):((Qr c (gG c n)).take (iF c n).toNat).length=(iF c n).toNat:=by
 have:=bq c n
 rw[S8,Dj]
 omega
theorem Qb (c n:Int):((Qr c (gG c n)).take (iF c n).toNat)[(cI c).toNat]?=some (X8 ((gG c n * 3 + c / 17) % 8)):=by
 have:=bq c n
 have h:=Dt c
 (rw[NU (by omega)])
 exact Dk _ _
theorem Hz (c n:Int):((Qr c (gG c n)).take (iF c n).toNat)[(iG c).toNat]?=some (dZ (c / 11 + gG c n / 8)):=by
 have:=bq c n
 have h:=Dt c
 (rw[NU (by omega)])
 exact Dv _ _
theorem Y9 (c n:Int):zZ (JT c n)=true:=by
 have hs:=bq c n
 have hl:=rS c n
 have len:(JT c n).length=(K7 c n).length:=by rw[←fB];simp [ND]
 have hh:(KP c n).cps.toList.length + (iF c n).toNat≤8∧∀x∈(KP c n).cps.toList,x∈z4.cps.toList:=by
  unfold KP
  split
  ·rename_i q
   have:=hs.2.2 q
   obtain⟨g1,g2,g3,_⟩:=eE _ (Yt c)
   exact⟨by omega,g3⟩
  ·rw[Ym]
   exact⟨by simp only[S1];omega,λx hx=>by cases hx⟩
 refine Bd (by rw[len];unfold K7;rw[Sl,hl];omega) (by rw[len];unfold K7;rw[Sl,hl];omega) (λx hx=>?_) ⟨X8 ((gG c n * 3 + c / 17) % 8),?_,Qh _⟩
 ·rw[fB] at hx
  (rcases SI.mp hx with hx | hx)
  ·exact hh.2 x hx
  ·exact Dx _ _ x (Nu hx)
 ·rw[fB]
  exact SU _ (SN (Qb c n))
theorem K8 {c n m:Int} (h1:0≤n∧n < 80) (h2:0≤m∧m < 80) (e:(Qr c (gG c n)).take (iF c n).toNat=(Qr c (gG c m)).take (iF c m).toNat):gG c n=gG c m:=by
 have e1:=Qb c n
 rw[e,Qb c m] at e1
 have e2:=Hz c n
 rw[e,Hz c m] at e2
 have f1:=BS (Tq e1)
 have f2:=YW (Tq e2)
 have b1:=@Kr c n
 have b2:=@Kr c m
 generalize c / 17=k at *
 generalize c / 11=k2 at *
 omega
theorem Jy {c n m:Int} (q:Yn c n) (q2:¬Yn c m) (e:K7 c n=K7 c m):False:=by
 have h:=Dt c
 obtain⟨g1,g2,g3,g4⟩:=eE _ (Yt c)
 have e1:(K7 c m)[(cI c).toNat]?=some (X8 ((gG c m * 3 + c / 17) % 8)):=by
  unfold K7 KP
  rw[if_neg q2,Ym,Ta]
  exact Qb c m
 rw[←e] at e1
 unfold K7 KP at e1
 rw[if_pos q,Nx (by omega)] at e1
 exact g4 _ (SN e1) (Qh _)
theorem Mg {c n m:Int} (h1:0≤n∧n < 80) (h2:0≤m∧m < 80) (e:JT c n=JT c m):n=m:=by
 have e':K7 c n=K7 c m:=by rw[←fB,←fB,e]
 by_cases q:Yn c n<;>by_cases q2:Yn c m
 ·have e2:=e'
  unfold K7 KP at e2
  rw[if_pos q,if_pos q2] at e2
  have e3:=EM e2
  have hb:=K8 h1 h2 e3
  have hl:=congrArg Nc e3
  rw[rS,rS] at hl
  have s1:=bq c n
  have s2:=bq c m
  unfold iF at hl s1 s2
  rw[if_pos q] at hl s1
  rw[if_pos q2] at hl s2
  omega
 ·exact(Jy q q2 e').elim
 ·exact(Jy q2 q e'.symm).elim
 ·have e2:=e'
  unfold K7 KP at e2
  rw[if_neg q,if_neg q2] at e2
  have e3:=EM e2
  have hb:=K8 h1 h2 e3
  have hl:=congrArg Nc e3
  rw[rS,rS] at hl
  have s1:=bq c n
  have s2:=bq c m
  unfold iF at hl s1 s2
  rw[if_neg q] at hl s1
  rw[if_neg q2] at hl s2
  rw[hb] at hl s1
  generalize c / (gG c m + 13) % 5=r at *
  omega
def NZ (c:Int):List Str:=(NI 80).map λj:Nat=>JT c j
theorem WI (c:Int):(NZ c).length=80:=by unfold NZ;simp
theorem WO (c:Int) {i:Nat} (h:i < 80):(NZ c).getD i (SR "")=JT c i:=by
 unfold NZ
 (rw[Tx,SW,Ou h])
 rfl
theorem WE (c:Int):(NZ c).Nodup:=by
 unfold NZ
 rw[OE,List.pairwise_map]
 refine zqd (λ{a b} ha hb hab z=>?_) (OE.mp List.nodup_range)
 have ha:=Ib.mp ha
 have hb:=Ib.mp hb
 have:=Mg (c:=c) (n:=a) (m:=b) (by omega) (by omega) z
 omega
theorem tY (c:Int):∀x∈NZ c,zZ x=true:=λx hx=>by
 unfold NZ at hx
 obtain⟨j,_,rfl⟩:=TY.mp hx
 exact Y9 _ _
theorem join_ones:∀l:List Nat,(Nh ("" : Str) (l.map λc=>(⟨#[c]⟩:Str))).cps.toList=l
 | []=>by simp [Nh,zq4]
 | [x]=>by simp [Nh]
 | x :: y :: r=>by
  have e:Nh ("" : Str) ((x :: y :: r).map λc=>(⟨#[c]⟩:Str))=(⟨#[x]⟩:Str) ++ ("" : Str) ++ Nh ("" : Str) ((y :: r).map λc=>(⟨#[c]⟩:Str)):=rfl
  rw[e,cps_append,cps_append,Ym,join_ones (y :: r)]
  simp
theorem Bt (c n:Int):KP c n ++ Ni ("" : Str) (((Qr c (gG c n)).take (iF c n).toNat).map λc=>(⟨#[c]⟩:Str))=JT c n:=by
 refine bz ?_
 rw[cps_append,join_eq,join_ones,fB]
 rfl
def Vv (K:Sd):Sp:=λvs H Q _=>∃(a:Addr) (k:Int) (ns:List Int),vs=[.ref a,.int k]∧zK K H a (ns.map V.int)∧0≤k∧k≤63∧∀c:Int,0≤c→c < 2147483629→Q (.int c) H
def P5:Sp:=λvs H Q _=>∃(n m:Int),vs=[.int n,.int m]∧0≤n∧n < 2147483647∧0≤m∧m≤20∧∀l H' (xs:List Int),zp H H'→H l=none→H' l=some (.lst (xs.map V.int))→xs.length=m.toNat→(∀x∈xs,0≤x∧x < 429496730)→Q (.ref l) H'
def PD:Sp:=λvs H Q _=>∃(c:Int),vs=[.int c,.int 80]∧0≤c∧c < 2147483629∧∀l H',zp H H'→H l=none→H' l=some (.lst ((NZ c).map V.str))→Q (.ref l) H'
theorem Bn (c:Int) (i:Nat):((NI (i + 1)).map λj:Nat=>JT c j)=((NI i).map λj:Nat=>JT c j) ++ [JT c i]:=by
 rw[List.range_succ,SG];rfl
def Fy (c:Int):List Nat:=(NI 8).map λj:Nat=>dZ (c / 7 / ((j:Int) + 1) + (j:Int) * j)
theorem B6 {c:Int} {ys:List V} (hl:ys.length=8) (h:∀(i:Nat) (v:V),i < 8→ys[i]?=some v→v=.str ⟨#[dZ (c / 7 / ((i:Int) + 1) + (i:Int) * i)]⟩):ys=((Fy c).map λc=>(⟨#[c]⟩:Str)).map V.str:=by
 apply Ir
 intro i
 by_cases hi:i < 8
 ·unfold Fy
  rw[SW,SW,SW,Ou hi,Sn (by omega:i < ys.length)]
  exact congrArg some (h i _ hi (Sn (by omega)))
 ·rw[T4.mpr (by omega),T4.mpr (by unfold Fy;simp;omega)]
theorem JG (l:List Nat) (j c:Nat):((l.map λc=>(⟨#[c]⟩:Str)).map V.str).set j (.str ⟨#[c]⟩)=((l.set j c).map λc=>(⟨#[c]⟩:Str)).map V.str:=by rw[zqe,zqe]
theorem Jm:∀l:List Nat,((l.map λc=>(⟨#[c]⟩:Str)).map (·.length)).sum=l.length
 | []=>rfl
 | x :: l=>by
  rw[SE,SE,zqc,Jm l,Se]
  show 1 + l.length=_
  omega
theorem gJ:zd ["_law_script","_law_k","_law_number"] ["_law_script","_law_k"] (zy JZ):=by walk_at "sc"
theorem rX (T:Txt K mg t):zo P w K mg base zC 1 t.pB t.pQ ["_law_script","_law_k"] (Vv K):=by
 refine T.jn.fn.ok gJ (by walk_at "ln") ?_;walk_at "hd"
 obtain⟨a,k,ns,rfl,hA,k0,k1,kk⟩:=h
 refine⟨_,(zj (za (i:=2) gJ.nd rfl (SA rfl) (zi qp (zi kh (pv 1) zx) zx))
   (zj (PS.join (zW (zc Gk (pv 1) (zX (zH (K:=K) rfl) rfl T.qo S5 (zz (pv 0) zq)) (zQ _))
    (zk (za (i:=2) gJ.nd rfl (SA rfl) (zi z7 (zu (zv (K:=K) rfl) (pv 0) (pv 1) (λ_ _=>rfl)) zx))) (zk (PS.join (zW (zc mY (zX (zH (K:=K) rfl) rfl T.qo S5 (zz (pv 0) zq)) zx (zQ _))
    (zk (za (i:=2) gJ.nd rfl (SA rfl) (zi qp (zi z7 (zu (zv (K:=K) rfl) (pv 0) (zi z7 (zi kh (pv 1) zx) (zX (zH (K:=K) rfl) rfl T.qo S5 (zz (pv 0) zq))) (λ_ _=>rfl)) zx) (zi kh (pv 1) zx)))) zr)))))
   (zj (za (i:=2) gJ.nd rfl (SA rfl) (zi z7 (zi kh (zi qp (zi qp (pv 2) (zi kh (pv 1) (pv 1))) zx) zx) zx))
   (zk (zf (zi z7 (zi kh (pv 2) zx) zx)))))),?_⟩
 walk_at "rd"
 refine⟨λσ' H'=>(∃n:Int,σ'=[some (.ref a),some (.int k),some (.int n)]∧H'=H)∨False,?_,?_⟩
 ·refine⟨_,rfl,_,rfl,a,_,rfl,.inl hA,_,_,rfl,rfl,_,rfl,?_⟩
  rw[Su]
  refine zD (λh1=>?_) (λh1=>?_)
  ·have h1':k < (ns.length:Int):=zjj h1
   walk_at "rd"
   exact .inl ⟨_,rfl,rfl⟩
  ·refine⟨λσ' H'=>(∃n:Int,σ'=[some (.ref a),some (.int k),some (.int n)]∧H'=H)∨False,?_,?_⟩
   ·refine⟨_,rfl,a,_,rfl,.inl hA,_,_,rfl,rfl,_,rfl,?_⟩
    rw[Su]
    refine zD (λh2=>?_) (λh2=>.inl ⟨_,rfl,rfl⟩)
    have h2':(0:Int) < (ns.length:Int):=zjj h2
    have m0:0≤k * 7 % (ns.length:Int):=Ts _ (by omega)
    have m1:k * 7 % (ns.length:Int) < (ns.length:Int):=Tp _ h2'
    refine⟨_,rfl,_,rfl,_,_,rfl,rfl,.inl ⟨by omega,by omega⟩,_,rfl,a,_,rfl,.inl hA,_,_,rfl,rfl,?_⟩
    rw[Su]
    refine⟨h2',a,_,_,_,rfl,rfl,hA,jq m0 m1,?_⟩
    walk_at "rd"
    exact .inl ⟨_,rfl,rfl⟩
   ·exact λ_ _ z=>z
 intro σ' H' q
 obtain⟨n,rfl,rfl⟩:=q.resolve_right λz=>z
 clear q
 walk_at "rd"
 exact kk _ (Ts _ (by decide)) (Tp _ (by decide))
theorem yK:zd ["_law_number","_law_many","_law_found","_law_k"] ["_law_number","_law_many"] (zy iz):=by walk_at "sc"
theorem Jf (T:Txt K mg t):zo P w K mg base zC 1 t.dc t.dj ["_law_number","_law_many"] P5:=by
 refine T.uJ.fn.ok yK (by walk_at "ln") ?_;walk_at "hd"
 obtain⟨n,m,rfl,n0,n1,h0,h1,k⟩:=h
 refine⟨_,(zj (za (i:=2) yK.nd rfl (SA rfl) (zP zq) jX)
   (zj (jg TJ rfl (xM rfl T.vU (zz (pv 1) zq)) (zM (i:=3) yK.nd rfl (SA rfl))
    (zj (za (i:=0) yK.nd rfl (SA rfl) (zi z7 (zi qp (zi qp (zi kh (pv 0) zx) (zi kh (zi kh zx (pv 3)) (pv 3))) zx) zx))
   (zk (zO (qC SS S9 Tz qk (pv 2) (zz (zi qQ (pv 0) zx) zq))))))
   (zk (zf (pv 2))))),?_⟩
 refine⟨Tr _,?_⟩
 intro l H1 s1 hl hL
 walk_at "rd"
 refine kG (lo:=0) (n:=m.toNat) (λi σ H2=>∃(xs:List Int) (z:Int) (kv:Option V),σ=[some (.int z),some (.int m),some (.ref l),kv]∧0≤z∧z < 2147483647∧
   zp H H2∧H2 l=some (.lst (xs.map V.int))∧xs.length=i∧∀x∈xs,0≤x∧x < 429496730)
   ⟨[],_,none,rfl,n0,n1,s1,hL,rfl,λx hx=>by cases hx⟩ ?_ ?_
 ·rintro i σ H2 hi ⟨xs,z,kv,rfl,z0,z1,s2,hL,hx,hb⟩
  have hi':(i:Int) < 100:=by omega
  refine⟨_,rfl,_,_,rfl,rfl,.inl ⟨by omega,by omega⟩,_,rfl,_,_,rfl,rfl,.inl ⟨by decide,by decide⟩,_,rfl,_,_,rfl,rfl,.inr ⟨by omega,by omega⟩,_,_,rfl,rfl,_,_,rfl,rfl,_,_,rfl,rfl,(by show (0:Int) < 2147483647;decide),?_⟩
  have z0':0≤(z * 48271 + 7919 * (0 + (i:Int)) * (0 + (i:Int)) + 11) % 2147483647:=Ts _ (by decide)
  have z1':(z * 48271 + 7919 * (0 + (i:Int)) * (0 + (i:Int)) + 11) % 2147483647 < 2147483647:=Tp _ (by decide)
  refine⟨_,rfl,.inl ⟨rfl,_,zK.of hL⟩,_,rfl,_,_,rfl,rfl,⟨by decide,by decide⟩,l,_,_,rfl,rfl,hL,gK (by rw[Su];omega),?_⟩
  intro H3 k3 hL3
  refine⟨xs ++ [(z * 48271 + 7919 * (0 + (i:Int)) * (0 + (i:Int)) + 11) % 2147483647 / 5],(z * 48271 + 7919 * (0 + (i:Int)) * (0 + (i:Int)) + 11) % 2147483647,_,rfl,z0',z1',k3.put s2 hl,by rw[hL3,SG];rfl,by rw[Sl,hx];rfl,λx hx'=>?_⟩
  rcases SI.mp hx' with q | q
  ·exact hb x q
  ·have e:x=(z * 48271 + 7919 * (0 + (i:Int)) * (0 + (i:Int)) + 11) % 2147483647 / 5:=by simpa using q
   generalize (z * 48271 + 7919 * (0 + (i:Int)) * (0 + (i:Int)) + 11) % 2147483647=z' at e z0' z1'
   omega
 ·rintro σ H2 ⟨xs,z,kv,rfl,z0,z1,s2,hL,hx,hb⟩
  exact⟨_,rfl,k l H2 xs s2 hl hL (by omega) hb⟩
theorem qF:zd ["_law_cell_here","_law_many","_law_letters","_law_one","_law_two","_law_names_here","_law_n","_law_base","_law_word","_law_size","_law_head"] ["_law_cell_here","_law_many"] (zy rH):=by walk_at "sc"
theorem XQ (T:Txt K mg t):zo P w K mg base zC 1 t.uL t.uP ["_law_cell_here","_law_many"] PD:=by
 refine T.tu.fn.ok qF (by walk_at "ln") ?_;walk_at "hd"
 obtain⟨c,rfl,c0,c1,k⟩:=h
 refine⟨_,(zj (za (i:=2) qF.nd rfl (Af rfl) zw)
   (zj (za (i:=3) qF.nd rfl (SA rfl) (zi z7 (pv 0) zx))
   (zj (za (i:=4) qF.nd rfl (SA rfl) (zi z7 (zi qp (zi qp (pv 3) zx) (zi z7 (zi qQ (pv 0) zx) zx)) zx))
   (zj (za (i:=5) qF.nd rfl (SA rfl) (zP zq) jX)
   (zj (jg TJ rfl (xM rfl T.vU (zz (pv 1) zq)) (zM (i:=6) qF.nd rfl (SA rfl))
    (zj (za (i:=7) qF.nd rfl (SA rfl) (zi dD (pv 6) (zi kh (zi z7 (pv 6) zx) (zi z7 (zi qQ (pv 0) zx) zx))))
   (zj (ZN (i:=8) (osc:=zy rH) (N:=["_law_cell_here","_law_many","_law_letters","_law_one","_law_two","_law_names_here","_law_n","_law_base","_law_word","_law_size","_law_head"]) (names:=["_law_letters","_law_cell_here"]) (zU:=[2,0]) rfl rfl rfl qF.nd ⟨rfl,by decide +kernel,by decide +kernel,by decide +kernel,rfl,rfl,by decide +kernel,by decide +kernel⟩ rfl rfl (xM rfl T.vU (zz zx zq)) (λ_ _ _=>(zu Zr (pv 1) (zi z7 (zi qp (zi qQ (zi qQ (pv 2) zx) (zi qp (pv 0) zx)) (zi kh (pv 0) (pv 0))) zx) (λ_ _=>rfl))))
   (zj (ku (zu Zr zw (zi z7 (zi qp (zi kh (pv 7) zx) (zi qQ (pv 0) zx)) zx) (λ_ _=>rfl)) (vH (pv 8) (pv 3) aw))
   (zj (ku (zu Zr (pv 2) (zi z7 (zi qp (zi qQ (pv 0) zx) (zi qQ (pv 7) zx)) zx) (λ_ _=>rfl)) (vH (pv 8) (pv 4) aw))
   (zj (za (i:=9) qF.nd rfl (SA rfl) (zi dD (zi qp (zi qp zx (zi z7 (zi qQ (pv 0) (zi qp (pv 7) zx)) zx)) (pv 6)) (pv 7)))
   (zj (za (i:=10) qF.nd rfl (SA rfl) zw)
   (zj (PS.join (zW (PW.pt (yO (zc qj (zi z7 (zi qQ (pv 0) zx) zx) zx (zQ _)) (vA (zc mY (zi z7 (pv 6) zx) zx (zQ _)))))
    (zj (za (i:=10) qF.nd rfl (SA rfl) (zu (zv (K:=K) rfl) (zP (zz zw (zz zw (zz zw (zz zw (zz zw (zz zw (zz zw (zz zw zq))))))))) (zi z7 (zi qQ (pv 0) zx) zx) (λ_ _=>rfl)))
   (zk (za (i:=9) qF.nd rfl (SA rfl) (zi dD (zi qp zx (pv 6)) (pv 7))))) zr))
   (zk (zO (qC SS S9 Tz qk (pv 5) (zz (zi yq (pv 10) (qC T1 Oq Oj (pR (K:=K) rfl) zw (zz (qR (qD (K:=K) rfl) (pv 8) kc (qJ (pv 9))) zq))) zq))))))))))))
   (zk (zf (pv 5)))))))),?_⟩
 have hs:(SR "fgjkqvxz").length=8:=Pa.1
 have hl:(SR "abcdefghijklmnopqrstuvwxyz").length=26:=sF.1
 have o3:=Dt c
 walk_at "rd"
 intro l H1 s1 hl1 e1
 walk_at "rd"
 refine kG (lo:=0) (n:=(80:Int).toNat) (λi σ H'=>(∃(v6 v7 v8 v9 v10:Option V),σ=[some (.int c),some (.int 80),some (.str (SR "abcdefghijklmnopqrstuvwxyz")),some (.int (cI c)),some (.int (iG c)),some (.ref l),v6,v7,v8,v9,v10]∧zp H H'∧H' l=some (.lst (((NI i).map λj:Nat=>JT c j).map V.str)))∨False)
  (.inl ⟨_,_,_,_,_,rfl,s1,e1⟩) ?_ ?_
 ·intro i σ H2 hi q
  obtain⟨v6,v7,v8,v9,v10,rfl,s2,e2⟩:=q.resolve_right λz=>z
  clear q
  have hi80:i < 80:=hi
  have hb:=@Kr c (i:Int)
  have hz:=bq c (i:Int)
  rw[O1]
  walk_at "rd"
  show Kp _ _ _ [some (.int c),some (.int 80),some (.str (SR "abcdefghijklmnopqrstuvwxyz")),some (.int (cI c)),some (.int (iG c)),some (.ref l),some (.int (i:Int)),some (.int (gG c i)),v8,v9,v10] _ _
  refine b9 XE (λj _ v=>v=.str ⟨#[dZ (c / 7 / ((j:Int) + 1) + (j:Int) * j)]⟩) (zg (by decide +kernel)) ?_ ?_
  ·intro j y H' Q' hy s' kk
   have hj:j < 8:=by
    have:=(S3.mp hy).1
    simpa using this
   have hy':y=V.int (j:Int):=by
    rw[SW,Ou (show j < (8:Int).toNat from hj)] at hy
    rw[←Tq hy]
    show V.int (0 + (j:Int))=_
    rw[O1]
   subst hy'
   have b0:0≤(c / 7 / ((j:Int) + 1) + (j:Int) * j) % 26:=Ts _ (by decide)
   have b1:(c / 7 / ((j:Int) + 1) + (j:Int) * j) % 26 < 26:=Tp _ (by decide)
   walk_at "rd"
   exact kk _ _ (zp.refl _) rfl
  intro D H3 ys s3 hD e3 hlen hp
  obtain rfl:=B6 (c:=c) (ys:=ys) (by rw[hlen];simp) λj v hj hv=>hp j _ v (by rw[SW,Ou (show j < (8:Int).toNat from hj)];rfl) hv
  clear hp hlen
  have b0:0≤(gG c i * 3 + c / 17) % 8:=Ts _ (by decide)
  have b1:(gG c i * 3 + c / 17) % 8 < 8:=Tp _ (by decide)
  have b2:0≤(c / 11 + gG c i / 8) % 26:=Ts _ (by decide)
  have b3:(c / 11 + gG c i / 8) % 26 < 26:=Tp _ (by decide)
  have hDn:H2 D=none:=hD
  have hneD:l≠D:=zh e2 hD
  show zT 8 (V.ref D) [some (.int c),some (.int 80),some (.str (SR "abcdefghijklmnopqrstuvwxyz")),some (.int (cI c)),some (.int (iG c)),some (.ref l),some (.int (i:Int)),some (.int (gG c i)),v8,v9,v10] _ _
  walk_at "rd"
  refine⟨D,_,_,_,rfl,rfl,e3,Ye (by omega) (by unfold Fy;simp;omega),?_⟩
  intro H4 k4 e4
  have e4':H4 D=some (.lst ((((Fy c).set (cI c).toNat (X8 ((gG c i * 3 + c / 17) % 8))).map λc=>(⟨#[c]⟩:Str)).map V.str)):=by
   rw[e4,show (SR "fgjkqvxz").cps.toList=Hn from Pa.2]
   exact congrArg (λz=>some (HO.lst z)) (JG (Fy c) _ (X8 ((gG c i * 3 + c / 17) % 8)))
  clear e4
  walk_at "rd"
  refine⟨D,_,_,_,rfl,rfl,e4',Ye (by omega) (by unfold Fy;simp;omega),?_⟩
  intro H5 k5 e5
  have e5':H5 D=some (.lst (((Qr c (gG c i)).map λc=>(⟨#[c]⟩:Str)).map V.str)):=by
   rw[e5]
   exact congrArg (λz=>some (HO.lst z)) (JG ((Fy c).set (cI c).toNat (X8 ((gG c i * 3 + c / 17) % 8))) _ (dZ (c / 11 + gG c i / 8)))
  clear e5
  have s25:zp H2 H5:=k5.put (k4.put s3 hD) hD
  have e25:H5 l=some (.lst (((NI i).map λj:Nat=>JT c j).map V.str)):=s25 _ _ e2
  walk_at "rd"
  refine⟨λσ' H'=>(∃(z:Int) (hd:Str),σ'=[some (.int c),some (.int 80),some (.str (SR "abcdefghijklmnopqrstuvwxyz")),some (.int (cI c)),some (.int (iG c)),some (.ref l),some (.int (i:Int)),some (.int (gG c i)),some (.ref D),some (.int z),some (.str hd)]∧z=iF c i∧hd=KP c i∧zp H5 H')∨False,?_,?_⟩
  ·have n0:¬Yn c i→(3 + c / (gG c i + 13) % 5 + (i:Int) - gG c i)=iF c i∧("" : Str)=KP c i:=λq=>⟨by unfold iF;rw[if_neg q],by unfold KP;rw[if_neg q]⟩
   walk_at "rd"
   refine zD (λh1=>?_) (λh1=>.inl ⟨_,_,rfl,(n0 λz=>h1 (Py z.1)).1,(n0 λz=>h1 (Py z.1)).2,zp.refl _⟩)
   walk_at "rd"
   refine zD (λh2=>?_) (λh2=>.inl ⟨_,_,rfl,(n0 λz=>h2 (zjx z.2)).1,(n0 λz=>h2 (zjx z.2)).2,zp.refl _⟩)
   have q:Yn c i:=⟨D6 h1,zjj h2⟩
   walk_at "rd"
   intro lh H6 s6 hlh e6
   have e6':H6 lh=some (.lst (u9.map V.str)):=e6
   clear e6
   have m0:0≤c / 72 % 8:=Ts _ (by decide)
   have m1:c / 72 % 8 < 8:=Tp _ (by decide)
   have hk8:u9.length=8:=rfl
   walk_at "rd"
   exact .inl ⟨_,_,rfl,by unfold iF;rw[if_pos q],by unfold KP;rw[if_pos q];rfl,s6⟩
  intro σ' H6 q
  obtain⟨z,hd,rfl,rfl,rfl,s6⟩:=q.resolve_right λz=>z
  clear q
  have e26:=s6 _ _ e25
  have e6':=s6 _ _ e5'
  walk_at "rd"
  intro lw H7 s7 hlw e7
  have e7':H7 lw=some (.lst ((((Qr c (gG c i)).take (iF c i).toNat).map λc=>(⟨#[c]⟩:Str)).map V.str)):=by
   rw[EK,←QY V.str,IU (by omega)]
   exact e7
  clear e7
  have hjl:=Jm ((Qr c (gG c i)).take (iF c i).toNat)
  refine⟨_,lw,_,rfl,rfl,zK.of e7',?_,?_⟩
  ·rw[hjl,Su,rS,show ((SR "" : Str).length)=0 from by decide +kernel]
   omega
  have hn:=xP (Y9 c (i:Int))
  have hj:=Bt c (i:Int)
  have hlen:(KP c i).length + (Ni (SR "") (((Qr c (gG c i)).take (iF c i).toNat).map λc=>(⟨#[c]⟩:Str))).length≤8:=by
   rw[←fZ]
   exact hj▸hn.2.1
  refine⟨_,_,rfl,rfl,zg (by omega),?_⟩
  refine⟨l,_,_,rfl,rfl,s7 _ _ e26,zg (by simp;omega),?_⟩
  intro H8 k8 e8
  refine .inl ⟨_,_,_,_,_,rfl,k8.put (((s2.trans s25).trans s6).trans s7) hl1,?_⟩
  rw[e8,Bn,SG,←hj]
  rfl
 ·intro σ H2 q
  obtain⟨v6,v7,v8,v9,v10,rfl,s2,e2⟩:=q.resolve_right λz=>z
  walk_at "rd"
  exact k l H2 s2 hl1 e2
theorem cf {α:Type} (f:α→V) (xs:List α) (n m:Nat) (h:n + m≤xs.length):cb (xs.map f) (some (n:Int)) (some ((n + m:Nat):Int))=((xs.drop n).take m).map f:=by
 unfold cb
 rw[HT.sO,HT.sO,Su,OB (show n≤xs.length by omega),OB (show n + m≤xs.length from h),←zqm,←EK,Oo]
theorem CT {α:Type} (L:List α) {n0 n1 n2:Nat} (h0:n0≤4) (h1:n1≤6) (h2:n2≤12):(L.take n0 ++ (L.drop 4).take n1 ++ (L.drop 10).take n2).Sublist (L.take 22):=by
 have tk:∀(M:List α) {a b:Nat},a≤b→(M.take a).Sublist (M.take b):=λM a b h=>by
  have:=OU a (M.take b)
  rwa [Aa,OB h] at this
 have e:L.take 22=L.take 4 ++ (L.drop 4).take 6 ++ (L.drop 10).take 12:=by
  rw[show (22:Nat)=4 + 18 from rfl,AD,show (18:Nat)=6 + 12 from rfl,AD,AZ,TC]
 rw[e]
 exact((tk L h0).append (tk (L.drop 4) h1)).append (tk (L.drop 10) h2)
structure Dh (c:Int) (ps as:List Str) (zb:List (Str × Str)):Prop where
 hd:Ql ps as zb
 wd:∀x∈ps ++ as ++ zb.map (·.2),x∈(NZ c).take 28
def mO (H:Hp) (p:Addr) (c:Int) (ps as:List Str) (zb:List (Str × Str)):Prop:=∃lp la lr ln ll vs,H p=some (.tup [.ref lp,.ref la,.ref lr,.ref ln,.ref ll])∧H lp=some (.lst (ps.map V.str))∧H la=some (.lst (as.map V.str))∧H lr=some (.lst vs)∧H ln=some (.lst ((NZ c).map V.str))∧Paired (xq H) vs zb
theorem xq.CY {H H':Hp} {v:V} {mn:Str × Str} (h:xq H v mn) (s:zp H H'):xq H' v mn:=by
 obtain⟨p,e,h⟩:=h
 exact⟨p,e,s _ _ h⟩
theorem mO.same {H H':Hp} {p:Addr} {c:Int} {ps as:List Str} {zb:List (Str × Str)} (h:mO H p c ps as zb) (s:zp H H'):mO H' p c ps as zb:=by
 obtain⟨lp,la,lr,ln,ll,vs,h1,h2,h3,h4,h5,h6⟩:=h
 exact⟨lp,la,lr,ln,ll,vs,s _ _ h1,s _ _ h2,s _ _ h3,s _ _ h4,s _ _ h5,Paired.imp' (λ_ _ z=>z.CY s) h6⟩
structure Fd (ve:List Str):Prop where
 nd:ve.Nodup
 ln:48≤ve.length
 sh:ve.length≤70
 nm:∀x∈ve,zZ x=true
def DQ (H:Hp) (p:Addr) (ve:List Str):Prop:=∃a b c d ll,H p=some (.tup [a,b,c,d,.ref ll])∧H ll=some (.lst (ve.map V.str))
theorem DQ.same {H H':Hp} {p:Addr} {ve:List Str} (h:DQ H p ve) (s:zp H H'):DQ H' p ve:=by
 obtain⟨a,b,c,d,ll,h1,h2⟩:=h
 exact⟨a,b,c,d,ll,s _ _ h1,s _ _ h2⟩
theorem Bk {α:Type} (L:List α) {n0 n1:Nat} (h0:n0≤4) (h1:n1≤6):(L.take n0 ++ (L.drop 4).take n1 ++ (L.drop 10).take 2 ++ L.drop 32).Sublist L:=by
 have tk:∀(M:List α) {a b:Nat},a≤b→(M.take a).Sublist (M.take b):=λM a b h=>by
  have:=OU a (M.take b)
  rwa [Aa,OB h] at this
 have e:L=L.take 4 ++ (L.drop 4).take 6 ++ (L.drop 10).take 2 ++ L.drop 12:=by
  have e1:=NF 4 L
  have e2:=NF 6 (L.drop 4)
  have e3:=NF 2 (L.drop 10)
  rw[AZ] at e2 e3
  conv=>lhs;rw[←e1,←e2,←e3]
  simp
 have h3:(L.drop 32).Sublist (L.drop 12):=by
  have:L.drop 32=(L.drop 12).drop 20:=by rw[AZ]
  rw[this]
  exact zzm _ _
 conv=>rhs;rw[e]
 exact(((tk L h0).append (tk (L.drop 4) h1)).append (zzd _)).append h3
def PH (K:Sd):Sp:=λvs H Q _=>∃(a:Addr) (ns:List Int),vs=[.ref a]∧zK K H a (ns.map V.int)∧∀c ps as zb p H' ve,Dh c ps as zb→zp H H'→H p=none→mO H' p c ps as zb→DQ H' p ve→Fd ve→Q (.ref p) H'
def Mz:List Str:=["calm","sore","calm","sore","end"]
theorem F9:∀j < 5,Mz.getD j ""∈zF:=by decide +kernel
theorem HW:("calm" : Str)∈zF:=by decide +kernel
seal NZ
theorem qK:zd ["_law_script","_law_cell_here","_law_names_here","_law_rooms","_law_k","_law_mark","_law_parties","_law_acts","_law_labels"] ["_law_script"] (zy oI):=by walk_at "sc"
theorem Jb (T:Txt K mg t):zo P w K mg base zC 2 t.df t.dz ["_law_script"] (PH K):=by
 have G_w_cell:zo P w K mg base zC 1 t.pB t.pQ ["_law_script","_law_k"] (Vv K):=(rX T).mono (by decide)
 have G_w_names:zo P w K mg base zC 1 t.uL t.uP ["_law_cell_here","_law_many"] PD:=(XQ T).mono (by decide)
 refine T.uZ.fn.ok qK (by walk_at "ln") ?_;walk_at "hd"
 obtain⟨a,ns,rfl,hA,k⟩:=h
 refine⟨_,(zj (za (i:=1) qK.nd rfl (SA rfl) (ze G_w_cell hr rfl T.jn.mg T.jn.fn.kp T.jn.bd .nil zJ (zz (pv 0) (zz zx zq))))
   (zj (za (i:=2) qK.nd rfl (SA rfl) (ze G_w_names hr rfl T.tu.mg T.tu.fn.kp T.tu.bd .nil zJ (zz (ze G_w_cell hr rfl T.jn.mg T.jn.fn.kp T.jn.bd .nil zJ (zz (pv 0) (zz zx zq))) (zz zx zq))))
   (zj (za (i:=3) qK.nd rfl (SA rfl) (zP zq) jX)
   (zj (jg TJ rfl (xM rfl T.vU (zz (zi qp zx (zi z7 (zi qQ (pv 1) zx) zx)) zq)) (zM (i:=4) qK.nd rfl (SA rfl))
    (zj (za (i:=5) qK.nd rfl (SA rfl) (zu (zv (K:=K) rfl) (zP (zz zw (zz zw (zz zw (zz zw (zz zw zq)))))) (zi z7 (zi qQ (ze G_w_cell hr rfl T.jn.mg T.jn.fn.kp T.jn.bd .nil zJ (zz (pv 0) (zz zx zq))) (zi qp (pv 4) zx)) zx) (λ_ _=>rfl)))
   (zj (PS.join (zW (PW.pt (yO (zc qj (pv 4) zx (zQ _)) (yO (zc qj (pv 5) zw (zQ _)) (vA (zc mY (zi z7 (zi qQ (pv 1) zx) zx) zx (zQ _))))))
    (zk (za (i:=5) qK.nd rfl (SA rfl) zw)) zr))
   (zk (zO (qC SS S9 Tz qk (pv 3) (zz (qx (zz (pv 5) (zz (zu (zv (K:=K) rfl) (pv 2) (zi qp zx (pv 4)) (λ_ _=>rfl)) zq))) zq)))))))
   (zj (za (i:=6) qK.nd rfl (SA rfl) (qR (qD (K:=K) rfl) (pv 2) (qJ zx) (qJ (zi qp zx (zi z7 (pv 1) zx)))))
   (zj (za (i:=7) qK.nd rfl (SA rfl) (qR (qD (K:=K) rfl) (pv 2) (qJ zx) (qJ (zi qp zx (zi z7 (zi qQ (pv 1) zx) zx)))))
   (zj (za (i:=8) qK.nd rfl (SA rfl) (qR (qD (K:=K) rfl) (pv 2) (qJ zx) kc))
   (zj (PS.join (zW (zc qj (zi z7 (zi qQ (pv 1) zx) zx) zx (zQ _))
    (zk (za (i:=8) qK.nd rfl (SA rfl) (zi vG (zi vG (zi vG (pv 7) (pv 6)) (qR (qD (K:=K) rfl) (pv 2) (qJ zx) (qJ zx))) (pv 8)))) zr))
   (zk (zf (qx (zz (pv 6) (zz (pv 7) (zz (pv 3) (zz (pv 2) (zz (pv 8) zq)))))))))))))))),?_⟩
 walk_at "rd"
 refine⟨a,0,ns,rfl,hA,by decide,by decide,λcell c0 c1=>?_⟩
 have m0a:0≤cell % 4:=Ts _ (by decide)
 have m0b:cell % 4 < 4:=Tp _ (by decide)
 have m1a:0≤cell / 4 % 6:=Ts _ (by decide)
 have m1b:cell / 4 % 6 < 6:=Tp _ (by decide)
 have m2a:0≤cell / 24 % 12:=Ts _ (by decide)
 have m2b:cell / 24 % 12 < 12:=Tp _ (by decide)
 obtain⟨n0,en0⟩:=Nd (show 0≤1 + cell % 4 by omega)
 obtain⟨n1,en1⟩:=Nd (show 0≤1 + cell / 4 % 6 by omega)
 obtain⟨n2,en2⟩:=Nd (show 0≤1 + cell / 24 % 12 by omega)
 walk_at "rd"
 refine⟨a,1,ns,rfl,hA,by decide,by decide,λc d0 d1=>?_⟩
 refine⟨c,rfl,d0,d1,λln H1 s1 hln e1=>?_⟩
 have hN:=WI c
 have hA1:=s1.seq hA
 walk_at "rd"
 intro lr H2 s2 hlr e2
 have ne1:ln≠lr:=zh e1 hlr
 have hlr0:H lr=none:=s1.free hlr
 have ent:(1 + cell / 24 % 12).toNat=n2:=by omega
 show zT 3 (V.ref lr) [some (.ref a),some (.int cell),some (.ref ln),none,none,none,none,none,none] _ _
 walk_at "rd"
 refine kG (lo:=0) (n:=(1 + cell / 24 % 12).toNat) (λi σ H'=>(∃(vs:List V) (zb:List (Str × Str)) (v4 v5:Option V),σ=[some (.ref a),some (.int cell),some (.ref ln),some (.ref lr),v4,v5,none,none,none]∧zp H H'∧H' lr=some (.lst vs)∧H' ln=some (.lst ((NZ c).map V.str))∧Paired (xq H') vs zb∧(∀mn∈zb,lE mn)∧zb.map (·.2)=((NZ c).drop 10).take i)∨False)
  (.inl ⟨[],[],none,none,rfl,s1.trans s2,e2,s2 _ _ e1,.nil,λ_ z=>(by cases z),rfl⟩) ?_ ?_
 ·intro i σ H4 hi q
  obtain⟨vs,zb,v4,v5,rfl,s4,e4,n4,hP,h4,g4⟩:=q.resolve_right λz=>z
  clear q
  rw[ent] at hi
  have hA4:=s4.seq hA
  have hlen:zb.length=i:=by have:=congrArg Nc g4;rw[Su,S8,Nb,hN] at this;omega
  have ei:(NZ c).getD (10 + (i:Int)).toNat (SR "")=JT c ((10 + i:Nat):Int):=by
   rw[show (10 + (i:Int)).toNat=10 + i by omega];exact WO c (by omega)
  have gi:((NZ c).drop 10).take (i + 1)=((NZ c).drop 10).take i ++ [JT c ((10 + i:Nat):Int)]:=by
   rw[AQ,Ef]
   have:=WO c (i:=10 + i) (by omega)
   rw[Tx,Sn (show 10 + i < (NZ c).length by omega)] at this
   rw[Sn (show 10 + i < (NZ c).length by omega)]
   exact congrArg (λz=>_ ++ [z]) this
  rw[O1]
  walk_at "rd"
  intro l8 H8 s8 hl8 e8
  have e8':H8 l8=some (.lst (Mz.map V.str)):=e8
  clear e8
  have hA8:=s8.seq hA4
  refine⟨_,rfl,a,2,ns,rfl,hA8,by decide,by decide,λc2 x0 x1=>?_⟩
  have y0:0≤c2 / ((i:Int) + 1) % 5:=Ts _ (by decide)
  have y1:c2 / ((i:Int) + 1) % 5 < 5:=Tp _ (by decide)
  have hm:=F9 (c2 / ((i:Int) + 1) % 5).toNat (by omega)
  have h5:Mz.length=5:=rfl
  walk_at "rd"
  refine⟨λσ' H'=>(∃mk:Str,σ'=[some (.ref a),some (.int cell),some (.ref ln),some (.ref lr),some (.int (i:Int)),some (.str mk),none,none,none]∧mk∈zF∧H'=H8)∨False,?_,?_⟩
  ·walk_at "rd"
   refine zD (λh1=>?_) (λh1=>.inl ⟨_,rfl,hm,rfl⟩)
   walk_at "rd"
   refine zD (λh2=>?_) (λh2=>.inl ⟨_,rfl,hm,rfl⟩)
   walk_at "rd"
   refine zD (λh3=>?_) (λh3=>.inl ⟨_,rfl,hm,rfl⟩)
   walk_at "rd"
   exact .inl ⟨_,rfl,HW,rfl⟩
  intro σ' H' q
  obtain⟨mk,rfl,hmk,rfl⟩:=q.resolve_right λz=>z
  clear q hm
  have n8:=s8 _ _ n4
  walk_at "rd"
  rw[ei]
  intro q H9 s9 hq e9
  have e49:=s9 _ _ (s8 _ _ e4)
  refine⟨lr,_,_,rfl,rfl,e49,zg (by have:=TF hP;omega),?_⟩
  intro H10 k10 e10
  have hP9:Paired (xq H9) (vs ++ [.ref q]) (zb ++ [(mk,JT c ((10 + i:Nat):Int))]):=Paired.snoc (Paired.imp' (λ_ _ z=>z.same (s8.trans s9)) hP) ⟨q,rfl,e9⟩
  refine .inl ⟨_,_,_,_,rfl,k10.put ((s4.trans s8).trans s9) hlr0,e10,k10.look (s9 _ _ n8) ne1,Paired.imp' (λ_ _ z=>z.keeps k10 e49) hP9,λmn hmn=>?_,?_⟩
  ·(rcases SI.mp hmn with q | q)
   ·exact h4 mn q
   ·rw[SY.mp q];exact⟨hmk,Y9 c _⟩
  ·rw[SG,g4,gi];rfl
 intro σ H4 q
 obtain⟨vs,zb,v4,v5,rfl,s4,e4,n4,hP,h4,g4⟩:=q.resolve_right λz=>z
 clear q
 rw[ent] at g4
 have hlen:zb.length=n2:=by have:=congrArg Nc g4;rw[Su,S8,Nb,hN] at this;omega
 walk_at "rd"
 intro lp H5 s5 hlp e5
 have e5':H5 lp=some (.lst (((NZ c).take n0).map V.str)):=by
  have:=cf V.str (NZ c) 0 n0 (by omega)
  rw[Ep,E2,show ((0:Nat):Int)=0 from rfl] at this
  rw[←this,←en0]
  exact e5
 clear e5
 have n5:=s5 _ _ n4
 walk_at "rd"
 intro la H6 s6 hla e6
 have e6':H6 la=some (.lst ((((NZ c).drop 4).take n1).map V.str)):=by
  rw[←cf V.str (NZ c) 4 n1 (by omega),show ((4 + n1:Nat):Int)=5 + cell / 4 % 6 by omega]
  exact e6
 clear e6
 have n6:=s6 _ _ n5
 walk_at "rd"
 intro ll H7 s7 hll e7
 have e7':H7 ll=some (.lst (((NZ c).drop 32).map V.str)):=by
  rw[←we V.str (NZ c) 32]
  exact e7
 clear e7
 have n7:=s7 _ _ n6
 have p7:=s7 _ _ (s6 _ _ e5')
 have a7:=s7 _ _ e6'
 have lps:((NZ c).take n0).length=n0:=by rw[S8,hN];omega
 have las:(((NZ c).drop 4).take n1).length=n1:=by rw[S8,Nb,hN];omega
 have l2s:(((NZ c).drop 10).take 2).length=2:=by rw[S8,Nb,hN];rfl
 have lls:((NZ c).drop 32).length=48:=by rw[Nb,hN]
 show ∃M:L2.St→Hp→Prop,_∧_
 refine⟨λσ' H'=>(∃(l8:Addr) (ve:List Str),σ'=[some (.ref a),some (.int cell),some (.ref ln),some (.ref lr),v4,v5,some (.ref lp),some (.ref la),some (.ref l8)]∧zp H7 H'∧H' l8=some (.lst (ve.map V.str))∧Fd ve)∨False,?_,?_⟩
 ·walk_at "rd"
  refine zD (λh1=>?_) (λh1=>.inl ⟨_,_,rfl,zp.refl _,e7',(zzm _ _).nodup (WE c),by omega,by omega,λx hx=>tY c x (IH hx)⟩)
  walk_at "rd"
  refine⟨la,lp,_,_,rfl,rfl,a7,p7,zg (by rw[Su,Su];omega),?_⟩
  intro b1 H8 s8 hb1 f1
  have n8:=s8 _ _ n7
  walk_at "rd"
  intro b2 H9 s9 hb2 f2
  have f2':H9 b2=some (.lst ((((NZ c).drop 10).take 2).map V.str)):=by
   rw[←cf V.str (NZ c) 10 2 (by omega)]
   exact f2
  clear f2
  refine⟨b1,b2,_,_,rfl,rfl,s9 _ _ f1,f2',zg (by rw[Sl,Su,Su,Su];omega),?_⟩
  intro b3 H10 s10 hb3 f3
  walk_at "rd"
  refine⟨b3,ll,_,_,rfl,rfl,f3,s10 _ _ (s9 _ _ (s8 _ _ e7')),zg (by rw[Sl,Sl,Su,Su,Su,Su];omega),?_⟩
  intro b4 H11 s11 hb4 f4
  have hsl:=Bk (NZ c) (n0:=n0) (n1:=n1) (by omega) (by omega)
  refine .inl ⟨_,((NZ c).drop 4).take n1 ++ (NZ c).take n0 ++ ((NZ c).drop 10).take 2 ++ (NZ c).drop 32,rfl,((s8.trans s9).trans s10).trans s11,?_,?_,?_,?_,?_⟩
  ·rw[f4]
   simp only[SG]
  ·have hn:=hsl.nodup (WE c)
   have pm:(((NZ c).take n0 ++ ((NZ c).drop 4).take n1) ++ ((NZ c).drop 10).take 2 ++ (NZ c).drop 32).Perm (((NZ c).drop 4).take n1 ++ (NZ c).take n0 ++ ((NZ c).drop 10).take 2 ++ (NZ c).drop 32):=((List.perm_append_comm).append_right _).append_right _
   exact pm.nodup_iff.mp hn
  ·simp only[Sl]
   omega
  ·simp only[Sl]
   omega
  ·intro x hx
   refine tY c x (hsl.subset ?_)
   simp only[SI] at hx ⊢
   rcases hx with ((hx | hx) | hx) | hx
   ·exact .inl (.inl (.inr hx))
   ·exact .inl (.inl (.inl hx))
   ·exact .inl (.inr hx)
   ·exact .inr hx
 intro σ' H8 q
 obtain⟨l8,ve,rfl,s8,e8,hLb⟩:=q.resolve_right λz=>z
 clear q
 walk_at "rd"
 intro q H9 s9 hq e9
 have s48:zp H4 H8:=((s5.trans s6).trans s7).trans s8
 have hsub:=CT (NZ c) (n0:=n0) (n1:=n1) (n2:=n2) (by omega) (by omega) (by omega)
 have mem:∀x∈(NZ c).take n0 ++ ((NZ c).drop 4).take n1 ++ ((NZ c).drop 10).take n2,x∈(NZ c).take 28:=λx hx=>by
  have h1:=hsub.subset hx
  have:(NZ c).take 22=((NZ c).take 28).take 22:=by rw[Aa];rfl
  rw[this] at h1
  exact Nu h1
 have ok:∀x∈(NZ c).take 28,zZ x=true:=λx hx=>tY c x (Nu hx)
 refine k c _ _ zb q H9 ve ⟨⟨by omega,by omega,by omega,by omega,by omega,by omega,λx hx=>ok x (mem x (TZ _ (TZ _ hx))),λx hx=>ok x (mem x (TZ _ (SU _ hx))),h4,?_⟩,?_⟩ ((s4.trans s48).trans s9) ((s4.trans s48).free hq) ⟨lp,la,lr,ln,l8,vs,e9,s9 _ _ (s8 _ _ p7),s9 _ _ (s8 _ _ a7),s9 _ _ (s48 _ _ e4),s9 _ _ (s8 _ _ n7),Paired.imp' (λ_ _ z=>z.same (s48.trans s9)) hP⟩ ⟨_,_,_,_,l8,e9,s9 _ _ e8⟩ hLb
 ·rw[g4]
  exact hsub.nodup ((OU _ _).nodup (WE c))
 ·rw[g4]
  exact mem
end
abbrev Ow:=List (Str × Str)
def dS (o:Ow):List (Key × V):=o.map λp=>(.inr p.1,V.str p.2)
def lk (o:Ow) (z:Str):Option Str:=(o.find? λp=>decide (p.1=z)).map (·.2)
def pu (o:Ow) (n b:Str):Ow:=if (o.any λp=>decide (p.1=n))=true then o.map (λp=>if p.1=n then (p.1,b) else p) else o ++ [(n,b)]
def mv (kd:Str→Str) (o:Ow):Ow:=o.map λp=>(p.1,kd p.2)
def ZA (o:Ow) (l:Ow):Ow:=l.foldl (λo p=>pu o p.1 p.2) o
theorem sG {a b:Str}:((Ih a:Key)=Ih b)=(a=b):=propext ⟨λh=>zqX h,λh=>by rw[h]⟩
theorem wZ (o:Ow):(dS o).length=o.length:=Su ..
theorem kR (z:Str):∀o:Ow,xy (dS o) (.inr z)=(lk o z).map V.str
 | []=>rfl
 | p :: o=>by
  have ih:=kR z o
  unfold xy dS lk at *
  rw[SE,Nl,Nl]
  simp only[sG]
  by_cases h:p.1=z
  ·simp [h]
  ·simp only[decide_eq_false h]
   exact ih
theorem g8 (o:Ow) (n b:Str):putK (dS o) (.inr n) (.str b)=dS (pu o n b):=by
 unfold putK pu dS
 rw[zzb]
 have e:(λkv:Key × V=>decide (kv.1=Ih n)) ∘ (λp:Str × Str=>((Ih p.1:Key),V.str p.2))=λp:Str × Str=>decide (p.1=n):=by
  funext p
  simp only[EV,sG]
 rw[e]
 split
 ·rw[NH,NH]
  (refine O6 λp _=>?_)
  simp only[EV,sG]
  by_cases h:p.1=n
  ·simp [h]
  ·simp [h]
 ·rw[SG];rfl
theorem K1 (kd:Str→Str) (z:Str):∀o:Ow,lk (mv kd o) z=(lk o z).map kd
 | []=>rfl
 | p :: o=>by
  have ih:=K1 kd z o
  unfold lk mv at *
  rw[SE,Nl,Nl]
  by_cases h:p.1=z
  ·simp [h]
  ·simp only[decide_eq_false h]
   exact ih
theorem Cu (kd:Str→Str) (o:Ow) (n b:Str):pu (mv kd o) n (kd b)=mv kd (pu o n b):=by
 unfold pu mv
 rw[zzb]
 have e:(λp:Str × Str=>decide (p.1=n)) ∘ (λp:Str × Str=>(p.1,kd p.2))=λp:Str × Str=>decide (p.1=n):=rfl
 rw[e]
 split
 ·rw[NH,NH]
  (refine O6 λp _=>?_)
  simp only[EV]
  by_cases h:p.1=n
  ·simp [h]
  ·simp [h]
 ·rw[SG];rfl
theorem sT (o:Ow) (n b:Str):(pu o n b).map (·.1)=if n∈o.map (·.1) then o.map (·.1) else o.map (·.1) ++ [n]:=by
 have e:(o.any λp=>decide (p.1=n))=decide (n∈o.map (·.1)):=by
  induction o with
  | nil=>rfl
  | cons p o ih=>
   rw[Of,ih,SE]
   by_cases h:p.1=n
   ·simp [h]
   ·have h':¬n=p.1:=λz=>h z.symm
    simp [h,h']
 unfold pu
 rw[e]
 by_cases h:n∈o.map (·.1)
 ·rw[if_pos (zjx h),if_pos h,NH]
  (refine O6 λp _=>?_)
  simp only[EV]
  split<;>rfl
 ·rw[if_neg (by rw[decide_eq_false h];exact S7),if_neg h,SG]
  rfl
theorem MV {o:Ow} {n b:Str} (h:n∉o.map (·.1)):pu o n b=o ++ [(n,b)]:=by
 unfold pu
 rw[if_neg]
 intro z
 obtain⟨p,hp,q⟩:=List.any_eq_true.mp z
 exact h (TY.mpr ⟨p,hp,zjj q⟩)
theorem XU (o:Ow) (n b:Str):(pu o n b).length≤o.length + 1:=by
 unfold pu
 split
 ·rw[Su];omega
 ·(rw[Sl];simp)
theorem YH (o:Ow) (n b z:Str):lk (pu o n b) z=if z=n then some b else lk o z:=by
 have h:=Hv (dS o) (.inr n) (.inr z) (V.str b)
 rw[g8,kR,kR] at h
 simp only[sG] at h
 by_cases e:z=n
 ·rw[if_pos e] at h ⊢
  cases q:lk (pu o n b) z with
  | none=>rw[q] at h;cases h
  | some y=>rw[q] at h;exact congrArg some (V.str.inj (Tq h))
 ·rw[if_neg e] at h ⊢
  cases q:lk (pu o n b) z with
  | none=>
   cases q2:lk o z with
   | none=>rfl
   | some y=>rw[q,q2] at h;cases h
  | some y=>
   cases q2:lk o z with
   | none=>rw[q,q2] at h;cases h
   | some y2=>rw[q,q2] at h;exact congrArg some (V.str.inj (Tq h))
theorem xl (o l:Ow) (p:Str × Str):ZA o (l ++ [p])=pu (ZA o l) p.1 p.2:=by unfold ZA;rw[List.foldl_append];rfl
theorem kl:∀(l o:Ow),(ZA o l).length≤o.length + l.length
 | [],o=>by show o.length≤_;omega
 | p :: l,o=>by
  have h1:=kl l (pu o p.1 p.2)
  have h2:=XU o p.1 p.2
  show (ZA (pu o p.1 p.2) l).length≤_
  rw[Se]
  omega
theorem c9:∀(l o:Ow),((o ++ l).map (·.1)).Nodup→ZA o l=o ++ l
 | [],o,_=>by rw[Tt];rfl
 | p :: l,o,h=>by
  have e:o ++ p :: l=(o ++ [(p.1,p.2)]) ++ l:=by simp
  have hn:p.1∉o.map (·.1):=λz=>by
   rw[SG,SE] at h
   exact(TU.mp h).2.2 _ z _ Tu rfl
  show ZA (pu o p.1 p.2) l=_
  rw[MV hn,c9 l _ (by rw[←e];exact h),e]
theorem KA {o:Ow} {n b:Str} (h:lk o n=some b):(n,b)∈o:=by
 unfold lk at h
 cases q:o.find? λp=>decide (p.1=n) with
 | none=>rw[q] at h;cases h
 | some p=>
  rw[q] at h
  have h1:=List.mem_of_find?_eq_some q
  have h2:=@List.find?_some _ (λp:Str × Str=>decide (p.1=n)) p o q
  have h2:p.1=n:=zjj h2
  obtain⟨x,y⟩:=p
  cases h
  cases h2
  exact h1
theorem YG:∀{o:Ow} {p:Str × Str},(o.map (·.1)).Nodup→p∈o→lk o p.1=some p.2
 | q :: o,p,hn,h=>by
  (rw[SE,Tg] at hn)
  unfold lk
  rw[Nl]
  (rcases So.mp h with rfl | h)
  ·simp
  ·have hne:¬q.1=p.1:=λz=>hn.1 (by rw[z];exact TL h)
   simp only[decide_eq_false hne]
   exact YG hn.2 h
def j9 (ps as:List Str) (zb:List (Str × Str)):Ow:=ps.map (λn=>(n,("party" : Str))) ++ as.map (λn=>(n,("act" : Str))) ++ zb.map λmn=>(mn.2,mn.1)
def xS (ps as:List Str) (zb:List (Str × Str)) (z:Str):Str:=(lk (j9 ps as zb) z).getD ""
def yw (o:Ow):Ow:=o.map λp=>(p.1,p.1)
theorem gw (ps as:List Str) (zb:List (Str × Str)):(j9 ps as zb).map (·.1)=ps ++ as ++ zb.map (·.2):=by
 unfold j9
 rw[SG,SG,NH,NH,NH]
 have e:∀(l:List Str) (x:Str),l.map ((λp:Str × Str=>p.1) ∘ λn=>(n,x))=l:=λl x=>by
  rw[show ((λp:Str × Str=>p.1) ∘ λn:Str=>(n,x))=id from rfl,zqP]
 rw[e,e]
 rfl
theorem cG (o:Ow):(yw o).map (·.1)=o.map (·.1):=by unfold yw;rw[NH];rfl
theorem Zs {ps as:List Str} {zb:List (Str × Str)} (h:Ql ps as zb):(j9 ps as zb).length≤22:=by
 have:=h.p2;have:=h.a2;have:=h.r2
 unfold j9
 rw[Sl,Sl,Su,Su,Su]
 omega
theorem Bm {ps as:List Str} {zb:List (Str × Str)} (h:Ql ps as zb):mv (xS ps as zb) (yw (j9 ps as zb))=j9 ps as zb:=by
 have hn:((j9 ps as zb).map (·.1)).Nodup:=by rw[gw];exact h.nd
 unfold mv yw
 rw[NH]
 have:(j9 ps as zb).map ((λp:Str × Str=>(p.1,xS ps as zb p.2)) ∘ λp:Str × Str=>(p.1,p.1))=(j9 ps as zb).map id:=O6 λp hp=>by
  show (p.1,xS ps as zb p.1)=p
  unfold xS
  rw[YG hn hp]
  rfl
 rw[this,zqP]
theorem Paired.ZP {α β:Type} {F:α→β→Prop} {a:α}:∀{xs:List α} {ys:List β} {i:Nat},Paired F xs ys→xs[i]?=some a→∃b,ys[i]?=some b∧F a b
 | _ :: _,_ :: _,0,.cons h t,e=>by cases e;exact⟨_,rfl,h⟩
 | _ :: _,_ :: _,i + 1,.cons h t,e=>Paired.ZP (i:=i) t e
theorem take_snoc {α:Type} {xs:List α} {i:Nat} {b:α} (h:xs[i]?=some b):xs.take (i + 1)=xs.take i ++ [b]:=by
 rw[AQ,h];rfl
theorem yV {l:List Str} {i:Nat} {y:V} (h:(l.map V.str)[i]?=some y):∃n,l[i]?=some n∧y=.str n:=by
 rw[SW] at h
 cases q:l[i]? with
 | none=>rw[q] at h;cases h
 | some n=>rw[q] at h;exact⟨n,rfl,(Tq h).symm⟩
def Vw:Sp:=λvs H Q _=>∃(p:Addr) (c:Int) (ps as:List Str) (zb:List (Str × Str)),vs=[.ref p]∧mO H p c ps as zb∧Ql ps as zb∧∀d H',zp H H'→H d=none→H' d=some (.dK (dS (j9 ps as zb)))→Q (.ref d) H'
def GA:Sp:=λvs H Q _=>∃(p:Addr) (c:Int) (ps as:List Str) (zb:List (Str × Str)),vs=[.ref p]∧mO H p c ps as zb∧Ql ps as zb∧∀d H',zp H H'→H d=none→H' d=some (.dK (dS (yw (j9 ps as zb))))→Q (.ref d) H'
section
variable {P:SM} {w:Tj} {K:Sd} {mg:Str→Option Sr} {base:Heap} {t:z5}
theorem kC:zd ["_law_header_here","_law_kinds_here","_law_name","_law_mark"] ["_law_header_here"] (zy ai):=by walk_at "sc"
theorem dM (T:Txt K mg t):zo P w K mg base zC 1 t.gx t.gj ["_law_header_here"] Vw:=by
 refine T.vb.fn.ok kC (by walk_at "ln") ?_;walk_at "hd"
 obtain⟨p,c,ps,as,zb,rfl,hH,hd,k⟩:=h
 refine⟨_,(zj (za (i:=1) kC.nd rfl (SA rfl) cR)
   (zj (jg TJ rfl (qf (K:=K) rfl (zu (qH (K:=K) rfl) (pv 0) zx (λ_ _=>rfl))) (zM (i:=2) kC.nd rfl (SA rfl))
    (zk (ku zw (vH (pv 1) (pv 2) (jQ (qi hr))))))
   (zj (jg TJ rfl (qf (K:=K) rfl (zu (qH (K:=K) rfl) (pv 0) zx (λ_ _=>rfl))) (zM (i:=2) kC.nd rfl (SA rfl))
    (zk (ku zw (vH (pv 1) (pv 2) (jQ (qi hr))))))
   (zj (jg TJ rfl (qf (K:=K) rfl (zu (qH (K:=K) rfl) (pv 0) zx (λ_ _=>rfl))) (vI (K:=K) rfl rfl (qu (zM (i:=3) kC.nd rfl (SA rfl)) (qu (zM (i:=2) kC.nd rfl (SA rfl)) vE)))
    (zk (ku (pv 3) (vH (pv 1) (pv 2) (jQ (qi hr))))))
   (zk (zf (pv 1))))))),?_⟩
 obtain⟨lp,la,lr,ln,ll,vs,ep,elp,ela,elr,eln,hR⟩:=hH
 have p2:=hd.p2;have a2:=hd.a2;have r2:=hd.r2
 have hvl:vs.length=zb.length:=TF hR
 walk_at "rd"
 intro d H1 s1 hd1 e1
 have ep1:=s1 _ _ ep
 show zT 1 (V.ref d) [some (.ref p),none,none,none] _ _
 walk_at "rd"
 refine xr (K:=K) (a:=lp) (xs:=ps.map V.str) (λi σ H'=>(∃v2:Option V,σ=[some (.ref p),some (.ref d),v2,none]∧zp H H'∧H' d=some (.dK (dS (ZA [] ((ps.take i).map λn=>(n,("party" : Str)))))))∨False)
  (.inl ⟨none,rfl,s1,e1⟩) (λi σ H' _ q=>(by obtain⟨_,_,z,_⟩:=q.resolve_right (λz=>z);exact zK.of (z _ _ elp))) ?_ ?_
 ·intro i y σ H2 hi q
  obtain⟨v2,rfl,s2,e2⟩:=q.resolve_right λz=>z
  clear q
  obtain⟨n,hn,rfl⟩:=yV hi
  have hlen:=kl ((ps.take i).map λn=>(n,("party" : Str))) []
  rw[Su,S8] at hlen
  walk_at "rd"
  refine⟨d,_,.inr n,rfl,rfl,e2,zg (by rw[wZ];simp only[S1] at hlen;omega),?_⟩
  intro H3 k3 e3
  refine .inl ⟨_,rfl,k3.put s2 hd1,?_⟩
  rw[e3,take_snoc hn,SG,SE,Nk,xl,g8]
 intro σ H2 q
 obtain⟨v2,rfl,s2,e2⟩:=q.resolve_right λz=>z
 clear q
 rw[Su,T7] at e2
 have ep2:=s2 _ _ ep
 walk_at "rd"
 refine xr (K:=K) (a:=la) (xs:=as.map V.str) (λi σ H'=>(∃v2:Option V,σ=[some (.ref p),some (.ref d),v2,none]∧zp H H'∧H' d=some (.dK (dS (ZA [] (ps.map (λn=>(n,("party" : Str))) ++ (as.take i).map λn=>(n,("act" : Str)))))))∨False)
  (.inl ⟨v2,rfl,s2,by rw[OA,Nk,Tt];exact e2⟩) (λi σ H' _ q=>(by obtain⟨_,_,z,_⟩:=q.resolve_right (λz=>z);exact zK.of (z _ _ ela))) ?_ ?_
 ·intro i y σ H3 hi q
  obtain⟨v2,rfl,s3,e3⟩:=q.resolve_right λz=>z
  clear q
  obtain⟨n,hn,rfl⟩:=yV hi
  have hlen:=kl (ps.map (λn=>(n,("party" : Str))) ++ (as.take i).map λn=>(n,("act" : Str))) []
  rw[Sl,Su,Su,S8] at hlen
  walk_at "rd"
  refine⟨d,_,.inr n,rfl,rfl,e3,zg (by rw[wZ];simp only[S1] at hlen;omega),?_⟩
  intro H4 k4 e4
  refine .inl ⟨_,rfl,k4.put s3 hd1,?_⟩
  rw[e4,take_snoc hn,SG,SE,Nk,←TC,xl,g8]
 intro σ H3 q
 obtain⟨v2,rfl,s3,e3⟩:=q.resolve_right λz=>z
 clear q
 rw[Su,T7] at e3
 have ep3:=s3 _ _ ep
 walk_at "rd"
 refine xr (K:=K) (a:=lr) (xs:=vs) (λi σ H'=>(∃v2 v3:Option V,σ=[some (.ref p),some (.ref d),v2,v3]∧zp H H'∧H' d=some (.dK (dS (ZA [] (ps.map (λn=>(n,("party" : Str))) ++ as.map (λn=>(n,("act" : Str))) ++ (zb.take i).map λmn=>(mn.2,mn.1))))))∨False)
  (.inl ⟨v2,none,rfl,s3,by rw[OA,Nk,Tt];exact e3⟩) (λi σ H' _ q=>(by obtain⟨_,_,_,z,_⟩:=q.resolve_right (λz=>z);exact zK.of (z _ _ elr))) ?_ ?_
 ·intro i y σ H4 hi q
  obtain⟨v2,v3,rfl,s4,e4⟩:=q.resolve_right λz=>z
  clear q
  obtain⟨mn,hmn,q,rfl,eq⟩:=Paired.ZP hR hi
  have eq4:=s4 _ _ eq
  have hlen:=kl (ps.map (λn=>(n,("party" : Str))) ++ as.map (λn=>(n,("act" : Str))) ++ (zb.take i).map λmn=>(mn.2,mn.1)) []
  rw[Sl,Sl,Su,Su,Su,S8] at hlen
  refine⟨q,_,rfl,jo.of eq4,rfl,_,_,rfl,_,_,rfl,rfl,?_⟩
  walk_at "rd"
  refine⟨d,_,.inr mn.2,rfl,rfl,e4,zg (by rw[wZ];simp only[S1] at hlen;omega),?_⟩
  intro H5 k5 e5
  refine .inl ⟨_,_,rfl,k5.put s4 hd1,?_⟩
  rw[e5,take_snoc hmn,SG,SE,Nk,←TC,xl,g8]
 intro σ H4 q
 obtain⟨v2,v3,rfl,s4,e4⟩:=q.resolve_right λz=>z
 clear q
 rw[hvl,T7] at e4
 walk_at "rd"
 refine k d H4 s4 hd1 ?_
 have:=c9 (j9 ps as zb) [] (by rw[Ta,gw];exact hd.nd)
 rw[Ta] at this
 rw[←this]
 exact e4
theorem d7:zd ["_law_header_here","_law_scope_here","_law_name"] ["_law_header_here"] (zy aJ):=by walk_at "sc"
theorem oK (T:Txt K mg t):zo P w K mg base zC 2 t.fV t.fX ["_law_header_here"] GA:=by
 have G_w_kinds:zo P w K mg base zC 1 t.gx t.gj ["_law_header_here"] Vw:=(dM T).mono (by decide)
 refine T.bh.fn.ok d7 (by walk_at "ln") ?_;walk_at "hd"
 obtain⟨p,c,ps,as,zb,rfl,hH,hd,k⟩:=h
 refine⟨_,(zj (za (i:=1) d7.nd rfl (SA rfl) cR)
   (zj (BX TJ rfl (ze G_w_kinds hr rfl T.vb.mg T.vb.fn.kp T.vb.bd .nil zJ (zz (pv 0) zq)) (zM (i:=2) d7.nd rfl (SA rfl))
    (zk (ku (pv 2) (vH (pv 1) (pv 2) (jQ (qi hr))))))
   (zk (zf (pv 1))))),?_⟩
 have hk:=Zs hd
 walk_at "rd"
 intro d H1 s1 hd1 e1
 show zT 1 (V.ref d) [some (.ref p),none,none] _ _
 walk_at "rd"
 refine⟨p,c,ps,as,zb,rfl,hH.same s1,hd,λd2 H2 s2 hd2 e2=>?_⟩
 have hne:d≠d2:=zh e1 hd2
 refine⟨d2,_,rfl,e2,λi σ H'=>(∃v2:Option V,σ=[some (.ref p),some (.ref d),v2]∧zp H H'∧H' d=some (.dK (dS (ZA [] (yw ((j9 ps as zb).take i))))))∨False,.inl ⟨none,rfl,J0 (s1.trans s2) (s1.free hd2),by rw[cX hne];exact s2 _ _ e1⟩,?_,?_⟩
 ·intro i kk v σ H3 hi q
  obtain⟨v2,rfl,s3,e3⟩:=q.resolve_right λz=>z
  clear q
  obtain⟨pr,hpr,hpq⟩:∃pr,(j9 ps as zb)[i]?=some pr∧kk=.inr pr.1:=by
   unfold dS at hi
   rw[SW] at hi
   cases q:(j9 ps as zb)[i]? with
   | none=>rw[q] at hi;cases hi
   | some pr=>rw[q] at hi;exact⟨pr,rfl,(congrArg zjz (Tq hi)).symm⟩
  subst hpq
  have hlen:=kl (yw ((j9 ps as zb).take i)) []
  rw[show (yw ((j9 ps as zb).take i)).length=((j9 ps as zb).take i).length from Su ..,S8] at hlen
  walk_at "rd"
  refine⟨d,_,.inr pr.1,rfl,rfl,e3,zg (by rw[wZ];simp only[S1] at hlen;omega),?_⟩
  intro H4 k4 e4
  refine .inl ⟨_,rfl,k4.put s3 hd1,?_⟩
  rw[e4,take_snoc hpr]
  unfold yw
  rw[SG,SE,Nk,xl]
  exact congrArg (λz=>some (HO.dK z)) (g8 _ _ _)
 intro σ H3 q
 obtain⟨v2,rfl,s3,e3⟩:=q.resolve_right λz=>z
 clear q
 rw[wZ,T7] at e3
 walk_at "rd"
 refine k d H3 s3 hd1 ?_
 have:=c9 (yw (j9 ps as zb)) [] (by rw[Ta,cG,gw];exact hd.nd)
 rw[Ta] at this
 rw[←this]
 exact e3
end
theorem cU {u:Str} (h:zZ u=true):u.length≤8:=(xP h).2.1
structure RJ (ps as:List Str) (zb:List (Str × Str)):Prop where
 p1:1≤ps.length
 p2:ps.length≤4
 a1:1≤as.length
 a2:as.length≤6
 r2:zb.length≤12
 pn:∀x∈ps,zZ x=true
 an:∀x∈as,zZ x=true
 rn:∀mn∈zb,lE mn
theorem Ql.w {ps as:List Str} {zb:List (Str × Str)} (h:Ql ps as zb):RJ ps as zb:=⟨h.p1,h.p2,h.a1,h.a2,h.r2,h.pn,h.an,h.rn⟩
theorem QS {x y:Str} (e:y.cps.toList=x.cps.toList ++ [32]) {ns:List Str} (h:ns≠[]):y ++ Ni " " ns=mq (x :: ns):=by
 obtain⟨a,r,rfl⟩:=List.exists_cons_of_ne_nil h
 refine bz ?_
 unfold mq
 rw[cps_append,join_eq,join_eq,kB,e]
 simp
theorem YY:("parties " : Str).cps.toList=("parties" : Str).cps.toList ++ [32]∧("acts " : Str).cps.toList=("acts" : Str).cps.toList ++ [32]∧(" " : Str).cps.toList=[32]∧("sore " : Str).cps.toList=("sore" : Str).cps.toList ++ [32]:=by decide +kernel
theorem MR (m n:Str):m ++ SR " " ++ n=uz (m,n):=by
 refine bz ?_
 unfold uz mq
 rw[cps_append,cps_append,join_eq,kB,L2.join_one,YY.2.2.1]
 simp
theorem Wf (ps as:List Str) (zb:List (Str × Str)) (e1 e2:List Ew):rowsOf ps as zb (e1 ++ e2)=rowsOf ps as zb e1 ++ e2.map Ew.row:=by unfold rowsOf;simp
theorem BB (ps as:List Str) (zb:List (Str × Str)) (mn:Str × Str):rowsOf ps as (zb ++ [mn]) []=rowsOf ps as zb [] ++ [uz mn]:=by unfold rowsOf;simp
theorem uq {ps as:List Str} {zb:List (Str × Str)} {evs:List Ew}:(rowsOf ps as zb evs).length=2 + zb.length + evs.length:=by unfold rowsOf;simp only[Se,Sl,Su];omega
theorem fD:∀{ws:List Str},(∀x∈ws,59∉x.cps.toList)→59∉(mq ws).cps.toList
 | [],_=>by unfold mq;decide +kernel
 | [x],h=>by unfold mq;rw[join_eq,L2.join_one];exact h x (by simp)
 | x :: y :: r,h=>by
  have ih:=fD (ws:=y :: r) λz hz=>h z (SV _ hz)
  unfold mq at ih ⊢
  rw[join_eq] at ih ⊢
  rw[kB]
  intro hm
  (rcases SI.mp hm with hm | hm)
  ·exact h x (by simp) hm
  ·rcases So.mp hm with hm | hm
   ·cases hm
   ·exact ih hm
theorem z9 {x:Str} (h:zZ x=true):59∉x.cps.toList:=λhc=>by
 have h':=h
 unfold zZ at h'
 rw[Te] at h'
 have:¬59∈z4.cps.toList:=by decide +kernel
 exact this ((iP h'.1).2.2 59 hc)
theorem G3 {n:Nat}:∀{xs:List Str},(∀x∈xs,x.length≤n)→(xs.map (·.length)).sum≤n * xs.length
 | [],_=>by simp
 | x :: r,h=>by
  have h1:=h x (by simp)
  have h2:=G3 (n:=n) (xs:=r) λy hy=>h y (SV _ hy)
  rw[SE,zqc,Se,zqB]
  omega
theorem cB:∀x∈lits,59∉x.cps.toList∧x.length≤8:=by decide +kernel
theorem eI:∀x∈(["done","parties","acts"]:List Str),59∉x.cps.toList∧x.length≤8:=by decide +kernel
theorem Y7 {n:Int} (h1:1≤n):59∉(SR (toString n)).cps.toList:=by
 obtain⟨m,rfl⟩:=Nd (show 0≤n by omega)
 have e:=OM m
 intro hc
 rw[e] at hc
 obtain⟨ch,hch,e2⟩:=TY.mp hc
 have:=N1 (b:=10) (by decide) (by decide) hch
 simp [zzp] at this
 have h2:ch.toNat≤57:=this.2
 have e3:ch.toNat=59:=e2
 omega
theorem Dw {u:Str} (h:WG u):59∉u.cps.toList:=by
 rcases h with h | rfl
 ·exact z9 h
 ·exact(cB _ (by simp [lits])).1
theorem lf {x:Str} (h:x∈lits):59∉x.cps.toList:=(cB x h).1
theorem Ew.free {e:Ew} (h:e.ok):∀x∈e.ws,59∉x.cps.toList:=by
 intro x hx
 cases e with
 | lt a b=>
  simp only[Ew.ws,So,Tw,or_false] at hx
  rcases hx with rfl | rfl | rfl | rfl
  ·exact lf (by simp [lits])
  ·exact z9 h.1
  ·exact lf (by simp [lits])
  ·exact z9 h.2
 | mu l w a n r=>
  simp only[Ew.ws,So,Tw,or_false] at hx
  rcases hx with rfl | rfl | rfl | rfl | rfl | rfl | rfl | rfl
  ·exact z9 h.1
  ·exact z9 h.2.1
  ·exact lf (by simp [lits])
  ·exact z9 h.2.2.1
  ·exact lf (by simp [lits])
  ·exact Y7 h.2.2.2.1
  ·exact lf (by simp [lits])
  ·exact z9 h.2.2.2.2.2
 | my l w a=>
  simp only[Ew.ws,So,Tw,or_false] at hx
  rcases hx with rfl | rfl | rfl | rfl
  ·exact z9 h.1
  ·exact Dw h.2.1
  ·exact lf (by simp [lits])
  ·exact z9 h.2.2
 | bn l w a r=>
  simp only[Ew.ws,So,Tw,or_false] at hx
  rcases hx with rfl | rfl | rfl | rfl | rfl | rfl | rfl
  ·exact z9 h.1
  ·exact Dw h.2.1
  ·exact lf (by simp [lits])
  ·exact lf (by simp [lits])
  ·exact z9 h.2.2.1
  ·exact lf (by simp [lits])
  ·exact z9 h.2.2.2
 | pw l w a r=>
  simp only[Ew.ws,So,Tw,or_false] at hx
  rcases hx with rfl | rfl | rfl | rfl | rfl | rfl
  ·exact z9 h.1
  ·exact Dw h.2.1
  ·exact lf (by simp [lits])
  ·exact z9 h.2.2.1
  ·exact lf (by simp [lits])
  ·exact z9 h.2.2.2
 | dn=>
  simp only[Ew.ws,So,Tw,or_false] at hx
  rw[hx];exact(eI _ (by simp)).1
 | pt n rs=>
  cases rs with
  | nil=>
   simp only[Ew.ws,So,Tw,or_false] at hx
   rcases hx with rfl | rfl
   ·exact lf (by simp [lits])
   ·exact z9 h.1
  | cons y rs=>
   simp only[Ew.ws] at hx
   (rcases So.mp hx with rfl | hx)
   ·exact lf (by simp [lits])
   (rcases So.mp hx with rfl | hx)
   ·exact z9 h.1
   (rcases So.mp hx with rfl | hx)
   ·exact lf (by simp [lits])
   ·exact z9 (h.2.1 x hx)
structure JI (x:Str):Prop where
 fr:59∉x.cps.toList
 sh:x.length≤180
theorem Z0 {ws:List Str} (h:∀x∈ws,x.length≤8) (hl:ws.length≤20):(mq ws).length≤180:=by
 have h1:(mq ws).length≤JM ws:=sN ws
 have h2:=rT (n:=8) (ws:=ws) h
 omega
theorem Ew.U3 {e:Ew} (h:e.ok):JI e.row:=by
 refine⟨fD (Ew.free h),?_⟩
 have h1:e.row.length≤JM e.ws:=sN e.ws
 by_cases q:e.ws.length≤8
 ·have h2:=rT (n:=20) (ws:=e.ws) λx hx=>(Ew.wk h x hx).2
  omega
 cases e with
 | pt n rs=>
  cases rs with
  | nil=>exact absurd (by simp [Ew.ws]) q
  | cons y rs=>
   refine Z0 (ws:=(Ew.pt n (y :: rs)).ws) (λx hx=>?_) ?_
   ·simp only[Ew.ws] at hx
    (rcases So.mp hx with rfl | hx)
    ·exact(cB _ (by simp [lits])).2
    (rcases So.mp hx with rfl | hx)
    ·exact cU h.1
    (rcases So.mp hx with rfl | hx)
    ·exact(cB _ (by simp [lits])).2
    ·exact cU (h.2.1 x hx)
   ·have:=h.2.2
    simp only[Ew.ws,Se] at this ⊢
    omega
 | dn=>exact absurd (by simp [Ew.ws]) q
 | lt a b=>exact absurd (by simp [Ew.ws]) q
 | mu l w a n r=>exact absurd (by simp [Ew.ws]) q
 | my l w a=>exact absurd (by simp [Ew.ws]) q
 | bn l w a r=>exact absurd (by simp [Ew.ws]) q
 | pw l w a r=>exact absurd (by simp [Ew.ws]) q
theorem KD {x:Str} {ns:List Str} (hx:x∈(["done","parties","acts"]:List Str)) (hn:∀y∈ns,zZ y=true) (hl:ns.length≤6):JI (mq (x :: ns)):=by
 have key:∀y∈x :: ns,59∉y.cps.toList∧y.length≤8:=λy hy=>by
  (rcases So.mp hy with rfl | hy)
  ·exact eI _ hx
  ·exact⟨z9 (hn y hy),cU (hn y hy)⟩
 exact⟨fD λy hy=>(key y hy).1,Z0 (λy hy=>(key y hy).2) (by simp only[Se];omega)⟩
theorem CW {mn:Str × Str} (h:lE mn):JI (uz mn):=by
 have key:∀y∈[mn.1,mn.2],59∉y.cps.toList∧y.length≤8:=λy hy=>by
  simp only[So,Tw,or_false] at hy
  rcases hy with rfl | rfl
  ·have:=Za _ h.1;exact⟨this.2.1,by omega⟩
  ·exact⟨z9 h.2,cU h.2⟩
 exact⟨fD λy hy=>(key y hy).1,Z0 (λy hy=>(key y hy).2) (by simp)⟩
theorem Vj {ps as:List Str} {zb:List (Str × Str)} {evs:List Ew} (h:RJ ps as zb) (he:∀e∈evs,e.ok):∀x∈rowsOf ps as zb evs,JI x:=by
 intro x hx
 unfold rowsOf at hx
 (rcases So.mp hx with rfl | hx)
 ·exact KD (by simp) h.pn (by have:=h.p2;omega)
 (rcases So.mp hx with rfl | hx)
 ·exact KD (by simp) h.an (by have:=h.a2;omega)
 (rcases SI.mp hx with hx | hx)
 ·obtain⟨mn,hmn,rfl⟩:=TY.mp hx
  exact CW (h.rn mn hmn)
 ·obtain⟨e,hee,rfl⟩:=TY.mp hx
  exact Ew.U3 (he e hee)
theorem QO {rows:List Str} (hF:∀x∈rows,JI x) (hl:rows.length≤150):(rows.map (·.length)).sum + rows.length * (SR "; ").length≤30000:=by
 have h1:=G3 (n:=180) (xs:=rows) λx hx=>(hF x hx).sh
 have h2:(SR "; ").length=2:=by decide +kernel
 rw[h2]
 omega
theorem fW {P:SM} {w:Tj} {K:Sd} {mg:Str→Option Sr} {base:Heap} {k:Nat} {f:Addr} {fd:SH} {ps:List Str} {sp sp':Sp} (F:zo P w K mg base (rA P w) k f fd ps sp) (h:∀vs H Q E,sp' vs H Q E→sp vs H Q E0):zo P w K mg base zC k f fd ps sp':=
 ⟨λvs H Q E q=>F.len vs H Q E0 (h vs H Q E q),λA outer s H args us vs Q E hr he hb hv hs=>OQ (F.run A outer s H args us vs Q E0 hr he hb hv (h _ _ _ _ hs)) λr s' q=>by
  cases r with
  | error e=>obtain⟨_,_,_,_,_,_,_,_,_,_,_,z⟩:=q;exact z.elim
  | ok fl=>cases fl<;>exact q⟩
def aY (t:z5):Sp:=λvs H Q _=>∃(rows:List Str) (ps as:List Str) (zb:List (Str × Str)) (rw:Rw),vs=[.str (Ni (SR "; ") rows)]∧rows≠[]∧(∀x∈rows,JI x)∧rows.length≤150∧bJ rows=.ok (ps,as,zb,rw)∧∀p H',zp H H'→va t H' p ps as zb rw→Q (.ref p) H'
theorem MD {t:z5} {vs:List V} {H:Hp} {Q:VK} {E:XK} (h:aY t vs H Q E):GO t vs H Q E0:=by
 obtain⟨rows,ps,as,zb,rw,rfl,hne,hF,hl,hr,k⟩:=h
 have hsp:NB (Ni (SR "; ") rows) (SR "; ")=rows:=Wm hne λx hx=>(hF x hx).fr
 have h1:=QO hF hl
 have h2:=QN (SR "; ") rows
 refine⟨_,rfl,by omega,by rw[hsp];exact⟨by omega,λx hx=>TV (hF x hx).sh (by decide)⟩,λn e=>?_,λps' as' rms' rw' p H' e s hA=>?_⟩
 ·rw[hsp,hr] at e
  cases e
 ·rw[hsp,hr] at e
  cases e
  exact k p H' s hA
theorem MM {t:z5} {rows ps as:List Str} {zb:List (Str × Str)} {rw:Rw} {H:Hp} {Q:VK} {E:XK} (hne:rows≠[]) (hF:∀x∈rows,JI x) (hl:rows.length≤150) (hr:bJ rows=.ok (ps,as,zb,rw)) (k:∀p H',zp H H'→va t H' p ps as zb rw→Q (.ref p) H'):aY t [.str (Ni (SR "; ") rows)] H Q E:=⟨rows,ps,as,zb,rw,rfl,hne,hF,hl,hr,k⟩
section
variable {P:SM} {w:Tj} {K:Sd} {mg:Str→Option Sr} {base:Heap} {t:z5}
def uA (pq ka ma:Addr):List (Str × V):=[("pact",.ref pq),("kinds",.ref ka),("meanings",.ref ma)]
theorem U5:¬(("pact" : Str) = "kinds"):=by decide +kernel
theorem U6:¬(("pact" : Str) = "meanings"):=by decide +kernel
theorem U7:¬(("kinds" : Str) = "meanings"):=by decide +kernel
theorem Ci (pq ka ma:Addr):zB "meanings" (.ref ma) (zB "kinds" (.ref ka) (zB "pact" (.ref pq) []))=uA pq ka ma:=by
 simp only[zB,uA,if_neg U5,if_neg U6,if_neg U7]
theorem Ce (pq ka ma k2:Addr):zB "kinds" (.ref k2) (uA pq ka ma)=uA pq k2 ma:=by
 simp only[zB,uA,if_neg U5,if_true]
theorem Ca (pq ka ma m2:Addr):zB "meanings" (.ref m2) (uA pq ka ma)=uA pq ka m2:=by
 simp only[zB,uA,if_neg U6,if_neg U7,if_true]
theorem pM {a b c:Addr} {m:Str} (h1:¬m = "pact") (h2:¬m = "kinds") (h3:¬m = "meanings"):(uA a b c).lookup m=none:=(zt h1).trans ((zt h2).trans ((zt h3).trans rfl))
theorem sR {a b c:Addr}:(uA a b c).lookup ("know" : Str)=none:=pM (by decide +kernel) (by decide +kernel) (by decide +kernel)
theorem ow {a b c:Addr}:(uA a b c).lookup ("meant" : Str)=none:=pM (by decide +kernel) (by decide +kernel) (by decide +kernel)
theorem Y4 {a b c:Addr}:(uA a b c).lookup ("room_for" : Str)=none:=pM (by decide +kernel) (by decide +kernel) (by decide +kernel)
inductive An where
 | told (b:Str)
 | name
 | calm
def mA (kd:Str→Str) (o:Ow) (ws:List Str) (z:Str):An:=match lk o z with
 | none=>.name
 | some b=>if kd b∈ws then .told b else .name
def fA (kd:Str→Str):An→An
 | .told b=>if kd b = "calm" then .calm else .told b
 | r=>r
def bE (kd:Str→Str) (o:Ow):Nat→Str→An
 | 0,z=>if z = "any" then .told "any" else mA kd o ["party"] z
 | 1,z=>mA kd o ["act"] z
 | 2,z=>mA kd o zF z
 | _,z=>fA kd (mA kd o zF z)
def Dd (t:z5) (z:Str) (H:Hp):XK:=λc x H'=>∃a,x=some a∧c=.ref t.xE∧zp H H'∧DM H' a t.xE [("word",.str z)]
def DI (t:z5) (z:Str) (H:Hp):XK:=λc x H'=>∃a,x=some a∧c=.ref t.jl∧zp H H'∧DM H' a t.jl [("word",.str z)]
theorem Dd.back {t:z5} {z:Str} {H0 H:Hp} {c:Sr} {o:Option Addr} {H':Hp} (h:Dd t z H c o H') (s:zp H0 H):Dd t z H0 c o H':=by
 obtain⟨a,h1,h2,h3,h4⟩:=h
 exact⟨a,h1,h2,s.trans h3,h4⟩
theorem DI.back {t:z5} {z:Str} {H0 H:Hp} {c:Sr} {o:Option Addr} {H':Hp} (h:DI t z H c o H') (s:zp H0 H):DI t z H0 c o H':=by
 obtain⟨a,h1,h2,h3,h4⟩:=h
 exact⟨a,h1,h2,s.trans h3,h4⟩
def WL (t:z5) (z:Str) (H:Hp) (Q:VK) (E:XK):An→Prop
 | .told b=>∀H',zp H H'→Q (.str b) H'
 | .name=>∀c o H',Dd t z H c o H'→E c o H'
 | .calm=>∀c o H',DI t z H c o H'→E c o H'
theorem WL.same {t:z5} {z:Str} {H H1:Hp} {Q:VK} {E:XK} {r:An} (h:WL t z H Q E r) (s:zp H H1):WL t z H1 Q E r:=by
 cases r with
 | told b=>exact λH' s'=>h H' (s.trans s')
 | name=>exact λc o H' e=>h c o H' (e.back s)
 | calm=>exact λc o H' e=>h c o H' (e.back s)
def jr (t:z5) (H:Hp) (q dx pq ka ma:Addr) (ks ms:Ow):Prop:=H q=some (.ins t.zV dx (uA pq ka ma))∧H ka=some (.dK (dS ks))∧H ma=some (.dK (dS ms))
theorem jr.same {t:z5} {H H':Hp} {q dx pq ka ma:Addr} {ks ms:Ow} (h:jr t H q dx pq ka ma ks ms) (s:zp H H'):jr t H' q dx pq ka ma ks ms:=⟨s _ _ h.1,s _ _ h.2.1,s _ _ h.2.2⟩
def DX (a b:Addr) (H H':Hp):Prop:=∀x,x≠a→x≠b→H' x=H x
def X3 (t:z5):Sp:=λvs H Q _=>∃(q dx pq ka ma:Addr) (ks ms:Ow) (n k m:Str),vs=[.ref q,.str n,.str k,.str m]∧jr t H q dx pq ka ma ks ms∧ka≠ma∧ks.length≤200∧ms.length≤200∧∀H',DX ka ma H H'→jr t H' q dx pq ka ma (pu ks n k) (pu ms n m)→Q .non H'
def Vy (K:Sd) (t:z5):Sp:=λvs H Q E=>∃(kd:Str→Str) (q dx pq ka ma tp:Addr) (o:Ow) (z:Str) (ws:List Str),vs=[.ref q,.str z,.ref tp]∧jr t H q dx pq ka ma (mv kd o) o∧jo K H tp (ws.map V.str)∧WL t z H Q E (mA kd o ws z)
def aW (t:z5) (way:Nat):Sp:=λvs H Q E=>∃(kd:Str→Str) (q dx pq ka ma:Addr) (o:Ow) (z:Str),vs=[.ref q,.str z]∧jr t H q dx pq ka ma (mv kd o) o∧WL t z H Q E (bE kd o way z)
theorem xU:∀ws:List Str,(ws.map V.str).all pF=true
 | []=>rfl
 | x :: ws=>by rw[SE,Ob,xU ws];rfl
theorem Jv:∀ws:List Str,Qt .non (ws.map V.str)=false
 | []=>rfl
 | x :: ws=>by
  have:=Jv ws
  unfold Qt at *
  rw[SE,Of,this]
  rfl
section
variable {H:Hp} {q dx pq ka ma:Addr} {ks ms:Ow}
theorem jr.f1 (T:Txt K mg t) (h:jr t H q dx pq ka ma ks ms):eV K H (.ref q) "pact" (.ref pq):=⟨q,_,dx,_,rfl,h.1,T.qq,T.mJ,zL⟩
theorem jr.f2 (T:Txt K mg t) (h:jr t H q dx pq ka ma ks ms):eV K H (.ref q) "kinds" (.ref ka):=⟨q,_,dx,_,rfl,h.1,T.qq,T.wL,(zt λq=>U5 (Nn q)).trans zL⟩
theorem jr.f3 (T:Txt K mg t) (h:jr t H q dx pq ka ma ks ms):eV K H (.ref q) "meanings" (.ref ma):=⟨q,_,dx,_,rfl,h.1,T.qq,T.ky,(zt λq=>U6 (Nn q)).trans ((zt λq=>U7 (Nn q)).trans zL)⟩
end
theorem iy:zd ["self","word"] ["self","word"] (zy mF):=by walk_at "sc"
theorem pE (T:Txt K mg t):zo P w K mg base zC 1 t.xf t.kO ["self","word"] (rL K "word"):=by
 refine T.bN.fn.ok iy (by walk_at "ln") ?_;walk_at "hd"
 obtain⟨a,C,v,rfl,c,n,e,k⟩:=h
 exact⟨_,(zk (ZO (pv 0) (pv 1) rfl)),_,rfl,_,rfl,a,C,rfl,c,n,.inl ⟨e,k⟩⟩
theorem rP:zd ["self","word"] ["self","word"] (zy bK):=by walk_at "sc"
theorem rZ (T:Txt K mg t):zo P w K mg base zC 1 t.xo t.vQ ["self","word"] (rL K "word"):=by
 refine T.mw.fn.ok rP (by walk_at "ln") ?_;walk_at "hd"
 obtain⟨a,C,v,rfl,c,n,e,k⟩:=h
 exact⟨_,(zk (ZO (pv 0) (pv 1) rfl)),_,rfl,_,rfl,a,C,rfl,c,n,.inl ⟨e,k⟩⟩
theorem XS (T:Txt K mg t) {z:Str} {H:Hp} {E:XK} {X:XK} (k:∀c o H',Dd t z H c o H'→E c o H') :
  ∀a,H a=none→rL K "word" (.ref a :: ([V.str z] ++ [])) (upd H a (xN a t.xE none)) (λu H2=>u=.non∧∃a' C' d,V.ref a=.ref a'∧gY K C'=true∧H2 a'=some (xN a' C' d)∧E (.ref C') (some a') (upd H2 a' (xO a' C' d))) X:=
 XR T.WH T.nI T.rE.xc λa H' s x=>k _ _ _ ⟨a,rfl,rfl,s,x⟩
theorem MF (T:Txt K mg t) {z:Str} {H:Hp} {E:XK} {X:XK} (k:∀c o H',DI t z H c o H'→E c o H') :
  ∀a,H a=none→rL K "word" (.ref a :: ([V.str z] ++ [])) (upd H a (xN a t.jl none)) (λu H2=>u=.non∧∃a' C' d,V.ref a=.ref a'∧gY K C'=true∧H2 a'=some (xN a' C' d)∧E (.ref C') (some a') (upd H2 a' (xO a' C' d))) X:=
 XR T.JU T.rp T.lT.xc λa H' s x=>k _ _ _ ⟨a,rfl,rfl,s,x⟩
theorem eo:zd ["self","name","kind","meaning"] ["self","name","kind","meaning"] (zy ug):=by walk_at "sc"
theorem mW (T:Txt K mg t):zo P w K mg base zC 1 t.gU t.cQ ["self","name","kind","meaning"] (X3 t):=by
 refine T.m5.fn.ok eo (by walk_at "ln") ?_;walk_at "hd"
 obtain⟨q,dx,pq,ka,ma,ks,ms,n,kk,m,rfl,hS,hne,l1,l2,k⟩:=h
 refine⟨_,(zj (ku (pv 2) (vH (zS (K:=K) rfl (pv 0) rfl) (pv 1) (jQ (qi hr))))
   (zk (ku (pv 3) (vH (zS (K:=K) rfl (pv 0) rfl) (pv 1) (jQ (qi hr)))))),?_⟩
 walk_at "rd"
 refine⟨_,hS.f2 T,?_⟩
 walk_at "rd"
 refine⟨ka,_,.inr n,rfl,rfl,hS.2.1,zg (by rw[wZ];omega),?_⟩
 intro H1 k1 e1
 rw[g8] at e1
 have hqk:q≠ka:=λz=>by have:=hS.1;rw[z,hS.2.1] at this;cases this
 have hqm:q≠ma:=λz=>by have:=hS.1;rw[z,hS.2.2] at this;cases this
 have hS1:jr t H1 q dx pq ka ma (pu ks n kk) ms:=⟨k1.look hS.1 hqk,e1,k1.look hS.2.2 (TH hne)⟩
 walk_at "rd"
 refine⟨_,hS1.f3 T,?_⟩
 walk_at "rd"
 refine⟨ma,_,.inr n,rfl,rfl,hS1.2.2,zg (by rw[wZ];omega),?_⟩
 intro H2 k2 e2
 rw[g8] at e2
 exact k H2 (λx h1 h2=>(k2 x h2).trans (k1 x h1)) ⟨k2.look hS1.1 hqm,k2.look hS1.2.1 hne,e2⟩
theorem ip:zd ["self","word","kinds"] ["self","word","kinds"] (zy mC):=by walk_at "sc"
theorem wA (T:Txt K mg t):zo P w K mg base (rA P w) 3 t.yC t.ml ["self","word","kinds"] (Vy K t):=by
 have M_NoName_init:zo P w K mg base zC 1 t.xf t.kO ["self","word"] (rL K "word"):=(pE T).mono (by decide)
 refine T.yp.fn.Ht ip (by walk_at "ln") ?_;walk_at "hd"
 obtain⟨kd,q,dx,pq,ka,ma,tp,o,z,ws,rfl,hS,hT,k⟩:=h
 refine⟨_,(zj (zW (zc (fF (K:=K) rfl) (qC ED NP Ag (YA (qi hr)) (zS (K:=K) rfl (pv 0) rfl) (zz (pv 1) zq)) (pv 2) rfl)
    (zk (kr wz rfl (km T.rE M_NoName_init hr rfl T.Q7 T.bN.bd .nil zJ (zz (pv 1) zq)))) zr)
   (zk (zf (qB (qi hr) (zS (K:=K) rfl (pv 0) rfl) (pv 1) (λ_ _=>rfl))))),?_⟩
 walk_at "rd"
 refine⟨_,hS.f2 T,?_⟩
 refine⟨.inr (.inr (.inl ⟨rfl,.inl ⟨_,hS.2.1⟩⟩)),_,rfl,ka,_,.inr z,rfl,rfl,hS.2.1,?_⟩
 rw[kR,K1]
 unfold mA at k
 cases hl:lk o z with
 | none=>
  rw[hl] at k
  refine⟨_,rfl,tp,_,rfl,.inr hT,rfl,xU ws,_,rfl,?_⟩
  show if (!Qt V.non (ws.map V.str))=true then _ else _
  rw[if_pos (by rw[Jv];rfl)]
  walk_at "rd"
  exact XS T k
 | some b=>
  rw[hl] at k
  refine⟨_,rfl,tp,_,rfl,.inr hT,rfl,xU ws,_,rfl,?_⟩
  show if (!Qt (V.str (kd b)) (ws.map V.str))=true then _ else _
  rw[vw]
  by_cases hb:kd b∈ws
  ·rw[zjx hb]
   have k':WL t z H Q E (.told b):=by have:=k;dsimp only at this;rwa [if_pos hb] at this
   have hg:jS H ma (kV (.inr z)) (some (V.str b)):=by
    have:=jS.k (k:=.inr z) hS.2.2
    rw[kR,hl] at this
    exact this
   refine nH ?_
   walk_at "rd"
   refine⟨_,hS.f3 T,_,rfl,ma,_,rfl,hg,?_⟩
   exact k' H (zp.refl _)
  ·rw[decide_eq_false hb]
   have k':WL t z H Q E .name:=by have:=k;dsimp only at this;rwa [if_neg hb] at this
   refine cH ?_
   walk_at "rd"
   exact XS T k'
theorem ic:zd ["self","word"] ["self","word"] (zy mU):=by walk_at "sc"
theorem oZ (T:Txt K mg t):zo P w K mg base (rA P w) 4 t.yU t.mi ["self","word"] (aW t 0):=by
 refine T.ly.fn.Ht ic (by walk_at "ln") ?_;walk_at "hd"
 obtain⟨kd,q,dx,pq,ka,ma,o,z,rfl,hS,k⟩:=h
 have M1:qg P w K mg base (rA P w) 3 t.zV "meant" (Vy K t):=.mk' T.wR (wA T) T.yp.bd (by decide)
 refine⟨_,(zj (zW (zc qj (pv 1) zw (zQ _))
    (zk (zf zw)) zr)
   (zk (zf (c7 (lG λ_ _ _ z=>z) hr (pv 0) (zz (pv 1) (zz (qx (zz zw zq)) zq)))))),?_⟩
 walk_at "rd"
 have k:WL t z H Q E (if z = "any" then .told "any" else mA kd o ["party"] z):=k
 refine zD (λh1=>?_) (λh1=>?_)
 ·have e:z = "any":=V.str.inj (zjj h1)
  rw[if_pos e] at k
  walk_at "rd"
  exact k H (zp.refl _)
 ·have e:¬z = "any":=λz=>h1 (by rw[z];exact zjx rfl)
  rw[if_neg e] at k
  walk_at "rd"
  refine⟨q,_,dx,_,rfl,hS.1,T.qq,ow,_,M1,?_⟩
  walk_at "rd"
  intro tp H1 s1 htp e1
  exact⟨kd,q,dx,pq,ka,ma,tp,o,z,["party"],rfl,hS.same s1,jo.of e1,k.same s1⟩
theorem en:zd ["self","word"] ["self","word"] (zy uw):=by walk_at "sc"
theorem i8 (T:Txt K mg t):zo P w K mg base (rA P w) 4 t.gC t.cZ ["self","word"] (aW t 1):=by
 refine T.tH.fn.Ht en (by walk_at "ln") ?_;walk_at "hd"
 obtain⟨kd,q,dx,pq,ka,ma,o,z,rfl,hS,k⟩:=h
 have M1:qg P w K mg base (rA P w) 3 t.zV "meant" (Vy K t):=.mk' T.wR (wA T) T.yp.bd (by decide)
 refine⟨_,(zk (zf (c7 (lG λ_ _ _ z=>z) hr (pv 0) (zz (pv 1) (zz (qx (zz zw zq)) zq))))),?_⟩
 walk_at "rd"
 refine⟨q,_,dx,_,rfl,hS.1,T.qq,ow,_,M1,?_⟩
 walk_at "rd"
 intro tp H1 s1 htp e1
 exact⟨kd,q,dx,pq,ka,ma,tp,o,z,["act"],rfl,hS.same s1,jo.of e1,k.same s1⟩
theorem um:zd ["self","word"] ["self","word"] (zy gZ):=by walk_at "sc"
theorem yo (T:Txt K mg t):zo P w K mg base (rA P w) 4 t.kY t.gq ["self","word"] (aW t 2):=by
 refine T.wo.fn.Ht um (by walk_at "ln") ?_;walk_at "hd"
 obtain⟨kd,q,dx,pq,ka,ma,o,z,rfl,hS,k⟩:=h
 have M1:qg P w K mg base (rA P w) 3 t.zV "meant" (Vy K t):=.mk' T.wR (wA T) T.yp.bd (by decide)
 refine⟨_,(zk (zf (c7 (lG λ_ _ _ z=>z) hr (pv 0) (zz (pv 1) (zz (qO rfl T.KG (v:=.ref t.fY) rfl) zq))))),?_⟩
 walk_at "rd"
 refine⟨q,_,dx,_,rfl,hS.1,T.qq,ow,_,M1,?_⟩
 walk_at "rd"
 exact⟨kd,q,dx,pq,ka,ma,t.fY,o,z,zF,rfl,hS,Q8 T _,k⟩
theorem yX:zd ["self","word","room"] ["self","word"] (zy gs):=by walk_at "sc"
theorem cO (T:Txt K mg t):zo P w K mg base (rA P w) 5 t.kW t.gz ["self","word"] (aW t 3):=by
 have M_CalmRoom_init:zo P w K mg base zC 3 t.xo t.vQ ["self","word"] (rL K "word"):=(rZ T).mono (by decide)
 refine T.bO.fn.Ht yX (by walk_at "ln") ?_;walk_at "hd"
 obtain⟨kd,q,dx,pq,ka,ma,o,z,rfl,hS,k⟩:=h
 have M1:qg P w K mg base (rA P w) 4 t.zV "room_for" (aW t 2):=.mk' T.yn (yo T) T.wo.bd (by decide)
 refine⟨_,(zj (za (i:=2) yX.nd rfl (SA rfl) (c7 (lG λ_ _ _ z=>z) hr (pv 0) (zz (pv 1) zq)))
   (zj (zW (zc qj (qB (qi hr) (zS (K:=K) rfl (pv 0) rfl) (pv 1) (λ_ _=>rfl)) zw (zQ _))
    (zk (kr wz rfl (km T.lT M_CalmRoom_init hr rfl T.Xf T.mw.bd .nil zJ (zz (pv 1) zq)))) zr)
   (zk (zf (pv 2))))),?_⟩
 walk_at "rd"
 refine⟨q,_,dx,_,rfl,hS.1,T.qq,Y4,_,M1,?_⟩
 refine⟨_,rfl,kd,q,dx,pq,ka,ma,o,z,rfl,hS,?_⟩
 have k2:WL t z H Q E (fA kd (mA kd o zF z)):=k
 clear k
 show WL t z H _ _ (mA kd o zF z)
 cases hm:mA kd o zF z with
 | name=>rw[hm] at k2;exact k2
 | calm=>rw[hm] at k2;exact k2
 | told b=>
  rw[hm] at k2
  have hl:lk o z=some b:=by
   unfold mA at hm
   cases hq:lk o z with
   | none=>rw[hq] at hm;cases hm
   | some y=>
    rw[hq] at hm
    dsimp only at hm
    split at hm
    ·cases hm;rfl
    ·cases hm
  intro H1 s1
  have hS1:=hS.same s1
  have hg:jS H1 ka (kV (.inr z)) (some (V.str (kd b))):=by
   have:=jS.k (k:=.inr z) hS1.2.1
   rw[kR,K1,hl] at this
   exact this
  have k3:=k2.same s1
  have k3:WL t z H1 Q E (if kd b = "calm" then .calm else .told b):=k3
  show zT 2 (V.str b) [some (.ref q),some (.str z),none] _ _
  walk_at "rd"
  refine⟨_,hS1.f2 T,_,rfl,ka,_,rfl,hg,?_⟩
  walk_at "rd"
  refine zD (λh1=>?_) (λh1=>?_)
  ·have e:kd b = "calm":=V.str.inj (zjj h1)
   rw[if_pos e] at k3
   walk_at "rd"
   exact MF T k3
  ·have e:¬kd b = "calm":=λz=>h1 (by rw[z];exact zjx rfl)
   rw[if_neg e] at k3
   walk_at "rd"
   exact k3 H1 (zp.refl _)
end
theorem Mj (kd:Str→Str) (o:Ow):(mv kd o).length=o.length:=Su ..
def GG (t:z5):Sp:=λvs H Q E=>∃(kd:Str→Str) (q dx pq ka ma:Addr) (o:Ow) (n v:Str),vs=[.ref q,.str n,.str v]∧jr t H q dx pq ka ma (mv kd o) o∧ka≠ma∧o.length≤200∧(lk o v=none→∀c x H',Dd t v H c x H'→E c x H')∧
 ∀b,lk o v=some b→∀H',DX ka ma H H'→jr t H' q dx pq ka ma (mv kd (pu o n b)) (pu o n b)→Q .non H'
def GU (t:z5):Sp:=λvs H Q _=>∃(q dx pq:Addr) (ps as:List Str) (zb:List (Str × Str)) (rw:Rw),vs=[.ref q,.ref pq]∧H q=some (.ins t.zV dx [])∧va t H pq ps as zb rw∧Ql ps as zb∧∀H' ka ma,Off q H H'→jr t H' q dx pq ka ma (j9 ps as zb) (yw (j9 ps as zb))→H ka=none→H ma=none→ka≠ma→Q .non H'
def PX (t:z5):Sp:=λvs H Q _=>∃(q dx pq ka ma:Addr) (ks ms:Ow) (ps as:List Str) (zb:List (Str × Str)) (rw:Rw),vs=[.ref q]∧jr t H q dx pq ka ma ks ms∧va t H pq ps as zb rw∧Ql ps as zb∧∀q' dx' ka' ma' H',zp H H'→jr t H' q' dx' pq ka' ma' ks ms→H q'=none→H ka'=none→H ma'=none→ka'≠ma'→Q (.ref q') H'
theorem va.same {t:z5} {H H':Hp} {p:Addr} {ps as:List Str} {zb:List (Str × Str)} {rw:Rw} (h:va t H p ps as zb rw) (s:zp H H'):va t H' p ps as zb rw:=by
 obtain⟨dx,a,b,c,x,vs,e1,e2,e3,e4,h5,h6⟩:=h
 exact⟨dx,a,b,c,x,vs,s _ _ e1,s _ _ e2,s _ _ e3,s _ _ e4,Paired.imp' (λ_ _ z=>z.same s) h5,h6.move (Fm.of s) λ_ h=>.inl h⟩
theorem nG (o:Ow) (p:Str × Str):yw (o ++ [p])=yw o ++ [(p.1,p.1)]:=by unfold yw;rw[SG];rfl
theorem La {a b c:Addr} {x:V}:(Px a b c x).lookup ("parties" : Str)=some (.ref a):=zL
theorem LZ {a b c:Addr} {x:V}:(Px a b c x).lookup ("acts" : Str)=some (.ref b):=(zt λq=>a1 (Nn q)).trans zL
theorem RG {a b c:Addr} {x:V}:(Px a b c x).lookup ("rooms" : Str)=some (.ref c):=(zt λq=>a2 (Nn q)).trans ((zt λq=>a4 (Nn q)).trans zL)
theorem Off.D8 {q ka ma:Addr} {H H1 H2:Hp} (h:Off q H H1) (k:DX ka ma H1 H2) (n1:H ka=none) (n2:H ma=none):Off q H H2:=λb o hb e=>by
 rw[k b (zh e n1) (zh e n2)]
 exact h b o hb e
section
variable {P:SM} {w:Tj} {K:Sd} {mg:Str→Option Sr} {base:Heap} {t:z5}
theorem eu:zd ["self","name","value"] ["self","name","value"] (zy uv):=by walk_at "sc"
theorem i7 (T:Txt K mg t):zo P w K mg base (rA P w) 3 t.gD t.cn ["self","name","value"] (GG t):=by
 have M_NoName_init:zo P w K mg base zC 1 t.xf t.kO ["self","word"] (rL K "word"):=(pE T).mono (by decide)
 refine T.tG.fn.Ht eu (by walk_at "ln") ?_;walk_at "hd"
 obtain⟨kd,q,dx,pq,ka,ma,o,n,v,rfl,hS,hne,hl,kE,kQ⟩:=h
 have M1:qg P w K mg base zC 2 t.zV "know" (X3 t):=.mk' T.mZ (mW T) T.m5.bd (by decide)
 refine⟨_,(zj (zW (ZI (au (qi hr) (pv 2) (zS (K:=K) rfl (pv 0) rfl)))
    (zk (kr wz rfl (km T.rE M_NoName_init hr rfl T.Q7 T.bN.bd .nil zJ (zz (pv 2) zq)))) zr)
   (zk (zO (qU hr (pv 0) (zz (pv 1) (zz (qB (qi hr) (zS (K:=K) rfl (pv 0) rfl) (pv 2) (λ_ _=>rfl)) (zz (qB (qi hr) (zS (K:=K) rfl (pv 0) rfl) (pv 2) (λ_ _=>rfl)) zq))))))),?_⟩
 walk_at "rd"
 have hg:jS H ka (kV (.inr v)) (((lk o v).map kd).map V.str):=by
  have:=jS.k (k:=.inr v) hS.2.1
  rw[kR,K1] at this
  exact this
 refine⟨_,hS.f2 T,ka,_,rfl,hg,?_⟩
 walk_at "rd"
 cases hv:lk o v with
 | none=>
  refine cH ?_
  walk_at "rd"
  exact XS T (kE hv)
 | some b=>
  rw[hv] at hg
  have hg2:jS H ma (kV (.inr v)) (some (V.str b)):=by
   have:=jS.k (k:=.inr v) hS.2.2
   rw[kR,hv] at this
   exact this
  refine nH ?_
  walk_at "rd"
  refine⟨q,_,dx,_,rfl,hS.1,T.qq,sR,_,M1,?_⟩
  walk_at "rd"
  refine⟨_,hS.f2 T,_,rfl,ka,_,rfl,hg,?_⟩
  walk_at "rd"
  refine⟨_,hS.f3 T,_,rfl,ma,_,rfl,hg2,?_⟩
  refine⟨q,dx,pq,ka,ma,_,_,n,kd b,b,rfl,hS,hne,by rw[Mj];exact hl,hl,λH' k' hS'=>?_⟩
  rw[Cu] at hS'
  exact kQ b hv H' k' hS'
theorem xt:zd ["self","pact","name","mark"] ["self","pact"] (zy uy):=by walk_at "sc"
theorem mV (T:Txt K mg t):zo P w K mg base zC 2 t.kz t.vS ["self","pact"] (GU t):=by
 refine T.mE.fn.ok xt (by walk_at "ln") ?_;walk_at "hd"
 obtain⟨q,dx,pq,ps,as,zb,rw',rfl,eq,hA,hd,k⟩:=h
 have M1:qg P w K mg base zC 1 t.zV "know" (X3 t):=.mk' T.mZ (mW T) T.m5.bd (by decide)
 refine⟨_,(zj (qI (pv 0) (pv 1) rfl)
   (zj (qI (pv 0) cR rfl)
   (zj (qI (pv 0) cR rfl)
   (zj (jg TJ rfl (qf (K:=K) rfl (zS (K:=K) rfl (pv 1) rfl)) (zM (i:=2) xt.nd rfl (SA rfl))
    (zk (zO (qU hr (pv 0) (zz (pv 2) (zz zw (zz (pv 2) zq)))))))
   (zj (jg TJ rfl (qf (K:=K) rfl (zS (K:=K) rfl (pv 1) rfl)) (zM (i:=2) xt.nd rfl (SA rfl))
    (zk (zO (qU hr (pv 0) (zz (pv 2) (zz zw (zz (pv 2) zq)))))))
   (zk (jg TJ rfl (qf (K:=K) rfl (zS (K:=K) rfl (pv 1) rfl)) (vI (K:=K) rfl rfl (qu (zM (i:=3) xt.nd rfl (SA rfl)) (qu (zM (i:=2) xt.nd rfl (SA rfl)) vE)))
    (zk (zO (qU hr (pv 0) (zz (pv 2) (zz (pv 3) (zz (pv 2) zq))))))))))))),?_⟩
 have p2:=hd.p2;have a2:=hd.a2;have r2:=hd.r2
 obtain⟨dxp,lp,la,lr,xw,vs,epq,elp,ela,elr,hR,_⟩:=hA
 have hvl:vs.length=zb.length:=TF hR
 have nq:∀{b:Addr} {o:HO},H b=some o→(∀C d f,o≠.ins C d f)→b≠q:=λ{b o} e h z=>by rw[z,eq] at e;exact h _ _ _ (Tq e).symm
 have npq:pq≠q:=λz=>by
  rw[z,eq] at epq
  obtain⟨_,_,h3⟩:=HO.ins.inj (Tq epq)
  cases h3
 refine⟨_,rfl,_,rfl,q,_,dx,[],rfl,eq,T.qq,T.mJ,(by show 0 < 1000;decide),?_⟩
 have o1:Off q H (upd H q (.ins t.zV dx (zB "pact" (.ref pq) []))):=xi
 generalize hH1:upd H q (.ins t.zV dx (zB "pact" (.ref pq) []))=H1 at o1 ⊢
 have e1:H1 q=some (.ins t.zV dx (zB "pact" (.ref pq) [])):=by rw[←hH1];exact zm
 intro ka H2 s2 hka eka
 have hka0:H ka=none:=pN o1 e1 hka
 refine⟨_,rfl,q,_,dx,_,rfl,s2 _ _ e1,T.qq,T.wL,(by show 1 < 1000;decide),?_⟩
 have o3:Off q H2 (upd H2 q (.ins t.zV dx (zB "kinds" (.ref ka) (zB "pact" (.ref pq) [])))):=xi
 generalize hH3:upd H2 q (.ins t.zV dx (zB "kinds" (.ref ka) (zB "pact" (.ref pq) [])))=H3 at o3 ⊢
 have e3:H3 q=some (.ins t.zV dx (zB "kinds" (.ref ka) (zB "pact" (.ref pq) []))):=by rw[←hH3];exact zm
 have hkq:ka≠q:=λz=>by rw[z,e1] at hka;cases hka
 have eka3:=o3 _ _ hkq eka
 intro ma H4 s4 hma ema
 have o13:Off q H H3:=λb o hb e=>o3 b o hb (s2 _ _ (o1 b o hb e))
 have hma0:H ma=none:=pN o13 e3 hma
 have hkm:ka≠ma:=zh eka3 hma
 refine⟨_,rfl,q,_,dx,_,rfl,s4 _ _ e3,T.qq,T.ky,(by show 2 < 1000;decide),?_⟩
 rw[Ci]
 have o5:Off q H4 (upd H4 q (.ins t.zV dx (uA pq ka ma))):=xi
 generalize hH5:upd H4 q (.ins t.zV dx (uA pq ka ma))=H5 at o5 ⊢
 have e5:H5 q=some (.ins t.zV dx (uA pq ka ma)):=by rw[←hH5];exact zm
 have hmq:ma≠q:=λz=>by rw[z,e3] at hma;cases hma
 have hS5:jr t H5 q dx pq ka ma [] []:=⟨e5,o5 _ _ hkq (s4 _ _ eka3),o5 _ _ hmq ema⟩
 have o15:Off q H H5:=λb o hb e=>o5 b o hb (s4 _ _ (o13 b o hb e))
 clear hH1 hH3 hH5 o1 o3 o5 o13 e1 e3 e5 eka eka3 ema s2 s4 hka hma hkq hmq
 have Zg:∀{H':Hp},Off q H H'→eV K H' (.ref pq) "parties" (.ref lp):=λo=>⟨pq,_,dxp,_,rfl,o _ _ npq epq,T.vR,T.bQ,La⟩
 have Du:∀{H':Hp},Off q H H'→eV K H' (.ref pq) "acts" (.ref la):=λo=>⟨pq,_,dxp,_,rfl,o _ _ npq epq,T.vR,T.cC,LZ⟩
 have fl3:∀{H':Hp},Off q H H'→eV K H' (.ref pq) "rooms" (.ref lr):=λo=>⟨pq,_,dxp,_,rfl,o _ _ npq epq,T.vR,T.yT,RG⟩
 have nlp:lp≠q:=nq elp (λ_ _ _ z=>by cases z)
 have nla:la≠q:=nq ela (λ_ _ _ z=>by cases z)
 have nlr:lr≠q:=nq elr (λ_ _ _ z=>by cases z)
 refine⟨_,rfl,_,Zg o15,lp,rfl,⟨_,zK.of (o15 _ _ nlp elp)⟩,?_⟩
 refine xr (K:=K) (a:=lp) (xs:=ps.map V.str) (λi σ H'=>(∃v2:Option V,σ=[some (.ref q),some (.ref pq),v2,none]∧Off q H H'∧jr t H' q dx pq ka ma (ZA [] ((ps.take i).map λn=>(n,("party" : Str)))) (ZA [] (yw ((ps.take i).map λn=>(n,("party" : Str))))))∨False)
  (.inl ⟨none,rfl,o15,hS5⟩) (λi σ H' _ q=>(by obtain⟨_,_,z,_⟩:=q.resolve_right (λz=>z);exact zK.of (z _ _ nlp elp))) ?_ ?_
 ·intro i y σ H6 hi q6
  obtain⟨v2,rfl,o6,hS6⟩:=q6.resolve_right λz=>z
  clear q6
  obtain⟨n,hn,rfl⟩:=yV hi
  have hl1:=kl ((ps.take i).map λn=>(n,("party" : Str))) []
  have hl2:=kl (yw ((ps.take i).map λn=>(n,("party" : Str)))) []
  rw[show (yw ((ps.take i).map λn=>(n,("party" : Str)))).length=((ps.take i).map λn=>(n,("party" : Str))).length from Su ..,Su,S8] at hl2
  rw[Su,S8] at hl1
  simp only[S1] at hl1 hl2
  walk_at "rd"
  refine⟨q,_,dx,_,rfl,hS6.1,T.qq,sR,_,M1,?_⟩
  walk_at "rd"
  refine⟨q,dx,pq,ka,ma,_,_,n,"party",n,rfl,hS6,hkm,by omega,by omega,λH7 k7 hS7=>?_⟩
  refine .inl ⟨_,rfl,o6.D8 k7 hka0 hma0,?_⟩
  rw[take_snoc hn,SG,SE,Nk,nG,xl,xl]
  exact hS7
 intro σ H6 q6
 obtain⟨v2,rfl,o6,hS6⟩:=q6.resolve_right λz=>z
 clear q6
 rw[Su,T7] at hS6
 walk_at "rd"
 refine⟨_,Du o6,la,rfl,⟨_,zK.of (o6 _ _ nla ela)⟩,?_⟩
 refine xr (K:=K) (a:=la) (xs:=as.map V.str) (λi σ H'=>(∃v2:Option V,σ=[some (.ref q),some (.ref pq),v2,none]∧Off q H H'∧jr t H' q dx pq ka ma (ZA [] (ps.map (λn=>(n,("party" : Str))) ++ (as.take i).map λn=>(n,("act" : Str)))) (ZA [] (yw (ps.map (λn=>(n,("party" : Str))) ++ (as.take i).map λn=>(n,("act" : Str))))))∨False)
  (.inl ⟨v2,rfl,o6,by rw[OA,Nk,Tt];exact hS6⟩) (λi σ H' _ q=>(by obtain⟨_,_,z,_⟩:=q.resolve_right (λz=>z);exact zK.of (z _ _ nla ela))) ?_ ?_
 ·intro i y σ H6 hi q6
  obtain⟨v2,rfl,o6,hS6⟩:=q6.resolve_right λz=>z
  clear q6
  obtain⟨n,hn,rfl⟩:=yV hi
  have hl1:=kl (ps.map (λn=>(n,("party" : Str))) ++ (as.take i).map λn=>(n,("act" : Str))) []
  have hl2:=kl (yw (ps.map (λn=>(n,("party" : Str))) ++ (as.take i).map λn=>(n,("act" : Str)))) []
  rw[show (yw (ps.map (λn=>(n,("party" : Str))) ++ (as.take i).map λn=>(n,("act" : Str)))).length=(ps.map (λn=>(n,("party" : Str))) ++ (as.take i).map λn=>(n,("act" : Str))).length from Su ..,Sl,Su,Su,S8] at hl2
  rw[Sl,Su,Su,S8] at hl1
  simp only[S1] at hl1 hl2
  walk_at "rd"
  refine⟨q,_,dx,_,rfl,hS6.1,T.qq,sR,_,M1,?_⟩
  walk_at "rd"
  refine⟨q,dx,pq,ka,ma,_,_,n,"act",n,rfl,hS6,hkm,by omega,by omega,λH7 k7 hS7=>?_⟩
  refine .inl ⟨_,rfl,o6.D8 k7 hka0 hma0,?_⟩
  rw[take_snoc hn,SG,SE,Nk,←TC,nG,xl,xl]
  exact hS7
 intro σ H6 q6
 obtain⟨v2,rfl,o6,hS6⟩:=q6.resolve_right λz=>z
 clear q6
 rw[Su,T7] at hS6
 walk_at "rd"
 refine⟨_,fl3 o6,lr,rfl,⟨_,zK.of (o6 _ _ nlr elr)⟩,?_⟩
 refine xr (K:=K) (a:=lr) (xs:=vs) (λi σ H'=>(∃v2 v3:Option V,σ=[some (.ref q),some (.ref pq),v2,v3]∧Off q H H'∧jr t H' q dx pq ka ma (ZA [] (ps.map (λn=>(n,("party" : Str))) ++ as.map (λn=>(n,("act" : Str))) ++ (zb.take i).map λmn=>(mn.2,mn.1))) (ZA [] (yw (ps.map (λn=>(n,("party" : Str))) ++ as.map (λn=>(n,("act" : Str))) ++ (zb.take i).map λmn=>(mn.2,mn.1)))))∨False)
  (.inl ⟨v2,none,rfl,o6,by rw[OA,Nk,Tt];exact hS6⟩) (λi σ H' _ q=>(by obtain⟨_,_,_,z,_⟩:=q.resolve_right (λz=>z);exact zK.of (z _ _ nlr elr))) ?_ ?_
 ·intro i y σ H6 hi q6
  obtain⟨v2,v3,rfl,o6,hS6⟩:=q6.resolve_right λz=>z
  clear q6
  obtain⟨mn,hmn,r,rfl,er⟩:=Paired.ZP hR hi
  have er6:=o6 _ _ (nq er (λ_ _ _ z=>by cases z)) er
  have hl1:=kl (ps.map (λn=>(n,("party" : Str))) ++ as.map (λn=>(n,("act" : Str))) ++ (zb.take i).map λmn=>(mn.2,mn.1)) []
  have hl2:=kl (yw (ps.map (λn=>(n,("party" : Str))) ++ as.map (λn=>(n,("act" : Str))) ++ (zb.take i).map λmn=>(mn.2,mn.1))) []
  rw[show (yw (ps.map (λn=>(n,("party" : Str))) ++ as.map (λn=>(n,("act" : Str))) ++ (zb.take i).map λmn=>(mn.2,mn.1))).length=(ps.map (λn=>(n,("party" : Str))) ++ as.map (λn=>(n,("act" : Str))) ++ (zb.take i).map λmn=>(mn.2,mn.1)).length from Su ..,Sl,Sl,Su,Su,Su,S8] at hl2
  rw[Sl,Sl,Su,Su,Su,S8] at hl1
  simp only[S1] at hl1 hl2
  refine⟨r,_,rfl,jo.of er6,rfl,_,_,rfl,_,_,rfl,rfl,?_⟩
  walk_at "rd"
  refine⟨q,_,dx,_,rfl,hS6.1,T.qq,sR,_,M1,?_⟩
  walk_at "rd"
  refine⟨q,dx,pq,ka,ma,_,_,mn.2,mn.1,mn.2,rfl,hS6,hkm,by omega,by omega,λH7 k7 hS7=>?_⟩
  refine .inl ⟨_,_,rfl,o6.D8 k7 hka0 hma0,?_⟩
  rw[take_snoc hmn,SG,SE,Nk,←TC,nG,xl,xl]
  exact hS7
 intro σ H6 q6
 obtain⟨v2,v3,rfl,o6,hS6⟩:=q6.resolve_right λz=>z
 clear q6
 rw[hvl,T7] at hS6
 have g1:=c9 (j9 ps as zb) [] (by rw[Ta,gw];exact hd.nd)
 have g2:=c9 (yw (j9 ps as zb)) [] (by rw[Ta,cG,gw];exact hd.nd)
 rw[Ta] at g1 g2
 have hS7:jr t H6 q dx pq ka ma (ZA [] (j9 ps as zb)) (ZA [] (yw (j9 ps as zb))):=hS6
 rw[g1,g2] at hS7
 exact k H6 ka ma o6 hS7 hka0 hma0 hkm
theorem bG:zd ["self","scope"] ["self"] (zy fh):=by walk_at "sc"
theorem sf (T:Txt K mg t):zo P w K mg base zC 4 t.wG t.pf ["self"] (PX t):=by
 have M_Scope_init:zo P w K mg base zC 2 t.kz t.vS ["self","pact"] (GU t):=(mV T).mono (by decide)
 refine T.cx.fn.ok bG (by walk_at "ln") ?_;walk_at "hd"
 obtain⟨q,dx,pq,ka,ma,ks,ms,ps,as,zb,rw',rfl,hS,hA,hd,k⟩:=h
 refine⟨_,(zj (za (i:=1) bG.nd rfl (SA rfl) (qP T.Jq M_Scope_init hr rfl T.K3 T.mE.bd .nil zJ (zz (zS (K:=K) rfl (pv 0) rfl) zq)))
   (zj (qI (pv 1) (qz gI rfl T.aL OW (zz (zS (K:=K) rfl (pv 0) rfl) zq)) rfl)
   (zj (qI (pv 1) (qz gI rfl T.aL OW (zz (zS (K:=K) rfl (pv 0) rfl) zq)) rfl)
   (zk (zf (pv 1)))))),?_⟩
 refine⟨_,rfl,_,hS.f1 T,?_⟩
 intro p dx1 hp hdx1 hne1
 have sM:=jA (o:=HO.own p) (o2:=HO.ins t.zV dx1 []) hp hdx1
 refine⟨p,dx1,pq,ps,as,zb,rw',rfl,zm,hA.same sM,hd,λH1 k1 m1 o1 hS1 n1 n2 h12=>⟨rfl,?_⟩⟩
 have s1:zp H H1:=gh hp hdx1 o1
 have hSo:=hS.same s1
 show zT 1 (V.ref p) [some (.ref q),none] _ _
 walk_at "rd"
 refine⟨_,hSo.f2 T,ka,_,rfl,hSo.2.1,?_⟩
 intro k2 H2 s2 hk2 e2
 have hk20:=s1.free hk2
 have hSo2:=hSo.same s2
 refine⟨_,rfl,p,_,dx1,_,rfl,s2 _ _ hS1.1,T.qq,T.wL,(by show 3 < 1000;decide),?_⟩
 rw[Ce]
 have o3:Off p H2 (upd H2 p (.ins t.zV dx1 (uA pq k2 m1))):=xi
 generalize hH3:upd H2 p (.ins t.zV dx1 (uA pq k2 m1))=H3 at o3 ⊢
 have e3:H3 p=some (.ins t.zV dx1 (uA pq k2 m1)):=by rw[←hH3];exact zm
 have s3:zp H H3:=λb o e=>o3 b o (zh e hp) (s2 _ _ (s1 _ _ e))
 have hSo3:=hS.same s3
 have nk2:k2≠p:=λz=>by rw[z,hS1.1] at hk2;cases hk2
 have e23:=o3 _ _ nk2 e2
 walk_at "rd"
 refine⟨_,hSo3.f3 T,ma,_,rfl,hSo3.2.2,?_⟩
 intro m2 H4 s4 hm2 e4
 have hm20:=s3.free hm2
 have nm2:m2≠p:=λz=>by rw[z,e3] at hm2;cases hm2
 have nkm:k2≠m2:=zh e23 hm2
 refine⟨_,rfl,p,_,dx1,_,rfl,s4 _ _ e3,T.qq,T.ky,(by show 3 < 1000;decide),?_⟩
 rw[Ca]
 have o5:Off p H4 (upd H4 p (.ins t.zV dx1 (uA pq k2 m2))):=xi
 generalize hH5:upd H4 p (.ins t.zV dx1 (uA pq k2 m2))=H5 at o5 ⊢
 have e5:H5 p=some (.ins t.zV dx1 (uA pq k2 m2)):=by rw[←hH5];exact zm
 have s5:zp H H5:=λb o e=>o5 b o (zh e hp) (s4 _ _ (s3 _ _ e))
 walk_at "rd"
 exact k p dx1 k2 m2 H5 s5 ⟨e5,o5 _ _ nk2 (s4 _ _ e23),o5 _ _ nm2 e4⟩ hp hk20 hm20 nkm
def iQ (k:Int):Str:=if k=0 then "must" else if k=1 then "may" else if k=2 then "ban" else "power"
def F1 (k:Int) (r:Str):V:=if k=1 then .non else .str r
def Y6 (k n:Int):Int:=if k=0 then n else 0
def Dl (k:Int):Prop:=k=0∨k=1∨k=2∨k=3
def X5 (t:z5) (k:Int):Sp:=λvs H Q _=>∃(p:Addr) (l u a:Str) (n:Int) (r:Str),vs=[.ref p]∧At t H p k l u a n r∧Q (.str (iQ k)) H
def Qv (t:z5) (k:Int):Sp:=λvs H Q _=>∃(p:Addr) (l u a:Str) (n:Int) (r:Str),vs=[.ref p]∧At t H p k l u a n r∧Q (F1 k r) H
def GS (t:z5) (k:Int):Sp:=λvs H Q _=>∃(p:Addr) (l u a:Str) (n:Int) (r:Str),vs=[.ref p]∧At t H p k l u a n r∧Q (.int (Y6 k n)) H
theorem X5.to {t:z5} {k:Int} {vs:List V} {H:Hp} {Q:VK} {E:XK} (h:X5 t k vs H Q E):∃p,vs=[.ref p]∧Q (.str (iQ k)) H:=by
 obtain⟨p,_,_,_,_,_,e,_,q⟩:=h
 exact⟨p,e,q⟩
def fR (v:V):Sp:=λvs H Q _=>∃(p:Addr),vs=[.ref p]∧Q v H
theorem jG {P:SM} {w:Tj} {K:Sd} {mg:Str→Option Sr} {base:Heap} {k:Nat} {f:Addr} {fd:SH} {ps:List Str} {sp sp':Sp} (F:zo P w K mg base zC k f fd ps sp) (h:∀vs H Q E,sp' vs H Q E→sp vs H Q E):zo P w K mg base zC k f fd ps sp':=
 ⟨λvs H Q E q=>F.len vs H Q E (h vs H Q E q),λA outer s H args us vs Q E hr he hb hv hs=>F.run A outer s H args us vs Q E hr he hb hv (h _ _ _ _ hs)⟩
theorem uf:zd ["self"] ["self"] (zy gr):=by walk_at "sc"
theorem cT (T:Txt K mg t):zo P w K mg base zC 1 t.kK t.y9 ["self"] (fR (.str "must")):=by
 refine T.bL.fn.ok uf (by walk_at "ln") ?_;walk_at "hd"
 obtain⟨p,rfl,k⟩:=h
 exact⟨_,(zk (zf zw)),k⟩
theorem dE:zd ["self"] ["self"] (zy yQ):=by walk_at "sc"
theorem dP (T:Txt K mg t):zo P w K mg base zC 1 t.x8 t.yc ["self"] (fR (.str "may")):=by
 refine T.bu.fn.ok dE (by walk_at "ln") ?_;walk_at "hd"
 obtain⟨p,rfl,k⟩:=h
 exact⟨_,(zk (zf zw)),k⟩
theorem rB:zd ["self"] ["self"] (zy bX):=by walk_at "sc"
theorem rf (T:Txt K mg t):zo P w K mg base zC 1 t.vK t.ba ["self"] (fR (.str "ban")):=by
 refine T.mx.fn.ok rB (by walk_at "ln") ?_;walk_at "hd"
 obtain⟨p,rfl,k⟩:=h
 exact⟨_,(zk (zf zw)),k⟩
theorem dA:zd ["self"] ["self"] (zy yJ):=by walk_at "sc"
theorem dF (T:Txt K mg t):zo P w K mg base zC 1 t.x9 t.yr ["self"] (fR (.str "power")):=by
 refine T.br.fn.ok dA (by walk_at "ln") ?_;walk_at "hd"
 obtain⟨p,rfl,k⟩:=h
 exact⟨_,(zk (zf zw)),k⟩
theorem sQ:zd ["self"] ["self"] (zy fg):=by walk_at "sc"
theorem sg (T:Txt K mg t):zo P w K mg base zC 1 t.wW t.pk ["self"] (fR .non):=by
 refine T.cj.fn.ok sQ (by walk_at "ln") ?_;walk_at "hd"
 obtain⟨p,rfl,k⟩:=h
 exact⟨_,(zk (zf yj)),k⟩
theorem rF:zd ["self"] ["self"] (zy bV):=by walk_at "sc"
theorem kF (T:Txt K mg t):zo P w K mg base zC 1 t.ji t.bZ ["self"] (fR (.int 0)):=by
 refine T.kS.fn.ok rF (by walk_at "ln") ?_;walk_at "hd"
 obtain⟨p,rfl,k⟩:=h
 exact⟨_,(zk (zf zx)),k⟩
theorem eg:zd ["self"] ["self"] (zy ux):=by walk_at "sc"
theorem i6 (T:Txt K mg t):zo P w K mg base zC 1 t.gM t.cu ["self"] (Qv t 0):=by
 refine T.tV.fn.ok eg (by walk_at "ln") ?_;walk_at "hd"
 obtain⟨p,l,u,a,n,r,rfl,hA,k⟩:=h
 exact⟨_,(zk (zf (zS (K:=K) rfl (pv 0) rfl))),_,rfl,_,hA.fr T (.inl rfl),k⟩
theorem Z5:zd ["self"] ["self"] (zy lH):=by walk_at "sc"
theorem ZM (T:Txt K mg t):zo P w K mg base zC 1 t.pW t.lg ["self"] (Qv t 2):=by
 refine T.eX.fn.ok Z5 (by walk_at "ln") ?_;walk_at "hd"
 obtain⟨p,l,u,a,n,r,rfl,hA,k⟩:=h
 exact⟨_,(zk (zf (zS (K:=K) rfl (pv 0) rfl))),_,rfl,_,hA.fr T (.inr (.inl rfl)),k⟩
theorem ib:zd ["self"] ["self"] (zy mD):=by walk_at "sc"
theorem oa (T:Txt K mg t):zo P w K mg base zC 1 t.yD t.mr ["self"] (Qv t 3):=by
 refine T.lj.fn.ok ib (by walk_at "ln") ?_;walk_at "hd"
 obtain⟨p,l,u,a,n,r,rfl,hA,k⟩:=h
 exact⟨_,(zk (zf (zS (K:=K) rfl (pv 0) rfl))),_,rfl,_,hA.fr T (.inr (.inr rfl)),k⟩
theorem iw:zd ["self"] ["self"] (zy mP):=by walk_at "sc"
theorem ou (T:Txt K mg t):zo P w K mg base zC 1 t.yM t.md ["self"] (GS t 0):=by
 refine T.lz.fn.ok iw (by walk_at "ln") ?_;walk_at "hd"
 obtain⟨p,l,u,a,n,r,rfl,hA,k⟩:=h
 exact⟨_,(zk (zf (zS (K:=K) rfl (pv 0) rfl))),_,rfl,_,hA.ft T,k⟩
theorem YC (T:Txt K mg t) {k:Int} (hk:Dl k) {j:Nat} (hj:1≤j):qg P w K mg base zC j (y7 t k) "sort_word" (X5 t k):=by
 rcases hk with rfl | rfl | rfl | rfl
 ·exact .mk' T.cF (jG (cT T) λvs H Q E h=>h.to) T.bL.bd hj
 ·exact .mk' T.dW (jG (dP T) λvs H Q E h=>h.to) T.bu.bd hj
 ·exact .mk' T.rg (jG (rf T) λvs H Q E h=>h.to) T.mx.bd hj
 ·exact .mk' T.dY (jG (dF T) λvs H Q E h=>h.to) T.br.bd hj
theorem F6 (T:Txt K mg t) {k:Int} (hk:Dl k) {j:Nat} (hj:1≤j):qg P w K mg base zC j (y7 t k) "leads" (Qv t k):=by
 rcases hk with rfl | rfl | rfl | rfl
 ·exact .mk' T.iL (i6 T) T.tV.bd hj
 ·exact .mk' T.nR (jG (sg T) λvs H Q E ⟨p,_,_,_,_,_,e,_,q⟩=>⟨p,e,q⟩) T.cj.bd hj
 ·exact .mk' T.ZQ (ZM T) T.eX.bd hj
 ·exact .mk' T.nL (oa T) T.lj.bd hj
theorem F7 (T:Txt K mg t) {k:Int} (hk:Dl k) {j:Nat} (hj:1≤j):qg P w K mg base zC j (y7 t k) "number" (GS t k):=by
 rcases hk with rfl | rfl | rfl | rfl
 ·exact .mk' T.nU (ou T) T.lz.bd hj
 ·exact .mk' T.sq (jG (kF T) λvs H Q E ⟨p,_,_,_,_,_,e,_,q⟩=>⟨p,e,q⟩) T.kS.bd hj
 ·exact .mk' T.iU (jG (kF T) λvs H Q E ⟨p,_,_,_,_,_,e,_,q⟩=>⟨p,e,q⟩) T.kS.bd hj
 ·exact .mk' T.sj (jG (kF T) λvs H Q E ⟨p,_,_,_,_,_,e,_,q⟩=>⟨p,e,q⟩) T.kS.bd hj
theorem aA (T:Txt K mg t) (k:Int):uK K (y7 t k):=let ⟨_,F⟩:=tU T k;F.cl
end
def rj (kd:Str→Str) (o:Ow) (k:Int) (r:Str):An:=if k=1 then .told "" else if k=3 then bE kd o 2 r else bE kd o 3 r
structure Fl where
 l:Str
 s:Str
 w:Str
 a:Str
 n:Int
 r:Str
 zb:List Str
 d:Int
def Hs (f:Fl) (lr:Addr):List V:=[.str f.l,.str f.s,.str f.w,.str f.a,.int f.n,.str f.r,.ref lr,.int f.d]
def jK:An→Option Str
 | .told b=>some b
 | _=>none
theorem xX {r:An} {b:Str} (h:jK r=some b):r=.told b:=by cases r<;>cases h;rfl
def bo (kd:Str→Str) (o:Ow) (k:Int) (l u a:Str) (n:Int) (r:Str) (zb:List Str) (d:Int):Option Fl:=
 (jK (bE kd o 0 u)).bind λw=>(jK (bE kd o 1 a)).bind λa'=>(jK (rj kd o k r)).bind λr'=>some ⟨l,iQ k,w,a',Y6 k n,r',zb,d⟩
def xJ (kd:Str→Str) (o:Ow):List Str→Option (List Str)
 | []=>some []
 | x :: xs=>(jK (bE kd o 2 x)).bind λy=>(xJ kd o xs).bind λys=>some (y :: ys)
def pz (kd:Str→Str) (o:Ow) (rs zb:List Str):Option (List Str):=if rs=[] then some zb else (xJ kd o rs).bind λns=>some (zb.filter λx=>decide (x∈ns))
theorem dG {kd:Str→Str} {o:Ow}:∀{xs ys:List Str},xJ kd o xs=some ys→ys.length=xs.length∧∀(i:Nat) (x:Str),xs[i]?=some x→∃y,ys[i]?=some y∧bE kd o 2 x=.told y
 | [],ys,h=>by cases h;exact⟨rfl,λi x hx=>by cases hx⟩
 | x :: xs,ys,h=>by
  unfold xJ at h
  obtain⟨y,h1,h⟩:=SJ.mp h
  obtain⟨zs,h2,h⟩:=SJ.mp h
  cases h
  obtain⟨l,g⟩:=dG h2
  refine⟨by rw[Se,Se,l],λi z hz=>?_⟩
  cases i with
  | zero=>cases hz;exact⟨y,rfl,xX h1⟩
  | succ i=>exact g i z hz
theorem rW {xs ys:List V} (h:Paired (λy v=>v=y) xs ys):ys=xs:=by
 induction h with
 | nil=>rfl
 | cons e _ ih=>rw[e,ih]
def rR (t:z5) (way:Nat):Sp:=λvs H Q _=>∃(kd:Str→Str) (q dx pq ka ma:Addr) (o:Ow) (z b:Str),vs=[.ref q,.str z]∧jr t H q dx pq ka ma (mv kd o) o∧bE kd o way z=.told b∧∀H',zp H H'→Q (.str b) H'
theorem rR.to {t:z5} {way:Nat} {vs:List V} {H:Hp} {Q:VK} {E:XK} (h:rR t way vs H Q E):aW t way vs H Q E0:=by
 obtain⟨kd,q,dx,pq,ka,ma,o,z,b,e,hS,ha,k⟩:=h
 exact⟨kd,q,dx,pq,ka,ma,o,z,e,hS,by rw[ha];exact k⟩
def PF (t:z5):Sp:=λvs H Q _=>∃(kd:Str→Str) (p q dx pq ka ma:Addr) (o:Ow) (k:Int) (l u a:Str) (n:Int) (r b:Str),vs=[.ref p,.ref q]∧At t H p k l u a n r∧Dl k∧jr t H q dx pq ka ma (mv kd o) o∧rj kd o k r=.told b∧∀H',zp H H'→Q (.str b) H'
def CP (t:z5):Sp:=λvs H Q _=>∃(kd:Str→Str) (p q dx pq ka ma lr:Addr) (o:Ow) (k:Int) (l u a:Str) (n:Int) (r:Str) (zb:List Str) (d:Int) (f:Fl),vs=[.ref p,.ref q,.ref lr,.int d]∧At t H p k l u a n r∧Dl k∧jr t H q dx pq ka ma (mv kd o) o∧H lr=some (.lst (zb.map V.str))∧bo kd o k l u a n r zb d=some f∧∀p' l' H',zp H H'→H p'=none→H l'=none→H' p'=some (.tup (Hs f l'))→H' l'=some (.lst (zb.map V.str))→Q (.ref p') H'
def PV (t:z5):Sp:=λvs H Q _=>∃(kd:Str→Str) (p dxp a b q dx pq ka ma lr:Addr) (o:Ow) (n:Str) (rs zb cv:List Str),vs=[.ref p,.ref q,.ref lr]∧H p=some (.ins t.zE dxp (KY n a b))∧H a=some (.lst (rs.map V.str))∧rs.length≤100∧(∀x∈rs,NR x=true)∧zb.length≤100∧jr t H q dx pq ka ma (mv kd o) o∧H lr=some (.lst (zb.map V.str))∧pz kd o rs zb=some cv∧∀l' H',zp H H'→H' l'=some (.lst (cv.map V.str))→Q (.ref l') H'
theorem Pc (k:Int) (l w a:Str) (n:Int) (r:Str):(dt k l w a n r).lookup ("sort_word" : Str)=none:=Zp _ _ _ _ _ _ (by decide +kernel)
theorem Cv (k:Int) (l w a:Str) (n:Int) (r:Str):(dt k l w a n r).lookup ("leads" : Str)=none:=Zp _ _ _ _ _ _ (by decide +kernel)
theorem Cw (k:Int) (l w a:Str) (n:Int) (r:Str):(dt k l w a n r).lookup ("number" : Str)=none:=Zp _ _ _ _ _ _ (by decide +kernel)
theorem Y3 {a b c:Addr}:(uA a b c).lookup ("party" : Str)=none:=pM (by decide +kernel) (by decide +kernel) (by decide +kernel)
theorem Br {a b c:Addr}:(uA a b c).lookup ("deed" : Str)=none:=pM (by decide +kernel) (by decide +kernel) (by decide +kernel)
theorem Y2 {a b c:Addr}:(uA a b c).lookup ("falls_to" : Str)=none:=pM (by decide +kernel) (by decide +kernel) (by decide +kernel)
theorem Bu {a b c:Addr}:(uA a b c).lookup ("bind" : Str)=none:=pM (by decide +kernel) (by decide +kernel) (by decide +kernel)
theorem V3 {a b c:Addr}:(uA a b c).lookup ("copied" : Str)=none:=pM (by decide +kernel) (by decide +kernel) (by decide +kernel)
theorem PZ {k:Int} (hk:Dl k):(iQ k = "power")↔k=3:=by
 rcases hk with rfl | rfl | rfl | rfl
 all_goals (unfold iQ;decide +kernel)
section
variable {P:SM} {w:Tj} {K:Sd} {mg:Str→Option Sr} {base:Heap} {t:z5}
theorem YT (T:Txt K mg t) {j:Nat} (hj:4≤j):qg P w K mg base zC j t.zV "party" (rR t 0):=.mk' T.nS (fW (oZ T) λ_ _ _ _ h=>h.to) T.ly.bd hj
theorem Bb (T:Txt K mg t) {j:Nat} (hj:4≤j):qg P w K mg base zC j t.zV "deed" (rR t 1):=.mk' T.iT (fW (i8 T) λ_ _ _ _ h=>h.to) T.tH.bd hj
theorem Pf (T:Txt K mg t) {j:Nat} (hj:4≤j):qg P w K mg base zC j t.zV "room_for" (rR t 2):=.mk' T.yn (fW (yo T) λ_ _ _ _ h=>h.to) T.wo.bd hj
theorem YS (T:Txt K mg t) {j:Nat} (hj:5≤j):qg P w K mg base zC j t.zV "falls_to" (rR t 3):=.mk' T.cM (fW (cO T) λ_ _ _ _ h=>h.to) T.bO.bd hj
theorem gQ:zd ["clause","scope","room"] ["clause","scope"] (zy bY):=by walk_at "sc"
theorem rJ (T:Txt K mg t):zo P w K mg base zC 6 t.vW t.vX ["clause","scope"] (PF t):=by
 refine T.vh.fn.ok gQ (by walk_at "ln") ?_;walk_at "hd"
 obtain⟨kd,p,q,dx,pq,ka,ma,o,k,l,u,a,n,r,b,rfl,hA,hk,hS,hl,kk⟩:=h
 refine⟨_,(zj (za (i:=2) gQ.nd rfl (SA rfl) (jf hr (pv 0)))
   (zj (zW (zc XG (pv 2) yj (zQ _))
    (zk (zf zw)) zr)
   (zj (zW (zc qj (jf hr (pv 0)) zw (zQ _))
    (zk (zf (qU hr (pv 1) (zz (pv 2) zq)))) zr)
   (zk (zf (qU hr (pv 1) (zz (pv 2) zq))))))),?_⟩
 obtain⟨dxp,ep⟩:=id hA
 refine⟨_,rfl,p,_,dxp,_,rfl,ep,aA T k,Cv _ _ _ _ _ _,_,F6 T hk (by decide),p,l,u,a,n,r,rfl,hA,?_⟩
 unfold rj at hl
 by_cases h1:k=1
 ·rw[if_pos h1] at hl
  cases hl
  rw[show F1 k r=.non from if_pos h1]
  walk_at "rd"
  exact kk H (zp.refl _)
 ·rw[if_neg h1] at hl
  rw[show F1 k r=.str r from if_neg h1]
  walk_at "rd"
  refine⟨p,_,dxp,_,rfl,ep,aA T k,Pc _ _ _ _ _ _,_,YC T hk (by decide),p,l,u,a,n,r,rfl,hA,?_⟩
  walk_at "rd"
  refine zD (λh2=>?_) (λh2=>?_)
  ·have e3:k=3:=(PZ hk).mp (V.str.inj (zjj h2))
   rw[if_pos e3] at hl
   walk_at "rd"
   exact⟨q,_,dx,_,rfl,hS.1,T.qq,Y4,_,Pf T (by decide),_,rfl,kd,q,dx,pq,ka,ma,o,r,b,rfl,hS,hl,kk⟩
  ·have e3:¬k=3:=λz=>h2 (by rw[(PZ hk).mpr z];exact zjx rfl)
   rw[if_neg e3] at hl
   walk_at "rd"
   exact⟨q,_,dx,_,rfl,hS.1,T.qq,Y2,_,YS T (by decide),_,rfl,kd,q,dx,pq,ka,ma,o,r,b,rfl,hS,hl,kk⟩
theorem j4:zd ["clause","scope","rooms","depth","who","act","room"] ["clause","scope","rooms","depth"] (zy bW):=by walk_at "sc"
theorem rQ (T:Txt K mg t):zo P w K mg base zC 7 t.vV t.vJ ["clause","scope","rooms","depth"] (CP t):=by
 have G_v_room_led_to:zo P w K mg base zC 6 t.vW t.vX ["clause","scope"] (PF t):=(rJ T).mono (by decide)
 refine T.vg.fn.ok j4 (by walk_at "ln") ?_;walk_at "hd"
 obtain⟨kd,p,q,dx,pq,ka,ma,lr,o,k,l,u,a,n,r,zb,d,f,rfl,hA,hk,hS,elr,hf,kk⟩:=h
 refine⟨_,(zj (za (i:=4) j4.nd rfl (SA rfl) (qU hr (pv 1) (zz (zS (K:=K) rfl (pv 0) rfl) zq)))
   (zj (za (i:=5) j4.nd rfl (SA rfl) (qU hr (pv 1) (zz (zS (K:=K) rfl (pv 0) rfl) zq)))
   (zj (za (i:=6) j4.nd rfl (SA rfl) (ze G_v_room_led_to hr rfl T.vh.mg T.vh.fn.kp T.vh.bd .nil zJ (zz (pv 0) (zz (pv 1) zq))))
   (zk (zf (qx (zz (zS (K:=K) rfl (pv 0) rfl) (zz (jf hr (pv 0)) (zz (pv 4) (zz (pv 5) (zz (jf hr (pv 0)) (zz (pv 6) (zz (qz (jP (K:=K) rfl) rfl T.ki TQ (zz (pv 2) zq)) (zz (pv 3) zq)))))))))))))),?_⟩
 unfold bo at hf
 obtain⟨w',h1,hf⟩:=SJ.mp hf
 obtain⟨a',h2,hf⟩:=SJ.mp hf
 obtain⟨r',h3,hf⟩:=SJ.mp hf
 cases hf
 have h1:=xX h1
 have h2:=xX h2
 have h3:=xX h3
 refine⟨_,rfl,q,_,dx,_,rfl,hS.1,T.qq,Y3,_,YT T (by decide),_,rfl,_,hA.fw T,kd,q,dx,pq,ka,ma,o,u,w',rfl,hS,h1,λH1 s1=>?_⟩
 have hS1:=hS.same s1
 have hA1:=hA.same s1
 show zT 4 (V.str w') [some (.ref p),some (.ref q),some (.ref lr),some (.int d),none,none,none] _ _
 refine⟨_,rfl,q,_,dx,_,rfl,hS1.1,T.qq,Br,_,Bb T (by decide),_,rfl,_,hA1.fa T,kd,q,dx,pq,ka,ma,o,a,a',rfl,hS1,h2,λH2 s2=>?_⟩
 have hS2:=hS1.same s2
 have hA2:=hA1.same s2
 show zT 5 (V.str a') [some (.ref p),some (.ref q),some (.ref lr),some (.int d),some (.str w'),none,none] _ _
 refine⟨_,rfl,_,rfl,kd,p,q,dx,pq,ka,ma,o,k,l,u,a,n,r,r',rfl,hA2,hk,hS2,h3,λH3 s3=>?_⟩
 have hA3:=hA2.same s3
 obtain⟨dxp,ep⟩:=id hA3
 have s13:zp H H3:=(s1.trans s2).trans s3
 show zT 6 (V.str r') [some (.ref p),some (.ref q),some (.ref lr),some (.int d),some (.str w'),some (.str a'),none] _ _
 refine⟨_,rfl,_,hA3.fl T,?_⟩
 refine⟨_,rfl,p,_,dxp,_,rfl,ep,aA T k,Pc _ _ _ _ _ _,_,YC T hk (by decide),p,l,u,a,n,r,rfl,hA3,?_⟩
 walk_at "rd"
 refine⟨p,_,dxp,_,rfl,ep,aA T k,Cw _ _ _ _ _ _,_,F7 T hk (by decide),p,l,u,a,n,r,rfl,hA3,?_⟩
 walk_at "rd"
 refine⟨lr,_,rfl,.inl (zK.of (s13 _ _ elr)),?_⟩
 intro l' H4 s4 hl' e4
 refine⟨_,rfl,zg (by show 8≤1000;decide),?_⟩
 intro p' H5 s5 hp' e5
 exact kk p' l' H5 ((s13.trans s4).trans s5) ((s13.trans s4).free hp') (s13.free hl') e5 (s5 _ _ e4)
theorem bH:zd ["part","scope","rooms","named"] ["part","scope","rooms"] (zy kn):=by walk_at "sc"
theorem sm (T:Txt K mg t):zo P w K mg base zC 6 t.wH t.wQ ["part","scope","rooms"] (PV t):=by
 refine T.wq.fn.ok bH (by walk_at "ln") ?_;walk_at "hd"
 obtain⟨kd,p,dxp,a,b,q,dx,pq,ka,ma,lr,o,n,rs,zb,cv,rfl,ep,ea,hrl,hro,hml,hS,elr,hc,kk⟩:=h
 refine⟨_,(zj (zW (zc (fP (K:=K) rfl hr.units) (zS (K:=K) rfl (pv 0) rfl) (zP zq) (zQ _))
    (zk (zf (pv 2))) zr)
   (zj (za (i:=3) bH.nd rfl (Af rfl) (cA (osc:=zy kn) (N:=["part","scope","rooms","named"]) (names:=["scope"]) (zU:=[1]) rfl rfl rfl ⟨rfl,by decide +kernel,by decide +kernel,by decide +kernel,rfl,rfl,by decide +kernel,by decide +kernel⟩ (qf (K:=K) rfl (zS (K:=K) rfl (pv 0) rfl)) (λ_ _ _=>(Gh (P:=P) (w:=w) (K:=K) (mg:=mg) (base:=base) rfl rfl rfl rfl rfl hr (pv 1) (zz (pv 0) zq)))))
   (zk (zf (wg (osc:=zy kn) (N:=["part","scope","rooms","named"]) (xs:=["room"]) (names:=["named"]) (zU:=[3]) rfl rfl rfl ⟨rfl,by decide +kernel,by decide +kernel,by decide +kernel,by decide +kernel,rfl,by decide +kernel,by decide +kernel⟩ (qf (K:=K) rfl (pv 2)) (λ_ _ _=>(zM (i:=0) (show (["room","named"]:List Str).Nodup from by decide +kernel) rfl (.inl (yy rfl)) (.inr (yy rfl)))) (λ_ _ _=>(ZE (zc (oV (K:=K) rfl) (pv 0) (pv 1) rfl))) (λ_ _ _=>(pv 0))))))),?_⟩
 have Zm:∀{H':Hp},zp H H'→eV K H' (.ref p) "rooms" (.ref a):=λs=>⟨p,_,dxp,_,rfl,s _ _ ep,T.kN,T.yN,(zt λq=>m2 (Nn q)).trans zL⟩
 refine⟨_,rfl,_,Zm (zp.refl _),Tr _,?_⟩
 intro l0 H0 s0 hl0 e0
 have sh1:T6 (.list (rs.map Nz))=true:=qV hro
 have sh2:T6 (.list (([]:List Str).map Nz))=true:=qV λx hx=>by cases hx
 refine⟨_,_,cq.lst (zK.of (s0 _ _ ea)) (vf.strs _),cq.lst (zK.of e0) (vf.strs []),sh1,sh2,?_⟩
 rw[pV]
 unfold pz at hc
 walk_at "rd"
 refine zD (λh1=>?_) (λh1=>?_)
 ·rw[if_pos (zjj h1)] at hc
  cases hc
  walk_at "rd"
  exact kk lr H0 s0 (s0 _ _ elr)
 ·rw[if_neg λz=>h1 (zjx z)] at hc
  obtain⟨ns,hn,hc⟩:=SJ.mp hc
  cases hc
  obtain⟨hnl,hnn⟩:=dG hn
  have hS0:=hS.same s0
  have ea0:=s0 _ _ ea
  refine⟨_,rfl,_,Zm s0,a,rfl,⟨_,zK.of ea0⟩,?_⟩
  refine b9 (xC (zK.of ea0)) (λi _ v=>∀y,ns[i]?=some y→v=.str y) (zg (by rw[Su];omega)) ?_ ?_
  ·intro i y H' Q' hy s' k'
   obtain⟨x,hx,rfl⟩:=yV hy
   obtain⟨z,hz,hask⟩:=hnn i x hx
   have hS':=hS0.same s'
   refine⟨_,rfl,q,_,dx,_,rfl,hS'.1,T.qq,Y4,_,Pf T (by decide),_,rfl,kd,q,dx,pq,ka,ma,o,x,z,rfl,hS',hask,λH2 s2=>?_⟩
   refine k' _ _ s2 λy' hy'=>?_
   rw[hz] at hy'
   cases hy'
   rfl
  intro D H1 ys s1 hD e1 hl1 hp1
  obtain rfl:ys=ns.map V.str:=by
   rw[Su] at hl1
   apply Ir
   intro i
   rw[SW]
   by_cases hi:i < ns.length
   ·rw[Sn hi,Sn (by omega:i < ys.length)]
    exact congrArg some (hp1 i _ _ (Sn (by rw[Su];omega)) (Sn (by omega)) _ (Sn hi))
   ·rw[T4.mpr (by omega),T4.mpr (by omega)]
    rfl
  have elr1:=s1 _ _ (s0 _ _ elr)
  show zT 3 (V.ref D) [some (.ref p),some (.ref q),some (.ref lr),none] _ _
  refine⟨_,rfl,lr,rfl,⟨_,zK.of elr1⟩,?_⟩
  refine a9 (xC (zK.of elr1)) (λy=>Qt y (ns.map V.str)) (λy v=>v=y) (zg (by rw[Su];omega)) ?_ ?_ ?_
  ·intro i y H' Q' hy s' k'
   obtain⟨x,hx,rfl⟩:=yV hy
   refine⟨_,rfl,_,rfl,D,_,rfl,.inl (zK.of (s' _ _ e1)),rfl,xU _,_,rfl,?_⟩
   exact k' _ (zp.refl _)
  ·intro i y H' Q' hy _ s' k'
   exact⟨_,rfl,k' _ _ (zp.refl _) rfl⟩
  intro D2 H2 ys s2 hD2 e2 hP
  obtain rfl:ys=(zb.filter λx=>decide (x∈ns)).map V.str:=by
   have:=rW hP
   rw[this]
   have e3:∀l:List Str,(l.map V.str).filter (λy=>Qt y (ns.map V.str))=(l.filter λx=>decide (x∈ns)).map V.str:=λl=>by
    induction l with
    | nil=>rfl
    | cons x l ih=>
     rw[SE,Oe,Oe,vw,ih]
     by_cases hx:x∈ns
     ·simp [hx]
     ·simp [hx]
   exact e3 zb
  exact kk D2 H2 ((s0.trans s1).trans s2) e2
mutual
def jY:Rw→List Ew
 | .lt a b=>[.lt a b]
 | .cl k l u a n r=>if k=0 then [.mu l u a n r] else if k=1 then [.my l u a] else if k=2 then [.bn l u a r] else [.pw l u a r]
 | .pt n rs rows=>.pt n rs :: (zA rows ++ [.dn])
def zA:List Rw→List Ew
 | []=>[]
 | r :: rs=>jY r ++ zA rs
end
mutual
def nz:Rw→Nat
 | .lt _ _=>0
 | .cl _ _ _ _ _ _=>0
 | .pt _ _ rows=>vT rows + 1
def vT:List Rw→Nat
 | []=>0
 | r :: rs=>max (nz r) (vT rs)
end
mutual
def di:Rw→Prop
 | .lt _ _=>True
 | .cl k _ _ _ _ _=>k=0∨k=1∨k=2∨k=3
 | .pt _ _ rows=>vY rows
def vY:List Rw→Prop
 | []=>True
 | r :: rs=>di r∧vY rs
end
theorem rz {r:Rw} (hr:di r):∀{a:List Rw},vY a→vY (a ++ [r])
 | [],_=>by rw[Ta,vY,vY];exact⟨hr,T9⟩
 | x :: a,h=>by
  rw[vY] at h
  rw[T8,vY]
  exact⟨h.1,rz hr h.2⟩
theorem uI:∀(a b:List Rw),zA (a ++ b)=zA a ++ zA b
 | [],b=>by rw[Ta,zA,Ta]
 | r :: a,b=>by rw[T8,zA,zA,uI a b,TC]
theorem nj:∀(a b:List Rw),vT (a ++ b)=max (vT a) (vT b)
 | [],b=>by rw[Ta,vT];omega
 | r :: a,b=>by rw[T8,vT,vT,nj a b];omega
theorem eL (r:Rw):zA [r]=jY r:=by rw[zA,zA,Tt]
theorem QH (r:Rw):vT [r]=nz r:=by rw[vT,vT];omega
def xH:List Fr→List Ew
 | []=>[]
 | (n,rs,rows) :: fr=>(if fr=[] then [] else xH fr ++ [.pt n rs]) ++ zA rows
def lI:List Fr→Prop
 | []=>False
 | (n,rs,rows) :: fr=>vT rows + fr.length≤6∧vY rows∧(if fr=[] then n = "whole"∧rs=[] else lI fr)
theorem lI.len {fr:List Fr} (h:lI fr):fr.length≤7:=by
 match fr,h with
 | (n,rs,rows) :: fr,h=>have:=h.1;simp only[Se];omega
theorem gm {fr:List Fr} {r:Rw} (h:lI fr) (hd:nz r=0) (hk:di r):lI (push fr r)∧xH (push fr r)=xH fr ++ jY r:=by
 match fr,h with
 | (n,rs,rows) :: fr,h=>
  refine⟨⟨?_,rz hk h.2.1,h.2.2⟩,?_⟩
  ·rw[nj,QH,hd];have:=h.1;omega
  ·show (if fr=[] then [] else xH fr ++ [.pt n rs]) ++ zA (rows ++ [r])=((if fr=[] then [] else xH fr ++ [.pt n rs]) ++ zA rows) ++ jY r
   rw[uI,eL,TC]
theorem aG {fr fr':List Fr} {ls ls':List Str} {e:Ew} (h:lI fr) (ht:e.take fr ls=some (fr',ls')):lI fr'∧xH fr'=xH fr ++ [e]:=by
 cases e with
 | lt a b=>
  cases ht
  exact gm h (by rw[nz]) (by rw[di];exact T9)
 | mu l w a n r=>
  rw[Ew.take] at ht
  split at ht
  ·cases ht
  ·cases ht
   have:=gm (r:=.cl 0 l w a n r) h (by rw[nz]) (by rw[di];simp)
   exact this
 | my l w a=>
  rw[Ew.take] at ht
  split at ht
  ·cases ht
  ·cases ht
   have:=gm (r:=.cl 1 l w a 0 "") h (by rw[nz]) (by rw[di];simp)
   exact this
 | bn l w a r=>
  rw[Ew.take] at ht
  split at ht
  ·cases ht
  ·cases ht
   have:=gm (r:=.cl 2 l w a 0 r) h (by rw[nz]) (by rw[di];simp)
   exact this
 | pw l w a r=>
  rw[Ew.take] at ht
  split at ht
  ·cases ht
  ·cases ht
   have:=gm (r:=.cl 3 l w a 0 r) h (by rw[nz]) (by rw[di];simp)
   exact this
 | pt n rs=>
  rw[Ew.take] at ht
  split at ht
  ·cases ht
  ·rename_i hq
   cases ht
   have hl:=h.len
   have h7:¬fr.length=7:=λz=>hq (.inl z)
   have hne:fr≠[]:=λz=>by rw[z] at h;exact h
   refine⟨⟨by rw[vT];omega,by rw[vY];exact T9,by rw[if_neg hne];exact h⟩,?_⟩
   show (if fr=[] then [] else xH fr ++ [.pt n rs]) ++ zA []=_
   rw[if_neg hne,zA,Tt]
 | dn=>
  match fr,h,ht with
  | (n,rs,rows) :: (n2,rs2,rows2) :: fr,h,ht=>
   cases ht
   have h2:lI ((n2,rs2,rows2) :: fr):=by
    have:=h.2.2
    rw[if_neg (by simp)] at this
    exact this
   have h1:=h.1
   have h3:=h2.1
   simp only[Se] at h1
   refine⟨⟨?_,rz (by rw[di];exact h.2.1) h2.2.1,h2.2.2⟩,?_⟩
   ·rw[nj,QH,nz];omega
   ·show (if fr=[] then [] else xH fr ++ [.pt n2 rs2]) ++ zA (rows2 ++ [.pt n rs rows])=((if ((n2,rs2,rows2) :: fr)=[] then [] else xH ((n2,rs2,rows2) :: fr) ++ [.pt n rs]) ++ zA rows) ++ [.dn]
    rw[if_neg (show ¬((n2,rs2,rows2) :: fr)=[] by simp),uI,eL,jY]
    show _=((((if fr=[] then [] else xH fr ++ [.pt n2 rs2]) ++ zA rows2) ++ [.pt n rs]) ++ zA rows) ++ [.dn]
    simp only[TC,T8,Ta]
  | [],h,_=>exact h.elim
  | [f],_,ht=>cases ht
theorem Jo:∀{evs:List Ew} {i:Nat} {fr fr':List Fr} {ls:List Str},XT i evs fr ls=.ok fr'→lI fr→lI fr'∧xH fr'=xH fr ++ evs
 | [],i,fr,fr',ls,h,hf=>by cases h;exact⟨hf,by rw[Tt]⟩
 | e :: r,i,fr,fr',ls,h,hf=>by
  rw[XT] at h
  split at h
  ·cases h
  ·split at h
   ·cases h
   ·rename_i f1 l1 ht
    obtain⟨g1,g2⟩:=aG hf ht
    obtain⟨g3,g4⟩:=Jo h g1
    exact⟨g3,by rw[g4,g2,TC];rfl⟩
theorem Wh {ps as:List Str} {zb:List (Str × Str)} {evs:List Ew} (h:Ql ps as zb) (he:∀e∈evs,e.ok) (hd:Zx 0 evs=some 0) (hn:(jH evs).Nodup) (hl:evs.length≤76) :
  ∃rows,bJ (rowsOf ps as zb evs)=.ok (ps,as,zb,.pt "whole" [] rows)∧zA rows=evs∧vT rows≤6∧vY rows:=by
 have h6:=h.r2
 obtain⟨fr,e1,l1⟩:=GZ (i:=2 + zb.length) (fr:=[("whole",[],[])]) (ls:=[]) hd rfl (by decide) (by simpa using hn) (by omega)
 obtain⟨g1,g2⟩:=Jo e1 ⟨by rw[vT];decide,by rw[vY];exact T9,by rw[if_pos rfl];exact⟨rfl,rfl⟩⟩
 match fr,l1,g1,g2,e1 with
 | [(a,b,c)],l1,g1,g2,e1=>
  have g3:=g1.2.2
  rw[if_pos rfl] at g3
  obtain⟨rfl,rfl⟩:=g3
  refine⟨c,?_,?_,by have:=g1.1;simp only[S1] at this;omega,g1.2.1⟩
  ·rw[BH h he,Qa he,e1];rfl
  ·have g4:([]:List Ew) ++ zA c=([] ++ zA []) ++ evs:=g2
   rw[zA] at g4
   simpa using g4
 | f :: g :: r,l1,g1,g2,e1=>simp only[Se] at l1;omega
theorem qy.ZP {t:z5} {ms:List Addr} {H:Hp}:∀{rs:List Rw} {ys:List V} {i:Nat} {y:V},qy t ms H rs ys→ys[i]?=some y→∃r,rs[i]?=some r∧jT t ms H r y
 | [],ys,i,y,h,e=>by unfold qy at h;subst h;cases e
 | r :: rs,ys,0,y,h,e=>by
  unfold qy at h
  obtain⟨y',ys',rfl,h1,h2⟩:=h
  cases e
  exact⟨r,rfl,h1⟩
 | r :: rs,ys,i + 1,y,h,e=>by
  unfold qy at h
  obtain⟨y',ys',rfl,h1,h2⟩:=h
  exact qy.ZP (i:=i) h2 e
theorem vY.ZP {r:Rw}:∀{rs:List Rw} {i:Nat},vY rs→rs[i]?=some r→di r
 | [],i,h,e=>by cases e
 | x :: rs,0,h,e=>by cases e;rw[vY] at h;exact h.1
 | x :: rs,i + 1,h,e=>by rw[vY] at h;exact vY.ZP (i:=i) h.2 e
mutual
def Zg (kd:Str→Str):Rw→Ow→List Str→Int→Option (List Fl × Ow)
 | .lt a b,o,_,_=>(lk o b).bind λx=>some ([],pu o a x)
 | .cl k l u a n r,o,zb,d=>(bo kd o k l u a n r zb d).bind λf=>some ([f],o)
 | .pt _ rs rows,o,zb,d=>(pz kd o rs zb).bind λcv=>(mz kd rows o cv (d + 1)).bind λp=>some (p.1,o)
def mz (kd:Str→Str):List Rw→Ow→List Str→Int→Option (List Fl × Ow)
 | [],o,_,_=>some ([],o)
 | r :: rs,o,zb,d=>(Zg kd r o zb d).bind λp=>(mz kd rs p.2 zb d).bind λq=>some (p.1 ++ q.1,q.2)
end
theorem Zb (kd:Str→Str) (bs:List Rw) (zb:List Str) (d:Int):∀(as:List Rw) (o:Ow),mz kd (as ++ bs) o zb d=(mz kd as o zb d).bind λp=>(mz kd bs p.2 zb d).bind λq=>some (p.1 ++ q.1,q.2)
 | [],o=>by
  rw[Ta,mz,Sa]
  cases mz kd bs o zb d with
  | none=>rfl
  | some q=>rfl
 | r :: as,o=>by
  rw[T8,mz,mz]
  cases Zg kd r o zb d with
  | none=>rfl
  | some p=>
   rw[Sa,Sa,Zb kd bs zb d as p.2]
   cases mz kd as p.2 zb d with
   | none=>rfl
   | some q=>
    rw[Sa,Sa,Sa]
    cases mz kd bs q.2 zb d with
    | none=>rfl
    | some z=>rw[Sa,Sa,Sa,TC]
theorem HN (kd:Str→Str) (r:Rw) (o:Ow) (zb:List Str) (d:Int):mz kd [r] o zb d=Zg kd r o zb d:=by
 rw[mz]
 cases Zg kd r o zb d with
 | none=>rfl
 | some p=>rw[Sa,mz,Sa,Tt]
theorem Yu {kd:Str→Str} {rows:List Rw} {o oi:Ow} {zb:List Str} {d:Int} {R:List Fl × Ow} {i:Nat} {r:Rw} {f:List Fl} (h:mz kd rows o zb d=some R) (hr:rows[i]?=some r) (hi:mz kd (rows.take i) o zb d=some (f,oi)):∃q,Zg kd r oi zb d=some q∧mz kd (rows.take (i + 1)) o zb d=some (f ++ q.1,q.2):=by
 have e:rows=(rows.take i ++ [r]) ++ rows.drop (i + 1):=by rw[←take_snoc hr,NF]
 have e2:=Zb kd [r] zb d (rows.take i) o
 rw[hi,Sa,HN] at e2
 rw[e,Zb] at h
 obtain⟨p,hp,_⟩:=SJ.mp h
 rw[e2] at hp
 obtain⟨q,hq,hp⟩:=SJ.mp hp
 refine⟨q,hq,?_⟩
 rw[take_snoc hr,e2,hq]
 rfl
mutual
theorem HS {kd:Str→Str}:∀{r:Rw} {o:Ow} {zb:List Str} {d:Int} {q:List Fl × Ow},Zg kd r o zb d=some q→q.1.length≤(jY r).length∧q.2.length≤o.length + 1
 | .lt a b,o,zb,d,q,h=>by
  rw[Zg] at h
  obtain⟨x,_,h⟩:=SJ.mp h
  cases h
  exact⟨Tr _,XU _ _ _⟩
 | .cl k l u a n r,o,zb,d,q,h=>by
  rw[Zg] at h
  obtain⟨x,_,h⟩:=SJ.mp h
  cases h
  refine⟨?_,OO _⟩
  rw[jY]
  split
  ·exact SD _
  split
  ·exact SD _
  split
  ·exact SD _
  ·exact SD _
 | .pt n rs rows,o,zb,d,q,h=>by
  rw[Zg] at h
  obtain⟨cv,_,h⟩:=SJ.mp h
  obtain⟨p,hp,h⟩:=SJ.mp h
  cases h
  have:=(cV hp).1
  refine⟨?_,OO _⟩
  rw[jY,Se,Sl]
  show p.1.length≤_
  omega
theorem cV {kd:Str→Str}:∀{rows:List Rw} {o:Ow} {zb:List Str} {d:Int} {q:List Fl × Ow},mz kd rows o zb d=some q→q.1.length≤(zA rows).length∧q.2.length≤o.length + rows.length
 | [],o,zb,d,q,h=>by rw[mz] at h;cases h;exact⟨Tr _,SD _⟩
 | r :: rs,o,zb,d,q,h=>by
  rw[mz] at h
  obtain⟨p,hp,h⟩:=SJ.mp h
  obtain⟨z,hz,h⟩:=SJ.mp h
  cases h
  have h1:=HS hp
  have h2:=cV hz
  rw[zA,Sl,Sl,Se]
  show p.1.length + z.1.length≤_∧z.2.length≤_
  omega
end
theorem fq:∀rows:List Rw,rows.length≤(zA rows).length
 | []=>Tr _
 | r :: rs=>by
  have h:=fq rs
  have h1:1≤(jY r).length:=by
   cases r with
   | lt a b=>rw[jY];exact SD _
   | cl k l u a n r=>
    rw[jY]
    split
    ·exact SD _
    split
    ·exact SD _
    split
    ·exact SD _
    ·exact SD _
   | pt n rs rows=>rw[jY,Se];omega
  rw[zA,Sl,Se]
  omega
theorem QM {r:Rw}:∀{rows:List Rw} {i:Nat},rows[i]?=some r→∃b,zA rows=zA (rows.take i) ++ jY r ++ b∧nz r≤vT rows
 | x :: rs,0,e=>by cases e;exact⟨zA rs,by rw[zA,OA,zA];rfl,by rw[vT];omega⟩
 | x :: rs,i + 1,e=>by
  obtain⟨b,h,hd⟩:=QM (rows:=rs) (i:=i) e
  exact⟨b,by rw[List.take_succ_cons,zA,zA,h];simp,by rw[vT];omega⟩
def jb (H:Hp) (rs:List (Addr × Addr)) (fls:List Fl):Prop:=Paired (λ(r:Addr × Addr) (f:Fl)=>H r.1=some (.tup (Hs f r.2))∧H r.2=some (.lst (f.zb.map V.str))) rs fls
theorem jb.same {H H':Hp} {rs:List (Addr × Addr)} {fls:List Fl} (h:jb H rs fls) (s:zp H H'):jb H' rs fls:=Paired.imp' (λ_ _ z=>⟨s _ _ z.1,s _ _ z.2⟩) h
theorem Paired.VM {α β:Type} {F G:α→β→Prop}:∀{xs:List α} {ys:List β},Paired F xs ys→(∀x∈xs,∀y,F x y→G x y)→Paired G xs ys
 | _,_,.nil,_=>.nil
 | _,_,.cons h t,f=>.cons (f _ Tu _ h) (Paired.VM t λx hx=>f x (SV _ hx))
theorem Paired.Vs {α β:Type} {F:α→β→Prop} {bs:List α} {ds:List β} (h2:Paired F bs ds):∀{as:List α} {cs:List β},Paired F as cs→Paired F (as ++ bs) (cs ++ ds)
 | _,_,.nil=>h2
 | _,_,.cons h t=>.cons h (Paired.Vs h2 t)
theorem jb.D8 {H H':Hp} {ka ma:Addr} {k1 k2:List (Key × V)} {rs:List (Addr × Addr)} {fls:List Fl} (h:jb H rs fls) (k:DX ka ma H H') (e1:H ka=some (.dK k1)) (e2:H ma=some (.dK k2)):jb H' rs fls:=Paired.imp' (λr f z=>by
 obtain⟨z1,z2⟩:=z
 refine⟨?_,?_⟩
 ·rw[k r.1 (λq=>by rw[q,e1] at z1;cases z1) (λq=>by rw[q,e2] at z1;cases z1)];exact z1
 ·rw[k r.2 (λq=>by rw[q,e1] at z2;cases z2) (λq=>by rw[q,e2] at z2;cases z2)];exact z2) h
theorem jb.keeps {H H':Hp} {l:Addr} {xs:List V} {rs:List (Addr × Addr)} {fls:List Fl} (h:jb H rs fls) (k:Keeps l H H') (el:H l=some (.lst xs)) (hl:l∉rs.map (·.2)):jb H' rs fls:=Paired.VM h λr hr f z=>by
 obtain⟨z1,z2⟩:=z
 exact⟨k.look z1 (λq=>by rw[q,el] at z1;cases z1),k.look z2 λq=>hl (by rw[←q];exact TL hr)⟩
def Qx (t:z5):Sp:=λvs H Q _=>∃(kd:Str→Str) (q dx pq ka ma:Addr) (o:Ow) (n v b:Str),vs=[.ref q,.str n,.str v]∧jr t H q dx pq ka ma (mv kd o) o∧ka≠ma∧o.length≤200∧lk o v=some b∧∀H',DX ka ma H H'→jr t H' q dx pq ka ma (mv kd (pu o n b)) (pu o n b)→Q .non H'
theorem Qx.to {t:z5} {vs:List V} {H:Hp} {Q:VK} {E:XK} (h:Qx t vs H Q E):GG t vs H Q E0:=by
 obtain⟨kd,q,dx,pq,ka,ma,o,n,v,b,e,hS,h1,h2,hb,k⟩:=h
 exact⟨kd,q,dx,pq,ka,ma,o,n,v,e,hS,h1,h2,λz=>(by rw[hb] at z;cases z),λb2 h=>(by rw[hb] at h;cases h;exact k)⟩
def BL (t:z5):Nat→Sp
 | 0=>λ_ _ _ _=>False
 | n + 1=>λvs H Q _=>∃(B:Hp) (kd:Str→Str) (l q dx pq ka ma lr:Addr) (rows:List Rw) (ys:List V) (o o2:Ow) (zb:List Str) (d:Int) (fls:List Fl) (ps as:List Str) (rm0:List (Str × Str)) (rw:Rw),vs=[.ref l,.ref q,.ref lr,.int d]∧zp B H∧B l=some (.lst ys)∧qy t [] B rows ys∧vT rows≤n∧vY rows∧(∀e∈zA rows,e.ok)∧B lr=some (.lst (zb.map V.str))∧zb.length≤100∧jr t H q dx pq ka ma (mv kd o) o∧o.length + (zA rows).length≤190∧ka≠ma∧B ka=none∧B ma=none∧va t B pq ps as rm0 rw∧Ql ps as rm0∧mz kd rows o zb d=some (fls,o2)∧
  ∀lt H' rs,zp B H'→B lt=none→H' lt=some (.lst (rs.map λr:Addr × Addr=>.ref r.1))→jb H' rs fls→(rs.map (·.2)).Nodup→(∀r∈rs,B r.1=none∧B r.2=none)→lt∉rs.map (·.2)→Q (.ref lt) H'
theorem eS {K:Sd} {a:Addr} {xs:List V} {E:L2.St→Hp→Prop} {B:V→L2.St→Hp→(L2.St→Hp→Prop)→Prop} {σ:L2.St} {H:Hp} (Pv:Nat→L2.St→Hp→Prop) (h0:Pv 0 σ H) (hl:∀i σ H,i≤xs.length→Pv i σ H→zK K H a xs)
  (hs:∀i x σ H,xs[i]?=some x→Pv i σ H→B x σ H (Pv (i + 1))) (hd:∀σ H,Pv xs.length σ H→E σ H) :
  ∃W:Nat→Nat→L2.St→Hp→Prop,(∃m,W 0 m σ H)∧∀i m σ H,W i m σ H→
   ((He K a).stop i H∧E σ H)∨((He K a).go i H∧∃N:L2.St→Hp→Prop,(∀σ' H',N σ' H'→∃m',m' < m∧W (i + 1) m' σ' H')∧∀x H',(He K a).Hd i H x H'→B x σ H' N):=by
 (refine⟨λi m σ H=>m=xs.length - i∧i≤xs.length∧Pv i σ H,⟨xs.length,by simp,Tr _,h0⟩,?_⟩)
 rintro i m σ H ⟨rfl,hi,p⟩
 have q:=hl i σ H hi p
 by_cases hlt:i < xs.length
 ·(refine .inr ⟨⟨xs,xs[i],q,by simp [hlt]⟩,Pv (i + 1),λσ' H' p'=>⟨xs.length - (i + 1),by omega,rfl,hlt,p'⟩,λx H' y=>?_⟩)
  obtain⟨e,y⟩:=y
  subst e
  exact hs i x σ _ (y xs q) p
 ·(have e:i=xs.length:=by omega)
  subst e
  (exact .inl ⟨⟨xs,q,SD _⟩,hd σ H p⟩)
theorem Paired.F2 {α β:Type} {F:α→β→Prop}:∀{xs:List α} {ys:List β},Paired F xs ys→xs.length=ys.length
 | _,_,.nil=>rfl
 | _,_,.cons _ t=>congrArg (· + 1) (Paired.F2 t)
theorem jb.Cz {H:Hp} {rs:List (Addr × Addr)} {fls:List Fl} (h:jb H rs fls) {r:Addr × Addr} (hr:r∈rs):∃f,f∈fls∧H r.1=some (.tup (Hs f r.2))∧H r.2=some (.lst (f.zb.map V.str)):=by
 unfold jb at h
 induction h with
 | nil=>cases hr
 | cons z _ ih=>
  rcases So.mp hr with rfl | hr
  ·exact⟨_,Tu,z⟩
  ·obtain⟨f,hf,g⟩:=ih hr
   exact⟨f,SV _ hf,g⟩
theorem jr.keeps {t:z5} {H H':Hp} {q dx pq ka ma l:Addr} {ks ms:Ow} {xs:List V} (h:jr t H q dx pq ka ma ks ms) (k:Keeps l H H') (el:H l=some (.lst xs)):jr t H' q dx pq ka ma ks ms:=by
 obtain⟨a1,a2,a3⟩:=h
 exact⟨k.look a1 (λz=>by rw[z,el] at a1;cases a1),k.look a2 (λz=>by rw[z,el] at a2;cases a2),k.look a3 (λz=>by rw[z,el] at a3;cases a3)⟩
theorem Zz {kd:Str→Str} {o:Ow} {rs zb cv:List Str} (h:pz kd o rs zb=some cv):cv.length≤zb.length:=by
 unfold pz at h
 split at h
 ·cases h;exact SD _
 ·obtain⟨ns,_,h⟩:=SJ.mp h
  cases h
  exact Io _ _
theorem Lw (T:Txt K mg t) {H:Hp} {p:Addr} {k:Int} {l w a:Str} {n:Int} {r:Str} (h:At t H p k l w a n r):xZ K H (.ref p) (.ref (y7 t k)):=by
 obtain⟨dx,e⟩:=h
 obtain⟨fI,F⟩:=tU T k
 have key:Tv K (.ref (y7 t k)) "__class__" = some (some (.builtin "object.__class__"))∧NJ K (y7 t k) (.type "object")=some true:=by
  unfold y7
  split
  ·exact T.B1
  split
  ·exact T.G7
  split
  ·exact T.Dq
  split
  ·exact T.G9
  ·exact T.WK
 exact xZ.ins e F.cl key.1 T.Xe T.Gz key.2
theorem L7 (T:Txt K mg t) {H:Hp} {p:Addr} {n m:Str} (h:Fp t H p n m):xZ K H (.ref p) (.ref t.j8):=by
 obtain⟨dx,e⟩:=h
 exact xZ.ins e T.tR T.G8.1 T.Xe T.Gz T.G8.2
theorem Fp.fn (T:Txt K mg t) {H:Hp} {p:Addr} {n m:Str} (h:Fp t H p n m):eV K H (.ref p) "name" (.str n):=by
 obtain⟨dx,e⟩:=h
 exact⟨p,_,dx,_,rfl,e,T.tR,T.lX,zL⟩
theorem Fp.fv (T:Txt K mg t) {H:Hp} {p:Addr} {n m:Str} (h:Fp t H p n m):eV K H (.ref p) "value" (.str m):=by
 obtain⟨dx,e⟩:=h
 exact⟨p,_,dx,_,rfl,e,T.tR,T.cD,(zt λq=>m1 (Nn q)).trans zL⟩
theorem FQ (T:Txt K mg t) {k:Int} (hk:k=0∨k=1∨k=2∨k=3):TK K (.ref (y7 t k)) (Yq (.ref t.zE))=some false:=by
 rcases hk with rfl | rfl | rfl | rfl
 ·exact T.Zt
 ·exact T.iM
 ·exact T.QE
 ·exact T.iD
theorem FZ (T:Txt K mg t) {k:Int} (hk:k=0∨k=1∨k=2∨k=3):TK K (.ref (y7 t k)) (Yq (.ref t.j8))=some false:=by
 rcases hk with rfl | rfl | rfl | rfl
 ·exact T.QA
 ·exact T.Zn
 ·exact T.Xw
 ·exact T.Zi
theorem Bh (T:Txt K mg t) {j:Nat} (hj:3≤j):qg P w K mg base zC j t.zV "bind" (Qx t):=.mk' T.iS (fW (i7 T) λ_ _ _ _ h=>h.to) T.tG.bd hj
theorem VE (T:Txt K mg t) {j:Nat} (hj:4≤j):qg P w K mg base zC j t.zV "copied" (PX t):=.mk' T.sx (sf T) T.cx.bd hj
theorem jM:zd ["rows","scope","rooms","depth","told","row","covered"] ["rows","scope","rooms","depth"] (zy mL):=by walk_at "sc"
theorem sZ (T:Txt K mg t):∀n:Nat,zo P w K mg base zC (n + 8) t.xu t.xp ["rows","scope","rooms","depth"] ((BL t) n):=by
 intro n
 induction n
 ·exact T.jc.fn.ok jM (λvs H Q E h=>T5 h) (λcdv A outer s H vs Q E hr h=>T5 h)
 rename_i n ih
 have G_v_covered_by:zo P w K mg base zC (n + 8) t.wH t.wQ ["part","scope","rooms"] (PV t):=(sm T).mono (by omega)
 have G_v_flat_clause:zo P w K mg base zC (n + 8) t.vV t.vJ ["clause","scope","rooms","depth"] (CP t):=(rQ T).mono (by omega)
 have G_v_flat_rows:zo P w K mg base zC (n + 8) t.xu t.xp ["rows","scope","rooms","depth"] ((BL t) n):=ih
 refine T.jc.fn.ok jM (λvs H Q E h=>(by first | (obtain⟨rfl,_⟩:=h;rfl) | (obtain⟨_,rfl,_⟩:=h;rfl) | (obtain⟨_,_,rfl,_⟩:=h;rfl) | (obtain⟨_,_,_,rfl,_⟩:=h;rfl) | (obtain⟨_,_,_,_,rfl,_⟩:=h;rfl) | (obtain⟨_,_,_,_,_,rfl,_⟩:=h;rfl) | (obtain⟨_,_,_,_,_,_,rfl,_⟩:=h;rfl) | (obtain⟨_,_,_,_,_,_,_,rfl,_⟩:=h;rfl) | (obtain⟨_,_,_,_,_,_,_,_,rfl,_⟩:=h;rfl) | (obtain⟨_,_,_,_,_,_,_,_,_,rfl,_⟩:=h;rfl) | (obtain⟨_,_,_,_,_,_,_,_,_,_,rfl,_⟩:=h;rfl) | (obtain⟨_,_,_,_,_,_,_,_,_,_,_,rfl,_⟩:=h;rfl) | (obtain⟨_,_,_,_,_,_,_,_,_,_,_,_,rfl,_⟩:=h;rfl) | (obtain⟨_,_,_,_,_,_,_,_,_,_,_,_,_,rfl,_⟩:=h;rfl) | (obtain⟨_,_,_,_,_,_,_,_,_,_,_,_,_,_,rfl,_⟩:=h;rfl) | (obtain⟨_,_,_,_,_,_,_,_,_,_,_,_,_,_,_,rfl,_⟩:=h;rfl) | (obtain⟨_,_,_,_,_,_,_,_,_,_,_,_,_,_,_,_,rfl,_⟩:=h;rfl) | (obtain⟨_,_,_,_,_,_,_,_,_,_,_,_,_,_,_,_,_,rfl,_⟩:=h;rfl) | (obtain⟨_,_,_,_,_,_,_,_,_,_,_,_,_,_,_,_,_,_,rfl,_⟩:=h;rfl) | (obtain⟨_,_,_,_,_,_,_,_,_,_,_,_,_,_,_,_,_,_,_,rfl,_⟩:=h;rfl) | (obtain⟨_,_,_,_,_,_,_,_,_,_,_,_,_,_,_,_,_,_,_,_,rfl,_⟩:=h;rfl) | (obtain⟨_,_,_,_,_,_,_,_,_,_,_,_,_,_,_,_,_,_,_,_,_,rfl,_⟩:=h;rfl) | (obtain⟨_,_,_,_,_,_,_,_,_,_,_,_,_,_,_,_,_,_,_,_,_,_,rfl,_⟩:=h;rfl) | (obtain⟨_,_,_,_,_,_,_,_,_,_,_,_,_,_,_,_,_,_,_,_,_,_,_,rfl,_⟩:=h;rfl))) (λcdv A outer s H vs Q E hr h=>?_)
 obtain⟨B,kd,l,q,dx,pq,ka,ma,lr,rows,ys,o,o2,zb,d,fls,ps,as,rm0,rw',rfl,sB,eyl,hR,hdp,hkk,hev,elr,hml,hS,hol,hkm,bka,bma,hA,hd,hfl,k⟩:=h
 refine⟨_,(zj (za (i:=4) jM.nd rfl (SA rfl) (zP zq) jX)
   (zj (jg TJ rfl (qf (K:=K) rfl (pv 0)) (zM (i:=5) jM.nd rfl (SA rfl))
    (zk (PS.join (zW (qt (zX (qT (K:=K) rfl) rfl T.qL TB (zz (pv 5) (zz (qO rfl T.YM (v:=.ref t.j8) rfl) zq))))
    (zk (zO (qU hr (pv 1) (zz (zS (K:=K) rfl (pv 5) rfl) (zz (zS (K:=K) rfl (pv 5) rfl) zq))))) (zk (PS.join (zW (qt (zX (qT (K:=K) rfl) rfl T.qL TB (zz (pv 5) (zz (qO rfl T.dQ (v:=.ref t.zE) rfl) zq))))
    (zj (za (i:=6) jM.nd rfl (SA rfl) (ze G_v_covered_by hr rfl T.wq.mg T.wq.fn.kp T.wq.bd .nil zJ (zz (pv 5) (zz (pv 1) (zz (pv 2) zq)))))
   (zk (zO (qC SS PySem.F.slot_list_extend PySem.F.type_list_extend V2 (pv 4) (zz (ze G_v_flat_rows hr rfl T.jc.mg T.jc.fn.kp T.jc.bd .nil zJ (zz (zS (K:=K) rfl (pv 5) rfl) (zz (jf hr (pv 1)) (zz (pv 6) (zz (zi qp (pv 3) zx) zq))))) zq))))) (zk (zO (qC SS S9 Tz qk (pv 4) (zz (ze G_v_flat_clause hr rfl T.vg.mg T.vg.fn.kp T.vg.bd .nil zJ (zz (pv 5) (zz (pv 1) (zz (pv 2) (zz (pv 3) zq))))) zq)))))))))))
   (zk (zf (pv 4))))),?_⟩
 have hyl:=hR.len
 have hrl:=fq rows
 refine⟨Tr _,?_⟩
 intro lt H1 s1 hlt e1
 have blt:B lt=none:=sB.free hlt
 show zT 4 (V.ref lt) [some (.ref l),some (.ref q),some (.ref lr),some (.int d),none,none,none] _ _
 have eyl1:=s1 _ _ (sB _ _ eyl)
 refine⟨_,rfl,l,rfl,⟨_,zK.of eyl1⟩,?_⟩
 refine eS (K:=K) (a:=l) (xs:=ys) (λi σ H'=>(∃(rs:List (Addr × Addr)) (f:List Fl) (oi:Ow) (v5 v6:Option V),σ=[some (.ref l),some (.ref q),some (.ref lr),some (.int d),some (.ref lt),v5,v6]∧mz kd (rows.take i) o zb d=some (f,oi)∧zp B H'∧jr t H' q dx pq ka ma (mv kd oi) oi∧H' lt=some (.lst (rs.map λr=>.ref r.1))∧jb H' rs f∧(rs.map (·.2)).Nodup∧(∀r∈rs,B r.1=none∧B r.2=none)∧lt∉rs.map (·.2))∨False)
  (.inl ⟨[],[],o,_,_,rfl,by rw[OA,mz],sB.trans s1,hS.same s1,e1,.nil,Ao,λ_ z=>(by cases z),λz=>(by cases z)⟩) (λi σ H' _ q=>(by obtain⟨_,_,_,_,_,_,_,z,_⟩:=q.resolve_right (λz=>z);exact zK.of (z _ _ eyl))) ?_ ?_
 ·intro i y σ H2 hi q2
  obtain⟨rs,f,oi,v5,v6,rfl,hfi,sB2,hS2,e2,hF2,nd2,fr2,nl2⟩:=q2.resolve_right λz=>z
  clear q2
  obtain⟨r,hr,hRw⟩:=qy.ZP hR hi
  have hk1:=hkk.ZP hr
  obtain⟨qr,hqr,hfs⟩:=Yu hfl hr hfi
  obtain⟨fb,hfa,hda⟩:=QM hr
  have hoi:oi.length≤o.length + (rows.take i).length:=(cV hfi).2
  have hfil:f.length≤(zA (rows.take i)).length:=(cV hfi).1
  have htr:=fq (rows.take i)
  have hfal:=congrArg Nc hfa
  rw[Sl,Sl] at hfal
  have hrl2:=Paired.F2 hF2
  have hRw2:jT t [] H2 r y:=hRw.move (Fm.of sB2) λ_ z=>.inl z
  show zT 5 y [some (.ref l),some (.ref q),some (.ref lr),some (.int d),some (.ref lt),v5,v6] _ _
  refine⟨λσ' H'=>(∃(rs:List (Addr × Addr)) (f:List Fl) (oi:Ow) (v5 v6:Option V),σ'=[some (.ref l),some (.ref q),some (.ref lr),some (.int d),some (.ref lt),v5,v6]∧mz kd (rows.take (i + 1)) o zb d=some (f,oi)∧zp B H'∧jr t H' q dx pq ka ma (mv kd oi) oi∧H' lt=some (.lst (rs.map λr=>.ref r.1))∧jb H' rs f∧(rs.map (·.2)).Nodup∧(∀r∈rs,B r.1=none∧B r.2=none)∧lt∉rs.map (·.2))∨False,?_,λ_ _ z=>z⟩
  cases r with
  | lt a b=>
   unfold jT at hRw2
   obtain⟨p,rfl,_,hL⟩:=hRw2
   rw[Zg] at hqr
   obtain⟨x,hx,hqr⟩:=SJ.mp hqr
   cases hqr
   refine⟨_,rfl,_,_,_,_,rfl,.inr ⟨_,rfl⟩,L7 T hL,T.Xy,_,rfl,?_⟩
   refine cH ?_
   refine⟨_,rfl,q,_,dx,_,rfl,hS2.1,T.qq,Bu,_,Bh T (by omega),?_⟩
   refine⟨_,rfl,_,hL.fn T,_,rfl,_,hL.fv T,kd,q,dx,pq,ka,ma,oi,a,b,x,rfl,hS2,hkm,by omega,hx,λH3 k3 hS3=>?_⟩
   have sB3:zp B H3:=λc u e=>by rw[k3 c (zh e bka) (zh e bma)];exact sB2 c u e
   refine .inl ⟨rs,_,_,_,_,rfl,hfs,sB3,hS3,?_,?_,nd2,fr2,nl2⟩
   ·rw[k3 lt (λz=>by rw[z,hS2.2.1] at e2;cases e2) (λz=>by rw[z,hS2.2.2] at e2;cases e2)]
    exact e2
   ·rw[Tt]
    exact hF2.D8 k3 hS2.2.1 hS2.2.2
  | cl k' l' u a n' r'=>
   unfold jT at hRw2
   obtain⟨p,rfl,_,hC⟩:=hRw2
   rw[di] at hk1
   rw[Zg] at hqr
   obtain⟨x,hx,hqr⟩:=SJ.mp hqr
   cases hqr
   refine⟨_,rfl,_,_,_,_,rfl,.inr ⟨_,rfl⟩,Lw T hC,FZ T hk1,_,rfl,?_⟩
   refine nH ?_
   refine⟨λσ' H'=>(∃(rs:List (Addr × Addr)) (f:List Fl) (oi:Ow) (v5 v6:Option V),σ'=[some (.ref l),some (.ref q),some (.ref lr),some (.int d),some (.ref lt),v5,v6]∧mz kd (rows.take (i + 1)) o zb d=some (f,oi)∧zp B H'∧jr t H' q dx pq ka ma (mv kd oi) oi∧H' lt=some (.lst (rs.map λr=>.ref r.1))∧jb H' rs f∧(rs.map (·.2)).Nodup∧(∀r∈rs,B r.1=none∧B r.2=none)∧lt∉rs.map (·.2))∨False,?_,λ_ _ z=>z⟩
   refine⟨_,rfl,_,_,_,_,rfl,.inr ⟨_,rfl⟩,Lw T hC,FQ T hk1,_,rfl,?_⟩
   refine nH ?_
   refine⟨_,rfl,.inl ⟨rfl,_,zK.of e2⟩,?_⟩
   refine⟨_,rfl,_,rfl,_,rfl,_,rfl,kd,p,q,dx,pq,ka,ma,lr,oi,k',l',u,a,n',r',zb,d,x,rfl,hC,hk1,hS2,sB2 _ _ elr,hx,λp' l2 H3 s3 hp' hl2 e3 e4=>?_⟩
   have e23:=s3 _ _ e2
   refine⟨lt,_,_,rfl,rfl,e23,zg (by rw[Su];omega),?_⟩
   intro H4 k4 e5
   have nl3:lt≠l2:=zh e2 hl2
   have npt:p'≠lt:=λz=>by rw[z,e2] at hp';cases hp'
   have hF3:jb H3 (rs ++ [(p',l2)]) (f ++ [x]):=Paired.Vs (.cons ⟨e3,by
    have:x.zb=zb:=by
     unfold bo at hx
     obtain⟨_,_,hx⟩:=SJ.mp hx
     obtain⟨_,_,hx⟩:=SJ.mp hx
     obtain⟨_,_,hx⟩:=SJ.mp hx
     cases hx
     rfl
    rw[this]
    exact e4⟩ .nil) (hF2.same s3)
   have nl4:lt∉(rs ++ [(p',l2)]).map (·.2):=λz=>by
    rw[SG] at z
    rcases SI.mp z with z | z
    ·exact nl2 z
    ·exact nl3 (SY.mp z)
   refine .inl ⟨rs ++ [(p',l2)],_,_,_,_,rfl,hfs,λc u e=>?_,hS2.same s3 |>.keeps k4 e23,?_,hF3.keeps k4 e23 nl4,?_,?_,nl4⟩
   ·rw[k4 c (zh e blt)]
    exact s3 _ _ (sB2 c u e)
   ·rw[e5,SG]
    rfl
   ·rw[SG]
    refine TU.mpr ⟨nd2,by simp,λa ha b hb z=>?_⟩
    have hb':b=l2:=SY.mp hb
    subst hb'
    subst z
    obtain⟨r0,hr0,rfl⟩:=TY.mp ha
    obtain⟨f0,_,_,g⟩:=hF2.Cz hr0
    rw[hl2] at g
    cases g
   ·intro r0 hr0
    rcases SI.mp hr0 with hr0 | hr0
    ·exact fr2 r0 hr0
    ·rw[SY.mp hr0]
     exact⟨sB2.free hp',sB2.free hl2⟩
  | pt n' rs' rows'=>
   unfold jT at hRw2
   obtain⟨p,dxp,pa,pb,ys',rfl,_,_,_,ep,ea,eb,hRs⟩:=hRw2
   rw[Zg] at hqr
   obtain⟨cv,hcv,hqr⟩:=SJ.mp hqr
   obtain⟨z,hz,hqr⟩:=SJ.mp hqr
   cases hqr
   have tyP:xZ K H2 (.ref p) (.ref t.zE):=xZ.ins ep T.kN T.Vd.1 T.Xe T.Gz T.Vd.2
   refine⟨_,rfl,_,_,_,_,rfl,.inr ⟨_,rfl⟩,tyP,T.Q0,_,rfl,?_⟩
   refine nH ?_
   refine⟨λσ' H'=>(∃(rs:List (Addr × Addr)) (f:List Fl) (oi:Ow) (v5 v6:Option V),σ'=[some (.ref l),some (.ref q),some (.ref lr),some (.int d),some (.ref lt),v5,v6]∧mz kd (rows.take (i + 1)) o zb d=some (f,oi)∧zp B H'∧jr t H' q dx pq ka ma (mv kd oi) oi∧H' lt=some (.lst (rs.map λr=>.ref r.1))∧jb H' rs f∧(rs.map (·.2)).Nodup∧(∀r∈rs,B r.1=none∧B r.2=none)∧lt∉rs.map (·.2))∨False,?_,λ_ _ z=>z⟩
   refine⟨_,rfl,_,_,_,_,rfl,.inr ⟨_,rfl⟩,tyP,T.Zo,_,rfl,?_⟩
   refine cH ?_
   have hpe:(Ew.pt n' rs').ok:=hev _ (by rw[hfa,jY];simp)
   have hsub:∀e∈zA rows',e.ok:=λe he=>hev e (by rw[hfa,jY];simp [he])
   rw[jY,Se,Sl] at hfal
   rw[nz] at hda
   rw[di] at hk1
   refine⟨_,rfl,_,rfl,_,rfl,kd,p,dxp,pa,pb,q,dx,pq,ka,ma,lr,oi,n',rs',zb,cv,rfl,ep,ea,by have:=hpe.2.2;omega,λx hx=>(gp (hpe.2.1 x hx)).ok,hml,hS2,sB2 _ _ elr,hcv,λlc H3 s3 e3=>?_⟩
   have hS3:=hS2.same s3
   have sB3:=sB2.trans s3
   have e23:=s3 _ _ e2
   show zT 6 (V.ref lc) [some (.ref l),some (.ref q),some (.ref lr),some (.int d),some (.ref lt),some (.ref p),v6] _ _
   refine⟨_,rfl,.inl ⟨rfl,_,zK.of e23⟩,?_⟩
   refine⟨_,rfl,_,⟨p,_,dxp,_,rfl,s3 _ _ ep,T.kN,T.gO,(zt λq=>m3 (Nn q)).trans ((zt λq=>m4 (Nn q)).trans zL)⟩,?_⟩
   refine⟨_,rfl,q,_,dx,_,rfl,hS3.1,T.qq,V3,_,VE T (by omega),?_⟩
   refine⟨q,dx,pq,ka,ma,_,_,ps,as,rm0,rw',rfl,hS3,hA.same sB3,hd,λq' dx' ka' ma' H4 s4 hS4 nq nka nma nkm=>?_⟩
   refine⟨_,rfl,_,rfl,_,_,rfl,rfl,?_⟩
   cases n with
   | zero=>omega
   | succ n=>
    refine⟨H3,kd,pb,q',dx',pq,ka',ma',lc,rows',ys',oi,z.2,cv,d + 1,z.1,ps,as,rm0,rw',rfl,s4,s3 _ _ eb,hRs.move (Fm.of s3) (λ_ z=>.inl z),by omega,hk1,hsub,e3,by have:=Zz hcv;omega,hS4,by omega,nkm,nka,nma,hA.same sB3,hd,hz,λl2 H5 rs2 s5 bl2 e5 hF5 nd5 fr5 nl5=>?_⟩
    have e25:=s5 _ _ e23
    have hrl5:=Paired.F2 hF5
    have hzl:=(cV hz).1
    refine⟨lt,l2,_,_,rfl,rfl,e25,e5,zg (by rw[Su,Su];omega),?_⟩
    intro H6 k6 e6
    have hin3:∀r∈rs,(∃u,H3 r.1=some u)∧∃u,H3 r.2=some u:=λr hr=>by
     obtain⟨f0,_,g1,g2⟩:=(hF2.same s3).Cz hr
     exact⟨⟨_,g1⟩,_,g2⟩
    have nl6:lt∉(rs ++ rs2).map (·.2):=λz=>by
     rw[SG] at z
     rcases SI.mp z with z | z
     ·exact nl2 z
     ·obtain⟨r0,hr0,hz0⟩:=TY.mp z
      have:=(fr5 r0 hr0).2
      rw[hz0,e23] at this
      cases this
    refine .inl ⟨rs ++ rs2,_,_,_,_,rfl,hfs,λc u e=>?_,(hS3.same s5).keeps k6 e25,?_,jb.keeps (Paired.Vs hF5 ((hF2.same s3).same s5)) k6 e25 nl6,?_,?_,nl6⟩
    ·rw[k6 c (zh e blt)]
     exact s5 _ _ (sB3 c u e)
    ·rw[e6,SG]
    ·rw[SG]
     refine TU.mpr ⟨nd2,nd5,λa ha b hb z=>?_⟩
     subst z
     obtain⟨r0,hr0,h0⟩:=TY.mp ha
     obtain⟨r1,hr1,h1⟩:=TY.mp hb
     obtain⟨u,hu⟩:=(hin3 r0 hr0).2
     have:=(fr5 r1 hr1).2
     rw[h1,←h0,hu] at this
     cases this
    ·intro r0 hr0
     rcases SI.mp hr0 with hr0 | hr0
     ·exact fr2 r0 hr0
     ·exact⟨sB3.free (fr5 r0 hr0).1,sB3.free (fr5 r0 hr0).2⟩
 intro σ H2 q2
 obtain⟨rs,f,oi,v5,v6,rfl,hfi,sB2,hS2,e2,hF2,nd2,fr2,nl2⟩:=q2.resolve_right λz=>z
 rw[hyl,T7,hfl] at hfi
 cases hfi
 walk_at "rd"
 exact k lt H2 rs sB2 blt e2 hF2 nd2 fr2 nl2
theorem oJ (T:Txt K mg t):zo P w K mg base zC 15 t.xu t.xp ["rows","scope","rooms","depth"] ((BL t) 7):=sZ T 7
def lQ (H:Hp) (a b:Addr):Hp:=λx=>if x=a∨x=b then none else H x
theorem JA {H:Hp} {a b:Addr}:zp (lQ H a b) H:=λx o e=>by
 unfold lQ at e
 split at e
 ·cases e
 ·exact e
theorem Yp {H0 H:Hp} {a b:Addr} (s:zp H0 H) (ha:H0 a=none) (hb:H0 b=none):zp H0 (lQ H a b):=λx o e=>by
 unfold lQ
 rw[if_neg λz=>z.elim (zh e ha) (zh e hb)]
 exact s x o e
theorem Yb {H:Hp} {a b x:Addr} {o:HO} (e:H x=some o) (h1:x≠a) (h2:x≠b):lQ H a b x=some o:=by
 unfold lQ
 rw[if_neg λz=>z.elim h1 h2]
 exact e
def GP (t:z5):Sp:=λvs H Q _=>∃(pq:Addr) (ps as:List Str) (zb:List (Str × Str)) (rows:List Rw) (fls:List Fl) (o2:Ow),vs=[.ref pq]∧va t H pq ps as zb (.pt "whole" [] rows)∧Ql ps as zb∧vT rows≤6∧vY rows∧(∀e∈zA rows,e.ok)∧(zA rows).length≤160∧mz (xS ps as zb) rows (yw (j9 ps as zb)) (zb.map (·.2)) 0=some (fls,o2)∧
 ∀lt H' rs,zp H H'→H lt=none→H' lt=some (.lst (rs.map λr:Addr × Addr=>.ref r.1))→jb H' rs fls→(rs.map (·.2)).Nodup→(∀r∈rs,H r.1=none∧H r.2=none)→lt∉rs.map (·.2)→Q (.ref lt) H'
theorem LQ {a b c:Addr} {x:V}:(Px a b c x).lookup ("whole" : Str)=some x:=(zt λq=>a3 (Nn q)).trans ((zt λq=>a5 (Nn q)).trans ((zt λq=>a6 (Nn q)).trans zL))
theorem Wr:zd ["pact"] ["pact"] (zy oR):=by walk_at "sc"
theorem V7 (T:Txt K mg t):zo P w K mg base zC 16 t.nh t.tS ["pact"] (GP t):=by
 have G_v_flat_rows:zo P w K mg base zC 15 t.xu t.xp ["rows","scope","rooms","depth"] ((BL t) 7):=(oJ T).mono (by decide)
 have M_Scope_init:zo P w K mg base zC 14 t.kz t.vS ["self","pact"] (GU t):=(mV T).mono (by decide)
 refine T.d9.fn.ok Wr (by walk_at "ln") ?_;walk_at "hd"
 obtain⟨pq,ps,as,zb,rows,fls,o2,rfl,hA,hd,hdp,hk,hev,hfl,hF,k⟩:=h
 refine⟨_,(zk (zf (ze G_v_flat_rows hr rfl T.jc.mg T.jc.fn.kp T.jc.bd .nil zJ (zz (zS (K:=K) rfl (zS (K:=K) rfl (pv 0) rfl) rfl) (zz (qP T.Jq M_Scope_init hr rfl T.K3 T.mE.bd .nil zJ (zz (pv 0) zq)) (zz (wg (osc:=zy oR) (N:=["pact"]) (xs:=["mark","name"]) (names:=[]) (zU:=[]) rfl rfl rfl ⟨rfl,by decide +kernel,by decide +kernel,by decide +kernel,by decide +kernel,rfl,by decide +kernel,by decide +kernel⟩ (qf (K:=K) rfl (zS (K:=K) rfl (pv 0) rfl)) (λ_ _ _=>(vI (K:=K) (n:=2) rfl rfl (qu (zM (i:=0) (show (["mark","name"]:List Str).Nodup from by decide +kernel) rfl (.inl (yy rfl)) (.inr (yy rfl))) (qu (zM (i:=1) (show (["mark","name"]:List Str).Nodup from by decide +kernel) rfl (.inl (yy rfl)) (.inr (yy rfl))) vE)) rfl rfl)) (λ_ _ _=>sL) (λ_ _ _=>(pv 1))) (zz zx zq))))))),?_⟩
 have r2:=hd.r2
 obtain⟨dxp,lp,la,lr,xw,vs,epq,elp,ela,elr,hR,hW⟩:=id hA
 have hvl:vs.length=zb.length:=TF hR
 unfold jT at hW
 obtain⟨pw,dxw,wa,wb,ys,rfl,_,_,_,epw,ewa,ewb,hRs⟩:=hW
 refine⟨_,rfl,_,⟨pq,_,dxp,_,rfl,epq,T.vR,T.mQ,LQ⟩,_,⟨pw,_,dxw,_,rfl,epw,T.kN,T.gO,(zt λq=>m3 (Nn q)).trans ((zt λq=>m4 (Nn q)).trans zL)⟩,?_⟩
 refine⟨_,rfl,?_⟩
 intro q dx hq hdx hne
 have sM:=jA (o:=HO.own q) (o2:=HO.ins t.zV dx []) hq hdx
 refine⟨q,dx,pq,ps,as,zb,_,rfl,zm,hA.same sM,hd,λH1 ka ma o1 hS1 n1 n2 hkm=>⟨rfl,?_⟩⟩
 have s1:zp H H1:=gh hq hdx o1
 have n1':=sM.free n1
 have n2':=sM.free n2
 have elr1:=s1 _ _ elr
 have hR1:Paired (xq H1) vs zb:=Paired.imp' (λ_ _ z=>z.same s1) hR
 refine⟨_,rfl,_,⟨pq,_,dxp,_,rfl,s1 _ _ epq,T.vR,T.yT,RG⟩,lr,rfl,⟨_,zK.of elr1⟩,?_⟩
 refine uG (xC (zK.of elr1)) (JD H1) (Qp H1) (λy v=>∀p m n,y=V.ref p→H1 p=some (.tup [.str m,.str n])→v=V.str n) (zg (by omega)) ?_ ?_ ?_
 ·intro j y ts H' K' hy hts s' k'
  obtain⟨mn,_,p',rfl,ep⟩:=Paired.Xr hR1 (SN hy)
  have et:JD H1 (.ref p')=[some (.str mn.1),some (.str mn.2)]:=by unfold JD;simp only[ep]
  rw[et] at k'
  match ts,hts with
  | [t1,t2],_=>exact⟨p',_,rfl,jo.of (s' _ _ ep),rfl,_,_,rfl,_,_,rfl,rfl,k'⟩
 ·intro j y H' Q' hy s' kk
  obtain⟨mn,_,p',rfl,ep⟩:=Paired.Xr hR1 (SN hy)
  have et:JD H1 (.ref p')=[some (.str mn.1),some (.str mn.2)]:=by unfold JD;simp only[ep]
  rw[et]
  refine⟨_,rfl,kk _ _ (zp.refl _) λp2 m2 n2 e q=>?_⟩
  cases e
  rw[ep] at q
  cases q
  rfl
 intro D H2 ys2 s2 hD e2 hPr
 rw[hV hR1 hPr] at e2
 have hS2:=hS1.same s2
 have sH2:=s1.trans s2
 have sB:zp H (lQ H2 ka ma):=Yp sH2 n1' n2'
 have hk0:=Zs hd
 have hol:(yw (j9 ps as zb)).length=(j9 ps as zb).length:=Su ..
 have hmv:=Bm hd
 have hS3:jr t H2 q dx pq ka ma (mv (xS ps as zb) (yw (j9 ps as zb))) (yw (j9 ps as zb)):=by rw[hmv];exact hS2
 refine⟨lQ H2 ka ma,xS ps as zb,wb,q,dx,pq,ka,ma,D,rows,ys,yw (j9 ps as zb),o2,zb.map (·.2),0,fls,ps,as,zb,_,rfl,JA,sB _ _ ewb,hRs.move (Fm.of sB) (λ_ z=>.inl z),by omega,hk,hev,Yb e2 (zh hS1.2.1 hD).symm (zh hS1.2.2 hD).symm,by rw[Su];omega,hS3,by omega,hkm,if_pos (.inl rfl),if_pos (.inr rfl),hA.same sB,hd,hF,λlt H' rs s' blt e' hF' nd fr nl=>?_⟩
 exact k lt H' rs (sB.trans s') (sB.free blt) e' hF' nd (λr hr=>⟨sB.free (fr r hr).1,sB.free (fr r hr).2⟩) nl
def Ew.Qs:Ew→Option (Int × Str × Str × Str × Int × Str)
 | .mu l u a n r=>some (0,l,u,a,n,r)
 | .my l u a=>some (1,l,u,a,0,"")
 | .bn l u a r=>some (2,l,u,a,0,r)
 | .pw l u a r=>some (3,l,u,a,0,r)
 | _=>none
def Ho (kd:Str→Str) (e:Ew):List (Ow × List Str)→Option (List Fl × List (Ow × List Str))
 | []=>none
 | (o,zb) :: st=>match e with
  | .lt a b=>(lk o b).bind λx=>some ([],(pu o a x,zb) :: st)
  | .pt _ rs=>(pz kd o rs zb).bind λcv=>some ([],(o,cv) :: (o,zb) :: st)
  | .dn=>if st=[] then none else some ([],st)
  | e=>e.Qs.bind λc=>(bo kd o c.1 c.2.1 c.2.2.1 c.2.2.2.1 c.2.2.2.2.1 c.2.2.2.2.2 zb st.length).bind λf=>some ([f],(o,zb) :: st)
def xR (kd:Str→Str):List Ew→List (Ow × List Str)→Option (List Fl × List (Ow × List Str))
 | [],st=>some ([],st)
 | e :: es,st=>(Ho kd e st).bind λp=>(xR kd es p.2).bind λq=>some (p.1 ++ q.1,q.2)
theorem fk (kd:Str→Str) (bs:List Ew):∀(as:List Ew) (st:List (Ow × List Str)),xR kd (as ++ bs) st=(xR kd as st).bind λp=>(xR kd bs p.2).bind λq=>some (p.1 ++ q.1,q.2)
 | [],st=>by
  rw[Ta,xR,Sa]
  cases xR kd bs st with
  | none=>rfl
  | some q=>rfl
 | e :: as,st=>by
  rw[T8,xR,xR]
  cases Ho kd e st with
  | none=>rfl
  | some p=>
   rw[Sa,Sa,fk kd bs as p.2]
   cases xR kd as p.2 with
   | none=>rfl
   | some q=>
    rw[Sa,Sa,Sa]
    cases xR kd bs q.2 with
    | none=>rfl
    | some z=>rw[Sa,Sa,Sa,TC]
theorem yx (kd:Str→Str) (e:Ew) (st:List (Ow × List Str)):xR kd [e] st=Ho kd e st:=by
 rw[xR]
 cases Ho kd e st with
 | none=>rfl
 | some p=>rw[Sa,xR,Sa,Tt]
theorem Kl {kd:Str→Str} {o:Ow} {k:Int} {l u a:Str} {n:Int} {r:Str} {zb:List Str} {d:Int} (h1:k≠0):bo kd o k l u a n r zb d=bo kd o k l u a 0 r zb d:=by
 unfold bo Y6
 simp only[if_neg h1]
theorem HG {kd:Str→Str} {o:Ow} {l u a:Str} {n:Int} {r:Str} {zb:List Str} {d:Int}:bo kd o 1 l u a n r zb d=bo kd o 1 l u a 0 "" zb d:=by
 unfold bo Y6 rj
 rfl
mutual
theorem BM (kd:Str→Str):∀(r:Rw),di r→∀(o:Ow) (zb:List Str) (st:List (Ow × List Str)),xR kd (jY r) ((o,zb) :: st)=(Zg kd r o zb st.length).bind λp=>some (p.1,(p.2,zb) :: st)
 | .lt a b,_,o,zb,st=>by
  rw[jY,yx,Zg]
  show (lk o b).bind _=_
  cases lk o b<;>rfl
 | .cl k l u a n r,hk,o,zb,st=>by
  rw[di] at hk
  rw[Zg]
  rcases hk with rfl | rfl | rfl | rfl
  ·rw[jY,if_pos rfl,yx]
   show (bo kd o 0 l u a n r zb st.length).bind (λf=>some ([f],(o,zb) :: st))=_
   cases bo kd o 0 l u a n r zb st.length<;>rfl
  ·rw[jY,if_neg (by decide),if_pos rfl,yx]
   show (bo kd o 1 l u a 0 "" zb st.length).bind (λf=>some ([f],(o,zb) :: st))=_
   rw[HG (n:=n) (r:=r)]
   cases bo kd o 1 l u a 0 "" zb st.length<;>rfl
  ·rw[jY,if_neg (by decide),if_neg (by decide),if_pos rfl,yx]
   show (bo kd o 2 l u a 0 r zb st.length).bind (λf=>some ([f],(o,zb) :: st))=_
   rw[Kl (n:=n) (by decide)]
   cases bo kd o 2 l u a 0 r zb st.length<;>rfl
  ·rw[jY,if_neg (by decide),if_neg (by decide),if_neg (by decide),yx]
   show (bo kd o 3 l u a 0 r zb st.length).bind (λf=>some ([f],(o,zb) :: st))=_
   rw[Kl (n:=n) (by decide)]
   cases bo kd o 3 l u a 0 r zb st.length<;>rfl
 | .pt n rs rows,hk,o,zb,st=>by
  rw[di] at hk
  rw[jY,xR,Zg]
  show Ea ((pz kd o rs zb).bind _) _=_
  cases pz kd o rs zb with
  | none=>rfl
  | some cv=>
   rw[Sa,Sa,fk,Z3 kd rows hk o cv ((o,zb) :: st)]
   rw[show (((o,zb) :: st).length:Int)=(st.length:Int) + 1 by rw[Se];omega,Sa]
   cases mz kd rows o cv ((st.length:Int) + 1) with
   | none=>rfl
   | some p=>
    rw[Sa,Sa,yx]
    show Ea (Ea (if (o,zb) :: st=[] then none else some ([],(o,zb) :: st)) _) _=_
    rw[if_neg (by simp),Sa,Sa,Sa,Sa]
    simp
theorem Z3 (kd:Str→Str):∀(rows:List Rw),vY rows→∀(o:Ow) (zb:List Str) (st:List (Ow × List Str)),xR kd (zA rows) ((o,zb) :: st)=(mz kd rows o zb st.length).bind λp=>some (p.1,(p.2,zb) :: st)
 | [],_,o,zb,st=>by rw[zA,xR,mz];rfl
 | r :: rs,hk,o,zb,st=>by
  rw[vY] at hk
  rw[zA,fk,BM kd r hk.1 o zb st,mz]
  cases Zg kd r o zb st.length with
  | none=>rfl
  | some p=>
   rw[Sa,Sa,Sa,Z3 kd rs hk.2 p.2 zb st]
   cases mz kd rs p.2 zb st.length with
   | none=>rfl
   | some q=>rfl
end
def lN (kd:Str→Str) (K0 o:Ow):Prop:=∀z b,lk o z=some b→lk K0 b=some (kd b)∧zZ b=true
def Gv (kd:Str→Str) (o:Ow) (ws:List Str):V→Bool
 | .str z=>match lk o z with
  | some b=>decide (kd b∈ws)
  | none=>false
 | _=>false
theorem XF {kd:Str→Str} {o:Ow} {ws:List Str} {z b:Str} (hb:lk o z=some b):Gv kd o ws (.str z)=decide (kd b∈ws):=by
 show (match lk o z with | some b=>decide (kd b∈ws) | none=>false)=_
 rw[hb]
def DG (kd:Str→Str) (o:Ow) (ws:List Str) (x:Str):Prop:=(x = ""∧∀z b,lk o z=some b→kd b∉ws)∨(zZ x=true∧∃b,lk o x=some b∧kd b∈ws)
def Qg (K:Sd):Sp:=λvs H Q _=>∃(p d tw:Addr) (c:Int) (ps as:List Str) (zb:List (Str × Str)) (o:Ow) (ws:List Str) (num:Int),vs=[.ref p,.ref d,.ref tw,.int num]∧mO H p c ps as zb∧Ql ps as zb∧H d=some (.dK (dS o))∧jo K H tw (ws.map V.str)∧lN (xS ps as zb) (j9 ps as zb) o∧(∀q∈o,zZ q.1=true)∧o.length≤100∧0≤num∧∀x H',zp H H'→DG (xS ps as zb) o ws x→Q (.str x) H'
theorem Xp {o:Ow} {p:Str × Str} (h:p∈o):∃b,lk o p.1=some b:=by
 unfold lk
 cases q:o.find? λx=>decide (x.1=p.1) with
 | some y=>exact⟨_,rfl⟩
 | none=>
  have:=List.find?_eq_none.mp q p h
  simp at this
theorem FK {o:Ow} {i:Nat} {y:V} (h:((dS o).map λkv=>kV kv.1)[i]?=some y):∃p∈o,y=.str p.1:=by
 unfold dS at h
 rw[NH,SW] at h
 cases q:o[i]? with
 | none=>rw[q] at h;cases h
 | some p=>rw[q] at h;exact⟨p,SN q,(Tq h).symm⟩
theorem HE {H H1 H2:Hp} {d:Addr} {od:Obj} {kvs:List (Key × V)} (e:H d=some (.dK kvs)) (s1:zp H H1) (s2:zp (upd H1 d (.frz od (.dK kvs))) H2):zp H (upd H2 d (.dK kvs)):=λb u q=>by
 by_cases hb:b=d
 ·subst hb
  rw[e] at q
  cases q
  exact zm
 ·rw[zG hb]
  exact s2 b u (by rw[zG hb];exact s1 b u q)
theorem rM:zd ["_law_header_here","_law_scope_here","_law_wanted","_law_number","_law_kinds_here","_law_fit"] ["_law_header_here","_law_scope_here","_law_wanted","_law_number"] (zy oA):=by walk_at "sc"
theorem rK (T:Txt K mg t):zo P w K mg base zC 2 t.pP t.pJ ["_law_header_here","_law_scope_here","_law_wanted","_law_number"] (Qg K):=by
 have G_w_kinds:zo P w K mg base zC 1 t.gx t.gj ["_law_header_here"] Vw:=(dM T).mono (by decide)
 refine T.xg.fn.ok rM (by walk_at "ln") ?_;walk_at "hd"
 obtain⟨p,d,tw,c,ps,as,zb,o,ws,num,rfl,hH,hd,ed,hT,hB,hnm,hol,hn,k⟩:=h
 refine⟨_,(zj (za (i:=4) rM.nd rfl (Af rfl) (ze G_w_kinds hr rfl T.vb.mg T.vb.fn.kp T.vb.bd .nil zJ (zz (pv 0) zq)))
   (zj (BK (ez (i:=5) (osc:=zy oA) (N:=["_law_header_here","_law_scope_here","_law_wanted","_law_number","_law_kinds_here","_law_fit"]) (xs:=["_law_name"]) (names:=["_law_wanted","_law_kinds_here","_law_scope_here"]) (zU:=[2,4,1]) rfl rfl rfl rM.nd ⟨rfl,by decide +kernel,by decide +kernel,by decide +kernel,by decide +kernel,rfl,by decide +kernel,by decide +kernel⟩ rfl rfl (BQ (pv 1)) (λ_ _ _=>(zM (i:=0) (show (["_law_name","_law_wanted","_law_kinds_here","_law_scope_here"]:List Str).Nodup from by decide +kernel) rfl (.inl (yy rfl)) (.inr (yy rfl)))) (λ_ _ _=>(ZE (zc (oV (K:=K) rfl) (qB (qi hr) (pv 2) (qB (qi hr) (pv 3) (pv 0) (λ_ _=>rfl)) (λ_ _=>rfl)) (pv 1) rfl))) (λ_ _ _=>(pv 0))))
   (zj (zW (zc (fP (K:=K) rfl hr.units) (pv 5) (zP zq) (zQ _))
    (zk (zf zw)) zr)
   (zk (zf (zu (zv (K:=K) rfl) (pv 5) (zi z7 (pv 3) (zX (zH (K:=K) rfl) rfl T.qo S5 (zz (pv 5) zq))) (λ_ _=>rfl))))))),?_⟩
 refine⟨_,rfl,p,c,ps,as,zb,rfl,hH,hd,λd0 H1 s1 hd0 e0=>?_⟩
 have ed1:=s1 _ _ ed
 have hne:d0≠d:=(zh ed hd0).symm
 show zT 4 (V.ref d0) [some (.ref p),some (.ref d),some (.ref tw),some (.int num),none,none] _ _
 refine⟨_,rfl,d,_,rfl,ed1,λod=>?_⟩
 generalize hHF:upd H1 d (.frz od (.dK (dS o)))=HF
 have ef:HF d=some (.frz od (.dK (dS o))):=by rw[←hHF];exact zm
 have e0f:HF d0=some (.dK (dS (j9 ps as zb))):=by rw[←hHF,zG hne];exact e0
 have hTf:jo K HF tw (ws.map V.str):=by
  rcases s1.CH hT with (h | ⟨oo,h⟩) | h
  ·exact .inl (.inl (by rw[←hHF,zG λz=>by rw[z,ed1] at h;cases h];exact h))
  ·exact .inl (.inr ⟨oo,by rw[←hHF,zG λz=>by rw[z,ed1] at h;cases h];exact h⟩)
  ·exact .inr h
 show tK _ _ _ _ _ _ [some (.ref p),some (.ref d),some (.ref tw),some (.int num),some (.ref d0),none] _ _
 refine a9 (Ws ef) (Gv (xS ps as zb) o ws) (λy v=>v=y) (zg (by rw[Su,wZ];omega)) ?_ ?_ ?_
 ·intro i y H' Q' hy s' k'
  obtain⟨q,hq,rfl⟩:=FK hy
  obtain⟨b,hb⟩:=Xp hq
  obtain⟨hk0,hnb⟩:=hB q.1 b hb
  have g1:jS H' d (kV (.inr q.1)) (some (V.str b)):=by
   have:jS H' d (kV (.inr q.1)) (xy (dS o) (.inr q.1)):=.inl ⟨_,_,.inr ⟨od,s' _ _ ef⟩,rfl,rfl⟩
   rw[kR,hb] at this
   exact this
  have g0:jS H' d0 (kV (.inr b)) (some (V.str (xS ps as zb b))):=by
   have:=jS.k (k:=.inr b) (s' _ _ e0f)
   rw[kR,hk0] at this
   exact this
  rw[XF hb,←vw] at k'
  refine⟨_,rfl,_,rfl,_,rfl,d,_,rfl,g1,d0,_,rfl,g0,_,rfl,tw,_,rfl,.inr (s'.CH hTf),rfl,xU ws,_,rfl,?_⟩
  exact k' _ (zp.refl _)
 ·intro i y H' Q' hy _ s' k'
  exact⟨_,rfl,k' _ _ (zp.refl _) rfl⟩
 intro D H2 ys s2 hD e2 hP
 obtain rfl:=rW hP
 obtain⟨zs,hzs,hzp,hz0'⟩:∃zs:List Str,(((dS o).map λkv=>kV kv.1).filter (Gv (xS ps as zb) o ws))=zs.map V.str∧(∀z∈zs,zZ z=true∧∃b,lk o z=some b∧xS ps as zb b∈ws)∧(zs=[]→∀z b,lk o z=some b→xS ps as zb b∉ws):=by
  refine⟨(o.map (·.1)).filter λz=>Gv (xS ps as zb) o ws (.str z),?_,λz hz=>?_,λhz z b hb hin=>?_⟩
  ·unfold dS
   rw[NH]
   have:∀l:Ow,(l.map ((λkv:Key × V=>kV kv.1) ∘ λp:Str × Str=>((Ih p.1:Key),V.str p.2))).filter (Gv (xS ps as zb) o ws)=((l.map (·.1)).filter λz=>Gv (xS ps as zb) o ws (.str z)).map V.str:=λl=>by
    induction l with
    | nil=>rfl
    | cons x l ih=>
     rw[SE,SE,Oe,Oe,ih]
     show (if Gv (xS ps as zb) o ws (.str x.1)=true then _ else _)=_
     split
     ·rfl
     ·rfl
   exact this o
  ·obtain⟨h1,h2⟩:=Iq.mp hz
   obtain⟨q,hq,rfl⟩:=TY.mp h1
   obtain⟨b,hb⟩:=Xp hq
   refine⟨hnm q hq,b,hb,?_⟩
   have h3:Gv (xS ps as zb) o ws (.str q.1)=true:=h2
   rw[XF hb] at h3
   exact zjj h3
  ·have hm:z∈(o.map (·.1)).filter λz=>Gv (xS ps as zb) o ws (.str z):=Iq.mpr ⟨TL (KA hb),by show Gv (xS ps as zb) o ws (.str z)=true;rw[XF hb];exact zjx hin⟩
   rw[hz] at hm
   cases hm
 have hzl:zs.length≤100:=by
  have:=congrArg Nc hzs
  rw[Su] at this
  have h2:=Io (Gv (xS ps as zb) o ws) ((dS o).map λkv=>kV kv.1)
  rw[Su,wZ] at h2
  omega
 rw[hzs] at e2
 rw[←hHF] at s2
 have sH:zp H (upd H2 d (.dK (dS o))):=HE ed s1 s2
 have hDd:D≠d:=λz=>by rw[z,ef] at hD;cases hD
 have e3:upd H2 d (.dK (dS o)) D=some (.lst (zs.map V.str)):=by rw[zG hDd];exact e2
 show zT 5 (V.ref D) [some (.ref p),some (.ref d),some (.ref tw),some (.int num),some (.ref d0),none] _ _
 refine⟨d,od,_,s2 _ _ zm,λoo x z=>?_,?_⟩
 ·have z':H d=some (.frz oo x):=z
  rw[ed] at z'
  cases z'
 generalize upd H2 d (.dK (dS o))=H3 at sH e3
 refine⟨_,rfl,Tr _,?_⟩
 intro l0 H4 s4 hl0 e4
 have sh1:T6 (.list (zs.map Nz))=true:=qV λz hz=>(gp (hzp z hz).1).ok
 have sh2:T6 (.list (([]:List Str).map Nz))=true:=qV λx hx=>by cases hx
 have e34:=s4 _ _ e3
 refine⟨_,_,cq.lst (zK.of e34) (vf.strs _),cq.lst (zK.of e4) (vf.strs []),sh1,sh2,?_⟩
 rw[pV]
 walk_at "rd"
 refine zD (λh1=>?_) (λh1=>?_)
 ·walk_at "rd"
  exact k _ H4 (sH.trans s4) (.inl ⟨rfl,hz0' (zjj h1)⟩)
 ·have hz0:0 < zs.length:=IL.mpr λz=>h1 (zjx z)
  have v0:0≤num % (zs.length:Int):=Ts _ (by omega)
  have v1:num % (zs.length:Int) < (zs.length:Int):=Tp _ (by omega)
  refine⟨_,rfl,_,rfl,_,rfl,D,_,rfl,.inl (zK.of e34),?_⟩
  rw[Su]
  refine⟨_,_,rfl,rfl,(show (0:Int) < (zs.length:Int) by omega),D,_,_,_,rfl,rfl,zK.of e34,bA v0 v1,?_⟩
  refine k _ H4 (sH.trans s4) (.inr (hzp _ ?_))
  rw[Tx,Sn (show (num % (zs.length:Int)).toNat < zs.length by omega)]
  exact N4 _
def Ll (kd:Str→Str) (o:Ow) (lb:Str) (e:Ew):Prop:=e.ok∧yL e=[lb]∧∃c,e.Qs=some c∧∀zb d,∃f,bo kd o c.1 c.2.1 c.2.2.1 c.2.2.2.1 c.2.2.2.2.1 c.2.2.2.2.2 zb d=some f
def PJ (K:Sd):Sp:=λvs H Q _=>∃(p d lx:Addr) (c:Int) (ps as:List Str) (zb:List (Str × Str)) (o:Ow) (lb:Str) (xs:List Int),vs=[.ref p,.ref d,.str lb,.ref lx]∧mO H p c ps as zb∧Ql ps as zb∧H d=some (.dK (dS o))∧lN (xS ps as zb) (j9 ps as zb) o∧(∀q∈o,zZ q.1=true)∧o.length≤100∧zZ lb=true∧H lx=some (.lst (xs.map V.int))∧xs.length=6∧(∀x∈xs,0≤x∧x < 429496730)∧
 ∀l H' ws,zp H H'→H l=none→H' l=some (.lst (ws.map V.str))→(ws=[]∨∃e,ws=e.ws∧Ll (xS ps as zb) o lb e)→Q (.ref l) H'
def rD:List Str:=["must","may","ban","power","must","power","ban"]
def RA (s:Str):Prop:=s = "must"∨s = "may"∨s = "ban"∨s = "power"
theorem GW:∀j < 7,rD.getD j "" = "must"∨rD.getD j "" = "may"∨rD.getD j "" = "ban"∨rD.getD j "" = "power":=by decide +kernel
theorem cP:("must" : Str)≠"may"∧("must" : Str)≠"ban"∧("must" : Str)≠"power"∧("may" : Str)≠"ban"∧("may" : Str)≠"power"∧("ban" : Str)≠"power":=by decide +kernel
theorem Q5 {kd:Str→Str} {o:Ow} {ws:List Str} {z b:Str} (h:lk o z=some b) (hb:kd b∈ws):mA kd o ws z=.told b:=by
 unfold mA
 rw[h]
 exact if_pos hb
theorem UX {kd:Str→Str} {o:Ow} {z:Str} (h:z = "any"∨∃b,lk o z=some b∧kd b∈(["party"]:List Str)):∃b,jK (bE kd o 0 z)=some b:=by
 by_cases hz:z = "any"
 ·refine⟨"any",?_⟩
  show jK (if z = "any" then .told "any" else mA kd o ["party"] z)=_
  rw[if_pos hz]
  rfl
 ·obtain⟨b,h1,h2⟩:=h.resolve_left hz
  refine⟨b,?_⟩
  show jK (if z = "any" then .told "any" else mA kd o ["party"] z)=_
  rw[if_neg hz,Q5 h1 h2]
  rfl
theorem UK {kd:Str→Str} {o:Ow} {z:Str} (h:∃b,lk o z=some b∧kd b∈(["act"]:List Str)):∃b,jK (bE kd o 1 z)=some b:=by
 obtain⟨b,h1,h2⟩:=h
 exact⟨b,by show jK (mA kd o ["act"] z)=_;rw[Q5 h1 h2];rfl⟩
theorem UD {kd:Str→Str} {o:Ow} {z:Str} (h:∃b,lk o z=some b∧kd b∈(["calm","sore","end"]:List Str)):∃b,jK (rj kd o 3 z)=some b:=by
 obtain⟨b,h1,h2⟩:=h
 exact⟨b,by show jK (mA kd o zF z)=_;rw[Q5 (ws:=zF) h1 h2];rfl⟩
theorem Ph {kd:Str→Str} {o:Ow} {z:Str} {k:Int} (hk:k=0∨k=2) (h:∃b,lk o z=some b∧kd b∈(["sore","end"]:List Str)):∃b,jK (rj kd o k z)=some b:=by
 obtain⟨b,h1,h2⟩:=h
 have hm:kd b∈zF:=SV _ h2
 have hc:¬kd b = "calm":=λq=>by
  rw[q] at h2
  exact absurd h2 (by decide +kernel)
 have e:fA kd (mA kd o zF z)=.told b:=by rw[Q5 h1 hm];exact if_neg hc
 refine⟨b,?_⟩
 have:rj kd o k z=fA kd (mA kd o zF z):=by
  unfold rj
  rcases hk with rfl | rfl
  ·rw[if_neg (by decide),if_neg (by decide)];rfl
  ·rw[if_neg (by decide),if_neg (by decide)];rfl
 rw[this,e]
 rfl
theorem cg {kd:Str→Str} {o:Ow} {k:Int} {l u a:Str} {n:Int} {r:Str} (h0:∃b,jK (bE kd o 0 u)=some b) (h1:∃b,jK (bE kd o 1 a)=some b) (h2:∃b,jK (rj kd o k r)=some b):∀(zb:List Str) (d:Int),∃f,bo kd o k l u a n r zb d=some f:=λzb d=>by
 obtain⟨x,h0⟩:=h0
 obtain⟨y,h1⟩:=h1
 obtain⟨z,h2⟩:=h2
 unfold bo
 rw[h0,Sa,h1,Sa,h2,Sa]
 exact⟨_,rfl⟩
theorem qA:zd ["_law_header_here","_law_scope_here","_law_label","_law_xs","_law_sort","_law_who","_law_act","_law_wanted","_law_room","_law_many"] ["_law_header_here","_law_scope_here","_law_label","_law_xs"] (zy oN):=by walk_at "sc"
theorem Jh (T:Txt K mg t):zo P w K mg base zC 3 t.dh t.m9 ["_law_header_here","_law_scope_here","_law_label","_law_xs"] (PJ K):=by
 have G_w_pick:zo P w K mg base zC 2 t.pP t.pJ ["_law_header_here","_law_scope_here","_law_wanted","_law_number"] (Qg K):=(rK T).mono (by decide)
 refine T.ua.fn.ok qA (by walk_at "ln") ?_;walk_at "hd"
 obtain⟨p,d,lx,c,ps,as,zb,o,lb,xs,rfl,hH,hd,ed,hB,hnm,hol,hlb,ex,hxl,hxb,k⟩:=h
 refine⟨_,(zj (za (i:=4) qA.nd rfl (SA rfl) (zu (zv (K:=K) rfl) (zP (zz zw (zz zw (zz zw (zz zw (zz zw (zz zw (zz zw zq)))))))) (zi z7 (zi qQ (zu (zv (K:=K) rfl) (pv 3) zx (λ_ _=>rfl)) zx) zx) (λ_ _=>rfl)))
   (zj (za (i:=5) qA.nd rfl (SA rfl) (ze G_w_pick hr rfl T.xg.mg T.xg.fn.kp T.xg.bd .nil zJ (zz (pv 0) (zz (pv 1) (zz (qx (zz zw zq)) (zz (zu (zv (K:=K) rfl) (pv 3) zx (λ_ _=>rfl)) zq))))))
   (zj (PS.join (zW (PW.pt (yO (zc cE (pv 4) zw (zQ _)) (vA (zc qj (zi z7 (zi qQ (zu (zv (K:=K) rfl) (pv 3) zx (λ_ _=>rfl)) zx) zx) zx (zQ _)))))
    (zk (za (i:=5) qA.nd rfl (SA rfl) zw)) zr))
   (zj (za (i:=6) qA.nd rfl (SA rfl) (ze G_w_pick hr rfl T.xg.mg T.xg.fn.kp T.xg.bd .nil zJ (zz (pv 0) (zz (pv 1) (zz (qx (zz zw zq)) (zz (zu (zv (K:=K) rfl) (pv 3) zx (λ_ _=>rfl)) zq))))))
   (zj (za (i:=7) qA.nd rfl (SA rfl) (qx (zz zw (zz zw zq))))
   (zj (PS.join (zW (zc qj (pv 4) zw (zQ _))
    (zk (za (i:=7) qA.nd rfl (SA rfl) (qx (zz zw (zz zw (zz zw zq)))))) zr))
   (zj (za (i:=8) qA.nd rfl (SA rfl) (ze G_w_pick hr rfl T.xg.mg T.xg.fn.kp T.xg.bd .nil zJ (zz (pv 0) (zz (pv 1) (zz (pv 7) (zz (zu (zv (K:=K) rfl) (pv 3) zx (λ_ _=>rfl)) zq))))))
   (zj (zW (PW.pt (vF (zc qj (pv 5) zw (zQ _)) (vF (zc qj (pv 6) zw (zQ _)) (kM (PW.pt (yO (zc qj (pv 8) zw (zQ _)) (vA (zc cE (pv 4) zw (zQ _)))))))))
    (zk (zf (zP zq))) zr)
   (zj (za (i:=9) qA.nd rfl (SA rfl) (zi qp zx (zi z7 (zu (zv (K:=K) rfl) (pv 3) zx (λ_ _=>rfl)) zx)))
   (zj (PS.join (zW (zc qj (zi z7 (zi qQ (zu (zv (K:=K) rfl) (pv 3) zx (λ_ _=>rfl)) zx) zx) zx (zQ _))
    (zk (za (i:=9) qA.nd rfl (SA rfl) (zi qp zx (zi z7 (zi kh (zi kh (zu (zv (K:=K) rfl) (pv 3) zx (λ_ _=>rfl)) (zu (zv (K:=K) rfl) (pv 3) zx (λ_ _=>rfl))) (zu (zv (K:=K) rfl) (pv 3) zx (λ_ _=>rfl))) (zi dD (zi Mc zx zx) zx))))) zr))
   (zj (zW (zc qj (pv 4) zw (zQ _))
    (zk (zf (zP (zz (pv 2) (zz (pv 5) (zz zw (zz (pv 6) (zz zw (zz (qz aO rfl T.Pq Ah (zz (pv 9) zq)) (zz zw (zz (pv 8) zq))))))))))) zr)
   (zj (zW (zc qj (pv 4) zw (zQ _))
    (zk (zf (zP (zz (pv 2) (zz (pv 5) (zz zw (zz zw (zz (pv 6) (zz zw (zz (pv 8) zq)))))))))) zr)
   (zj (zW (zc qj (pv 4) zw (zQ _))
    (zk (zf (zP (zz (pv 2) (zz (pv 5) (zz zw (zz (pv 6) (zz zw (zz (pv 8) zq))))))))) zr)
   (zk (zf (zP (zz (pv 2) (zz (pv 5) (zz zw (zz (pv 6) zq)))))))))))))))))))),?_⟩
 have b0:=kH (j:=Nq 0) 0 hxb (by omega)
 have b1:=kH (j:=Nq 1) 0 hxb (by omega)
 have b2:=kH (j:=Nq 2) 0 hxb (by omega)
 have b3:=kH (j:=Nq 3) 0 hxb (by omega)
 have b4:=kH (j:=Nq 4) 0 hxb (by omega)
 have b5:=kH (j:=Nq 5) 0 hxb (by omega)
 generalize hx0:xs.getD (Nq 0) 0=x0 at b0
 generalize hx1:xs.getD (Nq 1) 0=x1 at b1
 generalize hx2:xs.getD (Nq 2) 0=x2 at b2
 generalize hx3:xs.getD (Nq 3) 0=x3 at b3
 generalize hx4:xs.getD (Nq 4) 0=x4 at b4
 generalize hx5:xs.getD (Nq 5) 0=x5 at b5
 have g0:vC (xs.map V.int) 0=some (.int x0):=by rw[←hx0];exact jq (by decide) (by omega)
 have g1:vC (xs.map V.int) 1=some (.int x1):=by rw[←hx1];exact jq (by decide) (by omega)
 have g2:vC (xs.map V.int) 2=some (.int x2):=by rw[←hx2];exact jq (by decide) (by omega)
 have g3:vC (xs.map V.int) 3=some (.int x3):=by rw[←hx3];exact jq (by decide) (by omega)
 have g4:vC (xs.map V.int) 4=some (.int x4):=by rw[←hx4];exact jq (by decide) (by omega)
 have g5:vC (xs.map V.int) 5=some (.int x5):=by rw[←hx5];exact jq (by decide) (by omega)
 clear hx0 hx1 hx2 hx3 hx4 hx5
 walk_at "rd"
 intro l7 H1 s1 hl7 e7
 have e7':H1 l7=some (.lst (rD.map V.str)):=e7
 clear e7
 have m0:0≤x0 / 9 % 7:=Ts _ (by decide)
 have m1:x0 / 9 % 7 < 7:=Tp _ (by decide)
 have hso:=GW (x0 / 9 % 7).toNat (by omega)
 refine⟨_,rfl,lx,_,_,_,rfl,rfl,zK.of (s1 _ _ ex),g0,?_⟩
 refine⟨_,_,rfl,rfl,(by walk_at "ar"),_,_,rfl,rfl,(by show (0:Int) < 7;decide),l7,_,_,_,rfl,rfl,zK.of e7',bA m0 m1,?_⟩
 generalize rD.getD (x0 / 9 % 7).toNat "" = so at hso
 show zT 4 (V.str so) [some (.ref p),some (.ref d),some (.str lb),some (.ref lx),none,none,none,none,none,none] _ _
 have sH1:zp H H1:=s1
 have key:∀{H':Hp},zp H H'→mO H' p c ps as zb∧H' d=some (.dK (dS o))∧H' lx=some (.lst (xs.map V.int)):=λs=>⟨hH.same s,s _ _ ed,s _ _ ex⟩
 clear hH e7' s1 hl7 m0 m1
 walk_at "rd"
 intro tw H2 s2 htw e2
 have sH2:=sH1.trans s2
 obtain⟨hH2,ed2,ex2⟩:=key sH2
 refine⟨_,rfl,lx,_,_,_,rfl,rfl,zK.of ex2,g1,?_⟩
 refine⟨p,d,tw,c,ps,as,zb,o,["party"],x1,rfl,hH2,hd,ed2,jo.of e2,hB,hnm,hol,b1.1,λu0 H3 s3 hu0=>?_⟩
 have sH3:=sH2.trans s3
 obtain⟨hH3,ed3,ex3⟩:=key sH3
 clear s2 s3 htw e2 hH2 ed2 ex2 sH2 sH1
 show zT 5 (V.str u0) [some (.ref p),some (.ref d),some (.str lb),some (.ref lx),some (.str so),none,none,none,none,none] _ _
 show ∃M:L2.St→Hp→Prop,_∧_
 refine⟨λσ' H'=>(∃u:Str,σ'=[some (.ref p),some (.ref d),some (.str lb),some (.ref lx),some (.str so),some (.str u),none,none,none,none]∧H'=H3∧(u = ""∨(u = "any"∧so≠"must")∨(zZ u=true∧∃b,lk o u=some b∧xS ps as zb b∈(["party"]:List Str))))∨False,?_,?_⟩
 ·have keep:u0 = ""∨(u0 = "any"∧so≠"must")∨(zZ u0=true∧∃b,lk o u0=some b∧xS ps as zb b∈(["party"]:List Str)):=hu0.elim (λz=>.inl z.1) λz=>.inr (.inr z)
  walk_at "rd"
  refine zD (λh1=>?_) (λh1=>.inl ⟨_,rfl,rfl,keep⟩)
  refine⟨_,rfl,lx,_,_,_,rfl,rfl,zK.of ex3,g1,?_⟩
  walk_at "rd"
  refine zD (λh2=>?_) (λh2=>.inl ⟨_,rfl,rfl,keep⟩)
  walk_at "rd"
  exact .inl ⟨_,rfl,rfl,.inr (.inl ⟨rfl,λz=>by rw[z] at h1;simp at h1⟩)⟩
 intro σ' H' q
 obtain⟨u,rfl,rfl,hu⟩:=q.resolve_right λz=>z
 clear q hu0
 walk_at "rd"
 intro tw H4 s4 htw e4
 have sH4:=sH3.trans s4
 obtain⟨hH4,ed4,ex4⟩:=key sH4
 refine⟨_,rfl,lx,_,_,_,rfl,rfl,zK.of ex4,g2,?_⟩
 refine⟨p,d,tw,c,ps,as,zb,o,["act"],x2,rfl,hH4,hd,ed4,jo.of e4,hB,hnm,hol,b2.1,λa H5 s5 ha=>?_⟩
 have sH5:=sH4.trans s5
 clear s4 s5 htw e4 hH4 ed4 ex4 sH4 sH3 hH3 ed3 ex3
 show zT 6 (V.str a) [some (.ref p),some (.ref d),some (.str lb),some (.ref lx),some (.str so),some (.str u),none,none,none,none] _ _
 walk_at "rd"
 intro t1 H6 s6 ht1 e6
 have sH6:=sH5.trans s6
 show zT 7 (V.ref t1) [some (.ref p),some (.ref d),some (.str lb),some (.ref lx),some (.str so),some (.str u),some (.str a),none,none,none] _ _
 show ∃M:L2.St→Hp→Prop,_∧_
 refine⟨λσ' H'=>(∃(t2:Addr) (ws2:List Str),σ'=[some (.ref p),some (.ref d),some (.str lb),some (.ref lx),some (.str so),some (.str u),some (.str a),some (.ref t2),none,none]∧zp H6 H'∧H' t2=some (.tup (ws2.map V.str))∧((ws2=(["sore","end"]:List Str)∧so≠"power")∨(ws2=(["calm","sore","end"]:List Str)∧so = "power")))∨False,?_,?_⟩
 ·walk_at "rd"
  refine zD (λh1=>?_) (λh1=>.inl ⟨t1,["sore","end"],rfl,zp.refl _,e6,.inl ⟨rfl,λz=>h1 (by rw[z];exact zjx rfl)⟩⟩)
  walk_at "rd"
  intro t2 H7 s7 ht2 e7
  exact .inl ⟨t2,["calm","sore","end"],rfl,s7,e7,.inr ⟨rfl,V.str.inj (zjj h1)⟩⟩
 intro σ' H7 q
 obtain⟨t2,ws2,rfl,s7,e7,hws⟩:=q.resolve_right λz=>z
 clear q
 have sH7:=sH6.trans s7
 obtain⟨hH7,ed7,ex7⟩:=key sH7
 clear s6 ht1 e6 s7 sH6 sH5
 refine⟨_,rfl,_,rfl,_,rfl,_,rfl,lx,_,_,_,rfl,rfl,zK.of ex7,g3,?_⟩
 refine⟨p,d,t2,c,ps,as,zb,o,ws2,x3,rfl,hH7,hd,ed7,jo.of e7,hB,hnm,hol,b3.1,λr H8 s8 hr=>?_⟩
 have sH8:=sH7.trans s8
 obtain⟨hH8,ed8,ex8⟩:=key sH8
 clear s8 sH7 hH7 ed7 ex7 e7
 show zT 8 (V.str r) [some (.ref p),some (.ref d),some (.str lb),some (.ref lx),some (.str so),some (.str u),some (.str a),some (.ref t2),none,none] _ _
 have none':∀{D:Ends},D.rt=Q→C4 (Cj BE) D [some (.ref p),some (.ref d),some (.str lb),some (.ref lx),some (.str so),some (.str u),some (.str a),some (.ref t2),some (.str r),none] H8:=λ{D} hD=>by
  refine⟨Tr _,?_⟩
  intro l H9 s9 hl e9
  show D.rt (.ref l) H9
  rw[hD]
  exact k l H9 [] (sH8.trans s9) (sH8.free hl) e9 (.inl rfl)
 walk_at "rd"
 refine zD (λh1=>none' rfl) (λh1=>?_)
 have hu':(u = "any"∧so≠"must")∨(zZ u=true∧∃b,lk o u=some b∧xS ps as zb b∈(["party"]:List Str)):=hu.resolve_left λz=>h1 (by rw[z];exact zjx rfl)
 walk_at "rd"
 refine zD (λh2=>none' rfl) (λh2=>?_)
 have ha':=ha.resolve_left λz=>h2 (by rw[z.1];exact zjx rfl)
 have tand:∀{K':Bool→Hp→Prop},((r = ""∧so≠"may")→K' true H8)→(¬(r = ""∧so≠"may")→K' false H8)→CN (G6 (M9 RU (JF 8) (tC (V.str (SR ""))))) (G6 (M9 RT (JF 4) (tC (V.str (SR "may"))))) [some (.ref p),some (.ref d),some (.str lb),some (.ref lx),some (.str so),some (.str u),some (.str a),some (.ref t2),some (.str r),none] H8 K':=λ{K'} k1 k2=>by
  walk_at "rd"
  refine zD (λh3=>?_) (λh3=>?_)
  ·walk_at "rd"
   have e3:r = "":=V.str.inj (zjj h3)
   by_cases h4:so = "may"
   ·rw[show (!decide (V.str so=V.str (SR "may")))=false from by rw[h4];simp]
    exact k2 λz=>z.2 h4
   ·rw[show (!decide (V.str so=V.str (SR "may")))=true from by rw[decide_eq_false (λz=>h4 (V.str.inj z))];rfl]
    exact k1 ⟨e3,h4⟩
  ·exact k2 λz=>h3 (by rw[z.1];exact zjx rfl)
 refine tand (λ_=>cH (none' rfl)) (λhgo=>nH ?_)
 clear none' tand
 have hr':so = "may"∨(zZ r=true∧∃b,lk o r=some b∧xS ps as zb b∈ws2):=by
  rcases hr with z | z
  ·by_cases h4:so = "may"
   ·exact .inl h4
   ·exact absurd ⟨z.1,h4⟩ hgo
  ·exact .inr z
 refine⟨_,rfl,lx,_,_,_,rfl,rfl,zK.of ex8,g4,_,_,rfl,rfl,(by show (0:Int) < 3;decide),_,_,rfl,rfl,?_⟩
 show zT 9 (V.int (1 + x4 % 3)) [some (.ref p),some (.ref d),some (.str lb),some (.ref lx),some (.str so),some (.str u),some (.str a),some (.ref t2),some (.str r),none] _ _
 show ∃M:L2.St→Hp→Prop,_∧_
 have e20:(10:Int) ^ (Nq 20) - 1=99999999999999999999:=by decide +kernel
 have e21:(10:Int) ^ 20=100000000000000000000:=by decide +kernel
 refine⟨λσ' H'=>(∃n:Int,σ'=[some (.ref p),some (.ref d),some (.str lb),some (.ref lx),some (.str so),some (.str u),some (.str a),some (.ref t2),some (.str r),some (.int n)]∧1≤n∧n < 10 ^ 20∧H'=H8)∨False,?_,?_⟩
 ·refine⟨_,rfl,lx,_,_,_,rfl,rfl,zK.of ex8,g4,?_⟩
  walk_at "rd"
  refine zD (λh3=>?_) (λh3=>.inl ⟨_,rfl,by omega,by rw[e21];omega,rfl⟩)
  refine⟨_,rfl,lx,_,_,_,rfl,rfl,zK.of ex8,g4,?_⟩
  refine⟨_,rfl,lx,_,_,_,rfl,rfl,zK.of ex8,g5,?_⟩
  refine⟨_,_,rfl,rfl,(by walk_at "ar"),?_⟩
  refine⟨_,rfl,lx,_,_,_,rfl,rfl,zK.of ex8,g3,?_⟩
  refine⟨_,_,rfl,rfl,(by walk_at "ar"),?_⟩
  walk_at "rd"
  have p0:=Ts (x4 * x5 * x3) (show (99999999999999999999:Int)≠0 by decide)
  have p1:=Tp (x4 * x5 * x3) (show (0:Int) < 99999999999999999999 by decide)
  refine .inl ⟨1 + x4 * x5 * x3 % 99999999999999999999,?_,by omega,by rw[e21];omega,rfl⟩
  rw[←e20]
  rfl
 intro σ' H' q
 obtain⟨n,rfl,n1,n2,rfl⟩:=q.resolve_right λz=>z
 clear q
 have who:WG u:=hu'.elim (λz=>.inr z.1) λz=>.inl z.1
 have wk:u = "any"∨∃b,lk o u=some b∧xS ps as zb b∈(["party"]:List Str):=hu'.elim (λz=>.inl z.1) λz=>.inr z.2
 have q0:=UX wk
 have q1:=UK ha'.2
 walk_at "rd"
 refine zD (λh3=>?_) (λh3=>?_)
 ·have es:so = "must":=V.str.inj (zjj h3)
  have hun:zZ u=true:=hu'.elim (λz=>absurd es z.2) λz=>z.1
  have hr2:zZ r=true∧∃b,lk o r=some b∧xS ps as zb b∈ws2:=hr'.resolve_left λz=>cP.1 (es.symm.trans z)
  have hw2:ws2=(["sore","end"]:List Str):=(hws.resolve_right λz=>cP.2.2.1 (es.symm.trans z.2)).1
  rw[hw2] at hr2
  walk_at "rd"
  refine⟨VI (by omega) (by omega),?_⟩
  walk_at "rd"
  intro l H9 s9 hl e9
  exact k l H9 (Ew.mu lb u a n r).ws (sH8.trans s9) (sH8.free hl) e9 (.inr ⟨.mu lb u a n r,rfl,⟨hlb,hun,ha'.1,n1,n2,hr2.1⟩,rfl,_,rfl,cg q0 q1 (Ph (.inl rfl) hr2.2)⟩)
 walk_at "rd"
 refine zD (λh4=>?_) (λh4=>?_)
 ·have es:so = "ban":=V.str.inj (zjj h4)
  have hr2:zZ r=true∧∃b,lk o r=some b∧xS ps as zb b∈ws2:=hr'.resolve_left λz=>cP.2.2.2.1 (z.symm.trans es)
  have hw2:ws2=(["sore","end"]:List Str):=(hws.resolve_right λz=>cP.2.2.2.2.2 (es.symm.trans z.2)).1
  rw[hw2] at hr2
  walk_at "rd"
  intro l H9 s9 hl e9
  exact k l H9 (Ew.bn lb u a r).ws (sH8.trans s9) (sH8.free hl) e9 (.inr ⟨.bn lb u a r,rfl,⟨hlb,who,ha'.1,hr2.1⟩,rfl,_,rfl,cg q0 q1 (Ph (.inr rfl) hr2.2)⟩)
 walk_at "rd"
 refine zD (λh5=>?_) (λh5=>?_)
 ·have es:so = "power":=V.str.inj (zjj h5)
  have hr2:zZ r=true∧∃b,lk o r=some b∧xS ps as zb b∈ws2:=hr'.resolve_left λz=>cP.2.2.2.2.1 (z.symm.trans es)
  have hw2:ws2=(["calm","sore","end"]:List Str):=(hws.resolve_left λz=>z.2 es).1
  rw[hw2] at hr2
  walk_at "rd"
  intro l H9 s9 hl e9
  exact k l H9 (Ew.pw lb u a r).ws (sH8.trans s9) (sH8.free hl) e9 (.inr ⟨.pw lb u a r,rfl,⟨hlb,who,ha'.1,hr2.1⟩,rfl,_,rfl,cg q0 q1 (UD hr2.2)⟩)
 walk_at "rd"
 intro l H9 s9 hl e9
 exact k l H9 (Ew.my lb u a).ws (sH8.trans s9) (sH8.free hl) e9 (.inr ⟨.my lb u a,rfl,⟨hlb,who,ha'.1⟩,rfl,_,rfl,cg q0 q1 ⟨"",rfl⟩⟩)
def PN (K:Sd):Sp:=λvs H Q _=>∃(p d lx:Addr) (c:Int) (ps as:List Str) (zb:List (Str × Str)) (o:Ow) (lb:Str) (xs:List Int),vs=[.ref p,.ref d,.str lb,.ref lx]∧mO H p c ps as zb∧Ql ps as zb∧H d=some (.dK (dS o))∧lN (xS ps as zb) (j9 ps as zb) o∧(∀q∈o,zZ q.1=true)∧o.length≤100∧zZ lb=true∧H lx=some (.lst (xs.map V.int))∧xs.length=6∧(∀x∈xs,0≤x∧x < 429496730)∧
 ∀l H' rs,zp H H'→H l=none→H' l=some (.lst ((Ew.pt lb rs).ws.map V.str))→(Ew.pt lb rs).ok→(∃ns,xJ (xS ps as zb) o rs=some ns)→Q (.ref l) H'
theorem Xx {lo:Int} {n:Nat} {E:L2.St→Hp→Prop} {B:V→L2.St→Hp→(L2.St→Hp→Prop)→Prop} {σ:L2.St} {H:Hp} (Pv:Nat→L2.St→Hp→Prop) (h0:Pv 0 σ H)
  (hs:∀i σ H,i < n→Pv i σ H→B (.int (lo + i)) σ H (Pv (i + 1))) (hd:∀σ H,Pv n σ H→E σ H) :
  ∃W:Nat→Nat→L2.St→Hp→Prop,(∃m,W 0 m σ H)∧∀i m σ H,W i m σ H→
   ((WN lo n).stop i H∧E σ H)∨((WN lo n).go i H∧∃N:L2.St→Hp→Prop,(∀σ' H',N σ' H'→∃m',m' < m∧W (i + 1) m' σ' H')∧∀x H',(WN lo n).Hd i H x H'→B x σ H' N):=by
 refine⟨λi m σ H=>m=n - i∧i≤n∧Pv i σ H,⟨n,by simp,Tr _,h0⟩,?_⟩
 rintro i m σ H ⟨rfl,hi,p⟩
 by_cases hlt:i < n
 ·refine .inr ⟨hlt,Pv (i + 1),λσ' H' p'=>⟨n - (i + 1),by omega,rfl,hlt,p'⟩,λx H' y=>?_⟩
  obtain⟨e,y⟩:=y
  subst e
  subst y
  exact hs i σ _ hlt p
 ·have e:i=n:=by omega
  subst e
  exact .inl ⟨SD _,hd σ H p⟩
theorem oz {kd:Str→Str} {o:Ow}:∀{rs:List Str},(∀x∈rs,∃b,lk o x=some b∧kd b∈(["calm","sore","end"]:List Str))→∃ns,xJ kd o rs=some ns
 | [],_=>⟨[],rfl⟩
 | x :: rs,h=>by
  obtain⟨ns,ih⟩:=oz (rs:=rs) λy hy=>h y (SV _ hy)
  obtain⟨b,h1,h2⟩:=h x Tu
  refine⟨b :: ns,?_⟩
  unfold xJ
  have:jK (bE kd o 2 x)=some b:=by
   show jK (mA kd o zF x)=_
   rw[Q5 (ws:=zF) h1 h2]
   rfl
  rw[this,Sa,ih]
  rfl
theorem Cd (lb:Str) {rs:List Str} (h:rs≠[]):(Ew.pt lb rs).ws=([("part" : Str),lb] ++ [("in" : Str)]) ++ rs:=by
 cases rs with
 | nil=>exact absurd rfl h
 | cons x rs=>rfl
theorem yv:zd ["_law_header_here","_law_scope_here","_law_label","_law_xs","_law_row","_law_some","_law_k"] ["_law_header_here","_law_scope_here","_law_label","_law_xs"] (zy aZ):=by walk_at "sc"
theorem XJ (T:Txt K mg t):zo P w K mg base zC 3 t.uS t.uF ["_law_header_here","_law_scope_here","_law_label","_law_xs"] (PN K):=by
 have G_w_pick:zo P w K mg base zC 2 t.pP t.pJ ["_law_header_here","_law_scope_here","_law_wanted","_law_number"] (Qg K):=(rK T).mono (by decide)
 refine T.tZ.fn.ok yv (by walk_at "ln") ?_;walk_at "hd"
 obtain⟨p,d,lx,c,ps,as,zb,o,lb,xs,rfl,hH,hd,ed,hB,hnm,hol,hlb,ex,hxl,hxb,k⟩:=h
 refine⟨_,(zj (za (i:=4) yv.nd rfl (SA rfl) (zP (zz zw (zz (pv 2) zq))) jX)
   (zj (PS.join (zW (zc mY (zi z7 (zu (zv (K:=K) rfl) (pv 3) zx (λ_ _=>rfl)) zx) zx (zQ _))
    (zj (za (i:=5) yv.nd rfl (SA rfl) (zP zq) jX)
   (zj (jg TJ rfl (xM rfl T.vU (zz (zi qp zx (zi z7 (zu (zv (K:=K) rfl) (pv 3) zx (λ_ _=>rfl)) zx)) zq)) (zM (i:=6) yv.nd rfl (SA rfl))
    (zk (zO (qC SS S9 Tz qk (pv 5) (zz (ze G_w_pick hr rfl T.xg.mg T.xg.fn.kp T.xg.bd .nil zJ (zz (pv 0) (zz (pv 1) (zz (qx (zz zw (zz zw (zz zw zq)))) (zz (zi qQ (zu (zv (K:=K) rfl) (pv 3) zx (λ_ _=>rfl)) (zi qp (pv 6) zx)) zq))))) zq)))))
   (zk (PS.join (zW (zc (fF (K:=K) rfl) zw (pv 5) rfl)
    (zk (za (i:=4) yv.nd rfl (SA rfl) (zi vG (zi vG (pv 4) (zP (zz zw zq))) (pv 5)))) zr))))) zr))
   (zk (zf (pv 4))))),?_⟩
 have b1:=kH (j:=Nq 1) 0 hxb (by omega)
 have b2:=kH (j:=Nq 2) 0 hxb (by omega)
 have b3:=kH (j:=Nq 3) 0 hxb (by omega)
 generalize hx1:xs.getD (Nq 1) 0=x1 at b1
 generalize hx2:xs.getD (Nq 2) 0=x2 at b2
 generalize hx3:xs.getD (Nq 3) 0=x3 at b3
 have g1:vC (xs.map V.int) 1=some (.int x1):=by rw[←hx1];exact jq (by decide) (by omega)
 have g2:vC (xs.map V.int) 2=some (.int x2):=by rw[←hx2];exact jq (by decide) (by omega)
 have g3:vC (xs.map V.int) 3=some (.int x3):=by rw[←hx3];exact jq (by decide) (by omega)
 clear hx1 hx2 hx3
 walk_at "rd"
 intro l0 H1 s1 hl0 e0
 have e0':H1 l0=some (.lst (([("part" : Str),lb]).map V.str)):=e0
 clear e0
 show zT 4 (V.ref l0) [some (.ref p),some (.ref d),some (.str lb),some (.ref lx),none,none,none] _ _
 show ∃M:L2.St→Hp→Prop,_∧_
 have ex1:=s1 _ _ ex
 refine⟨λσ' H'=>(∃(l:Addr) (rs:List Str) (v5 v6:Option V),σ'=[some (.ref p),some (.ref d),some (.str lb),some (.ref lx),some (.ref l),v5,v6]∧zp H H'∧H l=none∧H' l=some (.lst ((Ew.pt lb rs).ws.map V.str))∧(∀x∈rs,zZ x=true∧∃b,lk o x=some b∧xS ps as zb b∈(["calm","sore","end"]:List Str))∧rs.length≤4)∨False,?_,?_⟩
 ·refine⟨_,rfl,lx,_,_,_,rfl,rfl,zK.of ex1,g1,?_⟩
  walk_at "rd"
  refine zD (λh1=>?_) (λh1=>.inl ⟨l0,[],_,_,rfl,s1,hl0,e0',λ_ z=>(by cases z),by decide⟩)
  walk_at "rd"
  intro ls H2 s2 hls e2
  have hls0:H ls=none:=s1.free hls
  have m0:0≤x2 % 4:=Ts _ (by decide)
  have m1:x2 % 4 < 4:=Tp _ (by decide)
  have nl:l0≠ls:=zh e0' hls
  show zT 5 (V.ref ls) [some (.ref p),some (.ref d),some (.str lb),some (.ref lx),some (.ref l0),none,none] _ _
  refine⟨_,rfl,lx,_,_,_,rfl,rfl,zK.of (s2 _ _ ex1),g2,_,_,rfl,rfl,(by show (0:Int) < 4;decide),_,_,rfl,rfl,_,rfl,by omega,by omega,?_⟩
  refine Xx (lo:=0) (n:=(1 + x2 % 4).toNat) (λi σ H'=>(∃(zs:List Str) (v6:Option V),σ=[some (.ref p),some (.ref d),some (.str lb),some (.ref lx),some (.ref l0),some (.ref ls),v6]∧zp H H'∧H' l0=some (.lst (([("part" : Str),lb]).map V.str))∧H' ls=some (.lst (zs.map V.str))∧zs.length=i∧∀z∈zs,DG (xS ps as zb) o ["calm","sore","end"] z)∨False)
   (.inl ⟨[],none,rfl,s1.trans s2,s2 _ _ e0',e2,rfl,λ_ z=>(by cases z)⟩) ?_ ?_
  ·intro i σ H3 hi q
   obtain⟨zs,v6,rfl,s3,e30,e3,hzl,hzp⟩:=q.resolve_right λz=>z
   clear q
   have hi4:i < 4:=by omega
   rw[O1]
   show zT 6 (V.int (i:Int)) [some (.ref p),some (.ref d),some (.str lb),some (.ref lx),some (.ref l0),some (.ref ls),v6] _ _
   refine⟨_,rfl,.inl ⟨rfl,_,zK.of e3⟩,?_⟩
   refine⟨_,rfl,_,rfl,?_⟩
   walk_at "rd"
   intro tw H4 s4 htw e4
   have s34:=s3.trans s4
   refine⟨_,rfl,lx,_,_,_,rfl,rfl,zK.of (s34 _ _ ex),g3,_,rfl,_,_,rfl,rfl,_,_,rfl,rfl,(by walk_at "ar"),?_⟩
   refine⟨p,d,tw,c,ps,as,zb,o,["calm","sore","end"],x3 / ((i:Int) + 1),rfl,hH.same s34,hd,s34 _ _ ed,jo.of e4,hB,hnm,hol,zzF (by omega) (by omega),λz H5 s5 hz=>?_⟩
   have e35:=s5 _ _ (s4 _ _ e3)
   refine⟨ls,_,_,rfl,rfl,e35,zg (by rw[Su];omega),?_⟩
   intro H6 k6 e6
   refine .inl ⟨zs ++ [z],_,rfl,k6.put (s34.trans s5) hls0,k6.look (s5 _ _ (s4 _ _ e30)) nl,by rw[e6,SG];rfl,by rw[Sl,hzl];rfl,λy hy=>?_⟩
   rcases SI.mp hy with hy | hy
   ·exact hzp y hy
   ·rw[SY.mp hy];exact hz
  intro σ H3 q
  obtain⟨zs,v6,rfl,s3,e30,e3,hzl,hzp⟩:=q.resolve_right λz=>z
  clear q
  have hzn:zs≠[]:=λz=>by rw[z] at hzl;simp at hzl;omega
  have hz4:zs.length≤4:=by omega
  show ∃M:L2.St→Hp→Prop,_∧_
  refine⟨λσ' H'=>(∃(l:Addr) (rs:List Str) (v5 v6:Option V),σ'=[some (.ref p),some (.ref d),some (.str lb),some (.ref lx),some (.ref l),v5,v6]∧zp H H'∧H l=none∧H' l=some (.lst ((Ew.pt lb rs).ws.map V.str))∧(∀x∈rs,zZ x=true∧∃b,lk o x=some b∧xS ps as zb b∈(["calm","sore","end"]:List Str))∧rs.length≤4)∨False,?_,λ_ _ z=>z⟩
  refine⟨_,rfl,ls,_,rfl,.inl (zK.of e3),rfl,xU zs,_,rfl,?_⟩
  show if (!Qt (V.str (SR "")) (zs.map V.str))=true then _ else _
  rw[vw]
  by_cases hin:(SR "" : Str)∈zs
  ·rw[zjx hin]
   refine nH ?_
   exact .inl ⟨l0,[],_,_,rfl,s3,hl0,e30,λ_ z=>(by cases z),by decide⟩
  ·rw[decide_eq_false hin]
   refine cH ?_
   walk_at "rd"
   intro l1 H4 s4 hl1 e4
   have e4':H4 l1=some (.lst (([("in" : Str)]).map V.str)):=e4
   refine⟨l0,l1,_,_,rfl,rfl,s4 _ _ e30,e4',zg (by simp),?_⟩
   intro l2 H5 s5 hl2 e5
   refine⟨_,rfl,l2,ls,_,_,rfl,rfl,e5,s5 _ _ (s4 _ _ e3),zg (by simp only[Sl,Su,Se,S1];omega),?_⟩
   intro l3 H6 s6 hl3 e6
   have s46:=(s3.trans s4).trans s5
   refine .inl ⟨l3,zs,_,_,rfl,s46.trans s6,s46.free hl3,?_,λx hx=>?_,hz4⟩
   ·rw[e6,Cd lb hzn,SG,SG]
   ·exact(hzp x hx).resolve_left λz=>hin (by rw[←z.1];exact hx)
 intro σ' H' q
 obtain⟨l,rs,v5,v6,rfl,sH,hl,el,hrs,hrl⟩:=q.resolve_right λz=>z
 walk_at "rd"
 exact k l H' rs sH hl el ⟨hlb,λx hx=>(hrs x hx).1,by omega⟩ (oz λx hx=>(hrs x hx).2)
structure lO (c:Int) (kd:Str→Str) (K0 o:Ow):Prop where
 nd:(o.map (·.1)).Nodup
 sb:∀n∈o.map (·.1),n∈(NZ c).take 28
 bs:lN kd K0 o
 ne:o≠[]
theorem Pd {α:Type} [DecidableEq α]:∀{l m:List α},l.Nodup→(∀x∈l,x∈m)→l.length≤m.length
 | [],m,_,_=>Tr _
 | x :: l,m,hn,h=>by
  have hx:=h x Tu
  (have hn':=Tg.mp hn)
  have ih:=Pd (l:=l) (m:=m.erase x) hn'.2 λy hy=>(List.mem_erase_of_ne λe=>hn'.1 (by rw[←e];exact hy)).mpr (h y (SV _ hy))
  rw[List.length_erase_of_mem hx] at ih
  have:=List.length_pos_of_mem hx
  rw[Se]
  omega
theorem lO.len {c:Int} {kd:Str→Str} {K0 o:Ow} (h:lO c kd K0 o):o.length≤28:=by
 have:=Pd h.nd h.sb
 rw[Su,S8] at this
 omega
theorem lO.put {c:Int} {kd:Str→Str} {K0 o:Ow} {n v b:Str} (h:lO c kd K0 o) (hn:n∈(NZ c).take 28) (hb:lk o v=some b):lO c kd K0 (pu o n b):=by
 refine⟨?_,?_,λz y hz=>?_,λz=>?_⟩
 ·rw[sT]
  split
  ·exact h.nd
  ·rename_i q;exact K6 h.nd q
 ·rw[sT]
  split
  ·exact h.sb
  ·intro x hx
   (rcases SI.mp hx with hx | hx)
   ·exact h.sb x hx
   ·rw[SY.mp hx];exact hn
 ·rw[YH] at hz
  split at hz
  ·cases hz;exact h.bs v _ hb
  ·exact h.bs z y hz
 ·have:=sT o n b
  rw[z] at this
  have hk:o.map (·.1)≠[]:=λq=>h.ne (List.map_eq_nil_iff.mp q)
  split at this
  ·exact hk this.symm
  ·have:=congrArg Nc this
   rw[Sl] at this
   simp at this
def G0 (kd:Str→Str) (e:Ew):List Ow→Option (List Ow)
 | []=>none
 | o :: st=>match e with
  | .lt a b=>(lk o b).bind λx=>some (pu o a x :: st)
  | .pt _ rs=>(xJ kd o rs).bind λ_=>some (o :: o :: st)
  | .dn=>if st=[] then none else some st
  | e=>e.Qs.bind λc=>(bo kd o c.1 c.2.1 c.2.2.1 c.2.2.2.1 c.2.2.2.2.1 c.2.2.2.2.2 [] 0).bind λ_=>some (o :: st)
structure bI (c:Int) (kd:Str→Str) (K0:Ow) (B H:Hp) (ls:Addr) (es:List (Addr × Ow)):Prop where
 el:H ls=some (.lst (es.map λe=>.ref e.1))
 at':∀e∈es,H e.1=some (.dK (dS e.2))
 nd:(es.map (·.1)).Nodup
 ok:∀e∈es,lO c kd K0 e.2
 n1:1≤es.length
 n7:es.length≤7
 bs:zp B H
 bl:B ls=none
 bd:∀e∈es,B e.1=none
def JL (ls:Addr) (es:List (Addr × Ow)):List Addr:=ls :: es.map (·.1)
theorem bI.same {c:Int} {kd:Str→Str} {K0:Ow} {B H H':Hp} {ls:Addr} {es:List (Addr × Ow)} (h:bI c kd K0 B H ls es) (s:zp H H'):bI c kd K0 B H' ls es:=⟨s _ _ h.el,λe he=>s _ _ (h.at' e he),h.nd,h.ok,h.n1,h.n7,h.bs.trans s,h.bl,h.bd⟩
theorem bI.put {c:Int} {kd:Str→Str} {K0:Ow} {B H H':Hp} {ls d:Addr} {es0:List (Addr × Ow)} {o o':Ow} (h:bI c kd K0 B H ls (es0 ++ [(d,o)])) (k:Keeps d H H') (e:H' d=some (.dK (dS o'))) (ho:lO c kd K0 o'):bI c kd K0 B H' ls (es0 ++ [(d,o')]):=by
 have hm:(es0 ++ [(d,o')]).map (·.1)=(es0 ++ [(d,o)]).map (·.1):=by simp
 have hnd:=h.nd
 have hdd:H d=some (.dK (dS o)):=h.at' (d,o) (by simp)
 refine⟨?_,λx hx=>?_,by rw[hm];exact hnd,λx hx=>?_,by simp,by have:=h.n7;simpa using this,λb u q=>?_,h.bl,λx hx=>?_⟩
 ·have:=h.el
  rw[k.look this λz=>by rw[z,hdd] at this;cases this]
  simp
 ·rcases SI.mp hx with hx | hx
  ·have hne:x.1≠d:=λz=>by
    rw[SG] at hnd
    exact(TU.mp hnd).2.2 x.1 (TL hx) d (by simp) z
   exact k.look (h.at' x (TZ _ hx)) hne
  ·rw[SY.mp hx]
   exact e
 ·rcases SI.mp hx with hx | hx
  ·exact h.ok x (TZ _ hx)
  ·rw[SY.mp hx]
   exact ho
 ·rw[k b (zh q (h.bd (d,o) (by simp)))]
  exact h.bs b u q
 ·rcases SI.mp hx with hx | hx
  ·exact h.bd x (TZ _ hx)
  ·rw[SY.mp hx]
   exact h.bd (d,o) (by simp)
theorem bI.push {c:Int} {kd:Str→Str} {K0:Ow} {B H H':Hp} {ls d:Addr} {es:List (Addr × Ow)} {o:Ow} (h:bI c kd K0 B H ls es) (hn:d∉es.map (·.1)) (hb:B d=none) (ed:H d=some (.dK (dS o))) (ho:lO c kd K0 o) (h6:es.length < 7) (k:Keeps ls H H') (e:H' ls=some (.lst ((es.map λe=>.ref e.1) ++ [.ref d]))):bI c kd K0 B H' ls (es ++ [(d,o)]):=by
 have hel:=h.el
 have nls:∀{x:Addr} {u:List (Key × V)},H x=some (.dK u)→x≠ls:=λ{x u} q z=>by rw[z,hel] at q;cases q
 refine⟨by rw[e,SG];rfl,λx hx=>?_,?_,λx hx=>?_,by rw[Sl];simp,by rw[Sl];simp only[Se,S1];omega,λb u q=>?_,h.bl,λx hx=>?_⟩
 ·rcases SI.mp hx with hx | hx
  ·exact k.look (h.at' x hx) (nls (h.at' x hx))
  ·rw[SY.mp hx]
   exact k.look ed (nls ed)
 ·rw[SG]
  exact TU.mpr ⟨h.nd,by simp,λa ha b hb' z=>hn (by rw[←(SY.mp hb':b=d),←z];exact ha)⟩
 ·rcases SI.mp hx with hx | hx
  ·exact h.ok x hx
  ·rw[SY.mp hx];exact ho
 ·rw[k b (zh q h.bl)]
  exact h.bs b u q
 ·rcases SI.mp hx with hx | hx
  ·exact h.bd x hx
  ·rw[SY.mp hx];exact hb
theorem bI.pop {c:Int} {kd:Str→Str} {K0:Ow} {B H H':Hp} {ls:Addr} {es0:List (Addr × Ow)} {x0:Addr × Ow} (h:bI c kd K0 B H ls (es0 ++ [x0])) (h1:1≤es0.length) (k:Keeps ls H H') (e:H' ls=some (.lst (es0.map λe=>.ref e.1))):bI c kd K0 B H' ls es0:=by
 have hel:=h.el
 refine⟨e,λx hx=>?_,?_,λx hx=>h.ok x (TZ _ hx),h1,by have:=h.n7;rw[Sl] at this;omega,λb u q=>?_,h.bl,λx hx=>h.bd x (TZ _ hx)⟩
 ·have q:=h.at' x (TZ _ hx)
  exact k.look q λz=>by rw[z,hel] at q;cases q
 ·have:=h.nd
  rw[SG] at this
  exact(TU.mp this).1
 ·rw[k b (zh q h.bl)]
  exact h.bs b u q
theorem BD {ms:List Addr} {H H':Hp} (s:zp H H'):Fm ms H H':=λb o _ e=>s b o e
def Ld (kd:Str→Str) (lb:Str) (ws:List Str) (es es2:List (Addr × Ow)):Prop:=(ws=[]∧es2=es)∨∃e:Ew,ws=e.ws∧e.ok∧(yL e=[]∨yL e=[lb])∧G0 kd e (es.map (·.2)).reverse=some (es2.map (·.2)).reverse
def PR (K:Sd):Sp:=λvs H Q _=>∃(B:Hp) (p ls lx:Addr) (c:Int) (ps as:List Str) (zb:List (Str × Str)) (es:List (Addr × Ow)) (lb:Str) (xs:List Int),vs=[.ref p,.ref ls,.str lb,.ref lx]∧bI c (xS ps as zb) (j9 ps as zb) B H ls es∧mO B p c ps as zb∧Dh c ps as zb∧zZ lb=true∧H lx=some (.lst (xs.map V.int))∧xs.length=6∧(∀x∈xs,0≤x∧x < 429496730)∧
 ∀l H' ws es2,Fm (JL ls es) H H'→H l=none→H' l=some (.lst (ws.map V.str))→bI c (xS ps as zb) (j9 ps as zb) B H' ls es2→(∀e∈es2,e.1∈es.map (·.1)∨H e.1=none)→l∉JL ls es2→Ld (xS ps as zb) lb ws es es2→Q (.ref l) H'
theorem nF {α:Type} {es:List α} (h:1≤es.length):∃es0 e,es=es0 ++ [e]:=⟨es.dropLast,es.getLast (λz=>by rw[z] at h;simp at h),(List.dropLast_concat_getLast _).symm⟩
theorem HX {es0:List (Addr × Ow)} {e:Addr × Ow}:vC ((es0 ++ [e]).map λe=>V.ref e.1) (-1)=some (.ref e.1):=by
 have h:JS (es0.length + 1) (-1)=some es0.length:=by
  unfold JS
  rw[if_neg (by decide),if_pos (by omega)]
  exact congrArg some (by omega)
 unfold vC
 rw[Su,Sl,Se,S1,h]
 simp
def HL:List Str:=["party","act","calm","sore","end"]
theorem Bz {ps as:List Str} {zb:List (Str × Str)} (h:Ql ps as zb) {b x:Str} (hb:lk (j9 ps as zb) b=some x):x∈HL:=by
 have hm:=KA hb
 unfold j9 at hm
 (rcases SI.mp hm with hm | hm)
 ·(rcases SI.mp hm with hm | hm)
  ·obtain⟨n,_,e⟩:=TY.mp hm
   cases e
   decide +kernel
  ·obtain⟨n,_,e⟩:=TY.mp hm
   cases e
   decide +kernel
 ·obtain⟨mn,hmn,e⟩:=TY.mp hm
  cases e
  have h2:=(h.rn mn hmn).1
  exact(show ∀y∈zF,y∈HL by decide +kernel) _ h2
theorem lO.Uv {c:Int} {kd:Str→Str} {K0 o:Ow} (h:lO c kd K0 o):∀q∈o,zZ q.1=true:=λq hq=>tY c _ (Nu (h.sb _ (TL hq)))
seal NZ
theorem kU:zd ["_law_header_here","_law_stack","_law_label","_law_xs","_law_kind","_law_scope_here","_law_names_here","_law_new","_law_value","_law_row"] ["_law_header_here","_law_stack","_law_label","_law_xs"] (zy JQ):=by walk_at "sc"
theorem Wz (T:Txt K mg t):zo P w K mg base zC 4 t.nZ t.tN ["_law_header_here","_law_stack","_law_label","_law_xs"] (PR K):=by
 have G_w_clause:zo P w K mg base zC 3 t.dh t.m9 ["_law_header_here","_law_scope_here","_law_label","_law_xs"] (PJ K):=(Jh T).mono (by decide)
 have G_w_opens:zo P w K mg base zC 3 t.uS t.uF ["_law_header_here","_law_scope_here","_law_label","_law_xs"] (PN K):=(XJ T).mono (by decide)
 have G_w_pick:zo P w K mg base zC 3 t.pP t.pJ ["_law_header_here","_law_scope_here","_law_wanted","_law_number"] (Qg K):=(rK T).mono (by decide)
 refine T.w_next.fn.ok kU (by walk_at "ln") ?_;walk_at "hd"
 obtain⟨B,p,ls,lx,c,ps,as,zb,es,lb,xs,rfl,hK,hH,hZ,hlb,ex,hxl,hxb,k⟩:=h
 refine⟨_,(zj (za (i:=4) kU.nd rfl (SA rfl) (zi z7 (zu (zv (K:=K) rfl) (pv 3) zx (λ_ _=>rfl)) zx))
   (zj (za (i:=5) kU.nd rfl (SA rfl) (zu (zv (K:=K) rfl) (pv 1) (c8 bj zx) (λ_ _=>rfl)))
   (zj (zW (zc qj (pv 4) zx (zQ _))
    (zj (za (i:=6) kU.nd rfl (SA rfl) (zu (qH (K:=K) rfl) (pv 0) zx (λ_ _=>rfl)))
   (zj (za (i:=7) kU.nd rfl (SA rfl) (zu (zv (K:=K) rfl) (zi vG (qR (qD (K:=K) rfl) (pv 6) (qJ zx) (qJ zx)) (qR (qD (K:=K) rfl) (pv 6) (qJ zx) (qJ zx))) (zi qQ (zi z7 (zu (zv (K:=K) rfl) (pv 3) zx (λ_ _=>rfl)) zx) (zi qp zx (zi z7 (zu (zv (K:=K) rfl) (pv 3) zx (λ_ _=>rfl)) zx))) (λ_ _=>rfl)))
   (zj (za (i:=8) kU.nd rfl (SA rfl) (ze G_w_pick hr rfl T.xg.mg T.xg.fn.kp T.xg.bd .nil zJ (zz (pv 0) (zz (pv 5) (zz (qx (zz zw (zz zw (zz zw (zz zw (zz zw zq)))))) (zz (zu (zv (K:=K) rfl) (pv 3) zx (λ_ _=>rfl)) zq))))))
   (zj (ku (qB (qi hr) (pv 5) (pv 8) (λ_ _=>rfl)) (vH (pv 5) (pv 7) (jQ (qi hr))))
   (zk (zf (zP (zz zw (zz (pv 7) (zz zw (zz (pv 8) zq))))))))))) zr)
   (zj (PS.join (zW (PW.pt (yO (zc (oV (K:=K) rfl) (pv 4) (qx (zz zx (zz zx zq))) rfl) (vA (zc Gk (zX (zH (K:=K) rfl) rfl T.qo S5 (zz (pv 1) zq)) zx (zQ _)))))
    (zj (za (i:=9) kU.nd rfl (SA rfl) (ze G_w_opens hr rfl T.tZ.mg T.tZ.fn.kp T.tZ.bd .nil zJ (zz (pv 0) (zz (pv 5) (zz (pv 2) (zz (pv 3) zq))))))
   (zj (zO (qC SS S9 Tz qk (pv 1) (zz (qz gI rfl T.aL OW (zz (pv 5) zq)) zq)))
   (zk (zf (pv 9))))) zr))
   (zj (PS.join (zW (PW.pt (yO (zc qj (pv 4) zx (zQ _)) (vA (zc mY (zX (zH (K:=K) rfl) rfl T.qo S5 (zz (pv 1) zq)) zx (zQ _)))))
    (zj (zO (rY SS N9 Oz oj (pv 1)))
   (zk (zf (zP (zz zw zq))))) zr))
   (zk (zf (ze G_w_clause hr rfl T.ua.mg T.ua.fn.kp T.ua.bd .nil zJ (zz (pv 0) (zz (pv 5) (zz (pv 2) (zz (pv 3) zq)))))))))))),?_⟩
 have hd:=hZ.hd
 have hN:=WI c
 have b0:=kH (j:=Nq 0) 0 hxb (by omega)
 have b1:=kH (j:=Nq 1) 0 hxb (by omega)
 have b2:=kH (j:=Nq 2) 0 hxb (by omega)
 have b5:=kH (j:=Nq 5) 0 hxb (by omega)
 generalize hx0:xs.getD (Nq 0) 0=x0 at b0
 generalize hx1:xs.getD (Nq 1) 0=x1 at b1
 generalize hx2:xs.getD (Nq 2) 0=x2 at b2
 generalize hx5:xs.getD (Nq 5) 0=x5 at b5
 have g0:vC (xs.map V.int) 0=some (.int x0):=by rw[←hx0];exact jq (by decide) (by omega)
 have g1:vC (xs.map V.int) 1=some (.int x1):=by rw[←hx1];exact jq (by decide) (by omega)
 have g2:vC (xs.map V.int) 2=some (.int x2):=by rw[←hx2];exact jq (by decide) (by omega)
 have g5:vC (xs.map V.int) 5=some (.int x5):=by rw[←hx5];exact jq (by decide) (by omega)
 clear hx0 hx1 hx2 hx5
 have n1:=hK.n1
 have n7:=hK.n7
 obtain⟨es0,⟨d,o⟩,rfl⟩:=nF n1
 have ed:H d=some (.dK (dS o)):=hK.at' (d,o) (by simp)
 have hO:lO c (xS ps as zb) (j9 ps as zb) o:=hK.ok (d,o) (by simp)
 have hol:=hO.len
 have hrev:((es0 ++ [(d,o)]).map (·.2)).reverse=o :: (es0.map (·.2)).reverse:=by simp
 have hHH:=hH.same hK.bs
 have lno:∀{l:Addr} {es2:List (Addr × Ow)} {H0:Hp},H0 l=none→(∃ys,H0 ls=some (.lst ys))→(∀e∈es2,∃u,H0 e.1=some (.dK u))→l∉JL ls es2:=λ{l es2 H0} h1 h2 h3 z=>by
  rcases So.mp z with z | z
  ·obtain⟨ys,hy⟩:=h2
   rw[←z,h1] at hy
   cases hy
  ·obtain⟨e,he,rfl⟩:=TY.mp z
   obtain⟨u,hu⟩:=h3 e he
   rw[h1] at hu
   cases hu
 refine⟨_,rfl,lx,_,_,_,rfl,rfl,zK.of ex,g0,_,_,rfl,rfl,(by show (0:Int) < 9;decide),?_⟩
 have m0:0≤x0 % 9:=Ts _ (by decide)
 show zT 4 (V.int (x0 % 9)) [some (.ref p),some (.ref ls),some (.str lb),some (.ref lx),none,none,none,none,none,none] _ _
 generalize x0 % 9=kk at m0
 refine⟨_,rfl,1,rfl,ls,_,_,_,rfl,rfl,zK.of hK.el,HX,?_⟩
 show zT 5 (V.ref d) [some (.ref p),some (.ref ls),some (.str lb),some (.ref lx),some (.int kk),none,none,none,none,none] _ _
 walk_at "rd"
 refine zD (λh1=>?_) (λh1=>?_)
 ·obtain⟨lp,la,lr,ln,ll,vs,ep,_,_,_,eln,_⟩:=id hHH
  refine⟨_,rfl,p,_,_,_,rfl,rfl,jo.of ep,rfl,?_⟩
  show zT 6 (V.ref ln) [some (.ref p),some (.ref ls),some (.str lb),some (.ref lx),some (.int kk),some (.ref d),none,none,none,none] _ _
  walk_at "rd"
  intro a1 H1 s1 ha1 e1
  have e1':H1 a1=some (.lst ((((NZ c).drop 22).take 6).map V.str)):=by
   rw[←cf V.str (NZ c) 22 6 (by omega)]
   exact e1
  have eln1:=s1 _ _ eln
  walk_at "rd"
  intro a2 H2 s2 ha2 e2
  have e2':H2 a2=some (.lst (((NZ c).take 22).map V.str)):=by
   have:=cf V.str (NZ c) 0 22 (by omega)
   rw[Ep,E2] at this
   rw[←this]
   exact e2
  have l6:(((NZ c).drop 22).take 6).length=6:=by rw[S8,Nb,hN];rfl
  have l22:((NZ c).take 22).length=22:=by rw[S8,hN];rfl
  refine⟨a1,a2,_,_,rfl,rfl,s2 _ _ e1',e2',zg (by rw[Su,Su];omega),?_⟩
  intro a3 H3 s3 ha3 e3
  have e3':H3 a3=some (.lst ((((NZ c).drop 22).take 6 ++ (NZ c).take 22).map V.str)):=by rw[e3,SG]
  have sA:zp H H3:=(s1.trans s2).trans s3
  have j0:0≤x1 % 28 / (1 + x5 % 2):=zzF (Ts _ (by decide)) (by omega)
  have j1:x1 % 28 / (1 + x5 % 2) < 28:=by
   have h5:x5 % 2=0∨x5 % 2=1:=by omega
   rcases h5 with h5 | h5<;>rw[h5]<;>omega
  have hL:(((NZ c).drop 22).take 6 ++ (NZ c).take 22).length=28:=by rw[Sl,l6,l22]
  have hin:(((NZ c).drop 22).take 6 ++ (NZ c).take 22).getD (x1 % 28 / (1 + x5 % 2)).toNat ""∈(NZ c).take 28:=by
   have hm:(((NZ c).drop 22).take 6 ++ (NZ c).take 22).getD (x1 % 28 / (1 + x5 % 2)).toNat ""∈((NZ c).drop 22).take 6 ++ (NZ c).take 22:=by
    rw[Tx,Sn (show (x1 % 28 / (1 + x5 % 2)).toNat < (((NZ c).drop 22).take 6 ++ (NZ c).take 22).length by omega)]
    exact N4 _
   have e28:(NZ c).take 28=(NZ c).take 22 ++ ((NZ c).drop 22).take 6:=by rw[show (28:Nat)=22 + 6 from rfl,AD]
   rw[e28]
   rcases SI.mp hm with h | h
   ·exact SU _ h
   ·exact TZ _ h
  refine⟨_,rfl,lx,_,_,_,rfl,rfl,zK.of (sA _ _ ex),g1,_,_,rfl,rfl,(by show (0:Int) < 28;decide),?_⟩
  refine⟨_,rfl,lx,_,_,_,rfl,rfl,zK.of (sA _ _ ex),g5,_,_,rfl,rfl,(by show (0:Int) < 2;decide),_,_,rfl,rfl,_,_,rfl,rfl,(by walk_at "ar"),?_⟩
  refine⟨a3,_,_,_,rfl,rfl,zK.of e3',bA j0 (by omega),?_⟩
  generalize (((NZ c).drop 22).take 6 ++ (NZ c).take 22).getD (x1 % 28 / (1 + x5 % 2)).toNat "" = nw at hin ⊢
  clear e1 e1' e2 e2' e3 e3' eln1 ha1 ha2 ha3 s1 s2 s3 j0 j1 hL
  show zT 7 (V.str nw) [some (.ref p),some (.ref ls),some (.str lb),some (.ref lx),some (.int kk),some (.ref d),some (.ref ln),none,none,none] _ _
  walk_at "rd"
  intro tw H4 s4 htw e4
  have sB:=sA.trans s4
  refine⟨_,rfl,lx,_,_,_,rfl,rfl,zK.of (sB _ _ ex),g2,?_⟩
  refine⟨p,d,tw,c,ps,as,zb,o,HL,x2,rfl,hHH.same sB,hd,sB _ _ ed,jo.of e4,hO.bs,hO.Uv,by omega,b2.1,λv H5 s5 hv=>?_⟩
  have hv':zZ v=true∧∃b,lk o v=some b∧xS ps as zb b∈HL:=by
   refine hv.resolve_left λz=>?_
   obtain⟨q,hq⟩:=List.exists_mem_of_ne_nil _ hO.ne
   obtain⟨b,hb⟩:=Xp hq
   exact z.2 q.1 b hb (Bz hd (hO.bs q.1 b hb).1)
  obtain⟨hvn,b,hvb,_⟩:=hv'
  have sC:=sB.trans s5
  have ed5:=sC _ _ ed
  have hg:jS H5 d (kV (.inr v)) (some (V.str b)):=by
   have:=jS.k (k:=.inr v) ed5
   rw[kR,hvb] at this
   exact this
  show zT 8 (V.str v) [some (.ref p),some (.ref ls),some (.str lb),some (.ref lx),some (.int kk),some (.ref d),some (.ref ln),some (.str nw),none,none] _ _
  refine⟨_,rfl,_,rfl,d,_,rfl,hg,?_⟩
  walk_at "rd"
  refine⟨d,_,.inr nw,rfl,rfl,ed5,zg (by rw[wZ];omega),?_⟩
  intro H6 k6 e6
  rw[g8] at e6
  walk_at "rd"
  intro l H7 s7 hl e7
  have hK6:=(hK.same sC).put k6 e6 (hO.put hin hvb)
  have hl5:H5 l=none:=by
   rw[←k6 l (λz=>by rw[z,e6] at hl;cases hl)]
   exact hl
  refine k l H7 ["let",nw,"be",v] _ (λx u hx q=>?_) (sC.free hl5) e7 (hK6.same s7) (λx hx=>.inl (by simpa using TL (f:=zjz) hx)) (lno hl ⟨_,hK6.el⟩ λx hx=>⟨_,hK6.at' x hx⟩) (.inr ⟨.lt nw v,rfl,⟨tY c _ (Nu hin),hvn⟩,.inl rfl,?_⟩)
  ·refine s7 _ _ ?_
   rw[k6 x λz=>hx (by rw[z];simp [JL])]
   exact sC _ _ q
  ·rw[hrev]
   show (lk o v).bind _=_
   rw[hvb]
   simp
 show ∃M:L2.St→Hp→Prop,_∧_
 refine⟨λσ' H'=>(∃(v9:Option V),σ'=[some (.ref p),some (.ref ls),some (.str lb),some (.ref lx),some (.int kk),some (.ref d),none,none,none,v9]∧zp H H')∨False,?_,?_⟩
 ·walk_at "rd"
  intro tq H1 s1 htq e1
  refine⟨tq,_,rfl,.inr (jo.of e1),rfl,rfl,_,rfl,?_⟩
  refine zD (λh2=>?_) (λh2=>.inl ⟨_,rfl,s1⟩)
  have hK1:=hK.same s1
  refine⟨_,rfl,ls,_,rfl,.inl (zK.of hK1.el),_,_,rfl,rfl,_,rfl,?_⟩
  rw[Su]
  refine zD (λh3=>?_) (λh3=>.inl ⟨_,rfl,s1⟩)
  have h3':((es0 ++ [(d,o)]).length:Int) < 7:=zjj h3
  refine⟨_,rfl,_,rfl,_,rfl,_,rfl,p,d,lx,c,ps,as,zb,o,lb,xs,rfl,hHH.same s1,hd,s1 _ _ ed,hO.bs,hO.Uv,by omega,hlb,s1 _ _ ex,hxl,hxb,λl H2 rs s2 hl e2 z8 hns=>?_⟩
  have hK2:=hK1.same s2
  show zT 9 (V.ref l) [some (.ref p),some (.ref ls),some (.str lb),some (.ref lx),some (.int kk),some (.ref d),none,none,none,none] _ _
  refine⟨_,rfl,.inl ⟨rfl,_,zK.of hK2.el⟩,?_⟩
  refine⟨_,rfl,d,_,rfl,s2 _ _ (s1 _ _ ed),?_⟩
  intro d2 H3 s3 hd2 e3
  have hK3:=hK2.same s3
  refine⟨ls,_,_,rfl,rfl,hK3.el,zg (by rw[Su];omega),?_⟩
  intro H4 k4 e4
  have hnew:d2∉(es0 ++ [(d,o)]).map (·.1):=λz=>by
   obtain⟨x,hx,hxe⟩:=TY.mp z
   have q:=hK2.at' x hx
   rw[hxe,hd2] at q
   cases q
  have hK4:=hK3.push hnew (hK2.bs.free hd2) e3 hO (by omega) k4 e4
  have hll:l≠ls:=λz=>by have q:=hK1.el;rw[←z,hl] at q;cases q
  have sA:=s1.trans s2
  refine⟨_,rfl,?_⟩
  refine k l H4 (Ew.pt lb rs).ws _ (λx u hx q=>?_) (s1.free hl) (k4.look (s3 _ _ e2) hll) hK4 (λx hx=>?_) (λz=>?_) (.inr ⟨.pt lb rs,rfl,z8,.inr rfl,?_⟩)
  ·rw[k4 x λz=>hx (by rw[z];simp [JL])]
   exact s3 _ _ (sA _ _ q)
  ·rcases SI.mp hx with hx | hx
   ·exact .inl (TL hx)
   ·rw[SY.mp hx];exact .inr (sA.free hd2)
  ·rcases So.mp z with z | z
   ·exact hll z
   ·obtain⟨x,hx,hxe⟩:=TY.mp z
    (rcases SI.mp hx with hx | hx)
    ·have q:=hK1.at' x hx
     rw[hxe,hl] at q
     cases q
    ·rw[SY.mp hx] at hxe
     have hxe:d2=l:=hxe
     rw[hxe,e2] at hd2
     cases hd2
  ·rw[hrev]
   obtain⟨ns,hns⟩:=hns
   show (xJ _ o rs).bind _=_
   rw[hns]
   simp
 intro σ' H1 q
 obtain⟨v9,rfl,s1⟩:=q.resolve_right λz=>z
 clear q
 have hK1:=hK.same s1
 show ∃M:L2.St→Hp→Prop,_∧_
 refine⟨λσ' H'=>(σ'=[some (.ref p),some (.ref ls),some (.str lb),some (.ref lx),some (.int kk),some (.ref d),none,none,none,v9]∧H'=H1)∨False,?_,?_⟩
 ·walk_at "rd"
  refine zD (λh2=>?_) (λh2=>.inl ⟨rfl,rfl⟩)
  refine⟨_,rfl,ls,_,rfl,.inl (zK.of hK1.el),_,_,rfl,rfl,_,rfl,?_⟩
  rw[Su]
  refine zD (λh3=>?_) (λh3=>.inl ⟨rfl,rfl⟩)
  have h3':(1:Int) < ((es0 ++ [(d,o)]).length:Int):=zjj h3
  rw[Sl] at h3'
  simp only[Se,S1] at h3'
  refine⟨_,rfl,.inl ⟨rfl,_,zK.of hK1.el⟩,ls,_,.ref d,rfl,rfl,hK1.el,by simp,?_⟩
  intro H2 k2 e2
  have e2':H2 ls=some (.lst (es0.map λe=>.ref e.1)):=by rw[e2];simp
  have hK2:=hK1.pop (by omega) k2 e2'
  walk_at "rd"
  intro l H3 s3 hl e3
  have hls1:H1 l=none:=by
   rw[←k2 l (λz=>by rw[z,e2'] at hl;cases hl)]
   exact hl
  refine k l H3 ["done"] es0 (λx u hx q=>?_) (s1.free hls1) e3 (hK2.same s3) (λx hx=>.inl (by simpa using SA ⟨x.2,hx⟩)) (lno hl ⟨_,e2'⟩ λx hx=>⟨_,hK2.at' x hx⟩) (.inr ⟨.dn,rfl,T9,.inl rfl,?_⟩)
  ·refine s3 _ _ ?_
   rw[k2 x λz=>hx (by rw[z];simp [JL])]
   exact s1 _ _ q
  ·rw[hrev]
   show (if (es0.map (·.2)).reverse=[] then none else some (es0.map (·.2)).reverse)=_
   rw[if_neg λz=>by
    have:=congrArg Nc z
    simp at this
    rw[this] at h3'
    simp at h3']
 intro σ' H2 q
 obtain⟨rfl,rfl⟩:=q.resolve_right λz=>z
 clear q
 refine⟨_,rfl,_,rfl,_,rfl,_,rfl,?_⟩
 refine⟨p,d,lx,c,ps,as,zb,o,lb,xs,rfl,hHH.same s1,hd,s1 _ _ ed,hO.bs,hO.Uv,by omega,hlb,s1 _ _ ex,hxl,hxb,λl H3 ws s3 hl e3 hws=>?_⟩
 have s13:=s1.trans s3
 refine k l H3 ws _ (BD s13) (s1.free hl) e3 (hK.same s13) (λx hx=>.inl (TL hx)) (lno hl ⟨_,hK1.el⟩ λx hx=>⟨_,hK1.at' x hx⟩) ?_
 rcases hws with hws | ⟨e,hws,z8,hlab,cc,hcc,hcl⟩
 ·exact .inl ⟨hws,rfl⟩
 ·refine .inr ⟨e,hws,z8,.inr hlab,?_⟩
  rw[hrev]
  obtain⟨f,hf⟩:=hcl [] 0
  cases e<;>first | (cases hcc;done) | (cases hcc;show (bo _ _ _ _ _ _ _ _ [] 0).bind _=_;rw[hf];rfl) | skip
end
def fO (H:Hp) (v:V) (e:Ew):Prop:=∃l,v=.ref l∧H l=some (.lst (e.ws.map V.str))
theorem fO.same {H H':Hp} {v:V} {e:Ew} (h:fO H v e) (s:zp H H'):fO H' v e:=by
 obtain⟨l,e,h⟩:=h
 exact⟨l,e,s _ _ h⟩
def mj (kd:Str→Str):List Ew→List Ow→Option (List Ow)
 | [],st=>some st
 | e :: es,st=>(G0 kd e st).bind λs=>mj kd es s
theorem oP (kd:Str→Str) (bs:List Ew):∀(as:List Ew) (st:List Ow),mj kd (as ++ bs) st=(mj kd as st).bind λs=>mj kd bs s
 | [],st=>by rw[Ta,mj];rfl
 | e :: as,st=>by
  rw[T8,mj,mj]
  cases G0 kd e st with
  | none=>rfl
  | some s=>exact oP kd bs as s
theorem Ga (kd:Str→Str) (e:Ew) (st:List Ow):mj kd [e] st=G0 kd e st:=by
 rw[mj]
 cases G0 kd e st<;>rfl
theorem Zk:∀{as bs:List Ew} {d d1 d2:Nat},Zx d as=some d1→Zx d1 bs=some d2→Zx d (as ++ bs)=some d2
 | [],bs,d,d1,d2,h1,h2=>by cases h1;exact h2
 | e :: as,bs,d,d1,d2,h1,h2=>by
  rw[Zx] at h1
  rw[T8,Zx]
  cases hd:dp d e with
  | none=>rw[hd] at h1;cases h1
  | some x=>rw[hd] at h1;exact Zk (d:=x) h1 h2
theorem HC (d:Nat) (e:Ew):Zx d [e]=dp d e:=by
 rw[Zx]
 cases dp d e<;>rfl
theorem G1 {kd:Str→Str} {e:Ew} {o:Ow} {st st2:List Ow} {c:Int × Str × Str × Str × Int × Str} (hc:e.Qs=some c) (h:G0 kd e (o :: st)=some st2):st2=o :: st∧∃f,bo kd o c.1 c.2.1 c.2.2.1 c.2.2.2.1 c.2.2.2.2.1 c.2.2.2.2.2 [] 0=some f:=by
 have h':(e.Qs).bind (λc=>(bo kd o c.1 c.2.1 c.2.2.1 c.2.2.2.1 c.2.2.2.2.1 c.2.2.2.2.2 [] 0).bind λ_=>some (o :: st))=some st2:=by
  cases e<;>first | exact h | cases hc
 rw[hc,Sa] at h'
 cases q:bo kd o c.1 c.2.1 c.2.2.1 c.2.2.2.1 c.2.2.2.2.1 c.2.2.2.2.2 [] 0 with
 | none=>rw[q] at h';cases h'
 | some f=>rw[q] at h';exact⟨(Tq h').symm,f,rfl⟩
theorem MA {kd:Str→Str} {e:Ew} {o:Ow} {st st2:List Ow} (h:G0 kd e (o :: st)=some st2) (h7:st2.length≤7):1≤st2.length∧dp st.length e=some (st2.length - 1):=by
 have cl:∀{c},e.Qs=some c→dp st.length e=some st.length→1≤st2.length∧dp st.length e=some (st2.length - 1):=λ{c} hc hd=>by
  obtain⟨rfl,_⟩:=G1 hc h
  exact⟨by simp,by rw[hd];simp⟩
 cases e with
 | lt a b=>
  have h':(lk o b).bind (λx=>some (pu o a x :: st))=some st2:=h
  cases q:lk o b with
  | none=>rw[q] at h';cases h'
  | some x=>rw[q] at h';cases h';exact⟨by simp,by simp [dp]⟩
 | mu l w a n r=>exact cl rfl rfl
 | my l w a=>exact cl rfl rfl
 | bn l w a r=>exact cl rfl rfl
 | pw l w a r=>exact cl rfl rfl
 | pt n rs=>
  have h':(xJ kd o rs).bind (λ_=>some (o :: o :: st))=some st2:=h
  cases q:xJ kd o rs with
  | none=>rw[q] at h';cases h'
  | some x=>
   rw[q] at h'
   cases h'
   simp only[Se] at h7
   exact⟨by simp,by simp only[dp,Se];rw[if_pos (by omega)];rfl⟩
 | dn=>
  have h':(if st=[] then none else some st)=some st2:=h
  split at h'
  ·cases h'
  ·cases h'
   have hp:0 < st.length:=IL.mpr (by assumption)
   exact⟨hp,by simp only[dp];rw[if_pos hp]⟩
theorem HH {kd:Str→Str} {o:Ow} {k:Int} {l u a:Str} {n:Int} {r:Str} {f:Fl} {zb:List Str} {d:Int} (h:bo kd o k l u a n r [] 0=some f):bo kd o k l u a n r zb d=some { f with zb:=zb,d:=d }:=by
 unfold bo at h ⊢
 cases q1:jK (bE kd o 0 u) with
 | none=>rw[q1] at h;cases h
 | some w=>
  rw[q1,Sa] at h
  cases q2:jK (bE kd o 1 a) with
  | none=>rw[q2] at h;cases h
  | some a'=>
   rw[q2,Sa] at h
   cases q3:jK (rj kd o k r) with
   | none=>rw[q3] at h;cases h
   | some r'=>rw[q3] at h;cases h;rfl
theorem Va {kd:Str→Str} {o:Ow} {rs zb ns:List Str} (h:xJ kd o rs=some ns):∃cv,pz kd o rs zb=some cv:=by
 unfold pz
 split
 ·exact⟨_,rfl⟩
 ·rw[h];exact⟨_,rfl⟩
theorem CS {kd:Str→Str} {e:Ew} {S:List (Ow × List Str)} {st2:List Ow} (h:G0 kd e (S.map (·.1))=some st2):∃p,Ho kd e S=some p∧p.2.map (·.1)=st2:=by
 cases S with
 | nil=>cases h
 | cons or S=>
  obtain⟨o,zb⟩:=or
  have cl:∀{c},e.Qs=some c→Ho kd e ((o,zb) :: S)=(e.Qs.bind λc=>(bo kd o c.1 c.2.1 c.2.2.1 c.2.2.2.1 c.2.2.2.2.1 c.2.2.2.2.2 zb S.length).bind λf=>some ([f],(o,zb) :: S))→∃p,Ho kd e ((o,zb) :: S)=some p∧p.2.map (·.1)=st2:=λ{c} hc hd=>by
   obtain⟨rfl,f,hf⟩:=G1 hc (show G0 kd e (o :: S.map (·.1))=some st2 from h)
   rw[hd,hc,Sa,HH hf]
   exact⟨_,rfl,rfl⟩
  cases e with
  | lt a b=>
   have h':(lk o b).bind (λx=>some (pu o a x :: S.map (·.1)))=some st2:=h
   show ∃p,(lk o b).bind _=some p∧_
   cases q:lk o b with
   | none=>rw[q] at h';cases h'
   | some x=>rw[q] at h';cases h';exact⟨_,rfl,rfl⟩
  | mu l w a n r=>exact cl rfl rfl
  | my l w a=>exact cl rfl rfl
  | bn l w a r=>exact cl rfl rfl
  | pw l w a r=>exact cl rfl rfl
  | pt n rs=>
   have h':(xJ kd o rs).bind (λ_=>some (o :: o :: S.map (·.1)))=some st2:=h
   cases q:xJ kd o rs with
   | none=>rw[q] at h';cases h'
   | some x=>
    rw[q] at h'
    cases h'
    obtain⟨cv,hcv⟩:=Va (zb:=zb) q
    show ∃p,(pz kd o rs zb).bind _=some p∧_
    rw[hcv]
    exact⟨_,rfl,rfl⟩
  | dn=>
   have h':(if S.map (·.1)=[] then none else some (S.map (·.1)))=some st2:=h
   show ∃p,(if S=[] then none else some (([]:List Fl),S))=some p∧_
   cases S with
   | nil=>cases h'
   | cons x S=>cases h';exact⟨_,rfl,rfl⟩
theorem Ge {kd:Str→Str}:∀{es:List Ew} {S:List (Ow × List Str)} {st2:List Ow},mj kd es (S.map (·.1))=some st2→∃p,xR kd es S=some p∧p.2.map (·.1)=st2
 | [],S,st2,h=>by cases h;exact⟨_,rfl,rfl⟩
 | e :: es,S,st2,h=>by
  rw[mj] at h
  cases q:G0 kd e (S.map (·.1)) with
  | none=>rw[q] at h;cases h
  | some s=>
   rw[q,Sa] at h
   obtain⟨p,hp,rfl⟩:=CS q
   obtain⟨p2,hp2,hp3⟩:=Ge h
   rw[xR,hp,Sa,hp2]
   exact⟨_,rfl,hp3⟩
structure Kf (kd:Str→Str) (K0:Ow) (evs:List Ew):Prop where
 ok:∀e∈evs,e.ok
 dp:Zx 0 evs=some 0
 nd:(jH evs).Nodup
 ln:evs.length≤42
 rn:∃o2,mj kd evs [yw K0]=some [o2]
theorem Vx {kd:Str→Str}:∀{st:List Ow} {o:Ow},∃o2,mj kd (Tb st.length .dn) (o :: st)=some [o2]
 | [],o=>⟨o,rfl⟩
 | x :: st,o=>by
  obtain⟨o2,h⟩:=Vx (kd:=kd) (st:=st) (o:=x)
  refine⟨o2,?_⟩
  rw[Se,Np,mj]
  show Ea (if x :: st=[] then none else some (x :: st)) _=_
  rw[if_neg (by simp),Sa]
  exact h
theorem Yh:∀n:Nat,Zx n (Tb n .dn)=some 0
 | 0=>rfl
 | n + 1=>by
  rw[Np,Zx]
  show Ea (if 0 < n + 1 then some (n + 1 - 1) else none) _=_
  rw[if_pos (by omega),Sa]
  exact Yh n
theorem Q2 (a b:List Ew):jH (a ++ b)=jH a ++ jH b:=by unfold jH;simp
theorem KS:∀n:Nat,jH (Tb n .dn)=[]
 | 0=>rfl
 | n + 1=>by rw[Np];exact KS n
theorem Kf.close {kd:Str→Str} {K0:Ow} {evs:List Ew} {st:List Ow} (h1:∀e∈evs,e.ok) (h2:Zx 0 evs=some (st.length - 1)) (h3:(jH evs).Nodup) (h4:evs.length≤36) (h5:mj kd evs [yw K0]=some st) (h6:1≤st.length) (h7:st.length≤7):Kf kd K0 (evs ++ Tb (st.length - 1) .dn):=by
 refine⟨λe he=>?_,Zk h2 (Yh _),by rw[Q2,KS,Tt];exact h3,by rw[Sl,Nf];omega,?_⟩
 ·(rcases SI.mp he with he | he)
  ·exact h1 e he
  ·rw[List.eq_of_mem_replicate he];trivial
 ·rw[oP,h5,Sa]
  cases st with
  | nil=>simp at h6
  | cons o st=>exact Vx
theorem Ya {c:Int} {ps as:List Str} {zb:List (Str × Str)} (h:Dh c ps as zb):lO c (xS ps as zb) (j9 ps as zb) (yw (j9 ps as zb)):=by
 have hk:=gw ps as zb
 have hn:((j9 ps as zb).map (·.1)).Nodup:=by rw[hk];exact h.hd.nd
 refine⟨by rw[cG];exact hn,λn hm=>by rw[cG,hk] at hm;exact h.wd n hm,λz b hz=>?_,λz=>?_⟩
 ·obtain⟨p,hp,e⟩:=TY.mp (KA hz)
  have e1:p.1=b:=congrArg Prod.snd e
  subst e1
  refine⟨?_,?_⟩
  ·have:=YG hn hp
   unfold xS
   rw[this]
   rfl
  ·have hm:p.1∈ps ++ as ++ zb.map (·.2):=by rw[←hk];exact TL hp
   exact tY c _ (Nu (h.wd _ hm))
 ·have:=congrArg Nc z
  have hp:=h.hd.p1
  unfold yw j9 at this
  rw[Su,Sl,Sl,Su] at this
  simp only[S1] at this
  omega
theorem Vq {α:Type} (x:α):∀n:Nat,(Tb n [x]).flatten=Tb n x
 | 0=>rfl
 | n + 1=>by rw[Np,OR,Vq x n];rfl
theorem Jt {H:Hp} {l:Addr} (h:H l=some (.lst ((Ew.dn).ws.map V.str))):∀n:Nat,Paired (fO H) (Tb n (V.ref l)) (Tb n Ew.dn)
 | 0=>.nil
 | n + 1=>.cons ⟨l,rfl,h⟩ (Jt h n)
theorem sub_snoc {α:Type} {as xs:List α} {i:Nat} {x:α} (h:as.Sublist (xs.take i)) (hx:xs[i]?=some x):(as ++ [x]).Sublist (xs.take (i + 1)):=by
 rw[take_snoc hx]
 exact h.append (zzd _)
theorem JP {α:Type} {as xs:List α} {i:Nat} (h:as.Sublist (xs.take i)):as.Sublist (xs.take (i + 1)):=by
 refine h.trans ?_
 rw[AQ]
 exact List.sublist_append_left _ _
section
variable {P:SM} {w:Tj} {K:Sd} {mg:Str→Option Sr} {base:Heap} {t:z5}
def P4 (K:Sd):Sp:=λvs H Q _=>∃(a p:Addr) (ns:List Int) (c:Int) (ps as:List Str) (zb:List (Str × Str)) (ve:List Str),vs=[.ref a,.ref p,.int 36]∧zK K H a (ns.map V.int)∧mO H p c ps as zb∧Dh c ps as zb∧DQ H p ve∧Fd ve∧
 ∀l H' vs evs,zp H H'→H l=none→H' l=some (.lst vs)→Paired (fO H') vs evs→Kf (xS ps as zb) (j9 ps as zb) evs→Q (.ref l) H'
structure lA (c:Int) (kd:Str→Str) (K0:Ow) (ve:List Str) (B H:Hp) (ls lr:Addr) (i:Nat) (es:List (Addr × Ow)) (vs:List V) (evs:List Ew):Prop where
 sk:bI c kd K0 B H ls es
 el:H lr=some (.lst vs)
 bl:B lr=none
 pr:Paired (fO H) vs evs
 nl:lr∉JL ls es
 nv:∀l,V.ref l∈vs→l∉JL ls es∧l≠lr
 ok:∀e∈evs,e.ok
 dp:Zx 0 evs=some (es.length - 1)
 lb:(jH evs).Sublist (ve.take i)
 ln:evs.length≤i
 rn:mj kd evs [yw K0]=some (es.map (·.2)).reverse
theorem Vz {H H':Hp} {vs:List V} {evs:List Ew} (h:Paired (fO H) vs evs) (hk:∀l,V.ref l∈vs→∀u,H l=some u→H' l=some u):Paired (fO H') vs evs:=Paired.VM h λv hv e z=>by
 obtain⟨l,rfl,z⟩:=z
 exact⟨l,rfl,hk l hv _ z⟩
theorem Km {H:Hp} {ls lr:Addr} {es es2:List (Addr × Ow)} {u:HO} (h:lr∉JL ls es) (h2:∀e∈es2,e.1∈es.map (·.1)∨H e.1=none) (hl:H lr=some u):lr∉JL ls es2:=λz=>by
 rcases So.mp z with z | z
 ·exact h (by rw[z];exact Tu)
 ·obtain⟨e,he,hee⟩:=TY.mp z
  rcases h2 e he with q | q
  ·rw[hee] at q;exact h (SV _ q)
  ·rw[hee,hl] at q;cases q
theorem lA.next {c:Int} {kd:Str→Str} {K0:Ow} {ve:List Str} {B H H2 H3:Hp} {ls lr l:Addr} {i:Nat} {es es2:List (Addr × Ow)} {vs:List V} {evs:List Ew} {e:Ew} {lb:Str} (h:lA c kd K0 ve B H ls lr i es vs evs) (f:Fm (JL ls es) H H2) (hl:H l=none) (el:H2 l=some (.lst (e.ws.map V.str))) (hk:bI c kd K0 B H2 ls es2) (h2:∀e∈es2,e.1∈es.map (·.1)∨H e.1=none) (hn:l∉JL ls es2)
  (ho:e.ok) (hla:yL e=[]∨yL e=[lb]) (hlb:ve[i]?=some lb) (hst:G0 kd e (es.map (·.2)).reverse=some (es2.map (·.2)).reverse) (k3:Keeps lr H2 H3) (e3:H3 lr=some (.lst (vs ++ [.ref l]))):lA c kd K0 ve B H3 ls lr (i + 1) es2 (vs ++ [.ref l]) (evs ++ [e]):=by
 have nl2:=Km h.nl h2 h.el
 have hlr:l≠lr:=λz=>by rw[z,h.el] at hl;cases hl
 have nr:∀x∈es2,x.1≠lr:=λx hx z=>nl2 (SV _ (by rw[←z];exact TL hx))
 have nls:ls≠lr:=λz=>nl2 (by rw[←z];exact Tu)
 have hlen:((es2.map (·.2)).reverse).length=es2.length:=by simp
 refine⟨⟨k3.look hk.el nls,λx hx=>k3.look (hk.at' x hx) (nr x hx),hk.nd,hk.ok,hk.n1,hk.n7,k3.put hk.bs h.bl,hk.bl,hk.bd⟩,e3,h.bl,?_,nl2,λa ha=>?_,λx hx=>?_,?_,?_,?_,?_⟩
 ·refine Paired.Vs (.cons ⟨l,rfl,k3.look el hlr⟩ .nil) (Vz h.pr λa ha u hu=>?_)
  exact k3.look (f a u (h.nv a ha).1 hu) (h.nv a ha).2
 ·(rcases SI.mp ha with ha | ha)
  ·have:∃u,H a=some u:=by
    obtain⟨j,hj,hje⟩:=List.mem_iff_getElem.mp ha
    obtain⟨e',_,b,hb,hu⟩:=Paired.ZP (i:=j) h.pr (by rw[Sn hj,hje])
    cases hb
    exact⟨_,hu⟩
   obtain⟨u,hu⟩:=this
   exact⟨Km (h.nv a ha).1 h2 hu,(h.nv a ha).2⟩
  ·cases SY.mp ha
   exact⟨hn,hlr⟩
 ·rcases SI.mp hx with hx | hx
  ·exact h.ok x hx
  ·rw[SY.mp hx];exact ho
 ·refine Zk h.dp ?_
  rw[HC]
  have hsp:∃o st,(es.map (·.2)).reverse=o :: st∧st.length=es.length - 1:=by
   have h1:=h.sk.n1
   have hl':((es.map (·.2)).reverse).length=es.length:=by simp
   cases q:(es.map (·.2)).reverse with
   | nil=>rw[q] at hl';simp at hl';omega
   | cons o st=>rw[q] at hl';exact⟨o,st,rfl,by simp only[Se] at hl';omega⟩
  obtain⟨o,st,q,ql⟩:=hsp
  rw[q] at hst
  have:=(MA hst (by rw[hlen];exact hk.n7)).2
  rw[hlen,ql] at this
  exact this
 ·rw[Q2]
  have e1:jH [e]=yL e:=by simp [jH]
  rw[e1]
  rcases hla with z | z
  ·rw[z,Tt];exact JP h.lb
  ·rw[z];exact sub_snoc h.lb hlb
 ·have:=h.ln
  rw[Sl]
  (simp only[Se,S1])
  omega
 ·rw[oP,h.rn,Sa,Ga]
  exact hst
theorem lA.skip {c:Int} {kd:Str→Str} {K0:Ow} {ve:List Str} {B H H2:Hp} {ls lr:Addr} {i:Nat} {es:List (Addr × Ow)} {vs:List V} {evs:List Ew} (h:lA c kd K0 ve B H ls lr i es vs evs) (f:Fm (JL ls es) H H2) (hk:bI c kd K0 B H2 ls es):lA c kd K0 ve B H2 ls lr (i + 1) es vs evs:=
 ⟨hk,f _ _ h.nl h.el,h.bl,Vz h.pr λa ha u hu=>f a u (h.nv a ha).1 hu,h.nl,h.nv,h.ok,h.dp,JP h.lb,Nm h.ln,h.rn⟩
theorem lA.same {c:Int} {kd:Str→Str} {K0:Ow} {ve:List Str} {B H H2:Hp} {ls lr:Addr} {i:Nat} {es:List (Addr × Ow)} {vs:List V} {evs:List Ew} (h:lA c kd K0 ve B H ls lr i es vs evs) (s:zp H H2):lA c kd K0 ve B H2 ls lr i es vs evs:=
 ⟨h.sk.same s,s _ _ h.el,h.bl,Paired.imp' (λ_ _ z=>z.same s) h.pr,h.nl,h.nv,h.ok,h.dp,h.lb,h.ln,h.rn⟩
theorem VX {e:Ew} (h:e.ok):T6 (.list (e.ws.map Nz))=true:=qV λx hx=>(Ew.wk h x hx).1.as.ok
seal NZ
theorem gX:zd ["_law_script","_law_header_here","_law_most","_law_rows_here","_law_stack","_law_k","_law_row"] ["_law_script","_law_header_here","_law_most"] (zy JJ):=by walk_at "sc"
theorem Wq (T:Txt K mg t):zo P w K mg base zC 5 t.nQ t.tO ["_law_script","_law_header_here","_law_most"] (P4 K):=by
 have G_w_cell:zo P w K mg base zC 4 t.pB t.pQ ["_law_script","_law_k"] (Vv K):=(rX T).mono (by decide)
 have G_w_next:zo P w K mg base zC 4 t.nZ t.tN ["_law_header_here","_law_stack","_law_label","_law_xs"] (PR K):=(Wz T).mono (by decide)
 have G_w_scope:zo P w K mg base zC 4 t.fV t.fX ["_law_header_here"] GA:=(oK T).mono (by decide)
 have G_w_stream:zo P w K mg base zC 4 t.dc t.dj ["_law_number","_law_many"] P5:=(Jf T).mono (by decide)
 refine T.Qc.fn.ok gX (by walk_at "ln") ?_;walk_at "hd"
 obtain⟨a,p,ns,c,ps,as,zb,ve,rfl,hA,hH,hZ,hL,hLb,k⟩:=h
 refine⟨_,(zj (za (i:=3) gX.nd rfl (SA rfl) (zP zq) jX)
   (zj (za (i:=4) gX.nd rfl (SA rfl) (zP (zz (ze G_w_scope hr rfl T.bh.mg T.bh.fn.kp T.bh.bd .nil zJ (zz (pv 1) zq)) zq)) jX)
   (zj (jg TJ rfl (xM rfl T.vU (zz (zi z7 (ze G_w_cell hr rfl T.jn.mg T.jn.fn.kp T.jn.bd .nil zJ (zz (pv 0) (zz zx zq))) (zi qp (pv 2) zx)) zq)) (zM (i:=5) gX.nd rfl (SA rfl))
    (zj (za (i:=6) gX.nd rfl (SA rfl) (ze G_w_next hr rfl T.w_next.mg T.w_next.fn.kp T.w_next.bd .nil zJ (zz (pv 1) (zz (pv 4) (zz (zu (zv (K:=K) rfl) (zu (qH (K:=K) rfl) (pv 1) zx (λ_ _=>rfl)) (pv 5) (λ_ _=>rfl)) (zz (ze G_w_stream hr rfl T.uJ.mg T.uJ.fn.kp T.uJ.bd .nil zJ (zz (ze G_w_cell hr rfl T.jn.mg T.jn.fn.kp T.jn.bd .nil zJ (zz (pv 0) (zz (zi qp zx (pv 5)) zq))) (zz zx zq))) zq))))))
   (zk (PS.join (zW (zc (ZL (K:=K) rfl hr.units) (pv 6) (zP zq) (zQ _))
    (zk (zO (qC SS S9 Tz qk (pv 3) (zz (pv 6) zq)))) zr)))))
   (zk (zf (zi vG (pv 3) (zi Mu (zP (zz (zP (zz zw zq)) zq)) (zi dD (zX (zH (K:=K) rfl) rfl T.qo S5 (zz (pv 4) zq)) zx)))))))),?_⟩
 walk_at "rd"
 intro lr H1 s1 hlr e1
 show zT 3 (V.ref lr) [some (.ref a),some (.ref p),some (.int 36),none,none,none,none] _ _
 refine⟨_,rfl,p,c,ps,as,zb,rfl,hH.same s1,hZ.hd,λd H2 s2 hd0 e2=>?_⟩
 walk_at "rd"
 intro ls H3 s3 hls e3
 show zT 4 (V.ref ls) [some (.ref a),some (.ref p),some (.int 36),some (.ref lr),none,none,none] _ _
 have s13:=(s1.trans s2).trans s3
 have hlsH:H ls=none:=(s1.trans s2).free hls
 have hdH:H d=none:=s1.free hd0
 have e2':=s3 _ _ e2
 have e1':=s3 _ _ (s2 _ _ e1)
 have st0:lA c (xS ps as zb) (j9 ps as zb) ve H H3 ls lr 0 [(d,yw (j9 ps as zb))] [] []:=by
  refine⟨⟨e3,λx hx=>?_,by simp,λx hx=>?_,by simp,by simp,s13,hlsH,λx hx=>?_⟩,e1',hlr,.nil,λz=>?_,λl hl=>(by cases hl),λe he=>(by cases he),rfl,List.nil_sublist _,SD _,rfl⟩
  ·rw[SY.mp hx];exact e2'
  ·rw[SY.mp hx];exact Ya hZ
  ·rw[SY.mp hx];exact hdH
  ·simp only[JL,SE,Nk,So,Tw,or_false] at z
   rcases z with z | z
   ·rw[z,e3] at e1';cases e1'
   ·rw[z,e2'] at e1';cases e1'
 walk_at "rd"
 refine⟨a,3,ns,rfl,s13.seq hA,by decide,by decide,λcell c0 c1=>?_⟩
 have m0:0≤cell % (36 + 1):=Ts _ (by decide)
 have m1:cell % (36 + 1) < 37:=Tp _ (by decide)
 walk_at "rd"
 refine kG (lo:=0) (n:=(cell % (36 + 1)).toNat) (λi σ H'=>(∃(es:List (Addr × Ow)) (vs:List V) (evs:List Ew) (v5 v6:Option V),σ=[some (.ref a),some (.ref p),some (.int 36),some (.ref lr),some (.ref ls),v5,v6]∧lA c (xS ps as zb) (j9 ps as zb) ve H H' ls lr i es vs evs)∨False) (.inl ⟨_,_,_,none,none,rfl,st0⟩) ?_ ?_
 ·intro i σ H4 hi q
  obtain⟨es,vs,evs,v5,v6,rfl,st⟩:=q.resolve_right λz=>z
  clear q
  have s4:=st.sk.bs
  have hll:=hLb.ln
  have hi':i < 37:=by omega
  rw[O1]
  obtain⟨lb,hlb⟩:∃lb,ve[i]?=some lb:=⟨_,Sn (show i < ve.length by omega)⟩
  have hlbn:=hLb.nm lb (SN hlb)
  obtain⟨ga,gb,gc,gd,ll,ep,ell⟩:=hL.same s4
  have gl:vC (ve.map V.str) (i:Int)=some (.str lb):=kT (by rw[SW,hlb];rfl)
  refine⟨_,rfl,_,rfl,_,rfl,p,_,_,_,rfl,rfl,jo.of ep,rfl,_,rfl,ll,_,_,_,rfl,rfl,zK.of ell,gl,?_⟩
  walk_at "rd"
  refine⟨a,6 + (i:Int),ns,rfl,s4.seq hA,by omega,by omega,λcell2 d0 d1=>?_⟩
  walk_at "rd"
  intro lx H5 xs s5 hlx e5 hx hb
  have st5:=st.same s5
  refine⟨H,p,ls,lx,c,ps,as,zb,es,lb,xs,rfl,st5.sk,hH,hZ,hlbn,e5,hx,hb,λl H6 ws es2 f6 hl e6 hk6 ho6 hn6 hr6=>?_⟩
  show zT 6 (V.ref l) [some (.ref a),some (.ref p),some (.int 36),some (.ref lr),some (.ref ls),some (.int (i:Int)),v6] _ _
  show ∃M:L2.St→Hp→Prop,_∧_
  refine⟨λσ' H'=>(∃(es:List (Addr × Ow)) (vs:List V) (evs:List Ew),σ'=[some (.ref a),some (.ref p),some (.int 36),some (.ref lr),some (.ref ls),some (.int (i:Int)),some (.ref l)]∧lA c (xS ps as zb) (j9 ps as zb) ve H H' ls lr (i + 1) es vs evs)∨False,?_,?_⟩
  ·walk_at "rd"
   intro l7 H7 s7 hl7 e7
   have sh2:T6 (.list (([]:List Str).map Nz))=true:=qV λx hx=>by cases hx
   have sh1:T6 (.list (ws.map Nz))=true:=by
    rcases hr6 with ⟨rfl,_⟩ | ⟨e,rfl,ho,_⟩
    ·exact sh2
    ·exact VX ho
   refine⟨_,_,cq.lst (zK.of (s7 _ _ e6)) (vf.strs _),cq.lst (zK.of e7) (vf.strs []),sh1,sh2,?_⟩
   rw[pV]
   walk_at "rd"
   refine zD (λh1=>?_) (λh1=>?_)
   ·have hne:ws≠[]:=λz=>by rw[z] at h1;simp at h1
    rcases hr6 with ⟨z,_⟩ | ⟨e,rfl,ho,hla,hst⟩
    ·exact absurd z hne
    have hk7:=hk6.same s7
    have f7:=f6.same s7
    have el7:=f7 _ _ st5.nl st5.el
    have hvl:vs.length=evs.length:=TF st.pr
    have hvn:=st.ln
    walk_at "rd"
    intro H8 k8 e8
    exact .inl ⟨_,_,_,rfl,st5.next f7 hl (s7 _ _ e6) hk7 ho6 hn6 ho hla hlb hst k8 e8⟩
   ·have he:ws=[]:=by
     by_cases z:ws=[]
     ·exact z
     ·exact absurd (by simpa using z) h1
    rcases hr6 with ⟨_,rfl⟩ | ⟨e,z,_⟩
    ·exact .inl ⟨_,_,_,rfl,(st5.skip f6 hk6).same s7⟩
    ·exact absurd (z.symm.trans he) e.ne
  ·intro σ' H7 q
   obtain⟨es3,vs3,evs3,rfl,st7⟩:=q.resolve_right λz=>z
   exact .inl ⟨_,_,_,_,_,rfl,st7⟩
 intro σ H4 q
 obtain⟨es,vs,evs,v5,v6,rfl,st⟩:=q.resolve_right λz=>z
 clear q
 walk_at "rd"
 intro l5 H5 s5 hl5 e5
 refine⟨zg (by show 1≤1000;decide),?_⟩
 intro l6 H6 s6 hl6 e6
 have st6:=(st.same s5).same s6
 have n1:=st.sk.n1
 have n7:=st.sk.n7
 have hln:=st.ln
 have hvl:vs.length=evs.length:=TF st.pr
 refine⟨_,rfl,ls,_,rfl,.inl (zK.of st6.sk.el),_,_,rfl,rfl,?_⟩
 rw[Su]
 have ek:(((es.length:Nat):Int) - 1).toNat=es.length - 1:=by omega
 refine⟨l6,_,_,rfl,rfl,e6,by omega,by omega,zg (by rw[ek];simp only[Se,S1];omega),?_⟩
 intro l7 hl7
 rw[ek,Vq]
 have e7:upd H6 l7 (.lst (Tb (es.length - 1) (V.ref l5))) l7=some (.lst (Tb (es.length - 1) (V.ref l5))):=zm
 have s7:zp H6 (upd H6 l7 (.lst (Tb (es.length - 1) (V.ref l5)))):=λb u q=>by
  rw[zG λz=>by rw[z,hl7] at q;cases q]
  exact q
 generalize upd H6 l7 (.lst (Tb (es.length - 1) (V.ref l5)))=H7 at e7 s7 ⊢
 have st7:=st6.same s7
 refine⟨lr,l7,_,_,rfl,rfl,st7.el,e7,zg (by rw[Nf];omega),?_⟩
 intro l8 H8 s8 hl8 e8
 have hrl:((es.map (·.2)).reverse).length=es.length:=by simp
 have e5':H8 l5=some (.lst ((Ew.dn).ws.map V.str)):=s8 _ _ (s7 _ _ (s6 _ _ e5))
 refine k l8 H8 _ (evs ++ Tb (es.length - 1) .dn) (st7.sk.bs.trans s8) (st7.sk.bs.free hl8) e8 (Paired.Vs (Jt e5' _) (Paired.imp' (λ_ _ z=>z.same s8) st7.pr)) ?_
 have:=Kf.close (kd:=xS ps as zb) (K0:=j9 ps as zb) (st:=(es.map (·.2)).reverse) st.ok (by rw[hrl];exact st.dp) (st.lb.nodup ?_) (by omega) st.rn (by rw[hrl];exact n1) (by rw[hrl];exact n7)
 ·rw[hrl] at this
  exact this
 ·exact(OU _ _).nodup hLb.nd
end
def P7 (K:Sd):Sp:=λvs H Q _=>∃(p l:Addr) (c:Int) (ps as:List Str) (zb:List (Str × Str)) (ws:List V) (evs:List Ew),vs=[.ref p,.ref l]∧mO H p c ps as zb∧Ql ps as zb∧H l=some (.lst ws)∧Paired (fO H) ws evs∧(∀e∈evs,e.ok)∧evs.length≤130∧∀H',zp H H'→Q (.str (Ni (SR "; ") (rowsOf ps as zb evs))) H'
theorem Js:∀{ws:List V} {evs:List Ew} {H:Hp} {ys:List V},Paired (fO H) ws evs→ys.length=ws.length→(∀(i:Nat) (v:V) (e:Ew),evs[i]?=some e→ys[i]?=some v→v=.str e.row)→ys=(evs.map Ew.row).map V.str
 | [],[],_,ys,_,hl,_=>by cases ys with | nil=>rfl | cons a r=>simp at hl
 | _ :: ws,e :: evs,H,ys,.cons h t,hl,hv=>by
  cases ys with
  | nil=>simp at hl
  | cons y r=>
   rw[hv 0 y e rfl rfl,Js t (by simpa using hl) λi v e' h1 h2=>hv (i + 1) v e' h1 h2]
   rfl
theorem FF {e:Ew} (h:e.ok):e.ws.length≤15:=by
 cases e with
 | pt n rs=>
  have h3:=h.2.2
  cases rs with
  | nil=>simp [Ew.ws]
  | cons x rs=>simp only[Se] at h3;simp only[Ew.ws,Se];omega
 | _=>simp [Ew.ws]
theorem Ml {X:Cx} {K:Sd} {o e:Expr} {es:List Expr} {to:TE} {t:TA} {name:Str} {apos cpos:Pos} {T id:String} {r:V→List V→Hp→VK→Prop} (hK:X.K=K) (pa:PlainAttrs T) (slot:Slot T name id) (hty:typeOf (.builtin id)=pure (.type "method_descriptor")) (hm:aC X id r) (ho:PE X o to) (ha:PA X (e :: es) t) (hbase:Oh o name X.env (eval o X.env)=eval o X.env:=by rfl)
  (hfew:((backTo cpos (Tc (e :: es) X.env)).all (λx=>!x.1) && (ON cpos (NS [] X.env)).all (λx=>x.1.isSome) && decide ((e :: es).length + ([]:List Keyword).length + (if ([]:List Keyword).isEmpty then 0 else 1) < 30))=true:=by rfl)
  (hline:(apos.endLine == cpos.line)=true:=by rfl) (hs:Tc (e :: es) X.env=(false,eval e X.env) :: Tc es X.env:=by rfl) (hplain:(backTo cpos (Tc es X.env)).any (·.1)=false:=by rfl):PE X (.Call (.Attribute o name apos) (e :: es) [] cpos) (R1 K T r to t):=hK▸qC pa slot hty hm ho ha hbase hfew hline hs hplain
section
variable {P:SM} {w:Tj} {K:Sd} {mg:Str→Option Sr} {base:Heap} {t:z5}
theorem fU:zd ["_law_header_here","_law_rows_here","_law_lines","_law_mark","_law_name"] ["_law_header_here","_law_rows_here"] (zy iq):=by walk_at "sc"
theorem Wj (T:Txt K mg t):zo P w K mg base zC 1 t.nJ t.tI ["_law_header_here","_law_rows_here"] (P7 K):=by
 refine T.w_text.fn.ok fU (by walk_at "ln") ?_;walk_at "hd"
 obtain⟨p,l,c,ps,as,zb,ws,evs,rfl,hH,hd,hL,hP,z8,hlen,k⟩:=h
 refine⟨_,(zj (za (i:=2) fU.nd rfl (SA rfl) (zP (zz (zi yq zw (qC T1 Oq Oj (pR (K:=K) rfl) zw (zz (zu (qH (K:=K) rfl) (pv 0) zx (λ_ _=>rfl)) zq))) (zz (zi yq zw (qC T1 Oq Oj (pR (K:=K) rfl) zw (zz (zu (qH (K:=K) rfl) (pv 0) zx (λ_ _=>rfl)) zq))) zq))) jX)
   (zj (jg TJ rfl (qf (K:=K) rfl (zu (qH (K:=K) rfl) (pv 0) zx (λ_ _=>rfl))) (vI (K:=K) rfl rfl (qu (zM (i:=3) fU.nd rfl (SA rfl)) (qu (zM (i:=4) fU.nd rfl (SA rfl)) vE)))
    (zk (zO (qC SS S9 Tz qk (pv 2) (zz (zi yq (zi yq (pv 3) zw) (pv 4)) zq)))))
   (zk (zf (qC T1 Oq Oj (pR (K:=K) rfl) zw (zz (zi vG (pv 2) (cA (osc:=zy iq) (N:=["_law_header_here","_law_rows_here","_law_lines","_law_mark","_law_name"]) (names:=[]) (zU:=[]) rfl rfl rfl ⟨rfl,by decide +kernel,by decide +kernel,by decide +kernel,rfl,rfl,by decide +kernel,by decide +kernel⟩ (qf (K:=K) rfl (pv 1)) (λ_ _ _=>(Ml (K:=K) rfl T1 Oq Oj (pR (K:=K) rfl) zw (zz (pv 0) zq))))) zq)))))),?_⟩
 have hW:=hd.w
 obtain⟨lp,la,lr,ln,ll,vs,ep,elp,ela,elr,eln,hR⟩:=hH
 have tp:=rT (n:=8) (ws:=ps) λx hx=>(xP (hW.pn x hx)).2.1
 have ta:=rT (n:=8) (ws:=as) λx hx=>(xP (hW.an x hx)).2.1
 have p1:=hW.p1;have p2:=hW.p2;have a1:=hW.a1;have a2:=hW.a2;have r2:=hW.r2
 have tp':(8 + 1) * ps.length≤9 * 4:=by omega
 have ta':(8 + 1) * as.length≤9 * 6:=by omega
 have j1:(Ni (SR " ") ps).length≤36:=by have:=sN ps;exact TV this (by omega)
 have j2:(Ni (SR " ") as).length≤54:=by have:=sN as;exact TV this (by omega)
 have w1:(SR "parties ").length=8:=by decide +kernel
 have w2:(SR "acts ").length=5:=by decide +kernel
 have np:ps≠[]:=λz=>by rw[z] at p1;simp at p1
 have na:as≠[]:=λz=>by rw[z] at a1;simp at a1
 have hvl:vs.length=zb.length:=TF hR
 have hwl:ws.length=evs.length:=TF hP
 walk_at "rd"
 refine⟨_,lp,ps,rfl,rfl,zK.of elp,by rw[Z1];omega,?_⟩
 refine⟨_,_,rfl,rfl,zg (by omega),?_⟩
 rw[show SR "parties " ++ Ni (SR " ") ps=mq ("parties" :: ps) from QS YY.1 np]
 walk_at "rd"
 refine⟨_,la,as,rfl,rfl,zK.of ela,by rw[Z1];omega,?_⟩
 refine⟨_,_,rfl,rfl,zg (by omega),?_⟩
 rw[show SR "acts " ++ Ni (SR " ") as=mq ("acts" :: as) from QS YY.2.1 na]
 refine⟨zg (by show 2≤1000;decide),?_⟩
 intro lq H1 s1 hlq e1
 have ep1:=s1 _ _ ep
 show zT 2 (V.ref lq) [some (.ref p),some (.ref l),none,none,none] _ _
 walk_at "rd"
 refine xr (K:=K) (a:=lr) (xs:=vs) (λi σ H'=>(∃v2 v3:Option V,σ=[some (.ref p),some (.ref l),some (.ref lq),v2,v3]∧zp H H'∧H' lq=some (.lst ((rowsOf ps as (zb.take i) []).map V.str)))∨False)
  (.inl ⟨none,none,rfl,s1,e1⟩) (λi σ H' _ q=>(by obtain⟨_,_,_,z,_⟩:=q.resolve_right (λz=>z);exact zK.of (z _ _ elr))) ?_ ?_
 ·intro i y σ H2 hi q
  obtain⟨v3,v4,rfl,s2,e2⟩:=q.resolve_right λz=>z
  clear q
  obtain⟨mn,hmn,q,rfl,eq⟩:=Paired.ZP hR hi
  have hi':i < zb.length:=(S3.mp hmn).1
  have hm:=hW.rn mn (SN hmn)
  have eq2:=s2 _ _ eq
  have g1:=(Za _ hm.1).2.2.1
  have g2:=(xP hm.2).2.1
  refine⟨q,_,rfl,jo.of eq2,rfl,_,_,rfl,_,_,rfl,rfl,?_⟩
  walk_at "rd"
  have hrl:=@uq ps as (zb.take i) []
  refine⟨lq,_,_,rfl,rfl,e2,zg (by rw[Su,hrl,S8];simp only[S1];omega),?_⟩
  intro H3 k3 e3
  refine .inl ⟨_,_,rfl,k3.put s2 hlq,?_⟩
  rw[e3,MR,take_snoc hmn,BB,SG]
  rfl
 intro σ H2 q
 obtain⟨v3,v4,rfl,s2,e2⟩:=q.resolve_right λz=>z
 clear q
 rw[hvl,T7] at e2
 walk_at "rd"
 have hL2:=s2 _ _ hL
 have hP2:Paired (fO H2) ws evs:=Paired.imp' (λ_ _ z=>z.same s2) hP
 refine b9 (xC (zK.of hL2)) (λi _ v=>∀e,evs[i]?=some e→v=.str e.row) (zg (by omega)) ?_ ?_
 ·intro i y H' Q' hy s' kk
  obtain⟨e,he,b,rfl,hb⟩:=Paired.ZP hP2 hy
  have heo:=z8 e (SN he)
  have tt:=rT (n:=20) (ws:=e.ws) λx hx=>(Ew.wk heo x hx).2
  have hl:=FF heo
  refine⟨rfl,_,rfl,_,b,e.ws,rfl,rfl,zK.of (s' _ _ hb),by rw[Z1];omega,kk _ _ (zp.refl _) λe' h'=>?_⟩
  rw[he] at h'
  cases h'
  rfl
 intro D H3 ys s3 hD e3 hlen3 hp
 have eys:=Js hP2 hlen3 λi v e h1 h2=>by
  have hi:i < ws.length:=by
   have:=(S3.mp h1).1
   omega
  exact hp i _ v (Sn hi) h2 e h1
 subst eys
 have hrl:=@uq ps as zb []
 refine⟨lq,D,_,_,rfl,rfl,s3 _ _ e2,e3,zg (by rw[Su,hrl,Su,Su];simp only[S1];omega),?_⟩
 intro l4 H4 s4 hl4 e4
 have hra:=Wf ps as zb [] evs
 rw[Ta] at hra
 have e4':H4 l4=some (.lst ((rowsOf ps as zb evs).map V.str)):=by rw[e4,hra,SG]
 have hjs:=QO (Vj (evs:=evs) hW z8) (by rw[uq];omega)
 refine⟨_,l4,_,rfl,rfl,zK.of e4',by omega,?_⟩
 exact k H4 ((s2.trans s3).trans s4)
theorem ax {kd:Str→Str} {o:Ow} {ws:List Str} {z b:Str} (h:mA kd o ws z=.told b):lk o z=some b∧kd b∈ws:=by
 unfold mA at h
 cases q:lk o z with
 | none=>rw[q] at h;cases h
 | some x=>
  rw[q] at h
  dsimp only at h
  split at h
  ·cases h;exact⟨rfl,by assumption⟩
  ·cases h
structure RZ (kd:Str→Str) (o:Ow) (k:Int) (u a r:Str) (w a' r':Str):Prop where
 wu:u = "any"∧w = "any"∨u≠"any"∧lk o u=some w∧kd w = "party"
 la:lk o a=some a'
 ka:kd a' = "act"
 r1:k=1→r' = ""
 rm:k≠1→lk o r=some r'∧kd r'∈zF
 rc:k=0∨k=2→kd r'≠"calm"
theorem aE {kd:Str→Str} {o:Ow} {k:Int} {l u a:Str} {n:Int} {r:Str} {zb:List Str} {d:Int} {f:Fl} (h:bo kd o k l u a n r zb d=some f):∃w a' r',f=⟨l,iQ k,w,a',Y6 k n,r',zb,d⟩∧RZ kd o k u a r w a' r':=by
 unfold bo at h
 cases q1:jK (bE kd o 0 u) with
 | none=>rw[q1] at h;cases h
 | some w=>
  rw[q1,Sa] at h
  cases q2:jK (bE kd o 1 a) with
  | none=>rw[q2] at h;cases h
  | some a'=>
   rw[q2,Sa] at h
   cases q3:jK (rj kd o k r) with
   | none=>rw[q3] at h;cases h
   | some r'=>
    rw[q3] at h
    cases h
    refine⟨w,a',r',rfl,?_⟩
    have t1:=xX q1
    have t2:=ax (xX q2)
    have t3:=xX q3
    have g3:k≠1→(lk o r=some r'∧kd r'∈zF)∧(k=0∨k=2→kd r'≠"calm"):=λhk=>by
     unfold rj at t3
     rw[if_neg hk] at t3
     by_cases h3:k=3
     ·rw[if_pos h3] at t3
      exact⟨ax t3,λz=>by omega⟩
     ·rw[if_neg h3] at t3
      have t4:fA kd (mA kd o zF r)=.told r':=t3
      cases qm:mA kd o zF r with
      | told b=>
       rw[qm] at t4
       have t5:(if kd b = "calm" then An.calm else .told b)=.told r':=t4
       split at t5
       ·cases t5
       ·cases t5;exact⟨ax qm,λ_=>by assumption⟩
      | _=>rw[qm] at t4;cases t4
    refine⟨?_,t2.1,SY.mp t2.2,λhk=>?_,λhk=>(g3 hk).1,λhk=>(g3 (by omega)).2 hk⟩
    ·have t1':(if u = "any" then An.told "any" else mA kd o ["party"] u)=.told w:=t1
     by_cases hu:u = "any"
     ·rw[if_pos hu] at t1'
      cases t1'
      exact .inl ⟨hu,rfl⟩
     ·rw[if_neg hu] at t1'
      exact .inr ⟨hu,(ax t1').1,SY.mp (ax t1').2⟩
    ·unfold rj at t3
     rw[if_pos hk] at t3
     cases t3
     rfl
theorem dg {H:Hp} {d:Addr} {o:Ow} {z b:Str} (e:H d=some (.dK (dS o))) (h:lk o z=some b):jS H d (.str z) (some (.str b)):=by
 have:=jS.k (k:=.inr z) e
 rw[kR,h] at this
 exact this
def X4 (K:Sd):Sp:=λvs H Q _=>∃(d0 d tw:Addr) (K0 o:Ow) (z b kb:Str) (ws:List Str),vs=[.ref d0,.ref d,.str z,.ref tw]∧H d0=some (.dK (dS K0))∧H d=some (.dK (dS o))∧jo K H tw (ws.map V.str)∧lk o z=some b∧lk K0 b=some kb∧kb∈ws∧Q (.bl true) H
theorem XO:zd ["_law_kinds_here","_law_scope_here","_law_word","_law_wanted"] ["_law_kinds_here","_law_scope_here","_law_word","_law_wanted"] (zy ae):=by walk_at "sc"
theorem oX (T:Txt K mg t):zo P w K mg base zC 1 t.fK t.fJ ["_law_kinds_here","_law_scope_here","_law_word","_law_wanted"] (X4 K):=by
 refine T.j7.fn.ok XO (by walk_at "ln") ?_;walk_at "hd"
 obtain⟨d0,d,tw,K0,o,z,b,kb,ws,rfl,e0,ed,hT,hz,hb,hkb,k⟩:=h
 refine⟨_,(zk (zf (ZT (Ms (XB (qi hr) (pv 2) (pv 1))) (oY (ye (oV (K:=K) rfl) (qB (qi hr) (pv 0) (qB (qi hr) (pv 1) (pv 2) (λ_ _=>rfl)) (λ_ _=>rfl)) (pv 3) rfl))))),?_⟩
 walk_at "rd"
 refine⟨d,_,rfl,dg ed hz,true,rfl,?_⟩
 show M9 (CZ K false) (G5 (JF 0) (G5 (JF 1) (JF 2))) (JF 3) [some (.ref d0),some (.ref d),some (.str z),some (.ref tw)] H _
 refine⟨_,rfl,_,rfl,_,rfl,d,_,rfl,dg ed hz,d0,_,rfl,dg e0 hb,_,rfl,tw,_,rfl,.inr hT,rfl,xU ws,?_⟩
 rw[vw,zjx hkb]
 exact k
structure Lh (ws:List Str) (k:Int) (l u a r:Str):Prop where
 w0:vC (ws.map V.str) 0=some (.str l)
 w1:vC (ws.map V.str) 1=some (.str u)
 w3:(∃y,vC (ws.map V.str) 3=some (.str y)∧y = "not"∧vC (ws.map V.str) 4=some (.str a))∨(vC (ws.map V.str) 3=some (.str a)∧a≠"not")
 wl:k=1∧ws.length=4∨k≠1∧4 < ws.length∧vC (ws.map V.str) (-1)=some (.str r)
 w6:6 < ws.length→k=0∨k=2
theorem Mw:zZ ("not" : Str)=false:=by decide +kernel
theorem Ew.RY {e:Ew} {c:Int × Str × Str × Str × Int × Str} (ho:e.ok) (hc:e.Qs=some c):Lh e.ws c.1 c.2.1 c.2.2.1 c.2.2.2.1 c.2.2.2.2.2:=by
 have nn:∀{a:Str},zZ a=true→a≠"not":=λ{a} h z=>by rw[z,Mw] at h;cases h
 cases e with
 | mu l w a n r=>cases hc;exact⟨rfl,rfl,.inr ⟨rfl,nn ho.2.2.1⟩,.inr ⟨(show _≠(1:Int) by simp),by simp [Ew.ws],rfl⟩,λ_=>.inl rfl⟩
 | my l w a=>cases hc;exact⟨rfl,rfl,.inr ⟨rfl,nn ho.2.2⟩,.inl ⟨rfl,rfl⟩,λz=>by simp [Ew.ws] at z⟩
 | bn l w a r=>cases hc;exact⟨rfl,rfl,.inl ⟨_,rfl,rfl,rfl⟩,.inr ⟨(show _≠(1:Int) by simp),by simp [Ew.ws],rfl⟩,λ_=>.inr rfl⟩
 | pw l w a r=>cases hc;exact⟨rfl,rfl,.inr ⟨rfl,nn ho.2.2.1⟩,.inr ⟨(show _≠(1:Int) by simp),by simp [Ew.ws],rfl⟩,λz=>by simp [Ew.ws] at z⟩
 | _=>cases hc
def P9:Sp:=λvs H Q _=>∃(d0 d lw:Addr) (K0 o:Ow) (kd:Str→Str) (e:Ew) (c:Int × Str × Str × Str × Int × Str) (w a' r':Str),vs=[.ref d0,.ref d,.ref lw]∧H d0=some (.dK (dS K0))∧H d=some (.dK (dS o))∧H lw=some (.lst (e.ws.map V.str))∧e.ok∧e.Qs=some c∧RZ kd o c.1 c.2.2.1 c.2.2.2.1 c.2.2.2.2.2 w a' r'∧lN kd K0 o∧∀q H',zp H H'→H' q=some (.tup [])→Q (.ref q) H'
theorem d8:zd ["_law_kinds_here","_law_scope_here","_law_row","_law_act"] ["_law_kinds_here","_law_scope_here","_law_row"] (zy aK):=by walk_at "sc"
theorem XY (T:Txt K mg t):zo P w K mg base zC 2 t.uO t.uC ["_law_kinds_here","_law_scope_here","_law_row"] P9:=by
 have G_w_meant:zo P w K mg base zC 1 t.fK t.fJ ["_law_kinds_here","_law_scope_here","_law_word","_law_wanted"] (X4 K):=(oX T).mono (by decide)
 refine T.tQ.fn.ok d8 (by walk_at "ln") ?_;walk_at "hd"
 obtain⟨d0,d,lw,K0,o,kd,e,c,w',a',r',rfl,e0,ed,el,ho,hc,hU,hB,k⟩:=h
 refine⟨_,(zj (PS.join (zW (PW.pt (yO (zc cE (zu (zv (K:=K) rfl) (pv 2) zx (λ_ _=>rfl)) zw (zQ _)) (vA (jh (qt (ze G_w_meant hr rfl T.j7.mg T.j7.fn.kp T.j7.bd .nil zJ (zz (pv 0) (zz (pv 1) (zz (zu (zv (K:=K) rfl) (pv 2) zx (λ_ _=>rfl)) (zz (qx (zz zw zq)) zq))))))))))
    (zk (zf (qx (zz zw (zz zw (zz (zu (zv (K:=K) rfl) (pv 2) zx (λ_ _=>rfl)) zq)))))) zr))
   (zj (za (i:=3) d8.nd rfl (SA rfl) (zu (zv (K:=K) rfl) (pv 2) zx (λ_ _=>rfl)))
   (zj (PS.join (zW (zc qj (zu (zv (K:=K) rfl) (pv 2) zx (λ_ _=>rfl)) zw (zQ _))
    (zk (za (i:=3) d8.nd rfl (SA rfl) (zu (zv (K:=K) rfl) (pv 2) zx (λ_ _=>rfl)))) zr))
   (zj (zW (jh (qt (ze G_w_meant hr rfl T.j7.mg T.j7.fn.kp T.j7.bd .nil zJ (zz (pv 0) (zz (pv 1) (zz (pv 3) (zz (qx (zz zw zq)) zq)))))))
    (zk (zf (qx (zz zw (zz zw (zz (pv 3) zq)))))) zr)
   (zj (PS.join (zW (PW.pt (yO (zc mY (zX (zH (K:=K) rfl) rfl T.qo S5 (zz (pv 2) zq)) zx (zQ _)) (vA (jh (qt (ze G_w_meant hr rfl T.j7.mg T.j7.fn.kp T.j7.bd .nil zJ (zz (pv 0) (zz (pv 1) (zz (zu (zv (K:=K) rfl) (pv 2) (c8 bj zx) (λ_ _=>rfl)) (zz (qx (zz zw (zz zw (zz zw zq)))) zq))))))))))
    (zk (zf (qx (zz zw (zz zw (zz (zu (zv (K:=K) rfl) (pv 2) (c8 bj zx) (λ_ _=>rfl)) zq)))))) zr))
   (zj (PS.join (zW (PW.pt (yO (zc mY (zX (zH (K:=K) rfl) rfl T.qo S5 (zz (pv 2) zq)) zx (zQ _)) (vA (zc qj (qB (qi hr) (pv 0) (qB (qi hr) (pv 1) (zu (zv (K:=K) rfl) (pv 2) (c8 bj zx) (λ_ _=>rfl)) (λ_ _=>rfl)) (λ_ _=>rfl)) zw (zQ _)))))
    (zk (zf (qx (zz zw (zz zw (zz (zu (zv (K:=K) rfl) (pv 2) (c8 bj zx) (λ_ _=>rfl)) zq)))))) zr))
   (zk (zf (qx zq))))))))),?_⟩
 have hW:=Ew.RY ho hc
 obtain⟨kk,l,u,a,n,r⟩:=c
 dsimp only at hU hW
 generalize e.ws=ws at el hW
 clear ho hc e
 have f0:=e0
 have fd:=ed
 have fl:=el
 show C5 _ _ _ [some (.ref d0),some (.ref d),some (.ref lw),none] _
 show ∃M:L2.St→Hp→Prop,_∧_
 refine⟨λσ' H'=>(σ'=[some (.ref d0),some (.ref d),some (.ref lw),none]∧zp H H')∨False,?_,?_⟩
 ·refine⟨_,rfl,lw,_,_,_,rfl,rfl,zK.of el,hW.w1,?_⟩
  walk_at "rd"
  refine zD (λh1=>?_) (λh1=>.inl ⟨rfl,zp.refl _⟩)
  have hu:u≠"any":=λz=>by rw[z] at h1;exact absurd h1 (by decide +kernel)
  obtain⟨_,hlu,hku⟩:=hU.wu.resolve_left λz=>hu z.1
  refine⟨_,rfl,_,rfl,_,rfl,lw,_,_,_,rfl,rfl,zK.of el,hW.w1,?_⟩
  walk_at "rd"
  intro tw H1 s1 htw e1
  refine⟨d0,d,tw,K0,o,u,w',"party",["party"],rfl,s1 _ _ e0,s1 _ _ ed,jo.of e1,hlu,?_,SY.mpr rfl,?_⟩
  ·have:=(hB _ _ hlu).1
   rw[hku] at this
   exact this
  ·refine⟨true,rfl,?_⟩
   exact .inl ⟨rfl,s1⟩
 ·intro σ' H1 q
  obtain⟨rfl,s1⟩:=q.resolve_right λz=>z
  clear q
  have e0:=s1 _ _ e0
  have ed:=s1 _ _ ed
  have el:=s1 _ _ el
  obtain⟨y3,hy3,hy3'⟩:∃y,vC (ws.map V.str) 3=some (.str y)∧(y = "not"∧vC (ws.map V.str) 4=some (.str a)∨y≠"not"∧y=a):=by
   rcases hW.w3 with ⟨y,h1,h2,h3⟩ | ⟨h1,h2⟩
   ·exact⟨y,h1,.inl ⟨h2,h3⟩⟩
   ·exact⟨a,h1,.inr ⟨h2,rfl⟩⟩
  refine⟨_,rfl,lw,_,_,_,rfl,rfl,zK.of el,hy3,?_⟩
  show zT 3 (V.str y3) [some (.ref d0),some (.ref d),some (.ref lw),none] _ _
  show ∃M:L2.St→Hp→Prop,_∧_
  refine⟨λσ' H'=>(σ'=[some (.ref d0),some (.ref d),some (.ref lw),some (.str a)]∧H'=H1)∨False,?_,?_⟩
  ·refine⟨_,rfl,lw,_,_,_,rfl,rfl,zK.of el,hy3,?_⟩
   walk_at "rd"
   refine zD (λh1=>?_) (λh1=>?_)
   ·have hy:y3 = "not":=V.str.inj (zjj h1)
    have h4:=(hy3'.resolve_right λz=>z.1 hy).2
    refine⟨_,rfl,lw,_,_,_,rfl,rfl,zK.of el,h4,?_⟩
    exact .inl ⟨rfl,rfl⟩
   ·have hy:y3≠"not":=λz=>h1 (zjx (congrArg V.str z))
    have h4:=(hy3'.resolve_left λz=>hy z.1).2
    rw[h4]
    exact .inl ⟨rfl,rfl⟩
  intro σ' H2 q
  obtain⟨rfl,rfl⟩:=q.resolve_right λz=>z
  clear q
  walk_at "rd"
  intro tw H3 s3 htw e3
  refine⟨d0,d,tw,K0,o,a,a',"act",["act"],rfl,s3 _ _ e0,s3 _ _ ed,jo.of e3,hU.la,?_,SY.mpr rfl,true,rfl,?_⟩
  ·have:=(hB _ _ hU.la).1
   rw[hU.ka] at this
   exact this
  have s2:=s1.trans s3
  have e0:=s3 _ _ e0
  have ed:=s3 _ _ ed
  have el:=s3 _ _ el
  clear e3 s3 s1 htw hy3 hy3'
  show ∃M:L2.St→Hp→Prop,_∧_
  refine⟨λσ' H'=>(σ'=[some (.ref d0),some (.ref d),some (.ref lw),some (.str a)]∧zp H H')∨False,?_,?_⟩
  ·refine⟨_,rfl,lw,_,rfl,.inl (zK.of el),_,_,rfl,rfl,_,rfl,?_⟩
   rw[Su]
   refine zD (λh1=>?_) (λh1=>.inl ⟨rfl,s2⟩)
   have h1':(4:Int) < (ws.length:Int):=zjj h1
   obtain⟨hk,_,hr⟩:=hW.wl.resolve_left λz=>by omega
   obtain⟨hr1,hr2⟩:=hU.rm hk
   refine⟨_,rfl,_,rfl,_,rfl,1,rfl,lw,_,_,_,rfl,rfl,zK.of el,hr,?_⟩
   walk_at "rd"
   intro tw H4 s4 htw e4
   refine⟨d0,d,tw,K0,o,r,r',kd r',zF,rfl,s4 _ _ e0,s4 _ _ ed,jo.of e4,hr1,(hB _ _ hr1).1,hr2,true,rfl,?_⟩
   exact .inl ⟨rfl,s2.trans s4⟩
  intro σ' H4 q
  obtain⟨rfl,s4⟩:=q.resolve_right λz=>z
  clear q
  clear e0 ed el s2
  have e0:=s4 _ _ f0
  have ed:=s4 _ _ fd
  have el:=s4 _ _ fl
  show ∃M:L2.St→Hp→Prop,_∧_
  refine⟨λσ' H'=>(σ'=[some (.ref d0),some (.ref d),some (.ref lw),some (.str a)]∧H'=H4)∨False,?_,?_⟩
  ·refine⟨_,rfl,lw,_,rfl,.inl (zK.of el),_,_,rfl,rfl,_,rfl,?_⟩
   rw[Su]
   refine zD (λh1=>?_) (λh1=>.inl ⟨rfl,rfl⟩)
   have h1':(6:Int) < (ws.length:Int):=zjj h1
   obtain⟨hk,_,hr⟩:=hW.wl.resolve_left λz=>by omega
   obtain⟨hr1,hr2⟩:=hU.rm hk
   have hnc:=hU.rc (hW.w6 (by omega))
   refine⟨_,rfl,_,rfl,_,rfl,1,rfl,lw,_,_,_,rfl,rfl,zK.of el,hr,d,_,rfl,dg ed hr1,d0,_,rfl,dg e0 (hB _ _ hr1).1,?_⟩
   walk_at "rd"
   refine zD (λh2=>?_) (λh2=>.inl ⟨rfl,rfl⟩)
   exact absurd (V.str.inj (zjj h2)) hnc
  intro σ' H5 q
  obtain⟨rfl,rfl⟩:=q.resolve_right λz=>z
  clear q
  walk_at "rd"
  intro q H6 s6 hq e6
  exact k q H6 (s4.trans s6) e6
theorem Pl {n:Int} (h1:1≤n) (h2:n < 10 ^ 20):intText? (SR (toString n))=some n∧(SR (toString n)).length≤640:=by
 have hl:=(ZF h1 h2).2.2.2
 obtain⟨m,rfl⟩:=Nd (show 0≤n by omega)
 have e:=OM m
 have hd:Ig (SR (toString ((m:Nat):Int))).cps.toList:=by
  rw[e]
  intro c hc
  obtain⟨ch,hch,rfl⟩:=TY.mp hc
  have:=N1 (b:=10) (by decide) (by decide) hch
  simp [zzp] at this
  exact⟨by have:=this.1;exact this,by have:=this.2;exact this⟩
 have hv:NN (SR (toString ((m:Nat):Int))).cps.toList=m:=by rw[e];exact Ae m
 have hne:(SR (toString ((m:Nat):Int))).cps.toList≠[]:=λz=>by
  rw[z] at hv
  have:(0:Nat)=m:=hv
  omega
 have:=Al hd hne (by omega)
 rw[hv] at this
 exact⟨this,by omega⟩
theorem Fu:zZ ("any" : Str)=false:=by decide +kernel
theorem B5 {kd:Str→Str} {o:Ow} {u w:Str} (hn:∀q∈o,zZ q.1=true) (h:u = "any"∧w = "any"∨u≠"any"∧lk o u=some w∧kd w = "party"):(xy (dS o) (.inr u)).getD (.str (SR "any"))=.str w:=by
 rw[kR]
 rcases h with ⟨rfl,rfl⟩ | ⟨_,h,_⟩
 ·cases q:lk o "any" with
  | none=>rfl
  | some b=>
   have:=hn _ (KA q)
   rw[Fu] at this
   cases this
 ·rw[h];rfl
def P6 (K:Sd):Sp:=λvs H Q _=>∃(d lw lr:Addr) (o:Ow) (kd:Str→Str) (e:Ew) (c:Int × Str × Str × Str × Int × Str) (f:Fl) (zb:List Str) (dep:Int),vs=[.ref d,.ref lw,.ref lr,.int dep]∧H d=some (.dK (dS o))∧H lw=some (.lst (e.ws.map V.str))∧H lr=some (.lst (zb.map V.str))∧(∀q∈o,zZ q.1=true)∧e.ok∧e.Qs=some c∧bo kd o c.1 c.2.1 c.2.2.1 c.2.2.2.1 c.2.2.2.2.1 c.2.2.2.2.2 zb dep=some f∧∀p' l' H',zp H H'→H p'=none→H l'=none→H' p'=some (.tup (Hs f l'))→H' l'=some (.lst (zb.map V.str))→Q (.ref p') H'
theorem aV:zd ["_law_scope_here","_law_row","_law_rooms","_law_depth","_law_who"] ["_law_scope_here","_law_row","_law_rooms","_law_depth"] (zy JX):=by walk_at "sc"
theorem Wx (T:Txt K mg t):zo P w K mg base zC 1 t.nX t.tE ["_law_scope_here","_law_row","_law_rooms","_law_depth"] (P6 K):=by
 refine T.Qu.fn.ok aV (by walk_at "ln") ?_;walk_at "hd"
 obtain⟨d,lw,lr,o,kd,e,c,f,zb,dep,rfl,ed,el,er,hnm,ho,hc,hf,k⟩:=h
 refine⟨_,(zj (za (i:=4) aV.nd rfl (SA rfl) (qC ED NP Ag (Y0 (qi hr)) (pv 0) (zz (zu (zv (K:=K) rfl) (pv 1) zx (λ_ _=>rfl)) (zz zw zq))))
   (zj (zW (zc qj (zX (zH (K:=K) rfl) rfl T.qo S5 (zz (pv 1) zq)) zx (zQ _))
    (zk (zf (qx (zz (zu (zv (K:=K) rfl) (pv 1) zx (λ_ _=>rfl)) (zz zw (zz (pv 4) (zz (qB (qi hr) (pv 0) (zu (zv (K:=K) rfl) (pv 1) zx (λ_ _=>rfl)) (λ_ _=>rfl)) (zz (qz yH rfl T.Kc OD (zz (zu (zv (K:=K) rfl) (pv 1) zx (λ_ _=>rfl)) zq)) (zz (qB (qi hr) (pv 0) (zu (zv (K:=K) rfl) (pv 1) zx (λ_ _=>rfl)) (λ_ _=>rfl)) (zz (qz (jP (K:=K) rfl) rfl T.ki TQ (zz (pv 2) zq)) (zz (pv 3) zq))))))))))) zr)
   (zj (zW (zc qj (zX (zH (K:=K) rfl) rfl T.qo S5 (zz (pv 1) zq)) zx (zQ _))
    (zk (zf (qx (zz (zu (zv (K:=K) rfl) (pv 1) zx (λ_ _=>rfl)) (zz zw (zz (pv 4) (zz (qB (qi hr) (pv 0) (zu (zv (K:=K) rfl) (pv 1) zx (λ_ _=>rfl)) (λ_ _=>rfl)) (zz zx (zz (qB (qi hr) (pv 0) (zu (zv (K:=K) rfl) (pv 1) zx (λ_ _=>rfl)) (λ_ _=>rfl)) (zz (qz (jP (K:=K) rfl) rfl T.ki TQ (zz (pv 2) zq)) (zz (pv 3) zq))))))))))) zr)
   (zj (zW (zc qj (zX (zH (K:=K) rfl) rfl T.qo S5 (zz (pv 1) zq)) zx (zQ _))
    (zk (zf (qx (zz (zu (zv (K:=K) rfl) (pv 1) zx (λ_ _=>rfl)) (zz zw (zz (pv 4) (zz (qB (qi hr) (pv 0) (zu (zv (K:=K) rfl) (pv 1) zx (λ_ _=>rfl)) (λ_ _=>rfl)) (zz zx (zz (qB (qi hr) (pv 0) (zu (zv (K:=K) rfl) (pv 1) zx (λ_ _=>rfl)) (λ_ _=>rfl)) (zz (qz (jP (K:=K) rfl) rfl T.ki TQ (zz (pv 2) zq)) (zz (pv 3) zq))))))))))) zr)
   (zk (zf (qx (zz (zu (zv (K:=K) rfl) (pv 1) zx (λ_ _=>rfl)) (zz zw (zz (pv 4) (zz (qB (qi hr) (pv 0) (zu (zv (K:=K) rfl) (pv 1) zx (λ_ _=>rfl)) (λ_ _=>rfl)) (zz zx (zz zw (zz (qz (jP (K:=K) rfl) rfl T.ki TQ (zz (pv 2) zq)) (zz (pv 3) zq))))))))))))))),?_⟩
 have hW:=Ew.RY ho hc
 obtain⟨w',a',r',rfl,hU⟩:=aE hf
 refine⟨_,rfl,.inr (.inr (.inl ⟨rfl,.inl ⟨_,ed⟩⟩)),_,rfl,lw,_,_,_,rfl,rfl,zK.of el,hW.w1,?_⟩
 refine⟨d,_,.inr c.2.2.1,_,rfl,rfl,ed,?_⟩
 rw[B5 hnm hU.wu]
 show zT 4 (V.str w') [some (.ref d),some (.ref lw),some (.ref lr),some (.int dep),none] _ _
 cases e with
 | mu l u a n r=>
  cases hc
  dsimp only at hU k
  obtain⟨hr1,hr2⟩:=hU.rm (show _≠(1:Int) by simp)
  obtain⟨n1,n2⟩:=Pl ho.2.2.2.1 ho.2.2.2.2.1
  refine⟨_,rfl,lw,_,rfl,.inl (zK.of el),rfl,_,rfl,?_⟩
  refine zD (λ_=>?_) (λh=>(h (zjx rfl)).elim)
  refine⟨_,rfl,lw,_,_,_,rfl,rfl,zK.of el,rfl,?_⟩
  refine⟨_,rfl,_,rfl,_,rfl,lw,_,_,_,rfl,rfl,zK.of el,rfl,d,_,rfl,dg ed hU.la,?_⟩
  refine⟨_,rfl,lw,_,_,_,rfl,rfl,zK.of el,rfl,_,n,rfl,n1,n2,?_⟩
  refine⟨_,rfl,_,rfl,lw,_,_,_,rfl,rfl,zK.of el,rfl,d,_,rfl,dg ed hr1,?_⟩
  refine⟨_,rfl,lr,_,rfl,.inl (zK.of er),?_⟩
  intro l' H1 s1 hl' e1
  refine⟨_,rfl,?_⟩
  walk_at "rd"
  intro p' H2 s2 hp' e2
  exact k p' l' H2 (s1.trans s2) (s1.free hp') hl' e2 (s2 _ _ e1)
 | bn l u a r=>
  cases hc
  dsimp only at hU k
  obtain⟨hr1,hr2⟩:=hU.rm (show _≠(1:Int) by simp)
  refine⟨_,rfl,lw,_,rfl,.inl (zK.of el),rfl,_,rfl,?_⟩
  refine zD (λh=>absurd (V.int.inj (zjj h)) (by simp [Ew.ws])) (λ_=>?_)
  refine⟨_,rfl,lw,_,rfl,.inl (zK.of el),rfl,_,rfl,?_⟩
  refine zD (λ_=>?_) (λh=>(h (zjx rfl)).elim)
  refine⟨_,rfl,lw,_,_,_,rfl,rfl,zK.of el,rfl,?_⟩
  refine⟨_,rfl,_,rfl,_,rfl,lw,_,_,_,rfl,rfl,zK.of el,rfl,d,_,rfl,dg ed hU.la,?_⟩
  refine⟨_,rfl,_,rfl,lw,_,_,_,rfl,rfl,zK.of el,rfl,d,_,rfl,dg ed hr1,?_⟩
  refine⟨_,rfl,lr,_,rfl,.inl (zK.of er),?_⟩
  intro l' H1 s1 hl' e1
  refine⟨_,rfl,?_⟩
  walk_at "rd"
  intro p' H2 s2 hp' e2
  exact k p' l' H2 (s1.trans s2) (s1.free hp') hl' e2 (s2 _ _ e1)
 | pw l u a r=>
  cases hc
  dsimp only at hU k
  obtain⟨hr1,hr2⟩:=hU.rm (show _≠(1:Int) by simp)
  refine⟨_,rfl,lw,_,rfl,.inl (zK.of el),rfl,_,rfl,?_⟩
  refine zD (λh=>absurd (V.int.inj (zjj h)) (by simp [Ew.ws])) (λ_=>?_)
  refine⟨_,rfl,lw,_,rfl,.inl (zK.of el),rfl,_,rfl,?_⟩
  refine zD (λh=>absurd (V.int.inj (zjj h)) (by simp [Ew.ws])) (λ_=>?_)
  refine⟨_,rfl,lw,_,rfl,.inl (zK.of el),rfl,_,rfl,?_⟩
  refine zD (λ_=>?_) (λh=>(h (zjx rfl)).elim)
  refine⟨_,rfl,lw,_,_,_,rfl,rfl,zK.of el,rfl,?_⟩
  refine⟨_,rfl,_,rfl,_,rfl,lw,_,_,_,rfl,rfl,zK.of el,rfl,d,_,rfl,dg ed hU.la,?_⟩
  refine⟨_,rfl,_,rfl,lw,_,_,_,rfl,rfl,zK.of el,rfl,d,_,rfl,dg ed hr1,?_⟩
  refine⟨_,rfl,lr,_,rfl,.inl (zK.of er),?_⟩
  intro l' H1 s1 hl' e1
  refine⟨_,rfl,?_⟩
  walk_at "rd"
  intro p' H2 s2 hp' e2
  exact k p' l' H2 (s1.trans s2) (s1.free hp') hl' e2 (s2 _ _ e1)
 | my l u a=>
  cases hc
  dsimp only at hU k
  have hr1:r' = "":=hU.r1 rfl
  subst hr1
  refine⟨_,rfl,lw,_,rfl,.inl (zK.of el),rfl,_,rfl,?_⟩
  refine zD (λh=>absurd (V.int.inj (zjj h)) (by simp [Ew.ws])) (λ_=>?_)
  refine⟨_,rfl,lw,_,rfl,.inl (zK.of el),rfl,_,rfl,?_⟩
  refine zD (λh=>absurd (V.int.inj (zjj h)) (by simp [Ew.ws])) (λ_=>?_)
  refine⟨_,rfl,lw,_,rfl,.inl (zK.of el),rfl,_,rfl,?_⟩
  refine zD (λh=>absurd (V.int.inj (zjj h)) (by simp [Ew.ws])) (λ_=>?_)
  refine⟨_,rfl,lw,_,_,_,rfl,rfl,zK.of el,rfl,?_⟩
  refine⟨_,rfl,_,rfl,_,rfl,lw,_,_,_,rfl,rfl,zK.of el,rfl,d,_,rfl,dg ed hU.la,?_⟩
  refine⟨_,rfl,lr,_,rfl,.inl (zK.of er),?_⟩
  intro l' H1 s1 hl' e1
  refine⟨_,rfl,?_⟩
  walk_at "rd"
  intro p' H2 s2 hp' e2
  exact k p' l' H2 (s1.trans s2) (s1.free hp') hl' e2 (s2 _ _ e1)
 | _=>cases hc
def PB (K:Sd):Sp:=λvs H Q _=>∃(d0 d lw lr:Addr) (K0 o:Ow) (kd:Str→Str) (n:Str) (rs zb cv:List Str),vs=[.ref d0,.ref d,.ref lw,.ref lr]∧H d0=some (.dK (dS K0))∧H d=some (.dK (dS o))∧H lw=some (.lst ((Ew.pt n rs).ws.map V.str))∧H lr=some (.lst (zb.map V.str))∧(Ew.pt n rs).ok∧pz kd o rs zb=some cv∧lN kd K0 o∧zb.length≤100∧∀l' H',zp H H'→H l'=none→H' l'=some (.lst (cv.map V.str))→Q (.ref l') H'
theorem XC (n:Str) (rs:List Str):cb ((Ew.pt n rs).ws.map V.str) (some 3) none=rs.map V.str:=by
 cases rs with
 | nil=>rfl
 | cons x rs=>
  have:=we V.str (Ew.pt n (x :: rs)).ws 3
  exact this
theorem eD {kd:Str→Str} {o:Ow} {rs zb cv:List Str} (h:pz kd o rs zb=some cv):∃ns,xJ kd o rs=some ns∧cv=if rs=[] then zb else zb.filter λx=>decide (x∈ns):=by
 unfold pz at h
 split at h
 ·rename_i z
  subst z
  cases h
  exact⟨[],rfl,by rw[if_pos rfl]⟩
 ·obtain⟨ns,hn,hc⟩:=SJ.mp h
  cases hc
  exact⟨ns,hn,by rw[if_neg (by assumption)]⟩
theorem KQ (ns:List Str):∀l:List Str,(l.map V.str).filter (λy=>Qt y (ns.map V.str))=(l.filter λx=>decide (x∈ns)).map V.str
 | []=>rfl
 | x :: l=>by
  rw[SE,Oe,Oe,vw,KQ ns l]
  by_cases hx:x∈ns
  ·simp [hx]
  ·simp [hx]
theorem d6:zd ["_law_kinds_here","_law_scope_here","_law_row","_law_rooms","_law_named","_law_word"] ["_law_kinds_here","_law_scope_here","_law_row","_law_rooms"] (zy rG):=by walk_at "sc"
theorem XZ (T:Txt K mg t):zo P w K mg base zC 2 t.uR t.uB ["_law_kinds_here","_law_scope_here","_law_row","_law_rooms"] (PB K):=by
 have G_w_meant:zo P w K mg base zC 1 t.fK t.fJ ["_law_kinds_here","_law_scope_here","_law_word","_law_wanted"] (X4 K):=(oX T).mono (by decide)
 refine T.tm.fn.ok d6 (by walk_at "ln") ?_;walk_at "hd"
 obtain⟨d0,d,lw,lr,K0,o,kd,n,rs,zb,cv,rfl,e0,ed,el,er,ho,hcv,hB,hrl,k⟩:=h
 refine⟨_,(zj (za (i:=4) d6.nd rfl (Af rfl) (zP zq) jX)
   (zj (jg TJ rfl (qf (K:=K) rfl (qR (qD (K:=K) rfl) (pv 2) (qJ zx) kc)) (zM (i:=5) d6.nd rfl (SA rfl))
    (zj (zW (jh (qt (ze G_w_meant hr rfl T.j7.mg T.j7.fn.kp T.j7.bd .nil zJ (zz (pv 0) (zz (pv 1) (zz (pv 5) (zz (qx (zz zw (zz zw (zz zw zq)))) zq)))))))
    (zk (zf (qx (zz zw (zz zw (zz (pv 5) zq)))))) zr)
   (zk (zO (qC SS S9 Tz qk (pv 4) (zz (qB (qi hr) (pv 1) (pv 5) (λ_ _=>rfl)) zq))))))
   (zj (zW (zc (fP (K:=K) rfl hr.units) (qR (qD (K:=K) rfl) (pv 2) (qJ zx) kc) (zP zq) (zQ _))
    (zk (zf (qz (jP (K:=K) rfl) rfl T.ki TQ (zz (pv 3) zq)))) zr)
   (zk (zf (wg (osc:=zy rG) (N:=["_law_kinds_here","_law_scope_here","_law_row","_law_rooms","_law_named","_law_word"]) (xs:=["_law_room"]) (names:=["_law_named"]) (zU:=[4]) rfl rfl rfl ⟨rfl,by decide +kernel,by decide +kernel,by decide +kernel,by decide +kernel,rfl,by decide +kernel,by decide +kernel⟩ (qf (K:=K) rfl (pv 3)) (λ_ _ _=>(zM (i:=0) (show (["_law_room","_law_named"]:List Str).Nodup from by decide +kernel) rfl (.inl (yy rfl)) (.inr (yy rfl)))) (λ_ _ _=>(ZE (zc (oV (K:=K) rfl) (pv 0) (pv 1) rfl))) (λ_ _ _=>(pv 0)))))))),?_⟩
 walk_at "rd"
 intro ln H1 s1 hln e1
 show zT 4 (V.ref ln) [some (.ref d0),some (.ref d),some (.ref lw),some (.ref lr),none,none] _ _
 walk_at "rd"
 intro lc H2 s2 hlc e2
 rw[XC] at e2
 obtain⟨ns,hns,rfl⟩:=eD hcv
 obtain⟨hnl,hnn⟩:=dG hns
 have hr12:=ho.2.2
 have e1':=s2 _ _ e1
 have ne1:ln≠lc:=zh e1 hlc
 refine⟨lc,rfl,⟨_,zK.of e2⟩,?_⟩
 refine xr (K:=K) (a:=lc) (xs:=rs.map V.str) (λi σ H'=>(∃v5:Option V,σ=[some (.ref d0),some (.ref d),some (.ref lw),some (.ref lr),some (.ref ln),v5]∧zp H H'∧H' ln=some (.lst ((ns.take i).map V.str))∧H' lc=some (.lst (rs.map V.str)))∨False)
  (.inl ⟨none,rfl,s1.trans s2,e1',e2⟩) (λi σ H' _ q=>(by obtain⟨_,_,_,_,z⟩:=q.resolve_right (λz=>z);exact zK.of z)) ?_ ?_
 ·intro i y σ H3 hi q
  obtain⟨v5,rfl,s3,e3,f3⟩:=q.resolve_right λz=>z
  clear q
  obtain⟨x,hx,rfl⟩:=yV hi
  obtain⟨z,hz,hask⟩:=hnn i x hx
  obtain⟨hlz,hkz⟩:=ax (show mA kd o zF x=.told z from hask)
  have hi':i < ns.length:=(S3.mp hz).1
  walk_at "rd"
  intro tw H4 s4 htw e4
  have s34:=s3.trans s4
  refine⟨d0,d,tw,K0,o,x,z,kd z,zF,rfl,s34 _ _ e0,s34 _ _ ed,jo.of e4,hlz,(hB _ _ hlz).1,hkz,true,rfl,?_⟩
  walk_at "rd"
  refine⟨d,_,rfl,dg (s34 _ _ ed) hlz,ln,_,_,rfl,rfl,s4 _ _ e3,gK (by rw[Su,S8];omega),?_⟩
  intro H5 k5 e5
  refine .inl ⟨_,rfl,k5.put s34 hln,?_,k5.look (s4 _ _ f3) (λz=>ne1 z.symm)⟩
  rw[e5,take_snoc hz,SG]
  rfl
 ·intro σ H3 q
  obtain⟨v5,rfl,s3,e3,f3⟩:=q.resolve_right λz=>z
  clear q
  rw[Su,←hnl,T7] at e3
  have el3:=s3 _ _ el
  have er3:=s3 _ _ er
  walk_at "rd"
  intro l4 H4 s4 hl4 e4
  rw[XC] at e4
  walk_at "rd"
  intro l5 H5 s5 hl5 e5
  have sh1:T6 (.list (rs.map Nz))=true:=qV λz hz=>(gp (ho.2.1 z hz)).ok
  have sh2:T6 (.list (([]:List Str).map Nz))=true:=qV λx hx=>by cases hx
  refine⟨_,_,cq.lst (zK.of (s5 _ _ e4)) (vf.strs _),cq.lst (zK.of e5) (vf.strs []),sh1,sh2,?_⟩
  rw[pV]
  have s35:=s4.trans s5
  have er5:=s35 _ _ er3
  have e35:=s35 _ _ e3
  walk_at "rd"
  refine zD (λh1=>?_) (λh1=>?_)
  ·refine⟨_,rfl,lr,_,rfl,.inl (zK.of er5),?_⟩
   intro l6 H6 s6 hl6 e6
   refine k l6 H6 ((s3.trans s35).trans s6) ((s3.trans s35).free hl6) ?_
   rw[if_pos (zjj h1)]
   exact e6
  ·rw[if_neg λz=>h1 (zjx z)] at k
   refine⟨_,rfl,lr,rfl,⟨_,zK.of er5⟩,?_⟩
   refine a9 (xC (zK.of er5)) (λy=>Qt y (ns.map V.str)) (λy v=>v=y) (zg (by rw[Su];omega)) ?_ ?_ ?_
   ·intro i y H' Q' hy s' k'
    obtain⟨x,hx,rfl⟩:=yV hy
    refine⟨_,rfl,_,rfl,ln,_,rfl,.inl (zK.of (s' _ _ e35)),rfl,xU _,_,rfl,?_⟩
    exact k' _ (zp.refl _)
   ·intro i y H' Q' hy _ s' k'
    exact⟨_,rfl,k' _ _ (zp.refl _) rfl⟩
   intro D H6 ys s6 hD e6 hP
   obtain rfl:=rW hP
   refine k D H6 ((s3.trans s35).trans s6) ((s3.trans s35).free hD) ?_
   rw[e6,KQ]
end
structure bS where
 t:Addr
 d:Addr
 l:Addr
 o:Ow
 rm:List Str
def bS.pr (e:bS):Ow × List Str:=(e.o,e.rm)
structure bF (kd:Str→Str) (K0:Ow) (B H:Hp) (ls lf:Addr) (i:Nat) (es:List bS) (rs:List (Addr × Addr)) (fls:List Fl):Prop where
 el:H ls=some (.lst (es.map λe=>V.ref e.t))
 a1:∀e∈es,H e.t=some (.tup [.ref e.d,.ref e.l])
 a2:∀e∈es,H e.d=some (.dK (dS e.o))
 a3:∀e∈es,H e.l=some (.lst (e.rm.map V.str))
 nd:(es.map (·.d)).Nodup
 ob:∀e∈es,lN kd K0 e.o
 on:∀e∈es,∀q∈e.o,zZ q.1=true
 ol:∀e∈es,e.o.length≤22 + i
 Mr:∀e∈es,e.rm.length≤12
 nl:∀e∈es,e.l≠ls∧e.l≠lf
 n1:1≤es.length
 n2:es.length≤1 + i
 bs:zp B H
 bl:B ls=none
 bf:B lf=none
 bd:∀e∈es,B e.d=none
 ne:ls≠lf
 ef:H lf=some (.lst (rs.map λr:Addr × Addr=>V.ref r.1))
 fa:jb H rs fls
 nr:∀r∈rs,(B r.1=none∧B r.2=none)∧r.2≠ls∧r.2≠lf
 rl:rs.length≤i
theorem bF.same {kd:Str→Str} {K0:Ow} {B H H':Hp} {ls lf:Addr} {i:Nat} {es:List bS} {rs:List (Addr × Addr)} {fls:List Fl} (h:bF kd K0 B H ls lf i es rs fls) (s:zp H H'):bF kd K0 B H' ls lf i es rs fls:=
 ⟨s _ _ h.el,λe he=>s _ _ (h.a1 e he),λe he=>s _ _ (h.a2 e he),λe he=>s _ _ (h.a3 e he),h.nd,h.ob,h.on,h.ol,h.Mr,h.nl,h.n1,h.n2,h.bs.trans s,h.bl,h.bf,h.bd,h.ne,s _ _ h.ef,h.fa.same s,h.nr,h.rl⟩
theorem jb.D7 {H H':Hp} {d:Addr} {kvs:List (Key × V)} {rs:List (Addr × Addr)} {fls:List Fl} (h:jb H rs fls) (k:Keeps d H H') (e:H d=some (.dK kvs)):jb H' rs fls:=Paired.imp' (λr f z=>⟨k.look z.1 (λq=>by (have:=z.1);rw[q,e] at this;cases this),k.look z.2 (λq=>by (have:=z.2);rw[q,e] at this;cases this)⟩) h
theorem bF.put {kd:Str→Str} {K0:Ow} {B H H':Hp} {ls lf:Addr} {i:Nat} {es0:List bS} {t d l:Addr} {o o':Ow} {rm:List Str} {rs:List (Addr × Addr)} {fls:List Fl} (h:bF kd K0 B H ls lf i (es0 ++ [⟨t,d,l,o,rm⟩]) rs fls) (k:Keeps d H H') (e:H' d=some (.dK (dS o'))) (h1:lN kd K0 o') (h2:∀q∈o',zZ q.1=true) (h3:o'.length≤22 + (i + 1)):bF kd K0 B H' ls lf (i + 1) (es0 ++ [⟨t,d,l,o',rm⟩]) rs fls:=by
 have hx:(⟨t,d,l,o,rm⟩:bS)∈es0 ++ [⟨t,d,l,o,rm⟩]:=by simp
 have ed:=h.a2 _ hx
 have g1:H t=some (.tup [.ref d,.ref l]):=h.a1 _ hx
 have g3:H l=some (.lst (rm.map V.str)):=h.a3 _ hx
 have g4:rm.length≤12:=h.Mr _ hx
 have g5:l≠ls∧l≠lf:=h.nl _ hx
 have g6:B d=none:=h.bd _ hx
 dsimp only at ed
 have nt:∀{x:Addr} {u:List V},H x=some (.tup u)→x≠d:=λ{x u} q z=>by rw[z,ed] at q;cases q
 have nls:∀{x:Addr} {u:List V},H x=some (.lst u)→x≠d:=λ{x u} q z=>by rw[z,ed] at q;cases q
 have ini:∀{e:bS},e∈es0→e∈es0 ++ [⟨t,d,l,o,rm⟩]:=λhe=>TZ _ he
 have hnd:=h.nd
 have hd0:∀e∈es0,e.d≠d:=λe he z=>by
  rw[SG] at hnd
  exact(TU.mp hnd).2.2 e.d (TL he) d (by simp) z
 have cs:∀{p:bS→Prop},(∀e∈es0,p e)→p ⟨t,d,l,o',rm⟩→∀e∈es0 ++ [⟨t,d,l,o',rm⟩],p e:=λ{p} a b e he=>by
  (rcases SI.mp he with he | he)
  ·exact a e he
  ·rw[SY.mp he];exact b
 refine⟨?_,cs (λe he=>k.look (h.a1 e (ini he)) (nt (h.a1 e (ini he)))) (k.look g1 (nt g1)),cs (λe he=>k.look (h.a2 e (ini he)) (hd0 e he)) e,cs (λe he=>k.look (h.a3 e (ini he)) (nls (h.a3 e (ini he)))) (k.look g3 (nls g3)),by have:=h.nd;simpa using this,cs (λe he=>h.ob e (ini he)) h1,cs (λe he=>h.on e (ini he)) h2,cs (λe he=>Nm (h.ol e (ini he))) h3,cs (λe he=>h.Mr e (ini he)) g4,cs (λe he=>h.nl e (ini he)) g5,by simp,by have:=h.n2;simp at this ⊢;omega,k.put h.bs g6,h.bl,h.bf,cs (λe he=>h.bd e (ini he)) g6,h.ne,k.look h.ef (nls h.ef),h.fa.D7 k ed,h.nr,Nm h.rl⟩
 have:=k.look h.el (nls h.el)
 rw[this]
 simp
theorem bF.push {kd:Str→Str} {K0:Ow} {B H H':Hp} {ls lf:Addr} {i:Nat} {es:List bS} {x:bS} {rs:List (Addr × Addr)} {fls:List Fl} (h:bF kd K0 B H ls lf i es rs fls) (k:Keeps ls H H') (e:H' ls=some (.lst ((es.map λe=>V.ref e.t) ++ [.ref x.t]))) (h1:H x.t=some (.tup [.ref x.d,.ref x.l])) (h2:H x.d=some (.dK (dS x.o))) (h3:H x.l=some (.lst (x.rm.map V.str))) (hn:x.d∉es.map (·.d)) (hb:B x.d=none) (hl:x.l≠ls∧x.l≠lf) (ho:lN kd K0 x.o∧(∀q∈x.o,zZ q.1=true)∧x.o.length≤22 + i∧x.rm.length≤12):bF kd K0 B H' ls lf (i + 1) (es ++ [x]) rs fls:=by
 have hel:=h.el
 have nt:∀{x:Addr} {u:List V},H x=some (.tup u)→x≠ls:=λ{x u} q z=>by rw[z,hel] at q;cases q
 have ndd:∀{x:Addr} {u:List (Key × V)},H x=some (.dK u)→x≠ls:=λ{x u} q z=>by rw[z,hel] at q;cases q
 have cs:∀{p:bS→Prop},(∀e∈es,p e)→p x→∀e∈es ++ [x],p e:=λ{p} a b e he=>by
  (rcases SI.mp he with he | he)
  ·exact a e he
  ·rw[SY.mp he];exact b
 refine⟨by rw[e,SG];rfl,cs (λe he=>k.look (h.a1 e he) (nt (h.a1 e he))) (k.look h1 (nt h1)),cs (λe he=>k.look (h.a2 e he) (ndd (h.a2 e he))) (k.look h2 (ndd h2)),cs (λe he=>k.look (h.a3 e he) (h.nl e he).1) (k.look h3 hl.1),?_,cs h.ob ho.1,cs h.on ho.2.1,cs (λe he=>Nm (h.ol e he)) (Nm ho.2.2.1),cs h.Mr ho.2.2.2,cs h.nl hl,by simp,by have:=h.n2;simp;omega,k.put h.bs h.bl,h.bl,h.bf,cs h.bd hb,h.ne,k.look h.ef (λz=>h.ne z.symm),Paired.VM h.fa λr hr f z=>⟨k.look z.1 (nt z.1),k.look z.2 (h.nr r hr).2.1⟩,h.nr,Nm h.rl⟩
 rw[SG]
 exact TU.mpr ⟨h.nd,by simp,λa ha b hb' z=>hn (by rw[←(SY.mp hb':b=x.d),←z];exact ha)⟩
theorem bF.pop {kd:Str→Str} {K0:Ow} {B H H':Hp} {ls lf:Addr} {i:Nat} {es:List bS} {x:bS} {rs:List (Addr × Addr)} {fls:List Fl} (h:bF kd K0 B H ls lf i (es ++ [x]) rs fls) (h1:1≤es.length) (k:Keeps ls H H') (e:H' ls=some (.lst (es.map λe=>V.ref e.t))):bF kd K0 B H' ls lf (i + 1) es rs fls:=by
 have hel:=h.el
 have nt:∀{x:Addr} {u:List V},H x=some (.tup u)→x≠ls:=λ{x u} q z=>by rw[z,hel] at q;cases q
 have ndd:∀{x:Addr} {u:List (Key × V)},H x=some (.dK u)→x≠ls:=λ{x u} q z=>by rw[z,hel] at q;cases q
 have ini:∀{e:bS},e∈es→e∈es ++ [x]:=λhe=>TZ _ he
 refine⟨e,λe he=>k.look (h.a1 e (ini he)) (nt (h.a1 e (ini he))),λe he=>k.look (h.a2 e (ini he)) (ndd (h.a2 e (ini he))),λe he=>k.look (h.a3 e (ini he)) (h.nl e (ini he)).1,?_,λe he=>h.ob e (ini he),λe he=>h.on e (ini he),λe he=>Nm (h.ol e (ini he)),λe he=>h.Mr e (ini he),λe he=>h.nl e (ini he),h1,by have:=h.n2;simp at this;omega,k.put h.bs h.bl,h.bl,h.bf,λe he=>h.bd e (ini he),h.ne,k.look h.ef (λz=>h.ne z.symm),Paired.VM h.fa λr hr f z=>⟨k.look z.1 (nt z.1),k.look z.2 (h.nr r hr).2.1⟩,h.nr,Nm h.rl⟩
 have:=h.nd
 rw[SG] at this
 exact(TU.mp this).1
theorem bF.add {kd:Str→Str} {K0:Ow} {B H H':Hp} {ls lf:Addr} {i:Nat} {es:List bS} {r:Addr × Addr} {f:Fl} {rs:List (Addr × Addr)} {fls:List Fl} (h:bF kd K0 B H ls lf i es rs fls) (k:Keeps lf H H') (e:H' lf=some (.lst ((rs.map λr:Addr × Addr=>V.ref r.1) ++ [.ref r.1]))) (h1:H r.1=some (.tup (Hs f r.2))) (h2:H r.2=some (.lst (f.zb.map V.str))) (hb:B r.1=none∧B r.2=none) (hl:r.2≠ls∧r.2≠lf):bF kd K0 B H' ls lf (i + 1) es (rs ++ [r]) (fls ++ [f]):=by
 have hef:=h.ef
 have nt:∀{x:Addr} {u:List V},H x=some (.tup u)→x≠lf:=λ{x u} q z=>by rw[z,hef] at q;cases q
 have ndd:∀{x:Addr} {u:List (Key × V)},H x=some (.dK u)→x≠lf:=λ{x u} q z=>by rw[z,hef] at q;cases q
 refine⟨k.look h.el h.ne,λe he=>k.look (h.a1 e he) (nt (h.a1 e he)),λe he=>k.look (h.a2 e he) (ndd (h.a2 e he)),λe he=>k.look (h.a3 e he) (h.nl e he).2,h.nd,h.ob,h.on,λe he=>Nm (h.ol e he),h.Mr,h.nl,h.n1,Nm h.n2,k.put h.bs h.bf,h.bl,h.bf,h.bd,h.ne,by rw[e,SG];rfl,?_,λr' hr=>?_,by rw[Sl];have:=h.rl;simp;omega⟩
 ·exact Paired.Vs (.cons ⟨k.look h1 (nt h1),k.look h2 hl.2⟩ .nil) (Paired.VM h.fa λr hr f z=>⟨k.look z.1 (nt z.1),k.look z.2 (h.nr r hr).2.2⟩)
 ·rcases SI.mp hr with hr | hr
  ·exact h.nr r' hr
  ·rw[SY.mp hr];exact⟨hb,hl⟩
theorem Wc {kd:Str→Str} {evs:List Ew} {S Si:List (Ow × List Str)} {R:List Fl × List (Ow × List Str)} {i:Nat} {e:Ew} {f:List Fl} (h:xR kd evs S=some R) (he:evs[i]?=some e) (hi:xR kd (evs.take i) S=some (f,Si)):∃q,Ho kd e Si=some q∧xR kd (evs.take (i + 1)) S=some (f ++ q.1,q.2):=by
 have e1:evs=(evs.take i ++ [e]) ++ evs.drop (i + 1):=by rw[←take_snoc he,NF]
 have e2:=fk kd [e] (evs.take i) S
 rw[hi,Sa,yx] at e2
 rw[e1,fk] at h
 obtain⟨p,hp,_⟩:=SJ.mp h
 rw[e2] at hp
 obtain⟨q,hq,hp⟩:=SJ.mp hp
 refine⟨q,hq,?_⟩
 rw[take_snoc he,e2,hq]
 rfl
theorem W4 {es0:List bS} {e:bS}:vC ((es0 ++ [e]).map λe=>V.ref e.t) (-1)=some (.ref e.t):=by
 have h:JS (es0.length + 1) (-1)=some es0.length:=by
  unfold JS
  rw[if_neg (by decide),if_pos (by omega)]
  exact congrArg some (by omega)
 unfold vC
 rw[Su,Sl,Se,S1,h]
 simp
theorem oH (es0:List bS) (x:bS):((es0 ++ [x]).map bS.pr).reverse=x.pr :: (es0.map bS.pr).reverse:=by simp
theorem YZ:zZ ("let" : Str)=false∧zZ ("part" : Str)=false∧zZ ("done" : Str)=false:=by decide +kernel
theorem pD {l:Str} (h:zZ l=true):l≠"let"∧l≠"part"∧l≠"done":=⟨(λz=>by rw[z,YZ.1] at h;cases h),(λz=>by rw[z,YZ.2.1] at h;cases h),(λz=>by rw[z,YZ.2.2] at h;cases h)⟩
theorem aq:¬("part" : Str) = "let"∧¬("done" : Str) = "let"∧¬("done" : Str) = "part":=by decide +kernel
def Ew.w0:Ew→Str
 | .lt _ _=>"let"
 | .pt _ _=>"part"
 | .dn=>"done"
 | .mu l _ _ _ _=>l
 | .my l _ _=>l
 | .bn l _ _ _=>l
 | .pw l _ _ _=>l
theorem Ew.Dm (e:Ew):vC (e.ws.map V.str) 0=some (.str e.w0):=by
 cases e with
 | pt n rs=>
  cases rs with
  | nil=>rfl
  | cons x rs=>exact kT (j:=0) rfl
 | _=>rfl
theorem Ew.aF {e:Ew} {c:Int × Str × Str × Str × Int × Str} (ho:e.ok) (hc:e.Qs=some c):e.w0≠"let"∧e.w0≠"part"∧e.w0≠"done":=by
 cases e with
 | mu l w a n r=>exact pD ho.1
 | my l w a=>exact pD ho.1
 | bn l w a r=>exact pD ho.1
 | pw l w a r=>exact pD ho.1
 | _=>cases hc
theorem Fi {kd:Str→Str} {o:Ow} {k:Int} {l u a:Str} {n:Int} {r:Str} {zb:List Str} {d:Int} {f:Fl} (h:bo kd o k l u a n r zb d=some f):f.zb=zb:=by
 obtain⟨_,_,_,rfl,_⟩:=aE h
 rfl
theorem X9 {kd:Str→Str} {e:Ew} {c:Int × Str × Str × Str × Int × Str} {o:Ow} {zb:List Str} {S:List (Ow × List Str)} {q:List Fl × List (Ow × List Str)} (hc:e.Qs=some c) (h:Ho kd e ((o,zb) :: S)=some q):∃f,bo kd o c.1 c.2.1 c.2.2.1 c.2.2.2.1 c.2.2.2.2.1 c.2.2.2.2.2 zb S.length=some f∧q=([f],(o,zb) :: S):=by
 have h':(e.Qs).bind (λc=>(bo kd o c.1 c.2.1 c.2.2.1 c.2.2.2.1 c.2.2.2.2.1 c.2.2.2.2.2 zb S.length).bind λf=>some ([f],(o,zb) :: S))=some q:=by
  cases e<;>first | exact h | cases hc
 rw[hc,Sa] at h'
 obtain⟨f,hf,h'⟩:=SJ.mp h'
 exact⟨f,hf,(Tq h').symm⟩
theorem Cc {kd:Str→Str} {K0 o:Ow} {n v b:Str} (h:lN kd K0 o) (hb:lk o v=some b):lN kd K0 (pu o n b):=λz y hz=>by
 rw[YH] at hz
 split at hz
 ·cases hz;exact h v _ hb
 ·exact h z y hz
theorem MW {o:Ow} {n b:Str} (h:∀q∈o,zZ q.1=true) (hn:zZ n=true):∀q∈pu o n b,zZ q.1=true:=λq hq=>by
 have hm:q.1∈(pu o n b).map (·.1):=TL hq
 have h':∀x∈o.map (·.1),zZ x=true:=λx hx=>by
  obtain⟨p,hp,rfl⟩:=TY.mp hx
  exact h p hp
 rw[sT] at hm
 split at hm
 ·exact h' _ hm
 ·(rcases SI.mp hm with hm | hm)
  ·exact h' _ hm
  ·rw[SY.mp hm];exact hn
section
variable {P:SM} {w:Tj} {K:Sd} {mg:Str→Option Sr} {base:Heap} {t:z5}
def PY (K:Sd):Sp:=λvs H Q _=>∃(p l:Addr) (c:Int) (ps as:List Str) (zb:List (Str × Str)) (ws:List V) (evs:List Ew) (fls:List Fl) (S2:List (Ow × List Str)),vs=[.ref p,.ref l]∧mO H p c ps as zb∧Dh c ps as zb∧H l=some (.lst ws)∧Paired (fO H) ws evs∧(∀e∈evs,e.ok)∧evs.length≤42∧xR (xS ps as zb) evs [(yw (j9 ps as zb),zb.map (·.2))]=some (fls,S2)∧
 ∀lt H' rs,zp H H'→H lt=none→H' lt=some (.lst (rs.map λr:Addr × Addr=>.ref r.1))→jb H' rs fls→(∀r∈rs,H r.1=none∧H r.2=none)→Q (.ref lt) H'
seal NZ
theorem j6:zd ["_law_header_here","_law_rows_here","_law_kinds_here","_law_stack","_law_found","_law_row","_law_scope_here","_law_rooms","_law_inner_here","_law_wrong_here"] ["_law_header_here","_law_rows_here"] (zy oO):=by walk_at "sc"
theorem V9 (T:Txt K mg t):zo P w K mg base zC 3 t.nu t.tT ["_law_header_here","_law_rows_here"] (PY K):=by
 have G_w_inner:zo P w K mg base zC 2 t.uR t.uB ["_law_kinds_here","_law_scope_here","_law_row","_law_rooms"] (PB K):=(XZ T).mono (by decide)
 have G_w_kinds:zo P w K mg base zC 2 t.gx t.gj ["_law_header_here"] Vw:=(dM T).mono (by decide)
 have G_w_scope:zo P w K mg base zC 2 t.fV t.fX ["_law_header_here"] GA:=(oK T).mono (by decide)
 have G_w_told:zo P w K mg base zC 2 t.nX t.tE ["_law_scope_here","_law_row","_law_rooms","_law_depth"] (P6 K):=(Wx T).mono (by decide)
 have G_w_wrong:zo P w K mg base zC 2 t.uO t.uC ["_law_kinds_here","_law_scope_here","_law_row"] P9:=(XY T).mono (by decide)
 refine T.Qm.fn.ok j6 (by walk_at "ln") ?_;walk_at "hd"
 obtain⟨p,l,c,ps,as,zb,ws,evs,fls,S2,rfl,hH,hZ,el,hP,hev,hln,hR,k⟩:=h
 refine⟨_,(zj (za (i:=2) j6.nd rfl (SA rfl) (ze G_w_kinds hr rfl T.vb.mg T.vb.fn.kp T.vb.bd .nil zJ (zz (pv 0) zq)))
   (zj (za (i:=3) j6.nd rfl (SA rfl) (zP (zz (qx (zz (ze G_w_scope hr rfl T.bh.mg T.bh.fn.kp T.bh.bd .nil zJ (zz (pv 0) zq)) (zz (wg (osc:=zy oO) (N:=["_law_header_here","_law_rows_here","_law_kinds_here","_law_stack","_law_found","_law_row","_law_scope_here","_law_rooms","_law_inner_here","_law_wrong_here"]) (xs:=["_law_mark","_law_name"]) (names:=[]) (zU:=[]) rfl rfl rfl ⟨rfl,by decide +kernel,by decide +kernel,by decide +kernel,by decide +kernel,rfl,by decide +kernel,by decide +kernel⟩ (qf (K:=K) rfl (zu (qH (K:=K) rfl) (pv 0) zx (λ_ _=>rfl))) (λ_ _ _=>(vI (K:=K) (n:=2) rfl rfl (qu (zM (i:=0) (show (["_law_mark","_law_name"]:List Str).Nodup from by decide +kernel) rfl (.inl (yy rfl)) (.inr (yy rfl))) (qu (zM (i:=1) (show (["_law_mark","_law_name"]:List Str).Nodup from by decide +kernel) rfl (.inl (yy rfl)) (.inr (yy rfl))) vE)) rfl rfl)) (λ_ _ _=>sL) (λ_ _ _=>(pv 1))) zq))) zq)) jX)
   (zj (za (i:=4) j6.nd rfl (SA rfl) (zP zq) jX)
   (zj (jg TJ rfl (qf (K:=K) rfl (pv 1)) (zM (i:=5) j6.nd rfl (SA rfl))
    (zj (ku (zu (zv (K:=K) rfl) (pv 3) (c8 bj zx) (λ_ _=>rfl)) (vI (K:=K) rfl rfl (qu (zM (i:=6) j6.nd rfl (SA rfl)) (qu (zM (i:=7) j6.nd rfl (SA rfl)) vE))))
   (zk (PS.join (zW (zc qj (zu (zv (K:=K) rfl) (pv 5) zx (λ_ _=>rfl)) zw (zQ _))
    (zj (zW (ZI (au (qi hr) (zu (zv (K:=K) rfl) (pv 5) zx (λ_ _=>rfl)) (pv 6)))
    (zk (zf (qx (zz zw (zz zw (zz (zu (zv (K:=K) rfl) (pv 5) zx (λ_ _=>rfl)) zq)))))) zr)
   (zk (ku (qB (qi hr) (pv 6) (zu (zv (K:=K) rfl) (pv 5) zx (λ_ _=>rfl)) (λ_ _=>rfl)) (vH (pv 6) (zu (zv (K:=K) rfl) (pv 5) zx (λ_ _=>rfl)) (jQ (qi hr)))))) (zk (PS.join (zW (zc qj (zu (zv (K:=K) rfl) (pv 5) zx (λ_ _=>rfl)) zw (zQ _))
    (zj (za (i:=8) j6.nd rfl (SA rfl) (ze G_w_inner hr rfl T.tm.mg T.tm.fn.kp T.tm.bd .nil zJ (zz (pv 2) (zz (pv 6) (zz (pv 5) (zz (pv 7) zq))))))
   (zj (zW (qt (zX (qT (K:=K) rfl) rfl T.qL TB (zz (pv 8) (zz (g7 rfl T.Ku EC (v:=.ty "tuple") rfl) zq))))
    (zk (zf (pv 8))) zr)
   (zk (zO (qC SS S9 Tz qk (pv 3) (zz (qx (zz (qz gI rfl T.aL OW (zz (pv 6) zq)) (zz (pv 8) zq))) zq)))))) (zk (PS.join (zW (zc qj (zu (zv (K:=K) rfl) (pv 5) zx (λ_ _=>rfl)) zw (zQ _))
    (zk (zO (rY SS N9 Oz oj (pv 3)))) (zj (za (i:=9) j6.nd rfl (SA rfl) (ze G_w_wrong hr rfl T.tQ.mg T.tQ.fn.kp T.tQ.bd .nil zJ (zz (pv 2) (zz (pv 6) (zz (pv 5) zq)))))
   (zj (zW (zc (ZL (K:=K) rfl hr.units) (pv 9) (qx zq) (zQ _))
    (zk (zf (pv 9))) zr)
   (zk (zO (qC SS S9 Tz qk (pv 4) (zz (ze G_w_told hr rfl T.Qu.mg T.Qu.fn.kp T.Qu.bd .nil zJ (zz (pv 6) (zz (pv 5) (zz (pv 7) (zz (zi dD (zX (zH (K:=K) rfl) rfl T.qo S5 (zz (pv 3) zq)) zx) zq))))) zq)))))))))))))))))
   (zk (zf (pv 4))))))),?_⟩
 refine⟨_,rfl,p,c,ps,as,zb,rfl,hH,hZ.hd,λd0 H1 s1 hd0 e0=>?_⟩
 show zT 2 (V.ref d0) [some (.ref p),some (.ref l),none,none,none,none,none,none,none,none] _ _
 refine⟨_,rfl,p,c,ps,as,zb,rfl,hH.same s1,hZ.hd,λd H2 s2 hd e2=>?_⟩
 obtain⟨lp,la,lr,lm,ll,vs,ep,elp,ela,elr,elm,hRm⟩:=hH.same (s1.trans s2)
 refine⟨_,rfl,p,_,_,_,rfl,rfl,jo.of ep,rfl,lr,rfl,⟨_,zK.of elr⟩,?_⟩
 have hvl:vs.length=zb.length:=TF hRm
 have hrl:zb.length≤12:=hZ.hd.r2
 refine uG (xC (zK.of elr)) (JD H2) (Qp H2) (λy v=>∀p m n,y=V.ref p→H2 p=some (.tup [.str m,.str n])→v=V.str n) (zg (by omega)) ?_ ?_ ?_
 ·intro j y ts H' K' hy hts s' k'
  obtain⟨mn,_,p',rfl,ep⟩:=Paired.Xr hRm (SN hy)
  have et:JD H2 (.ref p')=[some (.str mn.1),some (.str mn.2)]:=by unfold JD;simp only[ep]
  rw[et] at k'
  match ts,hts with
  | [t1,t2],_=>exact⟨p',_,rfl,jo.of (s' _ _ ep),rfl,_,_,rfl,_,_,rfl,rfl,k'⟩
 ·intro j y H' Q' hy s' kk
  obtain⟨mn,_,p',rfl,ep⟩:=Paired.Xr hRm (SN hy)
  have et:JD H2 (.ref p')=[some (.str mn.1),some (.str mn.2)]:=by unfold JD;simp only[ep]
  rw[et]
  refine⟨_,rfl,kk _ _ (zp.refl _) λp2 m2 n2 e q=>?_⟩
  cases e
  rw[ep] at q
  cases q
  rfl
 intro D H3 ys s3 hD e3 hPr
 rw[hV hRm hPr] at e3
 clear hPr ys
 refine⟨zg (by show 2≤1000;decide),?_⟩
 intro t0 H4 s4 ht0 e4
 refine⟨zg (by show 1≤1000;decide),?_⟩
 intro ls H5 s5 hls e5
 show zT 3 (V.ref ls) [some (.ref p),some (.ref l),some (.ref d0),none,none,none,none,none,none,none] _ _
 refine⟨zg (by show 0≤1000;decide),?_⟩
 intro lf H6 s6 hlf e6
 show zT 4 (V.ref lf) [some (.ref p),some (.ref l),some (.ref d0),some (.ref ls),none,none,none,none,none,none] _ _
 have s26:=((s3.trans s4).trans s5).trans s6
 have s16:=s2.trans s26
 have e2':=s26 _ _ e2
 have e3':=s6 _ _ (s5 _ _ (s4 _ _ e3))
 have e4':=s6 _ _ (s5 _ _ e4)
 have e5':=s6 _ _ e5
 have hbl:H1 ls=none:=((s2.trans s3).trans s4).free hls
 have hbf:H1 lf=none:=(((s2.trans s3).trans s4).trans s5).free hlf
 have hEn:=Ya hZ
 have hk0:=Zs hZ.hd
 have hol:(yw (j9 ps as zb)).length=(j9 ps as zb).length:=Su ..
 have st0:bF (xS ps as zb) (j9 ps as zb) H1 H6 ls lf 0 [⟨t0,d,D,yw (j9 ps as zb),zb.map (·.2)⟩] [] []:=by
  have one:∀{q:bS→Prop},q ⟨t0,d,D,yw (j9 ps as zb),zb.map (·.2)⟩→∀e∈[(⟨t0,d,D,yw (j9 ps as zb),zb.map (·.2)⟩:bS)],q e:=λ{q} h e he=>by rw[SY.mp he];exact h
  refine⟨e5',one e4',one e2',one e3',by simp,one hEn.bs,one hEn.Uv,one (show (yw (j9 ps as zb)).length≤22 + 0 by omega),one (show (zb.map (·.2)).length≤12 by rw[Su];exact hrl),one ⟨λz=>?_,λz=>?_⟩,by simp,by simp,s16,hbl,hbf,one hd,λz=>?_,e6,.nil,λr hr=>(by cases hr),Tr _⟩
  ·have z':D=ls:=z
   rw[←z',s4 _ _ e3] at hls;cases hls
  ·have z':D=lf:=z
   rw[←z',s5 _ _ (s4 _ _ e3)] at hlf;cases hlf
  ·rw[←z,e5] at hlf;cases hlf
 have el6:=(s1.trans s16) _ _ el
 have elB:=s1 _ _ el
 have hPB:Paired (fO H1) ws evs:=Paired.imp' (λ_ _ z=>z.same s1) hP
 have hwl:ws.length=evs.length:=TF hP
 clear e2 e3 e4 e5 e6 e2' e3' e4' e5' s26 s3 s4 s5 s6 hls hlf hD ht0 hd s2
 clear ep elp ela elr elm hRm
 refine⟨_,rfl,l,rfl,⟨_,zK.of el6⟩,?_⟩
 refine xr (K:=K) (a:=l) (xs:=ws) (λi σ H'=>(∃(es:List bS) (rs:List (Addr × Addr)) (fl:List Fl) (v5 v6 v7 v8 v9:Option V),σ=[some (.ref p),some (.ref l),some (.ref d0),some (.ref ls),some (.ref lf),v5,v6,v7,v8,v9]∧bF (xS ps as zb) (j9 ps as zb) H1 H' ls lf i es rs fl∧xR (xS ps as zb) (evs.take i) [(yw (j9 ps as zb),zb.map (·.2))]=some (fl,(es.map bS.pr).reverse))∨False)
  (.inl ⟨_,_,_,none,none,none,none,none,rfl,st0,rfl⟩) (λi σ H' _ q=>(by obtain⟨_,_,_,_,_,_,_,_,_,z,_⟩:=q.resolve_right (λz=>z);exact zK.of (z.bs _ _ elB))) ?_ ?_
 ·intro i y σ H7 hi q
  obtain⟨es,rs,fl,v5,v6,v7,v8,v9,rfl,st,hrun⟩:=q.resolve_right λz=>z
  clear q
  obtain⟨e,hie,lw,rfl,hlw⟩:=Paired.ZP (i:=i) hPB hi
  obtain⟨es0,⟨tt,d,lq,o,rm⟩,rfl⟩:=nF st.n1
  rw[oH] at hrun
  obtain⟨q,hq,hrun2⟩:=Wc hR hie hrun
  have hx:(⟨tt,d,lq,o,rm⟩:bS)∈es0 ++ [⟨tt,d,lq,o,rm⟩]:=by simp
  have ett:H7 tt=some (.tup [.ref d,.ref lq]):=st.a1 _ hx
  have ed:H7 d=some (.dK (dS o)):=st.a2 _ hx
  have elq:H7 lq=some (.lst (rm.map V.str)):=st.a3 _ hx
  have hob:lN (xS ps as zb) (j9 ps as zb) o:=st.ob _ hx
  have hon:∀q∈o,zZ q.1=true:=st.on _ hx
  have hol':o.length≤22 + i:=st.ol _ hx
  have horm:rm.length≤12:=st.Mr _ hx
  have hnl:lq≠ls∧lq≠lf:=st.nl _ hx
  have hbd:H1 d=none:=st.bd _ hx
  have hil:i < evs.length:=(S3.mp hie).1
  have z8:=hev e (SN hie)
  have elw:=st.bs _ _ hlw
  have e07:=st.bs _ _ e0
  refine⟨_,rfl,1,rfl,ls,_,_,_,rfl,rfl,zK.of st.el,W4,tt,_,rfl,jo.of ett,rfl,?_⟩
  show QD (zT 6) (QD (zT 7) FC) _ [some (.ref p),some (.ref l),some (.ref d0),some (.ref ls),some (.ref lf),some (.ref lw),v6,v7,v8,v9] _ _
  refine⟨_,_,rfl,_,_,rfl,rfl,?_⟩
  show ∃M:L2.St→Hp→Prop,_∧_
  refine⟨λσ' H'=>(∃(es:List bS) (rs:List (Addr × Addr)) (fl:List Fl) (v8 v9:Option V),σ'=[some (.ref p),some (.ref l),some (.ref d0),some (.ref ls),some (.ref lf),some (.ref lw),some (.ref d),some (.ref lq),v8,v9]∧bF (xS ps as zb) (j9 ps as zb) H1 H' ls lf (i + 1) es rs fl∧xR (xS ps as zb) (evs.take (i + 1)) [(yw (j9 ps as zb),zb.map (·.2))]=some (fl,(es.map bS.pr).reverse))∨False,?_,?_⟩
  ·refine⟨_,rfl,lw,_,_,_,rfl,rfl,zK.of elw,e.Dm,?_⟩
   walk_at "rd"
   refine zD (λh1=>?_) (λh1=>?_)
   ·have hw:e.w0 = "let":=V.str.inj (zjj h1)
    cases e with
    | lt a b=>
     have hq':(lk o b).bind (λx=>some (([]:List Fl),(pu o a x,rm) :: (es0.map bS.pr).reverse))=some q:=hq
     obtain⟨x,hbx,hq'⟩:=SJ.mp hq'
     cases hq'
     refine⟨_,rfl,lw,_,_,_,rfl,rfl,zK.of elw,rfl,?_⟩
     refine⟨_,rfl,d,_,rfl,dg ed hbx,false,rfl,?_⟩
     refine⟨_,rfl,_,rfl,lw,_,_,_,rfl,rfl,zK.of elw,rfl,d,_,rfl,dg ed hbx,?_⟩
     refine⟨_,rfl,_,rfl,lw,_,_,_,rfl,rfl,zK.of elw,rfl,?_⟩
     refine⟨d,_,.inr a,rfl,rfl,ed,?_,?_⟩
     ·exact zg (by rw[wZ];omega)
     intro H9 k9 e9
     rw[g8] at e9
     have hpl:=XU o a x
     refine .inl ⟨_,rs,fl,v8,v9,rfl,st.put k9 e9 (Cc hob hbx) (MW hon z8.1) (by omega),?_⟩
     rw[hrun2,Tt,oH]
     rfl
    | mu l w a n r=>exact absurd hw (Ew.aF z8 rfl).1
    | my l w a=>exact absurd hw (Ew.aF z8 rfl).1
    | bn l w a r=>exact absurd hw (Ew.aF z8 rfl).1
    | pw l w a r=>exact absurd hw (Ew.aF z8 rfl).1
    | pt n rs=>exact absurd hw aq.1
    | dn=>exact absurd hw aq.2.1
   ·have hw1:e.w0≠"let":=λz=>h1 (zjx (congrArg V.str z))
    refine⟨λσ' H'=>_,?_,λσ' H' q=>q⟩
    refine⟨_,rfl,lw,_,_,_,rfl,rfl,zK.of elw,e.Dm,?_⟩
    walk_at "rd"
    refine zD (λh2=>?_) (λh2=>?_)
    ·have hw:e.w0 = "part":=V.str.inj (zjj h2)
     cases e with
     | pt n rs'=>
      have hq':(pz (xS ps as zb) o rs' rm).bind (λcv=>some (([]:List Fl),(o,cv) :: (o,rm) :: (es0.map bS.pr).reverse))=some q:=hq
      obtain⟨cv,hcv,hq'⟩:=SJ.mp hq'
      cases hq'
      refine⟨_,rfl,_,rfl,_,rfl,_,rfl,d0,d,lw,lq,j9 ps as zb,o,xS ps as zb,n,rs',rm,cv,rfl,e07,ed,elw,elq,z8,hcv,hob,by omega,λl' H8 s8 hl' e8=>?_⟩
      have st8:=st.same s8
      have ed8:=s8 _ _ ed
      show zT 8 (V.ref l') [some (.ref p),some (.ref l),some (.ref d0),some (.ref ls),some (.ref lf),some (.ref lw),some (.ref d),some (.ref lq),v8,v9] _ _
      refine⟨_,rfl,_,_,.type "list",false,rfl,.inl ⟨_,rfl⟩,xZ.lst e8,T.iC,_,rfl,?_⟩
      refine zD (λh=>by cases h) (λ_=>?_)
      refine⟨_,rfl,.inl ⟨rfl,_,zK.of st8.el⟩,?_⟩
      refine⟨_,rfl,d,_,rfl,ed8,?_⟩
      intro d2 H9 s9 hd2 e9
      refine⟨_,rfl,zg (by show 2≤1000;decide),?_⟩
      intro t2 H10 s10 ht2 e10
      have st10:=(st8.same s9).same s10
      have hn2:=st.n2
      refine⟨ls,_,_,rfl,rfl,st10.el,zg (by rw[Su];omega),?_⟩
      intro H11 k11 e11
      have hnew:d2∉(es0 ++ [(⟨tt,d,lq,o,rm⟩:bS)]).map (·.d):=λz=>by
       obtain⟨x,hx,hxe⟩:=TY.mp z
       have q:=st8.a2 x hx
       rw[hxe,hd2] at q
       cases q
      have hcl:=Zz hcv
      refine .inl ⟨_,rs,fl,_,_,rfl,st10.push (x:=⟨t2,d2,l',o,cv⟩) k11 e11 e10 (s10 _ _ e9) (s10 _ _ (s9 _ _ e8)) hnew (st8.bs.free hd2) ⟨λz=>?_,λz=>?_⟩ ⟨hob,hon,hol',by show cv.length≤12;omega⟩,?_⟩
      ·have z':l'=ls:=z
       have q:=st.el
       rw[←z',hl'] at q
       cases q
      ·have z':l'=lf:=z
       have q:=st.ef
       rw[←z',hl'] at q
       cases q
      ·rw[hrun2,Tt,oH,oH]
       rfl
     | mu l w a n r=>exact absurd hw (Ew.aF z8 rfl).2.1
     | my l w a=>exact absurd hw (Ew.aF z8 rfl).2.1
     | bn l w a r=>exact absurd hw (Ew.aF z8 rfl).2.1
     | pw l w a r=>exact absurd hw (Ew.aF z8 rfl).2.1
     | lt a b=>exact absurd rfl hw1
     | dn=>exact absurd hw aq.2.2
    ·have hw2:e.w0≠"part":=λz=>h2 (zjx (congrArg V.str z))
     refine⟨λσ' H'=>_,?_,λσ' H' q=>q⟩
     refine⟨_,rfl,lw,_,_,_,rfl,rfl,zK.of elw,e.Dm,?_⟩
     walk_at "rd"
     refine zD (λh3=>?_) (λh3=>?_)
     ·have hw:e.w0 = "done":=V.str.inj (zjj h3)
      cases e with
      | dn=>
       have hq':(if (es0.map bS.pr).reverse=[] then none else some (([]:List Fl),(es0.map bS.pr).reverse))=some q:=hq
       split at hq'
       ·cases hq'
       rename_i hne
       cases hq'
       have hes0:1≤es0.length:=by
        cases es0 with
        | nil=>exact absurd rfl hne
        | cons a b=>simp
       refine⟨_,rfl,.inl ⟨rfl,_,zK.of st.el⟩,ls,_,.ref tt,rfl,rfl,st.el,by simp,?_⟩
       intro H8 k8 e8
       have e8':H8 ls=some (.lst (es0.map λe=>.ref e.t)):=by rw[e8];simp
       refine .inl ⟨_,rs,fl,_,_,rfl,st.pop hes0 k8 e8',?_⟩
       rw[hrun2,Tt]
      | mu l w a n r=>exact absurd hw (Ew.aF z8 rfl).2.2
      | my l w a=>exact absurd hw (Ew.aF z8 rfl).2.2
      | bn l w a r=>exact absurd hw (Ew.aF z8 rfl).2.2
      | pw l w a r=>exact absurd hw (Ew.aF z8 rfl).2.2
      | lt a b=>exact absurd rfl hw1
      | pt n rs=>exact absurd rfl hw2
     ·have hw3:e.w0≠"done":=λz=>h3 (zjx (congrArg V.str z))
      obtain⟨c',hc⟩:∃c',e.Qs=some c':=by
       cases e with
       | lt a b=>exact absurd rfl hw1
       | pt n rs=>exact absurd rfl hw2
       | dn=>exact absurd rfl hw3
       | _=>exact⟨_,rfl⟩
      obtain⟨f,hf,rfl⟩:=X9 hc hq
      obtain⟨w',a',r',_,hU⟩:=aE hf
      refine⟨_,rfl,_,rfl,_,rfl,d0,d,lw,j9 ps as zb,o,xS ps as zb,e,c',w',a',r',rfl,e07,ed,elw,z8,hc,hU,hob,λq8 H8 s8 e8=>?_⟩
      show zT 9 (V.ref q8) [some (.ref p),some (.ref l),some (.ref d0),some (.ref ls),some (.ref lf),some (.ref lw),some (.ref d),some (.ref lq),v8,v9] _ _
      walk_at "rd"
      intro q9 H9 s9 hq9 e9
      refine⟨_,_,cq.tup (jo.of (s9 _ _ e8)) .nil,cq.tup (jo.of e9) .nil,rfl,rfl,_,rfl,?_⟩
      refine zD (λh=>by cases h) (λ_=>?_)
      have s79:=s8.trans s9
      have st9:=st.same s79
      refine⟨_,rfl,.inl ⟨rfl,_,zK.of st9.ef⟩,?_⟩
      refine⟨_,rfl,_,rfl,_,rfl,_,rfl,ls,_,rfl,.inl (zK.of st9.el),_,_,rfl,rfl,?_⟩
      have hdep:((((es0 ++ [(⟨tt,d,lq,o,rm⟩:bS)]).map λe=>V.ref e.t).length:Nat):Int) - 1=(((es0.map bS.pr).reverse.length:Nat):Int):=by
       rw[Su,Sl,Ol,Su]
       simp
      rw[←hdep] at hf
      refine⟨d,lw,lq,o,xS ps as zb,e,c',f,rm,_,rfl,s79 _ _ ed,s79 _ _ elw,s79 _ _ elq,hon,z8,hc,hf,λp' l' H10 s10 hp' hl' e10 f10=>?_⟩
      have st10:=st9.same s10
      have hrl10:=st.rl
      have hfr:f.zb=rm:=Fi hf
      refine⟨lf,_,_,rfl,rfl,st10.ef,zg (by rw[Su];omega),?_⟩
      intro H11 k11 e11
      refine .inl ⟨_,_,_,_,_,rfl,st10.add (r:=(p',l')) (f:=f) k11 e11 e10 (by rw[hfr];exact f10) ⟨st9.bs.free hp',st9.bs.free hl'⟩ ⟨λz=>?_,λz=>?_⟩,?_⟩
      ·have z':l'=ls:=z
       have q:=st9.el
       rw[←z',hl'] at q
       cases q
      ·have z':l'=lf:=z
       have q:=st9.ef
       rw[←z',hl'] at q
       cases q
      ·rw[hrun2,oH]
       rfl
  ·intro σ' H8 q
   obtain⟨es3,rs3,fl3,w8,w9,rfl,st8,hr8⟩:=q.resolve_right λz=>z
   exact .inl ⟨_,_,_,_,_,_,_,_,rfl,st8,hr8⟩
 ·intro σ H7 q
  obtain⟨es,rs,fl,v5,v6,v7,v8,v9,rfl,st,hrun⟩:=q.resolve_right λz=>z
  clear q
  rw[hwl,T7,hR] at hrun
  obtain⟨rfl,_⟩:=Prod.mk.inj (Tq hrun)
  walk_at "rd"
  exact k lf H7 rs (s1.trans st.bs) (s1.free st.bf) st.ef st.fa λr hr=>⟨s1.free (st.nr r hr).1.1,s1.free (st.nr r hr).1.2⟩
end
def XN:Ew→Rw
 | .lt a b=>.lt a b
 | .mu l w a n r=>.cl 0 l w a n r
 | .my l w a=>.cl 1 l w a 0 ""
 | .bn l w a r=>.cl 2 l w a 0 r
 | .pw l w a r=>.cl 3 l w a 0 r
 | .pt n rs=>.pt n rs []
 | .dn=>.lt "" ""
def Gb:Ew→Bool
 | .pt _ _=>false
 | .dn=>false
 | _=>true
def PL (t:z5):Sp:=λvs H Q _=>∃(lw:Addr) (e:Ew),vs=[.ref lw]∧H lw=some (.lst (e.ws.map V.str))∧e.ok∧Gb e=true∧∀p H',zp H H'→H p=none→(∀ms,p∉ms→jT t ms H' (XN e) (.ref p))→Q (.ref p) H'
section
variable {P:SM} {w:Tj} {K:Sd} {mg:Str→Option Sr} {base:Heap} {t:z5}
theorem JW:zd ["_law_row"] ["_law_row"] (zy oE):=by walk_at "sc"
theorem Jp (T:Txt K mg t):zo P w K mg base zC 4 t.dm t.dq ["_law_row"] (PL t):=by
 have M_Ban_init:zo P w K mg base zC 2 t.kJ t.gH ["self","label","who","act","room"] (Wa K):=(lV T).mono (by decide)
 have M_Clause_init:zo P w K mg base zC 2 t.z6 t.jy ["self","label","who","act"] (We K):=(jF T).mono (by decide)
 have M_Duty_init:zo P w K mg base zC 2 t.xG t.yd ["self","label","who","act","turns","room"] (MS K):=(cS T).mono (by decide)
 have M_Let_init:zo P w K mg base zC 2 t.wY t.gB ["self","name","value"] (MT t):=(lW T).mono (by decide)
 have M_Power_init:zo P w K mg base zC 2 t.jO t.vL ["self","label","who","act","room"] (Wa K):=(mK T).mono (by decide)
 refine T.uQ.fn.ok JW (by walk_at "ln") ?_;walk_at "hd"
 obtain⟨lw,e,rfl,el,ho,hp,k⟩:=h
 refine⟨_,(zj (zW (zc qj (zu (zv (K:=K) rfl) (pv 0) zx (λ_ _=>rfl)) zw (zQ _))
    (zk (zf (qP T.YN M_Let_init hr rfl T.YM T.tW.bd .nil zJ (zz (zu (zv (K:=K) rfl) (pv 0) zx (λ_ _=>rfl)) (zz (zu (zv (K:=K) rfl) (pv 0) zx (λ_ _=>rfl)) zq))))) zr)
   (zj (zW (zc qj (zX (zH (K:=K) rfl) rfl T.qo S5 (zz (pv 0) zq)) zx (zQ _))
    (zk (zf (qP T.ZZ M_Duty_init hr rfl T.YF T.uV.bd .nil zJ (zz (zu (zv (K:=K) rfl) (pv 0) zx (λ_ _=>rfl)) (zz (zu (zv (K:=K) rfl) (pv 0) zx (λ_ _=>rfl)) (zz (zu (zv (K:=K) rfl) (pv 0) zx (λ_ _=>rfl)) (zz (qz yH rfl T.Kc OD (zz (zu (zv (K:=K) rfl) (pv 0) zx (λ_ _=>rfl)) zq)) (zz (zu (zv (K:=K) rfl) (pv 0) zx (λ_ _=>rfl)) zq)))))))) zr)
   (zj (zW (zc qj (zX (zH (K:=K) rfl) rfl T.qo S5 (zz (pv 0) zq)) zx (zQ _))
    (zk (zf (qP T.Xl M_Ban_init hr rfl T.Pb T.tJ.bd .nil zJ (zz (zu (zv (K:=K) rfl) (pv 0) zx (λ_ _=>rfl)) (zz (zu (zv (K:=K) rfl) (pv 0) zx (λ_ _=>rfl)) (zz (zu (zv (K:=K) rfl) (pv 0) zx (λ_ _=>rfl)) (zz (zu (zv (K:=K) rfl) (pv 0) zx (λ_ _=>rfl)) zq))))))) zr)
   (zj (zW (zc qj (zX (zH (K:=K) rfl) rfl T.qo S5 (zz (pv 0) zq)) zx (zQ _))
    (zk (zf (qP T.nC M_Power_init hr rfl T.K2 T.mI.bd .nil zJ (zz (zu (zv (K:=K) rfl) (pv 0) zx (λ_ _=>rfl)) (zz (zu (zv (K:=K) rfl) (pv 0) zx (λ_ _=>rfl)) (zz (zu (zv (K:=K) rfl) (pv 0) zx (λ_ _=>rfl)) (zz (zu (zv (K:=K) rfl) (pv 0) zx (λ_ _=>rfl)) zq))))))) zr)
   (zk (zf (qP T.nD M_Clause_init hr rfl T.Ze T.xK.bd .nil zJ (zz (zu (zv (K:=K) rfl) (pv 0) zx (λ_ _=>rfl)) (zz (zu (zv (K:=K) rfl) (pv 0) zx (λ_ _=>rfl)) (zz (zu (zv (K:=K) rfl) (pv 0) zx (λ_ _=>rfl)) zq)))))))))),?_⟩
 refine⟨_,rfl,lw,_,_,_,rfl,rfl,zK.of el,e.Dm,?_⟩
 walk_at "rd"
 cases e with
 | pt n rs=>cases hp
 | dn=>cases hp
 | lt a b=>
  refine zD (λ_=>?_) (λh=>(h (zjx rfl)).elim)
  refine⟨_,rfl,lw,_,_,_,rfl,rfl,zK.of el,rfl,?_⟩
  refine⟨_,rfl,lw,_,_,_,rfl,rfl,zK.of el,rfl,?_⟩
  intro p dx hp hdx hne
  refine⟨p,dx,_,_,rfl,zm,rfl,?_⟩
  exact k p _ (jZ hp hdx hne) hp λms hm=>by
   unfold XN jT
   exact⟨p,rfl,hm,dx,zm⟩
 | mu l u a n r=>
  obtain⟨n1,n2⟩:=Pl ho.2.2.2.1 ho.2.2.2.2.1
  refine zD (λh=>absurd (V.str.inj (zjj h)) (pD ho.1).1) (λ_=>?_)
  refine⟨_,rfl,lw,_,rfl,.inl (zK.of el),rfl,_,rfl,?_⟩
  refine zD (λ_=>?_) (λh=>(h (zjx rfl)).elim)
  refine⟨_,rfl,lw,_,_,_,rfl,rfl,zK.of el,rfl,?_⟩
  refine⟨_,rfl,lw,_,_,_,rfl,rfl,zK.of el,rfl,?_⟩
  refine⟨_,rfl,lw,_,_,_,rfl,rfl,zK.of el,rfl,?_⟩
  refine⟨_,rfl,lw,_,_,_,rfl,rfl,zK.of el,rfl,_,n,rfl,n1,n2,?_⟩
  refine⟨_,rfl,lw,_,_,_,rfl,rfl,zK.of el,rfl,?_⟩
  intro p dx hp hdx hne
  refine⟨p,_,dx,_,_,_,_,_,_,rfl,aI T,zm,rfl,?_⟩
  exact k p _ (jZ hp hdx hne) hp λms hm=>by
   unfold XN jT
   exact⟨p,rfl,hm,dx,zm⟩
 | bn l u a r=>
  refine zD (λh=>absurd (V.str.inj (zjj h)) (pD ho.1).1) (λ_=>?_)
  refine⟨_,rfl,lw,_,rfl,.inl (zK.of el),rfl,_,rfl,?_⟩
  refine zD (λh=>absurd (V.int.inj (zjj h)) (by simp [Ew.ws])) (λ_=>?_)
  refine⟨_,rfl,lw,_,rfl,.inl (zK.of el),rfl,_,rfl,?_⟩
  refine zD (λ_=>?_) (λh=>(h (zjx rfl)).elim)
  refine⟨_,rfl,lw,_,_,_,rfl,rfl,zK.of el,rfl,?_⟩
  refine⟨_,rfl,lw,_,_,_,rfl,rfl,zK.of el,rfl,?_⟩
  refine⟨_,rfl,lw,_,_,_,rfl,rfl,zK.of el,rfl,?_⟩
  refine⟨_,rfl,lw,_,_,_,rfl,rfl,zK.of el,rfl,?_⟩
  intro p dx hp hdx hne
  refine⟨p,_,dx,_,_,_,_,_,rfl,JE T,zm,rfl,?_⟩
  exact k p _ (jZ hp hdx hne) hp λms hm=>by
   unfold XN jT
   exact⟨p,rfl,hm,dx,zm⟩
 | pw l u a r=>
  refine zD (λh=>absurd (V.str.inj (zjj h)) (pD ho.1).1) (λ_=>?_)
  refine⟨_,rfl,lw,_,rfl,.inl (zK.of el),rfl,_,rfl,?_⟩
  refine zD (λh=>absurd (V.int.inj (zjj h)) (by simp [Ew.ws])) (λ_=>?_)
  refine⟨_,rfl,lw,_,rfl,.inl (zK.of el),rfl,_,rfl,?_⟩
  refine zD (λh=>absurd (V.int.inj (zjj h)) (by simp [Ew.ws])) (λ_=>?_)
  refine⟨_,rfl,lw,_,rfl,.inl (zK.of el),rfl,_,rfl,?_⟩
  refine zD (λ_=>?_) (λh=>(h (zjx rfl)).elim)
  refine⟨_,rfl,lw,_,_,_,rfl,rfl,zK.of el,rfl,?_⟩
  refine⟨_,rfl,lw,_,_,_,rfl,rfl,zK.of el,rfl,?_⟩
  refine⟨_,rfl,lw,_,_,_,rfl,rfl,zK.of el,rfl,?_⟩
  refine⟨_,rfl,lw,_,_,_,rfl,rfl,zK.of el,rfl,?_⟩
  intro p dx hp hdx hne
  refine⟨p,_,dx,_,_,_,_,_,rfl,tD T,zm,rfl,?_⟩
  exact k p _ (jZ hp hdx hne) hp λms hm=>by
   unfold XN jT
   exact⟨p,rfl,hm,dx,zm⟩
 | my l u a=>
  refine zD (λh=>absurd (V.str.inj (zjj h)) (pD ho.1).1) (λ_=>?_)
  refine⟨_,rfl,lw,_,rfl,.inl (zK.of el),rfl,_,rfl,?_⟩
  refine zD (λh=>absurd (V.int.inj (zjj h)) (by simp [Ew.ws])) (λ_=>?_)
  refine⟨_,rfl,lw,_,rfl,.inl (zK.of el),rfl,_,rfl,?_⟩
  refine zD (λh=>absurd (V.int.inj (zjj h)) (by simp [Ew.ws])) (λ_=>?_)
  refine⟨_,rfl,lw,_,rfl,.inl (zK.of el),rfl,_,rfl,?_⟩
  refine zD (λh=>absurd (V.int.inj (zjj h)) (by simp [Ew.ws])) (λ_=>?_)
  refine⟨_,rfl,lw,_,_,_,rfl,rfl,zK.of el,rfl,?_⟩
  refine⟨_,rfl,lw,_,_,_,rfl,rfl,zK.of el,rfl,?_⟩
  refine⟨_,rfl,lw,_,_,_,rfl,rfl,zK.of el,rfl,?_⟩
  intro p dx hp hdx hne
  refine⟨p,_,dx,_,_,_,_,rfl,tM T,zm,rfl,?_⟩
  exact k p _ (jZ hp hdx hne) hp λms hm=>by
   unfold XN jT
   exact⟨p,rfl,hm,dx,zm⟩
def Qi (t:z5) (ms:List Addr) (H:Hp) (f:Addr × Addr × Addr) (g:Fr):Prop:=H f.1=some (.tup [.str g.1,.ref f.2.1,.ref f.2.2])∧f.2.1∈ms∧f.2.2∈ms∧H f.2.1=some (.lst (g.2.1.map V.str))∧∃ys,H f.2.2=some (.lst ys)∧qy t ms H g.2.2 ys
def yg (fs:List (Addr × Addr × Addr)):List Addr:=fs.flatMap λf=>[f.2.1,f.2.2]
structure sV (t:z5) (ms:List Addr) (H:Hp) (l:Addr) (fs:List (Addr × Addr × Addr)) (fr:List Fr):Prop where
 el:H l=some (.lst (fs.reverse.map λf=>V.ref f.1))
 lm:l∈ms
 nd:(l :: yg fs).Nodup
 at_:Paired (Qi t ms H) fs fr
 al:∀c∈ms,∃o,H c=some o
theorem aU {ms:List Addr} {H H':Hp} {x:Addr} (h:∀c∈ms,∃o,H c=some o) (k:Keeps x H H') (hx:∃o,H' x=some o):∀c∈ms,∃o,H' c=some o:=λc hc=>by
 by_cases q:c=x
 ·rw[q];exact hx
 ·obtain⟨o,e⟩:=h c hc
  exact⟨o,k.look e q⟩
theorem Qi.same {t:z5} {ms:List Addr} {H H':Hp} {f:Addr × Addr × Addr} {g:Fr} (h:Qi t ms H f g) (s:zp H H'):Qi t ms H' f g:=by
 obtain⟨h1,h2,h3,h4,ys,h5,h6⟩:=h
 exact⟨s _ _ h1,h2,h3,s _ _ h4,ys,s _ _ h5,h6.move (Fm.of s) λb hb=>.inl hb⟩
theorem Qi.more {t:z5} {ms:List Addr} {H:Hp} {f:Addr × Addr × Addr} {g:Fr} {c:Addr} (h:Qi t ms H f g) (hc:H c=none):Qi t (c :: ms) H f g:=by
 obtain⟨h1,h2,h3,h4,ys,h5,h6⟩:=h
 exact⟨h1,SV _ h2,SV _ h3,h4,ys,h5,h6.move (λb o _ e=>e) λb hb=>(So.mp hb).elim (λz=>.inr (by rw[z];exact hc)) .inl⟩
theorem Qi.keep {t:z5} {ms:List Addr} {H H':Hp} {f:Addr × Addr × Addr} {g:Fr} {x:Addr} {zs:List V} (h:Qi t ms H f g) (k:Keeps x H H') (hx:x∈ms) (ex:H x=some (.lst zs)) (n1:f.2.1≠x) (n2:f.2.2≠x):Qi t ms H' f g:=by
 obtain⟨h1,h2,h3,h4,ys,h5,h6⟩:=h
 refine⟨k.look h1 (mX h1 ex (by intro z;cases z)),h2,h3,k.look h4 n1,ys,k.look h5 n2,h6.move (λb o hb e=>k.look e (λz=>hb (by rw[z];exact hx))) λb hb=>.inl hb⟩
theorem sV.same {t:z5} {ms:List Addr} {H H':Hp} {l:Addr} {fs:List (Addr × Addr × Addr)} {fr:List Fr} (h:sV t ms H l fs fr) (s:zp H H'):sV t ms H' l fs fr:=⟨s _ _ h.el,h.lm,h.nd,Paired.imp' (λ_ _ z=>z.same s) h.at_,λc hc=>by obtain⟨o,e⟩:=h.al c hc;exact⟨o,s _ _ e⟩⟩
theorem sV.add {t:z5} {ms:List Addr} {H H':Hp} {l c:Addr} {o:HO} {fs:List (Addr × Addr × Addr)} {fr:List Fr} (h:sV t ms H l fs fr) (s:zp H H') (hc:H c=none) (e:H' c=some o):sV t (c :: ms) H' l fs fr:=
 ⟨s _ _ h.el,SV _ h.lm,h.nd,Paired.imp' (λ_ _ z=>(z.more hc).same s) h.at_,λx hx=>(So.mp hx).elim (λz=>⟨o,by rw[z];exact e⟩) (λz=>by obtain⟨o,e⟩:=h.al x z;exact⟨o,s _ _ e⟩)⟩
theorem sW {t:z5} {ms:List Addr} {H H':Hp} {x:Addr} {zs:List V} (k:Keeps x H H') (hx:x∈ms) (ex:H x=some (.lst zs)):∀{fs:List (Addr × Addr × Addr)} {fr:List Fr},x∉yg fs→Paired (Qi t ms H) fs fr→Paired (Qi t ms H') fs fr
 | _,_,_,.nil=>.nil
 | f :: fs,_,hn,.cons h r=>by
  have e:yg (f :: fs)=[f.2.1,f.2.2] ++ yg fs:=by simp [yg]
  rw[e] at hn
  refine .cons (h.keep k hx ex (λz=>hn (by rw[←z];simp)) (λz=>hn (by rw[←z];simp))) (sW k hx ex (λz=>hn (SU _ z)) r)
theorem xB (f:Addr × Addr × Addr) (fs:List (Addr × Addr × Addr)):yg (f :: fs)=f.2.1 :: f.2.2 :: yg fs:=by simp [yg]
theorem sV.push {t:z5} {ms:List Addr} {H H':Hp} {l tp a b:Addr} {fs:List (Addr × Addr × Addr)} {fr:List Fr} {n:Str} {rs:List Str} (h:sV t ms H l fs fr) (ha:a∉l :: yg fs) (hb:b∉l :: yg fs) (hab:a≠b) (ham:a∈ms) (hbm:b∈ms) (et:H tp=some (.tup [.str n,.ref a,.ref b])) (ea:H a=some (.lst (rs.map V.str))) (eb:H b=some (.lst []))
  (k:Keeps l H H') (el:H' l=some (.lst (fs.reverse.map (λf=>V.ref f.1) ++ [.ref tp]))):sV t ms H' l ((tp,a,b) :: fs) ((n,rs,[]) :: fr):=by
 have hln:l∉yg fs:=(Tg.mp h.nd).1
 refine⟨?_,h.lm,?_,.cons ?_ (sW k h.lm h.el hln h.at_),aU h.al k ⟨_,el⟩⟩
 ·rw[el,Nv,SG];rfl
 ·rw[xB]
  have n0:=(Tg.mp h.nd).2
  simp only[So,not_or] at ha hb
  simp only[Tg,So,not_or]
  exact⟨⟨λz=>ha.1 z.symm,λz=>hb.1 z.symm,hln⟩,⟨hab,ha.2⟩,hb.2,n0⟩
 ·simp only[So,not_or] at ha hb
  exact⟨k.look et (mX et h.el (by intro z;cases z)),ham,hbm,k.look ea ha.1,[],k.look eb hb.1,by unfold qy;rfl⟩
theorem sV.row {t:z5} {ms:List Addr} {H H':Hp} {l:Addr} {f:Addr × Addr × Addr} {fs:List (Addr × Addr × Addr)} {n:Str} {rs:List Str} {rows:List Rw} {fr:List Fr} {r:Rw} {y:V} {ys:List V} (h:sV t ms H l (f :: fs) ((n,rs,rows) :: fr)) (hy:jT t ms H r y) (eb:H f.2.2=some (.lst ys))
  (k:Keeps f.2.2 H H') (e:H' f.2.2=some (.lst (ys ++ [y]))):sV t ms H' l (f :: fs) ((n,rs,rows ++ [r]) :: fr):=by
 have nd:=h.nd
 rw[xB] at nd
 simp only[Tg,So,not_or] at nd
 match h.at_ with
 | .cons hf hr=>
  obtain⟨h1,h2,h3,h4,ys',h5,h6⟩:=hf
  rw[eb] at h5
  cases h5
  have fm:Fm ms H H':=λb o hb e=>k.look e (λz=>hb (by rw[z];exact h3))
  refine⟨k.look h.el nd.1.2.1,h.lm,h.nd,.cons ⟨k.look h1 (mX h1 eb (by intro z;cases z)),h2,h3,k.look h4 nd.2.1.1,_,e,?_⟩ (sW k h3 eb nd.2.2.1 hr),aU h.al k ⟨_,e⟩⟩
  exact qy.snoc (hy.move fm λb hb=>.inl hb) (h6.move fm λb hb=>.inl hb)
theorem sV.pop {t:z5} {ms:List Addr} {H H':Hp} {l:Addr} {f:Addr × Addr × Addr} {fs:List (Addr × Addr × Addr)} {g:Fr} {fr:List Fr} (h:sV t ms H l (f :: fs) (g :: fr)) (k:Keeps l H H') (el:H' l=some (.lst (fs.reverse.map λf=>V.ref f.1))):sV t ms H' l fs fr∧Qi t ms H' f g:=by
 have nd:=h.nd
 rw[xB] at nd
 simp only[Tg,So,not_or] at nd
 match h.at_ with
 | .cons hf hr=>exact⟨⟨el,h.lm,Tg.mpr ⟨nd.1.2.2,nd.2.2.2⟩,sW k h.lm h.el nd.1.2.2 hr,aU h.al k ⟨_,el⟩⟩,hf.keep k h.lm h.el (λz=>nd.1.1 z.symm) (λz=>nd.1.2.1 z.symm)⟩
theorem sV.has {t:z5} {ms:List Addr} {H:Hp} {l:Addr} {fs:List (Addr × Addr × Addr)} {fr:List Fr} (h:sV t ms H l fs fr):∀x∈l :: yg fs,∃o,H x=some o:=by
 have key:∀{fs:List (Addr × Addr × Addr)} {fr:List Fr},Paired (Qi t ms H) fs fr→∀x∈yg fs,∃o,H x=some o:=λ{fs fr} q=>by
  induction q with
  | nil=>intro x hx;cases hx
  | cons h _ ih=>
   intro x hx
   rw[xB] at hx
   obtain⟨_,_,_,h4,ys,h5,_⟩:=h
   (rcases So.mp hx with rfl | hx)
   ·exact⟨_,h4⟩
   (rcases So.mp hx with rfl | hx)
   ·exact⟨_,h5⟩
   ·exact ih x hx
 intro x hx
 (rcases So.mp hx with rfl | hx)
 ·exact⟨_,h.el⟩
 ·exact key h.at_ x hx
theorem sV.new {t:z5} {ms:List Addr} {H:Hp} {l c:Addr} {fs:List (Addr × Addr × Addr)} {fr:List Fr} (h:sV t ms H l fs fr) (hc:H c=none):c∉l :: yg fs:=λz=>by
 obtain⟨o,e⟩:=h.has c z
 rw[hc] at e
 cases e
structure C9 (evs:List Ew):Prop where
 dp:Zx 0 evs=some 0
 nd:(jH evs).Nodup
def fj:List Ew→List Fr × List Str→Option (List Fr × List Str)
 | [],s=>some s
 | e :: r,s=>(e.take s.1 s.2).bind (fj r)
theorem oB:∀(a b:List Ew) (s:List Fr × List Str),fj (a ++ b) s=(fj a s).bind (fj b)
 | [],b,s=>rfl
 | e :: r,b,s=>by
  rw[T8,fj,fj]
  cases e.take s.1 s.2 with
  | none=>rfl
  | some q=>exact oB r b q
theorem Z2:∀{evs:List Ew} {d d':Nat} {fr:List Fr} {ls:List Str},Zx d evs=some d'→fr.length=d + 1→d≤6→(ls ++ jH evs).Nodup→∃fr',fj evs (fr,ls)=some (fr',ls ++ jH evs)∧fr'.length=d' + 1
 | [],d,d',fr,ls,h,hf,_,_=>by cases h;exact⟨fr,by simp [fj,jH],hf⟩
 | e :: r,d,d',fr,ls,h,hf,h6,hn=>by
  rw[Zx] at h
  cases hd:dp d e with
  | none=>(rw[hd] at h;cases h)
  | some d1=>
   rw[hd,Sa] at h
   have el:jH (e :: r)=yL e ++ jH r:=by simp [jH]
   rw[el] at hn ⊢
   have hnl:∀x∈yL e,x∉ls:=λx hx q=>(TU.mp hn).2.2 x q x (TZ _ hx) rfl
   obtain⟨fr1,e1,l1,h61⟩:=Vm hd hf h6 hnl
   rw[←TC] at hn ⊢
   obtain⟨fr',z,zl⟩:=Z2 h l1 h61 hn
   exact⟨fr',by rw[fj];dsimp only;rw[e1];exact z,zl⟩
def cW:List Fr:=[("whole",[],[])]
theorem BF {evs:List Ew} (he:C9 evs) (i:Nat):∃fr ls,fj (evs.take i) (cW,[])=some (fr,ls):=by
 obtain⟨fr,e,_⟩:=Z2 (fr:=cW) (ls:=[]) he.dp rfl (by decide) (by simpa using he.nd)
 rw[←NF i evs,oB] at e
 cases q:fj (evs.take i) (cW,[]) with
 | none=>(rw[q] at e;cases e)
 | some s=>exact⟨s.1,s.2,rfl⟩
theorem Wd {evs:List Ew} (he:C9 evs) {i:Nat} {e:Ew} (hi:evs[i]?=some e) {fr:List Fr} {ls:List Str} (h:fj (evs.take i) (cW,[])=some (fr,ls)):∃fr' ls',e.take fr ls=some (fr',ls')∧fj (evs.take (i + 1)) (cW,[])=some (fr',ls'):=by
 obtain⟨fr',ls',e1⟩:=BF he (i + 1)
 have e2:=e1
 rw[take_snoc hi,oB,h] at e2
 refine⟨fr',ls',?_,e1⟩
 have e3:(e.take fr ls).bind (fj [])=some (fr',ls'):=e2
 cases q:e.take fr ls with
 | none=>rw[q] at e3;cases e3
 | some s=>rw[q] at e3;exact e3
theorem Gn {evs:List Ew} (he:C9 evs) {fr:List Fr} {ls:List Str} (h:fj evs (cW,[])=some (fr,ls)):fr.length=1:=by
 obtain⟨fr',e,l⟩:=Z2 (fr:=cW) (ls:=[]) he.dp rfl (by decide) (by simpa using he.nd)
 rw[h] at e
 cases e
 exact l
theorem QF (n:Str) (rs:List Str) (rows:List Rw) (fr:List Fr):(zA rows).length≤(xH ((n,rs,rows) :: fr)).length:=by
 show _≤((if fr=[] then [] else xH fr ++ [Ew.pt n rs]) ++ zA rows).length
 rw[Sl]
 omega
theorem MK (n:Str) (rs:List Str):vC ((Ew.pt n rs).ws.map V.str) 1=some (.str n):=by
 cases rs with
 | nil=>rfl
 | cons x rs=>exact kT (j:=1) rfl
def CB (t:z5):Sp:=λvs H Q _=>∃(p le:Addr) (c:Int) (ps as:List Str) (zb:List (Str × Str)) (ws:List V) (evs:List Ew),vs=[.ref p,.ref le]∧mO H p c ps as zb∧H le=some (.lst ws)∧Paired (fO H) ws evs∧(∀e∈evs,e.ok)∧C9 evs∧evs.length≤42∧
 ∀q rows H',zp H H'→zA rows=evs→vY rows→vT rows≤6→va t H' q ps as zb (.pt "whole" [] rows)→Q (.ref q) H'
seal NZ
theorem j5:zd ["_law_header_here","_law_rows_here","_law_stack","_law_row","_law_name","_law_rooms","_law_own"] ["_law_header_here","_law_rows_here"] (zy lR):=by walk_at "sc"
theorem ZR (T:Txt K mg t):zo P w K mg base zC 5 t.pH t.pZ ["_law_header_here","_law_rows_here"] (CB t):=by
 have G_w_object:zo P w K mg base zC 4 t.dm t.dq ["_law_row"] (PL t):=(Jp T).mono (by decide)
 have M_Pact_init:zo P w K mg base zC 3 t.vc t.yu ["self","parties","acts","rooms","whole"] (GC K t):=(cN T).mono (by decide)
 have M_Part_init:zo P w K mg base zC 3 t.jW t.xY ["self","name","rooms","rows"] (GD K t):=(vO T).mono (by decide)
 refine T.fT.fn.ok j5 (by walk_at "ln") ?_;walk_at "hd"
 obtain⟨p,le,c,ps,as,zb,ws,evs,rfl,hH,hL,hP,z8,he,hel,kk⟩:=h
 refine⟨_,(zj (za (i:=2) j5.nd rfl (SA rfl) (zP (zz (qx (zz zw (zz (zP zq) (zz (zP zq) zq)))) zq)) jX)
   (zj (jg TJ rfl (qf (K:=K) rfl (pv 1)) (zM (i:=3) j5.nd rfl (SA rfl))
    (zk (PS.join (zW (zc qj (zu (zv (K:=K) rfl) (pv 3) zx (λ_ _=>rfl)) zw (zQ _))
    (zk (zO (qC SS S9 Tz qk (pv 2) (zz (qx (zz (zu (zv (K:=K) rfl) (pv 3) zx (λ_ _=>rfl)) (zz (qR (qD (K:=K) rfl) (pv 3) (qJ zx) kc) (zz (zP zq) zq)))) zq)))) (zk (PS.join (zW (zc qj (zu (zv (K:=K) rfl) (pv 3) zx (λ_ _=>rfl)) zw (zQ _))
    (zj (ku (rY SS N9 Oz oj (pv 2)) (vI (K:=K) rfl rfl (qu (zM (i:=4) j5.nd rfl (SA rfl)) (qu (zM (i:=5) j5.nd rfl (SA rfl)) (qu (zM (i:=6) j5.nd rfl (SA rfl)) vE)))))
   (zk (zO (qC SS S9 Tz qk (zu (qH (K:=K) rfl) (zu (zv (K:=K) rfl) (pv 2) (c8 bj zx) (λ_ _=>rfl)) zx (λ_ _=>rfl)) (zz (qP T.fH M_Part_init hr rfl T.dQ T.ko.bd .nil zJ (zz (pv 4) (zz (pv 5) (zz (pv 6) zq)))) zq))))) (zk (zO (qC SS S9 Tz qk (zu (qH (K:=K) rfl) (zu (zv (K:=K) rfl) (pv 2) (c8 bj zx) (λ_ _=>rfl)) zx (λ_ _=>rfl)) (zz (ze G_w_object hr rfl T.uQ.mg T.uQ.fn.kp T.uQ.bd .nil zJ (zz (pv 3) zq)) zq)))))))))))
   (zk (zf (qP T.K4 M_Pact_init hr rfl T.YD T.uW.bd .nil zJ (zz (zu (qH (K:=K) rfl) (pv 0) zx (λ_ _=>rfl)) (zz (zu (qH (K:=K) rfl) (pv 0) zx (λ_ _=>rfl)) (zz (zu (qH (K:=K) rfl) (pv 0) zx (λ_ _=>rfl)) (zz (qP T.fH M_Part_init hr rfl T.dQ T.ko.bd .nil zJ (zz zw (zz (zP zq) (zz (zu (qH (K:=K) rfl) (zu (zv (K:=K) rfl) (pv 2) zx (λ_ _=>rfl)) zx (λ_ _=>rfl)) zq)))) zq))))))))),?_⟩
 have hwl:ws.length=evs.length:=TF hP
 walk_at "rd"
 intro a0 H1 s1 ha0 e1
 walk_at "rd"
 intro b0 H2 s2 hb0 e2
 walk_at "rd"
 intro t0 H3 s3 ht0 e3
 walk_at "rd"
 intro l H4 s4 hl e4
 have sA:zp H H4:=((s1.trans s2).trans s3).trans s4
 have e14:=s4 _ _ (s3 _ _ (s2 _ _ e1))
 have e24:=s4 _ _ (s3 _ _ e2)
 have e34:=s4 _ _ e3
 have nab:a0≠b0:=zh e1 hb0
 have nal:a0≠l:=zh (s3 _ _ (s2 _ _ e1)) hl
 have nbl:b0≠l:=zh (s3 _ _ e2) hl
 have hSt:sV t [l,a0,b0] H4 l [(t0,a0,b0)] cW:=⟨e4,by simp,by
   simp only[yg,zzc,zzX,Tt,Tg,So,Tw,or_false,not_or,Ao,and_true,not_false_eq_true]
   exact⟨⟨TH nal,TH nbl⟩,nab⟩,.cons ⟨e34,by simp,by simp,e14,[],e24,by unfold qy;rfl⟩ .nil,λc hc=>by
   simp only[So,Tw,or_false] at hc
   rcases hc with rfl | rfl | rfl
   ·exact⟨_,e4⟩
   ·exact⟨_,e14⟩
   ·exact⟨_,e24⟩⟩
 have hms:∀c∈l :: yg [(t0,a0,b0)],H c=none:=λc hc=>by
  simp only[yg,zzc,zzX,Tt,So,Tw,or_false] at hc
  rcases hc with rfl | rfl | rfl
  ·exact((s1.trans s2).trans s3).free hl
  ·exact ha0
  ·exact s1.free hb0
 clear e1 e2 e3 e4 e14 e24 e34 nab nal nbl s1 s2 s3 s4
 show zT 2 (V.ref l) [some (.ref p),some (.ref le),none,none,none,none,none] _ _
 walk_at "rd"
 have hL4:=sA _ _ hL
 try (refine⟨_,rfl,le,rfl,⟨_,zK.of hL4⟩,?_⟩)
 refine eS (K:=K) (a:=le) (xs:=ws) (λi σ H'=>(∃(ms:List Addr) (fs:List (Addr × Addr × Addr)) (fr:List Fr) (ls:List Str) (v3 v4 v5 v6:Option V),σ=[some (.ref p),some (.ref le),some (.ref l),v3,v4,v5,v6]∧zp H H'∧(∀c∈l :: yg fs,H c=none)∧sV t ms H' l fs fr∧lI fr∧xH fr=evs.take i∧fj (evs.take i) (cW,[])=some (fr,ls))∨False)
  ?_ ?_ ?_ ?_
 ·refine .inl ⟨_,_,cW,[],none,none,none,none,rfl,sA,hms,hSt,?_,?_,rfl⟩
  ·exact⟨by rw[vT];decide,by rw[vY];exact T9,by rw[if_pos rfl];exact⟨rfl,rfl⟩⟩
  ·show (if ([]:List Fr)=[] then [] else _) ++ zA []=_
   rw[if_pos rfl,zA]
   rfl
 ·intro i σ H' _ q
  obtain⟨_,_,_,_,_,_,_,_,_,z,_⟩:=q.resolve_right (λz=>z)
  exact zK.of (z _ _ hL)
 ·intro i y σ H5 hi q
  obtain⟨ms,fs,fr,ls,v3,v4,v5,v6,rfl,s5,hm5,h5,hfo,hff,hrn⟩:=q.resolve_right (λz=>z)
  clear q
  obtain⟨e,hei,lw,rfl,hlw⟩:=Paired.ZP hP hi
  have elw:=s5 _ _ hlw
  obtain⟨fr',ls',sY,hrn'⟩:=Wd he hei hrn
  obtain⟨hfo',hff'⟩:=aG hfo sY
  rw[hff,←take_snoc hei] at hff'
  have hfl:=hfo.len
  have hfs:fs.length=fr.length:=TF h5.at_
  have hlH:=hm5 l (by simp)
  have heok:=z8 e (SN hei)
  have hend:∀{ms':List Addr} {fs':List (Addr × Addr × Addr)} {v3 v4 v5 v6:Option V} {H':Hp},zp H H'→(∀c∈l :: yg fs',H c=none)→sV t ms' H' l fs' fr'→(∃(ms:List Addr) (fs:List (Addr × Addr × Addr)) (fr:List Fr) (ls:List Str) (w3 w4 w5 w6:Option V),[some (V.ref p),some (V.ref le),some (V.ref l),v3,v4,v5,v6]=[some (.ref p),some (.ref le),some (.ref l),w3,w4,w5,w6]∧zp H H'∧(∀c∈l :: yg fs,H c=none)∧sV t ms H' l fs fr∧lI fr∧xH fr=evs.take (i + 1)∧fj (evs.take (i + 1)) (cW,[])=some (fr,ls))∨False:=λs hm hs=>.inl ⟨_,_,fr',ls',_,_,_,_,rfl,s,hm,hs,hfo',hff',hrn'⟩
  refine⟨_,?_,λ_ _ z=>z⟩
  refine⟨_,rfl,lw,_,_,_,rfl,rfl,zK.of elw,e.Dm,?_⟩
  walk_at "rd"
  refine zD (λh1=>?_) (λh1=>?_)
  ·have hw:e.w0 = "part":=V.str.inj (zjj h1)
   cases e with
   | pt n rs=>
    rw[Ew.take] at sY
    split at sY
    ·cases sY
    cases sY
    refine⟨_,rfl,.inl ⟨rfl,_,zK.of h5.el⟩,?_⟩
    refine⟨_,rfl,lw,_,_,_,rfl,rfl,zK.of elw,MK n rs,?_⟩
    walk_at "rd"
    intro a6 H6 s6 ha6 e6
    rw[XC] at e6
    walk_at "rd"
    intro b7 H7 s7 hb7 e7
    walk_at "rd"
    intro t8 H8 s8 ht8 e8
    have h8:sV t (b7 :: a6 :: ms) H8 l fs fr:=((h5.add s6 ha6 e6).add s7 hb7 e7).same s8
    refine⟨l,_,_,rfl,rfl,h8.el,zg (by rw[Su,Ol];omega),?_⟩
    intro H9 k9 e9
    refine hend (k9.put (((s5.trans s6).trans s7).trans s8) hlH) (λc hc=>?_) (h8.push (h5.new ha6) ((h5.same s6).new hb7) (zh e6 hb7) (by simp) (by simp) e8 (s8 _ _ (s7 _ _ e6)) (s8 _ _ e7) k9 e9)
    rw[xB] at hc
    (rcases So.mp hc with rfl | hc)
    ·exact hlH
    (rcases So.mp hc with rfl | hc)
    ·exact s5.free ha6
    (rcases So.mp hc with rfl | hc)
    ·exact(s5.trans s6).free hb7
    ·exact hm5 c (SV _ hc)
   | mu l w a n r=>exact absurd hw (Ew.aF heok rfl).2.1
   | my l w a=>exact absurd hw (Ew.aF heok rfl).2.1
   | bn l w a r=>exact absurd hw (Ew.aF heok rfl).2.1
   | pw l w a r=>exact absurd hw (Ew.aF heok rfl).2.1
   | lt a b=>exact absurd hw λz=>aq.1 z.symm
   | dn=>exact absurd hw aq.2.2
  ·have hw1:e.w0≠"part":=λz=>h1 (zjx (congrArg V.str z))
   refine⟨_,?_,λ_ _ z=>z⟩
   refine⟨_,rfl,lw,_,_,_,rfl,rfl,zK.of elw,e.Dm,?_⟩
   walk_at "rd"
   refine zD (λh2=>?_) (λh2=>?_)
   ·have hw:e.w0 = "done":=V.str.inj (zjj h2)
    cases e with
    | dn=>
     obtain⟨n1,rs1,rows1,n2,rs2,rows2,fr2,hfr⟩:∃n1 rs1 rows1 n2 rs2 rows2 fr2,fr=(n1,rs1,rows1) :: (n2,rs2,rows2) :: fr2:=by
      match fr,sY with
      | (a1,a2,a3) :: (b1,b2,b3) :: r,_=>exact⟨a1,a2,a3,b1,b2,b3,r,rfl⟩
      | [_],h=>cases h
      | [],h=>cases h
     subst hfr
     cases sY
     obtain⟨f,f',fs2,rfl⟩:∃f f' fs2,fs=f :: f' :: fs2:=by
      match fs,h5.at_ with
      | f :: f' :: r,_=>exact⟨f,f',r,rfl⟩
     have h5l:=h5.el
     rw[Nv,SG] at h5l
     have nd:=h5.nd
     rw[xB,xB] at nd
     simp only[Tg,So,not_or] at nd
     refine⟨_,rfl,.inl ⟨rfl,_,zK.of h5l⟩,l,_,V.ref f.1,rfl,rfl,h5l,by simp,?_⟩
     intro H6 k6 e6
     have e6':H6 l=some (.lst ((f' :: fs2).reverse.map λf=>V.ref f.1)):=by rw[e6];simp
     obtain⟨h6,hf6⟩:=h5.pop k6 e6'
     obtain⟨f1,f2,f3,f4,ys,f5,f6⟩:=hf6
     obtain⟨u1,u2,u3,u4,ys2,u5,u6⟩:Qi t ms H6 f' (n2,rs2,rows2):=by
      match h6.at_ with
      | .cons hf _=>exact hf
     have hyl:ys2.length≤66:=by
      have g1:=u6.len
      have g2:=fq rows2
      have g3:=QF n2 rs2 rows2 fr2
      have g4:=congrArg Nc hff
      have g5:(xH ((n2,rs2,rows2) :: fr2)).length≤(xH ((n1,rs1,rows1) :: (n2,rs2,rows2) :: fr2)).length:=by
       show _≤((if ((n2,rs2,rows2) :: fr2:List Fr)=[] then [] else xH ((n2,rs2,rows2) :: fr2) ++ [Ew.pt n1 rs1]) ++ zA rows1).length
       rw[if_neg (by simp),Sl,Sl]
       omega
      rw[S8] at g4
      dsimp only at g1
      omega
     have h6l:=e6'
     rw[Nv,SG] at h6l
     refine⟨f.1,_,rfl,jo.of f1,rfl,_,_,rfl,_,_,rfl,_,_,rfl,rfl,?_⟩
     refine⟨_,rfl,1,rfl,l,_,_,_,rfl,rfl,zK.of h6l,tF _ _,?_⟩
     refine⟨f'.1,_,_,_,rfl,rfl,jo.of u1,rfl,?_⟩
     refine⟨.inl ⟨rfl,_,zK.of u5⟩,?_⟩
     refine⟨_,rfl,_,rfl,_,rfl,?_⟩
     intro p dx hp hdx hne
     have sM:=jA (o:=HO.own p) (o2:=HO.ins t.zE dx []) hp hdx
     refine⟨p,dx,f.2.1,f.2.2,n1,rs1,ys,rfl,zm,sM _ _ f4,sM _ _ f5,λH7 o7 h7=>⟨rfl,?_⟩⟩
     have s67:zp H6 H7:=gh hp hdx o7
     obtain⟨dx7,a7,b7,g1,g2,g3,g4,g5⟩:=h7.back sM
     have hnm:∀{c:Addr},H6 c=none→c∉ms:=λhc z=>by
      obtain⟨o,e⟩:=h6.al _ z
      rw[hc] at e
      cases e
     have hRw:jT t ms H7 (.pt n1 rs1 rows1) (.ref p):=by
      unfold jT
      exact⟨p,dx7,a7,b7,ys,rfl,hnm hp,hnm g4,hnm g5,g1,g2,g3,f6.move (Fm.of s67) λc hc=>.inl hc⟩
     refine⟨f'.2.2,_,_,rfl,rfl,s67 _ _ u5,zg (by omega),?_⟩
     intro H8 k8 e8
     have h8:=(h6.same s67).row hRw (s67 _ _ u5) k8 e8
     exact hend (k8.put ((k6.put s5 hlH).trans s67) (hm5 _ (by simp [yg]))) (λc hc=>hm5 c (by rw[xB];simp only[So] at hc ⊢;exact hc.elim .inl λz=>.inr (.inr (.inr z)))) h8
    | mu l w a n r=>exact absurd hw (Ew.aF heok rfl).2.2
    | my l w a=>exact absurd hw (Ew.aF heok rfl).2.2
    | bn l w a r=>exact absurd hw (Ew.aF heok rfl).2.2
    | pw l w a r=>exact absurd hw (Ew.aF heok rfl).2.2
    | lt a b=>exact absurd hw λz=>aq.2.1 z.symm
    | pt n rs=>exact absurd rfl hw1
   ·have hw2:e.w0≠"done":=λz=>h2 (zjx (congrArg V.str z))
    have hpl:Gb e=true:=by
     cases e with
     | pt n rs=>exact absurd rfl hw1
     | dn=>exact absurd rfl hw2
     | _=>rfl
    have hfr:fr'=push fr (XN e):=by
     cases e with
     | pt n rs=>cases hpl
     | dn=>cases hpl
     | lt a b=>cases sY;rfl
     | mu l w a n r=>rw[Ew.take] at sY;split at sY<;>cases sY;rfl
     | my l w a=>rw[Ew.take] at sY;split at sY<;>cases sY;rfl
     | bn l w a r=>rw[Ew.take] at sY;split at sY<;>cases sY;rfl
     | pw l w a r=>rw[Ew.take] at sY;split at sY<;>cases sY;rfl
    obtain⟨f,fs0,n1,rs1,rows1,fr1,rfl,rfl⟩:∃f fs0 n1 rs1 rows1 fr1,fs=f :: fs0∧fr=(n1,rs1,rows1) :: fr1:=by
     match fr,fs,h5.at_,hfo with
     | (n1,rs1,rows1) :: fr1,f :: fs0,_,_=>exact⟨f,fs0,n1,rs1,rows1,fr1,rfl,rfl⟩
    have h5l:=h5.el
    rw[Nv,SG] at h5l
    obtain⟨f1,f2,f3,f4,ys,f5,f6⟩:Qi t ms H5 f (n1,rs1,rows1):=by
     match h5.at_ with
     | .cons hf _=>exact hf
    have hyl:ys.length≤66:=by
     have g1:=f6.len
     have g2:=fq rows1
     have g3:=QF n1 rs1 rows1 fr1
     have g4:=congrArg Nc hff
     rw[S8] at g4
     dsimp only at g1
     omega
    refine⟨_,rfl,1,rfl,l,_,_,_,rfl,rfl,zK.of h5l,tF _ _,?_⟩
    refine⟨f.1,_,_,_,rfl,rfl,jo.of f1,rfl,?_⟩
    refine⟨.inl ⟨rfl,_,zK.of f5⟩,?_⟩
    refine⟨_,rfl,lw,e,rfl,elw,heok,hpl,λp6 H6 s6 hp6 hRw=>?_⟩
    have hp6m:p6∉ms:=λz=>by
     obtain⟨o,e⟩:=h5.al p6 z
     rw[hp6] at e
     cases e
    refine⟨f.2.2,_,_,rfl,rfl,s6 _ _ f5,zg (by omega),?_⟩
    intro H7 k7 e7
    refine hend (ms':=ms) (fs':=f :: fs0) (k7.put (s5.trans s6) (hm5 _ (by simp [yg]))) hm5 ?_
    rw[hfr]
    exact(h5.same s6).row (hRw ms hp6m) (s6 _ _ f5) k7 e7
 ·intro σ H5 q
  obtain⟨ms,fs,fr,ls,v3,v4,v5,v6,rfl,s5,hm5,h5,hfo,hff,hrn⟩:=q.resolve_right (λz=>z)
  clear q
  rw[hwl,T7] at hff hrn
  have hl1:=Gn he hrn
  obtain⟨f,rows,rfl,rfl⟩:∃(f:Addr × Addr × Addr) (rows:List Rw),fs=[f]∧fr=[((("whole" : Str),([]:List Str),rows):Fr)]:=by
   match fr,fs,h5.at_,hfo,hl1 with
   | [(n1,rs1,rows1)],[f],_,hfo,_=>
    have h3:=hfo.2.2
    rw[if_pos rfl] at h3
    exact⟨f,rows1,rfl,by rw[h3.1,h3.2]⟩
  have hrows:zA rows=evs:=by
   rw[←hff]
   show _=(if ([]:List Fr)=[] then [] else _) ++ zA rows
   rw[if_pos rfl]
   rfl
  have hk2:=hfo.2.1
  have hd2:vT rows≤6:=by have:=hfo.1;omega
  obtain⟨f1,f2,f3,f4,ys,f5,f6⟩:Qi t ms H5 f ("whole",[],rows):=by
   match h5.at_ with
   | .cons hf _=>exact hf
  have el:H5 l=some (.lst [V.ref f.1]):=h5.el
  obtain⟨lp,la,lr,lm,ll,vs,ep,elp,ela,elr,elm,hRm⟩:=hH.same s5
  refine⟨_,rfl,p,_,_,_,rfl,rfl,jo.of ep,rfl,?_⟩
  refine⟨_,rfl,p,_,_,_,rfl,rfl,jo.of ep,rfl,?_⟩
  refine⟨_,rfl,p,_,_,_,rfl,rfl,jo.of ep,rfl,?_⟩
  walk_at "rd"
  intro b6 H6 s6 hb6 e6
  refine⟨_,rfl,l,_,_,_,rfl,rfl,zK.of (s6 _ _ el),rfl,f.1,_,_,_,rfl,rfl,jo.of (s6 _ _ f1),rfl,?_⟩
  intro pw dx hp hdx hne
  have sM:=jA (o:=HO.own pw) (o2:=HO.ins t.zE dx []) hp hdx
  refine⟨pw,dx,b6,f.2.2,"whole",[],ys,rfl,zm,sM _ _ e6,sM _ _ (s6 _ _ f5),λH7 o7 h7=>⟨rfl,?_⟩⟩
  have s67:zp H6 H7:=gh hp hdx o7
  obtain⟨dx7,a7,b7,g1,g2,g3,g4,g5⟩:=h7.back sM
  have s57:=s6.trans s67
  have hRw:jT t [] H7 (.pt "whole" [] rows) (.ref pw):=by
   unfold jT
   exact⟨pw,dx7,a7,b7,ys,rfl,by simp,by simp,by simp,g1,g2,g3,f6.move (Fm.of s57) λc hc=>by cases hc⟩
  intro q dxq hq hdq hne2
  have mk:=jA (o:=HO.own q) (o2:=HO.ins t.jj dxq []) hq hdq
  refine⟨q,dxq,lp,la,lr,.ref pw,_,_,_,rfl,zm,mk _ _ (s57 _ _ elp),mk _ _ (s57 _ _ ela),mk _ _ (s57 _ _ elr),λH8 a' b' c' o8 k1 k2 k3 k4 n1 n2 n3=>⟨rfl,?_⟩⟩
  have s78:zp H7 H8:=λc o e=>o8 c o (zh e hq) (mk c o e)
  have s58:=s57.trans s78
  exact kk q rows H8 (s5.trans s58) hrows hk2 hd2 ⟨dxq,a',b',c',.ref pw,vs,k1,k2,k3,k4,Paired.imp' (λ_ _ z=>z.same s58) hRm,hRw.move (Fm.of s78) (λb hb=>by cases hb)⟩
end
def B9 (f:Fl):Prop:=(∀x∈f.l :: f.s :: f.w :: f.a :: f.r :: f.zb,NR x=true)∧f.zb.length≤12
def Dr (f:Fl):PyData:=.tuple [.str f.l,.str f.s,.str f.w,.str f.a,.int f.n,.str f.r,.list (f.zb.map Nz),.int f.d]
theorem gL {f:Fl} (h':B9 f):T6 (Dr f)=true:=by
 have h:=h'.1
 have q:=b8 f.zb λx hx=>h x (by simp [hx])
 have h1:=h f.l (by simp)
 have h2:=h f.s (by simp)
 have h3:=h f.w (by simp)
 have h4:=h f.a (by simp)
 have h5:=h f.r (by simp)
 simp [Dr,T6,Iu,OL,IT,Ij,q.1,q.2,h1,h2,h3,h4,h5]
theorem VJ:∀xs:List Str,Od (xs.map Nz) (xs.map Nz)=true:=λxs=>by rw[pK];simp
theorem KW (f:Fl):Iv (Dr f) (Dr f)=true:=by
 simp [Dr,Iv,Od,VJ]
theorem Zh {K:Sd} {H:Hp} {f:Fl} {p a:Addr} (h1:H p=some (.tup (Hs f a))) (h2:H a=some (.lst (f.zb.map V.str))):cq K H (.ref p) (Dr f):=
 cq.tup (jo.of h1) (.cons (.str _) (.cons (.str _) (.cons (.str _) (.cons (.str _) (.cons (.int _) (.cons (.str _) (.cons (cq.lst (zK.of h2) (vf.strs _)) (.cons (.int _) .nil))))))))
def SK (s:Ow × List Str):Prop:=(∀z b,lk s.1 z=some b→zZ b=true)∧(∀x∈s.2,zZ x=true)∧s.2.length≤12
theorem Y1 {x:Str} (h:zZ x=true):NR x=true:=(gp h).ok
theorem Xb:NR ("" : Str)=true∧NR ("any" : Str)=true∧∀j∈[(0:Int),1,2,3],NR (iQ j)=true:=by decide +kernel
theorem Ew.LJ {e:Ew} {c:Int × Str × Str × Str × Int × Str} (ho:e.ok) (hc:e.Qs=some c):zZ c.2.1=true∧c.1∈[(0:Int),1,2,3]:=by
 cases e with
 | mu l w a n r=>cases hc;exact⟨ho.1,by simp⟩
 | my l w a=>cases hc;exact⟨ho.1,by simp⟩
 | bn l w a r=>cases hc;exact⟨ho.1,by simp⟩
 | pw l w a r=>cases hc;exact⟨ho.1,by simp⟩
 | _=>cases hc
theorem DN {kd:Str→Str} {o:Ow} {k:Int} {l u a:Str} {n:Int} {r:Str} {zb:List Str} {d:Int} {f:Fl} (h:bo kd o k l u a n r zb d=some f) (hl:zZ l=true) (hk:k∈[(0:Int),1,2,3]) (hS:SK (o,zb)):B9 f:=by
 obtain⟨w,a',r',rfl,hU⟩:=aE h
 refine⟨λx hx=>?_,hS.2.2⟩
 simp only[So] at hx
 rcases hx with rfl | rfl | rfl | rfl | rfl | hx
 ·exact Y1 hl
 ·exact Xb.2.2 k hk
 ·rcases hU.wu with ⟨_,rfl⟩ | ⟨_,h,_⟩
  ·exact Xb.2.1
  ·exact Y1 (hS.1 _ _ h)
 ·exact Y1 (hS.1 _ _ hU.la)
 ·by_cases h1:k=1
  ·rw[hU.r1 h1];exact Xb.1
  ·exact Y1 (hS.1 _ _ (hU.rm h1).1)
 ·exact Y1 (hS.2.1 x hx)
theorem CL {kd:Str→Str} {e:Ew} {S:List (Ow × List Str)} {q:List Fl × List (Ow × List Str)} (h:Ho kd e S=some q) (ho:e.ok) (hS:∀s∈S,SK s):(∀f∈q.1,B9 f)∧∀s∈q.2,SK s:=by
 cases S with
 | nil=>cases h
 | cons or S=>
  obtain⟨o,zb⟩:=or
  have h0:=hS _ Tu
  have h1:∀s∈S,SK s:=λs hs=>hS s (SV _ hs)
  have cl:∀{c},e.Qs=some c→(∀f∈q.1,B9 f)∧∀s∈q.2,SK s:=λ{c} hc=>by
   obtain⟨f,hf,rfl⟩:=X9 hc h
   obtain⟨hl,hk⟩:=Ew.LJ ho hc
   exact⟨λx hx=>by rw[SY.mp hx];exact DN hf hl hk h0,hS⟩
  cases e with
  | lt a b=>
   have h':(lk o b).bind (λx=>some (([]:List Fl),(pu o a x,zb) :: S))=some q:=h
   obtain⟨x,hx,h'⟩:=SJ.mp h'
   cases h'
   refine⟨λf hf=>(by cases hf),λs hs=>?_⟩
   (rcases So.mp hs with rfl | hs)
   ·refine⟨λz y hz=>?_,h0.2⟩
    have hz':lk (pu o a x) z=some y:=hz
    rw[YH] at hz'
    split at hz'
    ·cases hz';exact h0.1 b _ hx
    ·exact h0.1 z y hz'
   ·exact h1 s hs
  | mu l w a n r=>exact cl rfl
  | my l w a=>exact cl rfl
  | bn l w a r=>exact cl rfl
  | pw l w a r=>exact cl rfl
  | pt n rs=>
   have h':(pz kd o rs zb).bind (λcv=>some (([]:List Fl),(o,cv) :: (o,zb) :: S))=some q:=h
   obtain⟨cv,hcv,h'⟩:=SJ.mp h'
   cases h'
   refine⟨λf hf=>(by cases hf),λs hs=>?_⟩
   (rcases So.mp hs with rfl | hs)
   ·refine⟨h0.1,λx hx=>?_,TV (Zz hcv) h0.2.2⟩
    obtain⟨ns,_,rfl⟩:=eD hcv
    have hx':x∈if rs=[] then zb else zb.filter λx=>decide (x∈ns):=hx
    split at hx'
    ·exact h0.2.1 x hx'
    ·exact h0.2.1 x (Iq.mp hx').1
   ·exact hS s hs
  | dn=>
   have h':(if S=[] then none else some (([]:List Fl),S))=some q:=h
   split at h'
   ·cases h'
   ·cases h'
    exact⟨λf hf=>(by cases hf),h1⟩
theorem Gi {kd:Str→Str}:∀{evs:List Ew} {S:List (Ow × List Str)} {q:List Fl × List (Ow × List Str)},xR kd evs S=some q→(∀e∈evs,e.ok)→(∀s∈S,SK s)→∀f∈q.1,B9 f
 | [],S,q,h,_,_=>by cases h;intro f hf;cases hf
 | e :: es,S,q,h,ho,hS=>by
  rw[xR] at h
  obtain⟨p,hp,h⟩:=SJ.mp h
  obtain⟨z,hz,h⟩:=SJ.mp h
  cases h
  have h1:=CL hp (ho e Tu) hS
  have h2:=Gi hz (λx hx=>ho x (SV _ hx)) h1.2
  intro f hf
  rcases SI.mp hf with hf | hf
  ·exact h1.1 f hf
  ·exact h2 f hf
section
variable {P:SM} {w:Tj} {K:Sd} {mg:Str→Option Sr} {base:Heap} {t:z5}
def P8:Sp:=λvs H Q _=>∃(n:Int),vs=[.int n]∧Q (.bl true) H
def PQ:Sp:=λvs H Q _=>∃(p q a b:Addr) (f:Fl),vs=[.ref p,.ref q]∧H p=some (.tup (Hs f a))∧H a=some (.lst (f.zb.map V.str))∧H q=some (.tup (Hs f b))∧H b=some (.lst (f.zb.map V.str))∧B9 f∧∀H',zp H H'→Q (.bl true) H'
def P0:Sp:=λvs H Q _=>∃(l m:Addr) (rs qs:List (Addr × Addr)) (fls:List Fl),vs=[.ref l,.ref m]∧H l=some (.lst (rs.map λr:Addr × Addr=>.ref r.1))∧H m=some (.lst (qs.map λr:Addr × Addr=>.ref r.1))∧jb H rs fls∧jb H qs fls∧(∀f∈fls,B9 f)∧fls.length≤160∧∀H',zp H H'→Q (.bl true) H'
theorem XI:zd ["_law_found"] ["_law_found"] (zy aX):=by walk_at "sc"
theorem XW (T:Txt K mg t):zo P w K mg base zC 1 t.uN t.uD ["_law_found"] P8:=by
 refine T.bb.fn.ok XI (by walk_at "ln") ?_;walk_at "hd"
 obtain⟨n,rfl,k⟩:=h
 refine⟨_,(zk (zf (ZT (zX (qT (K:=K) rfl) rfl T.qL TB (zz (pv 0) (zz (g7 rfl T.Kc OD (v:=.ty "int") rfl) zq))) (oY (Mo (zX (qT (K:=K) rfl) rfl T.qL TB (zz (pv 0) (zz (g7 rfl T.Ft zqa (v:=.ty "bool") rfl) zq)))))))),?_⟩
 refine⟨_,rfl,_,_,.type "int",true,rfl,.inl ⟨_,rfl⟩,xZ.int _,kq _ _,true,rfl,?_⟩
 refine⟨_,rfl,_,_,.type "int",false,rfl,.inl ⟨_,rfl⟩,xZ.int _,T.Q1,false,rfl,?_⟩
 exact k
theorem ia:zd ["_law_found","_law_due","_law_k"] ["_law_found","_law_due"] (zy ao):=by walk_at "sc"
theorem Xa (T:Txt K mg t):zo P w K mg base zC 2 t.uU t.uH ["_law_found","_law_due"] PQ:=by
 have G_w_whole:zo P w K mg base zC 1 t.uN t.uD ["_law_found"] P8:=(XW T).mono (by decide)
 refine T.tf.fn.ok ia (by walk_at "ln") ?_;walk_at "hd"
 obtain⟨p,q,a,b,f,rfl,e1,e2,e3,e4,hK,k⟩:=h
 refine⟨_,(zj (zW (PW.pt (vF (jh (qt (zX (qT (K:=K) rfl) rfl T.qL TB (zz (pv 0) (zz (g7 rfl T.Ku EC (v:=.ty "tuple") rfl) zq))))) (kM (zc cE (zX (zH (K:=K) rfl) rfl T.qo S5 (zz (pv 0) zq)) zx (zQ _)))))
    (zk (zf xF)) zr)
   (zj (jg TJ rfl (Ba (K:=K) rfl (qx (zz zx (zz zx (zz zx (zz zx (zz zx zq))))))) (zM (i:=2) ia.nd rfl (SA rfl))
    (zk (zW (jh (qt (zX (qT (K:=K) rfl) rfl T.qL TB (zz (zu (qH (K:=K) rfl) (pv 0) (pv 2) (λ_ _=>rfl)) (zz (g7 rfl T.Pq Ah (v:=.ty "str") rfl) zq)))))
    (zk (zf xF)) zr)))
   (zj (zW (PW.pt (vF (jh (qt (ze G_w_whole hr rfl T.bb.mg T.bb.fn.kp T.bb.bd .nil zJ (zz (zu (qH (K:=K) rfl) (pv 0) zx (λ_ _=>rfl)) zq)))) (vF (jh (qt (ze G_w_whole hr rfl T.bb.mg T.bb.fn.kp T.bb.bd .nil zJ (zz (zu (qH (K:=K) rfl) (pv 0) zx (λ_ _=>rfl)) zq)))) (kM (jh (qt (zX (qT (K:=K) rfl) rfl T.qL TB (zz (zu (qH (K:=K) rfl) (pv 0) zx (λ_ _=>rfl)) (zz (g7 rfl T.ki TQ (v:=.ty "list") rfl) zq)))))))))
    (zk (zf xF)) zr)
   (zk (zf (ye (fP (K:=K) rfl hr.units) (pv 0) (pv 1) (zQ _))))))),?_⟩
 refine⟨_,rfl,_,_,.type "tuple",true,rfl,.inl ⟨_,rfl⟩,xZ.tup e1,kq _ _,true,rfl,?_⟩
 refine⟨_,rfl,p,_,rfl,.inr (jo.of e1),rfl,false,rfl,?_⟩
 walk_at "rd"
 intro tq H1 s1 htq e5
 have f1:=s1 _ _ e1
 have f2:=s1 _ _ e2
 have f3:=s1 _ _ e3
 have f4:=s1 _ _ e4
 refine⟨tq,rfl,⟨_,jo.of e5⟩,?_⟩
 refine HI (K:=K) (a:=tq) (xs:=[.int 0,.int 1,.int 2,.int 3,.int 5]) (λi σ H'=>(∃v2:Option V,σ=[some (.ref p),some (.ref q),v2]∧H'=H1)∨False) (.inl ⟨none,rfl,rfl⟩) (λi σ H' _ z=>(by obtain⟨_,_,rfl⟩:=z.resolve_right (λz=>z);exact jo.of e5)) ?_ ?_
 ·intro i y σ H2 hi z
  obtain⟨v2,rfl,rfl⟩:=z.resolve_right λz=>z
  clear z
  (have hm:=SN hi)
  obtain⟨j,x,rfl,hj⟩:∃(j:Int) (x:Str),y=.int j∧vC (Hs f a) j=some (.str x):=by
   (simp only[So,Tw,or_false] at hm)
   rcases hm with rfl | rfl | rfl | rfl | rfl
   ·exact⟨_,_,rfl,rfl⟩
   ·exact⟨_,_,rfl,rfl⟩
   ·exact⟨_,_,rfl,rfl⟩
   ·exact⟨_,_,rfl,rfl⟩
   ·exact⟨_,_,rfl,rfl⟩
  refine⟨_,rfl,_,rfl,p,_,_,_,rfl,rfl,jo.of f1,hj,_,_,.type "str",true,rfl,.inl ⟨_,rfl⟩,xZ.str _,kq _ _,true,rfl,?_⟩
  exact .inl ⟨_,rfl,rfl⟩
 ·intro σ H2 z
  obtain⟨v2,rfl,rfl⟩:=z.resolve_right λz=>z
  clear z
  refine⟨_,rfl,p,_,_,_,rfl,rfl,jo.of f1,rfl,_,rfl,true,rfl,?_⟩
  refine⟨_,rfl,p,_,_,_,rfl,rfl,jo.of f1,rfl,_,rfl,true,rfl,?_⟩
  refine⟨_,rfl,p,_,_,_,rfl,rfl,jo.of f1,rfl,_,_,.type "list",true,rfl,.inl ⟨_,rfl⟩,xZ.lst f2,kq _ _,true,rfl,?_⟩
  refine⟨_,rfl,_,rfl,_,_,Zh f1 f2,Zh f3 f4,gL hK,gL hK,?_⟩
  rw[KW]
  exact k _ s1
theorem iZ:zd ["_law_found","_law_due","_law_k"] ["_law_found","_law_due"] (zy aQ):=by walk_at "sc"
theorem XX (T:Txt K mg t):zo P w K mg base zC 3 t.uT t.uM ["_law_found","_law_due"] P0:=by
 have G_w_alike:zo P w K mg base zC 2 t.uU t.uH ["_law_found","_law_due"] PQ:=(Xa T).mono (by decide)
 refine T.bg.fn.ok iZ (by walk_at "ln") ?_;walk_at "hd"
 obtain⟨l,m,rs,qs,fls,rfl,e1,e2,h1,h2,hK,hfl,k⟩:=h
 refine⟨_,(zj (zW (PW.pt (vF (jh (qt (zX (qT (K:=K) rfl) rfl T.qL TB (zz (pv 0) (zz (g7 rfl T.ki TQ (v:=.ty "list") rfl) zq))))) (kM (zc cE (zX (zH (K:=K) rfl) rfl T.qo S5 (zz (pv 0) zq)) (zX (zH (K:=K) rfl) rfl T.qo S5 (zz (pv 1) zq)) (zQ _)))))
    (zk (zf xF)) zr)
   (zj (jg TJ rfl (xM rfl T.vU (zz (zX (zH (K:=K) rfl) rfl T.qo S5 (zz (pv 1) zq)) zq)) (zM (i:=2) iZ.nd rfl (SA rfl))
    (zk (zW (jh (qt (ze G_w_alike hr rfl T.tf.mg T.tf.fn.kp T.tf.bd .nil zJ (zz (zu (zv (K:=K) rfl) (pv 0) (pv 2) (λ_ _=>rfl)) (zz (zu (zv (K:=K) rfl) (pv 1) (pv 2) (λ_ _=>rfl)) zq)))))
    (zk (zf xF)) zr)))
   (zk (zf xF)))),?_⟩
 refine⟨_,rfl,_,_,.type "list",true,rfl,.inl ⟨_,rfl⟩,xZ.lst e1,kq _ _,true,rfl,?_⟩
 refine⟨_,rfl,l,_,rfl,.inl (zK.of e1),?_⟩
 refine⟨_,rfl,m,_,rfl,.inl (zK.of e2),?_⟩
 have n1:rs.length=fls.length:=TF h1
 have n2:qs.length=fls.length:=TF h2
 refine⟨rfl,_,rfl,?_⟩
 rw[Su,Su,n1,n2]
 refine zD (λh=>?_) (λ_=>?_)
 ·simp at h
 refine⟨_,rfl,m,_,rfl,.inl (zK.of e2),?_⟩
 rw[Su,n2]
 refine⟨_,rfl,by omega,by omega,?_⟩
 refine kG (lo:=0) (n:=fls.length) (λi σ H'=>(∃v2:Option V,σ=[some (.ref l),some (.ref m),v2]∧zp H H')∨False) (.inl ⟨none,rfl,zp.refl _⟩) ?_ ?_
 ·intro i σ H2 hi z
  obtain⟨v2,rfl,s2⟩:=z.resolve_right λz=>z
  clear z
  rw[O1]
  obtain⟨r,hr⟩:∃r,rs[i]?=some r:=⟨_,Sn (by omega)⟩
  obtain⟨r2,hr2⟩:∃r,qs[i]?=some r:=⟨_,Sn (by omega)⟩
  obtain⟨f,hf,g1,g2⟩:=Paired.ZP h1 hr
  obtain⟨f',hf',g3,g4⟩:=Paired.ZP h2 hr2
  rw[hf] at hf'
  cases hf'
  have a1:vC (rs.map λr:Addr × Addr=>V.ref r.1) (i:Int)=some (.ref r.1):=kT (by rw[SW,hr];rfl)
  have a2:vC (qs.map λr:Addr × Addr=>V.ref r.1) (i:Int)=some (.ref r2.1):=kT (by rw[SW,hr2];rfl)
  refine⟨_,rfl,_,rfl,l,_,_,_,rfl,rfl,zK.of (s2 _ _ e1),a1,?_⟩
  refine⟨_,rfl,_,rfl,m,_,_,_,rfl,rfl,zK.of (s2 _ _ e2),a2,?_⟩
  refine⟨r.1,r2.1,r.2,r2.2,f,rfl,s2 _ _ g1,s2 _ _ g2,s2 _ _ g3,s2 _ _ g4,hK f (SN hf),λH3 s3=>?_⟩
  refine⟨true,rfl,?_⟩
  exact .inl ⟨_,rfl,s2.trans s3⟩
 ·intro σ H2 z
  obtain⟨v2,rfl,s2⟩:=z.resolve_right λz=>z
  exact k _ s2
theorem VY {kd:Str→Str} {o:Ow} {zb:List Str} {rows:List Rw} {evs:List Ew} {p:List Fl × List (Ow × List Str)} (hk:vY rows) (hf:zA rows=evs) (h:xR kd evs [(o,zb)]=some p):∃o2,mz kd rows o zb 0=some (p.1,o2):=by
 subst hf
 rw[Z3 kd rows hk o zb []] at h
 obtain⟨q,hq,h⟩:=SJ.mp h
 cases h
 exact⟨q.2,hq⟩
theorem Jn {kd:Str→Str}:∀{evs:List Ew} {S:List (Ow × List Str)} {q:List Fl × List (Ow × List Str)},xR kd evs S=some q→q.1.length≤evs.length
 | [],S,q,h=>by cases h;exact SD _
 | e :: es,S,q,h=>by
  rw[xR] at h
  obtain⟨p,hp,h⟩:=SJ.mp h
  obtain⟨z,hz,h⟩:=SJ.mp h
  cases h
  have h2:=Jn hz
  have h1:p.1.length≤1:=by
   cases S with
   | nil=>cases hp
   | cons or S=>
    obtain⟨o,zb⟩:=or
    have cl:∀{c},e.Qs=some c→p.1.length≤1:=λ{c} hc=>by
     obtain⟨f,hf,rfl⟩:=X9 hc hp
     exact SD _
    cases e with
    | lt a b=>
     have h':(lk o b).bind (λx=>some (([]:List Fl),(pu o a x,zb) :: S))=some p:=hp
     obtain⟨x,hx,h'⟩:=SJ.mp h'
     cases h'
     exact Tr _
    | mu l w a n r=>exact cl rfl
    | my l w a=>exact cl rfl
    | bn l w a r=>exact cl rfl
    | pw l w a r=>exact cl rfl
    | pt n rs=>
     have h':(pz kd o rs zb).bind (λcv=>some (([]:List Fl),(o,cv) :: (o,zb) :: S))=some p:=hp
     obtain⟨cv,hcv,h'⟩:=SJ.mp h'
     cases h'
     exact Tr _
    | dn=>
     have h':(if S=[] then none else some (([]:List Fl),S))=some p:=hp
     split at h'
     ·cases h'
     ·cases h'
      exact Tr _
  rw[Sl,Se]
  omega
theorem LM {c:Int} {ps as:List Str} {zb:List (Str × Str)} (h:Dh c ps as zb):∀s∈[(yw (j9 ps as zb),zb.map (·.2))],SK s:=λs hs=>by
 rw[SY.mp hs]
 refine⟨λz b hz=>((Ya h).bs z b hz).2,λx hx=>?_,by show (zb.map (·.2)).length≤12;rw[Su];exact h.hd.r2⟩
 have hx':x∈zb.map (·.2):=hx
 exact tY c _ (Nu (h.wd x (by simp only[SI];exact .inr hx')))
structure W0 (B H:Hp) (lt:Addr) (rs:List (Addr × Addr)) (fls:List Fl) (i:Nat):Prop where
 bs:zp B H
 el:H lt=some (.lst (rs.map λr:Addr × Addr=>.ref r.1))
 tp:∀(j:Nat) (r:Addr × Addr) (f:Fl),rs[j]?=some r→fls[j]?=some f→H r.1=some (.tup (Hs f r.2))
 ls:∀(j:Nat) (r:Addr × Addr) (f:Fl),rs[j]?=some r→fls[j]?=some f→i≤j→H r.2=some (.lst (f.zb.map V.str))
theorem W0.next {B H H':Hp} {lt:Addr} {rs:List (Addr × Addr)} {fls:List Fl} {i:Nat} {r:Addr × Addr} {xs:List V} (h:W0 B H lt rs fls i) (hr:rs[i]?=some r) (hl:H r.2=some (.lst xs)) (k:Keeps r.2 H H') (hb:B r.2=none) (hn:lt≠r.2) (nd:(rs.map (·.2)).Nodup):W0 B H' lt rs fls (i + 1):=by
 refine⟨k.put h.bs hb,k.look h.el hn,λj q f hq hf=>?_,λj q f hq hf hj=>?_⟩
 ·have:=h.tp j q f hq hf
  exact k.look this (λz=>by rw[z,hl] at this;cases this)
 ·refine k.look (h.ls j q f hq hf (by omega)) λz=>?_
  have a1:(rs.map (·.2))[j]?=some q.2:=by rw[SW,hq];rfl
  have a2:(rs.map (·.2))[i]?=some r.2:=by rw[SW,hr];rfl
  have hj1:j < (rs.map (·.2)).length:=(S3.mp a1).1
  have:=(List.getElem?_inj hj1 nd).mp (a1.trans (by rw[z,a2]))
  omega
def GR (K:Sd):Sp:=λvs H Q _=>∃(x:Addr) (ms:List Int),vs=[.ref x]∧zK K H x (ms.map V.int)∧ms.length≤63∧∀H2,Q (.bl true) H2
theorem Gq (T:Txt K mg t):zo P w K mg base zC 9 t.cK t.cJ ["text"] (aY t):=fW (V8 T) λ_ _ _ _ h=>MD h
seal NZ aY
theorem vo:zd ["_law_script","_law_header_here","_law_rows_here","_law_due","_law_pact","_law_told_here","_law_k"] ["_law_script"] (zy Vk):=by walk_at "sc"
set_option maxHeartbeats 2000000 in
theorem Gx (T:Txt K mg t):zo P w K mg base zC 17 t.Zw t.Zj ["_law_script"] (GR K):=by
 have G_w_by_hand:zo P w K mg base zC 16 t.pH t.pZ ["_law_header_here","_law_rows_here"] (CB t):=(ZR T).mono (by decide)
 have G_w_cell:zo P w K mg base zC 16 t.pB t.pQ ["_law_script","_law_k"] (Vv K):=(rX T).mono (by decide)
 have G_w_flat:zo P w K mg base zC 16 t.nu t.tT ["_law_header_here","_law_rows_here"] (PY K):=(V9 T).mono (by decide)
 have G_w_header:zo P w K mg base zC 16 t.df t.dz ["_law_script"] (PH K):=(Jb T).mono (by decide)
 have G_w_right:zo P w K mg base zC 16 t.uT t.uM ["_law_found","_law_due"] P0:=(XX T).mono (by decide)
 have G_w_rows:zo P w K mg base zC 16 t.nQ t.tO ["_law_script","_law_header_here","_law_most"] (P4 K):=(Wq T).mono (by decide)
 have G_w_text:zo P w K mg base zC 16 t.nJ t.tI ["_law_header_here","_law_rows_here"] (P7 K):=(Wj T).mono (by decide)
 have G_v_flat:zo P w K mg base zC 16 t.nh t.tS ["pact"] (GP t):=(V7 T).mono (by decide)
 have G_v_read:zo P w K mg base zC 16 t.cK t.cJ ["text"] (aY t):=(Gq T).mono (by decide)
 refine T.Fw.fn.ok vo (by walk_at "ln") ?_;walk_at "hd"
 obtain⟨a,ns,rfl,hS,hl,k⟩:=h
 refine⟨_,(zj (za (i:=1) vo.nd rfl (SA rfl) (ze G_w_header hr rfl T.uZ.mg T.uZ.fn.kp T.uZ.bd .nil zJ (zz (pv 0) zq)))
   (zj (za (i:=2) vo.nd rfl (SA rfl) (ze G_w_rows hr rfl T.Qc.mg T.Qc.fn.kp T.Qc.bd .nil zJ (zz (pv 0) (zz (pv 1) (zz zx zq)))))
   (zj (za (i:=3) vo.nd rfl (SA rfl) (ze G_w_flat hr rfl T.Qm.mg T.Qm.fn.kp T.Qm.bd .nil zJ (zz (pv 1) (zz (pv 2) zq))))
   (zj (za (i:=4) vo.nd rfl (SA rfl) (ze G_v_read hr rfl T.Qf.mg T.Qf.fn.kp T.Qf.bd .nil zJ (zz (ze G_w_text hr rfl T.w_text.mg T.w_text.fn.kp T.w_text.bd .nil zJ (zz (pv 1) (zz (pv 2) zq))) zq)))
   (zj (PS.join (zW (zc qj (zi z7 (ze G_w_cell hr rfl T.jn.mg T.jn.fn.kp T.jn.bd .nil zJ (zz (pv 0) (zz zx zq))) zx) zx (zQ _))
    (zk (za (i:=4) vo.nd rfl (SA rfl) (ze G_w_by_hand hr rfl T.fT.mg T.fT.fn.kp T.fT.bd .nil zJ (zz (pv 1) (zz (pv 2) zq))))) zr))
   (zj (za (i:=5) vo.nd rfl (SA rfl) (ze G_v_flat hr rfl T.d9.mg T.d9.fn.kp T.d9.bd .nil zJ (zz (pv 4) zq)))
   (zj (zW (jh (qt (ze G_w_right hr rfl T.bg.mg T.bg.fn.kp T.bg.bd .nil zJ (zz (pv 5) (zz (pv 3) zq)))))
    (zk (zf xF)) zr)
   (zj (jg TJ rfl (xM rfl T.vU (zz (zX (zH (K:=K) rfl) rfl T.qo S5 (zz (pv 5) zq)) zq)) (zM (i:=6) vo.nd rfl (SA rfl))
    (zj (zW (zc (ZL (K:=K) rfl hr.units) (zu (zv (K:=K) rfl) (pv 5) (pv 6) (λ_ _=>rfl)) (zu (zv (K:=K) rfl) (pv 3) (pv 6) (λ_ _=>rfl)) (zQ _))
    (zk (zf xF)) zr)
   (zk (zO (qC SS S9 Tz qk (zu (qH (K:=K) rfl) (zu (zv (K:=K) rfl) (pv 5) (pv 6) (λ_ _=>rfl)) zx (λ_ _=>rfl)) (zz zw zq))))))
   (zj (zO (rY SS PySem.F.slot_list_clear PySem.F.type_list_clear YE (pv 5)))
   (zk (zf (ze G_w_right hr rfl T.bg.mg T.bg.fn.kp T.bg.bd .nil zJ (zz (ze G_v_flat hr rfl T.d9.mg T.d9.fn.kp T.d9.bd .nil zJ (zz (pv 4) zq)) (zz (pv 3) zq)))))))))))))),?_⟩
 refine⟨_,rfl,a,ns,rfl,hS,λc ps as zb p H1 ve hZ s1 hp hH hLb hLo=>?_⟩
 show zT 1 (V.ref p) [some (.ref a),none,none,none,none,none,none] _ _
 have hd:=hZ.hd
 refine⟨_,rfl,_,rfl,a,p,ns,c,ps,as,zb,ve,rfl,s1.seq hS,hH,hZ,hLb,hLo,λlr H2 ws evs s2 hlr e2 hP hE=>?_⟩
 show zT 2 (V.ref lr) [some (.ref a),some (.ref p),none,none,none,none,none] _ _
 have hH2:=hH.same s2
 have hS2:=(s1.trans s2).seq hS
 have hel:=hE.ln
 obtain⟨o2,hrn⟩:=hE.rn
 obtain⟨⟨fls,S2⟩,hR,_⟩:=Ge (S:=[(yw (j9 ps as zb),zb.map (·.2))]) hrn
 have hFK:∀f∈fls,B9 f:=Gi hR hE.ok (LM hZ)
 have hfl:fls.length≤evs.length:=Jn hR
 clear hrn hLb hH s1 hS hLo
 refine⟨_,rfl,_,rfl,p,lr,c,ps,as,zb,ws,evs,fls,S2,rfl,hH2,hZ,e2,hP,hE.ok,hel,hR,λld H3 qs s3 hld e3 hF3 hn3=>?_⟩
 show zT 3 (V.ref ld) [some (.ref a),some (.ref p),some (.ref lr),none,none,none,none] _ _
 have hP3:Paired (fO H3) ws evs:=Paired.imp' (λ_ _ z=>z.same s3) hP
 refine⟨_,rfl,_,rfl,p,lr,c,ps,as,zb,ws,evs,rfl,hH2.same s3,hd,s3 _ _ e2,hP3,hE.ok,by omega,λH4 s4=>?_⟩
 obtain⟨rows,hrd,hrf,hrdp,hrk⟩:=Wh hd hE.ok hE.dp hE.nd (by omega)
 show aY t [.str (Ni (SR "; ") (rowsOf ps as zb evs))] H4 _ _
 refine MM (by unfold rowsOf;simp) (Vj hd.w hE.ok) (by rw[uq];have:=hd.r2;omega) hrd λpq H5 s5 hA5=>?_
 show zT 4 (V.ref pq) [some (.ref a),some (.ref p),some (.ref lr),some (.ref ld),none,none,none] _ _
 have s35:=s4.trans s5
 have hH5:=(hH2.same s3).same s35
 have hP5:Paired (fO H5) ws evs:=Paired.imp' (λ_ _ z=>z.same s35) hP3
 have e25:=s35 _ _ (s3 _ _ e2)
 have e35:=s35 _ _ e3
 have hF5:=hF3.same s35
 have hS5:=(s3.trans s35).seq hS2
 clear hP3 hP hrd e2 e3 hF3 hS2 hH2 s35 s4 s5 s3 s2 hlr hld hn3
 show ∃M:L2.St→Hp→Prop,_∧_
 refine⟨λσ' H'=>(∃(pq:Addr) (rows:List Rw),σ'=[some (.ref a),some (.ref p),some (.ref lr),some (.ref ld),some (.ref pq),none,none]∧H' ld=some (.lst (qs.map λr:Addr × Addr=>.ref r.1))∧jb H' qs fls∧va t H' pq ps as zb (.pt "whole" [] rows)∧zA rows=evs∧vY rows∧vT rows≤6)∨False,?_,?_⟩
 ·refine⟨_,rfl,a,4,ns,rfl,hS5,by decide,by decide,λcell c0 c1=>?_⟩
  refine⟨_,_,rfl,rfl,(by show (0:Int) < 2;decide),rfl,_,rfl,?_⟩
  refine zD (λ_=>?_) (λ_=>.inl ⟨pq,rows,rfl,e35,hF5,hA5,hrf,hrk,hrdp⟩)
  refine⟨_,rfl,_,rfl,p,lr,c,ps,as,zb,ws,evs,rfl,hH5,e25,hP5,hE.ok,⟨hE.dp,hE.nd⟩,hel,λq rows' H6 s6 hf6 hk6 hd6 hA6=>?_⟩
  exact .inl ⟨q,rows',rfl,s6 _ _ e35,hF5.same s6,hA6,hf6,hk6,hd6⟩
 intro σ' H6 q
 clear hA5 hrf hrk hrdp rows
 obtain⟨pq,rows,rfl,e3,hF,hA,hrf,hrk,hrdp⟩:=q.resolve_right λz=>z
 clear q hF5 e25 e35 hP5 hH5 hS5
 obtain⟨o3,hfL⟩:=VY hrk hrf hR
 have hev:∀e∈zA rows,e.ok:=by rw[hrf];exact hE.ok
 have hevl:(zA rows).length≤160:=by rw[hrf];omega
 refine⟨_,rfl,pq,ps,as,zb,rows,fls,o3,rfl,hA,hd,hrdp,hrk,hev,hevl,hfL,λlt H7 rs s7 hlt e7 hF7 hnd hfr hln=>?_⟩
 show zT 5 (V.ref lt) [some (.ref a),some (.ref p),some (.ref lr),some (.ref ld),some (.ref pq),none,none] _ _
 refine⟨_,rfl,_,rfl,lt,ld,rs,qs,fls,rfl,e7,s7 _ _ e3,hF7,hF.same s7,hFK,by omega,λH8 s8=>?_⟩
 refine⟨true,rfl,?_⟩
 have n1:rs.length=fls.length:=TF hF7
 have n2:qs.length=fls.length:=TF hF
 refine⟨_,rfl,lt,_,rfl,.inl (zK.of (s8 _ _ e7)),?_⟩
 rw[Su,n1]
 refine⟨_,rfl,by omega,by omega,?_⟩
 have st0:W0 H6 H8 lt rs fls 0:=by
  refine⟨s7.trans s8,s8 _ _ e7,λj r f hr hf=>?_,λj r f hr hf _=>?_⟩
  ·obtain⟨f',hf',g1,g2⟩:=Paired.ZP hF7 hr
   rw[hf] at hf'
   cases hf'
   exact s8 _ _ g1
  ·obtain⟨f',hf',g1,g2⟩:=Paired.ZP hF7 hr
   rw[hf] at hf'
   cases hf'
   exact s8 _ _ g2
 refine kG (lo:=0) (n:=fls.length) (λi σ H'=>(∃v6:Option V,σ=[some (.ref a),some (.ref p),some (.ref lr),some (.ref ld),some (.ref pq),some (.ref lt),v6]∧W0 H6 H' lt rs fls i)∨False) (.inl ⟨none,rfl,st0⟩) ?_ ?_
 ·intro i σ H9 hi z
  obtain⟨v6,rfl,st⟩:=z.resolve_right λz=>z
  clear z
  rw[O1]
  obtain⟨r,hr⟩:∃r,rs[i]?=some r:=⟨_,Sn (by omega)⟩
  obtain⟨r2,hr2⟩:∃r,qs[i]?=some r:=⟨_,Sn (by omega)⟩
  obtain⟨f,hf,g3,g4⟩:=Paired.ZP hF hr2
  have g1:=st.tp i r f hr hf
  have g2:=st.ls i r f hr hf (SD _)
  have g3':=st.bs _ _ g3
  have g4':=st.bs _ _ g4
  have hfk:=hFK f (SN hf)
  have hrm:=hfk.2
  have a1:vC (rs.map λr:Addr × Addr=>V.ref r.1) (i:Int)=some (.ref r.1):=kT (by rw[SW,hr];rfl)
  have a2:vC (qs.map λr:Addr × Addr=>V.ref r.1) (i:Int)=some (.ref r2.1):=kT (by rw[SW,hr2];rfl)
  have hrmem:r∈rs:=SN hr
  refine⟨_,rfl,_,rfl,lt,_,_,_,rfl,rfl,zK.of st.el,a1,?_⟩
  refine⟨_,rfl,_,rfl,ld,_,_,_,rfl,rfl,zK.of (st.bs _ _ e3),a2,?_⟩
  refine⟨_,_,Zh g1 g2,Zh g3' g4',gL hfk,gL hfk,_,rfl,?_⟩
  rw[KW]
  refine zD (λh=>by cases h) (λ_=>?_)
  refine⟨_,rfl,_,rfl,lt,_,_,_,rfl,rfl,zK.of st.el,a1,r.1,_,_,_,rfl,rfl,jo.of g1,rfl,?_⟩
  refine⟨.inl ⟨rfl,_,zK.of g2⟩,?_⟩
  refine⟨r.2,_,_,rfl,rfl,g2,zg (by rw[Su];omega),?_⟩
  intro H10 k10 e10
  exact .inl ⟨_,rfl,st.next hr g2 k10 (hfr r hrmem).2 (λz=>hln (by rw[z];exact TL hrmem)) hnd⟩
 ·intro σ H9 z
  obtain⟨v6,rfl,st⟩:=z.resolve_right λz=>z
  clear z
  refine⟨_,rfl,.inl ⟨rfl,_,zK.of st.el⟩,lt,_,rfl,rfl,st.el,?_⟩
  intro H10 k10 e10
  have s10:zp H6 H10:=k10.put st.bs hlt
  refine⟨_,rfl,pq,ps,as,zb,rows,fls,o3,rfl,hA.same s10,hd,hrdp,hrk,hev,hevl,hfL,λlu H11 us s11 hlu e11 hF11 _ _ _=>?_⟩
  have s6b:=s10.trans s11
  refine⟨_,rfl,lu,ld,us,qs,fls,rfl,e11,s6b _ _ e3,hF11,hF.same s6b,hFK,by omega,λH12 s12=>?_⟩
  exact k _
theorem VT (T:Txt K mg t) (s:Ss) (u:Sr):BindsTo s t.Zj ⟨[u],[]⟩ [("_law_script",u)]:=by
 obtain⟨oc,od,kV,doc,pm,an,cdv,ct,osl,e,_⟩:=T.Fw.fn.ex
 rw[e]
 exact .of_eq rfl
theorem VN {H:Hp} {a:Addr} {ns:List Int} (hl:ns.length≤63) (_:WA H) (hS:zK K H a (ns.map V.int)):GR K [.ref a] H (λv _=>v=.bl true) λ_ _ _=>False:=
 ⟨a,ns,rfl,hS,hl,λ_=>rfl⟩
end
theorem Bj:(19:Nat)≤S0:=zg (by decide)
theorem Bx {t0 t1 t2 t3 t4 t5 t6 t7 t8 t9 t10 t11 t12 t13 t14 t15 t16 t17 t18:Tok}:Vals (gT.map V.str) ([.str "acts" t0,.str "any" t1,.str "be" t2,.str "by" t3,.str "calm" t4,.str "done" t5,.str "else" t6,.str "end" t7,.str "in" t8,.str "let" t9,.str "may" t10,.str "must" t11,.str "not" t12,.str "part" t13,.str "parties" t14,.str "rest" t15,.str "sore" t16,.str "to" t17,.str "whole" t18]:List Sr):=by
 repeat (first | exact .nil | refine .cons ⟨_,rfl⟩ ?_)
theorem YQ:(3:Nat)≤S0:=zg (by decide)
theorem YJ {t0 t1 t2:Tok}:Vals (zF.map V.str) ([.str "calm" t0,.str "sore" t1,.str "end" t2]:List Sr):=by
 repeat (first | exact .nil | refine .cons ⟨_,rfl⟩ ?_)
theorem dk {K:Sd} {h:Heap} {mg:Str→Option Sr} (X:K.In h) (G:h.Ns NL mg) {x:Str} {st:Stmt} {ps:List Str} {f:Addr} {oc:Sr} {od an:Option Addr} {osl:Array (Option Sr)} {kV doc pm cdv ct:Sr} (a:PySem.W.nsIn K NL x=some (some (.ref f))) (l:K.lookup f=some ⟨oc,od,.func (NW x x (vq st) (xn st) (zy st) .none kV doc pm an cdv ct),osl⟩) (c:Ic K cdv x=true) (k:NQ K (.ref f)=true)
  (b:∀(kV doc pm:Sr) (an:Option Addr) (cdv ct:Sr) (us:List Sr),us.length=ps.length→bindArgs (NW x x (vq st) (xn st) (zy st) .none kV doc pm an cdv ct) ⟨us,[]⟩=pure (ps.zip us)):Def K mg x st ps f (NW x x (vq st) (xn st) (zy st) .none kV doc pm an cdv ct):=⟨Zd l c k,(Zd l c k).binds b,EW X G a⟩
theorem Ds {K:Sd} {h:Heap} {mg:Str→Option Sr} (X:K.In h) (G:h.Ns NL mg) {x q:Str} {st:Stmt} {ps:List Str} {cc f:Addr} {oc:Sr} {od an:Option Addr} {osl:Array (Option Sr)} {kV doc pm cdv ct:Sr} (a:Tv K (.ref cc) x=some (some (.ref f))) (l:K.lookup f=some ⟨oc,od,.func (NW x q (vq st) (xn st) (zy st) .none kV doc pm an cdv ct),osl⟩) (c:Ic K cdv q=true) (k:NQ K (.ref f)=true)
  (b:∀(kV doc pm:Sr) (an:Option Addr) (cdv ct:Sr) (us:List Sr),us.length=ps.length→bindArgs (NW x q (vq st) (xn st) (zy st) .none kV doc pm an cdv ct) ⟨us,[]⟩=pure (ps.zip us)):ju K cc x q st ps f (NW x q (vq st) (xn st) (zy st) .none kV doc pm an cdv ct):=⟨Zd l c k,(Zd l c k).binds b,a⟩
theorem FD {α:Type} {p:α→Prop} {w:α} (h:p w):∃x,p x:=⟨w,h⟩
theorem L6 {P:z5→Prop} {aaa aab aac aad aae aaf aag aah aai aaj aak aal aam aan aao aap aaq aar aas aat aau aav aaw aax aay aaz aba abb abc abd abe abf abg abh abi abj abk abl abm abn abo abp abq abr abs abt abu abv abw abx aby abz aca acb acc acd ace acf acg ach aci acj ack acl acm acn aco acp acq acr acs act acu acv acw acx acy acz ada adb adc add ade adf adg adh adi adj adk adl adm adn ado adp adq adr JL adt adu:Addr} {daa dab dac dad dae daf dag dah dai daj dak dal dam dan dao dap daq dar das dat dau dav daw dax day daz dba dbb dbc dbd dbe dbf dbg dbh dbi dbj dbk dbl dbm dbn dbo dbp dbq dbr dbs dbt dbu dbv dbw dbx dby dbz dca dcb dcc dcd dce dcf dcg dch dci dcj dck dcl dcm dcn dco dcp dcq dcr dcs dct dcu dcv dcw dcx dcy dcz dda ddb ddc ddd:SH} (h:P ⟨aaa,aab,aac,aad,aae,aaf,aag,aah,aai,aaj,aak,aal,aam,aan,aao,aap,aaq,aar,aas,aat,aau,aav,aaw,aax,aay,aaz,aba,abb,abc,abd,abe,abf,abg,abh,abi,abj,abk,abl,abm,abn,abo,abp,abq,abr,abs,abt,abu,abv,abw,abx,aby,abz,aca,acb,acc,acd,ace,acf,acg,ach,aci,acj,ack,acl,acm,acn,aco,acp,acq,acr,acs,act,acu,acv,acw,acx,acy,acz,ada,adb,adc,add,ade,adf,adg,adh,adi,adj,adk,adl,adm,adn,ado,adp,adq,adr,JL,adt,adu,daa,dab,dac,dad,dae,daf,dag,dah,dai,daj,dak,dal,dam,dan,dao,dap,daq,dar,das,dat,dau,dav,daw,dax,day,daz,dba,dbb,dbc,dbd,dbe,dbf,dbg,dbh,dbi,dbj,dbk,dbl,dbm,dbn,dbo,dbp,dbq,dbr,dbs,dbt,dbu,dbv,dbw,dbx,dby,dbz,dca,dcb,dcc,dcd,dce,dcf,dcg,dch,dci,dcj,dck,dcl,dcm,dcn,dco,dcp,dcq,dcr,dcs,dct,dcu,dcv,dcw,dcx,dcy,dcz,dda,ddb,ddc,ddd⟩):∃t,P t:=⟨_,h⟩
end My
theorem PySem.W.Fast.tw10014686156739872148:True:=trivial
theorem PySem.W.Fast.tw10065170680596802210:True:=trivial
theorem PySem.W.Fast.tw10555125302139278629:True:=trivial
theorem PySem.W.Fast.tw10631531206079091037:True:=trivial
theorem PySem.W.Fast.tw10695391429640131804:True:=trivial
theorem PySem.W.Fast.tw11360170547723136387:True:=trivial
theorem PySem.W.Fast.tw11593983292013064906:True:=trivial
theorem PySem.W.Fast.tw11932764166888585880:True:=trivial
theorem PySem.W.Fast.tw12198387245818135470:True:=trivial
theorem PySem.W.Fast.tw12202549422682446399:True:=trivial
theorem PySem.W.Fast.tw12282782650348729332:True:=trivial
theorem PySem.W.Fast.tw12373395855706773156:True:=trivial
theorem PySem.W.Fast.tw12414545525288052632:True:=trivial
theorem PySem.W.Fast.tw12465539187345986201:True:=trivial
theorem PySem.W.Fast.tw12689437450508984957:True:=trivial
theorem PySem.W.Fast.tw1279370559531636798:True:=trivial
theorem PySem.W.Fast.tw1293464020012664040:True:=trivial
theorem PySem.W.Fast.tw12991459827432652152:True:=trivial
theorem PySem.W.Fast.tw1311038946968464482:True:=trivial
theorem PySem.W.Fast.tw13159686946455761811:True:=trivial
theorem PySem.W.Fast.tw13687403100429170464:True:=trivial
theorem PySem.W.Fast.tw13879531777223612609:True:=trivial
theorem PySem.W.Fast.tw1399096692481433479:True:=trivial
theorem PySem.W.Fast.tw14096318488560985475:True:=trivial
theorem PySem.W.Fast.tw14115957327198359031:True:=trivial
theorem PySem.W.Fast.tw14238659904938228245:True:=trivial
theorem PySem.W.Fast.tw14399316713270560208:True:=trivial
theorem PySem.W.Fast.tw14660335343229874088:True:=trivial
theorem PySem.W.Fast.tw14913220909899927100:True:=trivial
theorem PySem.W.Fast.tw15032781776372747535:True:=trivial
theorem PySem.W.Fast.tw15119661828332127685:True:=trivial
theorem PySem.W.Fast.tw1532114991031923564:True:=trivial
theorem PySem.W.Fast.tw15516789773379006160:True:=trivial
theorem PySem.W.Fast.tw15566966231940266165:True:=trivial
theorem PySem.W.Fast.tw15885557019368707011:True:=trivial
theorem PySem.W.Fast.tw16034987569363389680:True:=trivial
theorem PySem.W.Fast.tw16069200683280152970:True:=trivial
theorem PySem.W.Fast.tw16476170433119361556:True:=trivial
theorem PySem.W.Fast.tw16629938876679500718:True:=trivial
theorem PySem.W.Fast.tw16816675487350738374:True:=trivial
theorem PySem.W.Fast.tw16922888025908751462:True:=trivial
theorem PySem.W.Fast.tw17583378700116729764:True:=trivial
theorem PySem.W.Fast.tw17613633944230400196:True:=trivial
theorem PySem.W.Fast.tw17815804930583597345:True:=trivial
theorem PySem.W.Fast.tw1804009681951595696:True:=trivial
theorem PySem.W.Fast.tw18161231470224612380:True:=trivial
theorem PySem.W.Fast.tw18233598831126793316:True:=trivial
theorem PySem.W.Fast.tw1866782055393276961:True:=trivial
theorem PySem.W.Fast.tw1879787069242493896:True:=trivial
theorem PySem.W.Fast.tw1889485023065076609:True:=trivial
theorem PySem.W.Fast.tw1980907201999318766:True:=trivial
theorem PySem.W.Fast.tw2115441619744112305:True:=trivial
theorem PySem.W.Fast.tw2363709010947691020:True:=trivial
theorem PySem.W.Fast.tw2632520374941175691:True:=trivial
theorem PySem.W.Fast.tw3071353528140501859:True:=trivial
theorem PySem.W.Fast.tw311108814142630495:True:=trivial
theorem PySem.W.Fast.tw3220973454663814430:True:=trivial
theorem PySem.W.Fast.tw3601008522352591569:True:=trivial
theorem PySem.W.Fast.tw3857507280879774782:True:=trivial
theorem PySem.W.Fast.tw4005098032431837554:True:=trivial
theorem PySem.W.Fast.tw4142260155110723323:True:=trivial
theorem PySem.W.Fast.tw4340748239700567060:True:=trivial
theorem PySem.W.Fast.tw4343009582960106024:True:=trivial
theorem PySem.W.Fast.tw465259897367013353:True:=trivial
theorem PySem.W.Fast.tw4796978098316280638:True:=trivial
theorem PySem.W.Fast.tw4990222238115566990:True:=trivial
theorem PySem.W.Fast.tw5171045981655298906:True:=trivial
theorem PySem.W.Fast.tw5354883755551589753:True:=trivial
theorem PySem.W.Fast.tw5357630892910319212:True:=trivial
theorem PySem.W.Fast.tw5386309642566720473:True:=trivial
theorem PySem.W.Fast.tw5524684293636857643:True:=trivial
theorem PySem.W.Fast.tw5585924059502885026:True:=trivial
theorem PySem.W.Fast.tw636580891794474235:True:=trivial
theorem PySem.W.Fast.tw6509308504445212349:True:=trivial
theorem PySem.W.Fast.tw6756823257553361415:True:=trivial
theorem PySem.W.Fast.tw677056608964234133:True:=trivial
theorem PySem.W.Fast.tw7185688482267043333:True:=trivial
theorem PySem.W.Fast.tw7300103556757211450:True:=trivial
theorem PySem.W.Fast.tw7375707196886528720:True:=trivial
theorem PySem.W.Fast.tw7573229047402632072:True:=trivial
theorem PySem.W.Fast.tw8031330112995426232:True:=trivial
theorem PySem.W.Fast.tw8166046225650196108:True:=trivial
theorem PySem.W.Fast.tw8372047635469893271:True:=trivial
theorem PySem.W.Fast.tw8532765866888434589:True:=trivial
theorem PySem.W.Fast.tw8534525485719497086:True:=trivial
theorem PySem.W.Fast.tw8912477686826390156:True:=trivial
theorem PySem.W.Fast.tw9256746097755674938:True:=trivial
theorem PySem.W.Fast.tw93109914529818394:True:=trivial
theorem PySem.W.Fast.tw9545474208804660830:True:=trivial
theorem PySem.W.Fast.tw9758636151394540883:True:=trivial
open PySem PySem.W PyProof.Rows
set_option hygiene false in
local macro_rules | `(tactic| walk_at "zD1")=>`(tactic| ((try dsimp only);refine' My.dk KX G ?a ?l ?c ?k ?b;(case a=>k_is);(case l=>k_is);(case c=>k_is);(case k=>k_is);(case b=>exact λ_ _ _ _ _ _ us hl=>match us,hl with | [_],_=>rfl)))
set_option hygiene false in
local macro_rules | `(tactic| walk_at "zD2")=>`(tactic| ((try dsimp only);refine' My.dk KX G ?a ?l ?c ?k ?b;(case a=>k_is);(case l=>k_is);(case c=>k_is);(case k=>k_is);(case b=>exact λ_ _ _ _ _ _ us hl=>match us,hl with | [_,_],_=>rfl)))
set_option hygiene false in
local macro_rules | `(tactic| walk_at "zD3")=>`(tactic| ((try dsimp only);refine' My.dk KX G ?a ?l ?c ?k ?b;(case a=>k_is);(case l=>k_is);(case c=>k_is);(case k=>k_is);(case b=>exact λ_ _ _ _ _ _ us hl=>match us,hl with | [_,_,_],_=>rfl)))
set_option hygiene false in
local macro_rules | `(tactic| walk_at "zD4")=>`(tactic| ((try dsimp only);refine' My.dk KX G ?a ?l ?c ?k ?b;(case a=>k_is);(case l=>k_is);(case c=>k_is);(case k=>k_is);(case b=>exact λ_ _ _ _ _ _ us hl=>match us,hl with | [_,_,_,_],_=>rfl)))
set_option hygiene false in
local macro_rules | `(tactic| walk_at "zD5")=>`(tactic| ((try dsimp only);refine' My.dk KX G ?a ?l ?c ?k ?b;(case a=>k_is);(case l=>k_is);(case c=>k_is);(case k=>k_is);(case b=>exact λ_ _ _ _ _ _ us hl=>match us,hl with | [_,_,_,_,_],_=>rfl)))
set_option hygiene false in
local macro_rules | `(tactic| walk_at "zM1")=>`(tactic| ((try dsimp only);refine' My.Ds KX G ?a ?l ?c ?k ?b;(case a=>k_is);(case l=>k_is);(case c=>k_is);(case k=>k_is);(case b=>exact λ_ _ _ _ _ _ us hl=>match us,hl with | [_],_=>rfl)))
set_option hygiene false in
local macro_rules | `(tactic| walk_at "zM2")=>`(tactic| ((try dsimp only);refine' My.Ds KX G ?a ?l ?c ?k ?b;(case a=>k_is);(case l=>k_is);(case c=>k_is);(case k=>k_is);(case b=>exact λ_ _ _ _ _ _ us hl=>match us,hl with | [_,_],_=>rfl)))
set_option hygiene false in
local macro_rules | `(tactic| walk_at "zM3")=>`(tactic| ((try dsimp only);refine' My.Ds KX G ?a ?l ?c ?k ?b;(case a=>k_is);(case l=>k_is);(case c=>k_is);(case k=>k_is);(case b=>exact λ_ _ _ _ _ _ us hl=>match us,hl with | [_,_,_],_=>rfl)))
set_option hygiene false in
local macro_rules | `(tactic| walk_at "zM4")=>`(tactic| ((try dsimp only);refine' My.Ds KX G ?a ?l ?c ?k ?b;(case a=>k_is);(case l=>k_is);(case c=>k_is);(case k=>k_is);(case b=>exact λ_ _ _ _ _ _ us hl=>match us,hl with | [_,_,_,_],_=>rfl)))
set_option hygiene false in
local macro_rules | `(tactic| walk_at "zM5")=>`(tactic| ((try dsimp only);refine' My.Ds KX G ?a ?l ?c ?k ?b;(case a=>k_is);(case l=>k_is);(case c=>k_is);(case k=>k_is);(case b=>exact λ_ _ _ _ _ _ us hl=>match us,hl with | [_,_,_,_,_],_=>rfl)))
set_option hygiene false in
local macro_rules | `(tactic| walk_at "zM6")=>`(tactic| ((try dsimp only);refine' My.Ds KX G ?a ?l ?c ?k ?b;(case a=>k_is);(case l=>k_is);(case c=>k_is);(case k=>k_is);(case b=>exact λ_ _ _ _ _ _ us hl=>match us,hl with | [_,_,_,_,_,_],_=>rfl)))
set_option hygiene false in
local macro_rules | `(tactic| walk_at "zC")=>`(tactic| ((try dsimp only);refine' EW KX G ?_;k_is))
set_option hygiene false in
local macro_rules | `(tactic| walk_at "zT")=>`(tactic| ((try dsimp only);refine' My.FD (EW KX G ?a);(case a=>k_is)))
set_option hygiene false in
local macro_rules | `(tactic| walk_at "zB")=>`(tactic| ((try dsimp only);refine' PySem.W.mg_none_of KX G ?_;k_is))
local macro_rules | `(tactic| walk_at "zS0")=>`(tactic| ((try dsimp only);refine' ⟨?h1,?h2,?h3,?h4⟩;(case h1=>k_is);(case h2=>k_is);(case h3=>k_is);(case h4=>k_is)))
local macro_rules | `(tactic| walk_at "zS1")=>`(tactic| ((try dsimp only);(show _=_);k_is))
local macro_rules | `(tactic| walk_at "zS2")=>`(tactic| ((try dsimp only);refine' ⟨?h1,?h2,?h3⟩;(case h1=>k_is);(case h2=>k_is);(case h3=>k_is)))
local macro_rules | `(tactic| walk_at "zS3")=>`(tactic| ((try dsimp only);refine' ⟨L2.B7 ?h1 ?h2,?h3⟩;(case h1=>k_is);(case h2=>rfl);(case h3=>k_is)))
local macro_rules | `(tactic| walk_at "zS4")=>`(tactic| ((try dsimp only);refine' ⟨L2.Dy ?h1 ?h2,?h3,?h4,?h5⟩;(case h1=>k_is);(case h2=>rfl);(case h3=>k_is);(case h4=>k_is);(case h5=>k_is)))
local macro_rules | `(tactic| walk_at "zS5")=>`(tactic| ((try dsimp only);refine' ⟨?h1,?h2,?h3,?h4,?h5,?h6,?h7,?h8⟩;(case h1=>k_is);(case h2=>k_is);(case h3=>k_is);(case h4=>k_is);(case h5=>k_is);(case h6=>k_is);(case h7=>k_is);(case h8=>k_is)))
local macro_rules | `(tactic| walk_at "zS6")=>`(tactic| ((try dsimp only);(show _=_);kit_is))
local macro_rules | `(tactic| walk_at "zS7")=>`(tactic| ((try dsimp only);refine' ⟨?h1,?h2⟩;(case h1=>k_is);(case h2=>k_is)))
set_option maxRecDepth 100000 in
set_option maxHeartbeats 0 in
theorem PySem.Challenge.cw_pactway_k32_flat_holds : PySem.Challenge.rw_pactway_k32_flat.Holds := by
 w_on;o_law;k_head;(case hw=>w_witness2)
 k_fill
 refine L2.Hw (l:=PySem.Challenge.rw_pactway_k32_flat) (n:=63) (k:=17) (x:="_law_script") (CX:=L2.zC) (sp:=My.GR) rfl (by decide) rfl ⟨rfl,by decide,by decide⟩ (fun w h Y=>PySem.W.kIn_of Y) ?F ?S ?C
 case F=>
  intro w mg fa h KX G hmg
  have T:∃t:My.z5,My.Txt (L2.RX KX) mg t∧mg "law" = some (.ref t.Zw):=by
   dsimp only[L2.RX]
   refine' My.L6 ?y
   case y=>
    dsimp only
    refine' ⟨⟨?zaa,?zab,?zac,?zad,?zae,?zaf,?zag,?zah,?zai,?zaj,?zak,?zal,?zam,?zan,?zao,?zap,?zaq,?zar,?zas,?zat,?zau,?zav,?zaw,?zax,?zay,?zaz,?zaA,?zaB,?zaC,?zaD,?zaE,?zaF,?zaG,?zaH,?zaI,?zaJ,?zaK,?zaL,?zaM,?zaN,?zaO,?zaP,?zaQ,?zaR,?zaS,?zaT,?zaU,?zaV,?zaW,?zaX,?zaY,?zaZ,?zba,?zbb,?zbc,?zbd,?zbe,?zbf,?zbg,?zbh,?zbi,?zbj,?zbk,?zbl,?zbm,?zbn,?zbo,?zbp,?zbq,?zbr,?zbs,?zbt,?zbu,?zbv,?zbw,?zbx,?zby,?zbz,?zbA,?zbB,?zbC,?zbD,?zbE,?zbF,?zbG,?zbH,?zbI,?zbJ,?zbK,?zbL,?zbM,?zbN,?zbO,?zbP,?zbQ,?zbR,?zbS,?zbT,?zbU,?zbV,?zbW,?zbX,?zbY,?zbZ,?zca,?zcb,?zcc,?zcd,?zce,?zcf,?zcg,?zch,?zci,?zcj,?zck,?zcl,?zcm,?zcn,?zco,?zcp,?zcq,?zcr,?zcs,?zct,?zcu,?zcv,?zcw,?zcx,?zcy,?zcz,?zcA,?zcB,?zcC,?zcD,?zcE,?zcF,?zcG,?zcH,?zcI,?zcJ,?zcK,?zcL,?zcM,?zcN,?zcO,?zcP,?zcQ,?zcR,?zcS,?zcT,?zcU,?zcV,?zcW,?zcX,?zcY,?zcZ,?zda,?zdb,?zdc,?zdd,?zde,?zdf,?zdg,?zdh,?zdi,?zdj,?zdk,?zdl,?zdm,?zdn,?zdo,?zdp,?zdq,?zdr,?zds,?zdt,?zdu,?zdv,?zdw,?zdx,?zdy,?zdz,?zdA,?zdB,?zdC,?zdD,?zdE,?zdF,?zdG,?zdH,?zdI,?zdJ,?zdK,?zdL,?zdM,?zdN,?zdO,?zdP,?zdQ,?zdR,?zdS,?zdT,?zdU,?zdV,?zdW,?zdX,?zdY,?zdZ,?zea,?zeb,?zec,?zed,?zee,?zef,?zeg,?zeh,?zei,?zej,?zek,?zel,?zem,?zen,?zeo,?zep,?zeq,?zer,?zes,?zet,?zeu,?zev,?zew,?zex,?zey,?zez,?zeA,?zeB,?zeC,?zeD,?zeE,?zeF,?zeG,?zeH,?zeI,?zeJ,?zeK,?zeL,?zeM⟩,?z⟩
    (case zcd | zce | zcf | zcg | zch | zci | zcj | zck | zcl | zcm | zcn | zco | zcp | zcq | zcr | zbR=>walk_at "zC")
    (case zbS | zbT | zbU | zbV=>walk_at "zT")
    (case zbW=>walk_at "zC")
    (case zbX | zbY | zbZ | zca | zcb | zcc=>walk_at "zT")
    (case zbE | zbF | zbG | zbH | zbI | zbJ | zbK | zbL | zbM | zbN | zbO | zbP | zbQ=>walk_at "zB")
    (case zcs=>(refine' My.FD (My.FD (My.FD ⟨?a,?b⟩));(case a=>k_is);(case b=>exact⟨rfl,rfl,My.Bj,My.Bx⟩)))
    (case zct=>(refine' My.FD (My.FD (My.FD ⟨?a,?b⟩));(case a=>k_is);(case b=>exact⟨rfl,rfl,My.YQ,My.YJ⟩)))
    (case zcu=>walk_at "zS0")
    (case zcv | zcw | zcx | zcy | zcz=>walk_at "zS1")
    (case zcA | zcB=>walk_at "zS0")
    (case zcC | zcD | zcE | zcF | zcG=>walk_at "zS1")
    (case zcH=>walk_at "zS0")
    (case zcI | zcJ | zcK=>walk_at "zS2")
    (case zcL=>walk_at "zS0")
    (case zcM | zcN | zcO | zcP | zcQ=>walk_at "zS1")
    (case zcR=>walk_at "zS2")
    (case zcS=>walk_at "zS0")
    (case zcT | zcU=>walk_at "zS2")
    (case zcV=>walk_at "zS0")
    (case zcW | zcX | zcY | zcZ | zda=>walk_at "zS1")
    (case zdb=>walk_at "zS0")
    (case zdc | zdd | zde=>walk_at "zS2")
    (case zdf=>walk_at "zS0")
    (case zdg | zdh | zdi | zdj | zdk=>walk_at "zS1")
    (case zdl=>walk_at "zS0")
    (case zdm | zdn | zdo=>walk_at "zS2")
    (case zdp=>walk_at "zS0")
    (case zdq | zdr=>walk_at "zS1")
    (case zds | zdt=>walk_at "zS0")
    (case zdu | zdv | zdw=>walk_at "zS1")
    (case zdx | zdy=>walk_at "zS0")
    (case zdz | zdA | zdB | zdC=>walk_at "zS1")
    (case zdD | zdE=>walk_at "zS0")
    (case zdF | zdG | zdH=>walk_at "zS1")
    (case zdI=>walk_at "zS0")
    (case zdJ | zdK | zdL | zdM | zdN | zdO | zdP | zdQ=>walk_at "zS2")
    (case zdR=>walk_at "zS0")
    (case zdS | zdT | zdU=>walk_at "zS1")
    (case zdV=>walk_at "zS0")
    (case zdW | zdX | zdY | zdZ | zea | zeb | zec=>walk_at "zS2")
    (case zed=>walk_at "zS3")
    (case zee=>walk_at "zS4")
    (case zef=>walk_at "zS1")
    (case zeg=>walk_at "zS3")
    (case zeh=>walk_at "zS5")
    (case zei=>walk_at "zS4")
    (case zej=>walk_at "zS1")
    (case zek=>walk_at "zS3")
    (case zel=>walk_at "zS5")
    (case zem=>walk_at "zS4")
    (case zen=>walk_at "zS1")
    (case zeo | zep=>walk_at "zS0")
    (case zeq | zer | zes | zet | zeu | zev | zew | zex | zey | zez | zeA | zeB | zeC | zeD=>walk_at "zS6")
    (case zeE | zeF=>walk_at "zS1")
    (case zeG | zeH | zeI | zeJ | zeK | zeL | zeM=>walk_at "zS7")
    (case zaa | zab | zac=>walk_at "zM2")
    (case zad=>walk_at "zM4")
    (case zae | zaf | zag=>walk_at "zM1")
    (case zah=>walk_at "zM6")
    (case zai | zaj | zak | zal=>walk_at "zM1")
    (case zam=>walk_at "zM5")
    (case zan | zao=>walk_at "zM1")
    (case zap=>walk_at "zM5")
    (case zaq | zar=>walk_at "zM1")
    (case zas=>walk_at "zM3")
    (case zat=>walk_at "zM4")
    (case zau=>walk_at "zM5")
    (case zav | zaw=>walk_at "zD1")
    (case zax | zay=>walk_at "zD3")
    (case zaz=>walk_at "zD2")
    (case zaA | zaB | zaC | zaD=>walk_at "zD1")
    (case zaE | zaF=>walk_at "zD2")
    (case zaG=>walk_at "zM2")
    (case zaH=>walk_at "zM4")
    (case zaI=>walk_at "zM3")
    (case zaJ=>walk_at "zM1")
    (case zaK | zaL | zaM | zaN=>walk_at "zM2")
    (case zaO=>walk_at "zM3")
    (case zaP=>walk_at "zD1")
    (case zaQ=>walk_at "zD4")
    (case zaR=>walk_at "zD3")
    (case zaS=>walk_at "zD4")
    (case zaT=>walk_at "zD2")
    (case zaU=>walk_at "zD1")
    (case zaV=>walk_at "zD5")
    (case zaW=>walk_at "zD1")
    (case zaX | zaY=>walk_at "zD2")
    (case zaZ | zba=>walk_at "zM1")
    (case zbb=>walk_at "zM2")
    (case zbc=>walk_at "zM1")
    (case zbd | zbe | zbf=>walk_at "zM2")
    (case zbg=>walk_at "zM1")
    (case zbh | zbi | zbj=>walk_at "zD2")
    (case zbk | zbl | zbm=>walk_at "zD1")
    (case zbn | zbo | zbp | zbq=>walk_at "zD4")
    (case zbr=>walk_at "zD3")
    (case zbs=>walk_at "zD2")
    (case zbt=>walk_at "zD4")
    (case zbu=>walk_at "zD3")
    (case zbv | zbw=>walk_at "zD4")
    (case zbx=>walk_at "zD2")
    (case zby=>walk_at "zD1")
    (case zbz=>walk_at "zD2")
    (case zbA=>walk_at "zD1")
    (case zbB | zbC=>walk_at "zD2")
    (case zbD=>walk_at "zD1")
    (case z=>exact PySem.W.mg_of KX G (by k_is))
  obtain⟨t,T,hl⟩:=T
  have e0:=hmg.symm.trans hl
  cases e0
  exact⟨_,My.VT T,fun base kb nb=>My.Gx T⟩
 case S=>exact fun K H a ns hl hO hS=>My.VN hl hO hS
 case C=>exact fun _ _ _ _ z=>z
