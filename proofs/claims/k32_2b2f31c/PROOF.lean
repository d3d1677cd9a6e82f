import PyProof.Rows.All
import Wide.All
import OpenK.AllK
import Wide.FinOn
import PyProof.EqAt
import PyProof.EqKinds
import PyProof.TupleCall
import Lean
import PyProof.SetNew
import PyProof.SetRoads
import PySem.Challenge.RW_pactway_k32_flat
set_option Elab.async false
set_option linter.all false
set_option maxRecDepth 100000
theorem xE_2 {α:Sort _} {β:Sort _} {p:α→β→Prop} {g:Prop} (h:∃a b,p a b) (k:∀a b,p a b→g):g:=h.elim λa h=>h.elim λb h=>k a b h
theorem xE_3 {α:Sort _} {β:Sort _} {γ:Sort _} {p:α→β→γ→Prop} {g:Prop} (h:∃a b c,p a b c) (k:∀a b c,p a b c→g):g:=xE_2 h λa b h=>h.elim λc h=>k a b c h
theorem xE_4 {α:Sort _} {β:Sort _} {γ:Sort _} {δ:Sort _} {p:α→β→γ→δ→Prop} {g:Prop} (h:∃a b c d,p a b c d) (k:∀a b c d,p a b c d→g):g:=xE_2 h λa b h=>xE_2 h λc d h=>k a b c d h
theorem xE_6 {α:Sort _} {β:Sort _} {γ:Sort _} {δ:Sort _} {ε:Sort _} {ζ:Sort _} {p:α→β→γ→δ→ε→ζ→Prop} {g:Prop} (h:∃a b c d e f,p a b c d e f) (k:∀a b c d e f,p a b c d e f→g):g:=xE_4 h λa b c d h=>xE_2 h λe f h=>k a b c d e f h
theorem xE_8 {α:Sort _} {β:Sort _} {γ:Sort _} {δ:Sort _} {ε:Sort _} {ζ:Sort _} {η:Sort _} {θ:Sort _} {p:α→β→γ→δ→ε→ζ→η→θ→Prop} {g:Prop} (h:∃a b c d e f i j,p a b c d e f i j) (k:∀a b c d e f i j,p a b c d e f i j→g):g:=xE_4 h λa b c d h=>xE_4 h λe f i j h=>k a b c d e f i j h
theorem xA_3 {a b c g:Prop} (h:a∧b∧c) (k:a→b→c→g):g:=k h.1 h.2.1 h.2.2
theorem xA_4 {a b c d g:Prop} (h:a∧b∧c∧d) (k:a→b→c→d→g):g:=k h.1 h.2.1 h.2.2.1 h.2.2.2
theorem xA_6 {a b c d e f g:Prop} (h:a∧b∧c∧d∧e∧f) (k:a→b→c→d→e→f→g):g:=xA_4 h λa b c h=>k a b c h.1 h.2.1 h.2.2
theorem xA_8 {a b c d e f i j g:Prop} (h:a∧b∧c∧d∧e∧f∧i∧j) (k:a→b→c→d→e→f→i→j→g):g:=xA_6 h λa b c d e h=>k a b c d e h.1 h.2.1 h.2.2
open Lean Parser.Tactic in
local macro_rules
  | `(tactic| obtain ⟨$q,*⟩ := $h:term) => do
    let q := q.getElems
    let n := q.size
    let nm (p : TSyntax ``rcasesPatLo) : Option Name := match p with
      | `(rcasesPatLo| $x:ident) => if x.getId == `rfl then none else some x.getId
      | `(rcasesPatLo| _) => some .anonymous
      | _ => none
    let bn (p : TSyntax ``rcasesPatLo) : MacroM (TSyntax ``Lean.Parser.Term.funBinder) := match p with
      | `(rcasesPatLo| $x:ident) => `(Lean.Parser.Term.funBinder| $x:ident)
      | _ => `(Lean.Parser.Term.funBinder| _)
    let mut k := 0
    for p in q do
      if (nm p).isSome then k := k + 1 else break
    let cl (r : Array (TSyntax ``rcasesPatLo)) : MacroM (TSyntax `tactic) := match h with
      | `($x:ident) => if r.any fun p => nm p == some x.getId then `(tactic| skip) else `(tactic| try clear $x)
      | _ => `(tactic| skip)
    let mut al : Array (TSyntax `tactic) := #[]
    if n > 2 && k > 1 then
      for (m, e) in [(8, `xE_8), (6, `xE_6), (4, `xE_4), (3, `xE_3), (2, `xE_2), (7, `xA_8), (5, `xA_6), (3, `xA_4), (2, `xA_3)] do
        if m ≤ k && m < n then
          let b ← (q.extract 0 m).mapM bn
          let c := mkIdent e
          if m + 1 == n && (nm q[m]!).isSome then
            let b := b.push (← bn q[m]!)
            al := al.push (← `(tactic| (refine $c $h (fun $b* => ?_); $(← cl q))))
          else
            let r := q.extract m n
            al := al.push (← `(tactic| (refine $c $h (fun $b* h9 => ?_); $(← cl (q.extract 0 m)); obtain ⟨$r,*⟩ := h9)))
    al := al.push (← `(tactic| rcases $h:term with ⟨$q,*⟩))
    let s ← al.mapM fun a => `(tacticSeq| $a:tactic)
    `(tactic| first $[| $s]*)
open Lean Parser.Tactic in
def x_holes (n : Nat) (s : Syntax) : Nat := match n with
  | 0 => 2
  | n + 1 => if s.isOfKind ``Lean.Parser.Term.syntheticHole then 1 else s.getArgs.foldl (fun a x => if a > 1 then a else a + x_holes n x) 0
open Lean Parser.Tactic in
def x_pat (n : Nat) (s : Syntax) : MacroM (TSyntax `rcasesPat) := match n with
  | 0 => Macro.throwUnsupported
  | n + 1 => do
    if s.isIdent then
      if s.getId == `rfl then Macro.throwUnsupported
      let x : Ident := ⟨s⟩
      `(rcasesPat| $x:ident)
    else if s.isOfKind ``Lean.Parser.Term.hole then `(rcasesPat| _)
    else if s.isOfKind ``Lean.Parser.Term.anonymousCtor then
      let ps ← s[1].getSepArgs.mapM fun x => do
        let p ← x_pat n x
        `(rcasesPatLo| $p:rcasesPat)
      `(rcasesPat| ⟨$ps,*⟩)
    else Macro.throwUnsupported
open Lean Parser.Tactic in
def x_fix (k : Nat) (n : Nat) (s : Syntax) : MacroM (Syntax × Array (Ident × TSyntax `rcasesPat)) := match n with
  | 0 => pure (s, #[])
  | n + 1 => do
    if s.isOfKind ``Lean.Parser.Term.basicFun && (if k == 1 then s[3].isOfKind ``Lean.Parser.Term.syntheticHole else x_holes 99 s[3] == 0) && s[0].getArgs.any (·.isOfKind ``Lean.Parser.Term.anonymousCtor) then
      let mut bs := #[]
      let mut os := #[]
      for b in s[0].getArgs do
        if b.isOfKind ``Lean.Parser.Term.anonymousCtor then
          let i := mkIdent (.mkSimple s!"h9{os.size}")
          os := os.push (i, ← x_pat 9 b)
          bs := bs.push i.raw
        else bs := bs.push b
      let r := s.setArg 0 (s[0].setArgs bs)
      if k == 1 then return (r, os)
      let e : Term := ⟨s[3]⟩
      let mut t ← `(tactic| exact $e)
      for (i, p) in os.reverse do t ← `(tactic| (obtain $p:rcasesPat := $i:ident; $t:tactic))
      return (r.setArg 3 (← `(by $t:tactic)), os)
    let mut r := s
    let mut os := #[]
    for i in [0:s.getNumArgs] do
      if os.isEmpty || k == 0 then
        let (x, o) ← x_fix k n s[i]
        r := r.setArg i x
        os := os ++ o
    return (r, os)
open Lean Parser.Tactic in
local macro_rules
  | `(tactic| refine $e) => do
    unless x_holes 99 e == 1 do Macro.throwUnsupported
    let (f, os) ← x_fix 1 99 e
    if os.isEmpty then Macro.throwUnsupported
    let f : Term := ⟨f⟩
    let mut t ← `(tactic| refine $f)
    for (i, p) in os do t ← `(tactic| ($t:tactic; obtain $p:rcasesPat := $i:ident))
    return t
  | `(tactic| exact $e) => do
    let (f, os) ← x_fix 0 99 e
    if os.isEmpty then Macro.throwUnsupported
    let f : Term := ⟨f⟩
    `(tactic| first | refine $f | refine $e)
set_option maxHeartbeats 400000
theorem zzB {p:Prop} [Decidable p] (h:decide p=true):p:=of_decide_eq_true h
theorem zzP {p:Prop} [Decidable p] (h:p):decide p=true:=decide_eq_true h
local macro_rules | `(tactic| walk_at "sc")=>`(tactic| exact ⟨rfl,rfl,rfl,by decide +kernel,rfl,by decide +kernel,by decide +kernel⟩)
set_option hygiene false in
local macro_rules | `(tactic| walk_at "ln")=>`(tactic| (intro vs H Q E h;repeat (first | (rcases h with ⟨rfl,_⟩;rfl;done) | rcases h with ⟨_,h⟩)))
set_option hygiene false in
local macro_rules | `(tactic| walk_at "hd")=>`(tactic| intro cdv A outer s H vs Q E hr h)
open PySem.W renaming Frag→Ls,findIn→Sf,kitOne→SQ,kia_one→Tf,emptyDict→Ts,keepIn→Tt,mroIn→To,fnOf→Te,instObj→TR,methodCall_KW→T8,callWith_K→Nt,specialIn→NB,hasDictIn→N9,codeIn→Oq,plainGet→Og,plainGet_of→OJ,lookIn→OP,exmOne→OD,methodObj→OS,mg_of→O3,isFn→Iy,cellsFrom_some→Ig,takerIn→Ie,makesIn→Ia,takesIn→IZ,callWith_K0→Ex,plainOver→EZ,kitx_list→EJ,kitx_dict→EX,handedIn→EN,OpenLaw→Az,WalkO→AR
open List renaming length_map→Ln,length_append→Li,getElem?_eq_getElem→Le,mem_cons→La,length_cons→LQ,mem_cons_of_mem→LK,getElem?_map→LV,mem_singleton→LW,map_append→LY,mem_append_right→LP,mem_of_getElem?→LC,mem_append→LU,map_cons→LR,getElem?_eq_some_iff→LN,length_nil→LO,length_take→L3,getD_eq_getElem?_getD→L7,nodup_cons→Sq,size_toArray→Sj,replicate→Sk,mem_cons_self→Sw,not_mem_nil→Sm,append_nil→Sd,nil_append→Sr,mem_append_left→Ss,mem_map→SX,append_assoc→SY,nodup_append→SG,mem_map_of_mem→SH,getElem?_append_right→SD,getElem?_eq_none_iff→SN,take_length→SE,cons_append→SA,getElem?_append_left→S5,map_nil→S7,reverse_cons→S8,length_drop→Tx,replicate_succ→Tv,length_replicate→Tw,length→Tb,mem_of_mem_take→Tp,find?_cons→Td,all_eq_true→Tc,map_map→TQ,lookup→TX,take_append_drop→TV,lookup_cons→TH,getElem?_take_of_lt→TB,range→TL,getElem_mem→T5,drop_eq_getElem_cons→Nx,all_cons→Ng,any_cons→Nh,getElem?_range→Nm,length_reverse→Nd,filter_cons→Nr,getElem?_set_self→Nl,take_sublist→NP,flatten_cons→NF,nodup_iff_pairwise_ne→NR,take_zero→NL,getElem_of_mem→NN,map_congr_left→NI,mem_filter→N2,mem_range→N8,ext_getElem?→Ox,length_filter_le→Ov,getElem?_set_ne→Ou,mem_of_mem_drop→Oi,filterMap_cons→OZ,length_pos_iff→OK,drop_zero→OC,getElem?_drop→OU,pairwise_iff_getElem→OR,mem_or_eq_of_mem_set→OL,map_take→O1,getElem?_replicate→O5,append_cancel_left→O9,take_of_length_le→Io,drop_eq_nil_of_le→Ii,of_mem_zip→IQ,length_singleton→IV,getElem?_eq_none→IG,dropLast_concat→IC,nodup_nil→IU,getElem?_of_mem→IL,take_take→IT,drop_drop→II,take_succ→IE,drop_succ_cons→Ek,take_add→Ep,mem_filterMap→Ec,filter_append→El,zip_cons_cons→En,any_map→ED,length_range→EU,drop_sublist→ER,flatMap_cons→ES,drop→E4,drop_length→E5,flatMap_nil→E6,length_set→E8,foldl→Ab,map_drop→AN,sum_cons→AI,all_map→A4,map_set→A6,map_id→zzh
open PySem renaming Value→Lo,Shared→LZ,FuncData→LG,Program→LH,sizeLine→LI,wpAny_bind→L1,boot_len→L4,model→L9,World→Sz,wpAny→Sv,starEach→Sg,wpAny_pure→Sn,wpAny_mono→SS,Around→SO,mem_of_lookup→S4,compareOp→S9,wpAny_passesOwn→Tn,wpAny_truthy_bool→Ti,mainGlobals→TM,keywordEach→TC,wpAny_Call_Name_kw→T6,tupleKind_room_in1→T7,bootBuiltins→Nk,foldedSetIterable→Nv,attributeBase→Ny,wpAny_comprehension_free→Nf,letOwnedTupleGo→NJ,codeAny→NH,sysModules→ND,backToKw→NC,call_meets→NU,behindInMarks→NA,binaryOp→N0,assignEach→N4,codeAny_mono→Oz,getMethod→Oh,checkBuiltinCall→Ob,wpAny_holding→Om,wpAny_standAt→Od,notedBy→Oc,NameKind→Ot,strIterType→Oo,wpAny_execs_nil→Oe,codeAny_builtin→Oa,tupleKind→OG,wpAny_assign_Name→OT,wpAny_pyIter_list→ON,swapsWith→O4,Within→Ij,wpAny_pyNext_list_item→Iw,codeAny_compStart_list→Im,wpAny_pyNext_dict_item→Il,wpAny_isTrue_Compare1→IX,wpAny_pyNext_list_end→IK,wpAny_pyNext_dict_end→IY,wpAny_newFunctionEnv→IM,intText_digits→ID,codeAny_forLoop_any→Ej,wpAny_newObj_type→EY,wpAny_pyIter_dict→EF,wpAny_execs_cons→ET,wpAny_pyIter_zip→E1,wpAny_isInstance→E2,wpAny_tests_nil→Aq,codeAny_of_tree→Aj,wpAny_Name→Aw,wpAny_Compare1→Ay,wpAny_call→Ah,call→Ap,Str→AA
open Option renaming bind_eq_some_iff→LJ,bind_some→LX,map_some→Tq,isSome_map→OI,bind→OA,isSome_iff_exists→O0,getD_none→EE,none→zzy
open PySem.Heap renaming get?_push_of_some→LB,lt_size→L0,get?_push_size→Se,SetOf→Of,SameBut→OV,size_push→OF,get?_update_other→Ib
open Nat renaming le_refl→LF,zero_le→Sy,lt_of_lt_of_le→Sl,ne_of_lt→SJ,le_trans→S1,le_succ_of_le→Tg,isDigit_of_mem_toDigits→T1,lt_irrefl→T3,add_sub_cancel_left→Nu,min_eq_left→NV,le_succ→Ol,le_of_eq→OW,le_of_lt→Ik,zero_add→Ir,lt_of_le_of_lt→Eu,add_sub_cancel→Et,ne_of_gt→Ea,lt_succ_of_lt→EG,sub_self→EH,toDigits→EB,lt_succ_self→EO,le_add_right→EA,min_eq_right→E3,lt_trans→A2,min_self→A5,mul_add→zzg
open PySem.Str renaming ofString→LM,join→Tj,length→TY,empty→zzX
open PySem.F renaming plainAttrs_list→LD,slot_list_append→L5,type_list_append→L6,plainAttrs_str→SM,slot_str_split→Ta,type_str_split→TZ,slot_dict_get→TK,slot_list_pop→T9,type_list_pop→Nz,slot_str_join→Nq,type_str_join→Nj,entry_dict_get→Nn,called_set→Ni,args_str_split_2→OM,entry_str_split→OO,slot_str_split→O6,args_dict_get_2→O7,args_dict_get_3→O8,plainAttrs_dict→Iz,type_dict_get→IH,slot_int_rmul→E9,plain_set_new→Ax
open Or renaming inl→LL,inr→IP
open Bool renaming false_ne_true→LA,and_eq_true→SR,eq_iff_iff→NX,true_and→Eb,false_and→Ag
open Option.some renaming inj→L8
open Int renaming emod_lt_of_pos→Sx,emod_nonneg→Sb,toNat→S3,eq_ofNat_of_zero_le→Th,zero_add→NS,toNat_of_nonneg→OX,toNat_natCast→EW,ediv_nonneg→Ak
open PySem.PassesOwn renaming never→Su
open PyProof.Rows renaming boot_list→So,boot_isinstance→SV,callWith_type1→TN,split_pos→Na,boot_dict→NQ,boot_int→NG,boot_all→Oy,boot_tuple→Iq,split_le→IW,boot_str→IB,callWith_builtin1→EI,printed_name→AZ,printed_star→AQ,digit_range→AL,part_short→A0,boot_bool→A7,boot_zip→A9
open PySem.NameKind renaming free→Sa,cell→T4
open PySem.Paired renaming length→SW
open Ne renaming symm→SF
open PySem.Value renaming ref→SU,bool→OH,int→I0,str→Ez,none→Ed,float→E7,type→Av,isStrOf→AJ,isInt→zzz,bytes→zzj
open PySem.SeqAt renaming shaped→SI,EqAt→zzt
open PySem.PyData renaming str→S0,strOk→TF,eqvAll→Np,canLayAll0→NM,depthAll→N3,eqv→N5,canLay0→Oj,depth→OY
open False renaming elim→S6
open True renaming intro→Tz
open Eq renaming symm→Tu
open PySem.Txt renaming join→Tr,split→TJ
open PySem.NumText renaming digitsVal→TU,AllDigits→N6,toDigits_all→Am
open PySem.Builtin.List renaming listTooLong→Nb
open PySem.Builtin.Str renaming occurrences→Nc,strKind→NO,partsBetween→AS,strSub→zza
open ForInStep renaming yield→NK
open And renaming intro→NW
open PySem.W.KIN renaming signs_num→NY,val_back→IS,call_text→A8
open Nat.succ renaming inj→NT
open PySem.Challenge renaming rw_pactway_k32_flat→N1,pw_pactway_k32_flat→Eg
open Sum renaming inr→N7,inl→IA
open Array renaming length_toList→OQ,toList→A1
open PySem.Calls renaming Name_function_global→OB,callWith_builtin→Ip
open PySem.StrLaws renaming found_one→OE,join_split→Eo,At→Ei
open Function renaming comp→O2
open PySem.Obj renaming mapSeq→Ih
open PySem.Manifest.Receiver renaming self→Ic,none→Iu
open List.cons renaming injEq→IJ,inj→zzH
open PySem.Shared renaming TypeIs→Ey
open PySem.SeqAt.EqAt renaming int_str→Ef,str_int→Em,none_bool→zzk,bool_none→zzv,bool_bool→zzw,none_int→zzb,none_str→zzp,bool_int→zzf,bool_str→zzm,int_none→zzd,int_bool→zzc,str_none→zzu,str_bool→zzr,int_int→zzn,str_str→zzo,same→zzW
open PySem.ScopeKind renaming function→Er
open PySem.Code renaming quiet_builtin→Es,isFrame→EV,frames→zzx
open PySem.AutoListH renaming list___mul___list_int_3→Ee
open PySem.Around renaming under→EK
open Exists renaming intro→EM
open Char renaming isDigit→EC
open List.Sublist renaming refl→EL
open PySem.Builtin.Frozenset renaming newClass→Af
open PySem.EqNone renaming eq_none_none→Ad,eq_none_bool→Ac,eq_bool_none→Au,ne_none_none→As,ne_none_bool→Ao,ne_bool_none→Ai,eq_none_int→AX,eq_none_str→AK,eq_int_none→AV,eq_str_none→AY,ne_none_int→AH,ne_none_str→AB,ne_int_none→AF,ne_str_none→AD
open PySem.EqMixed renaming eq_bool_str→Ar,eq_str_bool→Al,ne_bool_str→Ae,ne_str_bool→Aa,eq_int_str→AW,eq_str_int→AG,ne_int_str→AM,ne_str_int→AU
open List.Pairwise renaming imp_of_mem→AO,nil→zzQ
open PySem.Builtin.Range renaming rangeSize→AE
open PySem.Bind renaming printed→A3,check→zze
open Sum.inr renaming inj→zzq
open PySem.W.Looks renaming here→zzl
open PySem.Heap.IsSliceOf renaming new→zzs
open PySem.W.WShape renaming has→zzi
open PySem.Within renaming cons→zzZ
open PySem.DictEntry renaming refKey→zzJ
open PySem.IsL renaming update→zzK
open PySem.W.WData renaming int→zzV
open PySem.Heap.DictOf renaming new→zzY
open Prod renaming fst→zzG
namespace L2
open PySem PySem.Spec PyProof.Rows
noncomputable abbrev Key:=Sum Int Str
noncomputable def tP:Key→Lo→Bool
 | .inl k,v=>zzz k v
 | .inr x,v=>AJ x v
noncomputable def CV (w:Sz):Key→Int
 | .inl k=>hashInt k
 | .inr x=>hashStr w x
theorem qN:∀{k:Key} {v:Lo},tP k v=true→(∃i t,k=IA i∧v=I0 i t)∨(∃x t,k=N7 x∧v=Ez x t)
 | .inl i,v,h=>by
  obtain⟨t,e⟩:=Value.isInt_shape (k:=i) (v:=v) h
  exact .inl ⟨i,t,rfl,e⟩
 | .inr x,v,h=>by
  obtain⟨t,e⟩:=Value.isStrOf_shape (x:=x) (v:=v) h
  exact .inr ⟨x,t,rfl,e⟩
theorem K2 (i:Int) (t:Tok):tP (.inl i) (.int i t)=true:=by simp [tP,zzz]
theorem K3 (x:Str) (t:Tok):tP (.inr x) (.str x t)=true:=by simp [tP,AJ]
theorem Po (a b:Int):decide ((IA a:Key)=IA b)=(a == b):=by
 by_cases e:a=b
 ·subst e;simp
 ·have h:¬(IA a:Key)=IA b:=λq=>e (Sum.inl.inj q)
  rw[decide_eq_false h]
  exact(beq_eq_false_iff_ne.mpr e).symm
theorem PZ (a b:Str):decide ((N7 a:Key)=N7 b)=decide (a=b):=by
 by_cases e:a=b
 ·subst e;simp
 ·have h:¬(N7 a:Key)=N7 b:=λq=>e (zzq q)
  rw[decide_eq_false h,decide_eq_false e]
theorem Pe (a:Int) (b:Str):decide ((IA a:Key)=N7 b)=false:=decide_eq_false (λq=>nomatch q)
theorem Pa (a:Str) (b:Int):decide ((N7 a:Key)=IA b)=false:=decide_eq_false (λq=>nomatch q)
noncomputable def qS (prog:LH) (w:Sz):PySem.KeyKind prog w Key where
 is:=tP
 hash:=CV w
 inj:=λv a b ha hb=>by
  rcases qN ha with ⟨i,t,rfl,rfl⟩ | ⟨x,t,rfl,rfl⟩
  ·rcases qN hb with ⟨j,u,rfl,e⟩ | ⟨y,u,rfl,e⟩
   ·injection e with e1 _;rw[e1]
   ·exact nomatch e
  ·rcases qN hb with ⟨j,u,rfl,e⟩ | ⟨y,u,rfl,e⟩
   ·exact nomatch e
   ·injection e with e1 _;rw[e1]
 byValue:=λk v h=>by
  rcases qN h with ⟨i,t,rfl,rfl⟩ | ⟨x,t,rfl,rfl⟩<;>rfl
 pyHash:=λhv h=>by
  rcases qN hv with ⟨i,t,rfl,rfl⟩ | ⟨x,t,rfl,rfl⟩
  ·exact wpAny_pyHash_int h
  ·exact wpAny_pyHash_str h
 eqBool:=λhu hv h=>by
  rcases qN hu with ⟨i,t,rfl,rfl⟩ | ⟨x,t,rfl,rfl⟩
  ·rcases qN hv with ⟨j,u,rfl,rfl⟩ | ⟨y,u,rfl,rfl⟩
   ·rw[Po] at h;exact wpAny_eqBool_int h
   ·rw[Pe] at h;exact Ef i t y u _ _ _ _ h
  ·rcases qN hv with ⟨j,u,rfl,rfl⟩ | ⟨y,u,rfl,rfl⟩
   ·rw[Pa] at h;exact Em x t j u _ _ _ _ h
   ·rw[PZ] at h;exact wpAny_eqBool_str h
 «strs»:=λk x t v h=>by
  rcases qN h with ⟨i,u,rfl,e⟩ | ⟨y,u,rfl,e⟩
  ·exact nomatch e
  ·injection e with e1 _
   subst e1
   cases v<;>rfl
theorem Qa (prog:LH) (w:Sz) (i:Int) (t:Tok):(qS prog w).is (.inl i) (.int i t)=true:=K2 i t
theorem QZ (prog:LH) (w:Sz) (x:Str) (t:Tok):(qS prog w).is (.inr x) (.str x t)=true:=K3 x t
end L2
namespace L2
open PySem PySem.Spec PyProof.Rows
inductive V where
 | non | bl (b:Bool) | int (i:Int) | str (x:Str) | byt (b:Array UInt8) | flt (b:UInt64) | ref (a:Addr) | ty (n:String)
 deriving DecidableEq
def RelV:V→Lo→Prop
 | .non,u=>u=Ed
 | .bl b,u=>u=OH b
 | .int i,u=>∃t,u=I0 i t
 | .str x,u=>∃t,u=Ez x t
 | .byt b,u=>∃t,u=zzj b t
 | .flt b,u=>∃t,u=E7 b t
 | .ref a,u=>u=SU a
 | .ty n,u=>u=Av n
abbrev Vals:List V→List Lo→Prop:=Paired RelV
theorem Vals.length {xs:List V} {us:List Lo} (r:Vals xs us):xs.length=us.length:=SW r
theorem Vals.get:∀{xs:List V} {us:List Lo} {i:Nat} {x:V},Vals xs us→xs[i]?=some x→∃u,us[i]?=some u∧RelV x u
 | _,_,_,_,.nil,e=>by simp at e
 | _,_,0,_,.cons r _,e=>by simp at e;subst e;exact⟨_,rfl,r⟩
 | _,_,i + 1,x,.cons _ t,e=>by
  obtain⟨u,h1,h2⟩:=Vals.get (i:=i) (x:=x) t (by simpa using e)
  exact⟨u,by simpa using h1,h2⟩
theorem Vals.set {x:V} {u:Lo} (r:RelV x u):∀{xs:List V} {us:List Lo} (i:Nat),Vals xs us→Vals (xs.set i x) (us.set i u)
 | _,_,_,.nil=>.nil
 | _,_,0,.cons _ t=>.cons r t
 | _,_,i + 1,.cons q t=>.cons q (Vals.set r i t)
theorem Vals.append:∀{xs ys:List V} {us ws:List Lo},Vals xs us→Vals ys ws→Vals (xs ++ ys) (us ++ ws)
 | _,_,_,_,.nil,s=>s
 | _,_,_,_,.cons r t,s=>.cons r (Vals.append t s)
theorem Vals.take:∀{xs:List V} {us:List Lo} (n:Nat),Vals xs us→Vals (xs.take n) (us.take n)
 | _,_,0,_=>.nil
 | _,_,_ + 1,.nil=>.nil
 | _,_,n + 1,.cons r t=>.cons r (Vals.take n t)
theorem Vals.drop:∀{xs:List V} {us:List Lo} (n:Nat),Vals xs us→Vals (xs.drop n) (us.drop n)
 | _,_,0,r=>r
 | _,_,_ + 1,.nil=>.nil
 | _,_,n + 1,.cons _ t=>Vals.drop n t
def gv:Option V→Option Lo→Prop
 | some v,some u=>RelV v u
 | none,none=>True
 | _,_=>False
def KV {κ:Type}:List (κ × V)→List (κ × Lo)→Prop:=Paired λ(p:κ × V) (q:κ × Lo)=>p.1=q.1∧RelV p.2 q.2
noncomputable def kV:Key→V
 | .inl i=>.int i
 | .inr x=>.str x
inductive HO where
 | lst (xs:List V)
 | tup (xs:List V)
 | dK (kvs:List (Key × V)) | dT (kvs:List (List Key × V))
 | set (S:Int→Bool) (n:Nat)
 | ins (C dx:Addr) (fs:List (Str × V))
 | own (x:Addr)
 | xd (fs:List (Str × V))
 | met (f x:Addr)
 | rng (lo hi:Int)
 | frz (o:Obj) (u:HO)
 | tbl (ps:Array Lo)
 | ext (φ:Heap→Prop)
noncomputable abbrev Hp:=Addr→Option HO
noncomputable def upd (H:Hp) (a:Addr) (o:HO):Hp:=λb=>if b=a then some o else H b
theorem zm {H:Hp} {a:Addr} {o:HO}:upd H a o a=some o:=by unfold upd;rw[if_pos rfl]
theorem zP {H:Hp} {a b:Addr} {o:HO} (h:b≠a):upd H a o b=H b:=by unfold upd;rw[if_neg h]
theorem yu {H:Hp} {a:Addr} {o u:HO}:upd (upd H a o) a u=upd H a u:=by
 funext b;unfold upd;split<;>rfl
theorem fM {H:Hp} {a b:Addr} {o u:HO} (h:H a=some o) (h':H b=some u) (d:o≠u):a≠b:=by
 intro e;subst e;rw[h] at h';exact d (L8 h')
theorem zh {H:Hp} {a b:Addr} {o:HO} (h:H a=some o) (h':H b=none):a≠b:=by
 intro e;subst e;rw[h] at h';cases h'
section
variable (P:LH) (w:Sz)
def qE (H:Hp) (h:Heap) (a:Addr):HO→Prop
 | .lst xs=>xs.length≤LI∧∃(its:List Lo) (n:Nat),Vals xs its∧h.get? a=some { cls:=.type "list",data:=.seq its.toArray n }
 | .tup xs=>xs.length≤LI∧∃its:List Lo,Vals xs its∧IsTup h a its.toArray
 | .dK kvs=>kvs.length≤LI∧(a == ND)=false∧∃vs,KV kvs vs∧h.DictOf (qS P w) a vs
 | .dT kvs=>kvs.length≤LI∧(a == ND)=false∧∃xs:List (List Key × Addr × Lo),
   Paired (λ(p:List Key × V) (q:List Key × Addr × Lo)=>p.1=q.1∧H q.2.1=some (.tup (p.1.map kV))∧RelV p.2 q.2.2) kvs xs∧
   ∃o es ep,h.get? a=some o∧o.ExactDict∧o.data=.dict es ep∧es.toList=xs.map (entryOfKey (OG (qS P w)))∧(xs.map (·.1)).Nodup
 | .set S n=>h.SetOf (intKind P w) a S n
 | .ins C dx fs=>H dx=some (.own a)∧fs.length≤1000∧dx≠a∧h.get? a=some (TR C dx)∧
   ∃mA,h.Ns1 dx mA∧(∀f,gv (fs.lookup f) (mA f))∧Ij mA (fs.map (·.1))
 | .own _=>∃o,h.get? a=some o
 | .xd fs=>∃mA,h.Ns1 a mA∧∀f,gv (fs.lookup f) (mA f)
 | .rng lo hi=>∃t u v,h.get? a=some { cls:=.type "range",data:=.fields #[.int lo t,.int hi u,.int 1 v] }
 | .frz o u=>h.get? a=some o∧qE H h a u
 | .tbl ps=>h.get? a=some { cls:=.none,data:=.fields ps }
 | .met f x=>h.get? a=some (OS (.ref f) (.ref x))
 | .ext φ=>φ h∧(∃o,h.get? a=some o)∧∀h1 h2:Heap,φ h1→(∀o,h1.get? a=some o→h2.get? a=some o)→φ h2
def fJ (H:Hp) (h:Heap):Prop:=∀a o,H a=some o→qE P w H h a o
end
section
variable {P:LH} {w:Sz} {H H':Hp} {h h':Heap} {a:Addr} {o:HO}
theorem qE.lt (x:qE P w H h a o):a < h.objs.size:=by
 cases o with
 | lst xs=>obtain⟨_,_,_,_,e⟩:=x;exact L0 e
 | tup xs=>obtain⟨_,_,_,p⟩:=x;exact p.lt
 | dK kvs=>obtain⟨_,_,_,_,o,_,_,e,_⟩:=x;exact L0 e
 | dT kvs=>obtain⟨_,_,_,_,o,_,_,e,_⟩:=x;exact L0 e
 | set S n=>obtain⟨o,_,_,_,e,_⟩:=x;exact L0 e
 | ins C dx fs=>obtain⟨_,_,_,e,_⟩:=x;exact L0 e
 | own y=>obtain⟨_,e⟩:=x;exact L0 e
 | xd fs=>obtain⟨_,⟨_,_,_,e,_⟩,_⟩:=x;exact L0 e
 | rng lo hi=>obtain⟨_,_,_,e⟩:=x;exact L0 e
 | frz ob u=>obtain⟨e,_⟩:=x;exact L0 e
 | tbl ps=>exact L0 (show h.get? a=some _ from x)
 | met f y=>exact L0 (show h.get? a=some _ from x)
 | ext φ=>obtain⟨_,⟨_,e⟩,_⟩:=x;exact L0 e
theorem Paired.WO {α β:Type} {F G:α→β→Prop}:∀{l₁:List α} {l₂:List β},Paired F l₁ l₂→(∀a b,F a b→G a b)→Paired G l₁ l₂
 | _,_,.nil,_=>.nil
 | _,_,.cons r t,f=>.cons (f _ _ r) (Paired.WO t f)
theorem Paired.imp' {α β:Type} {F G:α→β→Prop} (f:∀a b,F a b→G a b) {l₁:List α} {l₂:List β} (r:Paired F l₁ l₂):Paired G l₁ l₂:=Paired.WO r f
theorem qE.ZW (x:qE P w H h a o) (k:∀b u,(b=a∨H b=some (.own a))→h.get? b=some u→h'.get? b=some u)
  (ho:∀b,H b=some (.own a)→H' b=some (.own a)) (ht:∀b xs,H b=some (.tup xs)→H' b=some (.tup xs)):qE P w H' h' a o:=by
 induction o with
 | lst xs=>obtain⟨z,its,n,r,e⟩:=x;exact⟨z,its,n,r,k _ _ (.inl rfl) e⟩
 | tup xs=>obtain⟨z,its,r,ob,e,c⟩:=x;exact⟨z,its,r,ob,k _ _ (.inl rfl) e,c⟩
 | dK kvs=>obtain⟨z,y,vs,r,ob,es,ep,e,c⟩:=x;exact⟨z,y,vs,r,ob,es,ep,k _ _ (.inl rfl) e,c⟩
 | dT kvs=>
  obtain⟨z,y,xs,r,ob,es,ep,e,c⟩:=x
  exact⟨z,y,xs,Paired.WO r λp q z=>⟨z.1,ht _ _ z.2.1,z.2.2⟩,ob,es,ep,k _ _ (.inl rfl) e,c⟩
 | set S n=>obtain⟨ob,es,ep,t,e,c⟩:=x;exact⟨ob,es,ep,t,k _ _ (.inl rfl) e,c⟩
 | ins C dx fs=>
  obtain⟨d,z,ne,e,mA,⟨od,es,ep,e2,c⟩,r⟩:=x
  exact⟨ho _ d,z,ne,k _ _ (.inl rfl) e,mA,⟨od,es,ep,k _ _ (.inr d) e2,c⟩,r⟩
 | own y=>obtain⟨ob,e⟩:=x;exact⟨ob,k _ _ (.inl rfl) e⟩
 | xd fs=>obtain⟨mA,⟨od,es,ep,e,c⟩,r⟩:=x;exact⟨mA,⟨od,es,ep,k _ _ (.inl rfl) e,c⟩,r⟩
 | rng lo hi=>obtain⟨t,u,v,e⟩:=x;exact⟨t,u,v,k _ _ (.inl rfl) e⟩
 | frz ob u ih=>obtain⟨e,q⟩:=x;exact⟨k _ _ (.inl rfl) e,ih q⟩
 | tbl ps=>
  have e:h.get? a=some { cls:=.none,data:=.fields ps }:=x
  show h'.get? a=some { cls:=.none,data:=.fields ps }
  exact k a _ (.inl rfl) e
 | met f y=>
  have e:h.get? a=some (OS (.ref f) (.ref y)):=x
  show h'.get? a=some (OS (.ref f) (.ref y))
  exact k a _ (.inl rfl) e
 | ext φ=>obtain⟨p,⟨o,e⟩,st⟩:=x;exact⟨st _ _ p λo q=>k _ _ (.inl rfl) q,⟨o,k _ _ (.inl rfl) e⟩,st⟩
theorem fJ.lt (x:fJ P w H h) (e:H a=some o):a < h.objs.size:=(x a o e).lt
theorem fJ.fresh (x:fJ P w H h) (e:h.objs.size≤a):H a=none:=by
 cases q:H a with
 | none=>rfl
 | some u=>exact absurd (Sl (x.lt q) e) (T3 _)
theorem fJ.kept (x:fJ P w H h) (k:∀b u,h.get? b=some u→h'.get? b=some u):fJ P w H h':=λa o e=>
 (x a o e).ZW (λb u _ q=>k b u q) (λ_ q=>q) λ_ _ q=>q
theorem fJ.laid (x:fJ P w H h) (k:∀b u,h.get? b=some u→h'.get? b=some u) (hp:h.objs.size≤a) (new:qE P w (upd H a o) h' a o):fJ P w (upd H a o) h':=λb u e=>by
 have hn:=x.fresh hp
 by_cases hb:b=a
 ·subst hb;rw[zm] at e;cases e;exact new
 ·rw[zP hb] at e
  exact(x b u e).ZW (λc v _ q=>k c v q) (λc q=>by rw[zP (zh q hn)];exact q) λc xs q=>by rw[zP (zh q hn)];exact q
end
def Rd (H:Hp) (a:Addr) (u:HO):Prop:=H a=some u∨∃o,H a=some (.frz o u)
theorem Rd.ok {P:LH} {w:Sz} {H:Hp} {h:Heap} {a:Addr} {u:HO} (r:Rd H a u) (x:fJ P w H h):qE P w H h a u:=by
 rcases r with r | ⟨o,r⟩
 ·exact x a u r
 ·obtain⟨_,q⟩:=x a _ r
  exact q
def Mt:Option HO→Prop
 | some (.lst _)=>True
 | some (.dK _)=>True
 | some (.dT _)=>True
 | some (.set _ _)=>True
 | some (.ins _ _ _)=>True
 | some (.ext _)=>True
 | _=>False
section
variable {P:LH} {w:Sz} {H:Hp} {h h':Heap} {x e:Addr} {o':HO}
theorem fJ.write (ok:fJ P w H h) (mu:Mt (H x)) (he:e=x∨H e=some (.own x)) (k:∀b u,b≠e→h.get? b=some u→h'.get? b=some u) (heo:∃u,h'.get? e=some u)
  (new:qE P w (upd H x o') h' x o'):fJ P w (upd H x o') h':=λb u q=>by
 have nown:∀c y,H c=some (.own y)→c≠x:=λc y r z=>by subst z;rw[r] at mu;exact mu
 have ntup:∀c xs,H c=some (.tup xs)→c≠x:=λc xs r z=>by subst z;rw[r] at mu;exact mu
 by_cases hb:b=x
 ·subst hb;rw[zm] at q;cases q;exact new
 ·rw[zP hb] at q
  by_cases hbe:b=e
  ·have q':H b=some (.own x):=by
    rcases he with z | z
    ·exact absurd (hbe.trans z) hb
    ·rw[hbe];exact z
   rw[q] at q';cases q'
   obtain⟨v,hv⟩:=heo
   exact⟨v,by rw[hbe];exact hv⟩
  ·refine(ok b u q).ZW (λc v hc r=>k c v ?_ r) (λc r=>by rw[zP (nown c b r)];exact r) λc xs r=>by rw[zP (ntup c xs r)];exact r
   rcases hc with rfl | hc
   ·exact hbe
   ·rintro rfl
    rcases he with z | z
    ·exact nown c b hc z
    ·rw[hc] at z;cases z;exact hb rfl
end
structure Un (fs ex:List Addr) (H H':Hp) (h h':Heap):Prop where
 keep:∀b o,h.get? b=some o→H b=none→b∉fs→b∉ex→h'.get? b=some o
 slot:∀b o,h.get? b=some o→H b=none→b∈fs→b∉ex→∃sl,h'.get? b=some { o with slots:=sl }
 free:∀b o,h.get? b=some o→H b=none→b∉ex→H' b=none
 there:∀b o,h.get? b=some o→b∉ex→∃o',h'.get? b=some o'
 iW:∀b xs,H b=some (.tup xs)→H' b=some (.tup xs)
 rE:∀b o u,H b=some (.frz o u)→H' b=some (.frz o u)
 iV:∀b ps,H b=some (.tbl ps)→∃more,H' b=some (.tbl (ps ++ more))
section
variable {fs fs' ex ex':List Addr} {H H1 H2:Hp} {h h1 h2 h':Heap} {a x e:Addr} {o:HO}
theorem Un.any (u:Un fs ex H H1 h h1) {b:Addr} {ob:Obj} (q:h.get? b=some ob) (n:H b=none) (hx:b∉ex):∃sl,h1.get? b=some { ob with slots:=sl }:=by
 by_cases hb:b∈fs
 ·exact u.slot b ob q n hb hx
 ·exact⟨ob.slots,u.keep b ob q n hb hx⟩
theorem Un.kept (k:∀b u,h.get? b=some u→h'.get? b=some u):Un fs ex H H h h':=
 ⟨λb ob q _ _ _=>k b ob q,λb ob q _ _ _=>⟨ob.slots,k b ob q⟩,λ_ _ _ n _=>n,λb ob q _=>⟨ob,k b ob q⟩,λ_ _ q=>q,λ_ _ _ q=>q,λ_ ps q=>⟨#[],by rw[q];simp⟩⟩
theorem Un.refl:Un fs ex H H h h:=Un.kept λ_ _ q=>q
theorem Un.laid (k:∀b u,h.get? b=some u→h'.get? b=some u) (hp:h.objs.size≤a) (hn:H a=none):Un fs ex H (upd H a o) h h' where
 keep:=λb u q _ _ _=>k b u q
 slot:=λb u q _ _ _=>⟨u.slots,k b u q⟩
 free:=λb u q n _=>by rw[zP (SJ (Sl (L0 q) hp))];exact n
 there:=λb u q _=>⟨u,k b u q⟩
 iW:=λb xs q=>by rw[zP (zh q hn)];exact q
 rE:=λb u xs q=>by rw[zP (zh q hn)];exact q
 iV:=λb ps q=>⟨#[],by rw[zP (zh q hn),q];simp⟩
theorem Un.write (mu:Mt (H x)) (he:e=x∨H e=some (.own x)) (k:∀b u,b≠e→h.get? b=some u→h'.get? b=some u) (heo:∃u,h'.get? e=some u):Un fs ex H (upd H x o) h h':=by
 have hx:∀b,H b=none→b≠x:=λb n z=>by subst z;rw[n] at mu;exact mu
 have hb:∀b,H b=none→b≠e:=λb n z=>by
  subst z
  rcases he with r | r
  ·exact hx b n r
  ·rw[n] at r;cases r
 have hm:∀b u,H b=some u→¬Mt (some u)→b≠x:=λb u q nm z=>by subst z;rw[q] at mu;exact nm mu
 refine⟨λb u q n _ _=>k b u (hb b n) q,λb u q n _ _=>⟨u.slots,k b u (hb b n) q⟩,λb u q n _=>by rw[zP (hx b n)];exact n,λb u q _=>?_,
  λb xs q=>by rw[zP (hm b _ q λz=>z)];exact q,λb u xs q=>by rw[zP (hm b _ q λz=>z)];exact q,λb ps q=>⟨#[],by rw[zP (hm b _ q λz=>z),q];simp⟩⟩
 by_cases hbe:b=e
 ·subst hbe;exact heo
 ·exact⟨u,k b u hbe q⟩
end
noncomputable def Cg (h:Heap) (H:Hp):List Addr:=(TL h.objs.size).filter λa=>(H a).isSome
noncomputable def aW (h:Heap) (H:Hp):Heap:=PySem.W.hideAll h (Cg h H)
theorem KS (h:Heap) (H:Hp):(aW h H).objs.size=h.objs.size:=PySem.W.hideAll_size _ _
theorem WJ {h:Heap} {H:Hp} {b:Addr} {o:Obj} (e:h.get? b=some o) (n:H b=none):(aW h H).get? b=some o:=
 PySem.W.hideAll_get _ e λhm=>by
  have q:(H b).isSome=true:=(N2.mp hm).2
  rw[n] at q;simp at q
theorem Hh {h:Heap} {H:Hp} {b:Addr} {o:Obj} (e:(aW h H).get? b=some o):h.get? b=some o∧H b=none:=by
 have e':h.get? b=some o:=PySem.W.of_hideAll (Cg h H) e
 refine⟨e',?_⟩
 cases q:H b with
 | none=>rfl
 | some x=>
  have hm:b∈Cg h H:=N2.mpr ⟨N8.mpr (L0 e'),by simp [q]⟩
  have z:(aW h H).get? b=none:=PySem.W.hideAll_none (Cg h H) hm
  rw[z] at e;cases e
noncomputable def Gi (g h:Heap) (L:Addr):List (Addr × Obj):=(TL h.objs.size).filterMap λa=>if a=L∨(g.get? a).isSome=true then none else (h.get? a).map λo=>(a,o)
noncomputable def rest (g h:Heap) (L d:Addr):List (Addr × Obj):=(Gi g h L).filter λp=>decide (p.1≠d)
end L2
namespace L2
open PySem PySem.Spec PyProof.Rows
structure Mod (K:Ls) (mg:Str→Option Lo) (base:Heap):Prop where
 PQ:K.In base
 glob:base.Ns TM mg
 blt:∃mb,base.Ns builtinsNs mb∧∀x:Str,x≠"__name__"→mb x=Nk x
 nolimit:base.NoLimit
structure Cx where
 prog:LH
 w:Sz
 K:Ls
 mg:Str→Option Lo
 base:Heap
 A:SO
 N:List Str
 s₀:LZ
 H₀:Hp
 env:Env
 outer:List Env
 stack:List Env
 ex:List Addr
 fn:Str→Bool
 calm:Bool
 pn:List (Addr × Obj)
 xe:Lo→LZ→Prop
noncomputable def Jt (l:List Env):List Addr:=l.filterMap (·.frame)
noncomputable abbrev Cx.fs (X:Cx):List Addr:=Jt X.outer
def Cs (sc:Scope) (x:Str):Prop:=sc.names.lookup x=some .local∨sc.names.lookup x=some .cell∨sc.names.lookup x=some .free
def Loc (sc:Scope) (x:Str):Prop:=sc.names.lookup x=some .local∨sc.names.lookup x=some .cell
def Look (env:Env) (h:Heap) (m:Str→Option Lo) (x:Str) (u:Lo):Prop:=
 (env.kindOf x=some .local∧m x=some u)∨((env.kindOf x=some .cell∨env.kindOf x=some .free)∧∃c,env.cells.lookup x=some c∧h.IsCell c (some u))
structure Cx.Ok (X:Cx):Prop where
 mod:Mod X.K X.mg X.base
 kind:X.env.scope.kind=.function
 glob:X.env.globals=TM
 blt:X.env.builtins=builtinsNs
 above:X.s₀.heap.objs.size≤X.env.locals
 inj:∀x y c,X.env.cells.lookup x=some c→X.env.cells.lookup y=some c→x=y
 has:∀x,(X.env.kindOf x=some .cell∨X.env.kindOf x=some .free)→∃c,X.env.cells.lookup x=some c
 MY:∀x c,X.fn x=true→X.env.cells.lookup x=some c→X.s₀.heap.objs.size≤c
 hd:X.calm=true→X.A.handled=none
 frames:X.A.frames=some X.stack
 Ck:X.stack=X.outer∨(X.stack=X.env :: X.outer∧X.env.frame=some X.env.locals)
 Mw:∀b∈X.ex,b≠X.env.locals∧∀x c,X.env.cells.lookup x=some c→c≠b
 bs:∀b o,X.base.get? b=some o→X.s₀.heap.get? b=some o∧X.H₀ b=none
 VS:X.base.objs.size≤X.s₀.heap.objs.size
 Vw:∀b o,X.base.get? b=some o→b∉X.ex
 Jm:∀b∈X.ex,b∉X.fs
 ui:X.s₀.heap.FunFrames X.base X.outer
 Bx:∀b∈X.fs,X.H₀ b=none
structure Inv (X:Cx) (pins:List (Addr × Obj)) (σ:List (Option V)) (H:Hp) (s:LZ):Prop where
 ok:X.Ok
 os:s.os=X.s₀.os
 bare:AllBare s.gens
 base:Un X.fs X.ex X.H₀ H X.s₀.heap s.heap
 loc:∃m,s.heap.Ns X.env.locals m∧∀(i:Nat) (x:Str) (v:V),X.N[i]?=some x→σ[i]?=some (some v)→Cs X.env.scope x→∃u,RelV v u∧Look X.env s.heap m x u
 cell:∀x c,X.env.cells.lookup x=some c→∃v,s.heap.IsCell c v
 free:H X.env.locals=none
 yk:∀x c,X.env.cells.lookup x=some c→H c=none
 pin:∀p∈X.pn ++ pins,s.heap.get? p.1=some p.2∧H p.1=none∧p.1≠X.env.locals∧p.1∉X.fs∧∀v,p.2.data≠.cell v
 qx:fJ X.prog X.w H s.heap
 len:σ.length=X.N.length
section
variable {X:Cx} {pins:List (Addr × Obj)} {σ:List (Option V)} {H H':Hp} {s:LZ} {h':Heap}
theorem Cx.Ok.CU (ok:X.Ok) {b:Addr} {o:Obj} (e:X.base.get? b=some o):b∉X.fs:=λhb=>by
 have:=(ok.ui.mem hb).1
 rw[e] at this;cases this
theorem Inv.bs (I:Inv X pins σ H s):∀b o,X.base.get? b=some o→s.heap.get? b=some o∧H b=none:=λb o e=>
 ⟨I.base.keep b o (I.ok.bs b o e).1 (I.ok.bs b o e).2 (I.ok.CU e) (I.ok.Vw b o e),I.base.free b o (I.ok.bs b o e).1 (I.ok.bs b o e).2 (I.ok.Vw b o e)⟩
theorem Inv.bk (I:Inv X pins σ H s):∀b o,X.base.get? b=some o→s.heap.get? b=some o:=λb o e=>(I.bs b o e).1
theorem Inv.mod (I:Inv X pins σ H s):Mod X.K X.mg X.base:=I.ok.mod
theorem Inv.di (I:Inv X pins σ H s):X.K.In s.heap:=I.ok.mod.PQ.keeps I.bk
theorem Inv.fr (I:Inv X pins σ H s):∃m,Fr X.base X.env.locals s.heap m:=
 let ⟨m,hn,_⟩:=I.loc
 ⟨m,hn,I.bk,S1 I.ok.VS I.ok.above⟩
theorem Inv.lt (I:Inv X pins σ H s):X.env.locals < s.heap.objs.size:=let ⟨_,hn,_⟩:=I.loc;hn.lt
theorem Inv.sz (I:Inv X pins σ H s):X.s₀.heap.objs.size≤s.heap.objs.size:=S1 I.ok.above (Ik I.lt)
theorem Inv.CL (I:Inv X pins σ H s) {a:Addr} (h:s.heap.objs.size≤a):a∉X.fs:=λhb=>by
 obtain⟨_,o,ho,_⟩:=I.ok.ui.mem hb
 exact absurd (Sl (L0 ho) (S1 I.sz h)) (T3 _)
theorem Inv.Pj (I:Inv X pins σ H s):∀x c,X.env.cells.lookup x=some c→c≠X.env.locals:=λx c e z=>by
 obtain⟨v,o,ho,hd⟩:=I.cell x c e
 obtain⟨m,⟨o',es,ep,ho',hd',_⟩,_⟩:=I.loc
 rw[z,ho'] at ho;cases ho;rw[hd'] at hd;cases hd
theorem Inv.ui (I:Inv X pins σ H s):s.heap.FunFrames X.base X.outer:=by
 have all:∀(l:List Env),(∀b∈Jt l,b∈X.fs)→X.s₀.heap.FunFrames X.base l→s.heap.FunFrames X.base l:=by
  intro l
  induction l with
  | nil=>intro _ _;trivial
  | cons env r ih=>
   intro hs hl
   obtain⟨hk,⟨L,o,hf,hn,ho,hd⟩,hr⟩:=hl
   have hL:L∈X.fs:=hs L (by unfold Jt;rw[OZ,hf];exact Sw)
   obtain⟨sl,e⟩:=I.base.slot L o ho (I.ok.Bx L hL) hL λz=>I.ok.Jm L z hL
   exact⟨hk,⟨L,_,hf,hn,e,hd⟩,ih (λb hb=>hs b (by unfold Jt;rw[OZ,hf];exact LK _ hb)) hr⟩
 exact all X.outer (λ_ hb=>hb) I.ok.ui
theorem Inv.stack (I:Inv X pins σ H s):s.heap.FunFrames X.base X.stack:=by
 rcases I.ok.Ck with e | ⟨e,hf⟩
 ·rw[e];exact I.ui
 ·rw[e]
  obtain⟨m,hn,_⟩:=I.loc
  refine .cons (by rw[I.ok.kind];decide) hf hn ?_ I.ui
  exact Heap.get?_none_of_le (S1 I.ok.VS I.ok.above)
theorem Inv.ZG (I:Inv X pins σ H s):∀b∈Jt X.stack,b∈X.env.locals :: X.fs:=λb hb=>by
 rcases I.ok.Ck with e | ⟨e,hf⟩
 ·rw[e] at hb;exact LK _ hb
 ·rw[e] at hb
  unfold Jt at hb
  rw[OZ,hf] at hb
  exact hb
theorem Inv.ZY (I:Inv X pins σ H s):∀b∈Jt X.stack,H b=none:=λb hb=>by
 rcases La.mp (I.ZG b hb) with e | hb
 ·rw[e];exact I.free
 ·obtain⟨_,o,ho,_⟩:=I.ok.ui.mem hb
  exact I.base.free b o ho (I.ok.Bx b hb) λz=>I.ok.Jm b z hb
theorem Inv.step {g':Array GenState} {t':Nat} {d':Drawn} {ch:List Addr} (I:Inv X pins σ H s)
  (hch:∀b∈ch,(b∈X.ex∨X.s₀.heap.objs.size≤b)∧b≠X.env.locals∧(∀x c,X.env.cells.lookup x=some c→c≠b)∧∀p∈X.pn ++ pins,p.1≠b)
  (keep:∀b o,b≠X.env.locals→b∉X.fs→b∉ch→s.heap.get? b=some o→H b=none→h'.get? b=some o)
  (slot:∀b o,b≠X.env.locals→b∈X.fs→b∉ch→s.heap.get? b=some o→H b=none→∃sl,h'.get? b=some { o with slots:=sl }) (free:∀b o,b∉ch→s.heap.get? b=some o→H b=none→H' b=none)
  (there:∀b o,b∉ch→s.heap.get? b=some o→∃o',h'.get? b=some o')
  (iW:∀b xs,H b=some (.tup xs)→H' b=some (.tup xs)) (rE:∀b o u,H b=some (.frz o u)→H' b=some (.frz o u)) (iV:∀b ps,H b=some (.tbl ps)→∃more,H' b=some (.tbl (ps ++ more)))
  (ns:∀m,s.heap.Ns X.env.locals m→h'.Ns X.env.locals m) (qx:fJ X.prog X.w H' h') (hg:AllBare g') :
  Inv X pins σ H' { s with heap:=h',gens:=g',drawn:=d',toks:=t' }:=by
 have neL:∀b o,X.s₀.heap.get? b=some o→b≠X.env.locals:=λb o e=>SJ (Sl (L0 e) I.ok.above)
 have neC:∀b o,X.s₀.heap.get? b=some o→b∉X.ex→b∉ch:=λb o e hx hb=>by
  rcases(hch b hb).1 with z | z
  ·exact hx z
  ·exact absurd (Sl (L0 e) z) (T3 _)
 have cellK:∀x c,X.env.cells.lookup x=some c→∀v,s.heap.IsCell c v→h'.IsCell c v:=λx c e v ⟨o,ho,hd⟩=>by
  have nch:c∉ch:=λz=>(hch c z).2.2.1 x c e rfl
  by_cases hc:c∈X.fs
  ·obtain⟨sl,q⟩:=slot c o (I.Pj x c e) hc nch ho (I.yk x c e)
   exact⟨_,q,hd⟩
  ·exact⟨o,keep c o (I.Pj x c e) hc nch ho (I.yk x c e),hd⟩
 refine⟨I.ok,I.os,hg,⟨λb o e n hb hx=>?_,λb o e n hb hx=>?_,λb o e n hx=>?_,λb o e hx=>?_,λb xs e=>iW b xs (I.base.iW b xs e),λb o xs e=>rE b o xs (I.base.rE b o xs e),λb ps e=>?_⟩,?_,λx c e=>?_,?_,λx c e=>?_,λp hp=>?_,qx,I.len⟩
 ·exact keep b o (neL b o e) hb (neC b o e hx) (I.base.keep b o e n hb hx) (I.base.free b o e n hx)
 ·obtain⟨sl,e1⟩:=I.base.slot b o e n hb hx
  obtain⟨sl',e2⟩:=slot b _ (neL b o e) hb (neC b o e hx) e1 (I.base.free b o e n hx)
  exact⟨sl',e2⟩
 ·obtain⟨o',e1⟩:=I.base.there b o e hx
  exact free b o' (neC b o e hx) e1 (I.base.free b o e n hx)
 ·obtain⟨o',e1⟩:=I.base.there b o e hx
  exact there b o' (neC b o e hx) e1
 ·obtain⟨m1,e1⟩:=I.base.iV b ps e
  obtain⟨m2,e2⟩:=iV b _ e1
  exact⟨m1 ++ m2,by rw[e2,Array.append_assoc]⟩
 ·obtain⟨m,hn,hl⟩:=I.loc
  refine⟨m,ns m hn,λi x v e1 e2 e3=>?_⟩
  obtain⟨u,r,l⟩:=hl i x v e1 e2 e3
  refine⟨u,r,?_⟩
  rcases l with l | ⟨k,c,e,z⟩
  ·exact .inl l
  ·exact .inr ⟨k,c,e,cellK x c e _ z⟩
 ·obtain⟨v,z⟩:=I.cell x c e
  exact⟨v,cellK x c e v z⟩
 ·obtain⟨m,⟨o,_,_,ho,_⟩,_⟩:=I.loc
  exact free _ o (λz=>(hch _ z).2.1 rfl) ho I.free
 ·obtain⟨v,o,ho,hd⟩:=I.cell x c e
  exact free c o (λz=>(hch c z).2.2.1 x c e rfl) ho (I.yk x c e)
 ·obtain⟨e,n,ne,nf,d⟩:=I.pin p hp
  have nch:p.1∉ch:=λz=>(hch p.1 z).2.2.2 p hp rfl
  exact⟨keep p.1 p.2 ne nf nch e n,free p.1 p.2 nch e n,ne,nf,d⟩
theorem Inv.un {t':Nat} (I:Inv X pins σ H s) (u:Un X.fs [] H H' s.heap h') (qx:fJ X.prog X.w H' h'):Inv X pins σ H' { s with heap:=h',toks:=t' }:=by
 obtain⟨m,⟨o,es,ep,ho,r⟩,_⟩:=id I.loc
 obtain⟨sl,hL⟩:=u.any ho I.free (by simp)
 exact I.step (g':=s.gens) (d':=s.drawn) (ch:=[]) (λ_ z=>nomatch z) (λb o _ hb _ e n=>u.keep b o e n hb (by simp)) (λb o _ hb _ e n=>u.slot b o e n hb (by simp)) (λb o _ e n=>u.free b o e n (by simp)) (λb o _ e=>u.there b o e (by simp)) u.iW u.rE u.iV (λm' hm=>by
  obtain⟨o',es',ep',ho',r'⟩:=hm
  rw[ho] at ho';cases ho'
  exact⟨_,es',ep',hL,r'⟩) qx I.bare
theorem Inv.call {g':Array GenState} {t':Nat} {d':Drawn} {ch:List Addr} (I:Inv X pins σ H s) (u:Un (Jt X.stack) ch H H' s.heap h') (qx:fJ X.prog X.w H' h') (hg:AllBare g')
  (hch:∀b∈ch,(b∈X.ex∨X.s₀.heap.objs.size≤b)∧b≠X.env.locals∧(∀x c,X.env.cells.lookup x=some c→c≠b)∧∀p∈X.pn ++ pins,p.1≠b) :
  Inv X pins σ H' { s with heap:=h',gens:=g',drawn:=d',toks:=t' }:=by
 obtain⟨m,⟨o,es,ep,ho,r⟩,_⟩:=id I.loc
 obtain⟨sl,hL⟩:=u.any ho I.free λz=>(hch _ z).2.1 rfl
 exact I.step (ch:=ch) hch (λb o hL hb hc e n=>u.keep b o e n (λz=>(La.mp (I.ZG b z)).elim hL hb) hc) (λb o _ _ hc e n=>u.any e n hc) (λb o hc e n=>u.free b o e n hc) (λb o hc e=>u.there b o e hc) u.iW u.rE u.iV (λm' hm=>by
  obtain⟨o',es',ep',ho',r'⟩:=hm
  rw[ho] at ho';cases ho'
  exact⟨_,es',ep',hL,r'⟩) qx hg
theorem Inv.turned {t':Nat} {it:Addr} (I:Inv X pins σ H s) (k:∀b o,b≠it→s.heap.get? b=some o→h'.get? b=some o) (hn:H it=none) (hL:it≠X.env.locals)
  (h1:it∈X.ex∨X.s₀.heap.objs.size≤it) (h2:∀x c,X.env.cells.lookup x=some c→c≠it) (h3:∀p∈X.pn ++ pins,p.1≠it):Inv X pins σ H { s with heap:=h',toks:=t' }:=by
 have nit:∀b u,H b=some u→b≠it:=λb u e z=>by rw[z,hn] at e;cases e
 refine I.step (g':=s.gens) (d':=s.drawn) (ch:=[it]) (λb hb=>?_) (λb o _ _ hc e _=>k b o (λz=>hc (by simp [z])) e) (λb o _ _ hc e _=>⟨o.slots,k b o (λz=>hc (by simp [z])) e⟩) (λ_ _ _ _ n=>n)
  (λb o hc e=>⟨o,k b o (λz=>hc (by simp [z])) e⟩) (λ_ _ e=>e) (λ_ _ _ e=>e) (λb ps e=>⟨#[],by rw[e];simp⟩) (λm hm=>?_) (λb u e=>?_) I.bare
 ·have e:b=it:=by simpa using hb
  subst e
  exact⟨h1,hL,h2,h3⟩
 ·obtain⟨o,es,ep,ho,r⟩:=hm
  exact⟨o,es,ep,k _ o (SF hL) ho,r⟩
 ·refine(I.qx b u e).ZW (λc v hc q=>k c v ?_ q) (λ_ q=>q) λ_ _ q=>q
  rcases hc with z | z
  ·rw[z];exact nit b u e
  ·exact nit c _ z
theorem Inv.tok (I:Inv X pins σ H s) (t:Nat):Inv X pins σ H { s with toks:=t }:=I.un (h':=s.heap) (t':=t) Un.refl I.qx
theorem Inv.kept {t':Nat} (I:Inv X pins σ H s) (k:∀b u,s.heap.get? b=some u→h'.get? b=some u):Inv X pins σ H { s with heap:=h',toks:=t' }:=I.un (Un.kept k) (I.qx.kept k)
theorem Inv.laid {a:Addr} {o:HO} {t':Nat} (I:Inv X pins σ H s) (k:∀b u,s.heap.get? b=some u→h'.get? b=some u) (hp:s.heap.objs.size≤a) (new:qE X.prog X.w (upd H a o) h' a o) :
  Inv X pins σ (upd H a o) { s with heap:=h',toks:=t' }:=I.un (Un.laid k hp (I.qx.fresh hp)) (I.qx.laid k hp new)
theorem Inv.write {x e:Addr} {o:HO} {t':Nat} (I:Inv X pins σ H s) (mu:Mt (H x)) (he:e=x∨H e=some (.own x)) (k:∀b u,b≠e→s.heap.get? b=some u→h'.get? b=some u) (heo:∃u,h'.get? e=some u)
  (new:qE X.prog X.w (upd H x o) h' x o):Inv X pins σ (upd H x o) { s with heap:=h',toks:=t' }:=I.un (Un.write mu he k heo) (I.qx.write mu he k heo new)
theorem Inv.weak {σ':List (Option V)} (I:Inv X pins σ H s) (hl:σ'.length=σ.length) (w:∀(i:Nat) v,σ'[i]?=some (some v)→σ[i]?=some (some v)):Inv X pins σ' H s:=
 ⟨I.ok,I.os,I.bare,I.base,let ⟨m,hn,hl'⟩:=I.loc;⟨m,hn,λi x v e1 e2 e3=>hl' i x v e1 (w i v e2) e3⟩,I.cell,I.free,I.yk,I.pin,I.qx,hl.trans I.len⟩
theorem Inv.p9 {pins':List (Addr × Obj)} (I:Inv X pins σ H s) (h:∀p∈pins',s.heap.get? p.1=some p.2∧H p.1=none∧p.1≠X.env.locals∧p.1∉X.fs∧∀v,p.2.data≠.cell v):Inv X pins' σ H s:=
 ⟨I.ok,I.os,I.bare,I.base,I.loc,I.cell,I.free,I.yk,λp hp=>(LU.mp hp).elim (λz=>I.pin p (Ss _ z)) (h p),I.qx,I.len⟩
theorem nu {N:List Str} (hN:N.Nodup) {i j:Nat} {x:Str} (a:N[i]?=some x) (b:N[j]?=some x):i=j:=by
 obtain⟨h1,e1⟩:=LN.mp a
 obtain⟨h2,e2⟩:=LN.mp b
 exact(List.getElem_inj hN).mp (e1.trans e2.symm)
theorem VB {M:Model} {A:SO} {E:Lo→LZ→Prop} {i:Nat} {x:Str} {v:V} {u:Lo} {Q:Unit→LZ→Prop} (I:Inv X pins σ H s) (hN:X.N.Nodup) (hi:X.N[i]?=some x) (hx:Loc X.env.scope x) (r:RelV v u)
  (h:∀s',Inv X pins (σ.set i (some v)) H s'→(∃a,OV a s.heap s'.heap∧(a=X.env.locals∨X.env.cells.lookup x=some a))→Q () s') (hf:X.fn x=true∨X.env.scope.names.lookup x=some .local:=by first | exact .inl rfl | exact .inr rfl | assumption):Sv M A (storeName X.env x u) Q E s:=by
 obtain⟨m,hn,hl⟩:=id I.loc
 have hcls:(X.env.scope.kind == .class || (X.env.scope.kind == .module && X.env.locals != X.env.globals))=false:=by rw[I.ok.kind];rfl
 have hiσ:i < σ.length:=by rw[I.len];exact(LN.mp hi).1
 have Pj:=I.Pj
 have tracked:∀{a:Addr} {h':Heap},(∃o,s.heap.get? a=some o∧H a=none)→OV a s.heap h'→fJ X.prog X.w H h':=λ{a h'} ha hs b ob e=>by
  obtain⟨_,_,hfree⟩:=ha
  refine(I.qx b ob e).ZW (λc w' hc q=>(hs.2 c ?_).trans q) (λ_ q=>q) λ_ _ q=>q
  rintro rfl
  rcases hc with rfl | hc
  ·rw[hfree] at e;cases e
  ·rw[hfree] at hc;cases hc
 rcases hx with hk | hk
 ·refine wpAny_storeName_local hk hn (λh' hn' hs=>?_) hcls
  obtain⟨oL,_,_,hoL,_⟩:=id hn
  refine h _ ⟨I.ok,I.os,I.bare,⟨λb o e n hb hx=>?_,λb o e n hb hx=>?_,I.base.free,λb o e hx=>?_,I.base.iW,I.base.rE,I.base.iV⟩,⟨_,hn',λj y v' e1 e2 e3=>?_⟩,λy c e=>?_,I.free,I.yk,λp hp=>?_,tracked ⟨oL,hoL,I.free⟩ hs,by simpa using I.len⟩ ⟨_,hs,.inl rfl⟩
  ·exact(hs.2 b (SJ (Sl (L0 e) I.ok.above))).trans (I.base.keep b o e n hb hx)
  ·obtain⟨sl,e1⟩:=I.base.slot b o e n hb hx
   exact⟨sl,(hs.2 b (SJ (Sl (L0 e) I.ok.above))).trans e1⟩
  ·obtain⟨o',e1⟩:=I.base.there b o e hx
   exact⟨o',(hs.2 b (SJ (Sl (L0 e) I.ok.above))).trans e1⟩
  ·by_cases hj:j=i
   ·subst hj
    rw[hi] at e1;cases e1
    rw[Nl hiσ] at e2
    cases e2
    exact⟨u,r,.inl ⟨hk,by simp⟩⟩
   ·rw[Ou (SF hj)] at e2
    obtain⟨u',r',q⟩:=hl j y v' e1 e2 e3
    refine⟨u',r',?_⟩
    rcases q with ⟨k,e⟩ | ⟨k,c,e,z⟩
    ·refine .inl ⟨k,?_⟩
     have:y≠x:=λe=>hj (nu hN e1 (e▸hi))
     simp [this,e]
    ·exact .inr ⟨k,c,e,z.sameBut hs (Pj y c e)⟩
  ·obtain⟨w',z⟩:=I.cell y c e
   exact⟨w',z.sameBut hs (Pj y c e)⟩
  ·obtain⟨e,n,ne,nf,d⟩:=I.pin p hp
   exact⟨(hs.2 p.1 ne).trans e,n,ne,nf,d⟩
 ·have hfn:X.fn x=true:=by
   rcases hf with z | z
   ·exact z
   ·rw[z] at hk;cases hk
  obtain⟨c,hc⟩:=I.ok.has x (.inl hk)
  obtain⟨w',z⟩:=I.cell x c hc
  refine wpAny_storeName_cell I.ok.kind hk hc z (λh' hc' hs=>?_)
  obtain⟨oc,hoc,hocd⟩:=id z
  refine h { s with heap:=h' } ⟨I.ok,I.os,I.bare,⟨λb o e n hb hx=>?_,λb o e n hb hx=>?_,I.base.free,λb o e hx=>?_,I.base.iW,I.base.rE,I.base.iV⟩,⟨m,hn.sameBut hs (SF (Pj x c hc)),λj y v' e1 e2 e3=>?_⟩,λy c' e=>?_,I.free,I.yk,λp hp=>?_,tracked ⟨oc,hoc,I.yk x c hc⟩ hs,by simpa using I.len⟩ ⟨c,hs,.inr hc⟩
  ·exact(hs.2 b (SJ (Sl (L0 e) (I.ok.MY x c hfn hc)))).trans (I.base.keep b o e n hb hx)
  ·obtain⟨sl,e1⟩:=I.base.slot b o e n hb hx
   exact⟨sl,(hs.2 b (SJ (Sl (L0 e) (I.ok.MY x c hfn hc)))).trans e1⟩
  ·obtain⟨o',e1⟩:=I.base.there b o e hx
   exact⟨o',(hs.2 b (SJ (Sl (L0 e) (I.ok.MY x c hfn hc)))).trans e1⟩
  ·by_cases hj:j=i
   ·subst hj
    rw[hi] at e1;cases e1
    rw[Nl hiσ] at e2
    cases e2
    exact⟨u,r,.inr ⟨.inl hk,c,hc,hc'⟩⟩
   ·rw[Ou (SF hj)] at e2
    obtain⟨u',r',q⟩:=hl j y v' e1 e2 e3
    refine⟨u',r',?_⟩
    rcases q with q | ⟨k,c',e,z'⟩
    ·exact .inl q
    ·refine .inr ⟨k,c',e,z'.sameBut hs ?_⟩
     rintro rfl
     exact hj (nu hN e1 (I.ok.inj _ _ _ e hc▸hi))
  ·by_cases hcc:c'=c
   ·subst hcc;exact⟨_,hc'⟩
   ·obtain⟨w2,z2⟩:=I.cell y c' e
    exact⟨w2,z2.sameBut hs hcc⟩
  ·obtain⟨e,n,ne,nf,d⟩:=I.pin p hp
   refine⟨(hs.2 p.1 ?_).trans e,n,ne,nf,d⟩
   intro q
   rw[q,hoc] at e
   have q':oc=p.2:=L8 e
   exact d w' (by rw[←q'];exact hocd)
theorem cS {M:Model} {A:SO} {E:Lo→LZ→Prop} {i:Nat} {x:Str} {v:V} {u:Lo} {Q:Unit→LZ→Prop} (I:Inv X pins σ H s) (hN:X.N.Nodup) (hi:X.N[i]?=some x) (hx:Loc X.env.scope x) (r:RelV v u)
  (h:∀s',Inv X pins (σ.set i (some v)) H s'→Q () s') (hf:X.fn x=true∨X.env.scope.names.lookup x=some .local:=by first | exact .inl rfl | exact .inr rfl | assumption):Sv M A (storeName X.env x u) Q E s:=
 VB I hN hi hx r (λs' I' _=>h s' I') hf
theorem Inv.Bq {s':LZ} {ch:List Addr} (I:Inv X pins σ H s) (ho:s'.os=s.os) (u:Un (Jt X.stack) ch H H' s.heap s'.heap) (qx:fJ X.prog X.w H' s'.heap) (hg:AllBare s'.gens)
  (hch:∀b∈ch,(b∈X.ex∨X.s₀.heap.objs.size≤b)∧b≠X.env.locals∧(∀x c,X.env.cells.lookup x=some c→c≠b)∧∀p∈X.pn ++ pins,p.1≠b):Inv X pins σ H' s':=by
 obtain⟨h',g',d',t',o'⟩:=s'
 have e:o'=s.os:=ho
 subst e
 exact I.call (g':=g') (t':=t') (d':=d') u qx hg hch
end
noncomputable abbrev XK:=Lo→Option Addr→Hp→Prop
noncomputable abbrev St:=List (Option V)
noncomputable abbrev VK:=V→Hp→Prop
noncomputable abbrev TE:=St→Hp→VK→Prop
noncomputable abbrev TT:=St→Hp→(Bool→Hp→Prop)→Prop
noncomputable abbrev TA:=St→Hp→(List V→Hp→Prop)→Prop
structure Ends where
 nx:St→Hp→Prop
 rt:VK
 bk:St→Hp→Prop:=λ_ _=>False
 ct:St→Hp→Prop:=λ_ _=>False
noncomputable abbrev TS:=Ends→St→Hp→Prop
def EP (X:Cx) (pins:List (Addr × Obj)) (σ:St) (Q:VK) (u:Lo) (s':LZ):Prop:=∃v H',Inv X pins σ H' s'∧RelV v u∧Q v H'
def TP (X:Cx) (pins:List (Addr × Obj)) (σ:St) (Q:Bool→Hp→Prop) (b:Bool) (s':LZ):Prop:=∃H',Inv X pins σ H' s'∧Q b H'
def AP (X:Cx) (pins:List (Addr × Obj)) (σ:St) (Q:List V→Hp→Prop) (us:List Lo) (s':LZ):Prop:=∃vs H',Inv X pins σ H' s'∧Vals vs us∧Q vs H'
def SP (X:Cx) (pins:List (Addr × Obj)) (D:Ends) (f:Flow) (s':LZ):Prop:=
 match f with
 | .next=>∃σ' H',Inv X pins σ' H' s'∧D.nx σ' H'
 | .brk=>∃σ' H',Inv X pins σ' H' s'∧D.bk σ' H'
 | .cont=>∃σ' H',Inv X pins σ' H' s'∧D.ct σ' H'
 | .ret u=>∃v σ' H',Inv X pins σ' H' s'∧RelV v u∧D.rt v H'
def PE (X:Cx) (e:Expr) (t:TE):Prop:=
 ∀(pins:List (Addr × Obj)) (s:LZ) (σ:St) (H:Hp) (Q:VK),Inv X pins σ H s→t σ H Q→Sv (L9 X.prog X.w) X.A (eval e X.env) (EP X pins σ Q) X.xe s
def PT (X:Cx) (e:Expr) (t:TT):Prop:=
 ∀(pins:List (Addr × Obj)) (s:LZ) (σ:St) (H:Hp) (Q:Bool→Hp→Prop),Inv X pins σ H s→t σ H Q→Sv (L9 X.prog X.w) X.A (isTrue e X.env (eval e X.env)) (TP X pins σ Q) X.xe s
def PW (X:Cx) (e:Expr) (t:TT):Prop:=
 ∀(whole:Sem Lo) (pins:List (Addr × Obj)) (s:LZ) (σ:St) (H:Hp) (Q:Bool→Hp→Prop),Inv X pins σ H s→t σ H Q→Sv (L9 X.prog X.w) X.A (isTrue e X.env whole) (TP X pins σ Q) X.xe s
theorem PW.pt {X:Cx} {e:Expr} {t:TT} (h:PW X e t):PT X e t:=h _
def PA (X:Cx) (es:List Expr) (t:TA):Prop:=
 ∀(pos:Pos) (pins:List (Addr × Obj)) (s:LZ) (σ:St) (H:Hp) (Q:List V→Hp→Prop),Inv X pins σ H s→t σ H Q→Sv (L9 X.prog X.w) X.A (spliced (backTo pos (Sg es X.env))) (AP X pins σ Q) X.xe s
def PS (X:Cx) (st:Stmt) (t:TS):Prop:=
 ∀(pins:List (Addr × Obj)) (s:LZ) (σ:St) (H:Hp) (D:Ends),Inv X pins σ H s→t D σ H→Sv (L9 X.prog X.w) X.A (exec st X.env) (SP X pins D) X.xe s
def Xn (X:Cx) (st:List Stmt) (t:TS):Prop:=
 ∀(pins:List (Addr × Obj)) (s:LZ) (σ:St) (H:Hp) (D:Ends),Inv X pins σ H s→t D σ H→Sv (L9 X.prog X.w) X.A (execs st X.env) (SP X pins D) X.xe s
theorem qC {α:Type} {t:Sem α} {Q Q':α→LZ→Prop} {M:Model} {A:SO} {E:Lo→LZ→Prop} {s:LZ} (h:Sv M A t Q E s) (hQ:∀a s,Q a s→Q' a s):Sv M A t Q' E s:=SS h hQ λ_ _ x=>x
end L2
namespace L2
open PySem PySem.Spec PyProof.Rows
section
variable {X:Cx}
theorem bin {a b:Expr} {ta tb:TE} (ha:PE X a ta) (hb:PE X b tb) {pins:List (Addr × Obj)} {s:LZ} {σ:St} {H:Hp} {R:V→V→Hp→Prop} (I:Inv X pins σ H s) (h:ta σ H λx H1=>tb σ H1 λy H2=>R x y H2)
  {α:Type} {Q:α→LZ→Prop} {f:Lo→Lo→Sem α}
  (hf:∀v u s2 x y H2,Inv X pins σ H2 s2→RelV x v→RelV y u→R x y H2→Sv (L9 X.prog X.w) X.A (f v u) Q X.xe s2) :
  Sv (L9 X.prog X.w) X.A (eval a X.env) (λv s₁=>Sv (L9 X.prog X.w) X.A (eval b X.env) (λu s₂=>Sv (L9 X.prog X.w) X.A (f v u) Q X.xe s₂) X.xe s₁) X.xe s:=by
 refine qC (ha pins s σ H _ I h) λv s1 ⟨x,H1,I1,r1,q1⟩=>?_
 refine qC (hb pins s1 σ H1 _ I1 q1) λu s2 ⟨y,H2,I2,r2,q2⟩=>?_
 exact hf v u s2 x y H2 I2 r1 r2 q2
def Q9 (i:Nat):TE:=λσ H Q=>∃v,σ[i]?=some (some v)∧Q v H
def tC (v:V):TE:=λ_ H Q=>Q v H
theorem Fc {i:Nat} {x:Str} {pos:Pos} (hN:X.N[i]?=some x) (hv:Cs X.env.scope x) (hd:(x == ("__debug__" : Str))=false:=by decide) (hcd:(x == ("__classdict__" : Str))=false:=by decide):PE X (.Name x pos) (Q9 i):=by
 intro pins s σ H Q I h
 obtain⟨v,e,h⟩:=h
 obtain⟨m,hn,hl⟩:=I.loc
 obtain⟨u,r,l⟩:=hl i x v hN e hv
 have fin:EP X pins σ Q u s:=⟨v,H,I,r,h⟩
 rcases l with ⟨hk,hm⟩ | ⟨hk,c,hc,hcell⟩
 ·exact Aw (wpAny_loadName_local I.ok.kind hk hn hm fin) hd
 ·rcases hk with hk | hk
  ·exact Aw (wpAny_loadName_cell I.ok.kind hk hc hcell fin) hd
  ·exact Aw (wpAny_loadName_free I.ok.kind hk hc hcell fin hcd) hd
theorem zx {i j pos}:PE X (.Constant (.int i) j pos) (tC (.int i)):=λ_ _ _ H _ I h=>wpAny_Constant_int ⟨.int i,H,I.tok _,⟨_,rfl⟩,h⟩
theorem xK {b j pos}:PE X (.Constant (.bool b) j pos) (tC (.bl b)):=λ_ _ _ H _ I h=>Constant_bool ⟨.bl b,H,I,rfl,h⟩
theorem wH {j pos}:PE X (.Constant .none j pos) (tC .non):=λ_ _ _ H _ I h=>Constant_none ⟨.non,H,I,rfl,h⟩
theorem zw {x j pos}:PE X (.Constant (.str x) j pos) (tC (.str x)):=λ_ _ _ H _ I h=>Calls.Constant_str ⟨.str x,H,I.tok _,⟨_,rfl⟩,h⟩
def Gl (X:Cx) (x:Str):Prop:=X.env.kindOf x=some .globalImplicit
theorem d6 {E:Lo→LZ→Prop} {pins:List (Addr × Obj)} {s:LZ} {σ:St} {H:Hp} {x:Str} {u:Lo} {pos:Pos} {Q:Lo→LZ→Prop} (I:Inv X pins σ H s) (hg:Gl X x) (hm:X.mg x=some u) (h:Q u s)
  (hd:(x == ("__debug__" : Str))=false:=by decide):Sv (L9 X.prog X.w) X.A (eval (.Name x pos) X.env) Q E s:=
 OB I.ok.kind hg (Calls.loadGlobal_global (by rw[I.ok.glob];exact I.mod.glob.keeps I.bk) hm h) hd
theorem uQ {E:Lo→LZ→Prop} {pins:List (Addr × Obj)} {s:LZ} {σ:St} {H:Hp} {x:Str} {u:Lo} {pos:Pos} {Q:Lo→LZ→Prop} (I:Inv X pins σ H s) (hg:Gl X x) (hm:X.mg x=none) (hv:Nk x=some u) (h:Q u s)
  (hn:x≠"__name__":=by decide) (hd:(x == ("__debug__" : Str))=false:=by decide):Sv (L9 X.prog X.w) X.A (eval (.Name x pos) X.env) Q E s:=by
 obtain⟨mb,h1,h2⟩:=I.mod.blt
 exact OB I.ok.kind hg (Calls.loadGlobal_builtin (by rw[I.ok.glob];exact I.mod.glob.keeps I.bk) hm (by rw[I.ok.blt];exact h1.keeps I.bk) ((h2 x hn).trans hv) h) hd
theorem jk {x:Str} {v:V} {u:Lo} {pos:Pos} (hg:Gl X x) (hm:X.mg x=some u) (r:RelV v u) (hd:(x == ("__debug__" : Str))=false:=by decide):PE X (.Name x pos) (tC v):=
 λ_ _ _ H _ I h=>d6 I hg hm ⟨v,H,I,r,h⟩ hd
theorem gH {x:Str} {v:V} {u:Lo} {pos:Pos} (hg:Gl X x) (hm:X.mg x=none) (hv:Nk x=some u) (r:RelV v u) (hn:x≠"__name__":=by decide) (hd:(x == ("__debug__" : Str))=false:=by decide):PE X (.Name x pos) (tC v):=
 λ_ _ _ H _ I h=>uQ I hg hm hv ⟨v,H,I,r,h⟩ hn hd
def Cw (ta tb:TE) (k:Int→Int→Hp→Prop):St→Hp→Prop:=λσ H=>ta σ H λx H1=>tb σ H1 λy H2=>∃i j,x=.int i∧y=.int j∧k i j H2
def RT (ta tb:TE):TE:=λσ H Q=>Cw ta tb (λi j H2=>Q (.int (i + j)) H2) σ H
def R6 (ta tb:TE):TE:=λσ H Q=>Cw ta tb (λi j H2=>Q (.int (i - j)) H2) σ H
def RA (ta tb:TE):TE:=λσ H Q=>Cw ta tb (λi j H2=>(-(2 ^ 64) < i∧i < 2 ^ 64)∧Q (.int (i * j)) H2) σ H
variable {a b:Expr} {ta tb:TE} {pos:Pos}
def PC (X:Cx) (op:CmpOp) (a b:Expr) (t:TE):Prop:=
 ∀(pins:List (Addr × Obj)) (s:LZ) (σ:St) (H:Hp) (Q:VK),Inv X pins σ H s→t σ H Q→
  Sv (L9 X.prog X.w) X.A (eval a X.env) (λv s₁=>Sv (L9 X.prog X.w) X.A (eval b X.env) (λu s₂=>Sv (L9 X.prog X.w) X.A (S9 op v u) (EP X pins σ Q) X.xe s₂) X.xe s₁) X.xe s
def VP (p:Int→Int→Bool) (ta tb:TE):TE:=λσ H Q=>Cw ta tb (λi j H2=>Q (.bl (p i j)) H2) σ H
abbrev Lr:TE→TE→TE:=VP λi j=>decide (i < j)
abbrev Lu:TE→TE→TE:=VP λi j=>decide (i≤j)
abbrev Ld:TE→TE→TE:=VP λi j=>decide (j < i)
abbrev Lm:TE→TE→TE:=VP λi j=>decide (j≤i)
abbrev RI:TE→TE→TE:=VP λi j=>decide (i=j)
abbrev R0:TE→TE→TE:=VP λi j=>!decide (i=j)
def RE (ta:TE):TE:=λσ H Q=>ta σ H λx H1=>Q (.bl (decide (x=.non))) H1
def U5 (ta:TE):TE:=λσ H Q=>ta σ H λx H1=>Q (.bl (!decide (x=.non))) H1
def tB (t:TE):TT:=λσ H Q=>t σ H λx H1=>∃c,x=.bl c∧Q c H1
theorem Fh {op:CmpOp} {t:TE} (h:PC X op a b t) (h1:NA op b=false:=by first | exact nobehind _ (by decide) (by decide) | rfl):PE X (.Compare a [op] [b] pos) t:=λpins s σ H Q I hw=>Ay (h pins s σ H Q I hw) h1
theorem Zh {op:CmpOp} {t:TE} (h:PC X op a b t) (h1:NA op b=false:=by first | exact nobehind _ (by decide) (by decide) | rfl):PT X (.Compare a [op] [b] pos) (tB t):=by
 intro pins s σ H Q I hw
 refine IX (qC (h pins s σ H _ I hw) λv s1 h1=>qC h1 λu s2 h2=>qC h2 λc s3 ⟨x,H1,I1,r1,q1⟩=>?_) h1
 obtain⟨d,rfl,q⟩:=q1
 cases r1
 exact Ti ⟨H1,I1,q⟩
theorem qt {e:Expr} {t:TE} (h:PE X e t) (he:∀whole,isTrue e X.env whole=(do let v ←whole;standAt e.pos;holding [v] (truthy v)):=by intro _;rfl):PT X e (tB t):=by
 intro pins s σ H Q I hw
 refine isTrue_plain (qC (h pins s σ H _ I hw) λv s1 ⟨x,H1,I1,r1,q1⟩=>?_) (he _)
 obtain⟨d,rfl,q⟩:=q1
 cases r1
 exact Ti ⟨H1,I1,q⟩
variable {tA tB':TT} {rest:List Expr}
def DM (t u:TT):TT:=λσ H Q=>t σ H λc H1=>if c=true then u σ H1 Q else Q false H1
def R1 (t u:TT):TT:=λσ H Q=>t σ H λc H1=>if c=true then Q true H1 else u σ H1 Q
def Ub (t:TT):TT:=λσ H Q=>t σ H λc H1=>Q (!c) H1
theorem vF (ha:PT X a tA):PW X (.BoolOp .And [a] pos) tA:=by
 intro wh pins s σ H Q I h
 refine isTrue_and (qC (ha pins s σ H Q I h) λc s1 e=>?_)
 cases c with
 | true=>exact isTrue_and_nil e
 | false=>exact e
theorem kW (ha:PT X a tA):PW X (.BoolOp .Or [a] pos) tA:=by
 intro wh pins s σ H Q I h
 refine isTrue_or (qC (ha pins s σ H Q I h) λc s1 e=>?_)
 cases c with
 | false=>exact isTrue_or_nil e
 | true=>exact e
theorem yY (ha:PT X a tA) (hb:PW X (.BoolOp .And (b :: rest) pos) tB'):PW X (.BoolOp .And (a :: b :: rest) pos) (DM tA tB'):=by
 intro wh pins s σ H Q I h
 refine isTrue_and (qC (ha pins s σ H _ I h) λc s1 ⟨H1,I1,q1⟩=>?_)
 cases c with
 | true=>exact hb wh pins s1 σ H1 Q I1 q1
 | false=>exact⟨H1,I1,q1⟩
theorem vQ (ha:PT X a tA) (hb:PW X (.BoolOp .Or (b :: rest) pos) tB'):PW X (.BoolOp .Or (a :: b :: rest) pos) (R1 tA tB'):=by
 intro wh pins s σ H Q I h
 refine isTrue_or (qC (ha pins s σ H _ I h) λc s1 ⟨H1,I1,q1⟩=>?_)
 cases c with
 | true=>exact⟨H1,I1,q1⟩
 | false=>exact hb wh pins s1 σ H1 Q I1 q1
theorem jg (ha:PT X a tA):PT X (.UnaryOp .Not a pos) (Ub tA):=by
 intro pins s σ H Q I h
 exact isTrue_not (ha pins s σ H (λc H1=>Q (!c) H1) I h)
def DD (ta tb:TE):TE:=λσ H Q=>ta σ H λx H1=>∃c,x=.bl c∧if c=true then tb σ H1 Q else Q (.bl false) H1
def Up (ta tb:TE):TE:=λσ H Q=>ta σ H λx H1=>∃c,x=.bl c∧if c=true then Q (.bl true) H1 else tb σ H1 Q
def DN (ta:TE):TE:=λσ H Q=>ta σ H λx H1=>∃c,x=.bl c∧Q (.bl (!c)) H1
theorem nP {op} {t:TE} (h:PE X a t):PE X (.BoolOp op [a] pos) t:=λpins s σ H Q I hw=>BoolOp_one (h pins s σ H Q I hw)
theorem Zy (ha:PE X a ta) (hb:PE X (.BoolOp .And (b :: rest) pos) tb):PE X (.BoolOp .And (a :: b :: rest) pos) (DD ta tb):=by
 intro pins s σ H Q I h
 refine BoolOp_and (qC (ha pins s σ H _ I h) λv s1 ⟨x,H1,I1,r1,q1⟩=>?_)
 obtain⟨c,rfl,q1⟩:=q1
 cases r1
 refine Ti ?_
 cases c with
 | true=>exact hb pins s1 σ H1 Q I1 q1
 | false=>exact⟨.bl false,H1,I1,rfl,q1⟩
theorem Dw (ha:PE X a ta) (hb:PE X (.BoolOp .Or (b :: rest) pos) tb):PE X (.BoolOp .Or (a :: b :: rest) pos) (Up ta tb):=by
 intro pins s σ H Q I h
 refine BoolOp_or (qC (ha pins s σ H _ I h) λv s1 ⟨x,H1,I1,r1,q1⟩=>?_)
 obtain⟨c,rfl,q1⟩:=q1
 cases r1
 refine Ti ?_
 cases c with
 | false=>exact hb pins s1 σ H1 Q I1 q1
 | true=>exact⟨.bl true,H1,I1,rfl,q1⟩
theorem Ff (ha:PE X a ta):PE X (.UnaryOp .Not a pos) (DN ta):=by
 intro pins s σ H Q I h
 refine UnaryOp_ (qC (ha pins s σ H _ I h) λv s1 ⟨x,H1,I1,r1,q1⟩=>?_)
 obtain⟨c,rfl,q1⟩:=q1
 cases r1
 exact not_of (Ti ⟨.bl (!c),H1,I1,rfl,q1⟩)
def Lc (t:TT) (ta tb:TE):TE:=λσ H Q=>t σ H λc H1=>if c=true then ta σ H1 Q else tb σ H1 Q
end
end L2
namespace L2
open PySem PySem.Spec PyProof.Rows
def zK (K:Ls) (H:Hp) (a:Addr) (xs:List V):Prop:=
 Rd H a (.lst xs)∨
  ∃(o:Obj) (its:Array Lo) (n:Nat),K.lookup a=some o∧o.cls=.type "list"∧o.dict=none∧o.data=.seq its n∧its.size≤LI∧Vals xs its.toList
def jt (K:Ls) (H:Hp) (a:Addr) (xs:List V):Prop:=
 Rd H a (.tup xs)∨
  ∃(o:Obj) (its:Array Lo) (n:Nat),K.lookup a=some o∧o.cls=.type "tuple"∧o.data=.seq its n∧its.size≤LI∧Vals xs its.toList
noncomputable def Ct:Lo→Option V
 | .none=>some .non
 | .bool b=>some (.bl b)
 | .int i _=>some (.int i)
 | .str x _=>some (.str x)
 | .bytes b _=>some (.byt b)
 | .float b _=>some (.flt b)
 | .ref a=>some (.ref a)
 | .type n=>some (.ty n)
 | _=>none
theorem RelV.abs {x:V} {u:Lo} (r:RelV x u):Ct u=some x:=by
 cases x with
 | non=>cases r;rfl
 | bl _=>cases r;rfl
 | int _=>obtain⟨t,rfl⟩:=r;rfl
 | str _=>obtain⟨t,rfl⟩:=r;rfl
 | byt _=>obtain⟨t,rfl⟩:=r;rfl
 | flt _=>obtain⟨t,rfl⟩:=r;rfl
 | ref _=>cases r;rfl
 | ty _=>cases r;rfl
theorem RelV.inj {x y:V} {u:Lo} (r:RelV x u) (q:RelV y u):x=y:=L8 (r.abs.symm.trans q.abs)
theorem Vals.inj:∀{xs ys:List V} {us:List Lo},Vals xs us→Vals ys us→xs=ys
 | _,_,_,.nil,.nil=>rfl
 | _,_,_,.cons r t,.cons r' t'=>by rw[r.inj r',Vals.inj t t']
section
variable {X:Cx} {pins:List (Addr × Obj)} {σ:St} {H:Hp} {s:LZ} {a:Addr} {xs ys:List V}
theorem zK.of {K:Ls} (h:H a=some (.lst xs)):zK K H a xs:=.inl (.inl h)
theorem jt.of {K:Ls} (h:H a=some (.tup xs)):jt K H a xs:=.inl (.inl h)
theorem Inv.list (I:Inv X pins σ H s) (h:zK X.K H a xs):∃its:List Lo,Vals xs its∧PlainL s.heap a its.toArray∧xs.length≤LI:=by
 rcases h with h | ⟨o,its,n,hk,hc,hd,hs,hz,r⟩
 ·obtain⟨z,its,n,r,e⟩:=h.ok I.qx
  exact⟨its,r,⟨_,n,e,rfl,rfl,rfl⟩,z⟩
 ·refine⟨its.toList,r,⟨o,n,I.di a o hk,hc,hd,by simpa using hs⟩,?_⟩
  have e:=r.length
  simp only[OQ] at e
  omega
theorem Inv.tuple (I:Inv X pins σ H s) (h:jt X.K H a xs):∃its:List Lo,Vals xs its∧IsTup s.heap a its.toArray∧xs.length≤LI:=by
 rcases h with h | ⟨o,its,n,hk,hc,hs,hz,r⟩
 ·obtain⟨z,its,r,p⟩:=h.ok I.qx
  exact⟨its,r,p,z⟩
 ·refine⟨its.toList,r,⟨o,I.di a o hk,hc,n,by simpa using hs⟩,?_⟩
  have e:=r.length
  simp only[OQ] at e
  omega
theorem Inv.tM (I:Inv X pins σ H s) (h:zK X.K H a xs) (h':zK X.K H a ys):xs=ys:=by
 obtain⟨its,r,⟨o,n,e,_,_,d⟩,_⟩:=I.list h
 obtain⟨its',r',⟨o',n',e',_,_,d'⟩,_⟩:=I.list h'
 rw[e] at e';cases e'
 rw[d] at d'
 injection d' with d1 _
 have:its=its':=by simpa using congrArg A1 d1
 subst this
 exact r.inj r'
theorem Inv.VD (I:Inv X pins σ H s) (h:jt X.K H a xs) (h':jt X.K H a ys):xs=ys:=by
 obtain⟨its,r,⟨o,e,_,n,d⟩,_⟩:=I.tuple h
 obtain⟨its',r',⟨o',e',_,n',d'⟩,_⟩:=I.tuple h'
 rw[e] at e';cases e'
 rw[d] at d'
 injection d' with d1 _
 have:its=its':=by simpa using congrArg A1 d1
 subst this
 exact r.inj r'
end
noncomputable abbrev Cx.iY (X:Cx) (E:Lo→LZ→Prop):Cx:={ X with xe:=E }
noncomputable abbrev Cx.D9 (X:Cx):Cx:=X.iY λ_ _=>False
theorem Cx.Ok.iY {X:Cx} (ok:X.Ok) (E:Lo→LZ→Prop):(X.iY E).Ok:=
 ⟨ok.mod,ok.kind,ok.glob,ok.blt,ok.above,ok.inj,ok.has,ok.MY,ok.hd,ok.frames,ok.Ck,ok.Mw,ok.bs,ok.VS,ok.Vw,ok.Jm,ok.ui,ok.Bx⟩
theorem Cx.Ok.pL {X:Cx} {E:Lo→LZ→Prop} (ok:(X.iY E).Ok):X.Ok:=
 ⟨ok.mod,ok.kind,ok.glob,ok.blt,ok.above,ok.inj,ok.has,ok.MY,ok.hd,ok.frames,ok.Ck,ok.Mw,ok.bs,ok.VS,ok.Vw,ok.Jm,ok.ui,ok.Bx⟩
section
variable {X:Cx} {pins:List (Addr × Obj)} {σ:St} {H:Hp} {s:LZ} {E:Lo→LZ→Prop}
theorem Inv.iY (I:Inv X pins σ H s) (E:Lo→LZ→Prop):Inv (X.iY E) pins σ H s:=⟨I.ok.iY E,I.os,I.bare,I.base,I.loc,I.cell,I.free,I.yk,I.pin,I.qx,I.len⟩
theorem Inv.pL (I:Inv (X.iY E) pins σ H s):Inv X pins σ H s:=⟨I.ok.pL,I.os,I.bare,I.base,I.loc,I.cell,I.free,I.yk,I.pin,I.qx,I.len⟩
theorem SP.pL {D:Ends} {f:Flow} {s':LZ} (h:SP (X.iY E) pins D f s'):SP X pins D f s':=by
 cases f with
 | next=>obtain⟨σ',H',I,q⟩:=h;exact⟨σ',H',I.pL,q⟩
 | brk=>obtain⟨σ',H',I,q⟩:=h;exact⟨σ',H',I.pL,q⟩
 | cont=>obtain⟨σ',H',I,q⟩:=h;exact⟨σ',H',I.pL,q⟩
 | ret u=>obtain⟨v,σ',H',I,r,q⟩:=h;exact⟨v,σ',H',I.pL,r,q⟩
theorem Xn.D9 {st:List Stmt} {t:TS} (h:Xn X.D9 st t):Xn X st t:=λpins s σ H D I hw=>
 SS (h pins s σ H D (I.iY _) hw) (λ_ _ q=>q.pL) λ_ _ z=>S6 z
end
section
variable {X:Cx} {st:Stmt} {rest:List Stmt} {t u:TS} {e:Expr} {te:TE} {pos:Pos}
def DT:TS:=λD σ H=>D.nx σ H
def HP (t u:TS):TS:=λD σ H=>t { D with nx:=u D } σ H
theorem zr:Xn X [] DT:=λ_ _ σ H _ I h=>Oe ⟨σ,H,I,h⟩
theorem zq (h1:PS X st t) (h2:Xn X rest u):Xn X (st :: rest) (HP t u):=by
 intro pins s σ H D I h
 refine ET (qC (h1 pins s σ H { D with nx:=u D } I h) λf s1 q=>?_)
 cases f with
 | next=>
  obtain⟨σ',H',I',q⟩:=q
  exact h2 pins s1 σ' H' D I' q
 | ret v=>exact q
 | brk=>exact q
 | cont=>exact q
theorem zk (h1:PS X st t):Xn X [st] t:=by
 intro pins s σ H D I h
 refine ET (qC (h1 pins s σ H D I h) λf s1 q=>?_)
 cases f with
 | next=>exact Oe q
 | ret v=>exact q
 | brk=>exact q
 | cont=>exact q
def FE:TS:=λD σ H=>D.bk σ H
def U0:TS:=λD σ H=>D.ct σ H
theorem Yr:PS X (.Break pos) FE:=λ_ _ σ H _ I h=>wpAny_Break ⟨σ,H,I,h⟩
theorem Inv.quiet {pins:List (Addr × Obj)} {σ:St} {H:Hp} {s:LZ} (I:Inv X pins σ H s):interactive X.env=false:=by simp [interactive,I.ok.kind]
def DU (te:TE):TS:=λD σ H=>te σ H λ_ H1=>D.nx σ H1
theorem zO (he:PE X e te) (hs:O4 e none pos.line X.env=pure false:=by rfl):PS X (.Expr e pos) (DU te):=by
 intro pins s σ H D I h
 exact wpAny_Expr_any (qC (he pins s σ H _ I h) λv s1 ⟨x,H1,I1,r1,q1⟩=>⟨σ,H1,I1,q1⟩) I.quiet hs
def DI (te:TE):TS:=λD σ H=>te σ H D.rt
theorem zp (he:PE X e te):PS X (.Return (some e) pos) (DI te):=by
 intro pins s σ H D I h
 exact wpAny_Return_some (qC (he pins s σ H _ I h) λv s1 ⟨x,H1,I1,r1,q1⟩=>⟨x,σ,H1,I1,r1,q1⟩)
def U6:TS:=λD _ H=>D.rt .non H
def DS (c:TT) (t u:TS):TS:=λD σ H=>c σ H λb H1=>if b=true then t D σ H1 else u D σ H1
theorem zW {c:Expr} {a b:List Stmt} {tc:TT} (hc:PT X c tc) (ha:Xn X a t) (hb:Xn X b u):PS X (.If c a b pos) (DS tc t u):=by
 intro pins s σ H D I h
 refine wpAny_If (qC (hc pins s σ H _ I h) λd s1 ⟨H1,I1,q1⟩=>?_)
 cases d with
 | true=>exact ha pins s1 σ H1 D I1 q1
 | false=>exact hb pins s1 σ H1 D I1 q1
def F2:TS:=λ_ _ _=>False
theorem ky:PS X st F2:=λ_ _ _ _ _ _ h=>h.elim
end
noncomputable abbrev TG:=V→St→Hp→(St→Hp→Prop)→Prop
noncomputable abbrev HA:=List V→St→Hp→(St→Hp→Prop)→Prop
def PG (X:Cx) (target:Expr) (t:TG):Prop:=
 ∀(pins:List (Addr × Obj)) (s:LZ) (σ:St) (H:Hp) (v:V) (u:Lo) (Q:St→Hp→Prop),Inv X pins σ H s→RelV v u→t v σ H Q→
  Sv (L9 X.prog X.w) X.A (assign target X.env u) (λ_ s'=>∃σ' H',Inv X pins σ' H' s'∧Q σ' H') X.xe s
def Mj (X:Cx) (ts:List Expr) (t:HA):Prop:=
 ∀(pins:List (Addr × Obj)) (s:LZ) (σ:St) (H:Hp) (vs:List V) (us:List Lo) (Q:St→Hp→Prop),Inv X pins σ H s→Vals vs us→t vs σ H Q→
  Sv (L9 X.prog X.w) X.A (assignInOrder ((N4 ts X.env).map (·.2)) us) (λ_ s'=>∃σ' H',Inv X pins σ' H' s'∧Q σ' H') X.xe s
noncomputable abbrev Gn:=V→V→V→Hp→(Hp→Prop)→Prop
def Gr (X:Cx) (t:Gn):Prop:=
 ∀(pins:List (Addr × Obj)) (s:LZ) (σ:St) (H:Hp) (o i v:V) (ov iv u:Lo) (Q:Hp→Prop),Inv X pins σ H s→RelV o ov→RelV i iv→RelV v u→t o i v H Q→
  Sv (L9 X.prog X.w) X.A (setItem ov iv u) (λ_ s'=>∃H',Inv X pins σ H' s'∧Q H') X.xe s
noncomputable abbrev D6:=V→V→Hp→VK→Prop
def Lk (X:Cx) (op:Operator) (t:D6):Prop:=
 ∀(pins:List (Addr × Obj)) (s:LZ) (σ:St) (H:Hp) (x y:V) (v u:Lo) (Q:VK),Inv X pins σ H s→RelV x v→RelV y u→t x y H Q→
  Sv (L9 X.prog X.w) X.A (inplaceOp op v u) (EP X pins σ Q) X.xe s
section
variable {X:Cx} {pos:Pos}
def zU (i:Nat):TG:=λv σ H Q=>Q (σ.set i (some v)) H
theorem zM {i:Nat} {x:Str} (hN:X.N.Nodup) (hi:X.N[i]?=some x) (hx:Loc X.env.scope x) (hf:X.fn x=true∨X.env.scope.names.lookup x=some .local:=by first | exact .inl rfl | exact .inr rfl | assumption):PG X (.Name x pos) (zU i):=by
 intro pins s σ H v u Q I r h
 exact OT (cS I hN hi hx r (λs' I'=>⟨_,H,I',h⟩) hf)
noncomputable def Pd:HA:=λvs σ H Q=>vs=[]∧Q σ H
noncomputable def Qv (t:TG) (u:HA):HA:=λvs σ H Q=>∃v r,vs=v :: r∧t v σ H λσ' H'=>u r σ' H' Q
theorem vP:Mj X [] Pd:=by
 intro pins s σ H vs us Q I r h
 obtain⟨e,h⟩:=h
 subst e
 cases r
 exact assignInOrder_nil ⟨σ,H,I,h⟩
theorem qu {e:Expr} {es:List Expr} {t:TG} {u:HA} (h1:PG X e t) (h2:Mj X es u)
  (hs:(N4 (e :: es) X.env).map (·.2)=assign e X.env :: (N4 es X.env).map (·.2):=by rfl):Mj X (e :: es) (Qv t u):=by
 intro pins s σ H vs us Q I r h
 obtain⟨v,vr,e1,h⟩:=h
 subst e1
 cases r with
 | cons r rr=>
  rw[hs]
  refine assignInOrder_cons (qC (h1 pins s σ H _ _ _ I r h) λ_ s1 ⟨σ1,H1,I1,q1⟩=>?_)
  exact h2 pins s1 σ1 H1 _ _ Q I1 rr q1
def Pc (K:Ls) (n:Nat) (t:HA):TG:=λv σ H Q=>∃a xs,v=.ref a∧jt K H a xs∧xs.length=n∧t xs σ H Q
theorem Fu {es:List Expr} {k:Nat} {t:HA} {n:Nat} (hc:X.calm=true) (h:Mj X es t)
  (hn:(N4 es X.env).length=n:=by rfl) (hst:(N4 es X.env).findIdx? (·.1)=none:=by rfl):PG X (.Tuple es k pos) (Pc X.K n t):=by
 intro pins s σ H v u Q I r hw
 obtain⟨a,xs,e1,hq,hl,hw⟩:=hw
 subst e1
 cases r
 obtain⟨its,rv,ht,hz⟩:=I.tuple hq
 refine assign_Tuple_tuple (I.ok.hd hc) ht (by simp [hn,←hl,rv.length]) hst λh' hx=>?_
 have I1:Inv X pins σ H { s with heap:=h' }:=I.kept (t':=s.toks) λb o e=>hx b o (SJ (L0 e)) e
 exact h pins _ σ H xs _ Q I1 (by simpa using rv) hw
def CQ (to ti:TE) (t:Gn):TG:=λv σ H Q=>to σ H λo H1=>ti σ H1 λi H2=>t o i v H2 λH3=>Q σ H3
theorem ve {o i:Expr} {to ti:TE} {t:Gn} (ho:PE X o to) (hi:PE X i ti) (hs:Gr X t)
  (ha:∀v,assign (.Subscript o i pos) X.env v=(do
   let ov ←holding [v] (eval o X.env)
   let iv ←holding [v,ov] (eval i X.env)
   standAt pos
   holding [v,ov,iv] (setItem ov iv v)
   release [v,ov,iv] []):=by intro _;rfl):PG X (.Subscript o i pos) (CQ to ti t):=by
 intro pins s σ H v u Q I r h
 rw[ha]
 refine L1 (Om (qC (ho pins s σ H _ I h) λov s1 ⟨x,H1,I1,r1,q1⟩=>?_))
 refine L1 (Om (qC (hi pins s1 σ H1 _ I1 q1) λiv s2 ⟨y,H2,I2,r2,q2⟩=>?_))
 refine L1 (Od (L1 (Om (qC (hs pins s2 σ H2 x y v ov iv u _ I2 r1 r2 r q2) λ_ s3 ⟨H3,I3,q3⟩=>?_))))
 exact wpAny_release ⟨σ,H3,I3,q3⟩
def HY (te:TE) (g:TG):TS:=λD σ H=>te σ H λx H1=>g x σ H1 D.nx
theorem kx {tg e:Expr} {te:TE} {g:TG} (he:PE X e te) (hg:PG X tg g) (hs:swapsWithSole [tg] e pos.line X.env=pure false:=by rfl) (hw:swappedStores [tg] e X.env=pure none:=by rfl)
  (h1:(N4 [tg] X.env).map (·.2)=[assign tg X.env]:=by rfl):PS X (.Assign [tg] e pos) (HY te g):=by
 intro pins s σ H D I h
 refine wpAny_Assign_stores (qC (he pins s σ H _ I h) λv s1 ⟨x,H1,I1,r1,q1⟩=>?_) hs hw
 rw[h1]
 exact qC (hg pins s1 σ H1 x v _ I1 r1 q1) λ_ s2 q=>q
theorem za {i:Nat} {x:Str} {e:Expr} {te:TE} {pos':Pos} (hN:X.N.Nodup) (hi:X.N[i]?=some x) (hx:Loc X.env.scope x) (he:PE X e te) (hs:O4 e (some (.Name x pos')) pos.line X.env=pure false:=by rfl) (hf:X.fn x=true∨X.env.scope.names.lookup x=some .local:=by first | exact .inl rfl | exact .inr rfl | assumption) :
  PS X (.Assign [.Name x pos'] e pos) (HY te (zU i)):=by
 intro pins s σ H D I h
 refine wpAny_Assign_Name (qC (he pins s σ H _ I h) λv s1 ⟨y,H1,I1,r1,q1⟩=>?_) hs
 exact cS I1 hN hi hx r1 (λs2 I2=>⟨_,H1,I2,q1⟩) hf
def R3 (i j:Nat) (ta:TA):TS:=λD σ H=>ta σ H λvs H1=>∃v w,vs=[v,w]∧D.nx ((σ.set i (some v)).set j (some w)) H1
def RN (i:Nat) (te:TE) (ti:D6):TS:=λD σ H=>∃x,σ[i]?=some (some x)∧te σ H λy H1=>ti x y H1 λz H2=>D.nx (σ.set i (some z)) H2
def UI (to ti te:TE) (tget:V→V→Hp→VK→Prop) (tip:D6) (tset:Gn):TS:=λD σ H=>to σ H λo H1=>ti σ H1 λi H2=>tget o i H2 λx H3=>te σ H3 λy H4=>tip x y H4 λz H5=>tset o i z H5 λH6=>D.nx σ H6
def Rf (X:Cx) (t:V→V→Hp→VK→Prop):Prop:=
 ∀(pins:List (Addr × Obj)) (s:LZ) (σ:St) (H:Hp) (o i:V) (ov iv:Lo) (Q:VK),Inv X pins σ H s→RelV o ov→RelV i iv→t o i H Q→
  Sv (L9 X.prog X.w) X.A (getItem ov iv) (EP X pins σ Q) X.xe s
noncomputable def Lh (f:Int→Int→Int):D6:=λx y H Q=>∃i j,x=.int i∧y=.int j∧Q (.int (f i j)) H
end
section
variable {X:Cx} {pos:Pos}
def Uu (c:TT) (tb:TS):TS:=λD σ H=>∃W:Nat→St→Hp→Prop,(∃m,W m σ H)∧∀m σ H,W m σ H→
 c σ H λb H1=>if b=true then ∃N:St→Hp→Prop,(∀σ' H',N σ' H'→∃m',m' < m∧W m' σ' H')∧tb { D with nx:=N,ct:=N,bk:=D.nx } σ H1 else D.nx σ H1
end
structure It where
 go:Nat→Hp→Prop
 VN:Nat→Hp→V→Hp→Prop
 stop:Nat→Hp→Prop
def vT (X:Cx) (pins:List (Addr × Obj)) (H:Hp) (b:Addr):Prop:=
 H b=none∧b≠X.env.locals∧b∉X.fs∧(b∈X.ex∨X.s₀.heap.objs.size≤b)∧(∀x c,X.env.cells.lookup x=some c→c≠b)∧∀p∈X.pn ++ pins,p.1≠b
theorem Inv.aX {X:Cx} {pins:List (Addr × Obj)} {σ:St} {H H':Hp} {s:LZ} {b:Addr} (I:Inv X pins σ H s) (hb:s.heap.objs.size≤b) (hn:H' b=none):vT X pins H' b:=by
 refine⟨hn,Ea (Sl I.lt hb),I.CL hb,.inr (S1 I.sz hb),λx c e z=>?_,λp hp z=>?_⟩
 ·obtain⟨v,q⟩:=I.cell x c e
  exact absurd (Sl q.lt (by rw[z];exact hb)) (T3 _)
 ·exact absurd (Sl (L0 (I.pin p hp).1) (by rw[z];exact hb)) (T3 _)
structure Turn (P:LH) (w:Sz) (K:Ls) (tg:Expr) (J:It) (fp:List Addr) (it:Addr) (tn:Nat→Heap→Prop):Prop where
 mem:it∈fp
 obj:∀i h,tn i h→∀b∈fp,∃o,h.get? b=some o∧∀v,o.data≠.cell v
 keep:∀i h h',tn i h→(∀b∈fp,∀o,h.get? b=some o→h'.get? b=some o)→tn i h'
 item:∀(X:Cx),X.prog=P→X.w=w→X.K=K→X.calm=true→∀(i:Nat) (pins:List (Addr × Obj)) (s:LZ) (σ:St) (H:Hp) (E:Lo→LZ→Prop),Inv X pins σ H s→(∀b∈fp,vT X pins H b)→tn i s.heap→J.go i H→
  Sv (L9 P w) X.A (pyNext (.ref it)) (λr s1=>∃u,r=some u∧
   Sv (L9 P w) X.A (NJ tg (.ref it) u) (λ_ s2=>∃x H',Inv X pins σ H' s2∧RelV x u∧J.VN i H x H'∧tn (i + 1) s2.heap∧∀b∈fp,H' b=none) E s1) E s
 done:∀(X:Cx),X.prog=P→X.w=w→X.K=K→X.calm=true→∀(i:Nat) (pins:List (Addr × Obj)) (s:LZ) (σ:St) (H:Hp) (E:Lo→LZ→Prop),Inv X pins σ H s→(∀b∈fp,vT X pins H b)→tn i s.heap→J.stop i H→
  Sv (L9 P w) X.A (pyNext (.ref it)) (λr s1=>r=none∧Inv X pins σ H s1) E s
 self:∀(A:SO) (i:Nat) (s:LZ) (Q:Lo→LZ→Prop) (E:Lo→LZ→Prop),tn i s.heap→Q (.ref it) s→Sv (L9 P w) A (pyIter (.ref it)) Q E s
noncomputable abbrev TI:=St→Hp→(It→Hp→Prop)→Prop
def UZ (X:Cx) (pins:List (Addr × Obj)) (σ:St) (tg:Expr) (R:It→Hp→Prop) (itv:Lo) (s2:LZ):Prop:=
 ∃(it:Addr) (fp:List Addr) (tn:Nat→Heap→Prop) (J:It) (H':Hp),itv=.ref it∧Inv X pins σ H' s2∧Turn X.prog X.w X.K tg J fp it tn∧tn 0 s2.heap∧(∀b∈fp,vT X pins H' b)∧R J H'
def PI (X:Cx) (tg iter:Expr) (wi:TI):Prop:=
 ∀(pins:List (Addr × Obj)) (s:LZ) (σ:St) (H:Hp) (R:It→Hp→Prop),Inv X pins σ H s→wi σ H R→
  Sv (L9 X.prog X.w) X.A (eval iter X.env) (λv s1=>Sv (L9 X.prog X.w) X.A (pyIter v) (UZ X pins σ tg R) X.xe s1) X.xe s
theorem iO {M:Model} {A:SO} {E:Lo→LZ→Prop} {s:LZ} {tg:Expr} {it:Addr} {u:Lo} {o:Obj} {n:String} {vs:Array Lo} {Q:Unit→LZ→Prop} (ho:s.heap.get? it=some o) (hc:o.cls=.type n) (hd:o.data=.fields vs)
  (hn:["enumerate","zip","dict_itemiterator","dict_reverseitemiterator","odict_iterator","itertools.zip_longest","itertools.pairwise"].contains n=false) (hQ:Q () s):Sv M A (NJ tg (.ref it) u) Q E s:=by
 unfold NJ
 cases tg<;>first
  | exact Sn hQ
  | (cases u<;>first
    | exact Sn hQ
    | (refine L1 (wpAny_load ho ?_);rw[hc,hd];show Sv M A (if (["enumerate","zip","dict_itemiterator","dict_reverseitemiterator","odict_iterator","itertools.zip_longest","itertools.pairwise"].contains n && vs[0]? == some (rawInt _))=true then _ else _) Q E s;rw[if_neg (by intro h;rw[hn,Ag] at h;cases h)];exact Sn hQ))
noncomputable def Gu (K:Ls) (a:Addr):It:=
 ⟨λi H=>∃xs x,zK K H a xs∧xs[i]?=some x,λi H x H'=>H'=H∧∀xs,zK K H a xs→xs[i]?=some x,λi H=>∃xs,zK K H a xs∧xs.length≤i⟩
noncomputable def Ml (K:Ls) (a:Addr):It:=
 ⟨λi H=>∃xs x,jt K H a xs∧xs[i]?=some x,λi H x H'=>H'=H∧∀xs,jt K H a xs→xs[i]?=some x,λi H=>∃xs,jt K H a xs∧xs.length≤i⟩
noncomputable def VA (lo:Int) (n:Nat):It:=⟨λi _=>i < n,λi H x H'=>H'=H∧x=.int (lo + i),λi _=>n≤i⟩
theorem VU {P:LH} {w:Sz} {K:Ls} {tg:Expr} (a it:Addr):Turn P w K tg (Gu K a) [it] it (λi h=>h.IsListIter it a i) where
 mem:=by simp
 obj:=λi h st b hb=>by
  have e:b=it:=by simpa using hb
  subst e
  obtain⟨o,e,c,d⟩:=st
  exact⟨o,e,λv z=>by rw[d] at z;cases z⟩
 keep:=λi h h' st k=>st.at λo e=>k it (by simp) o e
 item:=by
  intro X hP hw hK hc i pins s σ H E I hf st hg
  subst hP hw hK
  obtain⟨xs,x,hq,hx⟩:=hg
  obtain⟨its,rv,p,hz⟩:=I.list hq
  obtain⟨u,hu,ru⟩:=rv.get hx
  obtain⟨f0,f1,f2,f3,f4,f5⟩:=hf it (by simp)
  refine Iw st p.isList (x:=u) (by simpa using hu) λh' st' sb=>?_
  have I1:Inv X pins σ H { s with heap:=h' }:=I.turned (t':=s.toks) (λb o hb e=>(sb.2 b hb).trans e) f0 f1 f3 f4 f5
  obtain⟨o,e,c,d⟩:=id st'
  exact⟨u,rfl,iO (s:={ s with heap:=h' }) e c d (by decide) ⟨x,H,I1,ru,⟨rfl,λys hy=>by rw[I.tM hy hq];exact hx⟩,st',λb hb=>(hf b hb).1⟩⟩
 done:=by
  intro X hP hw hK hc i pins s σ H E I hf st hg
  subst hP hw hK
  obtain⟨xs,hq,hx⟩:=hg
  obtain⟨its,rv,p,hz⟩:=I.list hq
  obtain⟨f0,f1,f2,f3,f4,f5⟩:=hf it (by simp)
  have hl:=rv.length
  exact IK (I.ok.hd hc) st p.isList (by simp;omega) λh' eb=>⟨rfl,I.turned (t':=s.toks) (λb o hb e=>eb b o hb e) f0 f1 f3 f4 f5⟩
 self:=λ_ _ _ _ _ st h=>wpAny_pyIter_listiter st h
theorem Xr {P:LH} {w:Sz} {K:Ls} {tg:Expr} (a it:Addr):Turn P w K tg (Ml K a) [it] it (λi h=>h.IsTupleIter it a i) where
 mem:=by simp
 obj:=λi h st b hb=>by
  have e:b=it:=by simpa using hb
  subst e
  obtain⟨o,e,c,d⟩:=st
  exact⟨o,e,λv z=>by rw[d] at z;cases z⟩
 keep:=λi h h' st k=>st.at λo e=>k it (by simp) o e
 item:=by
  intro X hP hw hK hc i pins s σ H E I hf st hg
  subst hP hw hK
  obtain⟨xs,x,hq,hx⟩:=hg
  obtain⟨its,rv,p,hz⟩:=I.tuple hq
  obtain⟨u,hu,ru⟩:=rv.get hx
  obtain⟨f0,f1,f2,f3,f4,f5⟩:=hf it (by simp)
  refine wpAny_pyNext_tuple_item st (show s.heap.IsTuple a its.toArray from p) (x:=u) (by simpa using hu) λh' st' sb=>?_
  have I1:Inv X pins σ H { s with heap:=h' }:=I.turned (t':=s.toks) (λb o hb e=>(sb.2 b hb).trans e) f0 f1 f3 f4 f5
  obtain⟨o,e,c,d⟩:=id st'
  exact⟨u,rfl,iO (s:={ s with heap:=h' }) e c d (by decide) ⟨x,H,I1,ru,⟨rfl,λys hy=>by rw[I.VD hy hq];exact hx⟩,st',λb hb=>(hf b hb).1⟩⟩
 done:=by
  intro X hP hw hK hc i pins s σ H E I hf st hg
  subst hP hw hK
  obtain⟨xs,hq,hx⟩:=hg
  obtain⟨its,rv,p,hz⟩:=I.tuple hq
  obtain⟨f0,f1,f2,f3,f4,f5⟩:=hf it (by simp)
  have hl:=rv.length
  exact wpAny_pyNext_tuple_end (I.ok.hd hc) st (show s.heap.IsTuple a its.toArray from p) (by simp;omega) λh' eb=>⟨rfl,I.turned (t':=s.toks) (λb o hb e=>eb b o hb e) f0 f1 f3 f4 f5⟩
 self:=λ_ _ _ _ _ st h=>wpAny_pyIter_tupleiter st h
theorem Xu {P:LH} {w:Sz} {K:Ls} {tg:Expr} (it:Addr) (lo:Int) (n:Nat):Turn P w K tg (VA lo n) [it] it (λi h=>IsRangeIter h it (lo + (i:Nat) * 1) ((n:Int) - (i:Nat)) 1) where
 mem:=by simp
 obj:=λi h st b hb=>by
  have e:b=it:=by simpa using hb
  subst e
  exact⟨_,st,λv z=>by
   have z':Data.fields _=Data.cell v:=z
   cases z'⟩
 keep:=λi h h' st k=>k it (by simp) _ st
 item:=by
  intro X hP hw hK hc i pins s σ H E I hf st hg
  subst hP hw hK
  obtain⟨f0,f1,f2,f3,f4,f5⟩:=hf it (by simp)
  have W:=Walks.range (prog:=X.prog) (w:=X.w) (I.ok.hd hc) it lo 1 n
  refine W.item i s _ _ hg st λv h' tk hv st' kk=>?_
  obtain⟨t,rfl⟩:=hv
  have I1:Inv X pins σ H { s with heap:=h',toks:=tk }:=I.turned (λb o hb e=>kk b o (by simpa using hb) e) f0 f1 f3 f4 f5
  refine⟨_,rfl,iO (s:={ s with heap:=h',toks:=tk }) (n:="range_iterator") st' rfl rfl (by decide) ⟨.int (lo + i),H,I1,⟨t,?_⟩,⟨rfl,rfl⟩,st',λb hb=>(hf b hb).1⟩⟩
  rw[Int.mul_one]
 done:=by
  intro X hP hw hK hc i pins s σ H E I hf st hg
  subst hP hw hK
  obtain⟨f0,f1,f2,f3,f4,f5⟩:=hf it (by simp)
  exact wpAny_pyNext_range_end (I.ok.hd hc) st (by have:n≤i:=hg;omega) λh' eb=>⟨rfl,I.turned (t':=s.toks) (λb o hb e=>eb b o hb e) f0 f1 f3 f4 f5⟩
 self:=λ_ _ _ _ _ st h=>wpAny_pyIter_rangeiter st h
end L2
namespace L2
open PySem PySem.Spec PyProof.Rows
section
variable {X:Cx} {tg:Expr}
def Bk (K:Ls) (tl:TE):TI:=λσ H R=>tl σ H λx H1=>∃a,x=.ref a∧(∃xs,zK K H1 a xs)∧R (Gu K a) H1
def MR (K:Ls) (tl:TE):TI:=λσ H R=>tl σ H λx H1=>∃a,x=.ref a∧(∃xs,jt K H1 a xs)∧R (Ml K a) H1
theorem Hc {l:Expr} {tl:TE} (hl:PE X l tl):PI X tg l (Bk X.K tl):=by
 intro pins s σ H R I h
 refine qC (hl pins s σ H _ I h) λv s1 ⟨x,H1,I1,r1,q1⟩=>?_
 obtain⟨a,e,⟨xs,hq⟩,q⟩:=q1
 subst e
 cases r1
 obtain⟨its,rv,p,hz⟩:=I1.list hq
 refine ON p.isList ?_
 refine⟨s1.heap.objs.size,[s1.heap.objs.size],_,_,H1,rfl,I1.kept (t':=s1.toks) λb o e=>LB _ e,VU a _,⟨_,Se _ rfl,rfl,rfl⟩,λb hb=>?_,q⟩
 have e:b=s1.heap.objs.size:=by simpa using hb
 subst e
 exact I1.aX (LF _) (I1.qx.fresh (LF _))
theorem Ft {l:Expr} {tl:TE} (hl:PE X l tl):PI X tg l (MR X.K tl):=by
 intro pins s σ H R I h
 refine qC (hl pins s σ H _ I h) λv s1 ⟨x,H1,I1,r1,q1⟩=>?_
 obtain⟨a,e,⟨xs,hq⟩,q⟩:=q1
 subst e
 cases r1
 obtain⟨its,rv,p,hz⟩:=I1.tuple hq
 refine wpAny_pyIter_tuple (show s1.heap.IsTuple a its.toArray from p) ?_
 refine⟨s1.heap.objs.size,[s1.heap.objs.size],_,_,H1,rfl,I1.kept (t':=s1.toks) λb o e=>LB _ e,Xr a _,⟨_,Se _ rfl,rfl,rfl⟩,λb hb=>?_,q⟩
 have e:b=s1.heap.objs.size:=by simpa using hb
 subst e
 exact I1.aX (LF _) (I1.qx.fresh (LF _))
theorem QU {pins:List (Addr × Obj)} {σ:St} {H:Hp} {s:LZ} {R:It→Hp→Prop} {E:Lo→LZ→Prop} {lo hi:Int} {t u v:Tok} {tk:Nat} (I:Inv X pins σ H s) (h1:-(2 ^ 62)≤lo) (h2:lo < 2 ^ 62) (h3:-(2 ^ 62)≤hi) (h4:hi < 2 ^ 62)
  (q:R (VA lo (hi - lo).toNat) H):Sv (L9 X.prog X.w) X.A (pyIter (.ref s.heap.objs.size)) (UZ X pins σ tg R) E { s with heap:=s.heap.push { cls:=.type "range",data:=.fields #[.int lo t,.int hi u,.int 1 v] },toks:=tk }:=by
 refine wpAny_pyIter_range (IsRange.new ..) (small_one h1 h2 h3 h4) ?_
 have I1:Inv X pins σ H { s with heap:=s.heap.push { cls:=.type "range",data:=.fields #[.int lo t,.int hi u,.int 1 v] },toks:=tk }:=I.kept λb o e=>LB _ e
 refine⟨(s.heap.push { cls:=.type "range",data:=.fields #[.int lo t,.int hi u,.int 1 v] }).objs.size,[(s.heap.push { cls:=.type "range",data:=.fields #[.int lo t,.int hi u,.int 1 v] }).objs.size],_,_,H,rfl,
  I1.kept (t':=tk) λb o e=>LB _ e,Xu _ lo (hi - lo).toNat,?_,λb hb=>?_,q⟩
 ·have e1:lo + ((0:Nat):Int) * 1=lo:=by simp
  have e2:(((hi - lo).toNat:Nat):Int) - ((0:Nat):Int)=AE lo hi 1:=by rw[rangeSize_one];split<;>omega
  show IsRangeIter _ _ (lo + ((0:Nat):Int) * 1) ((((hi - lo).toNat:Nat):Int) - ((0:Nat):Int)) 1
  rw[e1,e2]
  exact Se _ rfl
 ·have e:b=(s.heap.push { cls:=.type "range",data:=.fields #[.int lo t,.int hi u,.int 1 v] }).objs.size:=by simpa using hb
  subst e
  exact I1.aX (LF _) (I1.qx.fresh (LF _))
def MC (ta:TA):TI:=λσ H R=>ta σ H λvs H1=>∃j:Int,vs=[.int j]∧-(2 ^ 62)≤j∧j < 2 ^ 62∧R (VA 0 j.toNat) H1
def MU (ta:TA):TI:=λσ H R=>ta σ H λvs H1=>∃i j:Int,vs=[.int i,.int j]∧(-(2 ^ 62)≤i∧i < 2 ^ 62∧-(2 ^ 62)≤j∧j < 2 ^ 62)∧R (VA i (j - i).toNat) H1
theorem xV {a:Expr} {ta:TA} {p pos:Pos} (hg:Gl X "range") (hm:X.mg "range" = none) (ha:PA X [a] ta) (hs:Sg [a] X.env=[(false,eval a X.env)]:=by rfl):PI X tg (.Call (.Name "range" p) [a] [] pos) (MC ta):=by
 intro pins s σ H R I h
 refine Call_ (uQ I hg hm boot_range (TN (qC (ha pos pins s σ H _ I h) λus s1 ⟨vs,H1,I1,r1,q1⟩=>?_) hs rfl))
 obtain⟨j,e,q1,q2,q⟩:=q1
 subst e
 cases r1 with
 | cons r rr=>
  cases rr
  obtain⟨t,rfl⟩:=r
  exact call_range_1 (QU I1 (by omega) (by omega) q1 q2 (by simpa using q))
theorem Vr {a b:Expr} {ta:TA} {p pos:Pos} (hg:Gl X "range") (hm:X.mg "range" = none) (ha:PA X [a,b] ta) (hs:Sg [a,b] X.env=[(false,eval a X.env),(false,eval b X.env)]:=by rfl) (hs2:Sg [b] X.env=[(false,eval b X.env)]:=by rfl) :
  PI X tg (.Call (.Name "range" p) [a,b] [] pos) (MU ta):=by
 intro pins s σ H R I h
 refine Call_ (uQ I hg hm boot_range (TN (qC (ha pos pins s σ H _ I h) λus s1 ⟨vs,H1,I1,r1,q1⟩=>?_) (by rw[hs,hs2]) (by rw[hs2];rfl)))
 obtain⟨i,j,e,⟨q1,q2,q3,q4⟩,q⟩:=q1
 subst e
 cases r1 with
 | cons r rr=>
  cases rr with
  | cons r' rr=>
   cases rr
   obtain⟨t,rfl⟩:=r
   obtain⟨t',rfl⟩:=r'
   exact call_range_2 (QU I1 q1 q2 q3 q4 q)
def DR (wi:TI) (g:TG) (tb:TS):TS:=λD σ H=>wi σ H λJ H1=>∃W:Nat→Nat→St→Hp→Prop,(∃m,W 0 m σ H1)∧∀i m σ H,W i m σ H→
 (J.stop i H∧D.nx σ H)∨(J.go i H∧∃N:St→Hp→Prop,(∀σ' H',N σ' H'→∃m',m' < m∧W (i + 1) m' σ' H')∧∀x H',J.VN i H x H'→g x σ H' λσ2 H2=>tb { D with nx:=N,ct:=N,bk:=D.nx } σ2 H2)
noncomputable def m9 (fp:List Addr) (h:Heap):List (Addr × Obj):=fp.filterMap λb=>(h.get? b).map λo=>(b,o)
theorem xu {fp:List Addr} {h:Heap} {b:Addr} {o:Obj} (hb:b∈fp) (e:h.get? b=some o):(b,o)∈m9 fp h:=Ec.mpr ⟨b,hb,by rw[e];rfl⟩
theorem Vy {fp:List Addr} {h:Heap} {p:Addr × Obj} (hp:p∈m9 fp h):p.1∈fp∧h.get? p.1=some p.2:=by
 obtain⟨b,hb,e⟩:=Ec.mp hp
 cases q:h.get? b with
 | none=>rw[q] at e;cases e
 | some o=>
  rw[q] at e
  have e':(b,o)=p:=L8 e
  subst e'
  exact⟨hb,q⟩
theorem Inv.pinned {pins:List (Addr × Obj)} {σ:St} {H:Hp} {s:LZ} {fp:List Addr} (I:Inv X pins σ H s) (hf:∀b∈fp,vT X pins H b) (ho:∀b∈fp,∃o,s.heap.get? b=some o∧∀v,o.data≠.cell v):Inv X (pins ++ m9 fp s.heap) σ H s:=
 I.p9 λp hp=>(LU.mp hp).elim (λz=>I.pin p (LP _ z)) λz=>by
  obtain⟨hb,e⟩:=Vy z
  obtain⟨f0,f1,f2,_⟩:=hf p.1 hb
  obtain⟨o,e',d⟩:=ho p.1 hb
  rw[e] at e';cases e'
  exact⟨e,f0,f1,f2,d⟩
theorem Inv.jo {pins pl:List (Addr × Obj)} {σ:St} {H:Hp} {s:LZ} (I:Inv X (pins ++ pl) σ H s):Inv X pins σ H s:=I.p9 λp hp=>I.pin p (LP _ (Ss _ hp))
theorem jy {iter:Expr} {body:List Stmt} {wi:TI} {g:TG} {tb:TS} {pos:Pos} (hp:PassesOwn (L9 X.prog X.w) X.A X.env X.xe) (hc:X.calm=true) (hi:PI X tg iter wi) (hg:PG X tg g) (hb:Xn X body tb)
  (hs:∀x,Nv iter X.env x=pure x:=by intro _;rfl):PS X (.For tg iter body [] pos) (DR wi g tb):=by
 intro pins s σ H D I h
 refine wpAny_For (qC (hi pins s σ H _ I h) λv s1 h1=>qC h1 λitv s2 h2=>?_) hs
 obtain⟨it,fp,tn,J,H2,e,I2,T,st2,f2,W,⟨m0,w0⟩,turn⟩:=h2
 subst e
 have stat:∀{H':Hp},(∀b∈fp,H' b=none)→∀b∈fp,vT X pins H' b:=λhn b hb=>⟨hn b hb,(f2 b hb).2⟩
 refine Ej (λn s'=>∃i σ' H',Inv X pins σ' H' s'∧tn i s'.heap∧(∀b∈fp,H' b=none)∧W i n σ' H') ?_ m0 ⟨0,σ,H2,I2,st2,λb hb=>(f2 b hb).1,w0⟩
 rintro n s3 ⟨i,σ3,H3,I3,st3,fr3,w3⟩
 rcases turn i n σ3 H3 w3 with ⟨stop,qn⟩ | ⟨go,N,hN,step⟩
 ·refine Tn hp (qC (T.done X rfl rfl rfl hc i pins s3 σ3 H3 X.xe I3 (stat fr3) st3 stop) λr s4 ⟨hr,I4⟩=>?_)
  subst hr
  exact Oe ⟨σ3,H3,I4,qn⟩
 ·refine Tn hp (qC (T.item X rfl rfl rfl hc i pins s3 σ3 H3 X.xe I3 (stat fr3) st3 go) λr s4 ⟨u,hr,h4⟩=>?_)
  subst hr
  refine Tn hp (qC h4 λ_ s5 ⟨x,H5,I5,r5,y5,st5,fr5⟩=>?_)
  have I5':=I5.pinned (stat fr5) (T.obj _ _ st5)
  refine Tn hp (qC (hg _ s5 σ3 H5 x u _ I5' r5 (step x H5 y5)) λ_ s6 ⟨σ6,H6,I6,q6⟩=>?_)
  refine Tn hp (qC (hb _ s6 σ6 H6 _ I6 q6) λf s7 q7=>?_)
  have again:∀{σ7:St} {H7:Hp},Inv X (pins ++ m9 fp s5.heap) σ7 H7 s7→N σ7 H7→∃m,m < n∧∃i σ' H',Inv X pins σ' H' s7∧tn i s7.heap∧(∀b∈fp,H' b=none)∧W i m σ' H':=λ{σ7 H7} I7 n7=>by
   obtain⟨m',hm,w7⟩:=hN σ7 H7 n7
   refine⟨m',hm,i + 1,σ7,H7,I7.jo,T.keep _ _ _ st5 λb hb o e=>(I7.pin (b,o) (LP _ (LP _ (xu hb e)))).1,λb hb=>?_,w7⟩
   obtain⟨o,e,d⟩:=T.obj _ _ st5 b hb
   exact(I7.pin (b,o) (LP _ (LP _ (xu hb e)))).2.1
  cases f with
  | next=>obtain⟨σ7,H7,I7,n7⟩:=q7;exact again I7 n7
  | cont=>obtain⟨σ7,H7,I7,n7⟩:=q7;exact again I7 n7
  | brk=>obtain⟨σ7,H7,I7,q7⟩:=q7;exact⟨σ7,H7,I7.jo,q7⟩
  | ret v=>obtain⟨x7,σ7,H7,I7,r7,q7⟩:=q7;exact⟨x7,σ7,H7,I7.jo,r7,q7⟩
end
theorem xg {K:Ls} {a:Addr} {xs:List V} {g:TG} {tb:TS} {D:Ends} {σ:St} {H:Hp} (Pv:Nat→St→Hp→Prop) (h0:Pv 0 σ H) (hl:∀i σ H,i≤xs.length→Pv i σ H→zK K H a xs)
  (hs:∀i x σ H,xs[i]?=some x→Pv i σ H→g x σ H λσ2 H2=>tb { D with nx:=Pv (i + 1),ct:=Pv (i + 1),bk:=D.nx } σ2 H2) (hd:∀σ H,Pv xs.length σ H→D.nx σ H) :
  ∃W:Nat→Nat→St→Hp→Prop,(∃m,W 0 m σ H)∧∀i m σ H,W i m σ H→
   ((Gu K a).stop i H∧D.nx σ H)∨((Gu K a).go i H∧∃N:St→Hp→Prop,(∀σ' H',N σ' H'→∃m',m' < m∧W (i + 1) m' σ' H')∧∀x H',(Gu K a).VN i H x H'→g x σ H' λσ2 H2=>tb { D with nx:=N,ct:=N,bk:=D.nx } σ2 H2):=by
 refine⟨λi m σ H=>m=xs.length - i∧i≤xs.length∧Pv i σ H,⟨xs.length,by simp,Sy _,h0⟩,?_⟩
 rintro i m σ H ⟨rfl,hi,p⟩
 have q:=hl i σ H hi p
 by_cases hlt:i < xs.length
 ·refine .inr ⟨⟨xs,xs[i],q,by simp [hlt]⟩,Pv (i + 1),λσ' H' p'=>⟨xs.length - (i + 1),by omega,rfl,hlt,p'⟩,λx H' y=>?_⟩
  obtain⟨e,y⟩:=y
  subst e
  exact hs i x σ _ (y xs q) p
 ·have e:i=xs.length:=by omega
  subst e
  exact .inl ⟨⟨xs,q,LF _⟩,hd σ H p⟩
theorem GU {K:Ls} {a:Addr} {xs:List V} {g:TG} {tb:TS} {D:Ends} {σ:St} {H:Hp} (Pv:Nat→St→Hp→Prop) (h0:Pv 0 σ H) (hl:∀i σ H,i≤xs.length→Pv i σ H→jt K H a xs)
  (hs:∀i x σ H,xs[i]?=some x→Pv i σ H→g x σ H λσ2 H2=>tb { D with nx:=Pv (i + 1),ct:=Pv (i + 1),bk:=D.nx } σ2 H2) (hd:∀σ H,Pv xs.length σ H→D.nx σ H) :
  ∃W:Nat→Nat→St→Hp→Prop,(∃m,W 0 m σ H)∧∀i m σ H,W i m σ H→
   ((Ml K a).stop i H∧D.nx σ H)∨((Ml K a).go i H∧∃N:St→Hp→Prop,(∀σ' H',N σ' H'→∃m',m' < m∧W (i + 1) m' σ' H')∧∀x H',(Ml K a).VN i H x H'→g x σ H' λσ2 H2=>tb { D with nx:=N,ct:=N,bk:=D.nx } σ2 H2):=by
 refine⟨λi m σ H=>m=xs.length - i∧i≤xs.length∧Pv i σ H,⟨xs.length,by simp,Sy _,h0⟩,?_⟩
 rintro i m σ H ⟨rfl,hi,p⟩
 have q:=hl i σ H hi p
 by_cases hlt:i < xs.length
 ·refine .inr ⟨⟨xs,xs[i],q,by simp [hlt]⟩,Pv (i + 1),λσ' H' p'=>⟨xs.length - (i + 1),by omega,rfl,hlt,p'⟩,λx H' y=>?_⟩
  obtain⟨e,y⟩:=y
  subst e
  exact hs i x σ _ (y xs q) p
 ·have e:i=xs.length:=by omega
  subst e
  exact .inl ⟨⟨xs,q,LF _⟩,hd σ H p⟩
theorem ki {lo:Int} {n:Nat} {g:TG} {tb:TS} {D:Ends} {σ:St} {H:Hp} (Pv:Nat→St→Hp→Prop) (h0:Pv 0 σ H)
  (hs:∀i σ H,i < n→Pv i σ H→g (.int (lo + i)) σ H λσ2 H2=>tb { D with nx:=Pv (i + 1),ct:=Pv (i + 1),bk:=D.nx } σ2 H2) (hd:∀σ H,Pv n σ H→D.nx σ H) :
  ∃W:Nat→Nat→St→Hp→Prop,(∃m,W 0 m σ H)∧∀i m σ H,W i m σ H→
   ((VA lo n).stop i H∧D.nx σ H)∨((VA lo n).go i H∧∃N:St→Hp→Prop,(∀σ' H',N σ' H'→∃m',m' < m∧W (i + 1) m' σ' H')∧∀x H',(VA lo n).VN i H x H'→g x σ H' λσ2 H2=>tb { D with nx:=N,ct:=N,bk:=D.nx } σ2 H2):=by
 refine⟨λi m σ H=>m=n - i∧i≤n∧Pv i σ H,⟨n,by simp,Sy _,h0⟩,?_⟩
 rintro i m σ H ⟨rfl,hi,p⟩
 by_cases hlt:i < n
 ·refine .inr ⟨hlt,Pv (i + 1),λσ' H' p'=>⟨n - (i + 1),by omega,rfl,hlt,p'⟩,λx H' y=>?_⟩
  obtain⟨e,y⟩:=y
  subst e y
  exact hs i σ _ hlt p
 ·have e:i=n:=by omega
  subst e
  exact .inl ⟨LF _,hd σ H p⟩
end L2
namespace L2
open PySem PySem.Spec PyProof.Rows
noncomputable abbrev R2:=V→V→Hp→VK→Prop
def bb (X:Cx) (f:Lo→Lo→Sem Lo) (r:R2):Prop:=
 ∀(pins:List (Addr × Obj)) (s:LZ) (σ:St) (H:Hp) (x y:V) (v u:Lo) (Q:VK),Inv X pins σ H s→RelV x v→RelV y u→r x y H Q→
  Sv (L9 X.prog X.w) X.A (f v u) (EP X pins σ Q) X.xe s
def Cr (X:Cx) (f:Lo→Sem Lo) (r:V→Hp→VK→Prop):Prop:=
 ∀(pins:List (Addr × Obj)) (s:LZ) (σ:St) (H:Hp) (x:V) (v:Lo) (Q:VK),Inv X pins σ H s→RelV x v→r x H Q→
  Sv (L9 X.prog X.w) X.A (f v) (EP X pins σ Q) X.xe s
def xF (X:Cx) (f:Lo) (r:List V→Hp→VK→Prop):Prop:=
 ∀(pins:List (Addr × Obj)) (s:LZ) (σ:St) (H:Hp) (xs:List V) (us:List Lo) (Q:VK),Inv X pins σ H s→Vals xs us→r xs H Q→
  Sv (L9 X.prog X.w) X.A (call f us) (EP X pins σ Q) X.xe s
def Rr (X:Cx) (r:V→Hp→(Bool→Hp→Prop)→Prop):Prop:=
 ∀(pins:List (Addr × Obj)) (s:LZ) (σ:St) (H:Hp) (x:V) (v:Lo) (Q:Bool→Hp→Prop),Inv X pins σ H s→RelV x v→r x H Q→
  Sv (L9 X.prog X.w) X.A (truthy v) (TP X pins σ Q) X.xe s
def F3 (r:R2) (ta tb:TE):TE:=λσ H Q=>ta σ H λx H1=>tb σ H1 λy H2=>r x y H2 Q
def R7 (r:V→Hp→VK→Prop) (ta:TE):TE:=λσ H Q=>ta σ H λx H1=>r x H1 Q
def rI (C:Int→Int→Prop) (g:Int→Int→V):R2:=λx y H Q=>∃i j,x=.int i∧y=.int j∧C i j∧Q (g i j) H
def FJ (g:Int→Int→V):R2:=λx y H Q=>∃i j,x=.int i∧y=.int j∧Q (g i j) H
def rU (g:Int→V):V→Hp→VK→Prop:=λx H Q=>∃i,x=.int i∧Q (g i) H
section
variable {X:Cx} {a b c:Expr} {ta tb tc:TE} {pos:Pos}
theorem B6 (ha:PE X a ta) (hb:PE X b tb) {pins:List (Addr × Obj)} {s:LZ} {σ:St} {H:Hp} {R:V→V→Hp→Prop} (I:Inv X pins σ H s)
  (h:ta σ H λx H1=>tb σ H1 λy H2=>R x y H2) {Q:Lo→LZ→Prop} {f:Lo→Lo→Sem Lo}
  (hf:∀v u s2 x y H2,Inv X pins σ H2 s2→RelV x v→RelV y u→R x y H2→Sv (L9 X.prog X.w) X.A (f v u) Q X.xe s2) :
  Sv (L9 X.prog X.w) X.A (eval a X.env) (λv s₁=>Sv (L9 X.prog X.w) X.A (eval b X.env) (λu s₂=>Sv (L9 X.prog X.w) X.A (f v u) Q X.xe s₂) X.xe s₁) X.xe s:=by
 refine qC (ha pins s σ H _ I h) λv s1 ⟨x,H1,I1,r1,q1⟩=>?_
 refine qC (hb pins s1 σ H1 _ I1 q1) λu s2 ⟨y,H2,I2,r2,q2⟩=>?_
 exact hf v u s2 x y H2 I2 r1 r2 q2
theorem zo {op:Operator} {r:R2} (ho:bb X (N0 op) r) (ha:PE X a ta) (hb:PE X b tb):PE X (.BinOp a op b pos) (F3 r ta tb):=by
 intro pins s σ H Q I h
 exact wpAny_BinOp (B6 ha hb I h λv u s2 x y H2 I2 rx ry q=>ho pins s2 σ H2 x y v u Q I2 rx ry q)
theorem cQ {op:UnaryOp} {r:V→Hp→VK→Prop} (ho:Cr X (unaryOp op) r) (ha:PE X a ta):PE X (.UnaryOp op a pos) (R7 r ta):=by
 intro pins s σ H Q I h
 exact UnaryOp_ (qC (ha pins s σ H _ I h) λv s1 ⟨x,H1,I1,r1,q1⟩=>ho pins s1 σ H1 x v Q I1 r1 q1)
theorem Cz {f:Lo→Lo→Sem Lo} {C:Int→Int→Prop} {g:Int→Int→Int}
  (rule:∀(i j:Int) (t u:Tok) (s:LZ) (Q:Lo→LZ→Prop) (E:Lo→LZ→Prop),C i j→Q (.int (g i j) s.toks) { s with toks:=s.toks + 1 }→Sv (L9 X.prog X.w) X.A (f (.int i t) (.int j u)) Q E s) :
  bb X f (rI C λi j=>.int (g i j)):=by
 intro pins s σ H x y v u Q I rx ry h
 obtain⟨i,j,rfl,rfl,hc,q⟩:=h
 obtain⟨t,rfl⟩:=rx
 obtain⟨t',rfl⟩:=ry
 exact rule i j t t' s _ _ hc ⟨.int (g i j),H,I.tok _,⟨_,rfl⟩,q⟩
theorem Dk {f:Lo→Lo→Sem Lo} {g:Int→Int→Int}
  (rule:∀(i j:Int) (t u:Tok) (s:LZ) (Q:Lo→LZ→Prop) (E:Lo→LZ→Prop),Q (.int (g i j) s.toks) { s with toks:=s.toks + 1 }→Sv (L9 X.prog X.w) X.A (f (.int i t) (.int j u)) Q E s) :
  bb X f (FJ λi j=>.int (g i j)):=by
 intro pins s σ H x y v u Q I rx ry h
 obtain⟨i,j,rfl,rfl,q⟩:=h
 obtain⟨t,rfl⟩:=rx
 obtain⟨t',rfl⟩:=ry
 exact rule i j t t' s _ _ ⟨.int (g i j),H,I.tok _,⟨_,rfl⟩,q⟩
theorem P9 {f:Lo→Lo→Sem Lo} {g:Int→Int→Bool}
  (rule:∀(i j:Int) (t u:Tok) (s:LZ) (Q:Lo→LZ→Prop) (E:Lo→LZ→Prop),Q (.bool (g i j)) s→Sv (L9 X.prog X.w) X.A (f (.int i t) (.int j u)) Q E s) :
  bb X f (FJ λi j=>.bl (g i j)):=by
 intro pins s σ H x y v u Q I rx ry h
 obtain⟨i,j,rfl,rfl,q⟩:=h
 obtain⟨t,rfl⟩:=rx
 obtain⟨t',rfl⟩:=ry
 exact rule i j t t' s _ _ ⟨.bl (g i j),H,I,rfl,q⟩
def Cb (i j:Int):Prop:=0 < j∧j < 1073741824
def Us (i j:Int):Prop:=j≠0∧j.natAbs < 1073741824
def Cp (i j:Int):Prop:=0≤j∧j≤1000000∧i.natAbs < 2 ^ 64
def BA (i j:Int):Prop:=(-(2 ^ 64) < i∧i < 2 ^ 64)∨(-(2 ^ 64) < j∧j < 2 ^ 64)
theorem BA.ok {i j:Int} (h:BA i j):IntMulOk i j:=by
 rcases h with ⟨h1,h2⟩ | ⟨h1,h2⟩
 ·exact .of_left (intBits_le_64 h1 h2)
 ·exact .of_right (intBits_le_64 h1 h2)
theorem qf:bb X (N0 .Add) (FJ λi j=>.int (i + j)):=Dk λ_ _ _ _ _ _ _ q=>add_int q
theorem m8:bb X (N0 .Sub) (FJ λi j=>.int (i - j)):=Dk λ_ _ _ _ _ _ _ q=>sub_int q
theorem kz:bb X (N0 .Mult) (rI BA λi j=>.int (i * j)):=Cz λ_ _ _ _ _ _ _ hc q=>mul_int q hc.ok
theorem qZ:bb X (N0 .FloorDiv) (rI Cb λi j=>.int (i / j)):=Cz λi j _ _ _ _ _ hc q=>by
 have h1:(0:Int) < j:=hc.1
 have h2:j < 1073741824:=hc.2
 exact floordiv_int (by omega) (by rw[Int.fdiv_eq_ediv_of_nonneg i (by omega)];exact q) (.inl (PyProof.noPylong_small (by omega)))
theorem z6:bb X (N0 .Mod) (rI (λ_ j=>0 < j) λi j=>.int (i % j)):=Cz λi j _ _ _ _ _ hc q=>by
 have h1:(0:Int) < j:=hc
 exact mod_int' (by omega) (by rw[Int.fmod_eq_emod_of_nonneg i (by omega)];exact q)
theorem Fv:bb X (N0 .Pow) (rI Cp λi j=>.int (i ^ j.toNat)):=Cz λ_ _ _ _ _ _ _ hc q=>pow_int_small hc.1 hc.2.1 hc.2.2 q
theorem Lz {f:Lo→Sem Lo} {g:Int→Int}
  (rule:∀(i:Int) (t:Tok) (s:LZ) (Q:Lo→LZ→Prop) (E:Lo→LZ→Prop),Q (.int (g i) s.toks) { s with toks:=s.toks + 1 }→Sv (L9 X.prog X.w) X.A (f (.int i t)) Q E s) :
  Cr X f (rU λi=>.int (g i)):=by
 intro pins s σ H x v Q I rx h
 obtain⟨i,rfl,q⟩:=h
 obtain⟨t,rfl⟩:=rx
 exact rule i t s _ _ ⟨.int (g i),H,I.tok _,⟨_,rfl⟩,q⟩
theorem gD:Cr X (unaryOp .USub) (rU λi=>.int (-i)):=Lz λ_ _ _ _ _ q=>neg_int q
end
noncomputable def DJ:V→V→Bool
 | .non,.non=>true | .non,.int _=>true | .int _,.non=>true | .non,.bl _=>true | .bl _,.non=>true | .non,.str _=>true | .str _,.non=>true
 | .int _,.int _=>true | .bl _,.bl _=>true | .str _,.str _=>true | .byt _,.byt _=>true
 | .int _,.str _=>true | .str _,.int _=>true | .bl _,.str _=>true | .str _,.bl _=>true
 | _,_=>false
def UD:R2:=λx y H Q=>DJ x y=true∧Q (.bl (decide (x=y))) H
def UR:R2:=λx y H Q=>DJ x y=true∧Q (.bl (!decide (x=y))) H
theorem XY {i j:Int}:decide (V.int i=V.int j)=(i == j):=by
 rw[NX]
 simp
theorem Wh {i j:Bool}:decide (V.bl i=V.bl j)=(i == j):=by
 rw[NX]
 simp
theorem XG {i j:Str}:decide (V.str i=V.str j)=(i == j):=by
 rw[NX]
 simp
theorem XW {i j:Array UInt8}:decide (V.byt i=V.byt j)=(i.toList == j.toList):=by
 rw[NX]
 cases i
 cases j
 simp
section
variable {X:Cx} {a b c:Expr} {ta tb tc:TE} {pos:Pos}
theorem qv {pins:List (Addr × Obj)} {σ:St} {H:Hp} {s:LZ} {Q:VK} {k k':Bool} (I:Inv X pins σ H s) (q:Q (.bl k) H) (e:k=k'):EP X pins σ Q (.bool k') s:=by
 subst e
 exact⟨.bl k,H,I,rfl,q⟩
theorem qz:bb X (S9 .Eq) UD:=by
 intro pins s σ H x y v u Q I rx ry h
 obtain⟨hs,q⟩:=h
 cases x with
 | non=>
  cases rx
  cases y with
  | non=>cases ry;exact Ad (qv I q (by simp))
  | bl j=>cases ry;exact Ac (qv I q (by simp))
  | int j=>obtain⟨t',rfl⟩:=ry;exact AX (qv I q (by simp))
  | str j=>obtain⟨t',rfl⟩:=ry;exact AK (qv I q (by simp))
  | _=>exact absurd (show false=true from hs) LA
 | bl i=>
  cases rx
  cases y with
  | non=>cases ry;exact Au (qv I q (by simp))
  | bl j=>cases ry;exact eq_bool (qv I q Wh)
  | str j=>obtain⟨t',rfl⟩:=ry;exact Ar (qv I q (by simp))
  | _=>exact absurd (show false=true from hs) LA
 | int i=>
  obtain⟨t,rfl⟩:=rx
  cases y with
  | non=>cases ry;exact AV (qv I q (by simp))
  | int j=>obtain⟨t',rfl⟩:=ry;exact eq_int (qv I q XY)
  | str j=>obtain⟨t',rfl⟩:=ry;exact AW (qv I q (by simp))
  | _=>exact absurd (show false=true from hs) LA
 | str i=>
  obtain⟨t,rfl⟩:=rx
  cases y with
  | non=>cases ry;exact AY (qv I q (by simp))
  | bl j=>cases ry;exact Al (qv I q (by simp))
  | int j=>obtain⟨t',rfl⟩:=ry;exact AG (qv I q (by simp))
  | str j=>obtain⟨t',rfl⟩:=ry;exact eq_str (qv I q XG)
  | _=>exact absurd (show false=true from hs) LA
 | byt i=>
  obtain⟨t,rfl⟩:=rx
  cases y with
  | byt j=>obtain⟨t',rfl⟩:=ry;exact PySem.W.eq_bytes (qv I q XW)
  | _=>exact absurd (show false=true from hs) LA
 | _=>cases y<;>exact absurd (show false=true from hs) LA
theorem cn:bb X (S9 .NotEq) UR:=by
 intro pins s σ H x y v u Q I rx ry h
 obtain⟨hs,q⟩:=h
 cases x with
 | non=>
  cases rx
  cases y with
  | non=>cases ry;exact As (qv I q (by simp))
  | bl j=>cases ry;exact Ao (qv I q (by simp))
  | int j=>obtain⟨t',rfl⟩:=ry;exact AH (qv I q (by simp))
  | str j=>obtain⟨t',rfl⟩:=ry;exact AB (qv I q (by simp))
  | _=>exact absurd (show false=true from hs) LA
 | bl i=>
  cases rx
  cases y with
  | non=>cases ry;exact Ai (qv I q (by simp))
  | bl j=>cases ry;exact ne_bool (qv I q (congrArg not Wh))
  | str j=>obtain⟨t',rfl⟩:=ry;exact Ae (qv I q (by simp))
  | _=>exact absurd (show false=true from hs) LA
 | int i=>
  obtain⟨t,rfl⟩:=rx
  cases y with
  | non=>cases ry;exact AF (qv I q (by simp))
  | int j=>obtain⟨t',rfl⟩:=ry;exact ne_int (qv I q (congrArg not XY))
  | str j=>obtain⟨t',rfl⟩:=ry;exact AM (qv I q (by simp))
  | _=>exact absurd (show false=true from hs) LA
 | str i=>
  obtain⟨t,rfl⟩:=rx
  cases y with
  | non=>cases ry;exact AD (qv I q (by simp))
  | bl j=>cases ry;exact Aa (qv I q (by simp))
  | int j=>obtain⟨t',rfl⟩:=ry;exact AU (qv I q (by simp))
  | str j=>obtain⟨t',rfl⟩:=ry;exact ne_str (qv I q (congrArg not XG))
  | _=>exact absurd (show false=true from hs) LA
 | byt i=>
  obtain⟨t,rfl⟩:=rx
  cases y with
  | byt j=>obtain⟨t',rfl⟩:=ry;exact PySem.W.ne_bytes (qv I q (congrArg not XW))
  | _=>exact absurd (show false=true from hs) LA
 | _=>cases y<;>exact absurd (show false=true from hs) LA
theorem Yb:bb X (S9 .Lt) (FJ λi j=>.bl (decide (i < j))):=P9 λ_ _ _ _ _ _ _ q=>lt_int q
theorem Bu:bb X (S9 .LtE) (FJ λi j=>.bl (decide (i≤j))):=P9 λ_ _ _ _ _ _ _ q=>le_int q
theorem fL:bb X (S9 .Gt) (FJ λi j=>.bl (decide (j < i))):=P9 λ_ _ _ _ _ _ _ q=>gt_int q
theorem Vu:bb X (S9 .In) (λx y H Q=>∃i j,x=.str i∧y=.str j∧Q (.bl (!(Nc j i 0 j.length 1).isEmpty)) H):=by
 intro pins s σ H x y v u Q I rx ry h
 obtain⟨i,j,rfl,rfl,q⟩:=h
 obtain⟨t,rfl⟩:=rx
 obtain⟨t',rfl⟩:=ry
 exact in_str (qv I q rfl)
theorem JT:bb X (S9 .Is) (λx y H Q=>y=.non∧Q (.bl (decide (x=.non))) H):=by
 intro pins s σ H x y v u Q I rx ry h
 obtain⟨rfl,q⟩:=h
 cases ry
 refine is_none_gen (qv I q ?_)
 cases x<;>first
  | (cases rx;rfl)
  | (obtain⟨t,rfl⟩:=rx;rfl)
theorem Kj:bb X (S9 .IsNot) (λx y H Q=>y=.non∧Q (.bl (!decide (x=.non))) H):=by
 intro pins s σ H x y v u Q I rx ry h
 obtain⟨rfl,q⟩:=h
 cases ry
 refine isnot_none_gen (qv I q ?_)
 cases x<;>first
  | (cases rx;rfl)
  | (obtain⟨t,rfl⟩:=rx;rfl)
noncomputable def isObj:HO→Bool
 | .lst _=>true
 | .ins _ _ _=>true
 | _=>false
theorem zQ (b:Expr) {op:CmpOp} (h:op≠.In:=by decide) (h2:op≠.NotIn:=by decide):NA op b=false:=by
 have e1:(op == CmpOp.In)=false:=by cases op<;>first | rfl | exact absurd rfl h
 have e2:(op == CmpOp.NotIn)=false:=by cases op<;>first | rfl | exact absurd rfl h2
 cases b<;>simp [NA,e1,e2]
theorem yg {op:CmpOp} {r:R2} (ho:bb X (S9 op) r) (ha:PE X a ta) (hb:PE X b tb) (hm:NA op b=false):PE X (.Compare a [op] [b] pos) (F3 r ta tb):=by
 intro pins s σ H Q I h
 exact Ay (B6 ha hb I h λv u s2 x y H2 I2 rx ry q=>ho pins s2 σ H2 x y v u Q I2 rx ry q) hm
def Y7 (t:TE):TT:=λσ H Q=>t σ H λx H'=>∃k,x=.bl k∧Q k H'
theorem zd {op:CmpOp} {r:R2} (ho:bb X (S9 op) r) (ha:PE X a ta) (hb:PE X b tb) (hm:NA op b=false):PT X (.Compare a [op] [b] pos) (Y7 (F3 r ta tb)):=by
 intro pins s σ H Q I h
 refine IX (qC (ha pins s σ H _ I h) λv s1 ⟨x,H1,I1,r1,q1⟩=>qC (hb pins s1 σ H1 _ I1 q1) λu s2 ⟨y,H2,I2,r2,q2⟩=>
  qC (ho pins s2 σ H2 x y v u _ I2 r1 r2 q2) λc s3 ⟨z,H3,I3,r3,k,e,q3⟩=>?_) hm
 subst e
 cases r3
 exact Ti ⟨H3,I3,q3⟩
def FA (r r':R2) (ta tb tc:TE):TE:=λσ H Q=>ta σ H λx H1=>tb σ H1 λy H2=>r x y H2 λz H3=>∃k,z=.bl k∧
 (if k=true then tc σ H3 λw' H4=>r' y w' H4 Q else Q (.bl false) H3)
theorem Yf {op op':CmpOp} {r r':R2} (ho:bb X (S9 op) r) (ho':bb X (S9 op') r') (ha:PE X a ta) (hb:PE X b tb) (hc:PE X c tc)
  (hm:lastMarks [op,op'] [b,c]=false:=by with_unfolding_all rfl):PE X (.Compare a [op,op'] [b,c] pos) (FA r r' ta tb tc):=by
 intro pins s σ H Q I h
 refine Compare_chain (qC (ha pins s σ H _ I h) λv s1 ⟨x,H1,I1,r1,q1⟩=>chain_link (qC (hb pins s1 σ H1 _ I1 q1) λu s2 ⟨y,H2,I2,r2,q2⟩=>
  qC (ho pins s2 σ H2 x y v u _ I2 r1 r2 q2) λd s3 ⟨z,H3,I3,r3,k,e,q3⟩=>?_)) hm
 subst e
 cases r3
 refine Ti ?_
 cases k with
 | false=>exact ite_ff ⟨.bl false,H3,I3,rfl,q3⟩
 | true=>exact ite_tt (chain_last (qC (hc pins s3 σ H3 _ I3 q3) λw' s4 ⟨z',H4,I4,r4,q4⟩=>ho' pins s4 σ H4 y z' u w' Q I4 r2 r4 q4))
def Rl (K:Ls) (x:V) (H:Hp) (k:Bool):Prop:=
 match x with
 | .non=>k=false
 | .bl b=>k=b
 | .int i=>k=(i != 0)
 | .str y=>y.length≤LI∧k=((y.length:Int) != 0)
 | .byt y=>y.size≤LI∧k=((y.size:Int) != 0)
 | .ref p=>(∃xs,zK K H p xs∧k = !xs.isEmpty)∨(∃xs,jt K H p xs∧k = !xs.isEmpty)∨∃kvs,H p=some (.dK kvs)∧k = !kvs.isEmpty
 | _=>False
theorem uX:(LI:Nat) < 2 ^ 63:=by rw[sizeLine_eq];decide
theorem wG:bb X (N0 .Add) (λx y H Q=>∃i j,x=.str i∧y=.str j∧i.length + j.length≤LI∧Q (.str (i ++ j)) H):=by
 intro pins s σ H x y v u Q I rx ry h
 obtain⟨i,j,rfl,rfl,hz,q⟩:=h
 obtain⟨t,rfl⟩:=rx
 obtain⟨t',rfl⟩:=ry
 exact add_str (λt' tk=>⟨.str (i ++ j),H,I.tok _,⟨_,rfl⟩,q⟩) hz
def Ma (b:Expr):Prop:=∀o i,subscripted b false o i=operate [o,i] (getItem o i)
theorem vals1 {x:V} {us:List Lo} (r:Vals [x] us):∃u,us=[u]∧RelV x u:=by
 cases r with
 | cons r1 r2=>cases r2;exact⟨_,rfl,r1⟩
theorem vals2 {x y:V} {us:List Lo} (r:Vals [x,y] us):∃u w',us=[u,w']∧RelV x u∧RelV y w':=by
 cases r with
 | cons r1 r2=>
  cases r2 with
  | cons r3 r4=>cases r4;exact⟨_,_,rfl,r1,r3⟩
theorem aq:xF X (.type "str") (λxs H Q=>∃i,xs=[.int i]∧i.natAbs.log2 < 1920∧Q (.str (toString i)) H):=by
 intro pins s σ H xs us Q I r h
 obtain⟨i,rfl,hz,q⟩:=h
 obtain⟨u,rfl,t,rfl⟩:=vals1 r
 exact PySem.P.str_of_int hz ⟨.str _,H,I.tok _,⟨_,rfl⟩,q⟩
def Rh (K:Ls) (x:V) (H:Hp) (n:Nat):Prop:=
 match x with
 | .str y=>y.length≤LI∧n=y.length
 | .byt y=>y.size≤LI∧n=y.size
 | .ref p=>(∃xs,zK K H p xs∧n=xs.length)∨∃xs,jt K H p xs∧n=xs.length
 | _=>False
end
end L2
namespace L2
open PySem PySem.Spec PyProof.Rows
structure Jw (h:Heap) (x dx C:Addr) (mA:Str→Option Lo):Prop where
 obj:h.get? x=some (TR C dx)
 ns:h.Ns1 dx mA
 ne:dx≠x
theorem K8 {h:Heap} {dx:Addr} {mA:Str→Option Lo} (n:h.Ns1 dx mA):∃od,h.get? dx=some od∧∀name,OP name od=some (mA name):=by
 obtain⟨o,es,ep,ho,hd,hk,_,hm⟩:=n
 refine⟨o,ho,λname=>?_⟩
 have e:=hm name
 unfold nsFind findBy at e
 rw[←Array.find?_toList] at e
 unfold OP
 rw[hd]
 dsimp only
 split
 ·rename_i y q
  rw[q] at e
  exact congrArg some e
 ·rename_i q
  rw[q] at e
  have a:es.toList.any (·.refKey)=false:=by
   rw[List.any_eq_false]
   intro y hy
   obtain⟨z,t,hkey⟩:=hk y (Array.mem_toList_iff.mp hy)
   simp [zzJ,hkey]
  have a':¬es.toList.any (·.refKey)=true:=by rw[a];exact LA
  rw[if_neg a']
  exact congrArg some e
theorem Jw.look {h:Heap} {x dx C:Addr} {mA:Str→Option Lo} (I:Jw h x dx C mA):∃od,PySem.W.InstAt h x (TR C dx) C (some od)∧∀name,OP name od=some (mA name):=
 let ⟨od,ho,hl⟩:=K8 I.ns
 ⟨od,⟨I.obj,rfl,rfl,ho⟩,hl⟩
section
variable {prog:LH} {w:Sz} {A:SO} {E:Lo→LZ→Prop} {s:LZ} {K:Ls} {x dx C f:Addr} {mA:Str→Option Lo} {name:Str} {v:Lo}
theorem get_map {expr:Bool} {Q:Lo→LZ→Prop} (X:K.In s.heap) (I:Jw s.heap x dx C mA) (hg:Og K C name=true) (hh:N9 K C=true)
  (ha:Sf K (.ref C) name=some none) (hv:mA name=some v) (hv':EN v=true) (h:Q v { s with toks:=s.toks + 1 }) :
  Sv (L9 prog w) A (getAttr (.ref x) name expr) Q E s:=by
 obtain⟨od,J,hl⟩:=I.look
 exact PySem.W.get_value X J (OJ hg).1 (PySem.W.findObj_own hh ha rfl (by rw[hl,hv])) hv' h
theorem We {pl:Sem Bool} {Q:Lo × List Lo→LZ→Prop} (X:K.In s.heap) (I:Jw s.heap x dx C mA) (hg:Og K C name=true)
  (hf:Sf K (.ref C) name=some (some (.ref f))) (ht:Iy K (.ref f)=true) (hv:mA name=none) (h:Q (.ref f,[.ref x]) s) :
  Sv (L9 prog w) A (Oh (.ref x) name pl) Q E s:=by
 obtain⟨od,J,hl⟩:=I.look
 exact PySem.W.method_fn X J (OJ hg).1 (OJ hg).2 hf (beq_iff_eq.mp ht) (by show (OP name od).map (·.isSome)=some false;rw[hl,hv];rfl) h
theorem HJ {ns:List Str} {Q:Unit→LZ→Prop} (X:K.In s.heap) (I:Jw s.heap x dx C mA)
  (hs:Sf K (.ref C) "__setattr__" = some (some (.builtin "object.__setattr__"))) (hp:EZ K C=true) (ht:Ie K C name=some none) (hh:N9 K C=true)
  (hw:Ij mA ns) (hsz:ns.length≤LI)
  (h:∀h',Jw h' x dx C (λy=>if y=name then some v else mA y)→OV dx s.heap h'→Q () { s with heap:=h',toks:=s.toks + 2 }) :
  Sv (L9 prog w) A (setAttr (.ref x) name v) Q E s:=by
 obtain⟨od,J,hl⟩:=I.look
 refine PySem.W.set_plain X J hs (PySem.W.osa_open (s:={ s with toks:=s.toks + 1 }) (r:=none) X J hp ht λb=>?_)
 obtain⟨cd,hc,hd'⟩:=PySem.W.any_some hh
 have hx:s.heap.get? x=some ⟨.ref C,some dx,.plain,#[]⟩:=I.obj
 refine L1 (Sn (L1 (L1 (wpAny_loadPart hx (L1 (zzl (s:={ s with toks:=s.toks + 1 }) (PySem.W.looks_clsIn X hc) ?_))))))
 rw[hd']
 refine Sn (a:=some dx) (L1 (Sn (L1 ?_)))
 refine wpAny_nsSet1 (s:={ s with toks:=s.toks + 1 }) I.ns λh' hn2 hs2=>?_
 obtain⟨oD,esD,epD,hoD,hdD,hcD⟩:=hn2.count (zzZ name v hw)
 refine L1 (wpAny_lookBehind hoD (by rw[hdD];exact pastItsLine_dict (S1 hcD (by rw[LQ];omega))) ?_)
 exact Sn (h _ ⟨(hs2.2 _ (SF I.ne)).trans I.obj,hn2,I.ne⟩ hs2)
theorem WN {R:Result→LZ→Prop} {vs:List Lo} {kw:List (Str × Lo)} (X:K.In s.heap) (hm:Ia K C=true)
  (hi:Sf K (.ref C) "__init__" = some (some (.ref f))) (hf:PySem.W.typeIn K (.ref f)=some (.type "function"))
  (h:NH (L9 prog w) (A.under (.builtin "type.__call__" ⟨.ref C :: vs,kw⟩)) (.call (.ref f) ⟨.ref (s.heap.objs.size + 1) :: vs,kw⟩) (PySem.W.InitBack (s.heap.objs.size + 1) R)
   { s with heap:=(s.heap.push Ts).push (TR C s.heap.objs.size) }) :
  NH (L9 prog w) A (.call (.ref C) ⟨vs,kw⟩) R s:=by
 obtain⟨hh,g,d,t,os⟩:=s
 exact PySem.W.make_core (PySem.W.makes_of X hm) (PySem.W.looks_findIn X hi) (λself=>PySem.W.bind_fn X self hf) (.inl rfl) h
end
noncomputable def zY (f:Str) (v:V):List (Str × V)→List (Str × V)
 | []=>[(f,v)]
 | (g,x) :: r=>if g=f then (g,v) :: r else (g,x) :: zY f v r
theorem rg (f g:Str) (v:V):∀fs:List (Str × V),(zY f v fs).lookup g=if g=f then some v else fs.lookup g
 | []=>by
  show TX g [(f,v)]=_
  by_cases h:g=f
  ·have hb:(g == f)=true:=beq_iff_eq.mpr h
   simp only[TX,hb,if_pos h]
  ·have hb:(g == f)=false:=beq_eq_false_iff_ne.mpr h
   simp only[TX,hb,if_neg h]
 | (k,x) :: r=>by
  have ih:=rg f g v r
  rw[show zY f v ((k,x) :: r)=(if k=f then (k,v) :: r else (k,x) :: zY f v r) from rfl]
  by_cases hk:k=f
  ·rw[if_pos hk]
   by_cases h:g=k
   ·have hb:(g == k)=true:=beq_iff_eq.mpr h
    simp only[TX,hb,if_pos (h.trans hk)]
   ·have hb:(g == k)=false:=beq_eq_false_iff_ne.mpr h
    simp only[TX,hb,if_neg (λe:g=f=>h (e.trans hk.symm))]
  ·rw[if_neg hk]
   by_cases h:g=k
   ·have hb:(g == k)=true:=beq_iff_eq.mpr h
    simp only[TX,hb,if_neg (λe:g=f=>hk (h.symm.trans e))]
   ·have hb:(g == k)=false:=beq_eq_false_iff_ne.mpr h
    simp only[TX,hb]
    exact ih
theorem uZ (f:Str) (v:V):∀fs:List (Str × V),f∈(zY f v fs).map (·.1)∧∀g,g∈fs.map (·.1)→g∈(zY f v fs).map (·.1)
 | []=>⟨by simp [zY],λg h=>by simp at h⟩
 | (k,x) :: r=>by
  obtain⟨i1,i2⟩:=uZ f v r
  rw[show zY f v ((k,x) :: r)=(if k=f then (k,v) :: r else (k,x) :: zY f v r) from rfl]
  by_cases hk:k=f
  ·rw[if_pos hk]
   subst hk
   exact⟨by simp,λg h=>by simpa using h⟩
  ·rw[if_neg hk]
   refine⟨?_,λg h=>?_⟩
   ·rw[LR]
    exact LK _ i1
   ·rw[LR] at h ⊢
    rcases La.mp h with e | e
    ·exact La.mpr (.inl e)
    ·exact LK _ (i2 g e)
theorem jm (f:Str) (v:V):∀fs:List (Str × V),(zY f v fs).length≤fs.length + 1
 | []=>by simp [zY]
 | (k,x) :: r=>by
  have ih:=jm f v r
  rw[show zY f v ((k,x) :: r)=(if k=f then (k,v) :: r else (k,x) :: zY f v r) from rfl]
  by_cases hk:k=f
  ·rw[if_pos hk,LQ,LQ];omega
  ·rw[if_neg hk,LQ,LQ];omega
theorem gv.some_of {v:V} {o:Option Lo} (r:gv (some v) o):∃u,o=some u∧RelV v u:=by
 cases o with
 | none=>exact(show False from r).elim
 | some u=>exact⟨u,rfl,r⟩
theorem gv.none_of {o:Option Lo} (r:gv none o):o=none:=by
 cases o with
 | none=>rfl
 | some u=>exact(show False from r).elim
theorem KL {v:V} {u:Lo} (r:RelV v u):EN u=true:=by
 cases v with
 | non=>cases (show u=Ed from r);rfl
 | bl b=>cases (show u=OH b from r);rfl
 | int i=>obtain⟨t,e⟩:=(show ∃t,u=I0 i t from r);cases e;rfl
 | str x=>obtain⟨t,e⟩:=(show ∃t,u=Ez x t from r);cases e;rfl
 | byt b=>obtain⟨t,e⟩:=(show ∃t,u=zzj b t from r);cases e;rfl
 | flt b=>obtain⟨t,e⟩:=(show ∃t,u=E7 b t from r);cases e;rfl
 | ref a=>cases (show u=SU a from r);rfl
 | ty n=>cases (show u=Av n from r);rfl
section
variable {P:LH} {w:Sz} {H H':Hp} {h h':Heap} {a C dx:Addr} {fs fs':List (Str × V)}
theorem lU (qx:fJ P w H h) (e:H a=some (.ins C dx fs)):∃mA,Jw h a dx C mA∧(∀f,gv (fs.lookup f) (mA f))∧Ij mA (fs.map (·.1))∧fs.length≤1000∧H dx=some (.own a):=by
 obtain⟨d,z,ne,ob,mA,n,r,q⟩:=(show qE P w H h a (.ins C dx fs) from qx a _ e)
 exact⟨mA,⟨ob,n,ne⟩,r,q,z,d⟩
end
structure c7 (K:Ls) (C:Addr):Prop where
 pg:Og K C zzX=true
 hd:N9 K C=true
 po:EZ K C=true
 sa:Sf K (.ref C) "__setattr__" = some (some (.builtin "object.__setattr__"))
theorem c7.get {K:Ls} {C:Addr} (c:c7 K C) (f:Str):Og K C f=true:=c.pg
def zH (K:Ls) (C:Addr) (f:Str):Prop:=Sf K (.ref C) f=some none
theorem zH.DA {K:Ls} {C:Addr} {f:Str} (n:zH K C f):Ie K C f=some none:=by
 unfold Ie
 rw[show Sf K (.ref C) f=some none from n]
 rfl
structure Rv (K:Ls) (C:Addr) (f:Str) (v:V) (u:Lo):Prop where
 at_:Sf K (.ref C) f=some (some u)
 rel:RelV v u
 get:NB K u "__get__" = some none
 cp:PySem.W.copiedNames.contains f=false
structure Meth (K:Ls) (C:Addr) (m:Str) (f:Addr):Prop where
 at_:Sf K (.ref C) m=some (some (.ref f))
 fn:Iy K (.ref f)=true
 kp:Tt K (.ref f)=true
section
variable {X:Cx} {pins:List (Addr × Obj)} {σ:St} {H:Hp} {s:LZ} {a C dx:Addr} {fs:List (Str × V)} {f:Str} {v:V} {A:SO} {E:Lo→LZ→Prop}
theorem Jo {b:Bool} {Q:Lo→LZ→Prop} (I:Inv X pins σ H s) (e:H a=some (.ins C dx fs)) (c:c7 X.K C) (n:zH X.K C f) (l:fs.lookup f=some v)
  (h:∀u s',Inv X pins σ H s'→RelV v u→Q u s'):Sv (L9 X.prog X.w) A (getAttr (.ref a) f b) Q E s:=by
 obtain⟨mA,O,r,_,_,_⟩:=lU I.qx e
 obtain⟨u,hu,ru⟩:=gv.some_of (v:=v) (o:=mA f) (by rw[←l];exact r f)
 exact get_map I.di O (c.get f) c.hd n hu (KL ru) (h u _ (I.tok _) ru)
theorem gQ {m:Str} {g:Addr} {pl:Sem Bool} {Q:Lo × List Lo→LZ→Prop} (I:Inv X pins σ H s) (e:H a=some (.ins C dx fs)) (c:c7 X.K C) (k:Meth X.K C m g) (l:fs.lookup m=none)
  (h:Q (.ref g,[.ref a]) s):Sv (L9 X.prog X.w) A (Oh (.ref a) m pl) Q E s:=by
 obtain⟨mA,O,r,_,_,_⟩:=lU I.qx e
 have hn:mA m=none:=gv.none_of (by rw[←l];exact r m)
 exact We I.di O (c.get m) k.at_ k.fn hn h
theorem Xk {y:V} {u:Lo} {Q:Unit→LZ→Prop} (I:Inv X pins σ H s) (e:H a=some (.ins C dx fs)) (c:c7 X.K C) (n:zH X.K C f) (hl:fs.length < 1000) (ry:RelV y u)
  (h:∀s',Inv X pins σ (upd H a (.ins C dx (zY f y fs))) s'→Q () s'):Sv (L9 X.prog X.w) A (setAttr (.ref a) f u) Q E s:=by
 obtain⟨mA,O,r,wi,_,ho⟩:=lU I.qx e
 have hz:(fs.map (·.1)).length≤LI:=by rw[Ln,sizeLine_eq];omega
 refine HJ I.di O c.sa c.po n.DA c.hd wi hz λh' O' sb=>h _ ?_
 have hd:∃o,h'.get? dx=some o:=let ⟨o,_,_,e',_⟩:=O'.ns;⟨o,e'⟩
 refine I.write (x:=a) (e:=dx) (by rw[e];exact Tz) (.inr ho) (λb q hb z=>(sb.2 b hb).trans z) hd ?_
 refine⟨by rw[zP O.ne];exact ho,?_,O.ne,O'.obj,_,O'.ns,λg=>?_,λg hg=>?_⟩
 ·have:=jm f y fs;omega
 ·show gv ((zY f y fs).lookup g) (if g=f then some u else mA g)
  rw[rg]
  by_cases q:g=f
  ·rw[if_pos q,if_pos q];exact ry
  ·rw[if_neg q,if_neg q];exact r g
 ·by_cases q:g=f
  ·rw[q];exact(uZ f y fs).1
  ·refine(uZ f y fs).2 g (wi g λz=>hg ?_)
   show (if g=f then some u else mA g)=none
   rw[if_neg q];exact z
theorem Inv.made (I:Inv X pins σ H s):Inv X pins σ (upd (upd H s.heap.objs.size (.own (s.heap.objs.size + 1))) (s.heap.objs.size + 1) (.ins C s.heap.objs.size []))
  { s with heap:=(s.heap.push Ts).push (TR C s.heap.objs.size) }:=by
 have e1:(s.heap.push Ts).get? s.heap.objs.size=some Ts:=Se s.heap rfl
 have e2:((s.heap.push Ts).push (TR C s.heap.objs.size)).get? (s.heap.objs.size + 1)=some (TR C s.heap.objs.size):=by
  have:=Se (s.heap.push Ts) (o:=TR C s.heap.objs.size) rfl
  rwa [OF] at this
 have e3:(s.heap.push Ts).Ns s.heap.objs.size (λ_=>none):=⟨Ts,#[],_,e1,rfl,(λe he=>absurd he (by simp)),λ_=>rfl⟩
 have I1:=I.laid (a:=s.heap.objs.size) (o:=.own (s.heap.objs.size + 1)) (h':=s.heap.push Ts) (t':=s.toks) (λb u q=>LB _ q) (LF _) ⟨_,e1⟩
 refine I1.laid (a:=s.heap.objs.size + 1) (o:=.ins C s.heap.objs.size []) (t':=s.toks) (λb u q=>LB _ q) (OW (OF _ _)) ?_
 have ne:s.heap.objs.size≠s.heap.objs.size + 1:=SJ (EO _)
 refine⟨by rw[zP ne,zm],Sy _,ne,e2,λ_=>none,(Heap.Ns1.of_empty e3).at λo q=>LB _ q,λ_=>Tz,λy hy=>absurd rfl hy⟩
theorem Ga {prog:LH} {w:Sz} {env:Env} {e:Expr} {f:Str} {pos:Pos} {s:LZ} {Q:Lo→LZ→Prop} (hb:Ny e f env (eval e env)=eval e env)
  (h:Sv (L9 prog w) A (eval e env) (λo s₁=>Sv (L9 prog w) A (getAttr o f true) Q E s₁) E s):Sv (L9 prog w) A (eval (.Attribute e f pos) env) Q E s:=
 Attribute_any_ h (by rw[arm_eval_Attribute,hb])
end
def Uw (K:Ls) (ta:TE) (f:Str):TE:=λσ H Q=>ta σ H λx H1=>∃a C dx fs v,x=.ref a∧H1 a=some (.ins C dx fs)∧c7 K C∧zH K C f∧fs.lookup f=some v∧Q v H1
def RO (K:Ls) (ta:TE) (f:Str):TE:=λσ H Q=>ta σ H λx H1=>∃a C dx fs v u,x=.ref a∧H1 a=some (.ins C dx fs)∧c7 K C∧Rv K C f v u∧fs.lookup f=none∧Q v H1
def C3 (K:Ls) (ta tv:TE) (f:Str):TS:=λD σ H=>tv σ H λy H1=>ta σ H1 λx H2=>∃a C dx fs,x=.ref a∧H2 a=some (.ins C dx fs)∧c7 K C∧zH K C f∧fs.length < 1000∧
 D.nx σ (upd H2 a (.ins C dx (zY f y fs)))
def Rg (X:Cx) (op:Operator) (rd:V→V→Hp→VK→Prop):Prop:=
 ∀(pins:List (Addr × Obj)) (s:LZ) (σ:St) (H:Hp) (x y:V) (u v:Lo) (Q:VK),Inv X pins σ H s→RelV x u→RelV y v→rd x y H Q→Sv (L9 X.prog X.w) X.A (inplaceOp op u v) (EP X pins σ Q) X.xe s
def Cq (K:Ls) (ta tv:TE) (rd:V→V→Hp→VK→Prop) (f:Str):TS:=λD σ H=>ta σ H λx H1=>∃a C dx fs v,x=.ref a∧H1 a=some (.ins C dx fs)∧c7 K C∧zH K C f∧fs.lookup f=some v∧
 tv σ H1 λy H2=>rd v y H2 λz H3=>∃dx' fs',H3 a=some (.ins C dx' fs')∧fs'.length < 1000∧D.nx σ (upd H3 a (.ins C dx' (zY f z fs')))
section
variable {X:Cx} {o e value:Expr} {f:Str} {pos pos' tpos:Pos} {ta tv:TE}
theorem Fb (he:PE X e ta) (hb:Ny e f X.env (eval e X.env)=eval e X.env):PE X (.Attribute e f pos) (Uw X.K ta f):=by
 intro pins s σ H Q I h
 refine Ga hb (qC (he pins s σ H _ I h) λu s1 ⟨x,H1,I1,rx,a,C,dx,fs,v,ex,ea,c,n,l,q⟩=>?_)
 subst ex
 obtain rfl:u=SU a:=rx
 exact Jo I1 ea c n l λu' s2 I2 ru=>⟨v,H1,I2,ru,q⟩
theorem qT (ha:PE X o ta) (hv:PE X value tv) (hs:O4 value (some (.Attribute o f pos')) pos.line X.env=pure false):PS X (.Assign [.Attribute o f pos'] value pos) (C3 X.K ta tv f):=by
 intro pins s σ H D I h
 refine plainObj_wpAny_Assign_Attribute (qC (hv pins s σ H _ I h) λu s1 ⟨y,H1,I1,ry,q⟩=>qC (ha pins s1 σ H1 _ I1 q) λov s2 ⟨x,H2,I2,rx,a,C,dx,fs,ex,ea,c,n,l,q2⟩=>?_) hs
 subst ex
 obtain rfl:ov=SU a:=rx
 exact Xk I2 ea c n l ry λs3 I3=>⟨σ,_,I3,q2⟩
def RP:V→V→Hp→VK→Prop:=λx y H Q=>∃i j,x=.int i∧y=.int j∧Q (.int (i + j)) H
def RU:V→V→Hp→VK→Prop:=λx y H Q=>∃i j,x=.int i∧y=.int j∧Q (.int (i - j)) H
theorem Bp {pl:Sem Bool} {m:Str} {apos:Pos} {args:List Expr} {pins:List (Addr × Obj)} {s:LZ} {σ:St} {H:Hp} {Q:Lo→LZ→Prop} {te:TE} (he:PE X e te) (I:Inv X pins σ H s)
  (h:te σ H λx H1=>∃a C dx fs g,x=.ref a∧H1 a=some (.ins C dx fs)∧c7 X.K C∧Meth X.K C m g∧fs.lookup m=none∧
   ∀s1,Inv X pins σ H1 s1→Sv (L9 X.prog X.w) X.A (callWith pos (.ref g) [.ref a] (backTo pos (Sg args X.env)) (NC pos (TC [] X.env))) Q X.xe s1)
  (ht:eval (.Call (.Attribute e m apos) args [] pos) X.env=(do
   let ov ←eval e X.env
   standAt apos.atName
   let (f,first) ←holding [ov] (Oh ov m pl)
   callWith pos f first (backTo pos (Sg args X.env)) (NC pos (TC [] X.env)))) :
  Sv (L9 X.prog X.w) X.A (eval (.Call (.Attribute e m apos) args [] pos) X.env) Q X.xe s:=by
 refine T8 (pl:=pl) (qC (he pins s σ H _ I h) λu s1 ⟨x,H1,I1,rx,a,C,dx,fs,g,ex,ea,c,k,l,q⟩=>?_) ht
 subst ex
 obtain rfl:u=SU a:=rx
 exact gQ I1 ea c k l (q s1 I1)
end
section
variable {X:Cx} {pins:List (Addr × Obj)} {σ:St} {H:Hp} {s:LZ} {A:SO} {E:Lo→LZ→Prop} {Q:Lo→LZ→Prop} {c:Lo} {b:Bool}
inductive xm (K:Ls) (H:Hp):V→Lo→Prop where
 | non:xm K H .non (.type "NoneType")
 | bl (x:Bool):xm K H (.bl x) (.type "bool")
 | int (i:Int):xm K H (.int i) (.type "int")
 | str (x:Str):xm K H (.str x) (.type "str")
 | flt (x:UInt64):xm K H (.flt x) (.type "float")
 | lst {a:Addr} {xs:List V} (e:H a=some (.lst xs)):xm K H (.ref a) (.type "list")
 | frz {a:Addr} {o:Obj} {xs:List V} (e:H a=some (.frz o (.lst xs))):xm K H (.ref a) (.type "list")
 | tup {a:Addr} {xs:List V} (e:H a=some (.tup xs)):xm K H (.ref a) (.type "tuple")
 | dK {a:Addr} {kvs:List (Key × V)} (e:H a=some (.dK kvs)):xm K H (.ref a) (.type "dict")
 | dT {a:Addr} {kvs:List (List Key × V)} (e:H a=some (.dT kvs)):xm K H (.ref a) (.type "dict")
 | ins {a C dx:Addr} {fs:List (Str × V)} (e:H a=some (.ins C dx fs)) (cl:c7 K C) (ha:Sf K (.ref C) "__class__" = some (some (.builtin "object.__class__")))
   (hn:NB K (.builtin "object.__class__") "__get__" = some (some (.builtin "getset_descriptor.__get__"))) (lD:IZ K (.builtin "object.__class__")=some true)
   (hm:To K C (.type "object")=some true):xm K H (.ref a) (.ref C)
theorem KI {x:V} {u t:Lo} (I:Inv X pins σ H s) (rx:RelV x u) (ty:xm X.K H x t) (e:SQ X.K t c=some b) (h:∀tk,Q (.bool b) { s with toks:=tk }) :
  Sv (L9 X.prog X.w) A (call (.builtin "isinstance") [u,c]) Q E s:=by
 cases ty with
 | non=>cases (show u=Ed from rx);exact Tf PySem.W.kitx_none I.di Tz e (λz=>nomatch z) h
 | bl y=>cases (show u=OH y from rx);exact Tf PySem.W.kitx_bool I.di Tz e (λz=>nomatch z) h
 | int i=>obtain⟨t,q⟩:=(show ∃t,u=I0 i t from rx);cases q;exact Tf PySem.W.kitx_int I.di Tz e (λz=>nomatch z) h
 | str y=>obtain⟨t,q⟩:=(show ∃t,u=Ez y t from rx);cases q;exact Tf PySem.W.kitx_str I.di Tz e (λz=>nomatch z) h
 | flt y=>obtain⟨t,q⟩:=(show ∃t,u=E7 y t from rx);cases q;exact Tf PySem.W.kitx_float I.di Tz e (λz=>nomatch z) h
 | @lst a xs ea=>
  cases (show u=SU a from rx)
  obtain⟨_,_,n,_,h1⟩:=(show qE X.prog X.w H s.heap a (.lst xs) from I.qx a _ ea)
  exact Tf EJ I.di ⟨_,h1,rfl⟩ e (λz=>nomatch z) h
 | @frz a ob xs ea=>
  cases (show u=SU a from rx)
  obtain⟨_,_,_,n,_,h1⟩:=(show qE X.prog X.w H s.heap a (.frz ob (.lst xs)) from I.qx a _ ea)
  exact Tf EJ I.di ⟨_,h1,rfl⟩ e (λz=>nomatch z) h
 | @tup a xs ea=>
  cases (show u=SU a from rx)
  obtain⟨_,_,_,p⟩:=(show qE X.prog X.w H s.heap a (.tup xs) from I.qx a _ ea)
  obtain⟨o,h1,h2,_⟩:=p
  exact Tf PySem.W.kitx_tuple I.di ⟨o,h1,h2⟩ e (λz=>nomatch z) h
 | @dK a kvs ea=>
  cases (show u=SU a from rx)
  obtain⟨_,_,vs,_,p⟩:=(show qE X.prog X.w H s.heap a (.dK kvs) from I.qx a _ ea)
  obtain⟨o,es,ep,h1,h2,_⟩:=p
  exact Tf EX I.di ⟨o,h1,h2.1⟩ e (λz=>nomatch z) h
 | @dT a kvs ea=>
  cases (show u=SU a from rx)
  obtain⟨_,_,xs,_,o,es,ep,h1,h2,_⟩:=(show qE X.prog X.w H s.heap a (.dT kvs) from I.qx a _ ea)
  exact Tf EX I.di ⟨o,h1,h2.1⟩ e (λz=>nomatch z) h
 | @ins a C dx fs ea cl ha hn lD hm=>
  cases (show u=SU a from rx)
  obtain⟨mA,O,_⟩:=lU I.qx ea
  obtain⟨od,J,_⟩:=O.look
  exact Tf (PySem.W.kitx_own (cl.get _) cl.hd ha hn lD hm) I.di J e (λz=>nomatch z) h
end
end L2
namespace L2
open PySem PySem.Spec PyProof.Rows
structure xG (k:Nat) (A:SO):Prop where
 hd:A.handled=none
 dp:A.depth + 3 * k + 5 < recursionLimit
 un:A.units + 16 * k + 200 < cLine
theorem xG.mono {j k:Nat} {A:SO} (r:xG k A) (h:j≤k):xG j A:=⟨r.hd,by have:=r.dp;omega,by have:=r.un;omega⟩
theorem xG.deeper {k:Nat} {A:SO} (r:xG (k + 1) A) (env:Env):xG k (A.deeper env):=
 ⟨r.hd,by have:=r.dp;show A.depth + 1 + 3 * k + 5 < _;omega,by have:=r.un;show A.units + 3 + 16 * k + 200 < _;omega⟩
theorem JX {A:SO} {C:Addr} {us:List Lo} {kw:List (Str × Lo)}:(A.under (.builtin "type.__call__" ⟨.ref C :: us,kw⟩)).depth=A.depth + 1:=by
 first | rfl | simp [EK,Code.weight,Code.isCreation,Code.isGuard,Code.isCaller,zzx,EV,guardIds]
theorem JK {A:SO} {C:Addr} {us:List Lo} {kw:List (Str × Lo)}:(A.under (.builtin "type.__call__" ⟨.ref C :: us,kw⟩)).units=A.units + 1:=by
 first | rfl | simp [EK,Code.cUnits,zzx,EV]
theorem xG.make {k:Nat} {A:SO} (r:xG (k + 1) A) (C:Addr) (us:List Lo) (kw:List (Str × Lo)):xG k (A.under (.builtin "type.__call__" ⟨.ref C :: us,kw⟩)):=
 ⟨r.hd,by have:=r.dp;rw[JX];omega,by have:=r.un;rw[JK];omega⟩
theorem xG.depth {k:Nat} {A:SO} (r:xG k A):A.depth < recursionLimit:=by have:=r.dp;omega
theorem xG.units {k:Nat} {A:SO} (r:xG k A):A.units + 64 < cLine:=by have:=r.un;omega
def HH:TA:=λ_ H Q=>Q [] H
def DC (ta:TE) (tr:TA):TA:=λσ H Q=>ta σ H λx H1=>tr σ H1 λxs H2=>Q (x :: xs) H2
section
variable {X:Cx} {e:Expr} {es:List Expr} {te:TE} {t:TA} {pos:Pos}
theorem zj:PA X [] HH:=λ_ _ _ _ H Q I h=>Calls.spliced_nil ⟨[],H,I,.nil,h⟩
theorem zz (ha:PE X e te) (hr:PA X es t) (hs:Sg (e :: es) X.env=(false,eval e X.env) :: Sg es X.env:=by rfl):PA X (e :: es) (DC te t):=by
 intro pos pins s σ H Q I h
 rw[hs]
 show Sv _ _ (spliced ((false,eval e X.env) :: backTo pos (Sg es X.env))) _ _ s
 refine Calls.spliced_cons (qC (ha pins s σ H _ I h) λu s1 ⟨x,H1,I1,r1,q1⟩=>?_)
 exact qC (hr pos pins s1 σ H1 _ I1 q1) λus s2 ⟨xs,H2,I2,r2,q2⟩=>⟨x :: xs,H2,I2,.cons r1 r2,q2⟩
def Ud (t:TA):TE:=λσ H Q=>t σ H λxs H1=>xs.length≤LI∧∀p,H1 p=none→Q (.ref p) (upd H1 p (.tup xs))
def Uy (t:TA):TE:=λσ H Q=>t σ H λxs H1=>xs.length≤LI∧∀p,H1 p=none→Q (.ref p) (upd H1 p (.lst xs))
theorem Fd {x1} (h:PA X es t):PE X (.Tuple es x1 pos) (Ud t):=by
 intro pins s σ H Q I hq
 refine wpAny_Tuple_spliced (qC (h pos pins s σ H _ I hq) λus s1 ⟨xs,H1,I1,r,z,q⟩=>⟨by rw[←r.length];exact z,?_⟩)
 have hf:H1 s1.heap.objs.size=none:=I1.qx.fresh (LF _)
 refine⟨.ref s1.heap.objs.size,upd H1 s1.heap.objs.size (.tup xs),I1.laid (t':=s1.toks) (λb u e=>LB _ e) (LF _) ?_,rfl,q _ hf⟩
 exact⟨z,us,r,⟨_,Se _ rfl,rfl,_,rfl⟩⟩
theorem Fp (h:PA X es t):PE X (.List es pos) (Uy t):=by
 intro pins s σ H Q I hq
 refine wpAny_List_spliced (qC (h pos pins s σ H _ I hq) λus s1 ⟨xs,H1,I1,r,z,q⟩=>⟨by rw[←r.length];exact z,?_⟩)
 have hf:H1 s1.heap.objs.size=none:=I1.qx.fresh (LF _)
 refine⟨.ref s1.heap.objs.size,upd H1 s1.heap.objs.size (.lst xs),I1.laid (t':=s1.toks) (λb u e=>LB _ e) (LF _) ?_,rfl,q _ hf⟩
 exact⟨z,us,0,r,Se _ rfl⟩
end
noncomputable abbrev Sp:=List V→Hp→VK→XK→Prop
noncomputable abbrev rD:=List Env→Hp→LZ→XK→Lo→LZ→Prop
structure ZT (P:LH) (w:Sz) (K:Ls) (mg:Str→Option Lo) (base:Heap) (A:SO) (outer:List Env) (s:LZ) (H:Hp):Prop where
 frames:A.frames=some outer
 mod:Mod K mg base
 bs:∀b o,base.get? b=some o→s.heap.get? b=some o∧H b=none
 VS:base.objs.size≤s.heap.objs.size
 ui:s.heap.FunFrames base outer
 Bx:∀b∈Jt outer,H b=none
 qx:fJ P w H s.heap
 bare:AllBare s.gens
def CE (outer:List Env) (P:LH) (w:Sz) (H:Hp) (s:LZ) (Q:VK) (u:Lo) (s':LZ):Prop:=
 ∃v H',s'.os=s.os∧AllBare s'.gens∧Un (Jt outer) [] H H' s.heap s'.heap∧fJ P w H' s'.heap∧RelV v u∧Q v H'
def CR (CX:rD) (outer:List Env) (P:LH) (w:Sz) (H:Hp) (s:LZ) (Q:VK) (E:XK) (r:Result) (s':LZ):Prop:=
 match r with
 | .ok (.ret u)=>CE outer P w H s Q u s'
 | .ok _=>False
 | .error e=>CX outer H s E e s'
structure ze (P:LH) (w:Sz) (K:Ls) (mg:Str→Option Lo) (base:Heap) (CX:rD) (k:Nat) (f:Addr) (fd:LG) (ps:List Str) (sp:Sp):Prop where
 len:∀vs H Q E,sp vs H Q E→vs.length=ps.length
 run:∀(A:SO) (outer:List Env) (s:LZ) (H:Hp) (args:Args) (us:List Lo) (vs:List V) (Q:VK) (E:XK),xG k A→ZT P w K mg base A outer s H→BindsTo s fd args (ps.zip us)→Vals vs us→sp vs H Q E→
  NH (L9 P w) A (.call (.ref f) args) (CR CX outer P w H s Q E) s
theorem ze.mono {P:LH} {w:Sz} {K:Ls} {mg:Str→Option Lo} {base:Heap} {CX:rD} {j k:Nat} {f:Addr} {fd:LG} {ps:List Str} {sp:Sp} (F:ze P w K mg base CX j f fd ps sp) (h:j≤k) :
  ze P w K mg base CX k f fd ps sp:=⟨F.len,λA outer s H args us vs Q E hr=>F.run A outer s H args us vs Q E (hr.mono h)⟩
theorem ze.imp {P:LH} {w:Sz} {K:Ls} {mg:Str→Option Lo} {base:Heap} {CX:rD} {k:Nat} {f:Addr} {fd:LG} {ps:List Str} {sp sp':Sp} (F:ze P w K mg base CX k f fd ps sp)
  (h:∀vs H Q E,sp' vs H Q E→sp vs H Q E):ze P w K mg base CX k f fd ps sp':=
 ⟨λvs H Q E q=>F.len vs H Q E (h _ _ _ _ q),λA outer s H args us vs Q E hr he hb hv hs=>F.run A outer s H args us vs Q E hr he hb hv (h _ _ _ _ hs)⟩
theorem ZT.make {P:LH} {w:Sz} {K:Ls} {mg:Str→Option Lo} {base:Heap} {A:SO} {outer:List Env} {s:LZ} {H:Hp} (e:ZT P w K mg base A outer s H) (C:Addr) (us:List Lo) (kw:List (Str × Lo)) :
  ZT P w K mg base (A.under (.builtin "type.__call__" ⟨.ref C :: us,kw⟩)) outer s H:=⟨by first | exact e.frames | (simpa [EK,Code.envs,EV,pushEnvs] using e.frames),e.mod,e.bs,e.VS,e.ui,e.Bx,e.qx,e.bare⟩
section
variable {X:Cx} {pins:List (Addr × Obj)} {σ:St} {H:Hp} {s s':LZ}
theorem Inv.MF (I:Inv X pins σ H s):ZT X.prog X.w X.K X.mg X.base X.A X.stack s H:=
 ⟨I.ok.frames,I.ok.mod,I.bs,S1 I.ok.VS I.sz,I.stack,I.ZY,I.qx,I.bare⟩
theorem Inv.after {Q:VK} {u:Lo} (I:Inv X pins σ H s) (h:CE X.stack X.prog X.w H s Q u s'):EP X pins σ Q u s':=by
 obtain⟨v,H',os,bare,un,qx,r,q⟩:=h
 obtain⟨hh,g,d,t,os'⟩:=s'
 obtain rfl:os'=s.os:=os
 exact⟨v,H',I.call (h':=hh) (g':=g) (d':=d) (t':=t) (ch:=[]) un qx bare (λb z=>absurd z (by simp)),r,q⟩
end
def BL (sp:Sp) (dvs:List V) (E:XK) (t:TA):TE:=λσ H Q=>t σ H λvs H1=>sp (vs ++ dvs) H1 Q E
def U4 (C:Addr) (m:Str) (sp:Sp) (dvs:List V) (E:XK) (ta:TE) (t:TA):TE:=λσ H Q=>ta σ H λx H1=>∃a dx fs,x=.ref a∧H1 a=some (.ins C dx fs)∧fs.lookup m=none∧
 t σ H1 λvs H2=>sp (x :: (vs ++ dvs)) H2 Q E
def BN (C:Addr) (sp:Sp) (dvs:List V) (E:XK) (t:TA):TE:=λσ H Q=>t σ H λvs H1=>∀x dx,H1 x=none→H1 dx=none→dx≠x→
 sp (.ref x :: (vs ++ dvs)) (upd (upd H1 dx (.own x)) x (.ins C dx [])) (λv H2=>v=.non∧Q (.ref x) H2) E
def Binds (K:Ls) (fd:LG) (ps:List Str) (ds:List Lo):Prop:=
 ∀(s:LZ) (us:List Lo),K.In s.heap→(us ++ ds).length=ps.length→BindsTo s fd ⟨us,[]⟩ (ps.zip (us ++ ds))
theorem Binds.all {K:Ls} {fd:LG} {ps:List Str} (h:∀us:List Lo,us.length=ps.length→bindArgs fd ⟨us,[]⟩=pure (ps.zip us)):Binds K fd ps []:=λs us _ hl=>by
 rw[Sd] at hl ⊢
 exact .of_eq (h us hl)
def Passes (CX:rD) (X:Cx) (E:XK):Prop:=∀(pins:List (Addr × Obj)) (σ:St) (H:Hp) (s:LZ) (e:Lo) (s':LZ),Inv X pins σ H s→CX X.stack H s E e s'→X.xe e s'
section
variable {X:Cx} {CX:rD} {k:Nat} {f C:Addr} {fd:LG} {ps:List Str} {sp:Sp} {dvs:List V} {ds:List Lo} {E:XK} {x m:Str} {p pos apos:Pos} {e o:Expr} {es:List Expr} {ta:TE} {t:TA}
theorem nC {pins:List (Addr × Obj)} {σ:St} {H:Hp} {s:LZ} {Q:VK} {us:List Lo} {vs:List V} (F:ze X.prog X.w X.K X.mg X.base CX k f fd ps sp) (hr:xG k X.A) (hb:Binds X.K fd ps ds) (hd:Vals dvs ds) (hx:Passes CX X E)
  (I:Inv X pins σ H s) (r:Vals vs us) (h:sp (vs ++ dvs) H Q E):Sv (L9 X.prog X.w) X.A (call (.ref f) us) (EP X pins σ Q) X.xe s:=by
 have r2:Vals (vs ++ dvs) (us ++ ds):=r.append hd
 have hl:(us ++ ds).length=ps.length:=by rw[←r2.length];exact F.len _ _ _ _ h
 refine Ah (Oz (F.run X.A X.stack s H ⟨us,[]⟩ (us ++ ds) (vs ++ dvs) Q E hr I.MF (hb s us I.di hl) r2 h) λr s' hq=>?_)
 cases r with
 | error e=>exact hx pins σ H s e s' I hq
 | ok fl=>
  cases fl with
  | ret u=>exact I.after hq
  | next=>exact S6 hq
  | brk=>exact S6 hq
  | cont=>exact S6 hq
theorem zi (F:ze X.prog X.w X.K X.mg X.base CX k f fd ps sp) (hr:xG k X.A) (hg:Gl X x) (hm:X.mg x=some (.ref f)) (hk:Tt X.K (.ref f)=true) (hb:Binds X.K fd ps ds) (hd:Vals dvs ds) (hx:Passes CX X E)
  (ha:PA X (e :: es) t) (hdb:(x == ("__debug__" : Str))=false:=by decide) (he:Sg (e :: es) X.env=(false,eval e X.env) :: Sg es X.env:=by rfl) (hpl:(backTo pos (Sg es X.env)).any (·.1)=false:=by rfl) :
  PE X (.Call (.Name x p) (e :: es) [] pos) (BL sp dvs E t):=by
 intro pins s σ H Q I h
 refine T6 (d6 I hg hm ?_ hdb)
 refine Nt (h₀:=X.base) I.ok.mod.PQ hk (qC (ha pos pins s σ H _ I h) λus s1 ⟨vs,H1,I1,r,q⟩=>⟨I1.di,?_⟩) he hpl
 exact nC F hr hb hd hx I1 r q
structure Mk (K:Ls) (C f:Addr):Prop where
 makes:Ia K C=true
 init:Sf K (.ref C) "__init__" = some (some (.ref f))
 fn:Iy K (.ref f)=true
 kp:Tt K (.ref C)=true
theorem QT {pins:List (Addr × Obj)} {σ:St} {H:Hp} {s:LZ} {Q:VK} {us:List Lo} {vs:List V} (M:Mk X.K C f) (F:ze X.prog X.w X.K X.mg X.base CX k f fd ps sp) (hr:xG (k + 1) X.A) (hb:Binds X.K fd ps ds) (hd:Vals dvs ds)
  (hx:Passes CX X E) (I:Inv X pins σ H s) (r:Vals vs us)
  (h:∀x dx,H x=none→H dx=none→dx≠x→sp (.ref x :: (vs ++ dvs)) (upd (upd H dx (.own x)) x (.ins C dx [])) (λv H2=>v=.non∧Q (.ref x) H2) E) :
  Sv (L9 X.prog X.w) X.A (call (.ref C) us) (EP X pins σ Q) X.xe s:=by
 have hq:=h (s.heap.objs.size + 1) s.heap.objs.size (I.qx.fresh (Ol _)) (I.qx.fresh (LF _)) (SJ (EO _))
 have I2:=Inv.made (C:=C) I
 have r2:Vals (V.ref (s.heap.objs.size + 1) :: (vs ++ dvs)) (SU (s.heap.objs.size + 1) :: (us ++ ds)):=.cons rfl (r.append hd)
 have hl:(SU (s.heap.objs.size + 1) :: us ++ ds).length=ps.length:=by
  have e:=r2.length
  rw[F.len _ _ _ _ hq] at e
  exact e.symm
 refine Ah (WN (f:=f) I.di M.makes M.init (beq_iff_eq.mp M.fn) (Oz (F.run _ X.stack _ _ ⟨SU (s.heap.objs.size + 1) :: us,[]⟩ (SU (s.heap.objs.size + 1) :: (us ++ ds)) _ _ E (hr.make C us [])
  (I2.MF.make C us []) (hb _ (SU (s.heap.objs.size + 1) :: us) I2.di hl) r2 hq) λr s' hq'=>?_))
 cases r with
 | error e=>exact hx pins σ _ _ e s' I2 hq'
 | ok fl=>
  cases fl with
  | ret u=>
   obtain⟨v,H',I3,rv,ev,q3⟩:=I2.after hq'
   subst ev
   exact⟨rv,⟨V.ref (s.heap.objs.size + 1),H',I3,rfl,q3⟩⟩
  | next=>exact S6 hq'
  | brk=>exact S6 hq'
  | cont=>exact S6 hq'
theorem qH (M:Mk X.K C f) (F:ze X.prog X.w X.K X.mg X.base CX k f fd ps sp) (hr:xG (k + 1) X.A) (hg:Gl X x) (hm:X.mg x=some (.ref C)) (hb:Binds X.K fd ps ds) (hd:Vals dvs ds) (hx:Passes CX X E)
  (ha:PA X (e :: es) t) (hdb:(x == ("__debug__" : Str))=false:=by decide) (he:Sg (e :: es) X.env=(false,eval e X.env) :: Sg es X.env:=by rfl) (hpl:(backTo pos (Sg es X.env)).any (·.1)=false:=by rfl) :
  PE X (.Call (.Name x p) (e :: es) [] pos) (BN C sp dvs E t):=by
 intro pins s σ H Q I h
 refine T6 (d6 I hg hm ?_ hdb)
 refine Nt (h₀:=X.base) I.ok.mod.PQ M.kp (qC (ha pos pins s σ H _ I h) λus s1 ⟨vs,H1,I1,r,q⟩=>⟨I1.di,?_⟩) he hpl
 exact QT M F hr hb hd hx I1 r q
theorem Yd (M:Mk X.K C f) (F:ze X.prog X.w X.K X.mg X.base CX k f fd ps sp) (hr:xG (k + 1) X.A) (hg:Gl X x) (hm:X.mg x=some (.ref C)) (hb:Binds X.K fd ps ds) (hd:Vals dvs ds) (hx:Passes CX X E)
  (hdb:(x == ("__debug__" : Str))=false:=by decide):PE X (.Call (.Name x p) [] [] pos) (BN C sp dvs E HH):=by
 intro pins s σ H Q I h
 refine T6 (d6 I hg hm ?_ hdb)
 exact Ex I.di M.kp (QT (us:=[]) M F hr hb hd hx I .nil h)
end
def PK (X:Cx) (kws:List Keyword) (t:TA):Prop:=
 ∀(pos:Pos) (pins:List (Addr × Obj)) (s:LZ) (σ:St) (H:Hp) (Q:List V→Hp→Prop),Inv X pins σ H s→t σ H Q→Sv (L9 X.prog X.w) X.A (evalAll ((NC pos (TC kws X.env)).map (·.2))) (AP X pins σ Q) X.xe s
section
variable {X:Cx} {CX:rD} {k:Nat} {f C:Addr} {fd:LG} {ps ks:List Str} {sp:Sp} {E:XK} {x m:Str} {p pos apos kpos:Pos} {e o:Expr} {es:List Expr} {kws:List Keyword} {te ta:TE} {t tk:TA} {nm:Option Str}
structure Cu (K:Ls) (fd:LG) (ps ks:List Str) (g:List Lo→List Lo→List Lo) (gV:List V→List V→List V):Prop where
 to:∀(s:LZ) (us ws:List Lo),K.In s.heap→(g us ws).length=ps.length→BindsTo s fd ⟨us,ks.zip ws⟩ (ps.zip (g us ws))
 rel:∀{vs:List V} {us:List Lo} {zs:List V} {ws:List Lo},Vals vs us→Vals zs ws→Vals (gV vs zs) (g us ws)
def C9 (sp:Sp) (gV:List V→List V→List V) (E:XK) (t tk:TA):TE:=λσ H Q=>t σ H λvs H1=>tk σ H1 λzs H2=>sp (gV vs zs) H2 Q E
variable {g:List Lo→List Lo→List Lo} {gV:List V→List V→List V}
end
structure zu (N P:List Str) (sc:Scope):Prop where
 kind:sc.kind=.function
 co:sc.isCoroutine=false
 gen:sc.isGenerator=false
 nd:N.Nodup
 pre:N.take P.length=P
 par:∀x∈P,sc.names.lookup x=some .local∨sc.names.lookup x=some .cell
 P4:∀y∈sc.names,y.2≠.free
theorem iD {kindOf:Str→Option Ot} {x:Str}:∀{binds:List (Str × Lo)} {m:Str→Option Lo},(∀v,(x,v)∉binds)→bindL kindOf binds m x=m x
 | [],_,_=>rfl
 | (n,v) :: r,m,h=>by
  unfold bindL
  rw[iD λw hw=>h w (LK _ hw)]
  split
  ·have:x≠n:=by rintro rfl;exact h v Sw
   simp [this]
  ·rfl
theorem iF {kindOf:Str→Option Ot} {x:Str}:∀{binds:List (Str × Lo)} {m:Str→Option Lo},(∀v,(x,v)∉binds)→bindC kindOf binds m x=m x
 | [],_,_=>rfl
 | (n,v) :: r,m,h=>by
  unfold bindC
  rw[iF λw hw=>h w (LK _ hw)]
  split
  ·rfl
  ·have:x≠n:=by rintro rfl;exact h v Sw
   simp [this]
theorem iM {kindOf:Str→Option Ot} {x:Str} {v:Lo}:∀{P:List Str} {vs:List Lo} {i:Nat} {m:Str→Option Lo},P.Nodup→P[i]?=some x→vs[i]?=some v→kindOf x=some .local→
  bindL kindOf (P.zip vs) m x=some v
 | [],_,_,_,_,h,_,_=>by simp at h
 | _ :: _,[],_,_,_,_,h,_=>by simp at h
 | p :: P,w :: vs,0,m,nd,h1,h2,hk=>by
  simp at h1 h2;subst h1;subst h2
  show bindL kindOf ((p,w) :: P.zip vs) m p=_
  unfold bindL
  rw[iD λv hv=>(Sq.mp nd).1 (IQ hv).1,if_pos hk]
  simp
 | p :: P,w :: vs,i + 1,m,nd,h1,h2,hk=>by
  show bindL kindOf ((p,w) :: P.zip vs) m x=_
  unfold bindL
  exact iM (i:=i) (Sq.mp nd).2 (by simpa using h1) (by simpa using h2) hk
theorem iP {kindOf:Str→Option Ot} {x:Str} {v:Lo}:∀{P:List Str} {vs:List Lo} {i:Nat} {m:Str→Option Lo},P.Nodup→P[i]?=some x→vs[i]?=some v→kindOf x≠some .local→
  bindC kindOf (P.zip vs) m x=some v
 | [],_,_,_,_,h,_,_=>by simp at h
 | _ :: _,[],_,_,_,_,h,_=>by simp at h
 | p :: P,w :: vs,0,m,nd,h1,h2,hk=>by
  simp at h1 h2;subst h1;subst h2
  show bindC kindOf ((p,w) :: P.zip vs) m p=_
  unfold bindC
  rw[iF λv hv=>(Sq.mp nd).1 (IQ hv).1,if_neg hk]
  simp
 | p :: P,w :: vs,i + 1,m,nd,h1,h2,hk=>by
  show bindC kindOf ((p,w) :: P.zip vs) m x=_
  unfold bindC
  exact iP (i:=i) (Sq.mp nd).2 (by simpa using h1) (by simpa using h2) hk
noncomputable def start (N:List Str) (vs:List V):St:=vs.map some ++ Sk (N.length - vs.length) none
noncomputable def KJ (CX:rD) (P:LH) (w:Sz) (K:Ls) (mg:Str→Option Lo) (base:Heap) (N:List Str) (qual:Str) (scope:Scope) (f:Addr) (cd:Lo) (A:SO) (outer:List Env) (s:LZ) (H:Hp) (E:XK):Cx where
 prog:=P
 w:=w
 K:=K
 mg:=mg
 base:=base
 A:=A.deeper (envOfC qual scope s.heap.objs.size f cd)
 N:=N
 s₀:=s
 H₀:=H
 env:=envOfC qual scope s.heap.objs.size f cd
 outer:=outer
 stack:=envOfC qual scope s.heap.objs.size f cd :: outer
 ex:=[]
 calm:=true
 fn:=λ_=>true
 pn:=[]
 xe:=λe s'=>Sv (L9 P w) (A.deeper (envOfC qual scope s.heap.objs.size f cd)) (leaving (envOfC qual scope s.heap.objs.size f cd) e) (λ_ s''=>CX outer H s E e s'') (λe' s''=>CX outer H s E e' s'') s'
theorem Z3 {sc:Scope} {n:Nat} {x:Str} (h:sc.names.lookup x=some .cell):∃c,(cellsFrom n sc.names []).lookup x=some c:=by
 have q:=Ig sc.names n [] (.inl h)
 exact O0.mp q
theorem KO {CX:rD} {P:LH} {w:Sz} {K:Ls} {mg:Str→Option Lo} {base:Heap} {N ps:List Str} {qual:Str} {scope:Scope} {f:Addr} {cd:Lo} {A:SO} {outer:List Env} {s s1:LZ} {H:Hp} {E:XK} {us:List Lo} {vs:List V}
  (S:zu N ps scope) (hd:A.handled=none) (e0:ZT P w K mg base A outer s H) (hl:vs.length=ps.length) (r:Vals vs us)
  (x:InCallC s s.heap.objs.size (bindL (envOfC qual scope s.heap.objs.size f cd).kindOf (ps.zip us) λ_=>none) (cellsFrom (s.heap.objs.size + 1) scope.names []) (bindC (envOfC qual scope s.heap.objs.size f cd).kindOf (ps.zip us) λ_=>none) s1) :
  Inv (KJ CX P w K mg base N qual scope f cd A outer s H E) [] (start N vs) H s1:=by
 have hpl:ps.length≤N.length:=by have:=congrArg Tb S.pre;rw[L3] at this;omega
 obtain⟨h1,tk,rfl,hk⟩:=x.done
 have noA:∀b:Addr,b∉(KJ CX P w K mg base N qual scope f cd A outer s H E).ex:=λb z=>absurd (show b∈([]:List Addr) from z) (by simp)
 refine⟨⟨e0.mod,S.kind,rfl,rfl,LF _,λy z c h1 h2=>?_,λy hy=>?_,λy c _ h=>?_,λ_=>hd,Around.frames_deeper e0.frames,.inr ⟨rfl,rfl⟩,λb z=>absurd z (noA b),e0.bs,e0.VS,λb _ _=>noA b,λb z=>absurd z (noA b),e0.ui,e0.Bx⟩,
  rfl,e0.bare,Un.kept hk,⟨_,x.toInCall.ns,λi y v h1 h2 h3=>?_⟩,λy c h=>⟨_,x.cell y c h⟩,e0.qx.fresh (LF _),λy c h=>?_,λp hp=>absurd (show p∈([]:List (Addr × Obj)) from hp) (by simp),e0.qx.kept hk,?_⟩
 ·exact name_of_addr x.apart (S4 h1) (S4 h2)
 ·have hy:scope.names.lookup y=some .cell∨scope.names.lookup y=some .free:=hy
  rcases hy with hy | hy
  ·exact Z3 hy
  ·exact absurd rfl (S.P4 _ (S4 hy))
 ·exact Ik (x.above y c (S4 h))
 ·have hi:i < vs.length:=by
   unfold start at h2
   by_cases hi:i < vs.length
   ·exact hi
   ·rw[SD (by simpa using hi)] at h2
    rw[O5] at h2
    split at h2<;>cases h2
  have ha:vs[i]?=some v:=by
   unfold start at h2
   rw[S5 (by simpa using hi),LV] at h2
   cases e:vs[i]? with
   | none=>rw[e] at h2;cases h2
   | some a=>rw[e] at h2;cases h2;rfl
  obtain⟨u,hu,rv⟩:=r.get ha
  have hp:ps[i]?=some y:=by
   rw[←S.pre,TB (by omega)];exact h1
  have ndP:ps.Nodup:=by rw[←S.pre];exact S.nd.sublist (NP _ _)
  refine⟨u,rv,?_⟩
  rcases S.par y (LC hp) with k | k
  ·exact .inl ⟨k,iM ndP hp hu k⟩
  ·obtain⟨c,e⟩:=Z3 (n:=s.heap.objs.size + 1) k
   refine .inr ⟨.inl k,c,e,?_⟩
   have q:=x.cell y c e
   rw[iP ndP hp hu (by show scope.names.lookup y≠_;rw[k];decide)] at q
   exact q
 ·exact e0.qx.fresh (Ik (x.above y c (S4 h)))
 ·unfold start
  show _=N.length
  rw[Li,Ln,Tw]
  omega
theorem MM {CX:rD} {P:LH} {w:Sz} {K:Ls} {mg:Str→Option Lo} {base:Heap} {k:Nat} {f:Addr} {name qual:Str} {params:Arguments} {body:List Stmt} {scope:Scope} {dV kV doc pm cdv ct oc:Lo} {an od:Option Addr}
  {osl:Array (Option Lo)} {N ps:List Str} {sp:Sp} (lk:K.lookup f=some ⟨oc,od,.func (Te name qual params body scope dV kV doc pm an cdv ct),osl⟩) (hcd:Oq K cdv qual=true) (S:zu N ps scope)
  (len:∀vs H Q E,sp vs H Q E→vs.length=ps.length)
  (hbody:∀(A:SO) (outer:List Env) (s:LZ) (H:Hp) (vs:List V) (Q:VK) (E:XK),xG k (A.deeper (envOfC qual scope s.heap.objs.size f cdv))→sp vs H Q E→
   ∃t,Xn (KJ CX P w K mg base N qual scope f cdv A outer s H E) body t∧t { nx:=λ_ H'=>Q .non H',rt:=Q } (start N vs) H) :
  ze P w K mg base CX (k + 1) f (Te name qual params body scope dV kV doc pm an cdv ct) ps sp:=by
 refine⟨len,λA outer s H args us vs Q E hr e0 hb r hsp=>?_⟩
 have hl:=len _ _ _ _ hsp
 have KX:K.In s.heap:=e0.mod.PQ.keeps λb o e=>(e0.bs b o e).1
 have lim:s.heap.NoLimit:=e0.mod.nolimit.keeps λb o e=>(e0.bs b o e).1
 have hkind:∀y∈ps.zip us,scope.names.lookup y.1=some .local∨(scope.names.lookup y.1=some .cell∧((cellsFrom (s.heap.objs.size + 1) scope.names []).lookup y.1).isSome=true):=λ⟨n,v⟩ hy=>by
  rcases S.par n (IQ hy).1 with q | q
  ·exact .inl q
  ·exact .inr ⟨q,Ig _ _ _ (.inl q)⟩
 refine codeAny_call_function hr.depth (KX _ _ lk) rfl S.co S.gen rfl (PySem.W.codeRec_of KX hcd) (hb _ _ _ _ ?_)
 refine wpAny_newFunctionEnv_cells S.kind hkind λenv he s1 x=>?_
 subst he
 refine⟨lim.keeps x.toInCall.keep,codeAny_func ?_⟩
 obtain⟨t,ht,hq⟩:=hbody A outer s H vs Q E (hr.deeper _) hsp
 have I:Inv (KJ CX P w K mg base N qual scope f cdv A outer s H E) [] (start N vs) H s1:=KO S hr.hd e0 hl r x
 refine SS (ht [] s1 (start N vs) H _ I hq) (λfl s' hs=>?_) λe s' hs=>hs
 have fin:∀{σ':St} {H':Hp} {v:V} {u:Lo},Inv (KJ CX P w K mg base N qual scope f cdv A outer s H E) [] σ' H' s'→RelV v u→Q v H'→CE outer P w H s Q u s':=
  λ{σ' H' v u} J rv q=>⟨v,H',J.os,J.bare,J.base,J.qx,rv,q⟩
 cases fl with
 | ret u=>
  obtain⟨v,σ',H',J,rv,q⟩:=hs
  exact fin J rv q
 | next=>
  obtain⟨σ',H',J,q⟩:=hs
  exact fin (v:=V.non) (u:=Ed) J rfl q
 | brk=>
  obtain⟨_,_,_,q⟩:=hs
  exact S6 q
 | cont=>
  obtain⟨_,_,_,q⟩:=hs
  exact S6 q
end L2
namespace L2
open PySem PySem.Spec PyProof.Rows
section
variable {X:Cx} {x:Str} {p pos:Pos} {e:Expr} {es:List Expr} {t:TA} {id T:String} {r:List V→Hp→VK→Prop}
def UA (r:List V→Hp→VK→Prop) (t:TA):TE:=λσ H Q=>t σ H λvs H1=>r vs H1 Q
theorem zX (hc:xF X (.builtin id) r) (hg:Gl X x) (hm:X.mg x=none) (hv:Nk x=some (.builtin id)) (ha:PA X (e :: es) t) (hn:x≠"__name__":=by decide) (hdb:(x == ("__debug__" : Str))=false:=by decide)
  (he:Sg (e :: es) X.env=(false,eval e X.env) :: Sg es X.env:=by rfl) (hpl:(backTo pos (Sg es X.env)).any (·.1)=false:=by rfl):PE X (.Call (.Name x p) (e :: es) [] pos) (UA r t):=by
 intro pins s σ H Q I h
 refine T6 (uQ I hg hm hv ?_ hn hdb)
 exact EI (qC (ha pos pins s σ H _ I h) λus s1 ⟨vs,H1,I1,r1,q1⟩=>hc pins s1 σ H1 vs us Q I1 r1 q1) he hpl
theorem z8 (hc:xF X (.type T) r) (hg:Gl X x) (hm:X.mg x=none) (hv:Nk x=some (.type T)) (ha:PA X (e :: es) t) (hn:x≠"__name__":=by decide) (hdb:(x == ("__debug__" : Str))=false:=by decide)
  (he:Sg (e :: es) X.env=(false,eval e X.env) :: Sg es X.env:=by rfl) (hpl:(backTo pos (Sg es X.env)).any (·.1)=false:=by rfl):PE X (.Call (.Name x p) (e :: es) [] pos) (UA r t):=by
 intro pins s σ H Q I h
 refine T6 (uQ I hg hm hv ?_ hn hdb)
 exact TN (qC (ha pos pins s σ H _ I h) λus s1 ⟨vs,H1,I1,r1,q1⟩=>hc pins s1 σ H1 vs us Q I1 r1 q1) he hpl
end
end L2
namespace HT
open PySem PyProof.Rows
noncomputable def lexLt:List Int→List Int→Bool
 | [],[]=>false
 | [],_ :: _=>true
 | _ :: _,[]=>false
 | x :: xs,y :: ys=>if x=y then lexLt xs ys else decide (x < y)
section
open PySem.SeqAt
open PySem.AutoSeq1 (wpAny_loadPart')
open PySem.MeetsSeq PySem.MeetsSeq2 PySem.MeetsSeq3
end
section
variable {prog:LH} {w:Sz} {A:SO} {E:Lo→LZ→Prop} {s:LZ}
noncomputable def Zu (n d:Nat):Option Int→Nat
 | none=>d
 | some v=>if v < 0 then (v + (n:Int)).toNat else min v.toNat n
theorem QN (n d:Nat):Zu n d none=d:=rfl
theorem lI (n d k:Nat):Zu n d (some (k:Int))=min k n:=by
 show (if (k:Int) < 0 then ((k:Int) + (n:Int)).toNat else min (k:Int).toNat n)=min k n
 rw[if_neg (by omega),EW]
end
end HT
namespace L2
open PySem PySem.Spec PyProof.Rows
noncomputable abbrev TO:=St→Hp→(Option Int→Hp→Prop)→Prop
def PO (X:Cx) (e:Option Expr) (t:TO):Prop:=
 ∀(pins:List (Addr × Obj)) (s:LZ) (σ:St) (H:Hp) (Q:Option Int→Hp→Prop),Inv X pins σ H s→t σ H Q→
  Sv (L9 X.prog X.w) X.A (evalPart e X.env) (λu s'=>∃o H',Inv X pins σ H' s'∧IsPart u o∧Q o H') X.xe s
def HB:TO:=λ_ H Q=>Q none H
def DO (t:TE):TO:=λσ H Q=>t σ H λx H1=>∃i,x=.int i∧Q (some i) H1
section
variable {X:Cx} {e:Expr} {te:TE} {lo hi:Option Expr} {tl th:TO} {pos p2:Pos}
theorem kj:PO X none HB:=by
 intro pins s σ H Q I h
 rw[evalPart_none]
 exact Sn ⟨none,H,I,.none,h⟩
theorem qQ (h:PE X e te):PO X (some e) (DO te):=by
 intro pins s σ H Q I hw
 rw[evalPart_some]
 refine qC (h pins s σ H _ I hw) λu s1 ⟨x,H1,I1,r1,q1⟩=>?_
 obtain⟨i,rfl,q⟩:=q1
 obtain⟨t,rfl⟩:=r1
 exact⟨some i,H1,I1,.int i t,q⟩
def B2 (X:Cx) (r:V→Option Int→Option Int→Hp→VK→Prop):Prop:=
 ∀(pins:List (Addr × Obj)) (s:LZ) (σ:St) (H:Hp) (x:V) (v vl vu:Lo) (lo hi:Option Int) (sl:Addr) (Q:VK),Inv X pins σ H s→RelV x v→s.heap.IsSliceOf sl vl vu .none→IsPart vl lo→IsPart vu hi→r x lo hi H Q→
  ∃T id,typeLookup (.type T) "__getitem__" = pure (some (.builtin id))∧s.TypeIs v T∧Sv (L9 X.prog X.w) X.A (getItem v (.ref sl)) (EP X pins σ Q) X.xe s
def R4 (r:V→Option Int→Option Int→Hp→VK→Prop) (te:TE) (tl th:TO):TE:=λσ H Q=>te σ H λx H1=>tl σ H1 λl H2=>th σ H2 λu H3=>r x l u H3 Q
theorem qD {r:V→Option Int→Option Int→Hp→VK→Prop} (hr:B2 X r) (he:PE X e te) (hl:PO X lo tl) (hu:PO X hi th):PE X (.Subscript e (.Slice lo hi none p2) pos) (R4 r te tl th):=by
 intro pins s σ H Q I h
 refine Subscript_ (qC (he pins s σ H _ I h) λv s1 ⟨x,H1,I1,r1,q1⟩=>?_)
 refine wpAny_Slice (qC (hl pins s1 σ H1 _ I1 q1) λvl s2 ⟨l,H2,I2,pl,q2⟩=>qC (hu pins s2 σ H2 _ I2 q2) λvu s3 ⟨u,H3,I3,pu,q3⟩=>?_)
 rw[evalPart_none]
 refine Sn ?_
 have I4:Inv X pins σ H3 { s3 with heap:=s3.heap.push { cls:=.type "slice",data:=.fields #[vl,vu,.none] } }:=I3.kept (t':=s3.toks) λb ob q=>LB _ q
 obtain⟨T,id,hT,ht,hg⟩:=hr pins { s3 with heap:=s3.heap.push { cls:=.type "slice",data:=.fields #[vl,vu,.none] } } σ H3 x v vl vu l u s3.heap.objs.size Q I4 r1 (zzs ..) pl pu q3
 show Sv (L9 X.prog X.w) X.A (subscriptTail e (.Slice lo hi none p2) v (.ref s3.heap.objs.size)) (EP X pins σ Q) X.xe { s3 with heap:=s3.heap.push { cls:=.type "slice",data:=.fields #[vl,vu,.none] } }
 exact tail_any (ops:=[.ref s3.heap.objs.size,v]) ht hT hg (by with_unfolding_all rfl)
noncomputable def dW (xs:List V) (lo hi:Option Int):List V:=(xs.drop (HT.Zu xs.length 0 lo)).take (HT.Zu xs.length xs.length hi - HT.Zu xs.length 0 lo)
theorem Z7 (xs:List V) (lo hi:Option Int):(dW xs lo hi).length≤xs.length:=by
 unfold dW
 rw[L3,Tx]
 omega
def RC (K:Ls):V→Option Int→Option Int→Hp→VK→Prop:=λx lo hi H Q=>∃a xs,x=.ref a∧jt K H a xs∧
 ¬(HT.Zu xs.length 0 lo=0∧HT.Zu xs.length xs.length hi=xs.length)∧∀p,H p=none→Q (.ref p) (upd H p (.tup (dW xs lo hi)))
def RF (K:Ls):R2:=λx y H Q=>∃a b ns ms,x=.ref a∧y=.ref b∧jt K H a (ns.map V.int)∧jt K H b (ms.map V.int)∧Q (.bl (HT.lexLt ns ms)) H
def UM (K:Ls):R2:=λx y H Q=>∃a b xs ys,x=.ref a∧y=.ref b∧jt K H a xs∧jt K H b ys∧xs≠[]∧xs.length + ys.length≤LI∧
 (ys=[]→Q (.ref a) H)∧(ys≠[]→∀p,H p=none→Q (.ref p) (upd H p (.tup (xs ++ ys))))
end
end L2
namespace L2
open PySem PySem.Spec PyProof.Rows
noncomputable def Jk (n:Nat) (i:Int):Option Nat:=if 0≤i then (if i < n then some i.toNat else none) else if -(n:Int)≤i then some (i + n).toNat else none
noncomputable def vX {α:Type} (xs:List α) (i:Int):Option α:=(Jk xs.length i).bind λj=>xs[j]?
theorem XO {n:Nat} {i:Int} {j:Nat} (h:Jk n i=some j):seqIndex? i n=some j∧j < n∧-(n:Int)≤i∧i < n:=by
 unfold Jk at h
 by_cases h0:0≤i
 ·rw[if_pos h0] at h
  by_cases h1:i < n
  ·rw[if_pos h1] at h
   have e:i.toNat=j:=L8 h
   exact⟨by rw[seqIndex_of h0 h1,e],by omega,by omega,h1⟩
  ·rw[if_neg h1] at h;cases h
 ·rw[if_neg h0] at h
  by_cases h1:-(n:Int)≤i
  ·rw[if_pos h1] at h
   have e:(i + n).toNat=j:=L8 h
   exact⟨by rw[seqIndex_neg (by omega) h1,e],by omega,h1,by omega⟩
  ·rw[if_neg h1] at h;cases h
theorem eO {α:Type} {xs:List α} {i:Int} {v:α} (h:vX xs i=some v):∃j,seqIndex? i xs.length=some j∧xs[j]?=some v∧j < xs.length∧-(xs.length:Int)≤i∧i < xs.length:=by
 unfold vX at h
 cases e:Jk xs.length i with
 | none=>rw[e] at h;cases h
 | some j=>
  rw[e] at h
  obtain⟨h1,h2,h3,h4⟩:=XO e
  exact⟨j,h1,h,h2,h3,h4⟩
theorem kF {α:Type} {xs:List α} {j:Nat} {v:α} (h:xs[j]?=some v):vX xs (j:Int)=some v:=by
 have hj:j < xs.length:=(LN.mp h).1
 have e:Jk xs.length (j:Int)=some j:=by
  unfold Jk
  rw[if_pos (by omega),if_pos (by omega)];simp
 unfold vX;rw[e];exact h
theorem sJ {α:Type} (xs:List α) (v:α):vX (xs ++ [v]) (-1)=some v:=by
 have hl:(xs ++ [v]).length=xs.length + 1:=by simp
 have e:Jk (xs ++ [v]).length (-1)=some xs.length:=by
  unfold Jk
  rw[hl,if_neg (by decide),if_pos (by omega)]
  congr 1
  omega
 unfold vX
 rw[e]
 show (xs ++ [v])[xs.length]?=some v
 simp
def Gs (b:Expr):Prop:=∀o i,subscripted b false o i=operate [o,i] (getItem o i)
def Mq (X:Cx) (r:R2):Prop:=
 ∀(value slice:Expr) (pins:List (Addr × Obj)) (s:LZ) (σ:St) (H:Hp) (x y:V) (v u:Lo) (Q:VK),Inv X pins σ H s→RelV x v→RelV y u→r x y H Q→
  subscripted slice false v u=operate [v,u] (getItem v u)→Sv (L9 X.prog X.w) X.A (subscriptTail value slice v u) (EP X pins σ Q) X.xe s
def eL (X:Cx) (id:String) (r:V→List V→Hp→VK→Prop):Prop:=
 ∀(pins:List (Addr × Obj)) (s:LZ) (σ:St) (H:Hp) (x:V) (xs:List V) (v:Lo) (us:List Lo) (Q:VK),Inv X pins σ H s→RelV x v→Vals xs us→r x xs H Q→
  Sv (L9 X.prog X.w) X.A (call (.builtin id) (v :: us)) (EP X pins σ Q) X.xe s
section
variable {X:Cx} {a b:Expr} {ta tb:TE} {pos:Pos}
theorem zc {r:R2} (hr:Mq X r) (ha:PE X a ta) (hb:PE X b tb) (hs:Gs b):PE X (.Subscript a b pos) (F3 r ta tb):=by
 intro pins s σ H Q I h
 exact Subscript_ (B6 ha hb I h λv u s2 x y H2 I2 rx ry q=>hr a b pins s2 σ H2 x y v u Q I2 rx ry q (hs _ _))
def FX (K:Ls):R2:=λx y H Q=>∃p xs i v,x=.ref p∧y=.int i∧zK K H p xs∧vX xs i=some v∧Q v H
def FK (K:Ls):R2:=λx y H Q=>∃p xs i v,x=.ref p∧y=.int i∧jt K H p xs∧vX xs i=some v∧Q v H
def Dt:R2:=λx y H Q=>∃z i c,x=.str z∧y=.int i∧z.length≤LI∧vX z.cps.toList i=some c∧Q (.str ⟨#[c]⟩) H
theorem GL:Mq X (FX X.K):=by
 intro value slice pins s σ H x y v u Q I rx ry h hs
 obtain⟨p,xs,i,z,rfl,rfl,hq,he,q⟩:=h
 cases rx
 obtain⟨t,rfl⟩:=ry
 obtain⟨its,r,pl,hz⟩:=I.list hq
 obtain⟨j,h1,h2,h3,h4,h5⟩:=eO he
 obtain⟨w,ew,rw'⟩:=r.get h2
 have hl:=r.length
 have hn:=uX
 have fin:EP X pins σ Q w s:=⟨z,H,I,rw',q⟩
 by_cases h0:0≤i
 ·have hj:i.toNat=j:=by
   rw[seqIndex_of h0 h5] at h1
   exact L8 h1
  exact item_listR pl.isList h0 (by omega) (by rw[hj];simpa using ew) fin hs
 ·have hj:(i + (its.toArray.size:Int)).toNat=j:=by
   rw[seqIndex_neg (by omega) h4] at h1
   rw[Sj,←hl]
   exact L8 h1
  exact subscriptTail_builtinR (x:=w) pl.isList.typeIs slot_list_getitem.lookup
   (wpAny_getItem_list_neg (Q:=λr s'=>r=w∧EP X pins σ Q r s') pl.isList (by omega) (by rw[Sj]<;>omega) (by omega) (by rw[hj];simpa using ew) ⟨rfl,fin⟩) hs
theorem Pn:Mq X (FK X.K):=by
 intro value slice pins s σ H x y v u Q I rx ry h hs
 obtain⟨p,xs,i,z,rfl,rfl,hq,he,q⟩:=h
 cases rx
 obtain⟨t,rfl⟩:=ry
 obtain⟨its,r,pl,hz⟩:=I.tuple hq
 obtain⟨j,h1,h2,h3,h4,h5⟩:=eO he
 obtain⟨w,ew,rw'⟩:=r.get h2
 have hl:=r.length
 have hn:=uX
 have fin:EP X pins σ Q w s:=⟨z,H,I,rw',q⟩
 exact subscriptTail_builtinR (x:=w) pl.typeIs slot_tuple_getitem.lookup
  (getItem_tuple (j:=j) (Q:=λr s'=>r=w∧EP X pins σ Q r s') pl (by omega) (by omega) (by rw[Sj,←hl];exact h1) (by simpa using ew) ⟨rfl,fin⟩) hs
theorem aY:Mq X Dt:=by
 intro value slice pins s σ H x y v u Q I rx ry h hs
 obtain⟨z,i,c,rfl,rfl,hz,he,q⟩:=h
 obtain⟨t,rfl⟩:=rx
 obtain⟨t',rfl⟩:=ry
 obtain⟨j,h1,h2,h3,h4,h5⟩:=eO he
 have hl:z.cps.toList.length=z.length:=by simp [TY]
 rw[hl] at h1 h4 h5
 have hn:=uX
 exact tail_any (typeIs_str s z t) slot_str_getitem.lookup (getItem_str (c:=c) (by
  have e1:decide (i < -(2 ^ 63:Int))=false:=decide_eq_false (by omega)
  have e2:decide (i≥2 ^ 63)=false:=decide_eq_false (by omega)
  rw[e1,e2,Bool.or_false]) (by rw[h1];simpa using h2) ⟨.str ⟨#[c]⟩,H,I.tok _,⟨_,rfl⟩,q⟩) hs
def Lp (K:Ls):R2:=λx y H Q=>FX K x y H Q∨FK K x y H Q∨Dt x y H Q
theorem JV (its:List Lo) (n j:Nat) (u:Lo):Ih (·.setIfInBounds j u) { cls:=.type "list",data:=.seq its.toArray n }={ cls:=.type "list",data:=.seq (its.set j u).toArray n }:=by
 simp [Ih]
theorem Inv.lst {pins:List (Addr × Obj)} {σ:St} {H:Hp} {s:LZ} {p:Addr} {xs:List V} (I:Inv X pins σ H s) (h:H p=some (.lst xs)) :
  ∃(its:List Lo) (n:Nat),Vals xs its∧s.heap.get? p=some { cls:=.type "list",data:=.seq its.toArray n }∧xs.length≤LI:=by
 obtain⟨z,its,n,r,e⟩:=I.qx p _ h
 exact⟨its,n,r,e,z⟩
theorem Inv.PY {pins:List (Addr × Obj)} {σ:St} {H:Hp} {s:LZ} {p:Addr} {xs ys:List V} {its its':List Lo} {n n':Nat} {f:Obj→Obj} (I:Inv X pins σ H s) (h:H p=some (.lst xs))
  (ho:s.heap.get? p=some { cls:=.type "list",data:=.seq its.toArray n }) (hf:f { cls:=.type "list",data:=.seq its.toArray n }={ cls:=.type "list",data:=.seq its'.toArray n' }) (r:Vals ys its') (hz:ys.length≤LI) (t:Nat) :
  Inv X pins σ (upd H p (.lst ys)) { s with heap:=s.heap.update p f,toks:=t }:=by
 have e:(s.heap.update p f).get? p=some { cls:=.type "list",data:=.seq its'.toArray n' }:=by
  rw[Heap.get?_update_self f ho (by rw[hf]<;>rfl),hf]
 refine I.write (x:=p) (e:=p) (by rw[h];trivial) (.inl rfl) (λb u hb q=>(Ib _ _ (SF hb)).trans q) ⟨_,e⟩ ?_
 exact⟨hz,its',n',r,e⟩
def De:V→V→V→Hp→(Hp→Prop)→Prop:=λo i v H Q=>∃p xs k j,o=.ref p∧i=.int k∧H p=some (.lst xs)∧Jk xs.length k=some j∧Q (upd H p (.lst (xs.set j v)))
theorem set_list:Gr X De:=by
 intro pins s σ H o i v ov iv u Q I ro ri rv h
 obtain⟨p,xs,k,j,rfl,rfl,hp,hj,q⟩:=h
 cases ro
 obtain⟨t,rfl⟩:=ri
 obtain⟨its,n,r,ho,hz⟩:=I.lst hp
 obtain⟨h1,h2,h3,h4⟩:=XO hj
 have hl:=r.length
 have hn:=uX
 have I':Inv X pins σ (upd H p (.lst (xs.set j v))) { s with heap:=s.heap.update p (Ih (·.setIfInBounds j u)) }:=
  I.PY hp ho (JV its n j u) (r.set rv j) (by rw[E8];exact hz) s.toks
 by_cases h0:0≤k
 ·have hk:k.toNat=j:=by
   rw[seqIndex_of h0 h4] at h1
   exact L8 h1
  exact PySem.W.ki_setAt ho h0 (by omega) (by rw[Sj,←hl];exact h4) (by rw[hk];exact⟨_,I',q⟩)
 ·have hk:(k + (its.toArray.size:Int)).toNat=j:=by
   rw[seqIndex_neg (by omega) h3] at h1
   rw[Sj,←hl]
   exact L8 h1
  exact PySem.W.ki_setBack ho (by omega) (by rw[Sj,←hl];exact h3) (by omega) (by rw[hk];exact⟨_,I',q⟩)
theorem Ze (lo hi:Option Int) (n:Nat):(sliceBounds lo hi none n).1=((HT.Zu n 0 lo:Nat):Int)∧(sliceBounds lo hi none n).2.1=((HT.Zu n n hi:Nat):Int)∧(sliceBounds lo hi none n).2.2=1:=by
 refine⟨?_,?_,rfl⟩
 ·cases lo with
  | none=>simp [sliceBounds,HT.Zu]
  | some i=>
   simp only[sliceBounds,HT.Zu,EE,show (1:Int) > 0 by decide,if_true]
   by_cases h:i < 0
   ·simp only[h,if_true]<;>omega
   ·simp only[h,if_false]<;>omega
 ·cases hi with
  | none=>simp [sliceBounds,HT.Zu]
  | some i=>
   simp only[sliceBounds,HT.Zu,EE,show (1:Int) > 0 by decide,if_true]
   by_cases h:i < 0
   ·simp only[h,if_true]<;>omega
   ·simp only[h,if_false]<;>omega
theorem iX (its:List Lo) (lo hi:Option Int):slicePick its.toArray lo hi none=((its.drop (HT.Zu its.length 0 lo)).take (HT.Zu its.length its.length hi - HT.Zu its.length 0 lo)).toArray:=by
 obtain⟨h1,h2,h3⟩:=Ze lo hi its.toArray.size
 unfold slicePick
 rw[h1,h2,h3]
 simp only[sliceRange_one,pick_run,Sj]<;>rfl
def C1 (K:Ls):V→Option Int→Option Int→Hp→VK→Prop:=λx lo hi H Q=>∃a xs,x=.ref a∧zK K H a xs∧∀p,H p=none→Q (.ref p) (upd H p (.lst (dW xs lo hi)))
theorem HX:B2 X (C1 X.K):=by
 intro pins s σ H x v vl vu lo hi sl Q I rx hs pl pu h
 obtain⟨a,xs,rfl,hx,q⟩:=h
 cases rx
 obtain⟨its,r,ht,hz⟩:=I.list hx
 have hlen:=r.length
 refine⟨"list",_,slot_list_getitem.lookup,ht.isList.typeIs,?_⟩
 refine wpAny_getItem_list_slice ht.isList hs pl pu .none (by simp) ?_ (by rw[Sj]<;>omega)
 rw[iX,←hlen]
 refine⟨.ref s.heap.objs.size,_,I.laid (t':=s.toks) (o:=.lst (dW xs lo hi)) (λb ob q=>LB _ q) (LF _) ?_,rfl,q _ (I.qx.fresh (LF _))⟩
 exact⟨S1 (Z7 xs lo hi) hz,_,0,(r.drop (HT.Zu xs.length 0 lo)).take (HT.Zu xs.length xs.length hi - HT.Zu xs.length 0 lo),Se _ rfl⟩
noncomputable def bI:V→Bool
 | .non=>true
 | .bl _=>true
 | .int _=>true
 | .str _=>true
 | _=>false
noncomputable def GB:V→V→Bool
 | .non,.non=>true
 | .bl a,.bl b=>a == b
 | .bl a,.int b=>(if a then 1 else 0) == b
 | .int a,.bl b=>a == (if b then 1 else 0)
 | .int a,.int b=>a == b
 | .str a,.str b=>a == b
 | _,_=>false
theorem Pb {A:SO} {s:LZ} {y x:V} {u v:Lo} (ry:RelV y u) (rx:RelV x v) (fy:bI y=true) (fx:bI x=true):zzt A s u v (GB y x):=by
 cases y with
 | non=>
  cases ry
  cases x with
  | non=>cases rx;exact zzW _
  | bl b=>cases rx;exact zzk b
  | int b=>obtain⟨t,rfl⟩:=rx;exact zzb b t
  | str b=>obtain⟨t,rfl⟩:=rx;exact zzp b t
  | _=>exact absurd (show false=true from fx) LA
 | bl a=>
  cases ry
  cases x with
  | non=>cases rx;exact zzv a
  | bl b=>cases rx;exact zzw a b
  | int b=>obtain⟨t,rfl⟩:=rx;exact zzf a b t
  | str b=>obtain⟨t,rfl⟩:=rx;exact zzm a b t
  | _=>exact absurd (show false=true from fx) LA
 | int a=>
  obtain⟨t',rfl⟩:=ry
  cases x with
  | non=>cases rx;exact zzd a t'
  | bl b=>cases rx;exact zzc a t' b
  | int b=>obtain⟨t,rfl⟩:=rx;exact zzn a t' b t
  | str b=>obtain⟨t,rfl⟩:=rx;exact Ef a t' b t
  | _=>exact absurd (show false=true from fx) LA
 | str a=>
  obtain⟨t',rfl⟩:=ry
  cases x with
  | non=>cases rx;exact zzu a t'
  | bl b=>cases rx;exact zzr a t' b
  | int b=>obtain⟨t,rfl⟩:=rx;exact Em a t' b t
  | str b=>obtain⟨t,rfl⟩:=rx;exact zzo a t' b t
  | _=>exact absurd (show false=true from fx) LA
 | _=>exact absurd (show false=true from fy) LA
noncomputable def Jp (x:V) (u:Lo):Bool:=match u with
 | .none=>GB .non x
 | .bool b=>GB (.bl b) x
 | .int i _=>GB (.int i) x
 | .str z _=>GB (.str z) x
 | _=>false
theorem Wl {x y:V} {u:Lo} (r:RelV y u) (f:bI y=true):Jp x u=GB y x:=by
 cases y with
 | non=>cases r;rfl
 | bl b=>cases r;rfl
 | int i=>obtain⟨t,rfl⟩:=r;rfl
 | str z=>obtain⟨t,rfl⟩:=r;rfl
 | _=>exact absurd (show false=true from f) LA
theorem dQ {x:V}:∀{xs:List V} {us:List Lo},Vals xs us→xs.all bI=true→us.any (Jp x)=xs.any λy=>GB y x
 | _,_,.nil,_=>rfl
 | y :: xs,u :: us,.cons r t,f=>by
  rw[Ng,SR] at f
  rw[Nh,Nh,Wl r f.1,dQ t f.2]
theorem b8 {A:SO} {s:LZ} {x:V} {v:Lo} (rx:RelV x v) (fx:bI x=true):∀{xs:List V} {us:List Lo},Vals xs us→xs.all bI=true→∀u∈us,zzt A s u v (Jp x u)
 | _,_,.nil,_=>λu hu=>by cases hu
 | y :: xs,u :: us,.cons r t,f=>λu' hu=>by
  rw[Ng,SR] at f
  rcases La.mp hu with rfl | hu
  ·rw[Wl r f.1];exact Pb r rx f.1 fx
  ·exact b8 rx fx t f.2 u' hu
noncomputable def ZS (x:V) (xs:List V):Bool:=xs.any λy=>GB y x
def Ds (K:Ls) (neg:Bool):R2:=λx y H Q=>∃p xs,y=.ref p∧(zK K H p xs∨jt K H p xs)∧bI x=true∧xs.all bI=true∧Q (.bl (if neg then !ZS x xs else ZS x xs)) H
theorem Vc:bb X (S9 .In) (Ds X.K false):=by
 intro pins s σ H x y v u Q I rx ry h
 obtain⟨p,xs,rfl,hq,fx,fs,q⟩:=h
 cases ry
 rcases hq with hq | hq
 ·obtain⟨its,r,pl,hz⟩:=I.list hq
  refine SeqAt.in_listAt (Jp x) pl.isList (λw hw=>b8 rx fx r fs w (by simpa using hw)) ⟨.bl _,H,I,rfl,?_⟩
  rw[show its.toArray.any (Jp x)=its.any (Jp x) by simp,dQ r fs]
  exact q
 ·obtain⟨its,r,pl,hz⟩:=I.tuple hq
  refine SeqAt.in_tupleAt (Jp x) pl (λw hw=>b8 rx fx r fs w (by simpa using hw)) ⟨.bl _,H,I,rfl,?_⟩
  rw[show its.toArray.any (Jp x)=its.any (Jp x) by simp,dQ r fs]
  exact q
theorem Zw:bb X (S9 .NotIn) (Ds X.K true):=by
 intro pins s σ H x y v u Q I rx ry h
 obtain⟨p,xs,rfl,hq,fx,fs,q⟩:=h
 cases ry
 rcases hq with hq | hq
 ·obtain⟨its,r,pl,hz⟩:=I.list hq
  refine SeqAt.notIn_listAt (Jp x) pl.isList (λw hw=>b8 rx fx r fs w (by simpa using hw)) ⟨.bl _,H,I,rfl,?_⟩
  rw[show its.toArray.any (Jp x)=its.any (Jp x) by simp,dQ r fs]
  exact q
 ·obtain⟨its,r,pl,hz⟩:=I.tuple hq
  refine SeqAt.notIn_tupleAt (Jp x) pl (λw hw=>b8 rx fx r fs w (by simpa using hw)) ⟨.bl _,H,I,rfl,?_⟩
  rw[show its.toArray.any (Jp x)=its.any (Jp x) by simp,dQ r fs]
  exact q
theorem eA:xF X (.builtin "len") (λxs H Q=>∃p ys,xs=[.ref p]∧(zK X.K H p ys∨jt X.K H p ys)∧Q (.int ys.length) H):=by
 intro pins s σ H xs us Q I r h
 obtain⟨p,ys,rfl,hq,q⟩:=h
 obtain⟨u,rfl,rx⟩:=vals1 r
 cases rx
 have hn:=uX
 rcases hq with hq | hq
 ·obtain⟨its,r',pl,hz⟩:=I.list hq
  have hlen:=r'.length
  exact Calls.call_len_list pl.isList (by simp only[Sj]<;>omega) ⟨.int ys.length,H,I.tok _,⟨s.toks + 1,by rw[Sj,hlen]⟩,q⟩
 ·obtain⟨its,r',pl,hz⟩:=I.tuple hq
  have hlen:=r'.length
  exact len_tuple pl (by simp only[Sj]<;>omega) ⟨.int ys.length,H,I.tok _,⟨s.toks + 1,by rw[Sj,hlen]⟩,q⟩
theorem dJ:xF X (.builtin "len") (λxs H Q=>∃z,xs=[.str z]∧z.length≤LI∧Q (.int z.length) H):=by
 intro pins s σ H xs us Q I r h
 obtain⟨z,rfl,hz,q⟩:=h
 obtain⟨u,rfl,t,rfl⟩:=vals1 r
 have hn:=uX
 exact len_str (by omega) ⟨.int z.length,H,I.tok _,⟨_,rfl⟩,q⟩
theorem az:xF X (.type "list") (λxs H Q=>∃p ys,xs=[.ref p]∧(zK X.K H p ys∨jt X.K H p ys)∧∀l,H l=none→Q (.ref l) (upd H l (.lst ys))):=by
 intro pins s σ H xs us Q I r h
 obtain⟨p,ys,rfl,hq,q⟩:=h
 obtain⟨u,rfl,rx⟩:=vals1 r
 cases rx
 have fin:∀(its:List Lo),Vals ys its→ys.length≤LI→∀(h':Heap) (c':Nat),(∀b o',s.heap.get? b=some o'→h'.get? b=some o')→
   h'.get? s.heap.objs.size=some { cls:=.type "list",dict:=none,data:=.seq its.toArray c',slots:=#[] }→EP X pins σ Q (.ref s.heap.objs.size) { s with heap:=h' }:=λits r' hz h' c' kp e=>
  ⟨.ref s.heap.objs.size,_,I.laid (t':=s.toks) kp (LF _) (show qE X.prog X.w _ h' _ (.lst ys) from ⟨hz,its,c',r',e⟩),rfl,q _ (I.qx.fresh (LF _))⟩
 rcases hq with hq | hq
 ·obtain⟨its,r',pl,hz⟩:=I.list hq
  have hlen:=r'.length
  obtain⟨o,ho,hc,n,hd⟩:=pl.isList
  exact call_list_seq p (.inl rfl) ho hc hd (λh' c' kp e=>fin its r' hz h' c' kp e) (by simp only[Sj]<;>omega)
 ·obtain⟨its,r',pl,hz⟩:=I.tuple hq
  have hlen:=r'.length
  obtain⟨o,ho,hc,n,hd⟩:=pl
  exact call_list_seq p (.inr rfl) ho hc hd (λh' c' kp e=>fin its r' hz h' c' kp e) (by simp only[Sj]<;>omega)
def Ul (K:Ls) (T:String) (x:V) (H:Hp):Prop:=match x with
 | .str _=>T = "str"
 | .int _=>T = "int"
 | .ref p=>(T = "list"∧∃xs,zK K H p xs)∨(T = "tuple"∧∃o,K.lookup p=some o∧o.cls=.type "tuple"∧o.dict=none)∨
   (T = "dict"∧((∃kvs,H p=some (.dK kvs))∨∃kvs,H p=some (.dT kvs)))∨(T = "set"∧∃S n,H p=some (.set S n))
 | _=>False
theorem Gk {pins:List (Addr × Obj)} {σ:St} {H:Hp} {s:LZ} {T:String} {x:V} {v:Lo} (I:Inv X pins σ H s) (r:RelV x v) (ty:Ul X.K T x H) :
  s.TypeIs v T∧∀a,v=.ref a→∃ob,s.heap.get? a=some ob∧ob.dict=none:=by
 cases x with
 | str z=>
  obtain⟨t,rfl⟩:=r
  cases (show T = "str" from ty)
  exact⟨typeIs_str s z t,λ_ e=>nomatch e⟩
 | int i=>
  obtain⟨t,rfl⟩:=r
  cases (show T = "int" from ty)
  exact⟨typeIs_int s i t,λ_ e=>nomatch e⟩
 | ref p=>
  cases r
  rcases ty with ⟨rfl,xs,hq⟩ | ⟨rfl,o,hk,hc,hd⟩ | ⟨rfl,hk⟩ | ⟨rfl,S,n,hk⟩
  ·obtain⟨its,_,pl,_⟩:=I.list hq
   refine⟨pl.isList.typeIs,λa e=>?_⟩
   cases e
   obtain⟨o,n,e,c,hd,_⟩:=pl
   exact⟨o,e,hd⟩
  ·refine⟨⟨o,I.di p o hk,hc⟩,λa e=>?_⟩
   cases e
   exact⟨o,I.di _ o hk,hd⟩
  ·have z:∃o,s.heap.get? p=some o∧o.ExactDict:=by
    rcases hk with ⟨kvs,hk⟩ | ⟨kvs,hk⟩
    ·obtain⟨_,_,_,_,o,_,_,e,ex,_⟩:=I.qx p _ hk
     exact⟨o,e,ex⟩
    ·obtain⟨_,_,_,_,o,_,_,e,ex,_⟩:=I.qx p _ hk
     exact⟨o,e,ex⟩
   obtain⟨o,e,ex⟩:=z
   refine⟨⟨o,e,ex.1⟩,λa e2=>?_⟩
   cases e2
   exact⟨o,e,ex.2.1⟩
  ·obtain⟨o,_,_,_,e,ex,_⟩:=I.qx p _ hk
   refine⟨⟨o,e,ex.1⟩,λa e2=>?_⟩
   cases e2
   exact⟨o,e,ex.2.1⟩
 | _=>exact S6 ty
def C8 (K:Ls) (T:String) (r:V→List V→Hp→VK→Prop) (to:TE):TE:=λσ H Q=>to σ H λx H1=>Ul K T x H1∧r x [] H1 Q
def UE (K:Ls) (T:String) (r:V→List V→Hp→VK→Prop) (to:TE) (t:TA):TE:=λσ H Q=>to σ H λx H1=>Ul K T x H1∧t σ H1 λxs H2=>r x xs H2 Q
variable {o e:Expr} {es:List Expr} {to:TE} {t:TA} {name:Str} {apos cpos:Pos} {T id:String} {r:V→List V→Hp→VK→Prop}
theorem uM (pa:PlainAttrs T) (slot:Slot T name id) (hty:typeOf (.builtin id)=pure (.type "method_descriptor")) (hm:eL X id r) (ho:PE X o to)
  (hbase:Ny o name X.env (eval o X.env)=eval o X.env:=by rfl) (hline:(apos.endLine == cpos.line)=true:=by rfl):PE X (.Call (.Attribute o name apos) [] [] cpos) (C8 X.K T r to):=by
 intro pins s σ H Q I h
 refine wpAny_Call_method0_late hbase hline (qC (ho pins s σ H _ I h) λv s1 ⟨x,H1,I1,r1,ty,q1⟩=>?_)
 obtain⟨h1,h2⟩:=Gk I1 r1 ty
 exact⟨T,id,pa,slot,hty,h1,h2,Ip rfl (PySem.evalArgs_none (hm pins s1 σ H1 x [] v [] Q I1 r1 .nil q1))⟩
theorem qM (pa:PlainAttrs T) (slot:Slot T name id) (hty:typeOf (.builtin id)=pure (.type "method_descriptor")) (hm:eL X id r) (ho:PE X o to) (ha:PA X (e :: es) t)
  (hbase:Ny o name X.env (eval o X.env)=eval o X.env:=by rfl)
  (hfew:((backTo cpos (Sg (e :: es) X.env)).all (λx=>!x.1) && (NC cpos (TC [] X.env)).all (λx=>x.1.isSome)
   && decide ((e :: es).length + ([]:List Keyword).length + (if ([]:List Keyword).isEmpty then 0 else 1) < 30))=true:=by rfl)
  (hline:(apos.endLine == cpos.line)=true:=by rfl) (hs:Sg (e :: es) X.env=(false,eval e X.env) :: Sg es X.env:=by rfl) (hplain:(backTo cpos (Sg es X.env)).any (·.1)=false:=by rfl) :
  PE X (.Call (.Attribute o name apos) (e :: es) [] cpos) (UE X.K T r to t):=by
 intro pins s σ H Q I h
 refine wpAny_Call_method_late hbase hfew hline rfl (qC (ho pins s σ H _ I h) λv s1 ⟨x,H1,I1,r1,ty,q1⟩=>?_)
 obtain⟨h1,h2⟩:=Gk I1 r1 ty
 refine⟨T,id,pa,slot,hty,h1,h2,?_⟩
 have hA:=ha cpos pins s1 σ H1 _ I1 q1
 rw[hs] at hA ⊢
 refine Ip (by show (false || (backTo cpos (Sg es X.env)).any (·.1))=false;rw[hplain]<;>rfl) (Calls.evalArgs_plain ?_)
 exact qC hA λus s2 ⟨vs,H2,I2,r2,q2⟩=>hm pins s2 σ H2 x vs v us Q I2 r1 r2 q2
end
end L2
namespace L2
open PySem PySem.Spec PyProof.Rows
def D5 (X:Cx) (id:String) (r:V→List V→Hp→VK→Prop):Prop:=
 ∀(pins:List (Addr × Obj)) (s:LZ) (σ:St) (H:Hp) (x:V) (xs:List V) (v:Lo) (us:List Lo) (Q:VK),Inv X pins σ H s→RelV x v→Vals xs us→r x xs H Q→
  Sv (L9 X.prog X.w) X.A (call (.builtin id) (v :: us)) (EP X pins σ Q) X.xe s
theorem Vals.one:∀{x:V} {us:List Lo},Vals [x] us→∃u,us=[u]∧RelV x u
 | _,_,.cons r .nil=>⟨_,rfl,r⟩
theorem Vals.zero:∀{us:List Lo},Vals [] us→us=[]
 | _,.nil=>rfl
theorem Vals.dropLast {xs:List V} {us:List Lo} (h:Vals xs us):Vals xs.dropLast us.dropLast:=by
 induction h with
 | nil=>exact .nil
 | cons r t ih=>
  cases t with
  | nil=>exact .nil
  | cons q t'=>exact .cons r ih
theorem Vals.rep {xs:List V} {us:List Lo} (h:Vals xs us):∀k:Nat,Vals (Sk k xs).flatten (Sk k us).flatten
 | 0=>.nil
 | k + 1=>by
  rw[Tv,Tv,NF,NF]
  exact Vals.append h (Vals.rep h k)
theorem Jf {α:Type} (l:List α):l.eraseIdx (l.length - 1)=l.dropLast:=by
 induction l with
 | nil=>rfl
 | cons a r ih=>
  cases r with
  | nil=>rfl
  | cons b r=>
   have e:(a :: b :: r).length - 1=((b :: r).length - 1) + 1:=by
    have h1:(a :: b :: r).length=r.length + 2:=rfl
    have h2:(b :: r).length=r.length + 1:=rfl
    omega
   rw[e,List.eraseIdx_cons_succ,ih]
   all_goals rfl
theorem foldl_rep (its:List Lo):∀(k:Nat) (acc:List Lo),
  Ab (λx1 x2=>x1 ++ x2) acc.toArray (Sk k its.toArray)=(acc ++ (Sk k its).flatten).toArray
 | 0,acc=>by simp
 | k + 1,acc=>by
  have e:acc.toArray ++ its.toArray=(acc ++ its).toArray:=by simp
  have e2:(acc ++ its) ++ (Sk k its).flatten=acc ++ (Sk (k + 1) its).flatten:=by
   rw[Tv,NF,SY]
  rw[←e2,←foldl_rep its k (acc ++ its),←e,Tv,List.foldl_cons]
section
variable {X:Cx} {pins:List (Addr × Obj)} {σ:St} {H:Hp} {s:LZ} {l b:Addr} {xs ys zs:List V}
theorem Inv.G3 {its its':List Lo} {n:Nat} {f:Array Lo→Array Lo} {t':Nat} (I:Inv X pins σ H s) (hH:H l=some (.lst xs))
  (e:s.heap.get? l=some { cls:=.type "list",data:=.seq its.toArray n }) (hf:f its.toArray=its'.toArray) (hv:Vals ys its') (hz:ys.length≤LI) :
  Inv X pins σ (upd H l (.lst ys)) { s with heap:=s.heap.update l (Ih f),toks:=t' }:=by
 have q:=zzK e f
 rw[hf] at q
 refine I.write (x:=l) (e:=l) (by rw[hH];exact trivial) (.inl rfl) (λb' u hb hu=>(Ib s.heap (Ih f) (SF hb)).trans hu) ⟨_,q⟩ ?_
 exact⟨hz,its',_,hv,q⟩
theorem Inv.WU {its:List Lo} {t':Nat} (I:Inv X pins σ H s) (hv:Vals ys its) (hz:ys.length≤LI) :
  Inv X pins σ (upd H s.heap.objs.size (.lst ys)) { s with heap:=s.heap.push { cls:=.type "list",data:=.seq its.toArray },toks:=t' }:=
 I.laid (λ_ _ q=>LB _ q) (LF _) ⟨hz,its,0,hv,Se _ rfl⟩
theorem Inv.fresh (I:Inv X pins σ H s):H s.heap.objs.size=none:=I.qx.fresh (LF _)
theorem Inv.Qn (I:Inv X pins σ H s) (hH:H l=some (.lst xs)):xs.length≤LI∧∃(its:List Lo) (n:Nat),Vals xs its∧xs.length=its.length∧s.heap.get? l=some { cls:=.type "list",data:=.seq its.toArray n }:=by
 obtain⟨z,its,n,r,e⟩:=I.qx l _ hH
 exact⟨z,its,n,r,r.length,e⟩
theorem QW {n:Nat} (h:n≤LI):Nb n=false:=by
 unfold Nb
 exact decide_eq_false (by omega)
end
section
variable {X:Cx}
def Hl:V→List V→Hp→VK→Prop:=λx vs H Q=>∃l xs y,x=.ref l∧vs=[y]∧H l=some (.lst xs)∧xs.length < LI∧Q .non (upd H l (.lst (xs ++ [y])))
theorem uV:D5 X "list.append" Hl:=by
 intro pins s σ H x vs v us Q I rx rv h
 obtain⟨l,xs,y,rfl,rfl,hH,hz,q⟩:=h
 cases rx
 obtain⟨u,rfl,ru⟩:=rv.one
 obtain⟨z,its,n,r,hl,e⟩:=I.Qn hH
 refine NU F.slot_list_append ⟨_,e,rfl⟩ F.entry_list_append (F.args_list_append_2 _ _) (PySem.list_append l its.toArray n u (by rw[Sj];omega)) ⟨e,?_⟩
 refine⟨.non,_,I.G3 (its':=its ++ [u]) hH e (by simp) (r.append (.cons ru .nil)) ?_,rfl,q⟩
 rw[Li,IV]
 omega
def Ht:V→List V→Hp→VK→Prop:=λx vs H Q=>∃l b xs zs,x=.ref l∧vs=[.ref b]∧H l=some (.lst xs)∧H b=some (.lst zs)∧xs.length + zs.length≤LI∧Q .non (upd H l (.lst (xs ++ zs)))
theorem Vj:D5 X "list.extend" Ht:=by
 intro pins s σ H x vs v us Q I rx rv h
 obtain⟨l,b,xs,zs,rfl,rfl,hH,hB,hz,q⟩:=h
 cases rx
 obtain⟨u,rfl,ru⟩:=rv.one
 cases ru
 obtain⟨z,its,n,r,hl,e⟩:=I.Qn hH
 obtain⟨z2,its2,n2,r2,hl2,e2⟩:=I.Qn hB
 have hsz:its.toArray.size + its2.toArray.size≤LI:=by rw[Sj,Sj];omega
 have hlong:¬(!its.toArray.isEmpty && Nb (its.toArray.size + its2.toArray.size))=true:=by
  rw[QW hsz,Bool.and_false]
  exact LA
 refine NU F.slot_list_extend ⟨_,e,rfl⟩ F.entry_list_extend (F.args_list_extend_2 _ _)
  (AutoSeq1.list_extend_list_list_0 l its.toArray n b its2.toArray n2 hlong (by rw[Sj];omega) (by omega)) ⟨e,e2,?_⟩
 refine⟨.non,_,I.G3 (its':=its ++ its2) hH e (by simp) (r.append r2) ?_,rfl,q⟩
 rw[Li]
 omega
def CI:V→List V→Hp→VK→Prop:=λx vs H Q=>∃l xs y,x=.ref l∧vs=[]∧H l=some (.lst xs)∧xs[xs.length - 1]?=some y∧Q y (upd H l (.lst xs.dropLast))
theorem PL:D5 X "list.pop" CI:=by
 intro pins s σ H x vs v us Q I rx rv h
 obtain⟨l,xs,y,rfl,rfl,hH,hy,q⟩:=h
 cases rx
 have hus:=rv.zero
 subst hus
 obtain⟨z,its,n,r,hl,e⟩:=I.Qn hH
 obtain⟨u,hu,ru⟩:=r.get hy
 have hy':its.toArray[its.toArray.size - 1]?=some u:=by
  show its.toArray[its.length - 1]?=some u
  rw[←Array.getElem?_toList,←hl]
  exact hu
 refine NU F.slot_list_pop ⟨_,e,rfl⟩ F.entry_list_pop (F.args_list_pop_1 _) (MeetsSeq.list_pop_last l its.toArray n u hy' (by rw[Sj];omega)) ⟨e,?_⟩
 refine⟨y,_,I.G3 (its':=its.dropLast) hH e ?_ r.dropLast ?_,ru,q⟩
 ·show its.toArray.eraseIdxIfInBounds (its.toArray.size - 1)=its.dropLast.toArray
  rw[Sj,List.eraseIdxIfInBounds_toArray,Jf]
 ·rw[List.length_dropLast]
  omega
def CA:V→List V→Hp→VK→Prop:=λx vs H Q=>∃l xs i k y,x=.ref l∧vs=[.int i]∧H l=some (.lst xs)∧-(2 ^ 63)≤i∧i < 2 ^ 63∧seqIndex? i xs.length=some k∧xs[k]?=some y∧Q y (upd H l (.lst (xs.eraseIdx k)))
def Di:V→List V→Hp→VK→Prop:=λx vs H Q=>∃l xs,x=.ref l∧vs=[]∧H l=some (.lst xs)∧Q .non (upd H l (.lst xs.reverse))
def FQ:V→List V→Hp→VK→Prop:=λx vs H Q=>∃l xs,x=.ref l∧vs=[]∧H l=some (.lst xs)∧Q .non (upd H l (.lst []))
theorem W2:D5 X "list.clear" FQ:=by
 intro pins s σ H x vs v us Q I rx rv h
 obtain⟨l,xs,rfl,rfl,hH,q⟩:=h
 cases rx
 have hus:=rv.zero
 subst hus
 obtain⟨z,its,n,r,hl,e⟩:=I.Qn hH
 refine NU F.slot_list_clear ⟨_,e,rfl⟩ F.entry_list_clear (F.args_list_clear_1 _) (AutoSeq1.list_clear_list_0 l its.toArray n (by rw[Sj];omega)) ⟨e,?_⟩
 exact⟨.non,_,I.G3 (its':=[]) (ys:=[]) hH e rfl .nil (Sy _),rfl,q⟩
def CN:R2:=λx y H Q=>∃l b xs zs,x=.ref l∧y=.ref b∧H l=some (.lst xs)∧H b=some (.lst zs)∧xs.length + zs.length≤LI∧∀p,H p=none→Q (.ref p) (upd H p (.lst (xs ++ zs)))
theorem Fz:bb X (N0 .Add) CN:=by
 intro pins s σ H x y v u Q I rx ry h
 obtain⟨l,b,xs,zs,rfl,rfl,hH,hB,hz,q⟩:=h
 cases rx
 cases ry
 obtain⟨z,its,n,r,hl,e⟩:=I.Qn hH
 obtain⟨z2,its2,n2,r2,hl2,e2⟩:=I.Qn hB
 refine PySem.P.add_list e e2 ?_ (by rw[Sj,Sj];omega)
 have ea:its.toArray ++ its2.toArray=(its ++ its2).toArray:=by simp
 rw[ea]
 exact⟨.ref _,_,I.WU (t':=s.toks) (r.append r2) (by rw[Li];omega),rfl,q _ I.fresh⟩
def C0:R2:=λx y H Q=>∃l k xs,x=.ref l∧y=.int k∧H l=some (.lst xs)∧-(2 ^ 63)≤k∧k < 2 ^ 63∧xs.length * k.toNat≤LI∧
 ∀p,H p=none→Q (.ref p) (upd H p (.lst (Sk k.toNat xs).flatten))
theorem len_rep {α:Type} (xs:List α) (k:Nat):(Sk k xs).flatten.length=k * xs.length:=by
 induction k with
 | zero=>simp
 | succ k ih=>rw[Tv,NF,Li,ih,Nat.succ_mul,Nat.add_comm]
theorem Fw:bb X (N0 .Mult) C0:=by
 intro pins s σ H x y v u Q I rx ry h
 obtain⟨l,k,xs,rfl,rfl,hH,h1,h2,hz,q⟩:=h
 cases rx
 obtain⟨t,rfl⟩:=ry
 obtain⟨z,its,n,r,hl,e⟩:=I.Qn hH
 have hlen:its.toArray.size * k.toNat≤LI:=by rw[Sj,←hl];exact hz
 have hcap:¬its.toArray.size * k.toNat > (2 ^ 63 - 1) / 8:=by
  have:(LI:Nat)≤(2 ^ 63 - 1) / 8:=by decide
  omega
 have hfit:¬(!Builtin.List.listFitsIndex k)=true:=by
  rw[fitsIndex_both h1 h2]
  exact LA
 have hlong:¬Nb (its.toArray.size * k.toNat)=true:=by
  rw[QW hlen]
  exact LA
 have hnew:Ab (λx1 x2=>x1 ++ x2) #[] (Sk (if its.toArray.isEmpty=true then 0 else k.toNat) its.toArray)=(Sk k.toNat its).flatten.toArray:=by
  have f0:∀m:Nat,Ab (λx1 x2=>x1 ++ x2) #[] (Sk m its.toArray)=(Sk m its).flatten.toArray:=λm=>by
   have:=foldl_rep its m []
   rw[Sr] at this
   exact this
  rw[f0]
  cases its with
  | nil=>simp
  | cons a r'=>rw[if_neg (by simp)]
 refine wpAny_binaryOp_repeat_ref (T:="list") (U:="int") (by decide) ⟨_,e,rfl⟩ (λs'=>typeIs_int s' k t) noFill_list_mul F.fills_int_mul E9 repeat_list F.slot_int_index.lookup
  (NU E9 (typeIs_int s k t) F.entry_int_rmul (F.args_int_rmul_2 _ _) (int___rmul___int_list k t l its.toArray n)
   ⟨e,rfl,⟨_,e,rfl⟩,NU F.slot_list_mul ⟨_,e,rfl⟩ F.entry_list_mul (F.args_list_mul_2 _ _) (Ee l its.toArray n k t hfit hcap hlong) ⟨e,?_⟩⟩)
 rw[hnew]
 exact⟨.ref _,_,I.WU (t':=s.toks) (r.rep k.toNat) (by rw[len_rep,Nat.mul_comm];exact hz),rfl,q _ I.fresh⟩
end
section
variable {prog:LH} {w:Sz} {A:SO} {E:Lo→LZ→Prop} {s:LZ}
end
section
variable {X:Cx}
end
end L2
namespace Att
open PySem PySem.W PySem.Calls PyProof.Rows
theorem rA {P:Params} {h:Heap}:∀(ns:List Int) (vs:List Lo),WellAll P h vs (ns.map zzV)→IntsAre vs ns:=by
 intro ns
 induction ns with
 | nil=>
  intro vs w
  rw[S7] at w
  cases w
  exact .nil
 | cons n ns ih=>
  intro vs w
  rw[LR] at w
  cases w with
  | cons a b=>
   cases a
   exact .cons _ _ (ih _ b)
theorem VZ {l:OpenLaw} {n:Nat} (hn:l.most=some n) {P:Params} {h:Heap} {args:List WData} {vals:List Lo}
  (hpre:l.row.toRowW.claim.pre args=true) (hwl:WellAll P h vals args) :
  ∃a vs ns,vals=[SU a]∧args=[WData.list (ns.map zzV)]∧h.get? a=some { cls:=.type "list",data:=.seq vs.toArray }∧IntsAre vs ns∧ns.length≤n:=by
 have hsh:WShape.hasAll [] args [.list .int]=true:=(pre_splitW hpre).1
 have hc:l.pre.holds [] { args:=args }=true:=(pre_splitW hpre).2
 obtain⟨d,r,rfl,h1,h2⟩:=hasAllW_cons hsh
 obtain rfl:=hasAllW_nil h2
 obtain⟨xs,rfl,h3⟩:=hasW_list h1
 obtain⟨ns,rfl⟩:=items_int h3
 have hlen:ns.length≤n:=by
  unfold OpenLaw.pre at hc
  have h4:(WTm.not (.lt (.lit (.int (n:Int))) (.len (.arg 0)))).holds [] { args:=[.list (ns.map .int)] }=true:=by
   have h4:=(holds_andW hc).1
   rw[hn] at h4
   exact h4
  have h5:=condW_of h4 (w_not (w_lt w_lit (w_len_list (w_arg rfl))))
  rw[Ln] at h5
  refine Nat.le_of_not_lt λq=>?_
  have q':(n:Int) < ((ns.length:Nat):Int):=by omega
  first
   | (rw[zzP q'] at h5;exact absurd h5 (by decide))
   | (simp at h5;omega)
 cases hwl with
 | cons w1 w2=>
  cases w2
  cases w1 with
  | list ho hall=>exact⟨_,_,ns,rfl,rfl,ho,rA ns _ hall,hlen⟩
theorem Vl (l:OpenLaw) (args:List WData):l.row.toRowW.claim.post args (.bool true) args=true:=
 postW_of (r:=l.row.toRowW) (X:=(true == true))
  (show zzi [] (.bool true) .bool=true by first | rfl | decide | simp [zzi,WShape.arms,WShape.armsAll])
  (show (WTm.eq .res (.lit (.bool true))).value [] { args:=args,res:=some (.bool true),after:=args }=some (.bool (true == true)) from w_eq_bool (w_res rfl) w_lit) rfl
theorem ZI {l:OpenLaw} {n:Nat} {q:LH} {loose:List Str} {XP:(Str→Option Lo)→Heap→Prop} {YP:Sz→Heap→Prop} {d:DefRec}
  (hn:l.most=some n) (hdf:d.params.defaults=[])
  (call:∀(w:Sz) (s₀ s₁:LZ) (mg mb:Str→Option Lo) (fa:Addr) (o:Obj) (pm cd doc:Lo) (a:Addr) (vs:List Lo) (ns:List Int),
   Ground q loose [] XP w s₀ mg mb s₁.heap→YP w s₁.heap→
   s₁.heap.get? fa=some o→o.data=.func (docDef d.name d.params d.body d.scope pm cd doc)→s₁.heap.CodeRec cd d.name→mg d.name=some (.ref fa)→
   s₁.heap.get? a=some { cls:=.type "list",data:=.seq vs.toArray }→IntsAre vs ns→ns.length≤n→s₁.gens = #[]→
   NH (L9 l.prog w) callerA (.call (.ref fa) ⟨[.ref a],[]⟩) (λr s'=>r=.ok (.ret (.bool true))∧OldK s₁.heap s'.heap∧s'.os=s₁.os∧AllBare s'.gens) s₁) :
  WalkO q loose XP YP l.row.toRowW d [] (λf vs=>Ap f vs):=by
 intro w s₀ s₁ mg mb G Y fa o pm cd doc dV kV ho hd hcd hD hmg hg args vals as hpre hlay hrd hwl hlo
 obtain rfl:dV=.none:=Dflts.none hD hdf
 obtain rfl:kV=.none:=Dflts.noKw hD
 obtain⟨a,vs,ns,rfl,rfl,hobj,hints,hlen⟩:=VZ hn hpre hwl
 refine enter_call (Oz (call w s₀ s₁ mg mb fa o pm cd doc a vs ns G Y ho (fd_plain hd) hcd hmg hobj hints hlen hg) λr s' hq=>?_)
 obtain⟨rfl,h2,h3,h4⟩:=hq
 exact⟨.inl ⟨.bool true,.bool true,[],rfl,λ_=>rfl,.bool true,Vl l _,λ_=>⟨zzQ,λ_ hm=>(nomatch hm)⟩⟩,h2,h3,h4⟩
section
variable {prog:LH} {w:Sz} {A:SO} {E:Lo→LZ→Prop} {s:LZ} {K:Frag}
noncomputable def CC (h:Heap):Heap:={ h with objs:=#[] }
noncomputable def ledger (h:Heap) (L d:Addr):List (Addr × Obj):=(TL h.objs.size).filterMap λa=>if a=L∨a=d then none else (h.get? a).map λo=>(a,o)
end
end Att
namespace L2
open PySem PySem.Spec PyProof.Rows
theorem eP:∀{vs:List Lo} {ns:List Int},IntsAre vs ns→Vals (ns.map V.int) vs
 | _,_,.nil=>.nil
 | _,_,.cons n t h=>.cons ⟨t,rfl⟩ (eP h)
def V3 (H:Hp):Prop:=∀b,H b=none∨∃o xs,H b=some (.frz o (.lst xs))
theorem WG {P:LH} {w:Sz} {K:Ls} {mg mb:Str→Option Lo} {CX:rD} {k:Nat} {fa a:Addr} {fd:LG} {x:Str} {sp:Sp} {s₁:LZ} {vs:List Lo} {ns:List Int}
  (KX:K.In s₁.heap) (hns:s₁.heap.Ns TM mg) (hb:s₁.heap.Ns builtinsNs mb) (hbb:∀x:Str,x≠"__name__"→mb x=Nk x) (hlim:s₁.heap.NoLimit) (hg:s₁.gens = #[])
  (ha:s₁.heap.get? a=some { cls:=.type "list",data:=.seq vs.toArray }) (hi:IntsAre vs ns) (hl:ns.length≤LI) (hr:xG k callerA)
  (F:∀base:Heap,K.In base→base.Ns TM mg→ze P w K mg base CX k fa fd [x] sp) (hbind:∀(s:LZ) (u:Lo),BindsTo s fd ⟨[u],[]⟩ [(x,u)])
  (hsp:∀H:Hp,V3 H→zK K H a (ns.map V.int)→sp [.ref a] H (λv _=>v=.bl true) λ_ _ _=>False)
  (hCX:∀H e s',CX [] H s₁ (λ_ _ _=>False) e s'→False) :
  NH (L9 P w) callerA (.call (.ref fa) ⟨[.ref a],[]⟩) (λr s'=>r=.ok (.ret (.bool true))∧OldK s₁.heap s'.heap∧s'.os=s₁.os∧AllBare s'.gens) s₁:=by
 have rv:=eP hi
 have lenV:=hi.length
 have core:∀H:Hp,V3 H→zK K H a (ns.map V.int)→fJ P w H s₁.heap→(∀b,H b≠none→b=a)→(H a≠none→K.lookup a=none)→
   NH (L9 P w) callerA (.call (.ref fa) ⟨[.ref a],[]⟩) (λr s'=>r=.ok (.ret (.bool true))∧OldK s₁.heap s'.heap∧s'.os=s₁.os∧AllBare s'.gens) s₁:=by
  intro H hO hS qx hA hK
  have base_of:∀{b:Addr} {o:Obj},s₁.heap.get? b=some o→H b=none→(aW s₁.heap H).get? b=some o:=λe n=>WJ e n
  have noA:∀{b:Addr} {o:Obj} {es:Array DictEntry} {ep:Nat},s₁.heap.get? b=some o→o.data=.dict es ep→H b=none:=λ{b o es ep} e d=>by
   cases q:H b with
   | none=>rfl
   | some u=>
    have e':b=a:=hA b (by rw[q];simp)
    subst e'
    rw[ha] at e;cases e
    have d':Data.seq vs.toArray _=Data.dict es ep:=d
    cases d'
  have nsK:∀{b:Addr} {m:Str→Option Lo},s₁.heap.Ns b m→(aW s₁.heap H).Ns b m:=λ{b m} ⟨o,es,ep,e,d,r⟩=>⟨o,es,ep,base_of e (noA e d),d,r⟩
  have hKb:K.In (aW s₁.heap H):=λb o e=>base_of (KX b o e) (by
   cases q:H b with
   | none=>rfl
   | some u=>
    have e':b=a:=hA b (by rw[q];simp)
    subst e'
    rw[hK (by rw[q];simp)] at e;cases e)
  have hM:Mod K mg (aW s₁.heap H):=⟨hKb,nsK hns,⟨mb,nsK hb,hbb⟩,let ⟨mc,h1,h2⟩:=hlim;⟨mc,nsK h1,h2⟩⟩
  have e0:ZT P w K mg (aW s₁.heap H) callerA [] s₁ H:=⟨rfl,hM,λb o e=>Hh e,OW (KS _ _),trivial,λb hb=>absurd (show b∈([]:List Addr) from hb) (by simp),qx,.of_eq hg⟩
  refine Oz ((F _ hKb (nsK hns)).run callerA [] s₁ H ⟨[.ref a],[]⟩ [.ref a] [.ref a] _ _ hr e0 (hbind s₁ (.ref a)) (.cons rfl .nil) (hsp H hO hS)) λr s' h=>?_
  cases r with
  | error e=>exact(hCX H e s' h).elim
  | ok fl=>
   cases fl with
   | next=>exact S6 h
   | brk=>exact S6 h
   | cont=>exact S6 h
   | ret u=>
    obtain⟨v,H',os,bare,un,hok',r',q⟩:=h
    have q':v=.bl true:=q
    subst q'
    obtain rfl:u=OH true:=r'
    refine⟨rfl,OldK.of_keep λb o e=>?_,os,bare⟩
    cases q:H b with
    | none=>exact un.keep b o e q (by intro z;exact absurd (show b∈([]:List Addr) from z) (by simp)) (by simp)
    | some u=>
     rcases hO b with z | ⟨ob,xs,z⟩
     ·rw[q] at z;cases z
     ·have z2:=un.rE b ob _ z
      obtain⟨e1,_⟩:=qx b _ z
      obtain⟨e2,_⟩:=hok' b _ z2
      rw[e] at e1;cases e1
      exact e2
 cases hk:K.lookup a with
 | some o=>
  have e:=KX a o hk
  rw[ha] at e
  cases e
  refine core (λ_=>none) (λ_=>.inl rfl) (.inr ⟨_,vs.toArray,_,hk,rfl,rfl,rfl,by rw[Sj,lenV];exact hl,by simpa using rv⟩) (λb u z=>by have z':(none:Option HO)=some u:=z;cases z') (λb z=>absurd rfl z) λz=>absurd rfl z
 | none=>
  refine core (λb=>if b=a then some (.frz { cls:=.type "list",data:=.seq vs.toArray } (.lst (ns.map V.int))) else none) (λb=>?_) (.inl (.inr ⟨{ cls:=.type "list",data:=.seq vs.toArray },if_pos rfl⟩)) (λb u z=>?_) (λb z=>?_) λ_=>hk
  ·by_cases hb:b=a
   ·exact .inr ⟨_,_,if_pos hb⟩
   ·exact .inl (if_neg hb)
  ·by_cases hb:b=a
   ·have z':=(if_pos hb).symm.trans z
    cases z'
    subst hb
    exact⟨ha,by rw[Ln];exact hl,vs,_,rv,ha⟩
   ·have z':=(if_neg hb).symm.trans z
    cases z'
  ·by_cases hb:b=a
   ·exact hb
   ·exact absurd (if_neg hb) z
end L2
namespace L2
open PySem PySem.Spec PyProof.Rows
noncomputable abbrev Ua {K:Ls} {h:Heap} (_:K.In h):Ls:=K
theorem HR {l:Az} {n k:Nat} {q:LH} {loose:List Str} {XP:(Str→Option Lo)→Heap→Prop} {YP:Sz→Heap→Prop} {d:DefRec} {K:Params→Ls} {CX:Sz→rD} {sp:Sz→Sp} {x:Str}
  (hn:l.most=some n) (hn2:n≤LI) (hdf:d.params.defaults=[]) (hr:xG k callerA)
  (hY:∀(w:Sz) (h:Heap),YP w h→(K w.params).In h)
  (F:∀(w:Sz) (mg:Str→Option Lo) (fa:Addr) (h:Heap),(K w.params).In h→h.Ns TM mg→mg d.name=some (.ref fa)→
   ∃fd:LG,(∀(s:LZ) (u:Lo),BindsTo s fd ⟨[u],[]⟩ [(x,u)])∧
    ∀base:Heap,(K w.params).In base→base.Ns TM mg→ze l.prog w (K w.params) mg base (CX w) k fa fd [x] (sp w))
  (hsp:∀(w:Sz) (H:Hp) (a:Addr) (ns:List Int),ns.length≤n→V3 H→zK (K w.params) H a (ns.map V.int)→sp w [.ref a] H (λv _=>v=.bl true) λ_ _ _=>False)
  (hCX:∀(w:Sz) (H:Hp) (s:LZ) (e:Lo) (s':LZ),CX w [] H s (λ_ _ _=>False) e s'→False) :
  AR q loose XP YP l.row.toRowW d [] (λf vs=>Ap f vs):=by
 refine Att.ZI hn hdf λw s₀ s₁ mg mb fa o pm cd doc a vs ns G Y ho hd hcd hmg hobj hints hlen hg=>?_
 have KX:=hY w _ Y
 obtain⟨fd,hb,hF⟩:=F w mg fa _ KX G.T.g hmg
 exact WG KX G.T.g G.T.b G.T.builtins G.T.nolimit hg hobj hints (S1 hlen hn2) hr hF hb (λH hO hS=>hsp w H a ns hlen hO hS) λH e s'=>hCX w H s₁ e s'
theorem Gw {l:Az} {n k:Nat} {q:LH} {loose:List Str} {XP:(Str→Option Lo)→Heap→Prop} {YP:Sz→Heap→Prop} {d:DefRec} {K:Params→Ls} {CX:rD} {sp:Ls→Sp} {x:Str}
  (hn:l.most=some n) (hn2:n≤LI) (hdf:d.params.defaults=[]) (hr:xG k callerA)
  (hY:∀(w:Sz) (h:Heap),YP w h→(K w.params).In h)
  (F:∀(w:Sz) (mg:Str→Option Lo) (fa:Addr) (h:Heap),(K w.params).In h→h.Ns TM mg→mg d.name=some (.ref fa)→
   ∃fd:LG,(∀(s:LZ) (u:Lo),BindsTo s fd ⟨[u],[]⟩ [(x,u)])∧
    ∀base:Heap,(K w.params).In base→base.Ns TM mg→ze l.prog w (K w.params) mg base CX k fa fd [x] (sp (K w.params)))
  (hsp:∀(K:Ls) (H:Hp) (a:Addr) (ns:List Int),ns.length≤n→V3 H→zK K H a (ns.map V.int)→sp K [.ref a] H (λv _=>v=.bl true) λ_ _ _=>False)
  (hCX:∀(H:Hp) (s:LZ) (e:Lo) (s':LZ),CX [] H s (λ_ _ _=>False) e s'→False) :
  AR q loose XP YP l.row.toRowW d [] (λf vs=>Ap f vs):=
 HR (K:=K) (CX:=λ_=>CX) (sp:=λw=>sp (K w.params)) hn hn2 hdf hr hY F (λw H a ns h1 h2 h3=>hsp (K w.params) H a ns h1 h2 h3) λ_ H s e s'=>hCX H s e s'
end L2
namespace L2
open PySem PySem.Spec PyProof.Rows
noncomputable def inClass (s:Stmt) (j:Nat):Stmt:=match s with
 | .ClassDef _ _ _ body _ _ _ _ _ _ _=>body.getD j (.Pass ⟨0,0,0,0⟩)
 | _=>.Pass ⟨0,0,0,0⟩
noncomputable def kR (s:Stmt):Arguments:=match s with
 | .FunctionDef _ a _ _ _ _ _ _ _ _=>a
 | _=>{ posonlyargs:=[],args:=[],vararg:=none,kwonlyargs:=[],kw_defaults:=[],kwarg:=none,defaults:=[] }
noncomputable def xC (s:Stmt):List Stmt:=match s with
 | .FunctionDef _ _ b _ _ _ _ _ _ _=>b
 | _=>[]
noncomputable def zy (s:Stmt):Scope:=match s with
 | .FunctionDef _ _ _ _ _ _ sc _ _ _=>sc
 | _=>{ kind:=.function,names:=[],isGenerator:=false,isCoroutine:=false }
noncomputable abbrev zC:rD:=λ_ _ _ _ _ _=>False
abbrev E0:XK:=λ_ _ _=>False
theorem zJ {X:Cx}:Passes zC X E0:=λ_ _ _ _ _ _ _ h=>h.elim
structure B0 (K:Ls) (x qual:Str) (st:Stmt) (f:Addr) (fd:LG):Prop where
 ex:∃(oc:Lo) (od:Option Addr) (kV doc pm:Lo) (an:Option Addr) (cdv ct:Lo) (osl:Array (Option Lo)),
  fd=Te x qual (kR st) (xC st) (zy st) .none kV doc pm an cdv ct∧K.lookup f=some ⟨oc,od,.func fd,osl⟩∧Oq K cdv qual=true
 kp:Tt K (.ref f)=true
section
variable {P:LH} {w:Sz} {K:Ls} {mg:Str→Option Lo} {base:Heap}
theorem B0.ok {x qual:Str} {st:Stmt} {f:Addr} {fd:LG} {N ps:List Str} {k:Nat} {sp:Sp} (F:B0 K x qual st f fd) (S:zu N ps (zy st)) (len:∀vs H Q E,sp vs H Q E→vs.length=ps.length)
  (hbody:∀(cdv:Lo) (A:SO) (outer:List Env) (s:LZ) (H:Hp) (vs:List V) (Q:VK) (E:XK),xG k (A.deeper (envOfC qual (zy st) s.heap.objs.size f cdv))→sp vs H Q E→
   ∃t,Xn (KJ zC P w K mg base N qual (zy st) f cdv A outer s H E).D9 (xC st) t∧t { nx:=λ_ H'=>Q .non H',rt:=Q } (start N vs) H):ze P w K mg base zC (k + 1) f fd ps sp:=by
 obtain⟨oc,od,kV,doc,pm,an,cdv,ct,osl,rfl,lk,hcd⟩:=F.ex
 refine MM lk hcd S len λA outer s H vs Q E hr hsp=>?_
 obtain⟨t,h,q⟩:=hbody cdv A outer s H vs Q E hr hsp
 exact⟨t,h.D9,q⟩
theorem B0.binds {x qual:Str} {st:Stmt} {f:Addr} {fd:LG} {ps:List Str} (F:B0 K x qual st f fd)
  (h:∀(kV doc pm:Lo) (an:Option Addr) (cdv ct:Lo) (us:List Lo),us.length=ps.length→bindArgs (Te x qual (kR st) (xC st) (zy st) .none kV doc pm an cdv ct) ⟨us,[]⟩=pure (ps.zip us)):Binds K fd ps []:=by
 obtain⟨oc,od,kV,doc,pm,an,cdv,ct,osl,rfl,lk,hcd⟩:=F.ex
 exact .all (h kV doc pm an cdv ct)
theorem aK {x qual:Str} {st:Stmt} {f:Addr} {oc:Lo} {od an:Option Addr} {osl:Array (Option Lo)} {kV doc pm cdv ct:Lo} (l:K.lookup f=some ⟨oc,od,.func (Te x qual (kR st) (xC st) (zy st) .none kV doc pm an cdv ct),osl⟩)
  (c:Oq K cdv qual=true) (k:Tt K (.ref f)=true):B0 K x qual st f (Te x qual (kR st) (xC st) (zy st) .none kV doc pm an cdv ct):=⟨⟨oc,od,kV,doc,pm,an,cdv,ct,osl,rfl,l,c⟩,k⟩
end
theorem qo {A:SO} {k:Nat} (hr:xG k A):A.units + 1 < cLine:=Eu (Nat.add_le_add_left (by decide:1≤64) _) hr.units
theorem gx {n:Nat} (h:n≤1000):n < LI:=Eu h (by decide)
section
variable {X:Cx}
theorem pv (i:Nat) {x:Str} {pos:Pos} (hN:X.N[i]?=some x:=by rfl) (hv:Cs X.env.scope x:=by first | exact LL rfl | exact IP (LL rfl) | exact IP (IP rfl)) (hd:(x == ("__debug__" : Str))=false:=by decide)
  (hcd:(x == ("__classdict__" : Str))=false:=by decide):PE X (.Name x pos) (Q9 i):=Fc hN hv hd hcd
end
theorem tG {A B:Prop} (h:B):if false=true then A else B:=by
 rw[if_neg LA]
 exact h
theorem dA {A B:Prop} (h:A):if true=true then A else B:=by
 rw[if_pos rfl]
 exact h
theorem zD {c A B:Prop} [Decidable c] (h1:c→A) (h2:¬c→B):if c then A else B:=by
 by_cases h:c
 ·rw[if_pos h]
  exact h1 h
 ·rw[if_neg h]
  exact h2 h
def zf (H H':Hp):Prop:=∀b o,H b=some o→H' b=some o
theorem zf.refl (H:Hp):zf H H:=λ_ _ h=>h
theorem zf.trans {H H1 H2:Hp} (a:zf H H1) (b:zf H1 H2):zf H H2:=λc o h=>b c o (a c o h)
theorem zf.free {H H':Hp} (e:zf H H') {l:Addr} (h:H' l=zzy):H l=zzy:=by
 cases q:H l with
 | none=>rfl
 | some o=>
  rw[e l o q] at h
  cases h
theorem zf.seq {K:Ls} {H H':Hp} {a:Addr} {xs:List V} (e:zf H H') (h:zK K H a xs):zK K H' a xs:=by
 rcases h with (h | ⟨o,h⟩) | h
 ·exact .inl (.inl (e _ _ h))
 ·exact .inl (.inr ⟨o,e _ _ h⟩)
 ·exact .inr h
end L2
namespace L2
open PySem PySem.Spec PyProof.Rows
section
variable {X:Cx}
end
noncomputable def D4 (z:Str):It:=⟨λi _=>i < z.length,λi H x H'=>H'=H∧∃c,z.cps[i]?=some c∧x=.str ⟨#[c]⟩,λi _=>i=z.length⟩
theorem eD {prog:LH} {w:Sz} {A:SO} (hh:A.handled=none) (I:Addr) (x:Str) (t:Tok) :
  Walks prog w A I [I] [I] x.cps.size (SignAt x) (λi h=>h.IsStrIter I (Oo x) x t i):=by
 unfold Oo
 split
 ·exact Walks.strAscii hh I x t
 ·exact Walks.strWide hh I x t
theorem iK (z:Str):["enumerate","zip","dict_itemiterator","dict_reverseitemiterator","odict_iterator","itertools.zip_longest","itertools.pairwise"].contains (Oo z)=false:=by
 unfold Oo
 split<;>decide
theorem Gj {P:LH} {w:Sz} {K:Ls} {tg:Expr} (z:Str) (t:Tok) (it:Addr):Turn P w K tg (D4 z) [it] it (λi h=>h.IsStrIter it (Oo z) z t i) where
 mem:=by simp
 obj:=λi h st b hb=>by
  have e:b=it:=by simpa using hb
  subst e
  obtain⟨o,e,c,d⟩:=st
  exact⟨o,e,λv q=>by rw[d] at q;cases q⟩
 keep:=λi h h' st k=>by
  obtain⟨o,e,r⟩:=st
  exact⟨o,k it (by simp) o e,r⟩
 item:=by
  intro X hP hw hK hc i pins s σ H E I hf st hg
  subst hP hw hK
  obtain⟨f0,f1,f2,f3,f4,f5⟩:=hf it (by simp)
  have W:=eD (prog:=X.prog) (w:=X.w) (I.ok.hd hc) it z t
  refine W.item i s _ _ (show i < z.cps.size from hg) st λv h' tk hv st' kk=>?_
  obtain⟨c,u,hcx,rfl⟩:=hv
  have I1:Inv X pins σ H { s with heap:=h',toks:=tk }:=I.turned (λb o hb e=>kk b o (by simpa using hb) e) f0 f1 f3 f4 f5
  obtain⟨o,e,hcl,d⟩:=id st'
  exact⟨_,rfl,iO (s:={ s with heap:=h',toks:=tk }) e hcl d (iK z) ⟨.str ⟨#[c]⟩,H,I1,⟨u,rfl⟩,⟨rfl,c,hcx,rfl⟩,st',λb hb=>(hf b hb).1⟩⟩
 done:=by
  intro X hP hw hK hc i pins s σ H E I hf st hg
  subst hP hw hK
  obtain⟨f0,f1,f2,f3,f4,f5⟩:=hf it (by simp)
  have hi:i=z.length:=hg
  subst hi
  have W:=eD (prog:=X.prog) (w:=X.w) (I.ok.hd hc) it z t
  exact W.done s _ _ st λh' tk kk=>⟨rfl,I.turned (λb o hb e=>kk b o (by simpa using hb) e) f0 f1 f3 f4 f5⟩
 self:=λA i s Q E st h=>by
  revert st
  unfold Oo
  split
  ·intro st
   exact wpAny_pyIter_striter_ascii st h
  ·intro st
   exact wpAny_pyIter_striter_wide st h
section
variable {X:Cx} {tg:Expr}
def CK (tl:TE):TI:=λσ H R=>tl σ H λx H1=>∃z,x=.str z∧R (D4 z) H1
theorem Fs {l:Expr} {tl:TE} (hl:PE X l tl):PI X tg l (CK tl):=by
 intro pins s σ H R I h
 refine qC (hl pins s σ H _ I h) λv s1 ⟨x,H1,I1,r1,q1⟩=>?_
 obtain⟨z,e,q⟩:=q1
 subst e
 obtain⟨t,rfl⟩:=r1
 refine wpAny_pyIter_strU ?_
 refine⟨s1.heap.objs.size,[s1.heap.objs.size],_,_,H1,rfl,I1.kept (t':=s1.toks) λb o e=>LB _ e,Gj z t _,⟨_,Se _ rfl,rfl,rfl⟩,λb hb=>?_,q⟩
 have e:b=s1.heap.objs.size:=by simpa using hb
 subst e
 exact I1.aX (LF _) (I1.qx.fresh (LF _))
end
def RD:V→Option Int→Option Int→Hp→VK→Prop:=λx lo hi H Q=>∃z,x=.str z∧z.length≤LI∧Q (.str (Txt.slice z lo hi)) H
section
variable {X:Cx}
theorem Xf {ns:List Str}:∀{us:List Lo},Vals (ns.map V.str) us→StrsAre us ns:=by
 induction ns with
 | nil=>intro us h;cases h;exact .nil
 | cons n ns ih=>
  intro us h
  cases h with
  | cons r t=>
   obtain⟨tk,rfl⟩:=r
   exact .cons n tk (ih t)
def rJoin (K:Ls):V→List V→Hp→VK→Prop:=λx vs H Q=>∃z p ys,x=.str z∧vs=[.ref p]∧zK K H p (ys.map V.str)∧(ys.map (·.length)).sum + ys.length * z.length≤16777216∧Q (.str (Tr z ys)) H
theorem G7:eL X "str.join" (rJoin X.K):=by
 intro pins s σ H x vs v us Q I rx rv h
 obtain⟨z,p,ys,rfl,rfl,hq,hz,q⟩:=h
 obtain⟨t,rfl⟩:=rx
 obtain⟨u,rfl,ru⟩:=rv.one
 cases ru
 obtain⟨its,r,pl,_⟩:=I.list hq
 exact join_list pl.isList (Xf (by simpa using r)) hz λt' k=>⟨.str (Tr z ys),H,I.tok _,⟨t',rfl⟩,q⟩
def UU:R2:=λx y H Q=>∃z n,x=.str z∧y=.int n∧MulOk z n∧Q (.str (Txt.mul z n)) H
def UC:V→List V→Hp→VK→Prop:=λx vs H Q=>∃z y,x=.str z∧vs=[.str y]∧Q (.int (Txt.find z y)) H
theorem yt:xF X (.type "int") (λxs H Q=>∃z n,xs=[.str z]∧PySem.intText? z=some n∧z.length≤640∧Q (.int n) H):=by
 intro pins s σ H xs us Q I r h
 obtain⟨z,n,rfl,hn,hl,q⟩:=h
 obtain⟨u,rfl,t,rfl⟩:=vals1 r
 exact A8 hn hl ⟨.int n,H,I.tok _,⟨_,rfl⟩,q⟩
noncomputable def Wx:V→Lo
 | .ty n=>.type n
 | .ref a=>.ref a
 | _=>.none
theorem Z2:xF X (.builtin "isinstance") (λxs H Q=>∃x c t b,xs=[x,c]∧((∃n,c=.ty n)∨∃a,c=.ref a)∧xm X.K H x t∧SQ X.K t (Wx c)=some b∧Q (.bl b) H):=by
 intro pins s σ H xs us Q I r h
 obtain⟨x,c,t,b,rfl,hc,ty,hk,q⟩:=h
 obtain⟨u,u',rfl,rx,rc⟩:=vals2 r
 have e:u'=Wx c:=by
  rcases hc with ⟨n,rfl⟩ | ⟨a,rfl⟩
  ·exact rc
  ·exact rc
 subst e
 exact KI I rx ty hk λtk=>⟨.bl b,H,I.tok _,rfl,q⟩
theorem range_all (bs:List Bool):(TL bs.length).all (λi=>bs.getD i true)=bs.all id:=by
 rw[NX,Tc,Tc]
 constructor
 ·intro h x hx
  obtain⟨i,hi,e⟩:=NN hx
  have:=h i (N8.mpr hi)
  rw[L7,Le hi] at this
  rw[←e]
  exact this
 ·intro h i hi
  have hi':=N8.mp hi
  rw[L7,Le hi']
  exact h _ (T5 hi')
theorem yl (hc:X.calm=true):xF X (.builtin "all") (λxs H Q=>∃(p:Addr) (bs:List Bool),xs=[.ref p]∧zK X.K H p (bs.map V.bl)∧Q (.bl (bs.all id)) H):=by
 intro pins s σ H xs us Q I r h
 obtain⟨p,bs,rfl,hq,q⟩:=h
 obtain⟨u,rfl,ru⟩:=vals1 r
 cases ru
 obtain⟨its,rv,pl,_⟩:=I.list hq
 have hl:=rv.length
 rw[Ln] at hl
 refine call_all_walk (ON pl.isList ?_)
 have hne:p≠s.heap.objs.size:=SJ (by obtain⟨o,n,e,_⟩:=pl;exact L0 e)
 refine⟨s.heap.objs.size,_,_,_,_,_,λi=>bs.getD i true,rfl,Walks.list (show X.A.in1.handled=none from I.ok.hd hc) s.heap.objs.size p hne its.toArray,⟨⟨_,Se _ rfl,rfl,rfl⟩,?_⟩,?_,?_⟩
 ·obtain⟨o,e,rest⟩:=pl.isList
  exact⟨o,LB _ e,rest⟩
 ·intro i v s' Q' E' hv hQ'
  have hv':its[i]?=some v:=by simpa using hv
  have hi:i < bs.length:=by rw[hl];exact(LN.mp hv').1
  obtain⟨u,e1,e2⟩:=rv.get (i:=i) (x:=V.bl bs[i]) (by rw[LV,Le hi];rfl)
  rw[hv'] at e1
  cases e1
  cases e2
  dsimp only at hQ'
  rw[L7,Le hi] at hQ'
  exact Ti hQ'
 ·intro h' tk kk
  have I1:Inv X pins σ H { s with heap:=h',toks:=tk }:=I.kept λb o e=>kk b o (by
   intro z
   have z':b=s.heap.objs.size:=by simpa using z
   exact absurd (L0 e) (by rw[z'];exact T3 _)) (LB _ e)
  refine⟨.bl _,H,I1,?_,q⟩
  show OH _=OH _
  rw[Sj,←hl,range_all]
mutual
inductive dt (K:Ls) (H:Hp):V→PyData→Prop where
 | non:dt K H .non .none
 | bl (b:Bool):dt K H (.bl b) (.bool b)
 | int (i:Int):dt K H (.int i) (.int i)
 | str (x:Str):dt K H (.str x) (.str x)
 | lst {a:Addr} {xs:List V} {ds:List PyData}:zK K H a xs→vj K H xs ds→dt K H (.ref a) (.list ds)
 | tup {a:Addr} {xs:List V} {ds:List PyData}:jt K H a xs→vj K H xs ds→dt K H (.ref a) (.tuple ds)
inductive vj (K:Ls) (H:Hp):List V→List PyData→Prop where
 | nil:vj K H [] []
 | cons {x:V} {xs:List V} {d:PyData} {ds:List PyData}:dt K H x d→vj K H xs ds→vj K H (x :: xs) (d :: ds)
end
mutual
theorem dt.reads {pins:List (Addr × Obj)} {σ:St} {H:Hp} {s:LZ} (I:Inv X pins σ H s):∀{x:V} {d:PyData} {v:Lo},dt X.K H x d→RelV x v→∃as,Reads s.heap v d as
 | _,_,_,.non,r=>by cases r;exact⟨_,.none⟩
 | _,_,_,.bl b,r=>by cases r;exact⟨_,.bool b⟩
 | _,_,_,.int i,r=>by obtain⟨t,rfl⟩:=r;exact⟨_,.int i t⟩
 | _,_,_,.str x,r=>by obtain⟨t,rfl⟩:=r;exact⟨_,.str x t⟩
 | _,_,_,.lst hq rs,r=>by
  cases r
  obtain⟨its,rv,pl,_⟩:=I.list hq
  obtain⟨as,ra⟩:=vj.reads I rs rv
  obtain⟨o,n,e,c,_,d⟩:=pl
  exact⟨_,.list e c d (by simpa using ra)⟩
 | _,_,_,.tup hq rs,r=>by
  cases r
  obtain⟨its,rv,pl,_⟩:=I.tuple hq
  obtain⟨as,ra⟩:=vj.reads I rs rv
  obtain⟨o,e,c,n,d⟩:=pl
  exact⟨_,.tuple e c d (by simpa using ra)⟩
theorem vj.reads {pins:List (Addr × Obj)} {σ:St} {H:Hp} {s:LZ} (I:Inv X pins σ H s):∀{xs:List V} {ds:List PyData} {vs:List Lo},vj X.K H xs ds→Vals xs vs→∃as,ReadsAll s.heap vs ds as
 | _,_,_,.nil,r=>by cases r;exact⟨_,.nil⟩
 | _,_,_,.cons q qs,r=>by
  cases r with
  | cons r rs=>
   obtain⟨as,ra⟩:=dt.reads I q r
   obtain⟨bs,rb⟩:=vj.reads I qs rs
   exact⟨_,.cons ra rb⟩
end
def Hs (K:Ls) (neg:Bool):R2:=λx y H Q=>∃d e,dt K H x d∧dt K H y e∧SI d=true∧SI e=true∧Q (.bl (if neg then !PyData.eqv d e else N5 d e)) H
theorem Fq (hu:X.A.units + 64 < cLine):bb X (S9 .Eq) (Hs X.K false):=by
 intro pins s σ H x y v u Q I rx ry h
 obtain⟨d,e,h1,h2,h3,h4,q⟩:=h
 obtain⟨as,ra⟩:=h1.reads I rx
 obtain⟨bs,rb⟩:=h2.reads I ry
 exact eq_dataH ra rb h3 h4 hu ⟨.bl _,H,I,rfl,q⟩
theorem Fj (hu:X.A.units + 64 < cLine):bb X (S9 .NotEq) (Hs X.K true):=by
 intro pins s σ H x y v u Q I rx ry h
 obtain⟨d,e,h1,h2,h3,h4,q⟩:=h
 obtain⟨as,ra⟩:=h1.reads I rx
 obtain⟨bs,rb⟩:=h2.reads I ry
 exact ne_dataH ra rb h3 h4 hu ⟨.bl _,H,I,rfl,q⟩
theorem vj.strs {K:Ls} {H:Hp}:∀xs:List Str,vj K H (xs.map V.str) (xs.map S0)
 | []=>.nil
 | x :: r=>.cons (.str x) (vj.strs r)
theorem bC:∀xs ys:List Str,Np (xs.map S0) (ys.map S0)=decide (xs=ys)
 | [],[]=>by simp [Np]
 | [],_ :: _=>by simp [Np]
 | _ :: _,[]=>by simp [Np]
 | x :: xs,y :: ys=>by
  simp only[LR,Np,N5,bC xs ys]
  by_cases h:x=y<;>by_cases h':xs=ys<;>simp [h,h']
theorem bX:∀xs:List Str,(∀x∈xs,TF x=true)→NM (xs.map S0)=true∧N3 (xs.map S0)=0
 | [],_=>⟨rfl,rfl⟩
 | x :: r,h=>by
  have q:=bX r λy hy=>h y (LK _ hy)
  simp [NM,Oj,N3,OY,q.1,q.2,h x Sw]
theorem qV {xs:List Str} (h:∀x∈xs,TF x=true):SI (.list (xs.map S0))=true:=by
 have q:=bX xs h
 simp [SI,Oj,OY,q.1,q.2]
end
section
variable {X:Cx} {CX:rD} {k:Nat} {f C:Addr} {fd:LG} {ps:List Str} {sp:Sp} {dvs:List V} {ds:List Lo} {E:XK} {x m:Str} {p pos apos:Pos} {e:Expr} {es:List Expr} {t:TA}
structure VE (K:Ls) (C:Addr) (m:Str) (f:Addr):Prop where
 ga:NB K (.ref C) "__getattribute__" = some (some (.builtin "type.__getattribute__"))
 rd:PySem.W.readsIn K C (.type "type")=true
 at_:PySem.W.findCls K (.ref C) (.type "type") m=some (.val (.ref f))
 kp:Tt K (.ref f)=true
theorem nB {pl:Sem Bool} (hg:Gl X x) (hm:X.mg x=some (.ref C)) (c:VE X.K C m f) (F:ze X.prog X.w X.K X.mg X.base CX k f fd ps sp) (hr:xG k X.A) (hb:Binds X.K fd ps ds) (hd:Vals dvs ds) (hx:Passes CX X E) (ha:PA X (e :: es) t)
  (hst:Sg (e :: es) X.env=(false,eval e X.env) :: Sg es X.env:=by rfl) (hpl:(backTo pos (Sg es X.env)).any (·.1)=false:=by rfl) (hdb:(x == ("__debug__" : Str))=false:=by decide)
  (ht:eval (.Call (.Attribute (.Name x p) m apos) (e :: es) [] pos) X.env=(do
   let ov ←eval (.Name x p) X.env
   standAt apos.atName
   let (f,first) ←holding [ov] (Oh ov m pl)
   callWith pos f first (backTo pos (Sg (e :: es) X.env)) (NC pos (TC [] X.env))):=by rfl) :
  PE X (.Call (.Attribute (.Name x p) m apos) (e :: es) [] pos) (BL sp dvs E t):=by
 intro pins s σ H Q I h
 refine T8 (pl:=pl) (d6 I hg hm ?_ hdb) ht
 refine PySem.W.method_cls I.di c.ga (PySem.W.cls_value I.di c.rd c.at_ rfl ?_)
 refine Nt (first:=[]) (h₀:=X.base) I.ok.mod.PQ c.kp (qC (ha pos pins _ σ H _ (I.tok _) h) λus s1 ⟨vs,H1,I1,r,q⟩=>⟨I1.di,?_⟩) hst hpl
 exact nC F hr hb hd hx I1 r q
end
end L2
namespace L2
open PySem PySem.Spec PyProof.Rows
noncomputable def qk (env:Env):List (Str × Ot)→List (Str × Addr)→List (Str × Addr)
 | [],acc=>acc
 | (n,k) :: r,acc=>qk env r (if k == .free then (n,(env.cells.lookup n).getD 0) :: acc else acc)
theorem fX {sc:Scope} {env:Env} (h:∀y∈sc.names,y.2=.free→∃c,env.cells.lookup y.1=some c):closureFor sc env=pure (qk env sc.names []):=by
 simp only[closureFor]
 have key:∀(l:List (Str × Ot)) (acc:List (Str × Addr)),(∀y∈l,y.2=.free→∃c,env.cells.lookup y.1=some c)→
   (forIn l acc (λ(x:Str × Ot) (r:List (Str × Addr))=>if (x.2 == Sa)=true then do let a ←cellOf env x.1;pure (NK ((x.1,a) :: r)) else pure (NK r)):Sem (List (Str × Addr)))=pure (qk env l acc):=by
  intro l
  induction l with
  | nil=>intro acc _;rfl
  | cons y r ih=>
   intro acc hl
   obtain⟨n,k⟩:=y
   rw[List.forIn_cons]
   have ih':=λacc=>ih acc λz hz=>hl z (LK _ hz)
   by_cases hk:(k == Sa)=true
   ·obtain⟨c,hc⟩:=hl (n,k) Sw (by simpa using hk)
    have hc':env.cells.lookup n=some c:=hc
    have e1:cellOf env n=pure c:=by unfold cellOf;rw[hc']
    simp only[hk,if_true,e1,qk,hc',Option.getD_some]
    exact ih' _
   ·simp only[hk,qk]
    exact ih' _
 rw[key sc.names [] h]
 rfl
theorem xi {env:Env}:∀(l:List (Str × Ot)) (acc:List (Str × Addr)),(∀z c,acc.lookup z=some c→c=(env.cells.lookup z).getD 0)→
  (∀z c,(qk env l acc).lookup z=some c→c=(env.cells.lookup z).getD 0)∧(∀z,(qk env l acc).lookup z=none↔(acc.lookup z=none∧(z,Sa)∉l))
 | [],acc,h=>⟨h,λz=>by simp [qk]⟩
 | (n,k) :: r,acc,h=>by
  by_cases hk:(k == Sa)=true
  ·have hk':k=.free:=by simpa using hk
   subst hk'
   have h':∀z c,((n,(env.cells.lookup n).getD 0) :: acc).lookup z=some c→c=(env.cells.lookup z).getD 0:=by
    intro z c e
    rw[TH] at e
    cases hz:z == n with
    | true=>
     rw[hz] at e
     have e':(env.cells.lookup n).getD 0=c:=by simpa using e
     rw[beq_iff_eq.mp hz,e']
    | false=>
     rw[hz] at e
     exact h z c (by simpa using e)
   obtain⟨a,b⟩:=xi r _ h'
   refine⟨by simpa [qk] using a,λz=>?_⟩
   have b':=b z
   show (qk env r (if (Sa == Sa)=true then _ else acc)).lookup z=none↔_
   rw[if_pos hk,b',TH]
   cases hz:z == n with
   | true=>
    have:z=n:=beq_iff_eq.mp hz
    subst this
    simp
   | false=>
    have hne:z≠n:=by intro q;subst q;simp at hz
    simp [hne]
  ·obtain⟨a,b⟩:=xi r acc h
   have e0:qk env ((n,k) :: r) acc=qk env r acc:=by
    show qk env r (if (k == Sa)=true then _ else acc)=_
    rw[if_neg hk]
   rw[e0]
   refine⟨a,λz=>?_⟩
   rw[b z]
   have hne:¬(Sa=k):=by intro q;subst q;exact hk rfl
   simp [hne]
theorem jW {env:Env}:∀{names:List (Str × Ot)} {x:Str},
  (names.map λ(n,k)=>if (k == Sa && env.scope.kind == .function && env.kindOf n == some .cell) then (n,T4) else (n,k)).lookup x =
   (names.lookup x).map λk=>if (k == Sa && env.scope.kind == .function && env.kindOf x == some .cell) then T4 else k
 | [],_=>rfl
 | (n,k) :: r,x=>by
  have ih:=@jW env r x
  rw[LR]
  show TX x ((if (k == Sa && env.scope.kind == .function && env.kindOf n == some .cell)=true then (n,T4) else (n,k)) :: _)=_
  cases hx:x == n with
  | true=>
   have:x=n:=beq_iff_eq.mp hx
   subst this
   by_cases hc:(k == Sa && env.scope.kind == .function && env.kindOf x == some .cell)=true
   ·rw[if_pos hc];simp only[TH,hx,Tq,if_pos hc]
   ·rw[if_neg hc];simp only[TH,hx,Tq,if_neg hc]
  | false=>
   by_cases hc:(k == Sa && env.scope.kind == .function && env.kindOf n == some .cell)=true
   ·rw[if_pos hc,TH,TH,hx];exact ih
   ·rw[if_neg hc,TH,TH,hx];exact ih
structure yB (osc:Scope) (N:List Str) (sc:Scope) (x:Str) (names:List Str) (zR:List Nat):Prop where
 kind:sc.kind=.function
 nh:∀y∈sc.names,y.2≠.cell
 locs:∀y∈sc.names,y.2=.local→sc.names.lookup y.1=some .local
 frees:∀y∈sc.names,y.2=.free→osc.names.lookup y.1=some .cell
 own:sc.names.lookup x=some .local
 zR:names.map some=zR.map λi=>N[i]?
 Ji:∀y∈names,sc.names.lookup y=some .free
 nd:(x :: names).Nodup
noncomputable def vf (X:Cx) (sc:Scope) (x:Str) (names:List Str) (fp:List Addr) (s₀:LZ) (H₀:Hp):Cx where
 prog:=X.prog
 w:=X.w
 K:=X.K
 mg:=X.mg
 base:=X.base
 A:=X.A
 N:=x :: names
 s₀:=s₀
 H₀:=H₀
 env:=compEnvC sc (qk X.env sc.names []) s₀.heap.objs.size X.env
 outer:=X.stack
 stack:=X.stack
 ex:=fp
 fn:=λ_=>false
 calm:=X.calm
 pn:=[]
 xe:=λ_ _=>False
noncomputable def kc (σ:St) (zR:List Nat):St:=zR.map λi=>(σ[i]?).join
def Xs (J:It) (zR:List Nat) (te:TE) (σ:St) (Q:VK) (H1:Hp):Prop:=∀D,H1 D=none→∃W:Nat→Nat→Hp→Prop,(∃m,W 0 m (upd H1 D (.lst [])))∧∀i m H2,W i m H2→
 (J.stop i H2∧Q (.ref D) H2)∨(J.go i H2∧∀y H3,J.VN i H2 y H3→te (some y :: kc σ zR) H3 λv H4=>∃ys,H4 D=some (.lst ys)∧ys.length < LI∧∃m',m' < m∧W (i + 1) m' (upd H4 D (.lst (ys ++ [v]))))
def BS (zR:List Nat) (wi:TI) (te:TE):TE:=λσ H Q=>wi σ H λJ H1=>Xs J zR te σ Q H1
section
variable {prog:LH} {w:Sz} {A:SO} {R:Result→LZ→Prop} {s:LZ}
theorem Z4 {elt target iter:Expr} {scope:Scope} {pos:Pos} {it acc:Lo} {env:Env} (I:Nat→LZ→Prop)
  (turn:∀n s,I n s→Sv (L9 prog w) A (pyNext it) (λr s₁=>match r with
   | none=>R (.ok .next) s₁
   | some v=>Sv (L9 prog w) A (NJ target it v) (λ_ s₁'=>Sv (L9 prog w) A (assign target env v) (λ_ s₂=>
      Sv (L9 prog w) A (eval elt env) (λx s₄=>
       Sv (L9 prog w) A (call (.builtin "list.append") [acc,x]) (λ_ s₅=>∃m,m < n∧I m s₅) (Oc (L9 prog w) A env λe s'=>R (.error e) s') s₄) (Oc (L9 prog w) A env λe s'=>R (.error e) s') s₂)
      (Oc (L9 prog w) A env λe s'=>R (.error e) s') s₁') (Oc (L9 prog w) A env λe s'=>R (.error e) s') s₁) (Oc (L9 prog w) A env λe s'=>R (.error e) s') s)
  (n:Nat) (h:I n s) :
  NH (L9 prog w) A (.compLoop (.ListComp elt [⟨target,iter,[],0⟩] scope pos) 0 it acc env) R s:=by
 refine codeAny_loop rfl I (λn s hI=>?_) n h
 show Sv _ A ((compTurn (.ListComp elt [⟨target,iter,[],0⟩] scope pos) 0 it acc env).onRaise (λx=>do noteFrame x env;theTreesLotGoes x)) _ _ s
 refine wpAny_noted ?_
 rw[compTurn_list]
 refine L1 (Od (L1 (SS (turn n s hI) (λr s₁ h₁=>?_) λ_ _ h'=>h')))
 cases r with
 | none=>exact Sn h₁
 | some v=>
  refine L1 (SS h₁ (λ_ s₁' h₁'=>?_) λ_ _ h'=>h')
  refine L1 (SS h₁' (λ_ s₂ h₂=>L1 (Aq ?_)) λ_ _ h'=>h')
  exact L1 (L1 (SS h₂ (λx s₄ h₄=>L1 (SS h₄ (λ_ s₅ h₅=>Sn (Sn ⟨rfl,h₅⟩)) λ_ _ h'=>h')) λ_ _ h'=>h'))
end
section
variable {X:Cx}
theorem Px {pins:List (Addr × Obj)} {σ:St} {H:Hp} {s:LZ} {osc:Scope} {N:List Str} {sc:Scope} {x:Str} {names:List Str} {zR:List Nat} {fp:List Addr}
  (hos:X.env.scope=osc) (cs:yB osc N sc x names zR) (I:Inv X pins σ H s) (hf:∀b∈fp,vT X pins H b) (hlt:∀b∈fp,b < s.heap.objs.size):(vf X sc x names fp s H).Ok:=by
 subst hos
 have cl:=xi (env:=X.env) sc.names [] (λz c e=>by simp at e)
 have hcl:∀y c,(qk X.env sc.names []).lookup y=some c→X.env.cells.lookup y=some c:=λy c e=>by
  have e1:=cl.1 y c e
  have hm:(y,Sa)∈sc.names:=by
   by_cases q:(y,Sa)∈sc.names
   ·exact q
   ·have:=(cl.2 y).mpr ⟨rfl,q⟩
    rw[this] at e;cases e
  obtain⟨c',hc'⟩:=I.ok.has y (.inl (cs.frees _ hm rfl))
  rw[hc'] at e1 ⊢
  rw[e1];rfl
 refine⟨I.ok.mod,?_,I.ok.glob,I.ok.blt,LF _,λy z c h1 h2=>I.ok.inj y z c (hcl y c h1) (hcl z c h2),λy hy=>?_,λy c h=>?_,I.ok.hd,I.ok.frames,.inl rfl,λb hb=>⟨?_,λy c h=>?_⟩,
  I.bs,S1 I.ok.VS I.sz,λb o e hb=>?_,λb hb z=>?_,I.stack,I.ZY⟩
 ·exact cs.kind
 ·have hy':(relabel sc X.env).names.lookup y=some .cell∨(relabel sc X.env).names.lookup y=some .free:=hy
  have key:sc.names.lookup y=some .free:=by
   unfold relabel at hy'
   rw[jW] at hy'
   cases q:sc.names.lookup y with
   | none=>rw[q] at hy';simp at hy'
   | some k=>
    rw[q] at hy'
    have hm:=S4 q
    have hnc:=cs.nh _ hm
    by_cases hk:k=.free
    ·rw[hk]
    ·have e:(if (k == Sa && X.env.scope.kind == .function && X.env.kindOf y == some .cell)=true then T4 else k)=k:=if_neg (by simp [hk])
     rw[Tq,e] at hy'
     rcases hy' with z | z
     ·exact absurd (L8 z) hnc
     ·exact absurd (L8 z) hk
  have hm:=S4 key
  cases q:(qk X.env sc.names []).lookup y with
  | some c=>exact⟨c,q⟩
  | none=>exact absurd hm ((cl.2 y).mp q).2
 ·exact absurd (show false=true from h) (by simp)
 ·exact SJ (hlt b hb)
 ·exact(hf b hb).2.2.2.2.1 y c (hcl y c h)
 ·rcases(hf b hb).2.2.2.1 with z | z
  ·exact I.ok.Vw b o e z
  ·exact absurd (Sl (L0 e) (S1 I.ok.VS z)) (T3 _)
 ·rcases La.mp (I.ZG b z) with q | q
  ·exact(hf b hb).2.1 q
  ·exact(hf b hb).2.2.1 q
theorem Z6 {pins:List (Addr × Obj)} {σ:St} {s₂:LZ} {osc:Scope} {N:List Str} {sc:Scope} {x:Str} {px pos:Pos} {elt iter:Expr} {names:List Str} {zR:List Nat} {te:TE} {E:Lo→LZ→Prop}
  {RR:Lo→Addr→Result→LZ→Prop} {H2:Hp} {it:Addr} {fp:List Addr} {tn:Nat→Heap→Prop} {J:It} {Qd:V→Hp→Prop}
  (hc:X.calm=true) (hos:X.env.scope=osc) (hN:X.N=N) (cs:yB osc N sc x names zR) (he:∀fp s₀ H₀,PE (vf X sc x names fp s₀ H₀) elt te)
  (I2:Inv X pins σ H2 s₂) (T:Turn X.prog X.w X.K (.Name x px) J fp it tn) (st2:tn 0 s₂.heap) (f2:∀b∈fp,vT X pins H2 b)
  (hW:Xs J zR te σ Qd H2)
  (cont:∀D C H5 s6 m,Inv X pins σ H5 s6→s6.heap.Ns C m→vT X pins H5 C→Qd (.ref D) H5→RR (.ref D) C (.ok .next) s6) :
  Sv (L9 X.prog X.w) X.A (newList []) (λacc s₃=>Sv (L9 X.prog X.w) X.A (newFunctionEnv sc X.env.globals (qk X.env sc.names []) [] X.env.qual none .none (some X.env)) (λcenv s₄=>
   NH (L9 X.prog X.w) X.A (.compStart (.ListComp elt [⟨.Name x px,iter,[],0⟩] sc pos) 0 (.ref it) acc { cenv with scope:=relabel sc X.env }) (RR acc cenv.locals) s₄) E s₃) E s₂:=by
 subst hN
 refine EY (IM cs.nh (by intro y hy;simp at hy) (λh₁ hns₁ hsb₁=>?_) cs.kind)
 dsimp only at hns₁ hsb₁ ⊢
 have fp2:∀b∈fp,b < s₂.heap.objs.size:=λb hb=>by
  obtain⟨o,e,_⟩:=T.obj _ _ st2 b hb
  exact L0 e
 have I3:Inv X pins σ (upd H2 s₂.heap.objs.size (.lst [])) { s₂ with heap:=s₂.heap.push { cls:=.type "list",dict:=none,data:=.seq ([]:List Lo).toArray } }:=I2.WU (t':=s₂.toks) (its:=[]) .nil (Sy _)
 obtain⟨W,⟨m0,w0⟩,turn⟩:=hW s₂.heap.objs.size I2.fresh
 have f3:∀b∈fp,vT X pins (upd H2 s₂.heap.objs.size (.lst [])) b:=λb hb=>⟨by rw[zP (SJ (fp2 b hb))];exact(f2 b hb).1,(f2 b hb).2⟩
 have hD:∀b o,s₂.heap.get? b=some o→(s₂.heap.push { cls:=.type "list",dict:=none,data:=.seq ([]:List Lo).toArray }).get? b=some o:=λb o e=>LB _ e
 generalize hs3:({ s₂ with heap:=s₂.heap.push { cls:=.type "list",dict:=none,data:=.seq ([]:List Lo).toArray } }:LZ)=s₃ at *
 have hs3h:s₃.heap=s₂.heap.push { cls:=.type "list",dict:=none,data:=.seq ([]:List Lo).toArray }:=by rw[←hs3]
 rw[←hs3h] at hns₁ hsb₁ hD ⊢
 have XU:∀b∈fp,b < s₃.heap.objs.size:=λb hb=>by
  rw[hs3h,OF];exact EG (fp2 b hb)
 have k3:∀b o,s₃.heap.get? b=some o→h₁.get? b=some o:=λb o e=>hsb₁.extBut b o (SJ (L0 e)) (LB _ e)
 have ok:=Px hos cs I3 f3 XU
 have cl:=xi (env:=X.env) sc.names [] (λz c e=>by simp at e)
 have hcl:∀y c,(qk X.env sc.names []).lookup y=some c→X.env.cells.lookup y=some c:=λy c e=>by
  have e1:=cl.1 y c e
  have hm:(y,Sa)∈sc.names:=by
   by_cases q:(y,Sa)∈sc.names
   ·exact q
   ·have:=(cl.2 y).mpr ⟨rfl,q⟩
    rw[this] at e;cases e
  obtain⟨c',hc'⟩:=I3.ok.has y (.inl (by show X.env.scope.names.lookup y=_;rw[hos];exact cs.frees _ hm rfl))
  rw[hc'] at e1 ⊢
  rw[e1];rfl
 have cell4:∀y c,(qk X.env sc.names []).lookup y=some c→∀v,s₃.heap.IsCell c v→h₁.IsCell c v:=λy c e v ⟨o,ho,hd⟩=>⟨o,k3 _ _ ho,hd⟩
 have lenC:zR.length=names.length:=by have:=congrArg Tb cs.zR;simpa using this.symm
 have I4:∀tk,Inv (vf X sc x names fp s₃ (upd H2 s₂.heap.objs.size (.lst []))) [] (none :: kc σ zR) (upd H2 s₂.heap.objs.size (.lst [])) { s₃ with heap:=h₁,toks:=tk }:=λtk=>by
  refine⟨ok,rfl,I3.bare,Un.kept k3,⟨_,hns₁,λi y v e1 e2 e3=>?_⟩,λy c e=>?_,I3.fresh,λy c e=>I3.yk y c (hcl y c e),λp hp=>absurd (show p∈([]:List (Addr × Obj)) from hp) (by simp),I3.qx.kept k3,?_⟩
  ·cases i with
   | zero=>simp at e2
   | succ j=>
    have e1':names[j]?=some y:=by simpa [vf] using e1
    have e2':(kc σ zR)[j]?=some (some v):=by simpa using e2
    unfold kc at e2'
    rw[LV] at e2'
    cases qc:zR[j]? with
    | none=>rw[qc] at e2';cases e2'
    | some i0=>
     rw[qc] at e2'
     have e2'':(σ[i0]?).join=some v:=by simpa using e2'
     have e3':σ[i0]?=some (some v):=by
      cases qs:σ[i0]? with
      | none=>rw[qs] at e2'';cases e2''
      | some o=>rw[qs] at e2'';rw[show o=some v from by simpa using e2'']
     have eN:X.N[i0]?=some y:=by
      have q1:(names.map some)[j]?=(zR.map λi=>X.N[i]?)[j]?:=by rw[cs.zR]
      rw[LV,LV,e1',qc] at q1
      have q2:some y=X.N[i0]?:=by simpa using q1
      exact q2.symm
     have hfree:=cs.Ji y (LC e1')
     have hm:=S4 hfree
     have hcell:X.env.scope.names.lookup y=some .cell:=by rw[hos];exact cs.frees _ hm rfl
     obtain⟨m,hn,hl⟩:=I3.loc
     obtain⟨u,ru,lk⟩:=hl i0 y v eN e3' (.inr (.inl hcell))
     refine⟨u,ru,?_⟩
     rcases lk with ⟨kk,_⟩ | ⟨kk,c,ec,hcl'⟩
     ·have kk':X.env.scope.names.lookup y=some .local:=kk
      rw[hcell] at kk';cases kk'
     ·refine .inr ⟨?_,c,?_,?_⟩
      ·left
       show (relabel sc X.env).names.lookup y=some .cell
       unfold relabel
       rw[jW,hfree]
       have ef:(X.env.scope.kind == Er)=true:=by rw[I3.ok.kind];rfl
       have ek:(X.env.kindOf y == some T4)=true:=by
        show (X.env.scope.names.lookup y == some T4)=true
        rw[hcell];rfl
       simp [ef,ek]
      ·show (qk X.env sc.names []).lookup y=some c
       cases q:(qk X.env sc.names []).lookup y with
       | none=>exact absurd hm ((cl.2 y).mp q).2
       | some c'=>
        have:=hcl y c' q
        rw[ec] at this
        exact this.symm
      ·obtain⟨o,ho,hd⟩:=hcl'
       exact⟨o,k3 _ _ ho,hd⟩
  ·obtain⟨v,hv⟩:=I3.cell y c (hcl y c e)
   exact⟨v,cell4 y c e v hv⟩
  ·show (none :: kc σ zR).length=(x :: names).length
   unfold kc
   simp [lenC]
 have st4:tn 0 h₁:=T.keep _ _ _ st2 λb hb o e=>k3 b o (by rw[hs3h];exact LB _ e)
 have fpok:∀{H':Hp},(∀b∈fp,H' b=none)→∀b∈fp,vT (vf X sc x names fp s₃ (upd H2 s₂.heap.objs.size (.lst []))) [] H' b:=λhn b hb=>
  ⟨hn b hb,(ok.Mw b hb).1,ok.Jm b hb,.inl hb,(ok.Mw b hb).2,λp hp=>absurd (show p∈([]:List (Addr × Obj)) from hp) (by simp)⟩
 have loop:∀s₄:LZ,s₄={ s₃ with heap:=h₁,toks:=s₃.toks + ([]:List (Str × Lo)).length }→
   NH (L9 X.prog X.w) X.A (.compLoop (.ListComp elt [⟨.Name x px,iter,[],0⟩] sc pos) 0 (.ref it) (.ref s₂.heap.objs.size) (compEnvC sc (qk X.env sc.names []) s₃.heap.objs.size X.env))
    (RR (.ref s₂.heap.objs.size) s₃.heap.objs.size) s₄:=by
  rintro s₄ rfl
  refine Z4 (λn s'=>∃i H',Inv (vf X sc x names fp s₃ (upd H2 s₂.heap.objs.size (.lst []))) [] (none :: kc σ zR) H' s'∧tn i s'.heap∧(∀b∈fp,H' b=none)∧W i n H') ?_ m0
   ⟨0,_,I4 _,st4,λb hb=>(f3 b hb).1,w0⟩
  rintro n s5 ⟨i,H5,I5,st5,fr5,w5⟩
  rcases turn i n H5 w5 with ⟨stop,q⟩ | ⟨go,step⟩
  ·refine qC (T.done (vf X sc x names fp s₃ (upd H2 s₂.heap.objs.size (.lst []))) rfl rfl rfl hc i [] s5 _ H5 _ I5 (fpok fr5) st5 stop) λr s6 ⟨hr,I6⟩=>?_
   subst hr
   obtain⟨m,hn,_⟩:=I6.loc
   have J6:Inv X pins σ H5 s6:=I3.Bq (ch:=fp) I6.os I6.base I6.qx I6.bare λb hb=>⟨(f3 b hb).2.2.2.1,(f3 b hb).2.1,(f3 b hb).2.2.2.2.1,(f3 b hb).2.2.2.2.2⟩
   exact cont _ _ H5 s6 m J6 hn (I3.aX (H':=H5) (LF _) I6.free) q
  ·refine qC (T.item (vf X sc x names fp s₃ (upd H2 s₂.heap.objs.size (.lst []))) rfl rfl rfl hc i [] s5 _ H5 _ I5 (fpok fr5) st5 go) λr s6 ⟨u,hr,h6⟩=>?_
   subst hr
   refine qC h6 λ_ s6' ⟨y,H6,I6,r6,y6,st6,fr6⟩=>?_
   have I6':=I6.pinned (fpok fr6) (T.obj _ _ st6)
   have own':(relabel sc X.env).names.lookup x=some .local:=lookup_relabel_local cs.own
   refine SS (zM (X:=vf X sc x names fp s₃ (upd H2 s₂.heap.objs.size (.lst []))) (i:=0) (x:=x) (pos:=px) cs.nd rfl (.inl own') (.inr own') _ s6' _ H6 y u (λσ' H'=>σ'=(none :: kc σ zR).set 0 (some y)∧H'=H6) I6' r6 ⟨rfl,rfl⟩)
    (λ_ s7 ⟨σ7,H7,I7,e7,e7'⟩=>?_) λ_ _ z=>S6 z
   subst e7 e7'
   refine SS (he fp s₃ _ _ s7 _ H7 _ I7 (step y H7 y6)) (λv s8 ⟨vv,H8,I8,r8,ys,hD8,hz8,m',hm',w8⟩=>?_) λ_ _ z=>S6 z
   refine SS (uV (X:=vf X sc x names fp s₃ (upd H2 s₂.heap.objs.size (.lst []))) _ s8 _ H8 (.ref s₂.heap.objs.size) [vv] (.ref s₂.heap.objs.size) [v] (λ_ H'=>H'=upd H8 s₂.heap.objs.size (.lst (ys ++ [vv]))) I8 rfl (.cons r8 .nil)
    ⟨_,ys,vv,rfl,rfl,hD8,hz8,rfl⟩) (λ_ s9 ⟨_,H9,I9,_,e9⟩=>?_) λ_ _ z=>S6 z
   subst e9
   refine⟨m',hm',i + 1,_,(I9.jo).weak ?_ ?_,T.keep _ _ _ st6 λb hb o e=>(I9.pin (b,o) (LP _ (LP _ (xu hb e)))).1,λb hb=>?_,w8⟩
   ·simp
   ·intro j v' ej
    cases j with
    | zero=>simp at ej
    | succ j=>simpa using ej
   ·obtain⟨o,e,d⟩:=T.obj _ _ st6 b hb
    exact(I9.pin (b,o) (LP _ (LP _ (xu hb e)))).2.1
 exact Im (loop _ (by rw[←hs3])) (T.self _ 0 _ _ _ st4 (loop _ (by rw[←hs3])))
theorem iU {pins:List (Addr × Obj)} {σ:St} {H:Hp} {s:LZ} {osc:Scope} {N:List Str} {sc:Scope} {x:Str} {names:List Str} {zR:List Nat} (hos:X.env.scope=osc) (cs:yB osc N sc x names zR) (I:Inv X pins σ H s) :
  closureFor sc X.env=pure (qk X.env sc.names []):=
 fX λy hy hk=>I.ok.has y.1 (.inl (by show X.env.scope.names.lookup y.1=_;rw[hos];exact cs.frees y hy hk))
theorem cZ {osc:Scope} {N:List Str} {sc:Scope} {x:Str} {px pos:Pos} {elt iter:Expr} {names:List Str} {zR:List Nat} {wi:TI} {te:TE}
  (hc:X.calm=true) (hos:X.env.scope=osc) (hN:X.N=N) (cs:yB osc N sc x names zR) (hi:PI X (.Name x px) iter wi) (he:∀fp s₀ H₀,PE (vf X sc x names fp s₀ H₀) elt te)
  (hs:∀v,Nv iter X.env v=pure v:=by intro _;rfl):PE X (.ListComp elt [⟨.Name x px,iter,[],0⟩] sc pos) (BS zR wi te):=by
 intro pins s σ H Q I h
 rw[eval_ListComp]
 refine Nf (use:=none) rfl hs (iU hos cs I) cs.kind cs.locs (qC (hi pins s σ H _ I h) λxv s1 h1=>qC h1 λitv s2 h2=>?_)
 obtain⟨it,fp,tn,J,H2,rfl,I2,T,st2,f2,hW⟩:=h2
 refine Z6 (Qd:=Q) (RR:=λacc C=>compPost (L9 X.prog X.w) X.A X.xe none (EP X pins σ Q) acc C) hc hos hN cs he I2 T st2 f2 hW λD C H5 s6 m I6 hn fC q=>?_
 refine⟨m,hn,λh' sb=>?_⟩
 obtain⟨g0,g1,g2,g3,g4,g5⟩:=fC
 exact⟨.ref D,H5,I6.turned (t':=s6.toks) (it:=C) (λb o hb e=>sb.extBut b o hb e) g0 g1 g3 g4 g5,rfl,q⟩
theorem Zg {osc:Scope} {N:List Str} {sc:Scope} {x y:Str} {px py pos spos:Pos} {elt iter:Expr} {names:List Str} {zR:List Nat} {wi:TI} {te:TE} {i:Nat}
  (hc:X.calm=true) (hos:X.env.scope=osc) (hN:X.N=N) (nd:X.N.Nodup) (cs:yB osc N sc x names zR) (hi':X.N[i]?=some y) (hy:X.env.scope.names.lookup y=some .local) (hi:PI X (.Name x px) iter wi)
  (he:∀fp s₀ H₀,PE (vf X sc x names fp s₀ H₀) elt te) (hsw:O4 (.ListComp elt [⟨.Name x px,iter,[],0⟩] sc pos) (some (.Name y py)) spos.line X.env=pure true:=by rfl)
  (hs:∀v,Nv iter X.env v=pure v:=by intro _;rfl):PS X (.Assign [.Name y py] (.ListComp elt [⟨.Name x px,iter,[],0⟩] sc pos) spos) (HY (BS zR wi te) (zU i)):=by
 intro pins s σ H D I h
 rw[exec_Assign_Name_used _ _ _ _ hsw]
 refine L1 (Od (L1 ?_))
 show Sv _ X.A (do let _ ←comprehension (.ListComp elt [⟨.Name x px,iter,[],0⟩] sc pos) sc X.env _ (newList []) false (eval iter X.env) (some (assign (.Name y py) X.env))) _ _ s
 refine L1 (SS (Nf (use:=some (assign (.Name y py) X.env)) (Q:=λ_ s'=>SP X pins D .next s') rfl hs (iU hos cs I) cs.kind cs.locs
  (qC (hi pins s σ H _ I h) λxv s1 h1=>qC h1 λitv s2 h2=>?_)) (λ_ s' hq=>Sn (Sn hq)) λ_ _ e=>e)
 obtain⟨it,fp,tn,J,H2,rfl,I2,T,st2,f2,hW⟩:=h2
 refine Z6 (Qd:=λx H1=>zU i x σ H1 D.nx) (RR:=λacc C=>compPost (L9 X.prog X.w) X.A X.xe (some (assign (.Name y py) X.env)) (λ_ s'=>SP X pins D .next s') acc C) hc hos hN cs he I2 T st2 f2 hW λD' C H5 s6 m I6 hn fC q=>?_
 show Sv _ X.A (assign (.Name y py) X.env (.ref D')) _ _ _
 obtain⟨oC,es,ep,eC,dC,rC⟩:=id hn
 obtain⟨g0,g1,g2,g3,g4,g5⟩:=id fC
 have I6p:Inv X (pins ++ [(C,oC)]) σ H5 s6:=I6.p9 λp hp=>(LU.mp hp).elim (λz=>I6.pin p (LP _ z)) λz=>by
  have e:p=(C,oC):=by simpa using z
  subst e
  exact⟨eC,g0,g1,g2,λv z=>by rw[dC] at z;cases z⟩
 refine OT (cS I6p nd hi' (.inl hy) (v:=.ref D') rfl (λs7 I7=>?_) (.inr hy))
 have e7:=(I7.pin (C,oC) (LP _ (LP _ (by simp)))).1
 refine⟨m,⟨oC,es,ep,e7,dC,rC⟩,λh' sb=>?_⟩
 exact⟨_,H5,(I7.jo).turned (t':=s7.toks) (it:=C) (λb o hb e=>sb.extBut b o hb e) g0 g1 g3 g4 g5,q⟩
end
def ZN (J:It) (H:Hp) (xs:List V):Prop:=∀(i:Nat) (H':Hp),zf H H'→
 (i < xs.length→J.go i H')∧(∀y H3,J.VN i H' y H3→H3=H'∧(i < xs.length→xs[i]?=some y))∧(i=xs.length→J.stop i H')
theorem xW {K:Ls} {a:Addr} {xs:List V} {H:Hp} (h:zK K H a xs):ZN (Gu K a) H xs:=λi H' s=>
 ⟨λhi=>⟨xs,xs[i],s.seq h,by simp [hi]⟩,λy H3 q=>⟨q.1,λ_=>q.2 xs (s.seq h)⟩,λe=>⟨xs,s.seq h,OW e.symm⟩⟩
theorem zf.DX {K:Ls} {H H':Hp} {a:Addr} {xs:List V} (e:zf H H') (h:jt K H a xs):jt K H' a xs:=by
 rcases h with (h | ⟨o,h⟩) | h
 ·exact .inl (.inl (e _ _ h))
 ·exact .inl (.inr ⟨o,e _ _ h⟩)
 ·exact .inr h
theorem Xq {lo:Int} {n:Nat} {H:Hp}:ZN (VA lo n) H ((TL n).map λ(i:Nat)=>V.int (lo + (i:Int))):=λi H' s=>
 ⟨λhi=>by show i < n;simpa using hi,λy H3 q=>⟨q.1,λhi=>by
  have hi':i < n:=by simpa using hi
  rw[q.2,LV,Nm hi'];rfl⟩,λe=>by
  have:i=n:=by simpa using e
  exact OW this.symm⟩
theorem YW {z:Str} {H:Hp}:ZN (D4 z) H (z.cps.toList.map λc=>V.str ⟨#[c]⟩):=λi H' s=>
 ⟨λhi=>by simpa [D4,TY] using hi,λy H3 q=>⟨q.1,λhi=>by
  obtain⟨_,c,hc,e⟩:=q
  rw[e,LV]
  have:z.cps.toList[i]?=some c:=by simpa using hc
  rw[this];rfl⟩,λe=>by
  have:i=z.length:=by simpa [TY] using e
  exact this⟩
theorem bK {J:It} {H:Hp} {xs:List V} {zR:List Nat} {te:TE} {σ:St} {Q:VK} (hJ:ZN J H xs) (Pr:Nat→V→V→Prop) (hsz:xs.length≤LI)
  (hs:∀(i:Nat) (y:V) (H':Hp) (Q':VK),xs[i]?=some y→zf H H'→(∀v H4,zf H' H4→Pr i y v→Q' v H4)→te (some y :: kc σ zR) H' Q')
  (hd:∀(D:Addr) (H':Hp) (ys:List V),zf H H'→H D=none→H' D=some (.lst ys)→ys.length=xs.length→(∀(i:Nat) (y v:V),xs[i]?=some y→ys[i]?=some v→Pr i y v)→Q (.ref D) H') :
  Xs J zR te σ Q H:=by
 intro D hD
 refine⟨λi m H2=>m=xs.length - i∧i≤xs.length∧zf H H2∧∃ys,H2 D=some (.lst ys)∧ys.length=i∧∀(j:Nat) (y v:V),xs[j]?=some y→ys[j]?=some v→Pr j y v,
  ⟨xs.length,by simp,Sy _,λb o e=>by rw[zP (zh e hD)];exact e,[],zm,rfl,λj y v _ e=>by simp at e⟩,?_⟩
 rintro i m H2 ⟨rfl,hi,s2,ys,hy,hl,hp⟩
 obtain⟨j1,j2,j3⟩:=hJ i H2 s2
 by_cases hlt:i < xs.length
 ·refine .inr ⟨j1 hlt,λy H3 q=>?_⟩
  obtain⟨e3,ey⟩:=j2 y H3 q
  subst e3
  refine hs i y _ _ (ey hlt) s2 λv H4 s4 pr=>⟨ys,s4 D _ hy,by omega,xs.length - (i + 1),by omega,rfl,hlt,λb o e=>?_,ys ++ [v],zm,by simp [hl],λj y' v' e1 e2=>?_⟩
  ·rw[zP (zh e hD)]
   exact s4 b o (s2 b o e)
  ·by_cases hj:j < ys.length
   ·rw[S5 hj] at e2
    exact hp j y' v' e1 e2
   ·have hje:j=i:=by
     have:=(LN.mp e2).1
     simp at this;omega
    subst hje
    rw[SD (by omega),hl,EH] at e2
    rw[ey hlt] at e1
    cases e1
    have:v=v':=by simpa using e2
    subst this
    exact pr
 ·have e:i=xs.length:=by omega
  subst e
  exact .inl ⟨j3 rfl,hd D H2 ys s2 hD hy hl hp⟩
end L2
namespace L2
open PySem PySem.Spec PyProof.Rows
theorem zf.new {H H':Hp} {l:Addr} {o:HO} (e:zf H H') (hl:H' l=none):zf H (upd H' l o):=λb u q=>by
 have q':=e b u q
 rw[zP (zh q' hl)]
 exact q'
theorem zf.put {H H':Hp} {l:Addr} {o:HO} (e:zf H H') (hl:H l=none):zf H (upd H' l o):=λb u q=>by
 rw[zP (zh q hl)]
 exact e b u q
theorem zf.Vx {H:Hp} {l:Addr} {o:HO} (hl:H l=none):zf H (upd H l o):=(zf.refl H).new hl
theorem eE:∀(ys:List V),(∀v∈ys,∃b,v=V.bl b)→∃bs:List Bool,ys=bs.map V.bl
 | [],_=>⟨[],rfl⟩
 | v :: r,h=>by
  obtain⟨b,rfl⟩:=h v Sw
  obtain⟨bs,rfl⟩:=eE r λu hu=>h u (LK _ hu)
  exact⟨b :: bs,rfl⟩
theorem Qf (sep:Str) (l:List Str):(Tr sep l).length≤(l.map (·.length)).sum + l.length * sep.length:=by
 have e:Tr sep l=Tj sep l:=beq_iff_eq.mp (join_plain_closes sep l)
 rw[e]
 exact StrLaws.join_length_le sep l
theorem pR (a b:Str):(a ++ b).length=a.length + b.length:=by
 show (a.cps ++ b.cps).size=_
 rw[Array.size_append]
 rfl
noncomputable def Pt:List Expr→Bool
 | []=>true
 | .Constant (.str _) _ _ :: r=>Pt r
 | _=>false
noncomputable def BR:List Expr→List V
 | []=>[]
 | .Constant (.str x) _ _ :: r=>V.str x :: BR r
 | _=>[]
def U7 (es:List Expr):TA:=λ_ H Q=>Q (BR es) H
theorem jZ {es:List Expr} {p:Pos} {t:Option Expr} {l:Nat} {env:Env}:O4 (.List es p) t l env=pure false:=rfl
theorem zg {n:Nat} (h:n≤1000):n≤LI:=Ik (gx h)
end L2
namespace L2
open PySem PySem.Spec PyProof.Rows
section
variable {X:Cx} {CX:rD} {k:Nat} {f:Addr} {fd:LG} {ps:List Str} {sp:Sp} {dvs:List V} {ds:List Lo} {E:XK} {m:Str} {pos apos:Pos} {e o:Expr} {es:List Expr} {ta:TE} {t:TA}
theorem PS.join {st:Stmt} {t:TS} (h:PS X st t):PS X st (λD σ H=>∃M:St→Hp→Prop,t { D with nx:=M } σ H∧∀σ' H',M σ' H'→D.nx σ' H'):=by
 intro pins s σ H D I ⟨M,q,hM⟩
 refine qC (h pins s σ H _ I q) λfl s' r=>?_
 cases fl with
 | next=>obtain⟨σ',H',I',r⟩:=r;exact⟨σ',H',I',hM _ _ r⟩
 | brk=>exact r
 | cont=>exact r
 | ret u=>exact r
theorem PE.cut {e:Expr} {t:TE} (h:PE X e t):PE X e (λσ H Q=>∃M:VK,t σ H M∧∀v H',M v H'→Q v H'):=by
 intro pins s σ H Q I ⟨M,q,hM⟩
 exact qC (h pins s σ H _ I q) λu s' ⟨v,H',I',r,z⟩=>⟨v,H',I',r,hM v H' z⟩
def Uh (K:Ls) (f:Addr) (m:Str) (sp:Sp) (dvs:List V) (E:XK) (ta:TE) (t:TA):TE:=λσ H Q=>ta σ H λx H1=>∃a C dx fs,x=.ref a∧H1 a=some (.ins C dx fs)∧c7 K C∧Meth K C m f∧fs.lookup m=none∧
 t σ H1 λvs H2=>sp (x :: (vs ++ dvs)) H2 Q E
end
def asc (x:Str):Prop:=∀c∈x.cps.toList,c < 128
theorem asc.ok {x:Str} (h:asc x):TF x=true:=by
 unfold TF
 rw[Array.all_eq_true]
 intro i hi
 have:=h x.cps[i] (by simp)
 exact zzP (by omega)
theorem cps_append (a b:Str):(a ++ b).cps.toList=a.cps.toList ++ b.cps.toList:=by
 show (a.cps ++ b.cps).toList=_
 simp
theorem join_eq (sep:Str) (l:List Str):Tr sep l=Tj sep l:=beq_iff_eq.mp (join_plain_closes sep l)
theorem kN {x:Str} {xs:List Str}:ZS (.str x) (xs.map V.str)=decide (x∈xs):=by
 induction xs with
 | nil=>rfl
 | cons y r ih=>
  unfold ZS at ih ⊢
  rw[LR,Nh,ih]
  have:GB (.str y) (.str x)=decide (x=y):=by
   show (y == x)=_
   by_cases h:x=y
   ·subst h;simp
   ·rw[decide_eq_false h];exact beq_eq_false_iff_ne.mpr λq=>h q.symm
  rw[this]
  by_cases h:x=y<;>by_cases h':x∈r<;>simp [h,h']
end L2
namespace L2
open PySem PySem.Spec PyProof.Rows
def Nw (H:Hp) (o:HO) (Q:VK):Prop:=∀p H',zf H H'→H p=none→H' p=some o→Q (.ref p) H'
theorem Nw.el {H:Hp} {o:HO} {Q:VK} (h:Nw H o Q) (p:Addr) (hp:H p=none):Q (.ref p) (upd H p o):=h p _ (zf.Vx hp) hp zm
def Keeps (l:Addr) (H H':Hp):Prop:=∀b,b≠l→H' b=H b
theorem Keeps.upd {H:Hp} {l:Addr} {o:HO}:Keeps l H (upd H l o):=λ_ h=>zP h
def Ch (H:Hp) (l:Addr) (o:HO) (Q:Hp→Prop):Prop:=∀H',Keeps l H H'→H' l=some o→Q H'
theorem Ch.el {H:Hp} {l:Addr} {o:HO} {Q:Hp→Prop} (h:Ch H l o Q):Q (L2.upd H l o):=h _ Keeps.upd zm
theorem Keeps.put {H H1 H2:Hp} {l:Addr} (k:Keeps l H1 H2) (s:zf H H1) (n:H l=none):zf H H2:=λb o e=>by
 rw[k b (zh e n)]
 exact s b o e
theorem Keeps.look {H1 H2:Hp} {l b:Addr} {o:HO} (k:Keeps l H1 H2) (e:H1 b=some o) (n:b≠l):H2 b=some o:=by rw[k b n];exact e
def Fx (H H':Hp):Prop:=(∀b xs,H b=some (.tup xs)→H' b=some (.tup xs))∧∀b C dx fs,H b=some (.ins C dx fs)→H' b=some (.ins C dx fs)
section
variable {X:Cx}
theorem PE.mono {e:Expr} {t t':TE} (h:PE X e t) (m:∀σ H Q,t' σ H Q→t σ H Q):PE X e t':=λpins s σ H Q I q=>h pins s σ H Q I (m σ H Q q)
theorem xF.mono {f:Lo} {r r':List V→Hp→VK→Prop} (h:xF X f r) (m:∀xs H Q,r' xs H Q→r xs H Q):xF X f r':=λpins s σ H xs us Q I rv q=>h pins s σ H xs us Q I rv (m xs H Q q)
theorem eL.mono {id:String} {r r':V→List V→Hp→VK→Prop} (h:eL X id r) (m:∀x xs H Q,r' x xs H Q→r x xs H Q):eL X id r':=λpins s σ H x vs v us Q I rx rv q=>h pins s σ H x vs v us Q I rx rv (m x vs H Q q)
theorem bb.mono {f:Lo→Lo→Sem Lo} {r r':R2} (h:bb X f r) (m:∀x y H Q,r' x y H Q→r x y H Q):bb X f r':=λpins s σ H x y v u Q I rx ry q=>h pins s σ H x y v u Q I rx ry (m x y H Q q)
theorem B2.mono {r r':V→Option Int→Option Int→Hp→VK→Prop} (h:B2 X r) (m:∀x l u H Q,r' x l u H Q→r x l u H Q):B2 X r':=λpins s σ H x v vl vu lo hi sl Q I rx hs pl pu q=>h pins s σ H x v vl vu lo hi sl Q I rx hs pl pu (m x lo hi H Q q)
def CD (t:TA):TE:=λσ H Q=>t σ H λxs H1=>xs.length≤LI∧Nw H1 (.tup xs) Q
def M6 (t:TA):TE:=λσ H Q=>t σ H λxs H1=>xs.length≤LI∧Nw H1 (.lst xs) Q
theorem PA.cut {es:List Expr} {t:TA} (h:PA X es t):PA X es (λσ H Q=>∃M:List V→Hp→Prop,t σ H M∧∀vs H',M vs H'→Q vs H'):=by
 intro pos pins s σ H Q I ⟨M,q,hM⟩
 exact qC (h pos pins s σ H _ I q) λu s' ⟨v,H',I',r,z⟩=>⟨v,H',I',r,hM v H' z⟩
theorem qq {es:List Expr} {t:TA} {pos:Pos} {x1} (h:PA X es t):PE X (.Tuple es x1 pos) (CD t):=(Fd h.cut).mono λ_ _ _ q=>⟨_,q,λ_ _ q=>⟨q.1,q.2.el⟩⟩
theorem zB {es:List Expr} {t:TA} {pos:Pos} (h:PA X es t):PE X (.List es pos) (M6 t):=(Fp h.cut).mono λ_ _ _ q=>⟨_,q,λ_ _ q=>⟨q.1,q.2.el⟩⟩
theorem JB:xF X (.type "list") (λxs H Q=>∃p ys,xs=[.ref p]∧(zK X.K H p ys∨jt X.K H p ys)∧Nw H (.lst ys) Q):=
 az.mono λ_ _ _ ⟨p,ys,a,b,c⟩=>⟨p,ys,a,b,c.el⟩
theorem Hv:B2 X (λx lo hi H Q=>∃a xs,x=.ref a∧zK X.K H a xs∧Nw H (.lst (dW xs lo hi)) Q):=
 HX.mono λ_ _ _ _ _ ⟨a,xs,e,b,c⟩=>⟨a,xs,e,b,c.el⟩
theorem vi:bb X (N0 .Add) (λx y H Q=>∃l b xs zs,x=.ref l∧y=.ref b∧H l=some (.lst xs)∧H b=some (.lst zs)∧xs.length + zs.length≤LI∧Nw H (.lst (xs ++ zs)) Q):=
 Fz.mono λ_ _ _ _ ⟨l,b,xs,zs,a,c,d,e,f,g⟩=>⟨l,b,xs,zs,a,c,d,e,f,g.el⟩
theorem qj:eL X "list.append" (λx vs H Q=>∃l xs y,x=.ref l∧vs=[y]∧H l=some (.lst xs)∧xs.length < LI∧Ch H l (.lst (xs ++ [y])) (Q .non)):=
 eL.mono uV λ_ _ _ _ ⟨l,xs,y,a,b,c,d,e⟩=>⟨l,xs,y,a,b,c,d,e.el⟩
theorem W4:eL X "list.clear" (λx vs H Q=>∃l xs,x=.ref l∧vs=[]∧H l=some (.lst xs)∧Ch H l (.lst []) (Q .non)):=
 eL.mono W2 λ_ _ _ _ ⟨l,xs,a,b,c,e⟩=>⟨l,xs,a,b,c,e.el⟩
theorem ny:eL X "list.pop" (λx vs H Q=>∃l xs y,x=.ref l∧vs=[]∧H l=some (.lst xs)∧xs[xs.length - 1]?=some y∧Ch H l (.lst xs.dropLast) (Q y)):=
 eL.mono PL λ_ _ _ _ ⟨l,xs,y,a,b,c,d,e⟩=>⟨l,xs,y,a,b,c,d,e.el⟩
theorem Vk:eL X "list.extend" (λx vs H Q=>∃l b xs zs,x=.ref l∧vs=[.ref b]∧H l=some (.lst xs)∧H b=some (.lst zs)∧xs.length + zs.length≤LI∧Ch H l (.lst (xs ++ zs)) (Q .non)):=
 eL.mono Vj λ_ _ _ _ ⟨l,b,xs,zs,a,a',c,d,e,f⟩=>⟨l,b,xs,zs,a,a',c,d,e,f.el⟩
theorem i8:Gr X (λo i v H Q=>∃p xs k j,o=.ref p∧i=.int k∧H p=some (.lst xs)∧Jk xs.length k=some j∧Ch H p (.lst (xs.set j v)) Q):=by
 intro pins s σ H o i v
 have h:=@set_list X pins s σ H o i v
 intros
 rename_i q
 exact h _ _ _ _ ‹_› ‹_› ‹_› ‹_› (by obtain⟨p,xs,k,j,a,b,c,d,e⟩:=q;exact⟨p,xs,k,j,a,b,c,d,e.el⟩)
end
structure qy (P:LH) (w:Sz) (K:Ls) (mg:Str→Option Lo) (base:Heap) (CX:rD) (k:Nat) (C:Addr) (m:Str) (sp:Sp):Prop where
 ex:∃f fd ps,Meth K C m f∧ze P w K mg base CX k f fd ps sp∧Binds K fd ps []
theorem qy.mk' {P:LH} {w:Sz} {K:Ls} {mg:Str→Option Lo} {base:Heap} {CX:rD} {j k:Nat} {C f:Addr} {m:Str} {sp:Sp} {fd:LG} {ps:List Str} (h1:Meth K C m f) (h2:ze P w K mg base CX j f fd ps sp) (h3:Binds K fd ps []) (h:j≤k) :
  qy P w K mg base CX k C m sp:=⟨f,fd,ps,h1,h2.mono h,h3⟩
def Xm (X:Cx) (CX:rD) (k:Nat) (m:Str) (E:XK) (ta:TE) (t:TA):TE:=λσ H Q=>ta σ H λx H1=>∃a C dx fs,x=.ref a∧H1 a=some (.ins C dx fs)∧c7 X.K C∧fs.lookup m=none∧
 ∃sp,qy X.prog X.w X.K X.mg X.base CX k C m sp∧t σ H1 λvs H2=>sp (x :: vs) H2 Q E
section
variable {X:Cx} {k:Nat} {m:Str} {pos apos:Pos} {e o:Expr} {es:List Expr} {ta:TE} {t:TA}
theorem qg {pl:Sem Bool} (hr:xG k X.A) (he:PE X o ta) (ha:PA X (e :: es) t)
  (hst:Sg (e :: es) X.env=(false,eval e X.env) :: Sg es X.env:=by rfl) (hpl:(backTo pos (Sg es X.env)).any (·.1)=false:=by rfl)
  (ht:eval (.Call (.Attribute o m apos) (e :: es) [] pos) X.env=(do
   let ov ←eval o X.env
   standAt apos.atName
   let (f,first) ←holding [ov] (Oh ov m pl)
   callWith pos f first (backTo pos (Sg (e :: es) X.env)) (NC pos (TC [] X.env))):=by rfl) :
  PE X (.Call (.Attribute o m apos) (e :: es) [] pos) (Xm X zC k m E0 ta t):=by
 intro pins s σ H Q I h
 refine T8 (pl:=pl) (qC (he pins s σ H _ I h) λu s1 ⟨x,H1,I1,rx,a,C,dx,fs,ex,ea,c,l,sp,M,q⟩=>?_) ht
 subst ex
 obtain⟨f,fd,ps,hm,F,hb⟩:=M.ex
 obtain rfl:u=SU a:=rx
 refine gQ I1 ea c hm l ?_
 refine Nt (first:=[.ref a]) (h₀:=X.base) I.ok.mod.PQ hm.kp (qC (ha pos pins s1 σ H1 _ I1 q) λus s2 ⟨vs,H2,I2,r,q2⟩=>⟨I2.di,?_⟩) hst hpl
 exact nC (us:=.ref a :: us) (vs:=.ref a :: vs) F hr hb .nil zJ I2 (.cons rfl r) (by rw[Sd];exact q2)
theorem jb {pl:Sem Bool} (hr:xG k X.A) (he:PE X o ta)
  (ht:eval (.Call (.Attribute o m apos) [] [] pos) X.env=(do
   let ov ←eval o X.env
   standAt apos.atName
   let (f,first) ←holding [ov] (Oh ov m pl)
   callWith pos f first (backTo pos (Sg [] X.env)) (NC pos (TC [] X.env))):=by rfl) :
  PE X (.Call (.Attribute o m apos) [] [] pos) (Xm X zC k m E0 ta HH):=by
 intro pins s σ H Q I h
 refine T8 (pl:=pl) (qC (he pins s σ H _ I h) λu s1 ⟨x,H1,I1,rx,a,C,dx,fs,ex,ea,c,l,sp,M,q⟩=>?_) ht
 subst ex
 obtain⟨f,fd,ps,hm,F,hb⟩:=M.ex
 obtain rfl:u=SU a:=rx
 refine gQ I1 ea c hm l ?_
 exact Ex (first:=[.ref a]) I1.di hm.kp (nC (us:=[.ref a]) (vs:=[.ref a]) F hr hb .nil zJ I1 (.cons rfl .nil) q)
end
theorem B4 {α:Type} [Inhabited α] {xs:List α} {i:Int} (h0:0≤i) (h1:i < xs.length):vX xs i=some (xs.getD i.toNat default):=by
 have hj:i.toNat < xs.length:=by omega
 have e:=kF (xs:=xs) (j:=i.toNat) (v:=xs[i.toNat]) (by simp [hj])
 rw[OX h0] at e
 rw[e,L7,Le hj]
 rfl
theorem Xi {α:Type} {f:α→V} {xs:List α} {i:Int} (d:α) (h0:0≤i) (h1:i < xs.length):vX (xs.map f) i=some (f (xs.getD i.toNat d)):=by
 have hj:i.toNat < (xs.map f).length:=by rw[Ln];omega
 have e:=kF (xs:=xs.map f) (j:=i.toNat) (v:=(xs.map f)[i.toNat]) (Le hj)
 rw[OX h0] at e
 rw[e,List.getElem_map,L7,Le (by omega)]
 rfl
theorem qA {xs:List Int} {i:Int} (h0:0≤i) (h1:i < xs.length):vX (xs.map V.int) i=some (.int (xs.getD i.toNat 0)):=Xi 0 h0 h1
theorem bJ {xs:List Str} {i:Int} (h0:0≤i) (h1:i < xs.length):vX (xs.map V.str) i=some (.str (xs.getD i.toNat "")):=Xi (f:=V.str) ("" : Str) h0 h1
theorem WX {n:Nat} {i:Int} (h0:0≤i) (h1:i < n):Jk n i=some i.toNat:=by
 unfold Jk;rw[if_pos h0,if_pos h1]
theorem kZ {α:Type} {P:α→Prop} {xs:List α} {j:Nat} (d:α) (h:∀x∈xs,P x) (hj:j < xs.length):P (xs.getD j d):=by
 rw[L7,Le hj]
 exact h _ (T5 hj)
theorem V6 {z:Str} {i:Int} (h0:0≤i) (h1:i < z.length):vX z.cps.toList i=some (z.cps.toList.getD i.toNat 0):=B4 h0 (by simpa [TY] using h1)
theorem gF {a b:Str} (h:a.cps.toList=b.cps.toList):a=b:=by
 cases a;cases b
 simp only at h
 rw[Array.toList_inj.mp h]
theorem Qc (s x y:Str) (r:List Str):Tj s (x :: y :: r)=x ++ s ++ Tj s (y :: r):=rfl
theorem join_one (s x:Str):Tj s [x]=x:=rfl
end L2
namespace L2
open PySem PySem.Spec PyProof.Rows
theorem B7 {x y:Str} {n m:Nat} (hx:x.length≤n) (hy:y.length≤m) (h:n + m≤1000):x.length + y.length≤LI:=zg (by omega)
theorem GJ {x y:Str} {n m:Nat} (hx:x.length≤n) (hy:y.length≤m):(x ++ y).length≤n + m:=by rw[pR];omega
theorem WH (x:Str):x.length≤x.length:=LF _
end L2
namespace L2
open PySem PySem.Spec PyProof.Rows
def iB (K:Ls) (H:Hp) (x:V) (f:Str) (v:V):Prop:=∃a C dx fs,x=.ref a∧H a=some (.ins C dx fs)∧c7 K C∧zH K C f∧fs.lookup f=some v
def CM (K:Ls) (ta:TE) (f:Str):TE:=λσ H Q=>ta σ H λx H1=>∃v,iB K H1 x f v∧Q v H1
theorem zT {X:Cx} {K:Ls} (hK:X.K=K) {e:Expr} {ta:TE} {f:Str} {pos:Pos} (he:PE X e ta) (hb:Ny e f X.env (eval e X.env)=eval e X.env):PE X (.Attribute e f pos) (CM K ta f):=by
 subst hK
 refine(Fb he.cut hb).mono λσ H Q q=>⟨_,q,λx H1 z=>?_⟩
 obtain⟨v,⟨a,C,dx,fs,h1,h2,h3,h4,h5⟩,q⟩:=z
 exact⟨a,C,dx,fs,v,h1,h2,h3,h4,h5,q⟩
theorem xE (K:Ls) (t:Lo):SQ K t t=some true:=by
 unfold SQ
 rw[if_pos (by simp)]
end L2
namespace L2
open PySem PySem.Spec PyProof.Rows
structure Lx (K:Ls) (C:Addr):Prop where
 makes:Ia K C=true
 init:Sf K (.ref C) "__init__" = some (some (.builtin "object.__init__"))
 kp:Tt K (.ref C)=true
section
variable {X:Cx} {C:Addr} {x:Str} {p pos:Pos}
end
end L2
namespace L2
open PySem PySem.Spec PyProof.Rows
theorem Yk {n:Int} (h0:0≤n) (h1:n≤10 ^ 20):(LM (toString n)).length≤21∧1≤(LM (toString n)).length∧asc (LM (toString n)):=by
 obtain⟨m,rfl⟩:=Th h0
 have e:=NY m
 have hl:(LM (toString ((m:Nat):Int))).length=(EB 10 m).length:=by
  have:=congrArg Tb e
  rw[Ln] at this
  rw[←this]
  simp [TY]
 refine⟨?_,?_,λc hc=>?_⟩
 ·rw[hl]
  refine digits10_le (by decide) ?_
  have:(m:Int) < 10 ^ 21:=by omega
  exact_mod_cast this
 ·rw[hl];exact toDigits_len_ge 10 m
 ·rw[e] at hc
  obtain⟨ch,hch,rfl⟩:=SX.mp hc
  have r:=AL (T1 (by decide) (by decide) hch)
  omega
theorem K7 {n:Int} (h0:0≤n) (h1:n≤10 ^ 20):n.natAbs.log2 < 1920:=by
 have:n.natAbs < 2 ^ 67:=by omega
 by_cases h:n.natAbs=0
 ·rw[h];decide
 ·exact A2 ((Nat.log2_lt h).mpr this) (by decide)
theorem bU (xs ys:List Str):N5 (.list (xs.map S0)) (.list (ys.map S0))=decide (xs=ys):=by
 simp only[N5,bC]
end L2
namespace L2
open PySem PySem.Spec PyProof.Rows
theorem MI {H H':Hp} {b:Addr} {o:HO} (e:H b=some o) (s:zf H H'):H' b=some o:=s b o e
theorem FC {K:Ls} {H H':Hp} {a:Addr} {xs:List V} (h:zK K H a xs) (s:zf H H'):zK K H' a xs:=s.seq h
end L2
namespace L2
open PySem PySem.Spec PyProof.Rows
end L2
namespace L2
open PySem PySem.Spec PyProof.Rows
section
variable {X:Cx} {K:Ls}
theorem vB {es:List Expr} {k:Nat} {t:HA} {n:Nat} {pos:Pos} (hK:X.K=K) (hc:X.calm=true) (h:Mj X es t)
  (hn:(N4 es X.env).length=n:=by rfl) (hst:(N4 es X.env).findIdx? (·.1)=none:=by rfl):PG X (.Tuple es k pos) (Pc K n t):=hK▸Fu hc h hn hst
theorem zv (hK:X.K=K):Mq X (FX K):=hK▸GL
theorem qY (hK:X.K=K):Mq X (FK K):=hK▸Pn
theorem qF (hK:X.K=K):B2 X (λx lo hi H Q=>∃a xs,x=.ref a∧zK K H a xs∧Nw H (.lst (dW xs lo hi)) Q):=hK▸Hv
theorem nH (hK:X.K=K):bb X (S9 .In) (Ds K false):=hK▸Vc
theorem p8 (hK:X.K=K):bb X (S9 .NotIn) (Ds K true):=hK▸Zw
theorem p5 (hK:X.K=K) (hu:X.A.units + 64 < cLine):bb X (S9 .Eq) (Hs K false):=hK▸Fq hu
theorem Zv (hK:X.K=K) (hu:X.A.units + 64 < cLine):bb X (S9 .NotEq) (Hs K true):=hK▸Fj hu
theorem zG (hK:X.K=K):xF X (.builtin "len") (λxs H Q=>∃p ys,xs=[.ref p]∧(zK K H p ys∨jt K H p ys)∧Q (.int ys.length) H):=hK▸eA
theorem jY (hK:X.K=K):xF X (.type "list") (λxs H Q=>∃p ys,xs=[.ref p]∧(zK K H p ys∨jt K H p ys)∧Nw H (.lst ys) Q):=hK▸JB
theorem qL (hK:X.K=K):xF X (.builtin "isinstance") (λxs H Q=>∃x c t b,xs=[x,c]∧((∃n,c=.ty n)∨∃a,c=.ref a)∧xm K H x t∧SQ K t (Wx c)=some b∧Q (.bl b) H):=hK▸Z2
theorem b9 (hK:X.K=K):eL X "str.join" (rJoin K):=hK▸G7
theorem qp {tg l:Expr} {tl:TE} (hK:X.K=K) (hl:PE X l tl):PI X tg l (Bk K tl):=hK▸Hc hl
theorem Hf {tg l:Expr} {tl:TE} (hK:X.K=K) (hl:PE X l tl):PI X tg l (MR K tl):=hK▸Ft hl
end
end L2
namespace L2
open PySem PySem.Spec PyProof.Rows
structure vS (osc:Scope) (N:List Str) (sc:Scope) (xs names:List Str) (zR:List Nat):Prop where
 kind:sc.kind=.function
 nh:∀y∈sc.names,y.2≠.cell
 locs:∀y∈sc.names,y.2=.local→sc.names.lookup y.1=some .local
 frees:∀y∈sc.names,y.2=.free→osc.names.lookup y.1=some .cell
 own:∀x∈xs,sc.names.lookup x=some .local
 zR:names.map some=zR.map λi=>N[i]?
 Ji:∀y∈names,sc.names.lookup y=some .free
 nd:(xs ++ names).Nodup
noncomputable def jx (X:Cx) (sc:Scope) (xs names:List Str) (fp:List Addr) (s₀:LZ) (H₀:Hp):Cx where
 prog:=X.prog
 w:=X.w
 K:=X.K
 mg:=X.mg
 base:=X.base
 A:=X.A
 N:=xs ++ names
 s₀:=s₀
 H₀:=H₀
 env:=compEnvC sc (qk X.env sc.names []) s₀.heap.objs.size X.env
 outer:=X.stack
 stack:=X.stack
 ex:=fp
 fn:=λ_=>false
 calm:=X.calm
 pn:=[]
 xe:=λ_ _=>False
theorem wC {X:Cx} {sc:Scope} {xs names:List Str} {fp:List Addr} {s₀:LZ} {H₀:Hp} {x:Str} (h:sc.names.lookup x=some .local):(jx X sc xs names fp s₀ H₀).env.scope.names.lookup x=some .local:=lookup_relabel_local h
def Mi (X:Cx) (ifs:List Expr) (t:TT):Prop:=
 ∀(pins:List (Addr × Obj)) (s:LZ) (σ:St) (H:Hp) (Q:Bool→Hp→Prop),Inv X pins σ H s→t σ H Q→
  Sv (L9 X.prog X.w) X.A (forIn ifs true λc r=>if r=true then do let ok ←isTrue c X.env (eval c X.env);pure (NK ok) else pure (NK r)) (TP X pins σ Q) X.xe s
def HM:TT:=λ_ H Q=>Q true H
theorem lT {X:Cx}:Mi X [] HM:=λ_ _ _ H _ I q=>Aq ⟨H,I,q⟩
theorem Zb {X:Cx} {c:Expr} {t:TT} (h:PT X c t):Mi X [c] t:=λpins s σ H Q I q=>wpAny_tests_one (h pins s σ H Q I q)
def sd (J:It) (n:Nat) (zR:List Nat) (g:TG) (tt:TT) (te:TE) (σ:St) (Q:VK) (H1:Hp):Prop:=∀D,H1 D=none→∃W:Nat→Nat→St→Hp→Prop,(∃m,W 0 m (Sk n none ++ kc σ zR) (upd H1 D (.lst [])))∧∀i m σ1 H2,W i m σ1 H2→
 (J.stop i H2∧Q (.ref D) H2)∨(J.go i H2∧∀y H3,J.VN i H2 y H3→g y σ1 H3 λσ2 H4=>tt σ2 H4 λb H5=>if b=true then te σ2 H5 λv H6=>∃ys,H6 D=some (.lst ys)∧ys.length < LI∧∃m',m' < m∧W (i + 1) m' σ2 (upd H6 D (.lst (ys ++ [v])))
  else ∃m',m' < m∧W (i + 1) m' σ2 H5)
def Y5 (n:Nat) (zR:List Nat) (wi:TI) (g:TG) (tt:TT) (te:TE):TE:=λσ H Q=>wi σ H λJ H1=>sd J n zR g tt te σ Q H1
section
variable {prog:LH} {w:Sz} {A:SO} {R:Result→LZ→Prop} {s:LZ}
theorem av {elt target iter:Expr} {ifs:List Expr} {scope:Scope} {pos:Pos} {it acc:Lo} {env:Env} (I:Nat→LZ→Prop)
  (turn:∀n s,I n s→Sv (L9 prog w) A (pyNext it) (λr s₁=>match r with
   | none=>R (.ok .next) s₁
   | some v=>Sv (L9 prog w) A (NJ target it v) (λ_ s₁'=>Sv (L9 prog w) A (assign target env v) (λ_ s₂=>
     Sv (L9 prog w) A (forIn ifs true λc r=>if r=true then do let ok ←isTrue c env (eval c env);pure (NK ok) else pure (NK r)) (λok s₃=>
      if ok=true then Sv (L9 prog w) A (eval elt env) (λx s₄=>
       Sv (L9 prog w) A (call (.builtin "list.append") [acc,x]) (λ_ s₅=>∃m,m < n∧I m s₅) (Oc (L9 prog w) A env λe s'=>R (.error e) s') s₄) (Oc (L9 prog w) A env λe s'=>R (.error e) s') s₃
      else ∃m,m < n∧I m s₃) (Oc (L9 prog w) A env λe s'=>R (.error e) s') s₂)
      (Oc (L9 prog w) A env λe s'=>R (.error e) s') s₁') (Oc (L9 prog w) A env λe s'=>R (.error e) s') s₁) (Oc (L9 prog w) A env λe s'=>R (.error e) s') s)
  (n:Nat) (h:I n s) :
  NH (L9 prog w) A (.compLoop (.ListComp elt [⟨target,iter,ifs,0⟩] scope pos) 0 it acc env) R s:=by
 refine codeAny_loop rfl I (λn s hI=>?_) n h
 show Sv _ A ((compTurn (.ListComp elt [⟨target,iter,ifs,0⟩] scope pos) 0 it acc env).onRaise (λx=>do noteFrame x env;theTreesLotGoes x)) _ _ s
 refine wpAny_noted ?_
 rw[compTurn_list]
 refine L1 (Od (L1 (SS (turn n s hI) (λr s₁ h₁=>?_) λ_ _ h'=>h')))
 cases r with
 | none=>exact Sn h₁
 | some v=>
  refine L1 (SS h₁ (λ_ s₁' h₁'=>?_) λ_ _ h'=>h')
  refine L1 (SS h₁' (λ_ s₂ h₂=>L1 (SS h₂ (λok s₃ h₃=>?_) λ_ _ h'=>h')) λ_ _ h'=>h')
  cases ok with
  | false=>exact Sn ⟨rfl,h₃⟩
  | true=>
   exact L1 (L1 (SS h₃ (λx s₄ h₄=>L1 (SS h₄ (λ_ s₅ h₅=>Sn (Sn ⟨rfl,h₅⟩)) λ_ _ h'=>h')) λ_ _ h'=>h'))
end
section
variable {X:Cx}
theorem GY {pins:List (Addr × Obj)} {σ:St} {H:Hp} {s:LZ} {osc:Scope} {N:List Str} {sc:Scope} {xs names:List Str} {zR:List Nat} {fp:List Addr}
  (hos:X.env.scope=osc) (cs:vS osc N sc xs names zR) (I:Inv X pins σ H s) (hf:∀b∈fp,vT X pins H b) (hlt:∀b∈fp,b < s.heap.objs.size):(jx X sc xs names fp s H).Ok:=by
 subst hos
 have cl:=xi (env:=X.env) sc.names [] (λz c e=>by simp at e)
 have hcl:∀y c,(qk X.env sc.names []).lookup y=some c→X.env.cells.lookup y=some c:=λy c e=>by
  have e1:=cl.1 y c e
  have hm:(y,Sa)∈sc.names:=by
   by_cases q:(y,Sa)∈sc.names
   ·exact q
   ·have:=(cl.2 y).mpr ⟨rfl,q⟩
    rw[this] at e;cases e
  obtain⟨c',hc'⟩:=I.ok.has y (.inl (cs.frees _ hm rfl))
  rw[hc'] at e1 ⊢
  rw[e1];rfl
 refine⟨I.ok.mod,?_,I.ok.glob,I.ok.blt,LF _,λy z c h1 h2=>I.ok.inj y z c (hcl y c h1) (hcl z c h2),λy hy=>?_,λy c h=>?_,I.ok.hd,I.ok.frames,.inl rfl,λb hb=>⟨?_,λy c h=>?_⟩,
  I.bs,S1 I.ok.VS I.sz,λb o e hb=>?_,λb hb z=>?_,I.stack,I.ZY⟩
 ·exact cs.kind
 ·have hy':(relabel sc X.env).names.lookup y=some .cell∨(relabel sc X.env).names.lookup y=some .free:=hy
  have key:sc.names.lookup y=some .free:=by
   unfold relabel at hy'
   rw[jW] at hy'
   cases q:sc.names.lookup y with
   | none=>rw[q] at hy';simp at hy'
   | some k=>
    rw[q] at hy'
    have hm:=S4 q
    have hnc:=cs.nh _ hm
    by_cases hk:k=.free
    ·rw[hk]
    ·have e:(if (k == Sa && X.env.scope.kind == .function && X.env.kindOf y == some .cell)=true then T4 else k)=k:=if_neg (by simp [hk])
     rw[Tq,e] at hy'
     rcases hy' with z | z
     ·exact absurd (L8 z) hnc
     ·exact absurd (L8 z) hk
  have hm:=S4 key
  cases q:(qk X.env sc.names []).lookup y with
  | some c=>exact⟨c,q⟩
  | none=>exact absurd hm ((cl.2 y).mp q).2
 ·exact absurd (show false=true from h) (by simp)
 ·exact SJ (hlt b hb)
 ·exact(hf b hb).2.2.2.2.1 y c (hcl y c h)
 ·rcases(hf b hb).2.2.2.1 with z | z
  ·exact I.ok.Vw b o e z
  ·exact absurd (Sl (L0 e) (S1 I.ok.VS z)) (T3 _)
 ·rcases La.mp (I.ZG b z) with q | q
  ·exact(hf b hb).2.1 q
  ·exact(hf b hb).2.2.1 q
theorem iR {pins:List (Addr × Obj)} {σ:St} {s₂:LZ} {osc:Scope} {N:List Str} {sc:Scope} {pos:Pos} {elt iter tg:Expr} {ifs:List Expr} {xs names:List Str} {zR:List Nat} {g:TG} {tt:TT} {te:TE} {E:Lo→LZ→Prop}
  {RR:Lo→Addr→Result→LZ→Prop} {H2:Hp} {it:Addr} {fp:List Addr} {tn:Nat→Heap→Prop} {J:It} {Qd:V→Hp→Prop}
  (hc:X.calm=true) (hos:X.env.scope=osc) (hN:X.N=N) (cs:vS osc N sc xs names zR) (hg:∀fp s₀ H₀,PG (jx X sc xs names fp s₀ H₀) tg g) (ht:∀fp s₀ H₀,Mi (jx X sc xs names fp s₀ H₀) ifs tt) (he:∀fp s₀ H₀,PE (jx X sc xs names fp s₀ H₀) elt te)
  (I2:Inv X pins σ H2 s₂) (T:Turn X.prog X.w X.K tg J fp it tn) (st2:tn 0 s₂.heap) (f2:∀b∈fp,vT X pins H2 b)
  (hW:sd J xs.length zR g tt te σ Qd H2)
  (cont:∀D C H5 s6 m,Inv X pins σ H5 s6→s6.heap.Ns C m→vT X pins H5 C→Qd (.ref D) H5→RR (.ref D) C (.ok .next) s6) :
  Sv (L9 X.prog X.w) X.A (newList []) (λacc s₃=>Sv (L9 X.prog X.w) X.A (newFunctionEnv sc X.env.globals (qk X.env sc.names []) [] X.env.qual none .none (some X.env)) (λcenv s₄=>
   NH (L9 X.prog X.w) X.A (.compStart (.ListComp elt [⟨tg,iter,ifs,0⟩] sc pos) 0 (.ref it) acc { cenv with scope:=relabel sc X.env }) (RR acc cenv.locals) s₄) E s₃) E s₂:=by
 subst hN
 refine EY (IM cs.nh (by intro y hy;simp at hy) (λh₁ hns₁ hsb₁=>?_) cs.kind)
 dsimp only at hns₁ hsb₁ ⊢
 have fp2:∀b∈fp,b < s₂.heap.objs.size:=λb hb=>by
  obtain⟨o,e,_⟩:=T.obj _ _ st2 b hb
  exact L0 e
 have I3:Inv X pins σ (upd H2 s₂.heap.objs.size (.lst [])) { s₂ with heap:=s₂.heap.push { cls:=.type "list",dict:=none,data:=.seq ([]:List Lo).toArray } }:=I2.WU (t':=s₂.toks) (its:=[]) .nil (Sy _)
 obtain⟨W,⟨m0,w0⟩,turn⟩:=hW s₂.heap.objs.size I2.fresh
 have f3:∀b∈fp,vT X pins (upd H2 s₂.heap.objs.size (.lst [])) b:=λb hb=>⟨by rw[zP (SJ (fp2 b hb))];exact(f2 b hb).1,(f2 b hb).2⟩
 have hD:∀b o,s₂.heap.get? b=some o→(s₂.heap.push { cls:=.type "list",dict:=none,data:=.seq ([]:List Lo).toArray }).get? b=some o:=λb o e=>LB _ e
 generalize hs3:({ s₂ with heap:=s₂.heap.push { cls:=.type "list",dict:=none,data:=.seq ([]:List Lo).toArray } }:LZ)=s₃ at *
 have hs3h:s₃.heap=s₂.heap.push { cls:=.type "list",dict:=none,data:=.seq ([]:List Lo).toArray }:=by rw[←hs3]
 rw[←hs3h] at hns₁ hsb₁ hD ⊢
 have XU:∀b∈fp,b < s₃.heap.objs.size:=λb hb=>by
  rw[hs3h,OF];exact EG (fp2 b hb)
 have k3:∀b o,s₃.heap.get? b=some o→h₁.get? b=some o:=λb o e=>hsb₁.extBut b o (SJ (L0 e)) (LB _ e)
 have ok:=GY hos cs I3 f3 XU
 have cl:=xi (env:=X.env) sc.names [] (λz c e=>by simp at e)
 have hcl:∀y c,(qk X.env sc.names []).lookup y=some c→X.env.cells.lookup y=some c:=λy c e=>by
  have e1:=cl.1 y c e
  have hm:(y,Sa)∈sc.names:=by
   by_cases q:(y,Sa)∈sc.names
   ·exact q
   ·have:=(cl.2 y).mpr ⟨rfl,q⟩
    rw[this] at e;cases e
  obtain⟨c',hc'⟩:=I3.ok.has y (.inl (by show X.env.scope.names.lookup y=_;rw[hos];exact cs.frees _ hm rfl))
  rw[hc'] at e1 ⊢
  rw[e1];rfl
 have cell4:∀y c,(qk X.env sc.names []).lookup y=some c→∀v,s₃.heap.IsCell c v→h₁.IsCell c v:=λy c e v ⟨o,ho,hd⟩=>⟨o,k3 _ _ ho,hd⟩
 have lenC:zR.length=names.length:=by have:=congrArg Tb cs.zR;simpa using this.symm
 have I4:∀tk,Inv (jx X sc xs names fp s₃ (upd H2 s₂.heap.objs.size (.lst []))) [] (Sk xs.length none ++ kc σ zR) (upd H2 s₂.heap.objs.size (.lst [])) { s₃ with heap:=h₁,toks:=tk }:=λtk=>by
  refine⟨ok,rfl,I3.bare,Un.kept k3,⟨_,hns₁,λi y v e1 e2 e3=>?_⟩,λy c e=>?_,I3.fresh,λy c e=>I3.yk y c (hcl y c e),λp hp=>absurd (show p∈([]:List (Addr × Obj)) from hp) (by simp),I3.qx.kept k3,?_⟩
  ·have hle:xs.length≤i:=by
    by_cases q:i < xs.length
    ·rw[S5 (by rw[Tw];exact q),O5,if_pos q] at e2
     cases e2
    ·omega
   obtain⟨j,rfl⟩:∃j,i=xs.length + j:=⟨i - xs.length,by omega⟩
   ·have e1':names[j]?=some y:=by
     have e1z:(xs ++ names)[xs.length + j]?=some y:=e1
     rw[SD (EA _ _),Nu] at e1z
     exact e1z
    have e2':(kc σ zR)[j]?=some (some v):=by
     rw[SD (by rw[Tw];exact EA _ _),Tw,Nu] at e2
     exact e2
    unfold kc at e2'
    rw[LV] at e2'
    cases qc:zR[j]? with
    | none=>rw[qc] at e2';cases e2'
    | some i0=>
     rw[qc] at e2'
     have e2'':(σ[i0]?).join=some v:=by simpa using e2'
     have e3':σ[i0]?=some (some v):=by
      cases qs:σ[i0]? with
      | none=>rw[qs] at e2'';cases e2''
      | some o=>rw[qs] at e2'';rw[show o=some v from by simpa using e2'']
     have eN:X.N[i0]?=some y:=by
      have q1:(names.map some)[j]?=(zR.map λi=>X.N[i]?)[j]?:=by rw[cs.zR]
      rw[LV,LV,e1',qc] at q1
      have q2:some y=X.N[i0]?:=by simpa using q1
      exact q2.symm
     have hfree:=cs.Ji y (LC e1')
     have hm:=S4 hfree
     have hcell:X.env.scope.names.lookup y=some .cell:=by rw[hos];exact cs.frees _ hm rfl
     obtain⟨m,hn,hl⟩:=I3.loc
     obtain⟨u,ru,lk⟩:=hl i0 y v eN e3' (.inr (.inl hcell))
     refine⟨u,ru,?_⟩
     rcases lk with ⟨kk,_⟩ | ⟨kk,c,ec,hcl'⟩
     ·have kk':X.env.scope.names.lookup y=some .local:=kk
      rw[hcell] at kk';cases kk'
     ·refine .inr ⟨?_,c,?_,?_⟩
      ·left
       show (relabel sc X.env).names.lookup y=some .cell
       unfold relabel
       rw[jW,hfree]
       have ef:(X.env.scope.kind == Er)=true:=by rw[I3.ok.kind];rfl
       have ek:(X.env.kindOf y == some T4)=true:=by
        show (X.env.scope.names.lookup y == some T4)=true
        rw[hcell];rfl
       simp [ef,ek]
      ·show (qk X.env sc.names []).lookup y=some c
       cases q:(qk X.env sc.names []).lookup y with
       | none=>exact absurd hm ((cl.2 y).mp q).2
       | some c'=>
        have:=hcl y c' q
        rw[ec] at this
        exact this.symm
      ·obtain⟨o,ho,hd⟩:=hcl'
       exact⟨o,k3 _ _ ho,hd⟩
  ·obtain⟨v,hv⟩:=I3.cell y c (hcl y c e)
   exact⟨v,cell4 y c e v hv⟩
  ·show (Sk xs.length none ++ kc σ zR).length=(xs ++ names).length
   unfold kc
   simp [lenC]
 have st4:tn 0 h₁:=T.keep _ _ _ st2 λb hb o e=>k3 b o (by rw[hs3h];exact LB _ e)
 have fpok:∀{H':Hp},(∀b∈fp,H' b=none)→∀b∈fp,vT (jx X sc xs names fp s₃ (upd H2 s₂.heap.objs.size (.lst []))) [] H' b:=λhn b hb=>
  ⟨hn b hb,(ok.Mw b hb).1,ok.Jm b hb,.inl hb,(ok.Mw b hb).2,λp hp=>absurd (show p∈([]:List (Addr × Obj)) from hp) (by simp)⟩
 have loop:∀s₄:LZ,s₄={ s₃ with heap:=h₁,toks:=s₃.toks + ([]:List (Str × Lo)).length }→
   NH (L9 X.prog X.w) X.A (.compLoop (.ListComp elt [⟨tg,iter,ifs,0⟩] sc pos) 0 (.ref it) (.ref s₂.heap.objs.size) (compEnvC sc (qk X.env sc.names []) s₃.heap.objs.size X.env))
    (RR (.ref s₂.heap.objs.size) s₃.heap.objs.size) s₄:=by
  rintro s₄ rfl
  refine av (λn s'=>∃i σ' H',Inv (jx X sc xs names fp s₃ (upd H2 s₂.heap.objs.size (.lst []))) [] σ' H' s'∧tn i s'.heap∧(∀b∈fp,H' b=none)∧W i n σ' H') ?_ m0
   ⟨0,_,_,I4 _,st4,λb hb=>(f3 b hb).1,w0⟩
  rintro n s5 ⟨i,σ5,H5,I5,st5,fr5,w5⟩
  rcases turn i n σ5 H5 w5 with ⟨stop,q⟩ | ⟨go,step⟩
  ·refine qC (T.done (jx X sc xs names fp s₃ (upd H2 s₂.heap.objs.size (.lst []))) rfl rfl rfl hc i [] s5 _ H5 _ I5 (fpok fr5) st5 stop) λr s6 ⟨hr,I6⟩=>?_
   subst hr
   obtain⟨m,hn,_⟩:=I6.loc
   have J6:Inv X pins σ H5 s6:=I3.Bq (ch:=fp) I6.os I6.base I6.qx I6.bare λb hb=>⟨(f3 b hb).2.2.2.1,(f3 b hb).2.1,(f3 b hb).2.2.2.2.1,(f3 b hb).2.2.2.2.2⟩
   exact cont _ _ H5 s6 m J6 hn (I3.aX (H':=H5) (LF _) I6.free) q
  ·refine qC (T.item (jx X sc xs names fp s₃ (upd H2 s₂.heap.objs.size (.lst []))) rfl rfl rfl hc i [] s5 _ H5 _ I5 (fpok fr5) st5 go) λr s6 ⟨u,hr,h6⟩=>?_
   subst hr
   refine qC h6 λ_ s6' ⟨y,H6,I6,r6,y6,st6,fr6⟩=>?_
   have I6':=I6.pinned (fpok fr6) (T.obj _ _ st6)
   have back:∀{σ':St} {H':Hp} {s':LZ},Inv (jx X sc xs names fp s₃ (upd H2 s₂.heap.objs.size (.lst []))) ([] ++ m9 fp s6'.heap) σ' H' s'→tn (i + 1) s'.heap∧∀b∈fp,H' b=none:=λI9=>
    ⟨T.keep _ _ _ st6 λb hb o e=>(I9.pin (b,o) (LP _ (LP _ (xu hb e)))).1,λb hb=>by
     obtain⟨o,e,d⟩:=T.obj _ _ st6 b hb
     exact(I9.pin (b,o) (LP _ (LP _ (xu hb e)))).2.1⟩
   refine SS (hg fp s₃ _ _ s6' _ H6 y u _ I6' r6 (step y H6 y6)) (λ_ s7 ⟨σ7,H7,I7,q7⟩=>?_) λ_ _ z=>S6 z
   refine SS (ht fp s₃ _ _ s7 _ H7 _ I7 q7) (λb s8 ⟨H8,I8,q8⟩=>?_) λ_ _ z=>S6 z
   cases b with
   | false=>
    rw[if_neg LA] at q8 ⊢
    obtain⟨m',hm',w8⟩:=q8
    exact⟨m',hm',i + 1,σ7,H8,I8.jo,(back I8).1,(back I8).2,w8⟩
   | true=>
    rw[if_pos rfl] at q8 ⊢
    refine SS (he fp s₃ _ _ s8 _ H8 _ I8 q8) (λv s9 ⟨vv,H9,I9,r9,ys,hD9,hz9,m',hm',w9⟩=>?_) λ_ _ z=>S6 z
    refine SS (uV (X:=jx X sc xs names fp s₃ (upd H2 s₂.heap.objs.size (.lst []))) _ s9 _ H9 (.ref s₂.heap.objs.size) [vv] (.ref s₂.heap.objs.size) [v] (λ_ H'=>H'=upd H9 s₂.heap.objs.size (.lst (ys ++ [vv]))) I9 rfl (.cons r9 .nil)
     ⟨_,ys,vv,rfl,rfl,hD9,hz9,rfl⟩) (λ_ s10 ⟨_,H10,I10,_,e10⟩=>?_) λ_ _ z=>S6 z
    subst e10
    exact⟨m',hm',i + 1,σ7,_,I10.jo,(back I10).1,(back I10).2,w9⟩
 exact Im (loop _ (by rw[←hs3])) (T.self _ 0 _ _ _ st4 (loop _ (by rw[←hs3])))
theorem sP {pins:List (Addr × Obj)} {σ:St} {H:Hp} {s:LZ} {osc:Scope} {N:List Str} {sc:Scope} {xs names:List Str} {zR:List Nat} (hos:X.env.scope=osc) (cs:vS osc N sc xs names zR) (I:Inv X pins σ H s) :
  closureFor sc X.env=pure (qk X.env sc.names []):=
 fX λy hy hk=>I.ok.has y.1 (.inl (by show X.env.scope.names.lookup y.1=_;rw[hos];exact cs.frees y hy hk))
theorem vR {osc:Scope} {N:List Str} {sc:Scope} {pos:Pos} {elt iter tg:Expr} {ifs:List Expr} {g:TG} {tt:TT} {xs names:List Str} {zR:List Nat} {wi:TI} {te:TE}
  (hc:X.calm=true) (hos:X.env.scope=osc) (hN:X.N=N) (cs:vS osc N sc xs names zR) (hi:PI X tg iter wi) (hg:∀fp s₀ H₀,PG (jx X sc xs names fp s₀ H₀) tg g) (ht:∀fp s₀ H₀,Mi (jx X sc xs names fp s₀ H₀) ifs tt) (he:∀fp s₀ H₀,PE (jx X sc xs names fp s₀ H₀) elt te)
  (hs:∀v,Nv iter X.env v=pure v:=by intro _;rfl):PE X (.ListComp elt [⟨tg,iter,ifs,0⟩] sc pos) (Y5 xs.length zR wi g tt te):=by
 intro pins s σ H Q I h
 rw[eval_ListComp]
 refine Nf (use:=none) rfl hs (sP hos cs I) cs.kind cs.locs (qC (hi pins s σ H _ I h) λxv s1 h1=>qC h1 λitv s2 h2=>?_)
 obtain⟨it,fp,tn,J,H2,rfl,I2,T,st2,f2,hW⟩:=h2
 refine iR (Qd:=Q) (RR:=λacc C=>compPost (L9 X.prog X.w) X.A X.xe none (EP X pins σ Q) acc C) hc hos hN cs hg ht he I2 T st2 f2 hW λD C H5 s6 m I6 hn fC q=>?_
 refine⟨m,hn,λh' sb=>?_⟩
 obtain⟨g0,g1,g2,g3,g4,g5⟩:=fC
 exact⟨.ref D,H5,I6.turned (t':=s6.toks) (it:=C) (λb o hb e=>sb.extBut b o hb e) g0 g1 g3 g4 g5,rfl,q⟩
theorem iu {osc:Scope} {N:List Str} {sc:Scope} {y:Str} {py pos spos:Pos} {elt iter tg:Expr} {ifs:List Expr} {g:TG} {tt:TT} {xs names:List Str} {zR:List Nat} {wi:TI} {te:TE} {i:Nat}
  (hc:X.calm=true) (hos:X.env.scope=osc) (hN:X.N=N) (nd:X.N.Nodup) (cs:vS osc N sc xs names zR) (hi':X.N[i]?=some y) (hy:X.env.scope.names.lookup y=some .local) (hi:PI X tg iter wi)
  (hg:∀fp s₀ H₀,PG (jx X sc xs names fp s₀ H₀) tg g) (ht:∀fp s₀ H₀,Mi (jx X sc xs names fp s₀ H₀) ifs tt) (he:∀fp s₀ H₀,PE (jx X sc xs names fp s₀ H₀) elt te) (hsw:O4 (.ListComp elt [⟨tg,iter,ifs,0⟩] sc pos) (some (.Name y py)) spos.line X.env=pure true:=by rfl)
  (hs:∀v,Nv iter X.env v=pure v:=by intro _;rfl):PS X (.Assign [.Name y py] (.ListComp elt [⟨tg,iter,ifs,0⟩] sc pos) spos) (HY (Y5 xs.length zR wi g tt te) (zU i)):=by
 intro pins s σ H D I h
 rw[exec_Assign_Name_used _ _ _ _ hsw]
 refine L1 (Od (L1 ?_))
 show Sv _ X.A (do let _ ←comprehension (.ListComp elt [⟨tg,iter,ifs,0⟩] sc pos) sc X.env _ (newList []) false (eval iter X.env) (some (assign (.Name y py) X.env))) _ _ s
 refine L1 (SS (Nf (use:=some (assign (.Name y py) X.env)) (Q:=λ_ s'=>SP X pins D .next s') rfl hs (sP hos cs I) cs.kind cs.locs
  (qC (hi pins s σ H _ I h) λxv s1 h1=>qC h1 λitv s2 h2=>?_)) (λ_ s' hq=>Sn (Sn hq)) λ_ _ e=>e)
 obtain⟨it,fp,tn,J,H2,rfl,I2,T,st2,f2,hW⟩:=h2
 refine iR (Qd:=λx H1=>zU i x σ H1 D.nx) (RR:=λacc C=>compPost (L9 X.prog X.w) X.A X.xe (some (assign (.Name y py) X.env)) (λ_ s'=>SP X pins D .next s') acc C) hc hos hN cs hg ht he I2 T st2 f2 hW λD' C H5 s6 m I6 hn fC q=>?_
 show Sv _ X.A (assign (.Name y py) X.env (.ref D')) _ _ _
 obtain⟨oC,es,ep,eC,dC,rC⟩:=id hn
 obtain⟨g0,g1,g2,g3,g4,g5⟩:=id fC
 have I6p:Inv X (pins ++ [(C,oC)]) σ H5 s6:=I6.p9 λp hp=>(LU.mp hp).elim (λz=>I6.pin p (LP _ z)) λz=>by
  have e:p=(C,oC):=by simpa using z
  subst e
  exact⟨eC,g0,g1,g2,λv z=>by rw[dC] at z;cases z⟩
 refine OT (cS I6p nd hi' (.inl hy) (v:=.ref D') rfl (λs7 I7=>?_) (.inr hy))
 have e7:=(I7.pin (C,oC) (LP _ (LP _ (by simp)))).1
 refine⟨m,⟨oC,es,ep,e7,dC,rC⟩,λh' sb=>?_⟩
 exact⟨_,H5,(I7.jo).turned (t':=s7.toks) (it:=C) (λb o hb e=>sb.extBut b o hb e) g0 g1 g3 g4 g5,q⟩
end
theorem Z5 {J:It} {H:Hp} {xs:List V} {n:Nat} {zR:List Nat} {g:TG} {tt:TT} {te:TE} {σ:St} {Q:VK} (hJ:ZN J H xs) (tv:V→List (Option V)) (hn:∀y,(tv y).length=n) (p:V→Bool) (Pr:V→V→Prop) (hsz:xs.length≤LI)
  (hg:∀(i:Nat) (y:V) (ts:List (Option V)) (H':Hp) (K':St→Hp→Prop),xs[i]?=some y→ts.length=n→zf H H'→K' (tv y ++ kc σ zR) H'→g y (ts ++ kc σ zR) H' K')
  (ht:∀(i:Nat) (y:V) (H':Hp) (Q':Bool→Hp→Prop),xs[i]?=some y→zf H H'→(∀H4,zf H' H4→Q' (p y) H4)→tt (tv y ++ kc σ zR) H' Q')
  (he:∀(i:Nat) (y:V) (H':Hp) (Q':VK),xs[i]?=some y→p y=true→zf H H'→(∀v H4,zf H' H4→Pr y v→Q' v H4)→te (tv y ++ kc σ zR) H' Q')
  (hd:∀(D:Addr) (H':Hp) (ys:List V),zf H H'→H D=none→H' D=some (.lst ys)→Paired Pr (xs.filter p) ys→Q (.ref D) H') :
  sd J n zR g tt te σ Q H:=by
 intro D hD
 refine⟨λi m σ1 H2=>m=xs.length - i∧i≤xs.length∧(∃ts:List (Option V),ts.length=n∧σ1=ts ++ kc σ zR)∧zf H H2∧∃ys,H2 D=some (.lst ys)∧Paired Pr ((xs.take i).filter p) ys,
  ⟨xs.length,by simp,Sy _,⟨_,Tw,rfl⟩,zf.Vx hD,[],zm,by simpa using Paired.nil⟩,?_⟩
 rintro i m σ1 H2 ⟨rfl,hi,⟨ts,htl,rfl⟩,s2,ys,hy,hp⟩
 obtain⟨j1,j2,j3⟩:=hJ i H2 s2
 by_cases hlt:i < xs.length
 ·refine .inr ⟨j1 hlt,λy H3 q=>?_⟩
  obtain⟨e3,ey⟩:=j2 y H3 q
  subst e3
  have hyi:=ey hlt
  have htake:xs.take (i + 1)=xs.take i ++ [y]:=by
   rw[List.take_add_one,hyi];rfl
  have hlen:ys.length≤i:=by
   rw[←hp.length]
   exact S1 (Ov _ _) (by rw[L3];omega)
  refine hg i y ts _ _ hyi htl s2 ?_
  refine ht i y _ _ hyi s2 λH5 s5=>?_
  cases hpy:p y with
  | false=>
   rw[if_neg LA]
   refine⟨xs.length - (i + 1),by omega,rfl,hlt,⟨tv y,hn y,rfl⟩,s2.trans s5,ys,s5 _ _ hy,?_⟩
   rw[htake,El,show [y].filter p=[] by simp [hpy],Sd]
   exact hp
  | true=>
   rw[if_pos rfl]
   refine he i y _ _ hyi hpy (s2.trans s5) λv H6 s6 pr=>⟨ys,s6 _ _ (s5 _ _ hy),by omega,xs.length - (i + 1),by omega,rfl,hlt,⟨tv y,hn y,rfl⟩,((s2.trans s5).trans s6).put hD,ys ++ [v],zm,?_⟩
   rw[htake,El,show [y].filter p=[y] by simp [hpy]]
   exact hp.snoc pr
 ·have e:i=xs.length:=by omega
  subst e
  refine .inl ⟨j3 rfl,hd D H2 ys s2 hD hy ?_⟩
  rw[SE] at hp
  exact hp
theorem aw {J:It} {H:Hp} {xs:List V} {zR:List Nat} {tt:TT} {te:TE} {σ:St} {Q:VK} (hJ:ZN J H xs) (p:V→Bool) (Pr:V→V→Prop) (hsz:xs.length≤LI)
  (ht:∀(i:Nat) (y:V) (H':Hp) (Q':Bool→Hp→Prop),xs[i]?=some y→zf H H'→(∀H4,zf H' H4→Q' (p y) H4)→tt (some y :: kc σ zR) H' Q')
  (he:∀(i:Nat) (y:V) (H':Hp) (Q':VK),xs[i]?=some y→p y=true→zf H H'→(∀v H4,zf H' H4→Pr y v→Q' v H4)→te (some y :: kc σ zR) H' Q')
  (hd:∀(D:Addr) (H':Hp) (ys:List V),zf H H'→H D=none→H' D=some (.lst ys)→Paired Pr (xs.filter p) ys→Q (.ref D) H') :
  sd J 1 zR (zU 0) tt te σ Q H:=
 Z5 hJ (λy=>[some y]) (λ_=>rfl) p Pr hsz (λi y ts H' K' _ htl _ q=>by
  match ts,htl with
  | [_],_=>exact q) ht he hd
theorem uq {J:It} {H:Hp} {xs:List V} {n:Nat} {zR:List Nat} {g:TG} {te:TE} {σ:St} {Q:VK} (hJ:ZN J H xs) (tv:V→List (Option V)) (hn:∀y,(tv y).length=n) (Pr:V→V→Prop) (hsz:xs.length≤LI)
  (hg:∀(i:Nat) (y:V) (ts:List (Option V)) (H':Hp) (K':St→Hp→Prop),xs[i]?=some y→ts.length=n→zf H H'→K' (tv y ++ kc σ zR) H'→g y (ts ++ kc σ zR) H' K')
  (he:∀(i:Nat) (y:V) (H':Hp) (Q':VK),xs[i]?=some y→zf H H'→(∀v H4,zf H' H4→Pr y v→Q' v H4)→te (tv y ++ kc σ zR) H' Q')
  (hd:∀(D:Addr) (H':Hp) (ys:List V),zf H H'→H D=none→H' D=some (.lst ys)→Paired Pr xs ys→Q (.ref D) H') :
  sd J n zR g HM te σ Q H:=
 Z5 hJ tv hn (λ_=>true) Pr hsz hg (λi y H' Q' _ s' k=>k H' (zf.refl _)) (λi y H' Q' hy _ s' k=>he i y H' Q' hy s' k) (λD H' ys s' hD e q=>hd D H' ys s' hD e (by rw[List.filter_eq_self.mpr (λ_ _=>rfl)] at q;exact q))
end L2
namespace L2
open PySem PySem.Spec PyProof.Rows
section
variable {X:Cx} {pins:List (Addr × Obj)} {σ:St} {H:Hp} {s:LZ} {h':Heap}
theorem Inv.RQ {ch:List Addr} {a:Addr} {o:HO} {t':Nat} (I:Inv X pins σ H s) (hf:∀b∈ch,vT X pins H b) (k:∀b u,b∉ch→s.heap.get? b=some u→h'.get? b=some u)
  (hp:s.heap.objs.size≤a) (new:qE X.prog X.w (upd H a o) h' a o):Inv X pins σ (upd H a o) { s with heap:=h',toks:=t' }:=by
 have hn:=I.qx.fresh hp
 have nit:∀b u,H b=some u→b∉ch:=λb u e z=>by rw[(hf b z).1] at e;cases e
 have ne:∀b u,s.heap.get? b=some u→b≠a:=λb u e z=>absurd (Sl (L0 (z▸e)) hp) (T3 _)
 refine I.step (g':=s.gens) (d':=s.drawn) (ch:=ch) (λb hb=>?_) (λb o _ _ hc e _=>k b o hc e) (λb o _ _ hc e _=>⟨o.slots,k b o hc e⟩) (λb o hc e n=>?_) (λb o hc e=>⟨o,k b o hc e⟩) (λb xs e=>?_) (λb o u e=>?_) (λb ps e=>⟨#[],?_⟩) (λm hm=>?_) (λb u e=>?_) I.bare
 ·obtain⟨_,f1,_,f3,f4,f5⟩:=hf b hb
  exact⟨f3,f1,f4,f5⟩
 ·rw[zP (ne b o e)];exact n
 ·rw[zP (zh e hn)];exact e
 ·rw[zP (zh e hn)];exact e
 ·rw[zP (zh e hn),e];simp
 ·obtain⟨o,es,ep,ho,r⟩:=hm
  exact⟨o,es,ep,k _ o (λz=>(hf _ z).2.1 rfl) ho,r⟩
 ·by_cases hb:b=a
  ·subst hb;rw[zm] at e;cases e;exact new
  ·rw[zP hb] at e
   refine(I.qx b u e).ZW (λc v hc q=>k c v ?_ q) (λc q=>by rw[zP (zh q hn)];exact q) λc xs q=>by rw[zP (zh q hn)];exact q
   rcases hc with z | z
   ·rw[z];exact nit b u e
   ·exact nit c _ z
theorem Inv.Ca {ch:List Addr} {t':Nat} (I:Inv X pins σ H s) (hf:∀b∈ch,vT X pins H b) (k:∀b u,b∉ch→s.heap.get? b=some u→h'.get? b=some u):Inv X pins σ H { s with heap:=h',toks:=t' }:=by
 have nit:∀b u,H b=some u→b∉ch:=λb u e z=>by rw[(hf b z).1] at e;cases e
 refine I.step (g':=s.gens) (d':=s.drawn) (ch:=ch) (λb hb=>?_) (λb o _ _ hc e _=>k b o hc e) (λb o _ _ hc e _=>⟨o.slots,k b o hc e⟩) (λb o hc e n=>n) (λb o hc e=>⟨o,k b o hc e⟩) (λb xs e=>e) (λb o u e=>e) (λb ps e=>⟨#[],by rw[e];simp⟩) (λm hm=>?_) (λb u e=>?_) I.bare
 ·obtain⟨_,f1,_,f3,f4,f5⟩:=hf b hb
  exact⟨f3,f1,f4,f5⟩
 ·obtain⟨o,es,ep,ho,r⟩:=hm
  exact⟨o,es,ep,k _ o (λz=>(hf _ z).2.1 rfl) ho,r⟩
 ·refine(I.qx b u e).ZW (λc v hc q=>k c v ?_ q) (λc q=>q) λc xs q=>q
  rcases hc with z | z
  ·rw[z];exact nit b u e
  ·exact nit c _ z
end
noncomputable def Cc (K:Ls) (a b:Addr):It:=
 ⟨λi H=>∃xs ys x y,zK K H a xs∧zK K H b ys∧xs[i]?=some x∧ys[i]?=some y,
  λi H v H'=>∃t x y,H t=none∧v=.ref t∧H'=upd H t (.tup [x,y])∧(∀xs,zK K H a xs→xs[i]?=some x)∧∀ys,zK K H b ys→ys[i]?=some y,
  λi H=>∃xs ys,zK K H a xs∧zK K H b ys∧(xs.length≤i∨ys.length≤i)⟩
def MJ (z TI TO i1 i2 l1 l2:Addr) (i:Nat) (h:Heap):Prop:=
 IsZip h z TI TO .none∧IsPair h TI (.ref i1) (.ref i2)∧(∃a b,IsPair h TO a b)∧h.IsListIter i1 l1 i∧h.IsListIter i2 l2 i
theorem Gx {P:LH} {w:Sz} {K:Ls} {es:List Expr} {k1:Nat} {pos:Pos} {z TI TO i1 i2 l1 l2:Addr} (D:ZipApart z TI TO i1 i2 l1 l2) :
  Turn P w K (.Tuple es k1 pos) (Cc K l1 l2) [z,TI,TO,i1,i2] z (MJ z TI TO i1 i2 l1 l2) where
 mem:=by simp
 obj:=λi h st b hb=>by
  obtain⟨a1,a2,⟨x,y,a3⟩,⟨o4,e4,_,d4⟩,o5,e5,_,d5⟩:=st
  simp only[La,Sm,or_false] at hb
  rcases hb with rfl | rfl | rfl | rfl | rfl
  ·exact⟨_,a1,λv q=>by cases q⟩
  ·exact⟨_,a2,λv q=>by cases q⟩
  ·exact⟨_,a3,λv q=>by cases q⟩
  ·exact⟨_,e4,λv q=>by rw[d4] at q;cases q⟩
  ·exact⟨_,e5,λv q=>by rw[d5] at q;cases q⟩
 keep:=λi h h' st k=>by
  obtain⟨a1,a2,⟨x,y,a3⟩,a4,a5⟩:=st
  exact⟨k z (by simp) _ a1,k TI (by simp) _ a2,⟨x,y,k TO (by simp) _ a3⟩,a4.at λo e=>k i1 (by simp) o e,a5.at λo e=>k i2 (by simp) o e⟩
 item:=by
  intro X hP hw hK hc i pins s σ H E I hf st hg
  subst hP hw hK
  obtain⟨xs,ys,x,y,hq1,hq2,hx,hy⟩:=hg
  obtain⟨its1,rv1,p1,_⟩:=I.list hq1
  obtain⟨its2,rv2,p2,_⟩:=I.list hq2
  obtain⟨u1,hu1,ru1⟩:=rv1.get hx
  obtain⟨u2,hu2,ru2⟩:=rv2.get hy
  obtain⟨a1,a2,⟨a,b,a3⟩,a4,a5⟩:=st
  refine wpAny_pyNext_zip_item D a1 a2 a3 a4 a5 p1.isList p2.isList (x:=u1) (y:=u2) (by simpa using hu1) (by simpa using hu2) λh' b1 b2 b3 b4 b5 b6 bk=>?_
  refine⟨_,rfl,wpAny_letOwnedTupleGo_zip b1 λh2 c1 c2=>?_⟩
  have lt:∀{c o},s.heap.get? c=some o→s.heap.objs.size≠c:=λe=>Ea (L0 e)
  have keepA:∀c o,c∉[z,TI,TO,i1,i2]→s.heap.get? c=some o→h2.get? c=some o:=λc o hc e=>by
   simp only[La,Sm,or_false,not_or] at hc
   exact c2.extBut _ _ hc.1 (bk c o hc.1 hc.2.2.1 hc.2.2.2.1 hc.2.2.2.2 e)
  have T2:IsPair h2 s.heap.objs.size u1 u2:=c2.extBut _ _ (lt a1) b5
  refine⟨.ref s.heap.objs.size,upd H s.heap.objs.size (.tup [x,y]),I.RQ (t':=s.toks) hf keepA (LF _) ?_,rfl,⟨_,x,y,I.fresh,rfl,rfl,λzs hz=>by rw[I.tM hz hq1];exact hx,λzs hz=>by rw[I.tM hz hq2];exact hy⟩,?_,λb hb=>?_⟩
  ·exact⟨by show 2≤LI;decide,[u1,u2],.cons ru1 (.cons ru2 .nil),_,T2,rfl,0,rfl⟩
  ·exact⟨c1,c2.extBut _ _ D.TIz (bk TI _ D.TIz D.TITO D.TIi1 D.TIi2 a2),⟨_,_,c2.extBut _ _ D.TOz b2⟩,b3.extBut c2.extBut D.i1z,b4.extBut c2.extBut D.i2z⟩
  ·have hb':∃o,s.heap.get? b=some o:=by
    obtain⟨o4,e4,_⟩:=a4
    obtain⟨o5,e5,_⟩:=a5
    simp only[La,Sm,or_false] at hb
    rcases hb with rfl | rfl | rfl | rfl | rfl
    ·exact⟨_,a1⟩
    ·exact⟨_,a2⟩
    ·exact⟨_,a3⟩
    ·exact⟨_,e4⟩
    ·exact⟨_,e5⟩
   obtain⟨o,e⟩:=hb'
   rw[zP (SF (lt e))]
   exact(hf b hb).1
 done:=by
  intro X hP hw hK hc i pins s σ H E I hf st hg
  subst hP hw hK
  obtain⟨xs,ys,hq1,hq2,he⟩:=hg
  obtain⟨its1,rv1,p1,_⟩:=I.list hq1
  obtain⟨its2,rv2,p2,_⟩:=I.list hq2
  have l1':=rv1.length
  have l2':=rv2.length
  obtain⟨a1,a2,⟨a,b,a3⟩,a4,a5⟩:=st
  refine wpAny_pyNext_zip_end (I.ok.hd hc) D a1 a2 a3 a4 a5 p1.isList p2.isList ?_ λh' bk=>⟨rfl,I.Ca (t':=s.toks) hf λc o hc e=>?_⟩
  ·rcases he with he | he
   ·exact .inl (by simp;omega)
   ·exact .inr (by simp;omega)
  ·simp only[La,Sm,or_false,not_or] at hc
   exact bk c o hc.1 hc.2.2.1 hc.2.2.2.1 hc.2.2.2.2 e
 self:=λ_ _ _ _ _ st h=>E1 st.1 h
def ML (K:Ls) (ta:TA):TI:=λσ H R=>ta σ H λvs H1=>∃a b xs ys,vs=[.ref a,.ref b]∧zK K H1 a xs∧zK K H1 b ys∧R (Cc K a b) H1
section
variable {X:Cx}
theorem Fn {es:List Expr} {k1:Nat} {tpos:Pos} {a b:Expr} {ta:TA} {p pos:Pos} (hg:Gl X "zip") (hm:X.mg "zip" = none) (ha:PA X [a,b] ta) (hv:Nk "zip" = some (.type "zip"))
  (he:Sg [a,b] X.env=(false,eval a X.env) :: Sg [b] X.env:=by rfl) (hpl:(backTo pos (Sg [b] X.env)).any (·.1)=false:=by rfl) :
  PI X (.Tuple es k1 tpos) (.Call (.Name "zip" p) [a,b] [] pos) (ML X.K ta):=by
 intro pins s σ H R I h
 refine T6 (uQ I hg hm hv ?_)
 refine TN (qC (ha pos pins s σ H _ I h) λus s1 ⟨vs,H1,I1,r1,q1⟩=>?_) he hpl
 obtain⟨l1,l2,xs,ys,rfl,hq1,hq2,q⟩:=q1
 obtain⟨its1,rv1,p1,_⟩:=I1.list hq1
 obtain⟨its2,rv2,p2,_⟩:=I1.list hq2
 cases r1 with
 | cons r rr=>
  cases rr with
  | cons r' rr=>
   cases rr
   cases r
   cases r'
   have b1:l1 < s1.heap.objs.size:=by obtain⟨_,_,e,_⟩:=p1;exact L0 e
   have b2:l2 < s1.heap.objs.size:=by obtain⟨_,_,e,_⟩:=p2;exact L0 e
   refine call_zip_2 p1.isList p2.isList λh' c1 c2 c3 c4 c5 c6 ck=>?_
   refine E1 (s:={ s1 with heap:=h' }) c1 ?_
   refine⟨_,_,_,_,H1,rfl,I1.kept (t':=s1.toks) ck,Gx (zipApart_new b1 b2),⟨c1,c2,⟨_,_,c3⟩,c4,c5⟩,λc hc=>?_,q⟩
   have:s1.heap.objs.size≤c:=by
    simp only[La,Sm,or_false] at hc
    rcases hc with rfl | rfl | rfl | rfl | rfl<;>omega
   exact I1.aX this (I1.qx.fresh this)
theorem eF:∀(tk:Nat) (xs:List Str),Vals (xs.map V.str) (strsFrom tk xs)
 | _,[]=>.nil
 | tk,x :: r=>.cons ⟨tk,rfl⟩ (eF (tk + 1) r)
def FV:V→List V→Hp→VK→Prop:=λx vs H Q=>∃z y,x=.str z∧vs=[.str y]∧(y.length == 0)=false∧z.length + 2≤LI∧Nw H (.lst ((TJ z y).map V.str)) Q
theorem yE:eL X "str.split" FV:=by
 intro pins s σ H x vs v us Q I rx rv h
 obtain⟨z,y,rfl,rfl,hy,hz,q⟩:=h
 obtain⟨t,rfl⟩:=rx
 obtain⟨u,rfl,ru⟩:=rv.one
 obtain⟨t',rfl⟩:=ru
 have hsz:z.length≤LI:=by omega
 have hle:=IW z y
 have fin:∀(l:List Lo) (tk:Nat),Vals ((TJ z y).map V.str) l→EP X pins σ Q (.ref s.heap.objs.size) { s with heap:=s.heap.push { cls:=.type "list",data:=.seq l.toArray },toks:=tk }:=λl tk r=>
  ⟨.ref s.heap.objs.size,_,I.WU (t':=tk) r (by rw[Ln];omega),rfl,q.el _ I.fresh⟩
 cases h1:(decide (z.length < y.length) || decide (NO z < NO y)) with
 | true=>
  refine NU O6 (typeIs_str _ _ _) OO (OM _ _) (meets_str_split_cannot_occur z y t t' h1) ?_
  refine fin [.str z t] s.toks ?_
  have e:TJ z y=[z]:=if_pos h1
  rw[e];exact .cons ⟨t,rfl⟩ .nil
 | false=>
  cases hf:(Nc z y 0 z.length (z.length + 1)).isEmpty with
  | true=>
   refine NU O6 (typeIs_str _ _ _) OO (OM _ _) (meets_str_split_not_found z y t t' h1 hy hf) ?_
   refine fin [.str z t] s.toks ?_
   have e:TJ z y=[z]:=(if_neg (ne_true_of_eq_false h1)).trans (if_pos hf)
   rw[e];exact .cons ⟨t,rfl⟩ .nil
  | false=>
   have e:TJ z y=AS z (Nc z y 0 z.length (z.length + 1)) y.length:=(if_neg (ne_true_of_eq_false h1)).trans (if_neg (ne_true_of_eq_false hf))
   rw[e] at hle
   refine NU O6 (typeIs_str _ _ _) OO (OM _ _) (meets_str_split_sep z y t t' h1 hy hf hsz (by omega)) ?_
   refine fin _ _ ?_
   rw[e];exact eF _ _
theorem Hm {K:Ls} {es:List Expr} {k1:Nat} {tpos:Pos} {a b:Expr} {ta:TA} {p pos:Pos} (hK:X.K=K) (hg:Gl X "zip") (hm:X.mg "zip" = none) (ha:PA X [a,b] ta) (hv:Nk "zip" = some (.type "zip"))
  (he:Sg [a,b] X.env=(false,eval a X.env) :: Sg [b] X.env:=by rfl) (hpl:(backTo pos (Sg [b] X.env)).any (·.1)=false:=by rfl) :
  PI X (.Tuple es k1 tpos) (.Call (.Name "zip" p) [a,b] [] pos) (ML K ta):=hK▸Fn hg hm ha hv he hpl
end
theorem Ww {K:Ls} {a b:Addr} {H:Hp} {xs ys:List V} {zR:List Nat} {te:TE} {σ:St} {Q:VK} (hx:zK K H a xs) (hy:zK K H b ys) (Pr:V→V→V→Prop) (hsz:xs.length≤LI)
  (he:∀(i:Nat) (x y:V) (H':Hp) (Q':VK),xs[i]?=some x→ys[i]?=some y→zf H H'→(∀v H4,zf H' H4→Pr x y v→Q' v H4)→te ([some x,some y] ++ kc σ zR) H' Q')
  (hd:∀(D:Addr) (H':Hp) (vs:List V),zf H H'→H D=none→H' D=some (.lst vs)→vs.length=min xs.length ys.length→(∀(i:Nat) x y v,xs[i]?=some x→ys[i]?=some y→vs[i]?=some v→Pr x y v)→Q (.ref D) H') :
  sd (Cc K a b) 2 zR (Pc K 2 (Qv (zU 0) (Qv (zU 1) Pd))) HM te σ Q H:=by
 intro D hD
 refine⟨λi m σ1 H2=>m=min xs.length ys.length - i∧i≤min xs.length ys.length∧(∃ts:List (Option V),ts.length=2∧σ1=ts ++ kc σ zR)∧zf H H2∧∃vs,H2 D=some (.lst vs)∧vs.length=i∧∀(j:Nat) x y v,xs[j]?=some x→ys[j]?=some y→vs[j]?=some v→Pr x y v,
  ⟨min xs.length ys.length,by omega,Sy _,⟨_,Tw,rfl⟩,zf.Vx hD,[],zm,rfl,λj x y v _ _ e=>by simp at e⟩,?_⟩
 rintro i m σ1 H2 ⟨rfl,hi,⟨ts,htl,rfl⟩,s2,vs,hv,hvl,hp⟩
 have hx2:zK K H2 a xs:=FC hx s2
 have hy2:zK K H2 b ys:=FC hy s2
 by_cases hlt:i < min xs.length ys.length
 ·have h1:i < xs.length:=by omega
  have h2:i < ys.length:=by omega
  refine .inr ⟨⟨xs,ys,_,_,hx2,hy2,Le h1,Le h2⟩,λu H3 q=>?_⟩
  obtain⟨tp,x,y,htn,rfl,rfl,ex,ey⟩:=q
  have ex:=ex xs hx2
  have ey:=ey ys hy2
  have s3:zf H2 (upd H2 tp (.tup [x,y])):=zf.Vx htn
  match ts,htl with
  | [_,_],_=>
   refine⟨tp,[x,y],rfl,jt.of zm,rfl,x,[y],rfl,y,[],rfl,rfl,?_⟩
   unfold HM
   dsimp only
   rw[if_pos rfl]
   refine he i x y _ _ ex ey (s2.trans s3) λv H6 s6 pr=>⟨vs,s6 _ _ (s3 _ _ hv),by omega,min xs.length ys.length - (i + 1),by omega,rfl,hlt,⟨[some x,some y],rfl,rfl⟩,((s2.trans s3).trans s6).put hD,vs ++ [v],zm,by rw[Li,hvl];rfl,λj x' y' v' e1 e2 e3=>?_⟩
   by_cases hj:j < vs.length
   ·rw[S5 hj] at e3
    exact hp j x' y' v' e1 e2 e3
   ·have hji:j=i:=by
     have:=(LN.mp e3).1
     rw[Li,IV] at this
     omega
    subst hji
    rw[SD (by omega),hvl,EH] at e3
    rw[ex] at e1
    rw[ey] at e2
    cases e1
    cases e2
    cases e3
    exact pr
 ·have e:i=min xs.length ys.length:=by omega
  refine .inl ⟨⟨xs,ys,hx2,hy2,by omega⟩,hd D H2 vs s2 hD hv (by omega) hp⟩
end L2
namespace L2
open PyProof.Rows PySem PySem.Spec
def D7 (h:Heap) (e C:Addr) (d:Option Addr) (tb:Lo):Prop:=∃vs sl,h.get? e=some ⟨.ref C,d,.fields vs,sl⟩∧vs.size=6∧vs[1]?=some tb∧vs[2]?=some .none
def Ru (h:Heap) (T:Addr) (fl:Lo):Prop:=∃oT ts,h.get? T=some oT∧oT.data=.fields ts∧ts[3]?=some fl
structure Lw (fs ch:List Addr) (h h':Heap):Prop where
 keep:∀b o,h.get? b=some o→b∉fs→b∉ch→h'.get? b=some o
 slot:∀b o,h.get? b=some o→b∈fs→b∉ch→∃sl,h'.get? b=some { o with slots:=sl }
 there:∀b o,h.get? b=some o→∃o',h'.get? b=some o'
section
variable {M:Model} {A:SO} {E:Lo→LZ→Prop} {s:LZ} {base:Heap} {env:Env} {outer:List Env} {L e C:Addr} {d:Option Addr}
end
end L2
namespace L2
open PyProof.Rows PySem PySem.Spec
noncomputable def xO (e C:Addr) (d:Option Addr):HO:=.ext λh=>∃tb,D7 h e C d tb
structure Uo (a C:Addr) (d:Option Addr) (n:Nat) (H:Hp) (h:Heap) (T:Addr):Prop where
 at':D7 h a C d (.ref T)
 tr:Ru h T .none
 ne:T≠a
 new:n≤T
 free:H T=none
 is:H a=some (xO a C d)
noncomputable def Lj (P:LH) (w:Sz):rD:=λouter H s E e s'=>∃(a C:Addr) (d:Option Addr) (T:Addr) (H':Hp),e=.ref a∧s'.os=s.os∧AllBare s'.gens∧Un (Jt outer) [] H H' s.heap s'.heap∧fJ P w H' s'.heap∧Uo a C d s.heap.objs.size H' s'.heap T∧E (.ref C) (some a) H'
end L2
namespace L2
open PyProof.Rows PySem PySem.Spec
section
variable {X:Cx} {pins:List (Addr × Obj)} {σ:St} {H:Hp} {s:LZ} {a C:Addr} {d:Option Addr} {E:XK}
end
end L2
namespace L2
open PyProof.Rows PySem PySem.Spec
section
variable {P:LH} {w:Sz} {K:Ls} {mg:Str→Option Lo} {base:Heap}
end
end L2
namespace L2
open PyProof.Rows PySem PySem.Spec
noncomputable def sq:List Lo→Bool
 | .ref _ :: r=>sq r
 | l=>l == [.type "ValueError",.type "Exception",.type "BaseException",.type "object"]
structure Rn (K:Ls) (C:Addr):Prop where
 mro:(PySem.W.clsIn K C).any (λcd=>sq cd.mro && cd.hasDict)=true
 sa:Sf K (.ref C) "__setattr__" = some (some (.builtin "object.__setattr__"))
section
variable {prog:LH} {w:Sz} {A:SO} {K:Ls} {C x:Addr} {s:LZ} {R:Result→LZ→Prop}
end
end L2
namespace L2
open PyProof.Rows PySem PySem.Spec
section
variable {w:Sz} {A:SO} {E:Lo→LZ→Prop} {h:Heap} {g:Array GenState} {d:Drawn} {t:Nat} {os:OsState} {prog:LH}
variable {nm q:Str} {C N:Addr} {bs bm:List Lo} {hdct:Bool} {sn:List Str} {sub:List Lo} {ab:Bool} {col:Option Bool} {dd:Option Addr} {k0 k1 k2 k3 k5:Option Lo} {B newId initId:String} {bmB:List Lo}
end
end L2
namespace L2
open PyProof.Rows PySem PySem.Spec
noncomputable def xN (e C:Addr) (d:Option Addr):HO:=.ext λh=>D7 h e C d .none
noncomputable def xD (dx:Addr) (fs:List (Str × V)):HO:=.ext λh=>∃mA,h.Ns1 dx mA∧(∀f,gv (fs.lookup f) (mA f))∧Ij mA (fs.map (·.1))
section
variable {X:Cx} {pins:List (Addr × Obj)} {σ:St} {H:Hp} {s:LZ} {a C dx:Addr} {f:Str} {y:V} {u:Lo} {o value:Expr} {ta tv:TE} {pos pos':Pos}
def Lf (K:Ls) (ta tv:TE) (f:Str):TS:=λD σ H=>tv σ H λy H1=>ta σ H1 λx H2=>∃a C,x=.ref a∧Rn K C∧zH K C f∧
 ((H2 a=some (xN a C none)∧∀dx,H2 dx=none→dx≠a→D.nx σ (upd (upd H2 dx (xD dx [(f,y)])) a (xN a C (some dx))))∨
  (∃dx fs,H2 a=some (xN a C (some dx))∧H2 dx=some (xD dx fs)∧fs.length≤900∧D.nx σ (upd H2 dx (xD dx (zY f y fs)))))
noncomputable def Gg (K:Ls) (C:Addr):Bool:=match K.lookup C with
 | some ⟨c,_,.cls cd,sl⟩=>c == .type "type" && cd.mro.head? == some (.ref C) && sq cd.mro && !cd.hasDel && sl.size == 6 && sl[4]? == some (some (.builtin "ValueError.__new__"))
 | _=>false
noncomputable def Ll (C:Addr) (o:Obj):Bool:=match o with
 | ⟨c,_,.cls cd,sl⟩=>c == .type "type" && cd.mro.head? == some (.ref C) && sq cd.mro && !cd.hasDel && sl.size == 6 && sl[4]? == some (some (.builtin "ValueError.__new__")) && cd.hasDict
 | _=>false
structure Ly (K:Ls) (C f:Addr):Prop where
 xc:Gg K C=true
 init:Sf K (.ref C) "__init__" = some (some (.ref f))
 fn:Iy K (.ref f)=true
 kp:Tt K (.ref C)=true
section
variable {CX:rD} {k:Nat} {fI:Addr} {fd:LG} {ps:List Str} {sp:Sp} {dvs vs:List V} {ds us:List Lo} {E:XK} {Q:VK} {x:Str} {p:Pos} {e:Expr} {es:List Expr} {t:TA}
def Ug (C:Addr) (sp:Sp) (dvs:List V) (E:XK) (t:TA):TE:=λσ H Q=>t σ H λvs H1=>vs.length≤LI∧∀a,H1 a=none→sp (.ref a :: (vs ++ dvs)) (upd H1 a (xN a C none)) (λv H2=>v=.non∧Q (.ref a) H2) E
structure Ro (K:Ls) (C:Addr):Prop where
 xc:Gg K C=true
 init:Sf K (.ref C) "__init__" = some (some (.builtin "ValueError.__init__"))
 kp:Tt K (.ref C)=true
def Cy (C:Addr):TE:=λ_ H Q=>∀a,H a=none→Q (.ref a) (upd H a (xN a C none))
end
end
end L2
namespace L2
open PyProof.Rows PySem PySem.Spec
section
variable {X:Cx} {pins:List (Addr × Obj)} {σ:St} {H:Hp} {s:LZ} {a C:Addr} {d:Option Addr} {e:Expr} {te:TE} {pos:Pos} {E:XK}
def Raises (X:Cx) (E:XK):Prop:=∀(pins:List (Addr × Obj)) (σ:St) (H:Hp) (s:LZ) (a C:Addr) (d:Option Addr),Inv X pins σ H s→H a=some (xO a C d)→D7 s.heap a C d .none→E (.ref C) (some a) H→X.xe (.ref a) s
def Um (K:Ls) (E:XK) (te:TE):TS:=λ_ σ H=>te σ H λv H1=>∃a C d,v=.ref a∧Gg K C=true∧H1 a=some (xN a C d)∧E (.ref C) (some a) (upd H1 a (xO a C d))
end
end L2
namespace L2
open PyProof.Rows PySem PySem.Spec
section
variable {X:Cx} {pins:List (Addr × Obj)} {σ:St} {H:Hp} {s:LZ} {a C:Addr} {d:Option Addr} {E Eh:XK}
def Mu (X:Cx) (pins:List (Addr × Obj)) (σ:St) (Eh:XK) (ex:Lo) (s':LZ):Prop:=∃a C d T H',ex=.ref a∧Inv X pins σ H' s'∧Uo a C d X.s₀.heap.objs.size H' s'.heap T∧(∀p∈X.pn ++ pins,p.1≠T)∧Eh (.ref C) (some a) H'
def Rp (X:Cx) (Eh:XK) (e:Expr) (te:TE):Prop:=∀(pins:List (Addr × Obj)) (s:LZ) (σ:St) (H:Hp) (Q:VK),Inv X pins σ H s→te σ H Q→Sv (L9 X.prog X.w) X.A (eval e X.env) (EP X pins σ Q) (Mu X pins σ Eh) s
section
variable {k:Nat} {f:Addr} {fd:LG} {ps:List Str} {sp:Sp} {dvs:List V} {ds:List Lo} {x:Str} {p pos:Pos} {e:Expr} {es:List Expr} {t:TA}
end
noncomputable def Cx.held (X:Cx) (a:Addr):Cx:={ X with A:=X.A.mark (some (.ref a)),calm:=false }
def U8 (K:Ls) (Eh:XK) (P:Addr) (i:Nat) (te:TE) (th:Addr→TS):TS:=λD σ H=>(te σ H λ_ H1=>D.nx σ H1)∧∀C a H',Eh (.ref C) (some a) H'→OD K (.ref C) (.ref P)=some true∧
 th a { nx:=λσ H=>D.nx (σ.set i none) H,rt:=D.rt,bk:=λσ H=>D.bk (σ.set i none) H,ct:=λσ H=>D.ct (σ.set i none) H } (σ.set i (some (.ref a))) H'
end
end L2
namespace L2
open PyProof.Rows PySem PySem.Spec
def Ri (H:Hp) (a C:Addr) (fs:List (Str × V)):Prop:=(fs=[]∧H a=some (xO a C none))∨∃dx,H a=some (xO a C (some dx))∧H dx=some (xD dx fs)
section
variable {prog:LH} {w:Sz} {A:SO} {E:Lo→LZ→Prop} {s:LZ} {K:Ls} {x C:Addr} {ox:Obj} {od:Option Obj} {name:Str} {tk:Tok} {v:Lo} {R:Result→LZ→Prop}
end
structure Ra (K:Ls) (C:Addr):Prop where
 ga:Sf K (.ref C) "__getattribute__" = some (some (.builtin "BaseException.__getattribute__"))
 gn:Sf K (.ref C) "__getattr__" = some none
 bx:To K C (.type "BaseException")=some true
 hd:N9 K C=true
 ha:Sf K (.ref C) "__class__" = some (some (.builtin "object.__class__"))
 hn:NB K (.builtin "object.__class__") "__get__" = some (some (.builtin "getset_descriptor.__get__"))
 lD:IZ K (.builtin "object.__class__")=some true
 hm:To K C (.type "object")=some true
section
variable {X:Cx} {K:Ls}
def Rz (K:Ls) (ta:TE) (f:Str):TE:=λσ H Q=>ta σ H λx H1=>∃a C fs v,x=.ref a∧Ri H1 a C fs∧Ra K C∧zH K C f∧fs.lookup f=some v∧Q v H1
end
end L2
namespace L2
open PyProof.Rows PySem PySem.Spec
structure MZ (k:Nat) (A:SO):Prop where
 dp:A.depth + 3 * k + 5 < recursionLimit
 un:A.units + 16 * k + 200 < cLine
structure Ui (P:LH) (w:Sz) (K:Ls) (mg:Str→Option Lo) (base:Heap) (CX:rD) (k:Nat) (f:Addr) (fd:LG) (ps:List Str) (sp:Sp):Prop where
 len:∀vs H Q E,sp vs H Q E→vs.length=ps.length
 run:∀(A:SO) (outer:List Env) (s:LZ) (H:Hp) (args:Args) (us:List Lo) (vs:List V) (Q:VK) (E:XK),MZ k A→ZT P w K mg base A outer s H→BindsTo s fd args (ps.zip us)→Vals vs us→sp vs H Q E→NH (L9 P w) A (.call (.ref f) args) (CR CX outer P w H s Q E) s
section
variable {P:LH} {w:Sz} {K:Ls} {mg:Str→Option Lo} {base:Heap} {CX:rD}
noncomputable def Cx.any (X:Cx):Cx:={ X with calm:=false,xe:=λ_ _=>False }
section
variable {X:Cx} {pins:List (Addr × Obj)} {σ:St} {H:Hp} {s:LZ} {k:Nat} {f:Addr} {fd:LG} {ps:List Str} {sp:Sp} {dvs:List V} {ds:List Lo} {x:Str} {p pos:Pos} {e:Expr} {es:List Expr} {t:TA}
end
end
end L2
namespace L2
open PyProof.Rows PySem PySem.Spec
section
variable {prog:LH} {w:Sz} {A:SO} {E:Lo→LZ→Prop} {s:LZ} {a e C:Addr} {d:Option Addr} {tb:Lo} {oe:Obj} {vs:Array Lo}
end
end L2
namespace L2
open PyProof.Rows PySem PySem.Spec
structure MQ (aa:Addr) (P:LH) (w:Sz) (K:Ls) (tg:Expr) (J:It) (fp:List Addr) (it:Addr) (tn:Nat→Heap→Prop):Prop where
 mem:it∈fp
 obj:∀i h,tn i h→∀b∈fp,∃o,h.get? b=some o∧∀v,o.data≠.cell v
 keep:∀i h h',tn i h→(∀b∈fp,∀o,h.get? b=some o→h'.get? b=some o)→tn i h'
 item:∀(X:Cx),X.prog=P→X.w=w→X.K=K→X.A.handled=some (.ref aa)→∀(i:Nat) (pins:List (Addr × Obj)) (s:LZ) (σ:St) (H:Hp) (E:Lo→LZ→Prop),Inv X pins σ H s→(∀b∈fp,vT X pins H b)→tn i s.heap→J.go i H→
  Sv (L9 P w) X.A (pyNext (.ref it)) (λr s1=>∃u,r=some u∧Sv (L9 P w) X.A (NJ tg (.ref it) u) (λ_ s2=>∃x H',Inv X pins σ H' s2∧RelV x u∧J.VN i H x H'∧tn (i + 1) s2.heap∧∀b∈fp,H' b=none) E s1) E s
 done:∀(X:Cx),X.prog=P→X.w=w→X.K=K→X.A.handled=some (.ref aa)→∀(i:Nat) (pins:List (Addr × Obj)) (s:LZ) (σ:St) (H:Hp) (E:Lo→LZ→Prop),Inv X pins σ H s→(∀b∈fp,vT X pins H b)→tn i s.heap→J.stop i H→Sv (L9 P w) X.A (pyNext (.ref it)) (λr s1=>r=none∧Inv X pins σ H s1) E s
 self:∀(A:SO) (i:Nat) (s:LZ) (Q:Lo→LZ→Prop) (E:Lo→LZ→Prop),tn i s.heap→Q (.ref it) s→Sv (L9 P w) A (pyIter (.ref it)) Q E s
noncomputable def Cd (aa:Addr) (lo:Int) (n:Nat):It:=⟨λi _=>i < n,λi H x H'=>H'=H∧x=.int (lo + i),λi H=>n≤i∧∃C d,H aa=some (xO aa C d)⟩
section
variable {X:Cx}
def Rm (X:Cx) (aa:Addr) (tg iter:Expr) (wi:TI):Prop:=∀(pins:List (Addr × Obj)) (s:LZ) (σ:St) (H:Hp) (R:It→Hp→Prop),Inv X pins σ H s→wi σ H R→
 Sv (L9 X.prog X.w) X.A (eval iter X.env) (λv s1=>Sv (L9 X.prog X.w) X.A (pyIter v) (λitv s2=>∃(it:Addr) (fp:List Addr) (tn:Nat→Heap→Prop) (J:It) (H':Hp),itv=.ref it∧Inv X pins σ H' s2∧MQ aa X.prog X.w X.K tg J fp it tn∧tn 0 s2.heap∧(∀b∈fp,vT X pins H' b)∧R J H') X.xe s1) X.xe s
def CJ (aa:Addr) (ta:TA):TI:=λσ H R=>ta σ H λvs H1=>∃j:Int,vs=[.int j]∧-(2 ^ 62)≤j∧j < 2 ^ 62∧R (Cd aa 0 j.toNat) H1
end
end L2
namespace L2
open PySem PySem.Spec PyProof.Rows
section
variable {κ:Type} [DecidableEq κ]
noncomputable def j9 (kvs:List (κ × V)) (k:κ):Option V:=(kvs.find? λkv=>decide (kv.1=k)).map (·.2)
noncomputable def putK (kvs:List (κ × V)) (k:κ) (v:V):List (κ × V):=
 if (kvs.any λkv=>decide (kv.1=k))=true then kvs.map (λkv=>if kv.1=k then (kv.1,v) else kv) else kvs ++ [(k,v)]
noncomputable def Wu (kvs:List (κ × V)) (k:κ):List (κ × V):=kvs.filter λkv=>decide (kv.1≠k)
theorem jD {p:κ × V} {r:List (κ × V)} {k:κ} (e:p.1=k):j9 (p :: r) k=some p.2:=by simp [j9,Td,e]
theorem jM {p:κ × V} {r:List (κ × V)} {k:κ} (e:¬p.1=k):j9 (p :: r) k=j9 r k:=by simp [j9,Td,e]
theorem gk (k:κ):∀kvs:List (κ × V),(kvs.any λkv=>decide (kv.1=k))=(j9 kvs k).isSome
 | []=>rfl
 | p :: r=>by
  rw[Nh]
  by_cases e:p.1=k
  ·simp only[jD e,zzP e,Bool.true_or,Option.isSome_some]
  ·rw[jM e,decide_eq_false e,Bool.false_or];exact gk k r
theorem Jj (k j:κ) (y:V):∀kvs:List (κ × V),j9 (kvs.map λkv=>if kv.1=k then (kv.1,y) else kv) j=(j9 kvs j).map λx=>if j=k then y else x
 | []=>rfl
 | p :: r=>by
  have ih:=Jj k j y r
  rw[LR]
  by_cases h:p.1=k
  ·rw[if_pos h]
   by_cases e:p.1=j
   ·rw[jD (p:=(p.1,y)) e,jD e,Tq,if_pos (e.symm.trans h)]
   ·rw[jM (p:=(p.1,y)) e,jM e,ih]
  ·rw[if_neg h]
   by_cases e:p.1=j
   ·rw[jD (p:=p) e,jD e,Tq,if_neg (λz=>h (e.trans z))]
   ·rw[jM (p:=p) e,jM e,ih]
theorem eB (k j:κ) (y:V):∀kvs:List (κ × V),j9 kvs k=none→j9 (kvs ++ [(k,y)]) j=if j=k then some y else j9 kvs j
 | [],_=>by
  by_cases e:k=j
  ·rw[if_pos e.symm];exact jD (p:=(k,y)) e
  ·rw[if_neg (λz=>e z.symm)];exact jM (p:=(k,y)) e
 | p :: r,hn=>by
  rw[SA]
  have hk:¬p.1=k:=λz=>by rw[jD z] at hn;cases hn
  rw[jM hk] at hn
  have ih:=eB k j y r hn
  by_cases e:p.1=j
  ·rw[jD e,jD e,if_neg (λz=>hk (e.trans z))]
  ·rw[jM e,jM e,ih]
theorem Gv (kvs:List (κ × V)) (k j:κ) (y:V):j9 (putK kvs k y) j=if j=k then some y else j9 kvs j:=by
 unfold putK
 by_cases a:(kvs.any λkv=>decide (kv.1=k))=true
 ·rw[if_pos a,Jj]
  rw[gk] at a
  by_cases e:j=k
  ·obtain⟨x,hx⟩:=O0.mp a
   rw[if_pos e,e,hx,Tq,if_pos rfl]
  ·rw[if_neg e]
   cases j9 kvs j with
   | none=>rfl
   | some x=>rw[Tq,if_neg e]
 ·rw[if_neg a]
  refine eB k j y kvs ?_
  rw[gk] at a
  cases q:j9 kvs k with
  | none=>rfl
  | some x=>rw[q] at a;exact(a rfl).elim
theorem rk (kvs:List (κ × V)) (k:κ) (v:V):(putK kvs k v).length≤kvs.length + 1:=by
 unfold putK
 split
 ·rw[Ln];omega
 ·rw[Li,LQ,LO];omega
theorem Yl {kvs:List (κ × V)} {k:κ} (v:V) (h:j9 kvs k=none):putK kvs k v=kvs ++ [(k,v)]:=by
 unfold putK
 rw[gk,h]
 exact if_neg (by decide)
theorem gv.yT {o:Option V} {u:Option Lo} (r:gv o u):o.isSome=u.isSome:=by
 cases o with
 | none=>cases u with
  | none=>rfl
  | some _=>exact(show False from r).elim
 | some _=>cases u with
  | none=>exact(show False from r).elim
  | some _=>rfl
theorem gv.getD {o:Option V} {u:Option Lo} {d:V} {d':Lo} (r:gv o u) (rd:RelV d d'):RelV (o.getD d) (u.getD d'):=by
 cases o with
 | none=>cases u with
  | none=>exact rd
  | some _=>exact(show False from r).elim
 | some _=>cases u with
  | none=>exact(show False from r).elim
  | some _=>exact r
theorem KV.val {kvs:List (κ × V)} {vs:List (κ × Lo)} (r:KV kvs vs) (k:κ):gv (j9 kvs k) (valueAt vs k):=by
 unfold KV at r
 induction r with
 | nil=>exact Tz
 | @cons p q ps qs h t ih=>
  obtain⟨h1,h2⟩:=h
  by_cases e:p.1=k
  ·have e':q.1=k:=h1.symm.trans e
   have b:valueAt (q :: qs) k=some q.2:=by simp [valueAt,Td,e']
   rw[jD e,b];exact h2
  ·have e':¬q.1=k:=λz=>e (h1.trans z)
   have b:valueAt (q :: qs) k=valueAt qs k:=by simp [valueAt,Td,e']
   rw[jM e,b];exact ih
theorem KV.any {kvs:List (κ × V)} {vs:List (κ × Lo)} (r:KV kvs vs) (k:κ):(kvs.any λkv=>decide (kv.1=k))=vs.any λkv=>decide (kv.1=k):=by
 unfold KV at r
 induction r with
 | nil=>rfl
 | cons h t ih=>rw[Nh,Nh,ih,h.1]
theorem KV.FH {kvs:List (κ × V)} {vs:List (κ × Lo)} (r:KV kvs vs) (k:κ) {y:V} {u:Lo} (ry:RelV y u) :
  KV (kvs.map λkv=>if kv.1=k then (kv.1,y) else kv) (vs.map λkv=>if kv.1=k then (kv.1,u) else kv):=by
 unfold KV at r ⊢
 induction r with
 | nil=>exact .nil
 | @cons p q ps qs h t ih=>
  rw[LR,LR]
  refine .cons ?_ ih
  obtain⟨h1,h2⟩:=h
  by_cases e:p.1=k
  ·rw[if_pos e,if_pos (h1.symm.trans e)];exact⟨h1,ry⟩
  ·rw[if_neg e,if_neg (λz=>e (h1.trans z))];exact⟨h1,h2⟩
theorem KV.put {kvs:List (κ × V)} {vs:List (κ × Lo)} (r:KV kvs vs) (k:κ) {y:V} {u:Lo} (ry:RelV y u):KV (putK kvs k y) (stored vs k u):=by
 unfold putK stored
 rw[r.any k]
 by_cases e:(vs.any λkv=>decide (kv.1=k))=true
 ·rw[if_pos e,if_pos e];exact r.FH k ry
 ·rw[if_neg e,if_neg e];exact Paired.snoc r ⟨rfl,ry⟩
theorem KV.keys {kvs:List (κ × V)} {vs:List (κ × Lo)} (r:KV kvs vs):kvs.map (·.1)=vs.map (·.1):=by
 unfold KV at r
 induction r with
 | nil=>rfl
 | cons h t ih=>rw[LR,LR,ih,h.1]
theorem KV.length {kvs:List (κ × V)} {vs:List (κ × Lo)} (r:KV kvs vs):kvs.length=vs.length:=SW r
end
theorem tH {P:LH} {w:Sz} {k:Key} {u:Lo} (r:RelV (kV k) u):(qS P w).is k u=true:=by
 cases k with
 | inl i=>obtain⟨t,e⟩:=(show ∃t,u=I0 i t from r);subst e;exact Qa P w i t
 | inr x=>obtain⟨t,e⟩:=(show ∃t,u=Ez x t from r);subst e;exact QZ P w x t
theorem iA {P:LH} {w:Sz}:∀{ks:List Key} {us:List Lo},Vals (ks.map kV) us→ItemsAre (qS P w) ks us
 | [],_,r=>by rw[S7] at r;cases r;exact .nil
 | k :: ks,_,r=>by
  rw[LR] at r
  cases r with
  | cons h t=>exact .cons (tH h) (iA t)
abbrev KT (H:Hp):List (List Key × V)→List (List Key × Addr × Lo)→Prop:=Paired λp q=>p.1=q.1∧H q.2.1=some (.tup (p.1.map kV))∧RelV p.2 q.2.2
theorem KT.val {H:Hp} {kvs:List (List Key × V)} {xs:List (List Key × Addr × Lo)} (r:KT H kvs xs) (k:List Key):gv (j9 kvs k) ((atKey xs k).map (·.2)):=by
 induction r with
 | nil=>exact Tz
 | @cons p q ps qs h t ih=>
  obtain⟨h1,_,h2⟩:=h
  by_cases e:p.1=k
  ·have e':q.1=k:=h1.symm.trans e
   have b:atKey (q :: qs) k=some q.2:=by simp [atKey,Td,e']
   rw[jD e,b];exact h2
  ·have e':¬q.1=k:=λz=>e (h1.trans z)
   have b:atKey (q :: qs) k=atKey qs k:=by simp [atKey,Td,e']
   rw[jM e,b];exact ih
theorem KT.FH {H:Hp} {kvs:List (List Key × V)} {xs:List (List Key × Addr × Lo)} (r:KT H kvs xs) (k:List Key) {y:V} {u:Lo} (ry:RelV y u) :
  KT H (kvs.map λkv=>if kv.1=k then (kv.1,y) else kv) (xs.map (putAt k u)):=by
 induction r with
 | nil=>exact .nil
 | @cons p q ps qs h t ih=>
  rw[LR,LR]
  refine .cons ?_ ih
  obtain⟨h1,h2,h3⟩:=h
  unfold putAt
  by_cases e:p.1=k
  ·rw[if_pos e,if_pos (h1.symm.trans e)];exact⟨h1,h2,ry⟩
  ·rw[if_neg e,if_neg (λz=>e (h1.trans z))];exact⟨h1,h2,h3⟩
theorem KT.put {H:Hp} {kvs:List (List Key × V)} {xs:List (List Key × Addr × Lo)} (r:KT H kvs xs) (k:List Key) {b:Addr} {y:V} {u:Lo} (hb:H b=some (.tup (k.map kV))) (ry:RelV y u) :
  KT H (putK kvs k y) (storedH xs k b u):=by
 have e:(kvs.any λkv=>decide (kv.1=k))=(atKey xs k).isSome:=by
  rw[gk,(r.val k).yT,OI]
 unfold putK storedH
 rw[e]
 by_cases q:(atKey xs k).isSome=true
 ·rw[if_pos q,if_pos q];exact r.FH k ry
 ·rw[if_neg q,if_neg q];exact Paired.snoc r ⟨rfl,hb,ry⟩
theorem KT.keeps {H H':Hp} {kvs:List (List Key × V)} {xs:List (List Key × Addr × Lo)} (r:KT H kvs xs) (ht:∀b ys,H b=some (.tup ys)→H' b=some (.tup ys)):KT H' kvs xs:=
 Paired.WO r λ_ _ z=>⟨z.1,ht _ _ z.2.1,z.2.2⟩
section
variable {P:LH} {w:Sz} {H:Hp} {h:Heap} {a:Addr}
theorem Bl {u:HO} (ok:fJ P w H h) (e:Rd H a u):qE P w H h a u:=e.ok ok
theorem rq {kvs:List (Key × V)} (ok:fJ P w H h) (e:Rd H a (.dK kvs)):kvs.length≤LI∧(a == ND)=false∧∃vs,KV kvs vs∧h.DictOf (qS P w) a vs:=
 show qE P w H h a (.dK kvs) from Bl ok e
theorem XB {kvs:List (Key × V)} (ok:fJ P w H h) (e:H a=some (.dK kvs)):kvs.length≤LI∧(a == ND)=false∧∃vs,KV kvs vs∧h.DictOf (qS P w) a vs:=rq ok (.inl e)
theorem mD {ks:List Key} (ok:fJ P w H h) (e:H a=some (.tup (ks.map kV))):(OG (qS P w)).is h ks a:=by
 obtain⟨_,its,r,o,h1,h2,n,h3⟩:=(show qE P w H h a (.tup (ks.map kV)) from ok a _ e)
 exact⟨o,its.toArray,n,h1,h2,h3,by simpa using iA r⟩
theorem sE {kvs:List (List Key × V)} (ok:fJ P w H h) (e:Rd H a (.dT kvs)):kvs.length≤LI∧(a == ND)=false∧
  ∃xs,KT H kvs xs∧h.DictOfH (OG (qS P w)) a xs:=by
 obtain⟨z,y,xs,r,o,es,ep,h1,h2,h3,h4,h5⟩:=(show qE P w H h a (.dT kvs) from Bl ok e)
 refine⟨z,y,xs,r,o,es,ep,h1,h2,h3,h4,λx hx=>?_,h5⟩
 have all:∀{l:List (List Key × V)} {m:List (List Key × Addr × Lo)},KT H l m→∀x∈m,(OG (qS P w)).is h x.1 x.2.1:=by
  intro l m q
  induction q with
  | nil=>intro x hx;exact nomatch hx
  | @cons p q ps qs hq t ih=>
   intro x hx
   rcases La.mp hx with e | hx
   ·subst e
    exact mD ok (by rw[←hq.1];exact hq.2.1)
   ·exact ih x hx
 exact all r x hx
theorem MB {kvs:List (List Key × V)} (ok:fJ P w H h) (e:H a=some (.dT kvs)):kvs.length≤LI∧(a == ND)=false∧
  ∃xs,KT H kvs xs∧h.DictOfH (OG (qS P w)) a xs:=sE ok (.inl e)
end
def jC (H:Hp) (a:Addr) (y:V) (r:Option V):Prop:=
 (∃kvs k,Rd H a (.dK kvs)∧y=kV k∧r=j9 kvs k)∨∃kvs k b,Rd H a (.dT kvs)∧y=.ref b∧H b=some (.tup (k.map kV))∧r=j9 kvs k
def Ks (H:Hp) (a:Addr) (y v:V) (H':Hp):Prop:=
 (∃kvs k,H a=some (.dK kvs)∧y=kV k∧kvs.length < LI∧H'=upd H a (.dK (putK kvs k v)))∨
 ∃kvs k b,H a=some (.dT kvs)∧y=.ref b∧H b=some (.tup (k.map kV))∧kvs.length < LI∧H'=upd H a (.dT (putK kvs k v))
theorem jC.k {H:Hp} {a:Addr} {kvs:List (Key × V)} {k:Key} (e:H a=some (.dK kvs)):jC H a (kV k) (j9 kvs k):=.inl ⟨kvs,k,.inl e,rfl,rfl⟩
theorem Ks.k {H:Hp} {a:Addr} {kvs:List (Key × V)} {k:Key} {v:V} (e:H a=some (.dK kvs)) (hl:kvs.length < LI):Ks H a (kV k) v (upd H a (.dK (putK kvs k v))):=.inl ⟨kvs,k,e,rfl,hl,rfl⟩
section
variable {X:Cx} {pins:List (Addr × Obj)} {σ:St} {H:Hp} {s:LZ} {a:Addr} {y v:V} {u r:Lo} {o:Option V} {A:SO} {E:Lo→LZ→Prop}
theorem Inv.big (I:Inv X pins σ H s):ND < s.heap.objs.size:=by
 have h:TM < s.heap.objs.size:=(I.mod.glob.keeps I.bk).lt
 exact A2 (by decide) h
theorem KW {Q:Lo→LZ→Prop} (hu:A.units + 1 < cLine) (I:Inv X pins σ H s) (g:jC H a y (some v)) (ry:RelV y u) (h:∀w' s',Inv X pins σ H s'→RelV v w'→Q w' s') :
  Sv (L9 X.prog X.w) A (getItem (.ref a) u) Q E s:=by
 rcases g with ⟨kvs,k,e,ey,l⟩ | ⟨kvs,k,b,e,ey,eb,l⟩
 ·subst ey
  obtain⟨z,hd,vs,rel,dd⟩:=rq I.qx e
  obtain⟨w',hw,rw'⟩:=gv.some_of (v:=v) (o:=valueAt vs k) (by rw[l];exact rel.val k)
  exact wpAny_getItem_of (tH ry) dd.mapOf hw (h w' _ (I.tok _) rw')
 ·subst ey
  cases (show u=SU b from ry)
  obtain⟨z,hd,xs,rel,dd⟩:=sE I.qx e
  obtain⟨w',hw,rw'⟩:=gv.some_of (v:=v) (o:=(atKey xs k).map (·.2)) (by rw[l];exact rel.val k)
  obtain⟨p,hp,hp2⟩:=Option.map_eq_some_iff.mp hw
  refine wpAny_getItem_heap (T7 hu) (mD I.qx eb) dd hp ?_
  rw[hp2]
  exact h w' _ (I.tok _) rw'
theorem Ci {Q:Lo→LZ→Prop} (hu:A.units + 1 < cLine) (I:Inv X pins σ H s) (g:jC H a y o) (ry:RelV y u) (h:∀s',Inv X pins σ H s'→Q (.bool o.isSome) s') :
  Sv (L9 X.prog X.w) A (S9 .In u (.ref a)) Q E s:=by
 rcases g with ⟨kvs,k,e,ey,l⟩ | ⟨kvs,k,b,e,ey,eb,l⟩
 ·subst ey
  obtain⟨z,hd,vs,rel,dd⟩:=rq I.qx e
  refine wpAny_in_of (tH ry) hd dd.mapOf ?_
  rw[←(rel.val k).yT,←l]
  exact h _ (I.tok _)
 ·subst ey
  cases (show u=SU b from ry)
  obtain⟨z,hd,xs,rel,dd⟩:=sE I.qx e
  refine wpAny_in_heap (T7 hu) (mD I.qx eb) hd dd ?_
  have q:=(rel.val k).yT
  rw[OI] at q
  rw[←q,←l]
  exact h _ (I.tok _)
theorem GG {Q:Lo→LZ→Prop} (hu:A.units + 1 < cLine) (I:Inv X pins σ H s) (g:jC H a y o) (ry:RelV y u) (h:∀s',Inv X pins σ H s'→Q (.bool (!o.isSome)) s') :
  Sv (L9 X.prog X.w) A (S9 .NotIn u (.ref a)) Q E s:=by
 rcases g with ⟨kvs,k,e,ey,l⟩ | ⟨kvs,k,b,e,ey,eb,l⟩
 ·subst ey
  obtain⟨z,hd,vs,rel,dd⟩:=rq I.qx e
  refine wpAny_notIn_of (tH ry) hd dd.mapOf ?_
  rw[←(rel.val k).yT,←l]
  exact h _ (I.tok _)
 ·subst ey
  cases (show u=SU b from ry)
  obtain⟨z,hd,xs,rel,dd⟩:=sE I.qx e
  refine wpAny_notIn_heap (T7 hu) (mD I.qx eb) hd dd ?_
  have q:=(rel.val k).yT
  rw[OI] at q
  rw[←q,←l]
  exact h _ (I.tok _)
theorem XJ {h':Heap} {t':Nat} {ob:HO} (I:Inv X pins σ H s) (mu:Mt (H a)) (hs:OV a s.heap h') (he:∃q,h'.get? a=some q) (new:qE X.prog X.w (upd H a ob) h' a ob) :
  Inv X pins σ (upd H a ob) { s with heap:=h',toks:=t' }:=
 I.write (x:=a) (e:=a) mu (.inl rfl) (λb q hb z=>(hs.2 b hb).trans z) he new
theorem Wf {P:LH} {w:Sz} {H':Hp} {h':Heap} {kvs:List (Key × V)} {vs:List (Key × Lo)} (z:kvs.length≤LI) (hd:(a == ND)=false) (rel:KV kvs vs) (dd:h'.DictOf (qS P w) a vs) :
  qE P w H' h' a (.dK kvs):=⟨z,hd,vs,rel,dd⟩
theorem KY {H':Hp} {Q:Unit→LZ→Prop} (hu:A.units + 1 < cLine) (I:Inv X pins σ H s) (g:Ks H a y v H') (ry:RelV y u) (rv:RelV v r) (h:∀s',Inv X pins σ H' s'→Q () s') :
  Sv (L9 X.prog X.w) A (setItem (.ref a) u r) Q E s:=by
 rcases g with ⟨kvs,k,e,ey,l,eH⟩ | ⟨kvs,k,b,e,ey,eb,l,eH⟩
 ·subst ey eH
  obtain⟨z,hd,vs,rel,dd⟩:=XB I.qx e
  have hz:vs.length≤LI:=by rw[←rel.length];exact z
  have hl:(putK kvs k v).length≤LI:=by have:=rk kvs k v;omega
  refine wpAny_setItem_pairs (hsz:=hz) (tH ry) dd λh' dd' hs=>h _ ?_
  have he:∃q,h'.get? a=some q:=let ⟨q,_,_,hq,_⟩:=dd';⟨q,hq⟩
  exact XJ I (by rw[e];exact Tz) hs he (Wf hl hd (rel.put k rv) dd')
 ·subst ey eH
  cases (show u=SU b from ry)
  obtain⟨z,hd,xs,rel,dd⟩:=MB I.qx e
  have hz:xs.length≤LI:=by rw[←SW rel];exact z
  have hl:(putK kvs k v).length≤LI:=by have:=rk kvs k v;omega
  refine wpAny_setItem_heap (hsz:=hz) (T7 hu) (mD I.qx eb) dd λh' dd' hs=>h _ ?_
  obtain⟨q,es,ep,hq,h2,h3,h4,_,h5⟩:=dd'
  refine XJ I (by rw[e];exact Tz) hs ⟨q,hq⟩ ⟨hl,hd,_,(rel.put k eb rv).keeps λc ys ec=>?_,q,es,ep,hq,h2,h3,h4,h5⟩
  rw[zP (fM ec e (λz=>nomatch z))]
  exact ec
end
section
variable {X:Cx} {pins:List (Addr × Obj)} {σ:St} {H:Hp} {s:LZ} {a:Addr} {kvs:List (Key × V)} {k:Key} {u:Lo} {A:SO} {E:Lo→LZ→Prop}
end
def Mo (i:Expr):Prop:=∀ov iv,subscripted i false ov iv=operate [ov,iv] (getItem ov iv)
theorem HW {prog:LH} {w:Sz} {A:SO} {E:Lo→LZ→Prop} {s:LZ} {env:Env} {value slice:Expr} {pos:Pos} {T id:String} {Q:Lo→LZ→Prop}
  (hl:typeLookup (.type T) "__getitem__" = pure (some (.builtin id))) (hs:Mo slice)
  (h:Sv (L9 prog w) A (eval value env) (λo s₁=>Sv (L9 prog w) A (eval slice env) (λi s₂=>s₂.TypeIs o T∧Sv (L9 prog w) A (getItem o i) Q E s₂) E s₁) E s) :
  Sv (L9 prog w) A (eval (.Subscript value slice pos) env) Q E s:=by
 refine Subscript_ (SS h (λo s₁ h₁=>SS h₁ (λi s₂ h₂=>?_) λ_ _ x=>x) λ_ _ x=>x)
 obtain⟨hT,h₂⟩:=h₂
 unfold subscriptTail
 refine L1 ?_
 rw[getitemInPython_of_ne hT.not_modules]
 refine L1 (wpAny_specialOf hT hl ?_)
 have fin:Sv (L9 prog w) A (subscripted slice false o i) (λr s₃=>Sv (L9 prog w) A (letTemporaryGo value o r >>= λ_=>pure r) Q E s₃) E s₂:=by
  rw[hs o i]
  exact wpAny_operating (SS h₂ (λr s₃ h₃=>L1 (wpAny_letTemporaryGo (Sn h₃))) λ_ _ x=>x)
 first
  | exact Sn (L1 fin)
  | exact L1 (Sn (L1 fin))
  | exact L1 fin
theorem Qq {X:Cx} {pins:List (Addr × Obj)} {σ:St} {H:Hp} {s:LZ} {a:Addr} {y:V} {o:Option V} (I:Inv X pins σ H s) (g:jC H a y o):s.TypeIs (.ref a) "dict":=by
 rcases g with ⟨kvs,k,e,_,_⟩ | ⟨kvs,k,b,e,_,_,_⟩
 ·obtain⟨_,_,vs,_,dd⟩:=rq I.qx e
  exact dd.typeIs
 ·obtain⟨_,_,xs,_,dd⟩:=sE I.qx e
  exact dd.typeIs
def Y6 (td ty:TE):TE:=λσ H Q=>td σ H λx H1=>ty σ H1 λy H2=>∃a v,x=.ref a∧jC H2 a y (some v)∧Q v H2
def Uj (ty td:TE):TE:=λσ H Q=>ty σ H λy H1=>td σ H1 λx H2=>∃a o,x=.ref a∧jC H2 a y o∧Q (.bl o.isSome) H2
def HG (ty td:TE):TE:=λσ H Q=>ty σ H λy H1=>td σ H1 λx H2=>∃a o,x=.ref a∧jC H2 a y o∧Q (.bl (!o.isSome)) H2
def UT (td ty tv:TE):TS:=λD σ H=>tv σ H λv H1=>td σ H1 λx H2=>ty σ H2 λy H3=>∃a H4,x=.ref a∧Ks H3 a y v H4∧D.nx σ H4
def UL (td ty tv:TE) (rd:V→V→Hp→VK→Prop):TS:=λD σ H=>td σ H λx H1=>ty σ H1 λy H2=>∃a v,x=.ref a∧jC H2 a y (some v)∧
 tv σ H2 λy2 H3=>rd v y2 H3 λz H4=>∃H5,Ks H4 a y z H5∧D.nx σ H5
def US (td ty:TE):TS:=λD σ H=>td σ H λx H1=>ty σ H1 λy H2=>∃a kvs k,x=.ref a∧H2 a=some (.dK kvs)∧y=kV k∧(j9 kvs k).isSome=true∧D.nx σ (upd H2 a (.dK (Wu kvs k)))
section
variable {X:Cx} {o i e value:Expr} {pos pos' tpos:Pos} {td ty tv:TE}
theorem qG (hu:X.A.units + 1 < cLine) (ho:PE X o td) (hi:PE X i ty) (hs:Mo i):PE X (.Subscript o i pos) (Y6 td ty):=by
 intro pins s σ H Q I h
 refine HW PySem.F.slot_dict_getitem.lookup hs (qC (ho pins s σ H _ I h) λu s1 ⟨x,H1,I1,rx,q1⟩=>qC (hi pins s1 σ H1 _ I1 q1) λiv s2 ⟨y,H2,I2,ry,a,v,ex,g,q2⟩=>?_)
 subst ex
 obtain rfl:u=SU a:=rx
 exact⟨Qq I2 g,KW hu I2 g ry λw' s3 I3 rw'=>⟨v,H2,I3,rw',q2⟩⟩
theorem JO (hu:X.A.units + 1 < cLine) (hi:PE X i ty) (ho:PE X o td):PC X .In i o (Uj ty td):=by
 intro pins s σ H Q I h
 refine qC (hi pins s σ H _ I h) λiv s1 ⟨y,H1,I1,ry,q1⟩=>qC (ho pins s1 σ H1 _ I1 q1) λu s2 ⟨x,H2,I2,rx,a,ov,ex,g,q2⟩=>?_
 subst ex
 obtain rfl:u=SU a:=rx
 exact Ci hu I2 g ry λs3 I3=>⟨.bl ov.isSome,H2,I3,rfl,q2⟩
theorem eh (hu:X.A.units + 1 < cLine) (hi:PE X i ty) (ho:PE X o td):PC X .NotIn i o (HG ty td):=by
 intro pins s σ H Q I h
 refine qC (hi pins s σ H _ I h) λiv s1 ⟨y,H1,I1,ry,q1⟩=>qC (ho pins s1 σ H1 _ I1 q1) λu s2 ⟨x,H2,I2,rx,a,ov,ex,g,q2⟩=>?_
 subst ex
 obtain rfl:u=SU a:=rx
 exact GG hu I2 g ry λs3 I3=>⟨.bl (!ov.isSome),H2,I3,rfl,q2⟩
end
theorem Wb {P:LH} {w:Sz} {H:Hp} (h:Heap) (hb:ND < h.objs.size):qE P w H (h.push { cls:=.type "dict",data:=.dict #[] }) h.objs.size (.dK []):=
 ⟨Sy _,beq_eq_false_iff_ne.mpr (SF (SJ hb)),[],.nil,zzY h⟩
def F0:TE:=λ_ H Q=>∀p,H p=none→Q (.ref p) (upd H p (.dK []))
def Ux:TE:=λ_ H Q=>∀p,H p=none→Q (.ref p) (upd H p (.dT []))
section
variable {X:Cx} {pos:Pos}
theorem Ym:PE X (.Dict [] [] pos) F0:=λpins s σ H Q I h=>
 wpAny_Dict_empty ⟨.ref s.heap.objs.size,_,I.laid (a:=s.heap.objs.size) (o:=.dK []) (t':=s.toks) (λ_ _ q=>LB _ q) (LF _) (Wb s.heap I.big),rfl,h _ (I.qx.fresh (LF _))⟩
end
def Xd:List (TE × TE)→St→Hp→(List (V × V)→Hp→Prop)→Prop
 | [],_,H,Q=>Q [] H
 | (tk,tv) :: r,σ,H,Q=>tk σ H λx H1=>tv σ H1 λy H2=>Xd r σ H2 λps H3=>Q ((x,y) :: ps) H3
abbrev VV:List (V × V)→List (Lo × Lo)→Prop:=Paired λp q=>RelV p.1 q.1∧RelV p.2 q.2
def Lv (X:Cx) (pos:Pos) (keys:List (Option Expr)) (values:List Expr) (trs:List (TE × TE)):Prop:=
 ∀(pins:List (Addr × Obj)) (s:LZ) (σ:St) (H:Hp) (Q:List (V × V)→Hp→Prop),Inv X pins σ H s→Xd trs σ H Q→
  Sv (L9 X.prog X.w) X.A (evalPairs (pairTrees keys values X.env pos)) (λvs s'=>∃ps H',Inv X pins σ H' s'∧VV ps vs∧Q ps H') X.xe s
noncomputable def PD (kvs more:List (Key × V)):List (Key × V):=more.foldl (λacc kv=>putK acc kv.1 kv.2) kvs
def U2 (trs:List (TE × TE)):TE:=λσ H Q=>∀p,H p=none→Xd trs σ (upd H p (.dK [])) λps H2=>H2 p=some (.dK [])∧∃kvs:List (Key × V),ps=kvs.map (λkv=>(kV kv.1,kv.2))∧kvs.length≤15∧Q (.ref p) (upd H2 p (.dK (PD [] kvs)))
structure M1 (X:Cx) (o:Expr) (m:Str) (apos:Pos) (e:Expr) (cpos:Pos):Prop where
 base:Ny o m X.env (eval o X.env)=eval o X.env
 ai:((backTo cpos (Sg [e] X.env)).all (λx=>!x.1) && (NC cpos (TC [] X.env)).all (λx=>x.1.isSome)
  && decide (([e]:List Expr).length + ([]:List Keyword).length + (if ([]:List Keyword).isEmpty then 0 else 1) < 30))=true
 line:(apos.endLine == cpos.line)=true
 trees:backTo cpos (Sg [e] X.env)=[(false,eval e X.env)]
structure M2 (X:Cx) (o:Expr) (m:Str) (apos:Pos) (e f:Expr) (cpos:Pos):Prop where
 base:Ny o m X.env (eval o X.env)=eval o X.env
 ai:((backTo cpos (Sg [e,f] X.env)).all (λx=>!x.1) && (NC cpos (TC [] X.env)).all (λx=>x.1.isSome)
  && decide (([e,f]:List Expr).length + ([]:List Keyword).length + (if ([]:List Keyword).isEmpty then 0 else 1) < 30))=true
 line:(apos.endLine == cpos.line)=true
 trees:backTo cpos (Sg [e,f] X.env)=[(false,eval e X.env),(false,eval f X.env)]
def D3 (H:Hp) (a:Addr):Prop:=(∃kvs,Rd H a (.dK kvs))∨∃kvs,Rd H a (.dT kvs)
section
variable {X:Cx} {pins:List (Addr × Obj)} {σ:St} {H:Hp} {s:LZ} {a:Addr} {y d:V} {u r:Lo} {o:Option V} {A:SO} {E:Lo→LZ→Prop}
theorem Pw {Q:Lo→LZ→Prop} (hu:A.units + 1 < cLine) (I:Inv X pins σ H s) (g:jC H a y o) (ry:RelV y u) (h:∀w' s',Inv X pins σ H s'→RelV (o.getD .non) w'→Q w' s') :
  Sv (L9 X.prog X.w) A (call (.builtin "dict.get") [.ref a,u]) Q E s:=by
 rcases g with ⟨kvs,k,e,ey,l⟩ | ⟨kvs,k,b,e,ey,eb,l⟩
 ·subst ey
  obtain⟨z,hd,vs,rel,dd⟩:=rq I.qx e
  refine call_meetsIn TK dd.typeIs Nn (O7 _ _) (meets_dict_get (qS X.prog X.w) a (tH ry) hd) ⟨_,dd.mapOf,h _ _ (I.tok _) ?_⟩
  rw[l]
  exact(rel.val k).getD rfl
 ·subst ey
  cases (show u=SU b from ry)
  obtain⟨z,hd,xs,rel,dd⟩:=sE I.qx e
  refine call_meetsIn TK dd.typeIs Nn (O7 _ _) (meetsH_dict_get (OG (qS X.prog X.w)) a b hd) ⟨T7 hu,k,xs,mD I.qx eb,dd,h _ _ (I.tok _) ?_⟩
  rw[l]
  exact(rel.val k).getD rfl
theorem Py {Q:Lo→LZ→Prop} (hu:A.units + 1 < cLine) (I:Inv X pins σ H s) (g:jC H a y o) (ry:RelV y u) (rd:RelV d r) (h:∀w' s',Inv X pins σ H s'→RelV (o.getD d) w'→Q w' s') :
  Sv (L9 X.prog X.w) A (call (.builtin "dict.get") [.ref a,u,r]) Q E s:=by
 rcases g with ⟨kvs,k,e,ey,l⟩ | ⟨kvs,k,b,e,ey,eb,l⟩
 ·subst ey
  obtain⟨z,hd,vs,rel,dd⟩:=rq I.qx e
  refine call_meetsIn TK dd.typeIs Nn (O8 _ _ _) (meets_dict_get_default (qS X.prog X.w) a (tH ry) hd r) ⟨_,dd.mapOf,h _ _ (I.tok _) ?_⟩
  rw[l]
  exact(rel.val k).getD rd
 ·subst ey
  cases (show u=SU b from ry)
  obtain⟨z,hd,xs,rel,dd⟩:=sE I.qx e
  refine call_meetsIn TK dd.typeIs Nn (O8 _ _ _) (meetsH_dict_get_default (OG (qS X.prog X.w)) a b hd r) ⟨T7 hu,k,xs,mD I.qx eb,dd,h _ _ (I.tok _) ?_⟩
  rw[l]
  exact(rel.val k).getD rd
end
def Uz (td ty:TE):TE:=λσ H Q=>td σ H λx H1=>∃a,x=.ref a∧D3 H1 a∧ty σ H1 λy H2=>∃o,jC H2 a y o∧Q (o.getD .non) H2
def Uq (td ty tx:TE):TE:=λσ H Q=>td σ H λx H1=>∃a,x=.ref a∧D3 H1 a∧ty σ H1 λy H2=>tx σ H2 λz H3=>∃o,jC H3 a y o∧Q (o.getD z) H3
def Uk (td ty:TE):TE:=λσ H Q=>td σ H λx H1=>∃a,x=.ref a∧D3 H1 a∧ty σ H1 λy H2=>∃kvs k v,H2 a=some (.dK kvs)∧y=kV k∧j9 kvs k=some v∧Q v (upd H2 a (.dK (Wu kvs k)))
def Uv (td ty tx:TE):TE:=λσ H Q=>td σ H λx H1=>∃a,x=.ref a∧D3 H1 a∧ty σ H1 λy H2=>tx σ H2 λz H3=>∃kvs k,H3 a=some (.dK kvs)∧y=kV k∧
 (∀v,j9 kvs k=some v→Q v (upd H3 a (.dK (Wu kvs k))))∧(j9 kvs k=none→Q z H3)
section
variable {X:Cx} {o e f:Expr} {apos cpos:Pos} {td ty tx:TE}
end
section
variable {X:Cx} {pins:List (Addr × Obj)} {σ:St} {H:Hp} {s:LZ} {a:Addr} {kvs:List (Key × V)} {A:SO} {E:Lo→LZ→Prop}
theorem Wy {Q:Lo→LZ→Prop} (I:Inv X pins σ H s) (e:Rd H a (.dK kvs)) (h:∀p s',H p=none→Inv X pins σ (upd H p (.dK kvs)) s'→Q (.ref p) s'):Sv (L9 X.prog X.w) A (call (.type "dict") [.ref a]) Q E s:=by
 obtain⟨z,hd,vs,rel,dd⟩:=rq I.qx e
 refine kt_call_dict hd dd (by rw[←rel.length];exact z) λh' dd' hs=>?_
 refine h _ _ (I.qx.fresh (LF _)) (I.laid (a:=s.heap.objs.size) (o:=.dK kvs) (t':=s.toks) (λb q hq=>?_) (LF _) (Wf z (beq_eq_false_iff_ne.mpr (SF (SJ I.big))) rel dd'))
 exact(hs.2 b (SJ (L0 hq))).trans (LB _ hq)
end
section
variable {X:Cx} {pins:List (Addr × Obj)} {σ:St} {H:Hp} {s:LZ} {a:Addr} {y:V} {u:Lo} {A:SO} {E:Lo→LZ→Prop}
end
end L2
namespace L2
open PySem PySem.Spec PyProof.Rows
section
variable {X:Cx}
end
section
variable {κ:Type} [DecidableEq κ]
theorem X9:∀{l:List κ} {k:κ},l.Nodup→¬k∈l→(l ++ [k]).Nodup
 | [],k,_,_=>by simp
 | a :: r,k,h,hk=>by
  obtain⟨h1,h2⟩:=Sq.mp h
  show (a :: (r ++ [k])).Nodup
  refine Sq.mpr ⟨λm=>?_,X9 h2 λm=>hk (La.mpr (IP m))⟩
  rcases LU.mp m with q | q
  ·exact h1 q
  ·exact hk (La.mpr (LL (LW.mp q).symm))
end
end L2
namespace L2
open PySem PySem.Spec PyProof.Rows
section
variable {X:Cx}
theorem cw {pos:Pos}:PE X (.Dict [] [] pos) (λ_ H Q=>Nw H (.dK []) Q):=Ym.mono λ_ _ _ q=>q.el
theorem gW:xF X (.type "dict") (λxs H Q=>∃a kvs,xs=[.ref a]∧H a=some (.dK kvs)∧Nw H (.dK kvs) Q):=by
 intro pins s σ H xs us Q I r h
 obtain⟨a,kvs,rfl,e,q⟩:=h
 obtain⟨u,rfl,ru⟩:=vals1 r
 cases ru
 exact Wy I (.inl e) λp s' hp I'=>⟨.ref p,_,I',rfl,q.el p hp⟩
theorem W6 (hu:X.A.units + 1 < cLine):eL X "dict.get" (λx vs H Q=>∃a kvs k z,x=.ref a∧vs=[kV k,z]∧H a=some (.dK kvs)∧Q ((j9 kvs k).getD z) H):=by
 intro pins s σ H x vs v us Q I rx rv h
 obtain⟨a,kvs,k,z,rfl,rfl,e,q⟩:=h
 cases rx
 obtain⟨u,u',rfl,r1,r2⟩:=vals2 rv
 exact Py hu I (jC.k e) r1 r2 λw' s' I' rw'=>⟨_,H,I',rw',q⟩
theorem W5 (hu:X.A.units + 1 < cLine):eL X "dict.get" (λx vs H Q=>∃a kvs k,x=.ref a∧vs=[kV k]∧H a=some (.dK kvs)∧Q ((j9 kvs k).getD .non) H):=by
 intro pins s σ H x vs v us Q I rx rv h
 obtain⟨a,kvs,k,rfl,rfl,e,q⟩:=h
 cases rx
 obtain⟨u,rfl,r1⟩:=vals1 rv
 exact Pw hu I (jC.k e) r1 λw' s' I' rw'=>⟨_,H,I',rw',q⟩
theorem je (hu:X.A.units + 1 < cLine):Gr X (λo i v H Q=>∃a kvs k,o=.ref a∧i=kV k∧H a=some (.dK kvs)∧kvs.length < LI∧Ch H a (.dK (putK kvs k v)) Q):=by
 intro pins s σ H o i v ov iv u Q I ro ri rv h
 obtain⟨a,kvs,k,rfl,rfl,e,l,q⟩:=h
 cases ro
 exact KY hu I (Ks.k e l) ri rv λs' I'=>⟨_,I',q.el⟩
end
end L2
namespace L2
open PyProof.Rows PySem PySem.Spec
theorem VW (v:Lo):checkTypeCall "set" ⟨[v],[]⟩=pure ():=by kernel_rfl
theorem YY (v:Lo):Ob "set.__new__" ⟨[.type "set",v],[]⟩=pure ():=by kernel_rfl
theorem P0:isSubtype (.type "list") (.type "set")=pure false:=by rw[isSubtype_type];kernel_rfl
theorem Hk:isSubtype (.type "list") (.type "frozenset")=pure false:=by rw[isSubtype_type];kernel_rfl
theorem Q4:entryFor table "set.update.loop" = some Builtin.«set.update.loop»:=entryFor_of_tree (by kernel_rfl)
section
variable {w:Sz} {A:SO} {E:Lo→LZ→Prop} {s:LZ} {prog:LH}
theorem VX {v:Lo} {Q₁:Lo→LZ→Prop} (h:∀led:Bool,Q₁ (.ref s.heap.objs.size) { s with heap:=s.heap.push { cls:=.type "set",dict:=none,data:=.set #[] 0 (.fresh 0 0 led) } }):NH (L9 prog w) A (.call (.builtin "set.__new__") ⟨[.type "set",v],[]⟩) (wants Q₁ E) s:=by
 refine Aj ?_
 show Sv _ A.in1 (do Ob "set.__new__" ⟨[.type "set",v],[]⟩;again (.builtin "set.__new__" ⟨[.type "set",v],[]⟩)) _ _ s
 refine L1 (wpAny_of_eq (YY v) (Sn ⟨plainId_quiet Ax _,Oa F.entry_set_new ?_⟩))
 (rw[Around.under_plainId Ax _])
 have hsub:=sub_set_self
 (obtain⟨hp,g,d,tk,os⟩:=s)
 unfold Builtin.«set.__new__» Af;dsimp only
 wp_walk
 refine wpAny_askSetting (Sn ?_);dsimp only;simp only[newObj]
 exact L1 (wpAny_alloc (Sn (Sn (h _))))
theorem Xj {M:Model} {self v:Lo} {Q:Unit→LZ→Prop} (hT:s.TypeIs self "set") (hQ:Q () s):Sv M A (Ob "set.__init__" ⟨[self,v],[]⟩) Q E s:=by
 simp only[Ob,kind_set_init,split_set_init,sig_set_init];refine L1 (E2 hT sub_set_self ?_)
 simp only[Bool.not_true,Bool.false_eq_true,if_false];unfold Bind.checkArgs;dsimp only
 refine L1 (m:=A3 "set" true _ _) (AZ (by decide) (L1 (m:=A3 "*" false _ _) (AQ (self:=self) rfl hT λshort=>?_)))
 (have hrn:(Ic == Iu)=false:=by decide)
 rw[show (if (Ic == Iu)=true then [self,v].length else [self,v].length - 1)=1 by simp [hrn]]
 simp only[S7]
 rw[show zze ⟨.positional,"set","*",.self,[⟨"iterable",.posOnly,false⟩]⟩ "set" short 1 []=pure () by (simp [zze,Bind.checkCount,Bind.isPositional];intro z;exact absurd z (by decide))]
 exact Sn hQ
end
noncomputable def Z9:List Str→List Str→Nat
 | _,[]=>0
 | seen,z :: r=>(if z∈seen then 0 else 1) + Z9 (z :: seen) r
section
variable {w:Sz} {A:SO} {E:Lo→LZ→Prop} {prog:LH}
theorem Xx {K:Type} [DecidableEq K] {knd:KeyKind prog w K} {h h':Heap} {a it:Addr} {S:K→Bool} {n:Nat} (x:Of knd h a S n) (hb:OV it h h') (hne:a≠it):Of knd h' a S n:=by
 obtain⟨o,es,ep,t,ho,r⟩:=x
 exact⟨o,es,ep,t,(hb.2 a hne).trans ho,r⟩
theorem YG {K:Type} [DecidableEq K] {knd:KeyKind prog w K} {h:Heap} {a:Addr} {S S':K→Bool} {n:Nat} (x:Of knd h a S n) (e:∀y,S' y=S y):Of knd h a S' n:=by
 have:S'=S:=funext e
 rw[this];exact x
theorem YH {a it l:Addr} {items:Array Lo} (hh:A.handled=none) (hia:it≠a) (hli:l≠it) (hla:l≠a):∀(rest:List Str) (i:Nat) (s:LZ) (seen:List Str) (n:Nat) (R:Result→LZ→Prop),s.heap.IsListIter it l i→s.heap.IsList l items→items.size=i + rest.length→(∀(j:Nat) (z:Str),rest[j]?=some z→∃t,items[i + j]?=some (.str z t))→
  s.heap.SetOf (strKind prog w) a (λy=>decide (y∈seen)) n→n + rest.length < 1000→
  (∀h' tk S',(∀b o,b≠it→b≠a→s.heap.get? b=some o→h'.get? b=some o)→h'.SetOf (strKind prog w) a S' (n + Z9 seen rest)→R (.ok (.ret .none)) { s with heap:=h',toks:=tk })→
  NH (L9 prog w) A (.builtin "set.update.loop" ⟨[.ref a,.ref it],[]⟩) R s:=by
 intro rest
 induction rest with
 | nil=>
  intro i s seen n R h1 h2 h3 h4 h5 h6 k
  refine Oa Q4 ?_
  show Sv _ _ (pyNext (.ref it) >>= _) _ _ s
  refine L1 (IK ?_ h1 h2 (by rw[Array.getElem?_eq_none_iff];simp at h3;omega) λh' hx=>?_)
  ·exact hh
  ·refine Sn (k h' s.toks (λy=>decide (y∈seen)) (λb o hb _ e=>hx b o hb e) ?_)
   obtain⟨o,es,ep,t,ho,q⟩:=h5
   exact⟨o,es,ep,t,hx _ _ (SF hia) ho,q⟩
 | cons z r ih=>
  intro i s seen n R h1 h2 h3 h4 h5 h6 k
  obtain⟨t,ht⟩:=h4 0 z rfl
  refine Oa Q4 ?_
  show Sv _ _ (pyNext (.ref it) >>= _) _ _ s
  refine L1 (Iw h1 h2 ht λh' hi' hb=>?_)
  dsimp only
  unfold setAdd
  refine L1 (Om (Om (L1 ((strKind prog w).pyHash (strKind_is prog w z t) ?_))))
  have h5':=Xx h5 hb (SF hia)
  have hl':h'.IsList l items:=by
   obtain⟨o,ho,q⟩:=h2
   exact⟨o,(hb.2 l hli).trans ho,q⟩
  refine wpAny_setAddHashed_of (s:={ s with heap:=h',toks:=s.toks + 1 }) (strKind_is prog w z t) rfl h5' (by simp only[LQ] at h6;unfold scanBound;omega) λh2' hb2 h52=>?_
  refine Sn ⟨Es _ (by decide +kernel),?_⟩
  have hl2:h2'.IsList l items:=by
   obtain⟨o,ho,q⟩:=hl'
   exact⟨o,(hb2.2 l hla).trans ho,q⟩
  have hi2:h2'.IsListIter it l (i + 1):=by
   obtain⟨o,ho,q⟩:=hi'
   exact⟨o,(hb2.2 it hia).trans ho,q⟩
  have h53:h2'.SetOf (strKind prog w) a (λy=>decide (y∈z :: seen)) (n + if z∈seen then 0 else 1):=by
   have e:(if decide (z∈seen)=true then n else n + 1)=n + if z∈seen then 0 else 1:=by by_cases q:z∈seen<;>simp [q]
   rw[←e]
   exact YG h52 λy=>by by_cases q:y=z<;>by_cases q':y∈seen<;>simp [q,q']
  refine ih (i + 1) { s with heap:=h2',toks:=s.toks + 1 } (z :: seen) _ R hi2 hl2 (by simp only[LQ] at h3;omega) (λj y hj=>?_) h53 ?_ λh3' tk S' q1 q2=>?_
  ·obtain⟨t',ht'⟩:=h4 (j + 1) y (by simpa using hj)
   exact⟨t',by rw[←ht'];congr 1;omega⟩
  ·simp only[LQ] at h6
   split<;>omega
  ·refine k h3' tk S' (λb o b1 b2 e=>q1 b o b1 b2 ((hb2.2 b b2).trans ((hb.2 b b1).trans e))) ?_
   rw[show n + Z9 seen (z :: r)=n + (if z∈seen then 0 else 1) + Z9 (z :: seen) r by simp only[Z9];omega]
   exact q2
set_option maxHeartbeats 1000001 in
theorem VJ {s:LZ} {a l:Addr} {led:Bool} {items:Array Lo} {zs:List Str} {Q:Fin→LZ→Prop} (hh:A.handled=none) (ha:s.heap.get? a=some { cls:=.type "set",dict:=none,data:=.set #[] 0 (.fresh 0 0 led) }) (hl:s.heap.IsList l items) (hz:items.size=zs.length) (hi:∀(j:Nat) (z:Str),zs[j]?=some z→∃t,items[j]?=some (.str z t)) (hn:zs.length < 1000) (hla:l≠a)
  (h:∀h' tk S',(∀b o,b≠a→s.heap.get? b=some o→h'.get? b=some o)→h'.SetOf (strKind prog w) a S' (Z9 [] zs)→Q (.done (.ret .none)) { s with heap:=h',toks:=tk }):Sv (L9 prog w) A (Builtin.«set.__init__» ⟨[.ref a,.ref l],[]⟩) Q E s:=by
 have hT:Ey s (.ref a) "set":=⟨_,ha,rfl⟩
 unfold Builtin.«set.__init__» noKeywords
 obtain⟨ol,hol,hcl,nl,hdl⟩:=id hl
 have hTl:Ey s (.ref l) "list":=⟨ol,hol,hcl⟩
 wp_walk
 refine wpAny_of_eq P0 (E2 hTl Hk ?_)
 (rw[if_neg LA])
 refine L1 (wpAny_typeOf hTl ?_)
 rw[if_neg (by decide)]
 refine L1 (ON hl ?_)
 generalize hoi:({ cls:=.type "list_iterator",data:=.fields #[.ref l,.int 0 0] }:Obj)=oi
 show Sv _ _ (runValue (.builtin "set.update.loop" ⟨[.ref a,.ref s.heap.objs.size],[]⟩) >>= _) _ _ { s with heap:=s.heap.push oi }
 have sa:a < s.heap.objs.size:=L0 ha
 have sl:l < s.heap.objs.size:=L0 hol
 have k0:∀b o,s.heap.get? b=some o→(s.heap.push oi).get? b=some o:=λb o e=>LB _ e
 refine L1 (wpAny_runValue (YH hh (Ea sa) (SJ sl) hla zs 0 { s with heap:=s.heap.push oi } [] 0 _ ?_ ⟨ol,k0 _ _ hol,hcl,nl,hdl⟩ (by omega) (λj z e=>by simpa using hi j z e) ⟨_,#[],0,_,k0 _ _ ha,⟨rfl,rfl,rfl⟩,rfl,λe he=>by simp at he,λy=>by simp,by unfold scanBound;simp,rfl,rfl⟩ (by omega) λh' tk S' q1 q2=>?_))
 ·exact⟨oi,Se _ (by rw[←hoi];rfl),by rw[←hoi],by rw[←hoi];rfl⟩
 ·refine Sn (Sn (h h' tk S' (λb o hb e=>q1 b o (SJ (L0 e)) hb (k0 b o e)) ?_))
  rw[Ir] at q2;exact q2
set_option maxHeartbeats 1000001 in
theorem Ke {s:LZ} {l:Addr} {items:Array Lo} {zs:List Str} {Q:Lo→LZ→Prop} (hh:A.handled=none) (hl:s.heap.IsList l items) (hz:items.size=zs.length) (hi:∀(j:Nat) (z:Str),zs[j]?=some z→∃t,items[j]?=some (.str z t)) (hn:zs.length < 1000)
  (h:∀h' tk a S',s.heap.objs.size≤a→(∀b o,s.heap.get? b=some o→h'.get? b=some o)→h'.SetOf (strKind prog w) a S' (Z9 [] zs)→Q (.ref a) { s with heap:=h',toks:=tk }):Sv (L9 prog w) A (call (.type "set") [.ref l]) Q E s:=by
 (obtain⟨c,tl,hmro⟩:=Ni.mro)
 have hmade:=Ni.made;have hsub:=Ni.sub
 (refine Ah (Aj ?_))
 show Sv _ _ (callAny (.type "set") _) _ _ _;refine Sn ⟨Es _ (by decide +kernel),Oa F.entry_type_call ?_⟩
 (rw[Around.under_plain (weight_type_call_type "set" [.ref l] []) rfl])
 have h1:=Ni.notType;have h2:=Ni.canCreate
 have hct:=VW (.ref l)
 (repeat (any_goals (first | assumption | wp_step)))
 refine Oz (VX (v:=.ref l) (E:=E) (Q₁:=λobj s₁=>∃led:Bool,obj=.ref s.heap.objs.size∧s₁={ s with heap:=s.heap.push { cls:=.type "set",dict:=none,data:=.set #[] 0 (.fresh 0 0 led) } }) λled=>⟨led,rfl,rfl⟩) λr s₁ hr=>?_
 cases r with
 | error e=>exact hr
 | ok fl=>
  cases fl with
  | ret obj=>
   obtain⟨led,rfl,rfl⟩:=hr
   (have hS:(s.heap.push { cls:=.type "set",dict:=none,data:=.set #[] 0 (.fresh 0 0 led) }).get? s.heap.objs.size=some { cls:=.type "set",dict:=none,data:=.set #[] 0 (.fresh 0 0 led) }:=Se _ rfl)
   (have hT:Ey { s with heap:=s.heap.push { cls:=.type "set",dict:=none,data:=.set #[] 0 (.fresh 0 0 led) } } (.ref s.heap.objs.size) "set":=⟨_,hS,rfl⟩)
   have hli:=Ni.init.lookup;have hbi:=Ni.init.bind (.ref s.heap.objs.size)
   (repeat (any_goals (first | assumption | wp_step)))
   refine Oz (codeAny_call_builtin (R:=wants (λr s₂=>r=.none∧Q (.ref s.heap.objs.size) s₂) E) Ni.init.plain F.entry_set_init (Xj hT ?_)) λr₂ s₂ hr₂=>?_
   ·refine VJ (A:=A.in1.in1) hh hS (by obtain⟨ol,hol,q⟩:=hl;exact⟨ol,LB _ hol,q⟩) hz hi hn (by obtain⟨ol,hol,q⟩:=hl;exact SJ (L0 hol)) λh' tk S' q1 q2=>⟨rfl,?_⟩
    exact h h' tk _ S' (LF _) (λb o e=>q1 b o (SJ (L0 e)) (LB _ e)) q2
   ·cases r₂ with
    | error e=>exact hr₂
    | ok fl₂=>
     cases fl₂ with
     | ret r=>obtain⟨rfl,hq⟩:=hr₂;(repeat (any_goals (first | assumption | wp_step)))
     | _=>exact hr₂.elim
  | _=>exact hr.elim
end
end L2
namespace L2
open PyProof.Rows PySem PySem.Spec
noncomputable def Mc (P:LH) (w:Sz) (a:Addr) (n:Nat):HO:=.ext λh=>∃S,Of (strKind P w) h a S n
theorem FO {P:LH} {w:Sz} {H:Hp} {h:Heap} {a:Addr} {S:Str→Bool} {n:Nat} (x:Of (strKind P w) h a S n):qE P w H h a (Mc P w a n):=by
 have x':=x
 obtain⟨o,es,ep,t,ho,r⟩:=x'
 refine⟨⟨S,x⟩,⟨o,ho⟩,λh1 h2 ⟨S',o',es',ep',t',ho',r'⟩ k=>⟨S',o',es',ep',t',k _ ho',r'⟩⟩
theorem FN {P:LH} {w:Sz} {H:Hp} {h:Heap} {a:Addr} {n:Nat} (x:fJ P w H h) (q:H a=some (Mc P w a n)):∃S,Of (strKind P w) h a S n:=(x a _ q).1
section
variable {X:Cx} {K:Ls}
theorem Hz (hK:X.K=K) (hc:X.calm=true):xF X (.type "set") (λxs H Q=>∃p zs,xs=[.ref p]∧zK K H p (zs.map V.str)∧zs.length < 1000∧∀a,H a=none→Q (.ref a) (upd H a (Mc X.prog X.w a (Z9 [] zs)))):=by
 subst hK
 (intro pins s σ H xs us Q I r h)
 obtain⟨p,zs,rfl,hl,hn,k⟩:=h
 (obtain⟨u,rfl,ru⟩:=vals1 r)
 cases ru
 obtain⟨its,rv,⟨o,n,ho,hcl,_,hd⟩,_⟩:=I.list hl
 have hz:its.length=zs.length:=by rw[←rv.length,Ln]
 refine Ke (zs:=zs) (I.ok.hd hc) ⟨o,ho,hcl,n,hd⟩ (by simpa using hz) (λj z e=>?_) hn λh' tk a S' q1 q2 q3=>?_
 ·obtain⟨u,e1,⟨t,rfl⟩⟩:=rv.get (i:=j) (x:=.str z) (by rw[LV,e];rfl)
  exact⟨t,by simpa using e1⟩
 ·exact⟨.ref a,_,I.laid (a:=a) (o:=Mc X.prog X.w a (Z9 [] zs)) (h':=h') (t':=tk) q2 q1 (FO q3),rfl,k a (I.qx.fresh q1)⟩
theorem Ki:xF X (.builtin "len") (λxs H Q=>∃a n,xs=[V.ref a]∧H a=some (Mc X.prog X.w a n)∧Q (.int (n:Nat)) H):=by
 (intro pins s σ H xs us Q I r h)
 obtain⟨a,n,rfl,ha,q⟩:=h
 (obtain⟨u,rfl,ru⟩:=vals1 r)
 cases ru
 obtain⟨S,o,es,ep,t,ho,hex,hd,_,_,hb,hf,hn⟩:=FN I.qx ha
 refine call_len_set ho hex hd hf (by have:es.size < 4096:=hb;omega) ?_
 rw[hn]
 exact⟨.int n,H,I.tok _,⟨_,rfl⟩,q⟩
end
end L2
namespace L2
theorem Wg:∀(seen zs:List AA),Z9 seen zs≤zs.length
 | _,[]=>LF _
 | seen,z :: r=>by
  have:=Wg (z :: seen) r
  simp only[Z9,LQ]
  split<;>omega
theorem XX:∀(seen zs:List AA),Z9 seen zs=zs.length↔zs.Nodup∧∀z∈zs,z∉seen
 | _,[]=>by simp [Z9]
 | seen,z :: r=>by
  have h1:=Wg (z :: seen) r
  have h2:=XX (z :: seen) r
  simp only[Z9,LQ,Sq,La]
  by_cases q:z∈seen
  ·rw[if_pos q]
   constructor
   ·intro e;omega
   ·rintro ⟨_,h⟩;exact absurd q (h z (.inl rfl))
  ·rw[if_neg q]
   constructor
   ·intro e
    obtain⟨a,b⟩:=h2.mp (by omega)
    refine⟨⟨λhz=>(b z hz) (by simp),a⟩,?_⟩
    rintro y (rfl | hy)
    ·exact q
    ·exact λhs=>b y hy (LK _ hs)
   ·rintro ⟨⟨a,b⟩,c⟩
    have:=h2.mpr ⟨b,λy hy hs=>?_⟩
    ·omega
    ·rcases La.mp hs with rfl | hs
     ·exact a hy
     ·exact c y (.inr hy) hs
theorem Pg (zs:List AA):decide (((Z9 [] zs:Nat):Int)=(zs.length:Nat))=decide zs.Nodup:=by
 have:=XX [] zs
 rw[decide_eq_decide]
 constructor
 ·intro e;exact(this.mp (by omega)).1
 ·intro e;have:=this.mpr ⟨e,λ_ _ h=>by cases h⟩;omega
end L2
namespace L2
open PySem PySem.Spec PyProof.Rows
noncomputable def UP {α:Type} (xs:List α) (ix:List Nat):List α:=ix.filterMap (xs[·]?)
section
variable {X:Cx} {e ec:Expr} {te:TE} {lo hi:Option Expr} {tl th ts:TO} {pos p2:Pos}
def RM (K:Ls):V→Option Int→Option Int→Option Int→Hp→VK→Prop:=λx lo hi st H Q=>∃a xs,x=.ref a∧zK K H a xs∧st≠some 0∧∀zs:List V,(∀z∈zs,z∈xs)→zs.length≤xs.length→Nw H (.lst zs) Q
def R5 (r:V→Option Int→Option Int→Option Int→Hp→VK→Prop) (te:TE) (tl th ts:TO):TE:=λσ H Q=>te σ H λx H1=>tl σ H1 λl H2=>th σ H2 λu H3=>ts σ H3 λc H4=>r x l u c H4 Q
def CO (K:Ls):V→List V→Hp→VK→Prop:=λx vs H Q=>∃z p ys,x=.str z∧vs=[.ref p]∧jt K H p (ys.map V.str)∧(ys.map (·.length)).sum + ys.length * z.length≤16777216∧Q (.str (Tr z ys)) H
end
end L2
namespace L2
open PyProof.Rows PySem PySem.Spec
noncomputable def UW (bt:Nat→Nat→Bool):Nat→Nat→Option Nat→Option Nat
 | 0,_,b=>b
 | k + 1,i,none=>UW bt k (i + 1) (some i)
 | k + 1,i,some j=>UW bt k (i + 1) (some (if bt i j=true then i else j))
def Cf (P:Nat→Lo→Prop) (its:Array Lo):Option Nat→Prop
 | none=>its = #[]
 | some j=>∃v,its = #[v,v]∧P j v
def Ry (P:Nat→Lo→Prop) (d v:Lo):Option Nat→Prop
 | none=>v=d
 | some j=>P j v
noncomputable def UJ (its:Array Lo) (c:Nat):Obj:={ cls:=.type "list",dict:=none,data:=.seq its c,slots:=#[] }
section
variable {prog:LH} {w:Sz} {A:SO} {R:Result→LZ→Prop} {I S:Addr} {fp wr:List Addr} {n:Nat} {P:Nat→Lo→Prop} {St:Nat→Heap→Prop} {d:Lo}
end
section
variable {w:Sz} {A:SO} {E:Lo→LZ→Prop} {s:LZ} {prog:LH}
end
def Dn (K:Ls) (d:V):V→Hp→VK→Prop:=λx H Q=>∃l ns,x=.ref l∧zK K H l (ns.map V.int)∧(ns=[]→Q d H)∧∀M:Int,M∈ns→(∀a∈ns,a≤M)→Q (.int M) H
def U3 (K:Ls) (te tk:TE):TE:=λσ H Q=>te σ H λx H1=>tk σ H1 λd H2=>Dn K d x H2 Q
section
variable {X:Cx} {e ek:Expr} {te tk:TE} {p pos kp:Pos}
end
end L2
namespace L2
open PyProof.Rows PySem PySem.Spec
def U1 (D0:Ends) (M:St→Hp→Prop):TS:=λD σ H=>D=D0∧M σ H
end L2
namespace L2
open PyProof.Rows PySem PySem.Spec
section
variable {pins:List (Addr × Obj)} {σ:St} {H:Hp} {s:LZ} {X:Cx}
noncomputable def bD (H:Hp) (d:Addr):Hp:=λb=>if b=d then none else H b
theorem dD {H:Hp} {d b:Addr} (h:b≠d):bD H d b=H b:=if_neg h
theorem mK {H:Hp} {d:Addr}:bD H d d=none:=if_pos rfl
theorem Jb {H H0:Hp} {d:Addr} (h:zf H0 H) (n:H0 d=none):zf H0 (bD H d):=λb o e=>by
 rw[dD (zh e n)]
 exact h b o e
theorem Inv.forget {d:Addr} {kvs:List (Key × V)} (I:Inv X pins σ H s) (e:H d=some (.dK kvs)):Inv X pins σ (bD H d) s:=by
 have nn:∀b,H b=none→bD H d b=none:=λb n=>by
  unfold bD
  split
  ·rfl
  ·exact n
 have ss:∀b o,H b=some o→(∀kvs,o≠.dK kvs)→bD H d b=some o:=λb o q h=>by
  rw[dD λz=>by rw[z,e] at q;exact h kvs (L8 q).symm]
  exact q
 refine⟨I.ok,I.os,I.bare,⟨I.base.keep,I.base.slot,λb o q n hx=>nn b (I.base.free b o q n hx),I.base.there,λb xs q=>ss b _ (I.base.iW b xs q) (λ_ z=>by cases z),λb o u q=>ss b _ (I.base.rE b o u q) (λ_ z=>by cases z),λb ps q=>?_⟩,I.loc,I.cell,nn _ I.free,λx c q=>nn c (I.yk x c q),λp hp=>?_,λb u q=>?_,I.len⟩
 ·obtain⟨more,q⟩:=I.base.iV b ps q
  exact⟨more,ss b _ q (λ_ z=>by cases z)⟩
 ·obtain⟨a1,a2,a3⟩:=I.pin p hp
  exact⟨a1,nn _ a2,a3⟩
 ·have hb:b≠d:=λz=>by rw[z,mK] at q;cases q
  rw[dD hb] at q
  exact(I.qx b u q).ZW (λ_ _ _ q=>q) (λc q=>ss c _ q (λ_ z=>by cases z)) (λc xs q=>ss c _ q (λ_ z=>by cases z))
theorem XE {P:LH} {w:Sz} {k:Key} {u:Lo} (h:(qS P w).is k u=true):RelV (kV k) u:=by
 rcases qN (show tP k u=true from h) with ⟨i,t,rfl,rfl⟩ | ⟨x,t,rfl,rfl⟩
 ·exact⟨t,rfl⟩
 ·exact⟨t,rfl⟩
theorem Inv.Bd {a:Addr} {o:HO} (I:Inv X pins σ H s) (e:H a=some o):a∉X.fs:=λhb=>by
 obtain⟨_,o',ho,_⟩:=I.ok.ui.mem hb
 rw[I.base.free a o' ho (I.ok.Bx a hb) λz=>I.ok.Jm a z hb] at e
 cases e
def DL (td:TE) (g:TG) (tb:TS):TS:=λD σ H=>td σ H λx H1=>∃a kvs,x=.ref a∧H1 a=some (.dK kvs)∧∃Pv:Nat→St→Hp→Prop,Pv 0 σ (bD H1 a)∧
 (∀i k v σ H,kvs[i]?=some (k,v)→Pv i σ H→g (kV k) σ H λσ2 H2=>tb { D with nx:=Pv (i + 1),ct:=Pv (i + 1),bk:=D.nx } σ2 H2)∧∀σ H,Pv kvs.length σ H→D.nx σ H
theorem Hu {tg iter:Expr} {body:List Stmt} {td:TE} {g:TG} {tb:TS} {pos:Pos} (hp:PassesOwn (L9 X.prog X.w) X.A X.env X.xe) (hc:X.calm=true) (hi:PE X iter td) (hg:PG X tg g) (hb:Xn X body tb)
  (hs:∀x,Nv iter X.env x=pure x:=by intro _;rfl):PS X (.For tg iter body [] pos) (DL td g tb):=by
 intro pins s σ H D I h
 refine wpAny_For (qC (hi pins s σ H _ I h) λv s1 ⟨x,H1,I1,r1,a,kvs,ex,ea,Pv,p0,hstep,hend⟩=>?_) hs
 subst ex
 obtain rfl:v=SU a:=r1
 obtain⟨hz,hd,vs,rel,dd⟩:=XB I1.qx ea
 obtain⟨ep,da⟩:=dd.dictAt
 obtain⟨od,es,hod,hcd,hdd,hk,hpp,hn⟩:=id da
 have hl:vs.length=kvs.length:=rel.length.symm
 refine EF hd da ?_
 have I2:=I1.kept (t':=s1.toks) (h':=s1.heap.push { cls:=.type "dict_keyiterator",data:=.fields #[.ref a,.int 0 0,.int vs.length 0,.int ep 0] }) λb o e=>LB _ e
 have hne:a≠X.env.locals:=λz=>by rw[z,I1.free] at ea;cases ea
 have I3:Inv X (pins ++ [(a,od)]) σ (bD H1 a) _:=(I2.forget ea).p9 λp hp=>(LU.mp hp).elim (λz=>(I2.forget ea).pin p (LP _ z)) λz=>by
  obtain rfl:=LW.mp z
  exact⟨LB _ hod,mK,hne,I1.Bd ea,λv z=>by rw[hdd] at z;cases z⟩
 have I1':Inv X (pins ++ [(a,od)]) σ (bD H1 a) s1:=(I1.forget ea).p9 λp hp=>(LU.mp hp).elim (λz=>(I1.forget ea).pin p (LP _ z)) λz=>by
  obtain rfl:=LW.mp z
  exact⟨hod,mK,hne,I1.Bd ea,λv z=>by rw[hdd] at z;cases z⟩
 have f0:vT X (pins ++ [(a,od)]) (bD H1 a) s1.heap.objs.size:=I1'.aX (LF _) (I1'.qx.fresh (LF _))
 have hat:∀{σ':St} {H':Hp} {s':LZ},Inv X (pins ++ [(a,od)]) σ' H' s'→s'.heap.DictAt (qS X.prog X.w) a vs ep:=λJ=>⟨od,es,(J.pin (a,od) (LP _ (LP _ (LW.mpr rfl)))).1,hcd,hdd,hk,hpp,hn⟩
 have hit0:(s1.heap.push { cls:=.type "dict_keyiterator",data:=.fields #[.ref a,.int 0 0,.int vs.length 0,.int ep 0] }).IsKeyIter s1.heap.objs.size a 0 vs.length ep:=⟨_,Se _ rfl,rfl,rfl⟩
 generalize s1.heap.objs.size=it at f0 hit0
 have un:∀{pl:List (Addr × Obj)} {σ':St} {H':Hp} {s':LZ},Inv X (pins ++ pl) σ' H' s'→Inv X pins σ' H' s':=λJ=>J.jo
 refine Ej (λn s'=>∃i σ' H',Inv X (pins ++ [(a,od)]) σ' H' s'∧s'.heap.IsKeyIter it a i vs.length ep∧H' it=none∧n=kvs.length - i∧i≤kvs.length∧Pv i σ' H') ?_ kvs.length ⟨0,σ,_,I3,hit0,f0.1,rfl,Sy _,p0⟩
 rintro n s3 ⟨i,σ3,H3,J,st,fr,rfl,hi3,p3⟩
 have F:vT X (pins ++ [(a,od)]) H3 it:=⟨fr,f0.2⟩
 obtain⟨g0,g1,g2,g3,g4,g5⟩:=F
 by_cases hlt:i < kvs.length
 ·have hx:vs[i]?=some vs[i]:=Le (by omega)
  have hkx:kvs[i]?=some kvs[i]:=Le hlt
  have hkey:kvs[i].1=vs[i].1:=by
   have e:=congrArg (λl=>l[i]?) rel.keys
   simp only[LV,hx,hkx,Tq] at e
   exact L8 e
  refine Tn hp (Il (k:=vs[i].1) (v:=vs[i].2) st (hat J) hx λkey h' hkk hit' sb=>?_)
  have J1:Inv X (pins ++ [(a,od)]) σ3 H3 { s3 with heap:=h' }:=J.turned (t':=s3.toks) (λb o hb e=>(sb.2 b hb).trans e) g0 g1 g3 g4 g5
  obtain⟨oi,e,c,d⟩:=id hit'
  refine Tn hp (iO (s:={ s3 with heap:=h' }) e c d (by decide) ?_)
  have J2:=J1.pinned (fp:=[it]) (λb hb=>by obtain rfl:=LW.mp hb;exact⟨g0,g1,g2,g3,g4,g5⟩) (λb hb=>by obtain rfl:=LW.mp hb;exact⟨oi,e,λv z=>by rw[d] at z;cases z⟩)
  have hR:RelV (kV kvs[i].1) key:=by rw[hkey];exact XE hkk
  have hmem:(it,oi)∈m9 [it] h':=xu (LW.mpr rfl) e
  refine Tn hp (qC (hg _ { s3 with heap:=h' } σ3 H3 (kV kvs[i].1) key _ J2 hR (hstep i _ kvs[i].2 σ3 H3 hkx p3)) λ_ s6 ⟨σ6,H6,I6,q6⟩=>?_)
  (refine Tn hp (qC (hb _ s6 σ6 H6 _ I6 q6) λf s7 q7=>?_))
  have again:∀{σ7:St} {H7:Hp},Inv X ((pins ++ [(a,od)]) ++ m9 [it] h') σ7 H7 s7→Pv (i + 1) σ7 H7→∃m,m < kvs.length - i∧∃i σ' H',Inv X (pins ++ [(a,od)]) σ' H' s7∧s7.heap.IsKeyIter it a i vs.length ep∧H' it=none∧m=kvs.length - i∧i≤kvs.length∧Pv i σ' H':=λ{σ7 H7} J7 n7=>by
   have hpin:=J7.pin (it,oi) (LP _ (LP _ hmem))
   exact⟨kvs.length - (i + 1),by omega,i + 1,σ7,H7,J7.jo,⟨oi,hpin.1,c,d⟩,hpin.2.1,rfl,hlt,n7⟩
  cases f with
  | next=>exact(let ⟨_,_,J7,m7⟩:=q7;again J7 m7)
  | cont=>exact(let ⟨_,_,J7,m7⟩:=q7;again J7 m7)
  | brk=>obtain⟨σ7,H7,I7,q7⟩:=q7;exact⟨σ7,H7,un I7.jo,q7⟩
  | ret v=>obtain⟨x7,σ7,H7,I7,r7,q7⟩:=q7;exact⟨x7,σ7,H7,un I7.jo,r7,q7⟩
 ·have e:i=kvs.length:=by omega
  subst e
  refine Tn hp (IY (I.ok.hd hc) st (hat J) (IG (by omega)) λh' eb=>?_)
  exact Oe ⟨σ3,H3,un (J.turned (t':=s3.toks) (λb o hb e=>eb b o hb e) g0 g1 g3 g4 g5),hend _ _ p3⟩
end
section
variable {X:Cx} {k:Nat} {m:Str} {pos apos:Pos} {e o:Expr} {es:List Expr} {ta:TE} {t:TA} {CX:rD} {E:XK}
theorem Dv {pl:Sem Bool} (hx:Passes CX X E) (hr:xG k X.A) (he:PE X o ta) (ha:PA X (e :: es) t) (hst:Sg (e :: es) X.env=(false,eval e X.env) :: Sg es X.env:=by rfl) (hpl:(backTo pos (Sg es X.env)).any (·.1)=false:=by rfl)
  (ht:eval (.Call (.Attribute o m apos) (e :: es) [] pos) X.env=(do let ov ←eval o X.env;standAt apos.atName;let (f,first) ←holding [ov] (Oh ov m pl);callWith pos f first (backTo pos (Sg (e :: es) X.env)) (NC pos (TC [] X.env))):=by rfl) :
  PE X (.Call (.Attribute o m apos) (e :: es) [] pos) (Xm X CX k m E ta t):=by
 intro pins s σ H Q I h
 refine T8 (pl:=pl) (qC (he pins s σ H _ I h) λu s1 ⟨x,H1,I1,rx,a,C,dx,fs,ex,ea,c,l,sp,M,q⟩=>?_) ht
 subst ex
 obtain⟨f,fd,ps,hm,F,hb⟩:=M.ex
 (obtain rfl:u=SU a:=rx)
 refine gQ I1 ea c hm l (Nt (first:=[.ref a]) (h₀:=X.base) I.ok.mod.PQ hm.kp (qC (ha pos pins s1 σ H1 _ I1 q) λus s2 ⟨vs,H2,I2,r,q2⟩=>⟨I2.di,?_⟩) hst hpl)
 exact nC (us:=.ref a :: us) (vs:=.ref a :: vs) F hr hb .nil hx I2 (.cons rfl r) (by rw[Sd];exact q2)
def F1 (P:LH) (w:Sz) (K:Ls) (mg:Str→Option Lo) (base:Heap) (CX:rD) (k:Nat) (m:Str) (E:XK) (ta:TE) (t:TA):TE:=λσ H Q=>ta σ H λx H1=>∃a C dx fs,x=.ref a∧H1 a=some (.ins C dx fs)∧c7 K C∧fs.lookup m=none∧∃sp,qy P w K mg base CX k C m sp∧t σ H1 λvs H2=>sp (x :: vs) H2 Q E
theorem Yc {P:LH} {w:Sz} {K:Ls} {mg:Str→Option Lo} {base:Heap} {pl:Sem Bool} (hP:X.prog=P) (hw:X.w=w) (hK:X.K=K) (hmg:X.mg=mg) (hbs:X.base=base) (hr:xG k X.A) (he:PE X o ta) (ha:PA X (e :: es) t) (hst:Sg (e :: es) X.env=(false,eval e X.env) :: Sg es X.env:=by rfl) (hpl:(backTo pos (Sg es X.env)).any (·.1)=false:=by rfl)
  (ht:eval (.Call (.Attribute o m apos) (e :: es) [] pos) X.env=(do let ov ←eval o X.env;standAt apos.atName;let (f,first) ←holding [ov] (Oh ov m pl);callWith pos f first (backTo pos (Sg (e :: es) X.env)) (NC pos (TC [] X.env))):=by rfl) :
  PE X (.Call (.Attribute o m apos) (e :: es) [] pos) (F1 P w K mg base zC k m E0 ta t):=by
 subst hP hw hK hmg hbs
 exact qg hr he ha hst hpl ht
def Uc (tx te:TE):TE:=λσ H Q=>tx σ H λx H0=>te σ H0 λy H1=>Nw H1 (.tup [x,y]) Q
end
section
variable {X:Cx} {pins:List (Addr × Obj)} {σ:St} {H:Hp} {s:LZ} {a C:Addr} {d:Option Addr} {Eh:XK}
noncomputable def endsAt (D:Ends) (i:Nat):Ends:={ nx:=λσ H=>D.nx (σ.set i none) H,rt:=D.rt,bk:=λσ H=>D.bk (σ.set i none) H,ct:=λσ H=>D.ct (σ.set i none) H }
def U9 (K:Ls) (Eh:XK) (P1 P2:Addr) (j i:Nat) (te:TE) (th1 th2:Addr→TS):TS:=λD σ H=>(te σ H λv H1=>zU j v σ H1 λσ' H'=>D.nx σ' H')∧∀C a H',Eh (.ref C) (some a) H'→(OD K (.ref C) (.ref P1)=some true∧
 th1 a (endsAt D i) (σ.set i (some (.ref a))) H')∨(OD K (.ref C) (.ref P1)=some false∧OD K (.ref C) (.ref P2)=some true∧th2 a (endsAt D i) (σ.set i (some (.ref a))) H')
end
end L2
namespace L2
open PyProof.Rows PySem PySem.Spec
section
variable {pins:List (Addr × Obj)} {σ:St} {H:Hp} {s:LZ} {X:Cx}
theorem Inv.swap {a:Addr} {u v:HO} (I:Inv X pins σ H s) (e:H a=some u) (hv:qE X.prog X.w (upd H a v) s.heap a v) (h1:∀xs,u≠.tup xs) (h2:∀y,u≠.own y) (h3:∀ps,u≠.tbl ps) (h4:∀o x,X.H₀ a≠some (.frz o x)):Inv X pins σ (upd H a v) s:=by
 have kp:∀b o,H b=some o→o≠u→upd H a v b=some o:=λb o q hne=>by
  rw[zP λz=>hne (by rw[z,e] at q;exact(L8 q).symm)]
  exact q
 have nn:∀b,H b=none→upd H a v b=none:=λb q=>by
  rw[zP λz=>by rw[z,e] at q;cases q]
  exact q
 refine⟨I.ok,I.os,I.bare,⟨I.base.keep,I.base.slot,λb o q n hx=>nn b (I.base.free b o q n hx),I.base.there,λb xs q=>kp b _ (I.base.iW b xs q) (λz=>h1 xs z.symm),λb o x q=>?_,λb ps q=>?_⟩,I.loc,I.cell,nn _ I.free,λx c q=>nn c (I.yk x c q),λp hp=>?_,λb o q=>?_,I.len⟩
 ·have hb:b≠a:=λz=>h4 o x (by rw[←z];exact q)
  rw[zP hb]
  exact I.base.rE b o x q
 ·obtain⟨more,z⟩:=I.base.iV b ps q
  exact⟨more,kp b _ z λy=>h3 _ y.symm⟩
 ·obtain⟨a1,a2,a3⟩:=I.pin p hp
  exact⟨a1,nn _ a2,a3⟩
 ·by_cases hb:b=a
  ·subst hb
   rw[zm] at q
   cases q
   exact hv
  ·rw[zP hb] at q
   exact(I.qx b o q).ZW (λ_ _ _ q=>q) (λc q=>kp c _ q λz=>h2 _ z.symm) (λc xs q=>kp c _ q λz=>h1 _ z.symm)
theorem Inv.freeze {a:Addr} {kvs:List (Key × V)} (I:Inv X pins σ H s) (e:H a=some (.dK kvs)):∃od,s.heap.get? a=some od∧Inv X pins σ (upd H a (.frz od (.dK kvs))) s:=by
 obtain⟨hz,hd,vs,rel,dd⟩:=XB I.qx e
 obtain⟨od,es,ep,hod,r⟩:=id dd
 refine⟨od,hod,I.swap e ⟨hod,hz,hd,vs,rel,dd⟩ (λ_ z=>by cases z) (λ_ z=>by cases z) (λ_ z=>by cases z) λo x z=>?_⟩
 have:=I.base.rE a o x z
 rw[e] at this
 cases this
theorem Inv.Ur {a:Addr} {od:Obj} {kvs:List (Key × V)} (I:Inv X pins σ H s) (e:H a=some (.frz od (.dK kvs))) (h4:∀o x,X.H₀ a≠some (.frz o x)):Inv X pins σ (upd H a (.dK kvs)) s:=
 I.swap e (I.qx a _ e).2 (λ_ z=>by cases z) (λ_ z=>by cases z) (λ_ z=>by cases z) h4
noncomputable def Cm (a:Addr) (od:Obj) (kvs:List (Key × V)):It:=⟨λi H=>H a=some (.frz od (.dK kvs))∧i < kvs.length,λi H x H'=>H'=H∧∃kv,kvs[i]?=some kv∧x=kV kv.1,λi H=>H a=some (.frz od (.dK kvs))∧kvs.length≤i⟩
theorem VC {P:LH} {w:Sz} {K:Ls} {tg:Expr} (a it:Addr) (od:Obj) (kvs:List (Key × V)) (es:Array DictEntry) (ep:Nat) (hdd:od.data=.dict es ep):Turn P w K tg (Cm a od kvs) [it] it (λi h=>h.IsKeyIter it a i kvs.length ep) where
 mem:=by simp
 obj:=λi h st b hb=>by
  obtain rfl:b=it:=by simpa using hb
  obtain⟨o,e,c,d⟩:=st
  (exact⟨o,e,λv z=>by rw[d] at z;cases z⟩)
 keep:=λ_ _ _ st kk=>st.at λo q=>kk it (by simp) o q
 item:=by
  (intro X hP hw hK hc i pins s σ H E I hf st hg)
  subst hP hw hK
  obtain⟨ea,hlt⟩:=hg
  obtain⟨hod,hz,hd,vs,rel,dd⟩:=(show qE X.prog X.w H s.heap a (.frz od (.dK kvs)) from I.qx a _ ea)
  obtain⟨od',es',ep',hod',r1,r2,r3,r4,r5⟩:=id dd
  rw[hod] at hod'
  cases hod'
  rw[hdd] at r2
  cases r2
  have hl:vs.length=kvs.length:=rel.length.symm
  have hx:vs[i]?=some vs[i]:=Le (by omega)
  have hkx:kvs[i]?=some kvs[i]:=Le hlt
  have hkey:kvs[i].1=vs[i].1:=by
   have e:=congrArg (λl=>l[i]?) rel.keys
   simp only[LV,hx,hkx,Tq] at e
   exact L8 e
  (obtain⟨f0,f1,f2,f3,f4,f5⟩:=hf it (by simp))
  rw[←hl] at st
  refine Il (k:=vs[i].1) (v:=vs[i].2) st ⟨od,es,hod,r1,hdd,r3,r4,r5⟩ hx λkey h' hkk st' sb=>?_
  (have I1:Inv X pins σ H { s with heap:=h' }:=I.turned (t':=s.toks) (λb o hb e=>(sb.2 b hb).trans e) f0 f1 f3 f4 f5)
  obtain⟨o,e,c,d⟩:=id st'
  rw[hl] at st'
  exact⟨key,rfl,iO (s:={ s with heap:=h' }) e c d (by decide) ⟨kV kvs[i].1,H,I1,by rw[hkey];exact XE hkk,⟨rfl,_,hkx,rfl⟩,st',λb hb=>(hf b hb).1⟩⟩
 done:=by
  (intro X hP hw hK hc i pins s σ H E I hf st hg)
  subst hP hw hK
  obtain⟨ea,hle⟩:=hg
  obtain⟨hod,hz,hd,vs,rel,dd⟩:=(show qE X.prog X.w H s.heap a (.frz od (.dK kvs)) from I.qx a _ ea)
  obtain⟨od',es',ep',hod',r1,r2,r3,r4,r5⟩:=id dd
  rw[hod] at hod'
  cases hod'
  rw[hdd] at r2
  cases r2
  have hl:vs.length=kvs.length:=rel.length.symm
  (obtain⟨f0,f1,f2,f3,f4,f5⟩:=hf it (by simp))
  rw[←hl] at st
  exact IY (I.ok.hd hc) st ⟨od,es,hod,r1,hdd,r3,r4,r5⟩ (IG (by omega)) λh' eb=>⟨rfl,I.turned (t':=s.toks) (λb o hb e=>eb b o hb e) f0 f1 f3 f4 f5⟩
 self:=λ_ _ _ _ _ st h=>wpAny_pyIter_keyiter st h
def MD (td:TE):TI:=λσ H R=>td σ H λx H1=>∃a kvs,x=.ref a∧H1 a=some (.dK kvs)∧∀od,R (Cm a od kvs) (upd H1 a (.frz od (.dK kvs)))
theorem Hd {tg l:Expr} {td:TE} (hl:PE X l td):PI X tg l (MD td):=by
 intro pins s σ H R I h
 (refine qC (hl pins s σ H _ I h) λv s1 ⟨x,H1,I1,r1,q1⟩=>?_)
 obtain⟨a,kvs,rfl,ea,q⟩:=q1
 cases r1
 obtain⟨od,hod,IF⟩:=I1.freeze ea
 obtain⟨hz,hd,vs,rel,dd⟩:=XB I1.qx ea
 obtain⟨ep,da⟩:=dd.dictAt
 obtain⟨od',es,hod',r1,r2,r3⟩:=id da
 rw[hod] at hod'
 cases hod'
 have hl:vs.length=kvs.length:=rel.length.symm
 refine EF hd da ?_
 refine⟨s1.heap.objs.size,[s1.heap.objs.size],_,_,_,rfl,IF.kept (t':=s1.toks) λb o e=>LB _ e,VC a _ od kvs es ep r2,⟨_,Se _ rfl,rfl,by rw[←hl];rfl⟩,λb hb=>?_,q od⟩
 obtain rfl:b=s1.heap.objs.size:=by simpa using hb
 exact IF.aX (LF _) (IF.qx.fresh (LF _))
theorem VQ {a:Addr} {od:Obj} {kvs:List (Key × V)} {H:Hp} (h:H a=some (.frz od (.dK kvs))):ZN (Cm a od kvs) H (kvs.map λkv=>kV kv.1):=λi H' s=>by
 rw[Ln]
 refine⟨λhi=>⟨s _ _ h,hi⟩,λy H3 q=>⟨q.1,λ_=>?_⟩,λe=>⟨s _ _ h,OW e.symm⟩⟩
 obtain⟨_,kv,hkv,rfl⟩:=q
 rw[LV,hkv]
 rfl
def DE (H0:Hp) (t:TS):TS:=λD σ H=>t { D with nx:=λσ' H'=>∃a od kvs,H' a=some (.frz od (.dK kvs))∧(∀o x,H0 a≠some (.frz o x))∧D.nx σ' (upd H' a (.dK kvs)) } σ H
theorem Hr {st:Stmt} {t:TS} (h:PS X st t):PS X st (DE X.H₀ t):=by
 intro pins s σ H D I q
 refine qC (h pins s σ H _ I q) λf s1 z=>?_
 cases f with
 | next=>
  obtain⟨σ',H',J,a,od,kvs,ea,h4,q'⟩:=z
  exact⟨σ',_,J.Ur ea h4,q'⟩
 | ret u=>exact z
 | brk=>exact z
 | cont=>exact z
end
end L2
namespace L2
open PyProof.Rows PySem PySem.Spec
noncomputable abbrev xn:=Nat→St→Hp→Prop
noncomputable abbrev xM:=St→Hp→Prop
theorem FD {t u:TS} {D:Ends} {σ:St} {H:Hp} (h:let D':Ends:={ D with nx:=u D };t D' σ H):HP t u D σ H:=h
theorem CZ {i:Nat} {v:V} {t u:TS} {D:Ends} {σ:St} {H:Hp} (h:let D':Ends:={ D with nx:=u D };t D' (σ.set i (some v)) H):zU i v σ H (HP t u D):=h
theorem MS {c:TT} {t u:TS} {D:Ends} {σ:St} {H:Hp} (h:let D':=D;let t':=t;let u':=u;c σ H λb H1=>if b=true then t' D' σ H1 else u' D' σ H1):DS c t u D σ H:=h
theorem Pm {wi:TI} {g:TG} {tb:TS} {D:Ends} {σ:St} {H:Hp} (h:let D':=D;let tb':=tb;wi σ H λJ H1=>∃W:Nat→Nat→St→Hp→Prop,(∃m,W 0 m σ H1)∧∀i m σ H,W i m σ H→
 (J.stop i H∧D'.nx σ H)∨(J.go i H∧∃N:St→Hp→Prop,(∀σ' H',N σ' H'→∃m',m' < m∧W (i + 1) m' σ' H')∧∀x H',J.VN i H x H'→g x σ H' λσ2 H2=>tb' { D' with nx:=N,ct:=N,bk:=D'.nx } σ2 H2)):DR wi g tb D σ H:=h
end L2
set_option maxRecDepth 100000
namespace My
open PySem PySem.Spec PyProof.Rows L2
set_option hygiene false in
local macro_rules | `(tactic| walk_at "x0")=>`(tactic| refine⟨_,rfl,lw,_,_,_,rfl,rfl,zK.of el,rfl,?_⟩)
set_option hygiene false in
local macro_rules | `(tactic| walk_at "x1")=>`(tactic| refine⟨_,rfl,lw,_,rfl,.inl (zK.of el),rfl,_,rfl,?_⟩)
set_option hygiene false in
local macro_rules | `(tactic| walk_at "x2")=>`(tactic| refine zD (λh=>absurd (V.int.inj (zzB h)) (by simp [Ew.ws])) (λ_=>?_))
set_option hygiene false in
local macro_rules | `(tactic| walk_at "x3")=>`(tactic| refine zD (λh1=>?_) (λh1=>?_))
set_option hygiene false in
local macro_rules | `(tactic| walk_at "x4")=>`(tactic| show ∃M:L2.St→Hp→Prop,_∧_)
set_option hygiene false in
local macro_rules | `(tactic| walk_at "x5")=>`(tactic| exact⟨_,by rw[Ew.take,if_neg (hl l (by simp [yX]))];rfl,by rw[pK];exact hf,h6⟩)
set_option hygiene false in
local macro_rules | `(tactic| walk_at "x6")=>`(tactic| refine⟨_,rfl,_,rfl,_,rfl,lw,_,_,_,rfl,rfl,zK.of el,rfl,d,_,rfl,dg ed hU.la,?_⟩)
set_option hygiene false in
local macro_rules | `(tactic| walk_at "x7")=>`(tactic| refine zD (λ_=>?_) (λh=>(h (zzP rfl)).elim))
seal PE PT PW PA PS Xn PI PG Mj PO PC Rm Rp
local macro_rules | `(tactic| walk_at "lk")=>`(tactic| first | assumption | exact zm | exact MI (by assumption) (by walk_at "sm") | (refine zf.look (by assumption) ?_;walk_at "lk"))
local macro_rules | `(tactic| walk_at "sq")=>`(tactic| first | assumption | exact zK.of (by walk_at "lk") | exact FC (by assumption) (by walk_at "sm"))
local macro_rules | `(tactic| walk_at "sqT")=>`(tactic| first | assumption | exact jt.of (by walk_at "lk") | exact seqTS (by assumption) (by walk_at "sm"))
local macro_rules | `(tactic| walk_at "sm")=>`(tactic| first | assumption | exact zf.refl _ | (refine zf.trans ?_ (by assumption);walk_at "sm"))
local macro_rules | `(tactic| walk_at "sz")=>`(tactic| first | with_reducible assumption | with_reducible exact one_len | ((with_reducible apply GJ)<;>walk_at "sz") | ((with_reducible apply slice_len);walk_at "sz") | with_reducible exact WH _)
local macro_rules | `(tactic| walk_at "num")=>`(tactic| first | decide +kernel | omega | (simp only[LQ,LO];omega))
local macro_rules | `(tactic| walk_at "lsz")=>`(tactic| first
 | ((with_reducible apply B7);(focus walk_at "sz");(focus walk_at "sz");walk_at "num")
 | ((with_reducible apply zg);first | decide +kernel | (simp only[LQ,LO,Ln,Li];omega))
 | ((with_reducible apply small_of);(focus walk_at "sz");walk_at "num"))
local macro_rules | `(tactic| walk_at "ar")=>`(tactic| first
 | walk_at "lsz"
 | omega
 | (refine NW ?_ ?_<;>omega)
 | (refine LL (NW ?_ ?_)<;>omega)
 | (refine IP (NW ?_ ?_)<;>omega)
 | decide +kernel
 | (show (0:Int) < _;decide +kernel)
 | (show (0:Int) < _;omega)
 | (refine NW ?_ (NW ?_ ?_)<;>decide +kernel))
local macro_rules | `(tactic| walk_at "lsl")=>`(tactic| first
 | exact gx (by simp only[LQ,LO,Ln,Li];omega)
 | exact gx (by omega))
local macro_rules | `(tactic| walk_at "own")=>`(tactic| fail)
local macro_rules | `(tactic| walk_at "fld")=>`(tactic| fail)
local macro_rules | `(tactic| walk_at "r1")=>`(tactic| (fail_if_success (refine EM (α:=Nat→Nat→L2.St→Hp→Prop) ?_ ?_));first
 | (with_reducible refine FD ?_;intro _)
 | (with_reducible refine MS ?_;intro _ _ _)
 | (with_reducible refine Pm ?_;intro _ _)
 | refine⟨_,rfl,?_⟩
 | refine⟨_,(by walk_at "fld" : iB _ _ _ _ _),?_⟩
 | refine⟨_,_,rfl,rfl,?_⟩
 | refine⟨_,_,_,_,rfl,rfl,by walk_at "sq",qA (by walk_at "num") (by walk_at "num"),?_⟩
 | refine⟨_,_,_,_,rfl,rfl,by walk_at "sq",bJ (by walk_at "num") (by walk_at "num"),?_⟩
 | refine⟨_,_,_,_,rfl,rfl,by walk_at "sqT",rfl,?_⟩
 | refine⟨_,_,rfl,.inr (by walk_at "sqT"),rfl,rfl,?_⟩
 | refine⟨_,_,rfl,.inl (by walk_at "sq"),rfl,rfl,?_⟩
 | refine⟨_,_,_,rfl,rfl,by walk_at "lsz",V6 (by omega) (by omega),?_⟩
 | refine⟨_,_,_,rfl,rfl,by walk_at "lk",by walk_at "lsl",?_⟩
 | refine⟨_,_,rfl,by walk_at "sq",?_⟩
 | refine⟨_,_,rfl,by walk_at "sqT",rfl,?_⟩
 | (refine NW ?_ ?_;· (apply EM;walk_at "sq"))
 | (refine NW (LL (NW rfl ?_)) ?_;· (apply EM;walk_at "sq"))
 | refine⟨_,_,rfl,?_⟩
 | refine⟨_,_,_,rfl,?_⟩
 | refine NW rfl ?_
 | (refine NW ?_ ?_;· assumption)
 | refine⟨_,_,.type "bool",true,rfl,.inl ⟨_,rfl⟩,xm.bl _,xE _ _,?_⟩
 | refine⟨_,_,.type "str",true,rfl,.inl ⟨_,rfl⟩,xm.str _,xE _ _,?_⟩
 | refine⟨_,_,.type "int",true,rfl,.inl ⟨_,rfl⟩,xm.int _,xE _ _,?_⟩
 | refine⟨_,_,.type "list",true,rfl,.inl ⟨_,rfl⟩,xm.lst (by walk_at "lk"),xE _ _,?_⟩
 | (refine NW ?_ ?_;· walk_at "ar")
 | refine tG ?_
 | refine dA ?_
 | refine iteNS rfl ?_)
local macro_rules | `(tactic| walk_at "rd")=>`(tactic| repeat (first | walk_at "own" | walk_at "r1"))
local macro_rules | `(tactic| walk_at "rdi")=>`(tactic| repeat (first | walk_at "own" | walk_at "r1" | ((show Nw _ _ _);intro _ _ _ _ _)))
local macro_rules | `(tactic| show zU $i $v $σ $h $k)=>`(tactic| (refine_lift show zU $i $v $σ $h $k from ?_;try (with_reducible refine CZ ?_;intro _)))
set_option genInjectivity false
set_option genSizeOf false
noncomputable def top (i:Nat):Stmt:=Eg.main.body.getD i (.Pass ⟨0,0,0,0⟩)
noncomputable abbrev il:Stmt:=inClass (top 3) 0
noncomputable abbrev ir:Stmt:=inClass (top 4) 0
noncomputable abbrev lH:Stmt:=inClass (top 5) 0
noncomputable abbrev fN:Stmt:=inClass (top 8) 0
noncomputable abbrev dj:Stmt:=inClass (top 8) 3
noncomputable abbrev pH:Stmt:=inClass (top 8) 5
noncomputable abbrev hX:Stmt:=inClass (top 8) 6
noncomputable abbrev rK:Stmt:=inClass (top 9) 0
noncomputable abbrev y7:Stmt:=inClass (top 9) 2
noncomputable abbrev cW:Stmt:=inClass (top 9) 3
noncomputable abbrev fO:Stmt:=inClass (top 9) 4
noncomputable abbrev yp:Stmt:=inClass (top 10) 1
noncomputable abbrev nU:Stmt:=inClass (top 11) 0
noncomputable abbrev g9:Stmt:=inClass (top 11) 2
noncomputable abbrev rJ:Stmt:=inClass (top 11) 4
noncomputable abbrev cY:Stmt:=inClass (top 12) 0
noncomputable abbrev yf:Stmt:=inClass (top 12) 2
noncomputable abbrev fE:Stmt:=inClass (top 12) 3
noncomputable abbrev nR:Stmt:=inClass (top 14) 0
noncomputable abbrev rW:Stmt:=inClass (top 15) 0
noncomputable abbrev rV:Stmt:=inClass (top 16) 0
noncomputable abbrev rY:Stmt:=top 23
noncomputable abbrev mx:Stmt:=top 24
noncomputable abbrev kY:Stmt:=top 25
noncomputable abbrev cF:Stmt:=top 29
noncomputable abbrev yG:Stmt:=top 30
noncomputable abbrev rH:Stmt:=top 31
noncomputable abbrev nS:Stmt:=top 32
noncomputable abbrev rG:Stmt:=top 33
noncomputable abbrev mq:Stmt:=top 34
noncomputable abbrev yH:Stmt:=top 35
noncomputable abbrev pP:Stmt:=top 36
noncomputable abbrev cB:Stmt:=inClass (top 38) 0
noncomputable abbrev cP:Stmt:=inClass (top 38) 1
noncomputable abbrev cG:Stmt:=inClass (top 38) 2
noncomputable abbrev pB:Stmt:=inClass (top 38) 3
noncomputable abbrev mz:Stmt:=inClass (top 38) 4
noncomputable abbrev cH:Stmt:=inClass (top 38) 5
noncomputable abbrev y9:Stmt:=inClass (top 38) 6
noncomputable abbrev y8:Stmt:=inClass (top 38) 7
noncomputable abbrev f9:Stmt:=inClass (top 38) 8
noncomputable abbrev nL:Stmt:=top 39
noncomputable abbrev mj:Stmt:=top 40
noncomputable abbrev kh:Stmt:=top 41
noncomputable abbrev hV:Stmt:=top 42
noncomputable abbrev bz:Stmt:=top 43
noncomputable abbrev QO:Stmt:=top 50
noncomputable abbrev pF:Stmt:=top 51
noncomputable abbrev mw:Stmt:=top 52
noncomputable abbrev wF:Stmt:=top 53
noncomputable abbrev pM:Stmt:=top 54
noncomputable abbrev rX:Stmt:=inClass (top 55) 0
noncomputable abbrev y4:Stmt:=inClass (top 55) 1
noncomputable abbrev cV:Stmt:=inClass (top 55) 2
noncomputable abbrev yh:Stmt:=inClass (top 55) 3
noncomputable abbrev yb:Stmt:=inClass (top 55) 4
noncomputable abbrev vJ:Stmt:=inClass (top 55) 5
noncomputable abbrev fT:Stmt:=inClass (top 55) 6
noncomputable abbrev fS:Stmt:=inClass (top 55) 7
noncomputable abbrev QI:Stmt:=top 57
noncomputable abbrev nA:Stmt:=top 58
noncomputable abbrev uC:Stmt:=top 59
noncomputable abbrev nO:Stmt:=top 60
noncomputable abbrev eo:Stmt:=top 61
noncomputable abbrev eJ:Stmt:=top 62
noncomputable abbrev nE:Stmt:=top 63
noncomputable abbrev nT:Stmt:=top 64
noncomputable abbrev eZ:Stmt:=top 65
noncomputable abbrev QE:Stmt:=top 66
noncomputable abbrev QA:Stmt:=top 67
noncomputable abbrev oz:Stmt:=top 68
noncomputable abbrev ee:Stmt:=top 69
noncomputable abbrev eK:Stmt:=top 70
noncomputable abbrev Q0:Stmt:=top 71
noncomputable abbrev uD:Stmt:=top 72
noncomputable abbrev nN:Stmt:=top 73
noncomputable abbrev nI:Stmt:=top 74
noncomputable abbrev rB:Stmt:=top 75
noncomputable abbrev eX:Stmt:=top 76
noncomputable abbrev en:Stmt:=top 77
noncomputable abbrev eQ:Stmt:=top 78
noncomputable abbrev Ky:Stmt:=top 79
structure Def (K:Ls) (mg:Str→Option Lo) (x:Str) (st:Stmt) (ps:List Str) (f:Addr) (fd:LG):Prop where
 fn:B0 K x x st f fd
 bd:Binds K fd ps []
 mg:mg x=some (.ref f)
structure jc (K:Ls) (c:Addr) (x q:Str) (st:Stmt) (ps:List Str) (f:Addr) (fd:LG):Prop where
 fn:B0 K x q st f fd
 bd:Binds K fd ps []
 at_:Sf K (.ref c) x=some (some (.ref f))
structure z4 where
 oF:Addr
 oP:Addr
 rO:Addr
 z5:Addr
 mV:Addr
 wx:Addr
 jn:Addr
 xZ:Addr
 kl:Addr
 gf:Addr
 ye:Addr
 xS:Addr
 ku:Addr
 vc:Addr
 bR:Addr
 jL:Addr
 xT:Addr
 ya:Addr
 wy:Addr
 jJ:Addr
 vk:Addr
 vw:Addr
 kS:Addr
 jS:Addr
 gs:Addr
 kL:Addr
 bS:Addr
 mW:Addr
 bL:Addr
 yJ:Addr
 xk:Addr
 wc:Addr
 xI:Addr
 gr:Addr
 gm:Addr
 wg:Addr
 yQ:Addr
 gu:Addr
 ko:Addr
 kn:Addr
 yZ:Addr
 tf:Addr
 xy:Addr
 wm:Addr
 vt:Addr
 vn:Addr
 dU:Addr
 wt:Addr
 kT:Addr
 wo:Addr
 we:Addr
 yx:Addr
 kr:Addr
 gp:Addr
 xU:Addr
 xR:Addr
 j7:Addr
 yi:Addr
 yo:Addr
 bN:Addr
 mB:Addr
 uf:Addr
 mG:Addr
 yL:Addr
 pO:Addr
 bO:Addr
 mY:Addr
 um:Addr
 tu:Addr
 tZ:Addr
 tQ:Addr
 pN:Addr
 uu:Addr
 tJ:Addr
 ub:Addr
 tm:Addr
 mH:Addr
 bT:Addr
 uc:Addr
 uh:Addr
 ud:Addr
 ao:Addr
 Z1:Addr
 Z0:Addr
 ZA:Addr
 sX:Addr
 MW:Addr
 qX:Addr
 jv:Addr
 qR:Addr
 xo:Addr
 qW:Addr
 j4:Addr
 zI:Addr
 jz:Addr
 zV:Addr
 zL:Addr
 aG:Addr
 pE:Addr
 oB:LG
 oH:LG
 rN:LG
 jw:LG
 ml:LG
 bY:LG
 gA:LG
 wA:LG
 yD:LG
 dH:LG
 fW:LG
 yz:LG
 gy:LG
 gE:LG
 rz:LG
 vW:LG
 yj:LG
 fY:LG
 gg:LG
 xa:LG
 yq:LG
 vx:LG
 kC:LG
 jR:LG
 gh:LG
 kD:LG
 bB:LG
 mi:LG
 bH:LG
 yn:LG
 xj:LG
 vA:LG
 vY:LG
 dF:LG
 dB:LG
 bG:LG
 fH:LG
 dP:LG
 yU:LG
 yC:LG
 fG:LG
 sF:LG
 xx:LG
 vE:LG
 vm:LG
 vd:LG
 dM:LG
 wz:LG
 kU:LG
 wq:LG
 wj:LG
 bW:LG
 yM:LG
 dG:LG
 wO:LG
 wI:LG
 vZ:LG
 fV:LG
 fK:LG
 bF:LG
 mX:LG
 uk:LG
 mQ:LG
 yR:LG
 pT:LG
 bM:LG
 mZ:LG
 uv:LG
 sR:LG
 sL:LG
 sT:LG
 pS:LG
 ug:LG
 sN:LG
 ux:LG
 sU:LG
 mJ:LG
 bP:LG
 uy:LG
 uj:LG
 uw:LG
 ag:LG
noncomputable def gJ:List Str:=["acts","any","be","by","calm","done","else","end","in","let","may","must","not","part","parties","rest","sore","to","whole"]
noncomputable def zF:List Str:=["calm","sore","end"]
noncomputable abbrev zA:Str:="abcdefghijklmnopqrstuvwxyz"
noncomputable abbrev jT:Str:="0123456789"
structure Txt (K:Ls) (mg:Str→Option Lo) (t:z4):Prop where
 HE:jc K t.Z0 "__init__" "NoText.__init__" il ["self","row"] t.oF t.oB
 HI:jc K t.ZA "__init__" "NoName.__init__" ir ["self","word"] t.oP t.oH
 Gb:jc K t.sX "__init__" "CalmRoom.__init__" lH ["self","word"] t.rO t.rN
 xt:jc K t.qX "__init__" "Clause.__init__" fN ["self","label","who","act"] t.z5 t.jw
 Kl:jc K t.qX "sort_word" "Clause.sort_word" dj ["self"] t.mV t.ml
 de:jc K t.qX "leads" "Clause.leads" pH ["self"] t.wx t.bY
 kP:jc K t.qX "number" "Clause.number" hX ["self"] t.jn t.gA
 c8:jc K t.jv "__init__" "Duty.__init__" rK ["self","label","who","act","turns","room"] t.xZ t.wA
 bu:jc K t.jv "sort_word" "Duty.sort_word" y7 ["self"] t.kl t.yD
 su:jc K t.jv "leads" "Duty.leads" cW ["self"] t.gf t.dH
 uA:jc K t.jv "number" "Duty.number" fO ["self"] t.ye t.fW
 gN:jc K t.qR "sort_word" "Leave.sort_word" yp ["self"] t.xS t.yz
 sf:jc K t.xo "__init__" "Ban.__init__" nU ["self","label","who","act","room"] t.ku t.gy
 fQ:jc K t.xo "sort_word" "Ban.sort_word" g9 ["self"] t.vc t.gE
 iG:jc K t.xo "leads" "Ban.leads" rJ ["self"] t.bR t.rz
 mm:jc K t.qW "__init__" "Power.__init__" cY ["self","label","who","act","room"] t.jL t.vW
 gO:jc K t.qW "sort_word" "Power.sort_word" yf ["self"] t.xT t.yj
 u7:jc K t.qW "leads" "Power.leads" fE ["self"] t.ya t.fY
 sr:jc K t.j4 "__init__" "Let.__init__" nR ["self","name","value"] t.wy t.gg
 kf:jc K t.zI "__init__" "Part.__init__" rW ["self","name","rooms","rows"] t.jJ t.xa
 c9:jc K t.jz "__init__" "Pact.__init__" rV ["self","parties","acts","rooms","whole"] t.vk t.yq
 qI:Def K mg "is_name" rY ["word"] t.vw t.vx
 jP:Def K mg "number_of" mx ["word"] t.kS t.kC
 jj:Def K mg "written_with" kY ["word","signs","most"] t.jS t.jR
 gC:Def K mg "names_of" cF ["row","word","most"] t.gs t.gh
 jB:Def K mg "are_names" yG ["words","most"] t.kL t.kD
 fg:Def K mg "room_of" rH ["row"] t.bS t.bB
 cN:Def K mg "let_of" nS ["row"] t.mW t.mi
 fk:Def K mg "part_of" rG ["row"] t.bL t.bH
 yr:Def K mg "clause_of" mq ["row"] t.yJ t.yn
 zN:Def K mg "fits_form" yH ["words","form"] t.xk t.xj
 vD:Def K mg "fits_place" pP ["word","place"] t.wc t.vA
 md:jc K t.zV "__init__" "Scope.__init__" cB ["self","pact"] t.xI t.vY
 mr:jc K t.zV "know" "Scope.know" cP ["self","name","kind","meaning"] t.gr t.dF
 sZ:jc K t.zV "bind" "Scope.bind" cG ["self","name","value"] t.gm t.dB
 dZ:jc K t.zV "copied" "Scope.copied" pB ["self"] t.wg t.bG
 u9:jc K t.zV "party" "Scope.party" mz ["self","word"] t.yQ t.fH
 sQ:jc K t.zV "deed" "Scope.deed" cH ["self","word"] t.gu t.dP
 vN:jc K t.zV "room_for" "Scope.room_for" y9 ["self","word"] t.ko t.yU
 ba:jc K t.zV "falls_to" "Scope.falls_to" y8 ["self","word"] t.kn t.yC
 wN:jc K t.zV "meant" "Scope.meant" f9 ["self","word","kinds"] t.yZ t.fG
 du:Def K mg "flat" nL ["pact"] t.tf t.sF
 jd:Def K mg "flat_rows" mj ["rows","scope","rooms","depth"] t.xy t.xx
 vM:Def K mg "covered_by" kh ["part","scope","rooms"] t.wm t.vE
 kI:Def K mg "flat_clause" hV ["clause","scope","rooms","depth"] t.vt t.vm
 kA:Def K mg "room_led_to" bz ["clause","scope"] t.vn t.vd
 ZF:Def K mg "read" QO ["text"] t.dU t.dM
 jr:Def K mg "read_names" pF ["rows","number","word","most","taken"] t.wt t.wz
 jF:Def K mg "told_once" mw ["names"] t.kT t.kU
 vC:Def K mg "read_rooms" wF ["rows","taken"] t.wo t.wq
 vU:Def K mg "read_whole" pM ["rows","start"] t.we t.wj
 iH:jc K t.zL "__init__" "Body.__init__" rX ["self"] t.yx t.bW
 xP:jc K t.zL "many_open" "Body.many_open" y4 ["self"] t.kr t.yM
 sm:jc K t.zL "takes" "Body.takes" cV ["self","row"] t.gp t.dG
 gS:jc K t.zL "takes_done" "Body.takes_done" yh ["self"] t.xU t.wO
 gT:jc K t.zL "takes_head" "Body.takes_head" yb ["self","head"] t.xR t.wI
 wL:jc K t.zL "takes_clause" "Body.takes_clause" vJ ["self","clause"] t.j7 t.vZ
 wR:jc K t.zL "put_in" "Body.put_in" fT ["self","row"] t.yi t.fV
 bc:jc K t.zL "closed" "Body.closed" fS ["self"] t.yo t.fK
 jl:Def K mg "_law_cell" QI ["_law_script","_law_k"] t.bN t.bF
 cA:Def K mg "_law_stream" nA ["_law_number","_law_many"] t.mB t.mX
 sv:Def K mg "_law_names" uC ["_law_cell_here","_law_many"] t.uf t.uk
 cI:Def K mg "_law_header" nO ["_law_script"] t.mG t.mQ
 vz:Def K mg "_law_kinds" eo ["_law_header_here"] t.yL t.yR
 gR:Def K mg "_law_scope" eJ ["_law_header_here"] t.pO t.pT
 xq:Def K mg "_law_pick" nE ["_law_header_here","_law_scope_here","_law_wanted","_law_number"] t.bO t.bM
 cO:Def K mg "_law_clause" nT ["_law_header_here","_law_scope_here","_law_label","_law_xs"] t.mY t.mZ
 sy:Def K mg "_law_opens" eZ ["_law_header_here","_law_scope_here","_law_label","_law_xs"] t.um t.uv
 w_next:Def K mg "_law_next" QE ["_law_header_here","_law_stack","_law_label","_law_xs"] t.tu t.sR
 ZD:Def K mg "_law_rows" QA ["_law_script","_law_header_here","_law_most"] t.tZ t.sL
 w_text:Def K mg "_law_text" oz ["_law_header_here","_law_rows_here"] t.tQ t.sT
 jA:Def K mg "_law_meant" ee ["_law_kinds_here","_law_scope_here","_law_word","_law_wanted"] t.pN t.pS
 sg:Def K mg "_law_wrong" eK ["_law_kinds_here","_law_scope_here","_law_row"] t.uu t.ug
 ZC:Def K mg "_law_told" Q0 ["_law_scope_here","_law_row","_law_rooms","_law_depth"] t.tJ t.sN
 sx:Def K mg "_law_inner" uD ["_law_kinds_here","_law_scope_here","_law_row","_law_rooms"] t.ub t.ux
 ZM:Def K mg "_law_flat" nN ["_law_header_here","_law_rows_here"] t.tm t.sU
 cE:Def K mg "_law_object" nI ["_law_row"] t.mH t.mJ
 fh:Def K mg "_law_by_hand" rB ["_law_header_here","_law_rows_here"] t.bT t.bP
 gL:Def K mg "_law_whole" eX ["_law_found"] t.uc t.uy
 sj:Def K mg "_law_alike" en ["_law_found","_law_due"] t.uh t.uj
 gU:Def K mg "_law_right" eQ ["_law_found","_law_due"] t.ud t.uw
 BO:Def K mg "law" Ky ["_law_script"] t.ao t.ag
 km:mg "list" = none
 qJ:mg "len" = none
 vK:mg "range" = none
 V9:mg "all" = none
 Xe:mg "int" = none
 Bz:mg "str" = none
 qU:mg "isinstance" = none
 B5:mg "bool" = none
 Xa:mg "tuple" = none
 eI:mg "dict" = none
 MK:mg "zip" = none
 GZ:mg "ValueError" = none
 MX:mg "set" = none
 Pu:mg "KEPT" = some (.ref t.aG)
 KR:∃tk,mg "LETTERS" = some (.str "abcdefghijklmnopqrstuvwxyz" tk)
 KU:∃tk,mg "FIGURES" = some (.str "0123456789" tk)
 tV:∃tk,mg "MOST_LETTERS" = some (.int 8 tk)
 tK:∃tk,mg "MOST_FIGURES" = some (.int 20 tk)
 XR:mg "MARKS" = some (.ref t.pE)
 dI:∃tk,mg "MOST_ROOMS" = some (.int 12 tk)
 tW:∃tk,mg "MOST_PARTIES" = some (.int 4 tk)
 Qw:∃tk,mg "MOST_ACTS" = some (.int 6 tk)
 Qg:∃tk,mg "MOST_ROWS" = some (.int 90 tk)
 Qy:∃tk,mg "MOST_OPEN" = some (.int 6 tk)
 dO:∃tk,mg "FIRST_ROOM" = some (.int 2 tk)
 Bh:mg "PactError" = some (.ref t.Z1)
 MA:mg "NoText" = some (.ref t.Z0)
 ME:mg "NoName" = some (.ref t.ZA)
 PB:mg "CalmRoom" = some (.ref t.sX)
 UG:mg "Row" = some (.ref t.MW)
 Qi:mg "Clause" = some (.ref t.qX)
 WR:mg "Duty" = some (.ref t.jv)
 aD:mg "Leave" = some (.ref t.qR)
 Bg:mg "Ban" = some (.ref t.xo)
 X5:mg "Power" = some (.ref t.qW)
 WL:mg "Let" = some (.ref t.j4)
 mU:mg "Part" = some (.ref t.zI)
 WS:mg "Pact" = some (.ref t.jz)
 X6:mg "Scope" = some (.ref t.zV)
 PH:mg "Body" = some (.ref t.zL)
 P7:∃(o:Obj) (its:Array Lo) (n:Nat),K.lookup t.aG=some o∧o.cls=.type "tuple"∧o.data=.seq its n∧its.size≤LI∧Vals (gJ.map V.str) its.toList
 Hg:∃(o:Obj) (its:Array Lo) (n:Nat),K.lookup t.pE=some o∧o.cls=.type "tuple"∧o.data=.seq its n∧its.size≤LI∧Vals (zF.map V.str) its.toList
 KZ:c7 K t.qX
 oA:zH K t.qX "act"
 lg:zH K t.qX "label"
 tN:zH K t.qX "room"
 lZ:zH K t.qX "turns"
 iz:zH K t.qX "who"
 Vq:Mk K t.qX t.z5
 GV:c7 K t.jv
 QX:zH K t.jv "act"
 iq:zH K t.jv "label"
 aT:zH K t.jv "room"
 ij:zH K t.jv "turns"
 QK:zH K t.jv "who"
 aU:Mk K t.jv t.xZ
 d9:Meth K t.jv "sort_word" t.kl
 oO:Meth K t.jv "leads" t.gf
 tR:Meth K t.jv "number" t.ye
 Wq:c7 K t.qR
 aN:zH K t.qR "act"
 tO:zH K t.qR "label"
 ik:zH K t.qR "room"
 tI:zH K t.qR "turns"
 aO:zH K t.qR "who"
 mS:Meth K t.qR "sort_word" t.xS
 tD:Mk K t.qR t.z5
 tL:Meth K t.qR "leads" t.wx
 lz:Meth K t.qR "number" t.jn
 B9:c7 K t.xo
 JG:zH K t.xo "act"
 aL:zH K t.xo "label"
 QJ:zH K t.xo "room"
 aS:zH K t.xo "turns"
 JH:zH K t.xo "who"
 JY:Mk K t.xo t.ku
 uK:Meth K t.xo "sort_word" t.vc
 aR:Meth K t.xo "leads" t.bR
 oS:Meth K t.xo "number" t.jn
 Wj:c7 K t.qW
 aI:zH K t.qW "act"
 tE:zH K t.qW "label"
 iw:zH K t.qW "room"
 nz:zH K t.qW "turns"
 aE:zH K t.qW "who"
 tU:Mk K t.qW t.jL
 mT:Meth K t.qW "sort_word" t.xT
 tS:Meth K t.qW "leads" t.ya
 lj:Meth K t.qW "number" t.jn
 sG:c7 K t.j4
 rh:zH K t.j4 "name"
 cq:zH K t.j4 "value"
 W0:Mk K t.j4 t.wy
 kM:c7 K t.zI
 gX:zH K t.zI "name"
 yW:zH K t.zI "rooms"
 gK:zH K t.zI "rows"
 pA:Mk K t.zI t.jJ
 vV:c7 K t.jz
 cj:zH K t.jz "acts"
 g7:zH K t.jz "parties"
 yV:zH K t.jz "rooms"
 fP:zH K t.jz "whole"
 X7:Mk K t.jz t.vk
 z9:c7 K t.zV
 wX:zH K t.zV "kinds"
 x8:zH K t.zV "meanings"
 fF:zH K t.zV "pact"
 QQ:Mk K t.zV t.xI
 fB:Meth K t.zV "know" t.gr
 oI:Meth K t.zV "bind" t.gm
 ly:Meth K t.zV "copied" t.wg
 tT:Meth K t.zV "party" t.yQ
 oE:Meth K t.zV "deed" t.gu
 yv:Meth K t.zV "room_for" t.ko
 cz:Meth K t.zV "falls_to" t.kn
 wJ:Meth K t.zV "meant" t.yZ
 qi:c7 K t.zL
 x6:zH K t.zL "bodies"
 yK:zH K t.zL "heads"
 pk:zH K t.zL "labels"
 G6:Mk K t.zL t.yx
 xA:Meth K t.zL "many_open" t.kr
 oN:Meth K t.zL "takes" t.gp
 mR:Meth K t.zL "takes_done" t.xU
 mL:Meth K t.zL "takes_head" t.xR
 pj:Meth K t.zL "takes_clause" t.j7
 wQ:Meth K t.zL "put_in" t.yi
 pz:Meth K t.zL "closed" t.yo
 iC:VE K t.qX "__init__" t.z5
 Wv:VE K t.qR "__init__" t.z5
 Qr:SQ K (.ref t.jv) (.ref t.j4)=some false
 aB:SQ K (.ref t.jv) (.ref t.zI)=some false
 aP:SQ K (.ref t.qR) (.ref t.j4)=some false
 oM:SQ K (.ref t.qR) (.ref t.zI)=some false
 Je:SQ K (.ref t.xo) (.ref t.j4)=some false
 Qu:SQ K (.ref t.xo) (.ref t.zI)=some false
 aM:SQ K (.ref t.qW) (.ref t.j4)=some false
 oU:SQ K (.ref t.qW) (.ref t.zI)=some false
 Ja:SQ K (.ref t.j4) (.ref t.j4)=some true
 Bw:SQ K (.ref t.j4) (.ref t.zI)=some false
 Ql:SQ K (.ref t.zI) (.ref t.j4)=some false
 aF:SQ K (.ref t.zI) (.ref t.zI)=some true
 Qs:SQ K (.type "int") (.type "bool")=some false
 oR:SQ K (.type "list") (.type "tuple")=some false
 JF:NB K (.builtin "object.__class__") "__get__" = some (some (.builtin "getset_descriptor.__get__"))
 Yw:IZ K (.builtin "object.__class__")=some true
 VM:Sf K (.ref t.qX) "__class__" = some (some (.builtin "object.__class__"))∧To K t.qX (.type "object")=some true
 HD:Sf K (.ref t.jv) "__class__" = some (some (.builtin "object.__class__"))∧To K t.jv (.type "object")=some true
 Y8:Sf K (.ref t.qR) "__class__" = some (some (.builtin "object.__class__"))∧To K t.qR (.type "object")=some true
 F4:Sf K (.ref t.xo) "__class__" = some (some (.builtin "object.__class__"))∧To K t.xo (.type "object")=some true
 Gz:Sf K (.ref t.qW) "__class__" = some (some (.builtin "object.__class__"))∧To K t.qW (.type "object")=some true
 Y9:Sf K (.ref t.j4) "__class__" = some (some (.builtin "object.__class__"))∧To K t.j4 (.type "object")=some true
 Kr:Sf K (.ref t.zI) "__class__" = some (some (.builtin "object.__class__"))∧To K t.zI (.type "object")=some true
section
variable {P:LH} {w:Sz} {K:Ls} {mg:Str→Option Lo} {base:Heap} {t:z4}
end
structure Good (N:Nat) (x:Str):Prop where
 lo:1≤x.length
 hi:x.length≤N
 as:asc x
structure CF (K:Ls) (C fI:Addr):Prop where
 cl:c7 K C
 nl:zH K C "label"
 nw:zH K C "who"
 na:zH K C "act"
 nt:zH K C "turns"
 nr:zH K C "room"
 Lb:Mk K C fI
noncomputable def f3 (l w a:Str):List (Str × V):=[("label",.str l),("who",.str w),("act",.str a)]
noncomputable def f4 (l w a r:Str):List (Str × V):=[("label",.str l),("who",.str w),("act",.str a),("room",.str r)]
noncomputable def f5 (l w a:Str) (n:Int) (r:Str):List (Str × V):=[("label",.str l),("who",.str w),("act",.str a),("turns",.int n),("room",.str r)]
theorem n1:¬(("label" : Str) = "who"):=by decide +kernel
theorem n2:¬(("label" : Str) = "act"):=by decide +kernel
theorem n3:¬(("who" : Str) = "act"):=by decide +kernel
theorem n4:¬(("label" : Str) = "room"):=by decide +kernel
theorem n5:¬(("who" : Str) = "room"):=by decide +kernel
theorem n6:¬(("act" : Str) = "room"):=by decide +kernel
theorem n7:¬(("label" : Str) = "turns"):=by decide +kernel
theorem n8:¬(("who" : Str) = "turns"):=by decide +kernel
theorem n9:¬(("act" : Str) = "turns"):=by decide +kernel
theorem UH:¬(("turns" : Str) = "room"):=by decide +kernel
theorem put3 (l w a:Str):zY "act" (.str a) (zY "who" (.str w) (zY "label" (.str l) []))=f3 l w a:=by
 simp only[zY,f3,if_neg n1,if_neg n2,if_neg n3]
theorem Dp (l w a r:Str):zY "room" (.str r) (f3 l w a)=f4 l w a r:=by
 simp only[zY,f3,f4,if_neg n4,if_neg n5,if_neg n6]
theorem CT (l w a:Str) (n:Int) (r:Str):zY "room" (.str r) (zY "turns" (.int n) (f3 l w a))=f5 l w a n r:=by
 simp only[zY,f3,f5,if_neg n7,if_neg n8,if_neg n9,if_neg n4,if_neg n5,if_neg n6,if_neg UH]
noncomputable def mF (k:Int) (l w a:Str) (n:Int) (r:Str):List (Str × V):=if k=0 then f5 l w a n r else if k=2∨k=3 then f4 l w a r else f3 l w a
theorem zS {x:Str} {v:V} {r:List (Str × V)}:TX x ((x,v) :: r)=some v:=by simp [TX]
theorem zt {x y:Str} {v:V} {r:List (Str × V)} (h:¬(x=y)):TX x ((y,v) :: r)=TX x r:=by
 have:(x == y)=false:=beq_eq_false_iff_ne.mpr h
 simp [TX,this]
theorem Jr (k:Int) (l w a:Str) (n:Int) (r:Str):(mF k l w a n r).lookup ("label" : Str)=some (.str l):=by
 unfold mF;split
 ·exact zS
 ·split<;>exact zS
theorem Wi (k:Int) (l w a:Str) (n:Int) (r:Str):(mF k l w a n r).lookup ("who" : Str)=some (.str w):=by
 have h:=λq=>n1 (Tu q)
 unfold mF;split
 ·exact(zt h).trans zS
 ·split<;>exact(zt h).trans zS
theorem Wo (k:Int) (l w a:Str) (n:Int) (r:Str):(mF k l w a n r).lookup ("act" : Str)=some (.str a):=by
 have h1:=λq=>n2 (Tu q)
 have h2:=λq=>n3 (Tu q)
 unfold mF;split
 ·exact(zt h1).trans ((zt h2).trans zS)
 ·split<;>exact(zt h1).trans ((zt h2).trans zS)
theorem Jl (l w a:Str) (n:Int) (r:Str):(mF 0 l w a n r).lookup ("turns" : Str)=some (.int n):=
 (zt λq=>n7 (Tu q)).trans ((zt λq=>n8 (Tu q)).trans ((zt λq=>n9 (Tu q)).trans zS))
theorem KC {k:Int} (hk:k=0∨k=2∨k=3) (l w a:Str) (n:Int) (r:Str):(mF k l w a n r).lookup ("room" : Str)=some (.str r):=by
 have h1:=λq=>n4 (Tu q)
 have h2:=λq=>n5 (Tu q)
 have h3:=λq=>n6 (Tu q)
 have h4:=λq=>UH (Tu q)
 unfold mF
 by_cases h0:k=0
 ·rw[if_pos h0]
  exact(zt h1).trans ((zt h2).trans ((zt h3).trans ((zt h4).trans zS)))
 ·rw[if_neg h0,if_pos (hk.resolve_left h0)]
  exact(zt h1).trans ((zt h2).trans ((zt h3).trans zS))
theorem aJ {m:Str} (k:Int) (l w a:Str) (n:Int) (r:Str) (h:m∉(["label","who","act","turns","room"]:List Str)):(mF k l w a n r).lookup m=none:=by
 simp only[La,not_or] at h
 obtain⟨h1,h2,h3,h4,h5,_⟩:=h
 unfold mF;split
 ·exact(zt h1).trans ((zt h2).trans ((zt h3).trans ((zt h4).trans ((zt h5).trans rfl))))
 ·split
  ·exact(zt h1).trans ((zt h2).trans ((zt h3).trans ((zt h5).trans rfl)))
  ·exact(zt h1).trans ((zt h2).trans ((zt h3).trans rfl))
noncomputable def yF (t:z4) (k:Int):Addr:=if k=0 then t.jv else if k=1 then t.qR else if k=2 then t.xo else if k=3 then t.qW else t.qX
def At (t:z4) (H:Hp) (p:Addr) (k:Int) (l w a:Str) (n:Int) (r:Str):Prop:=∃dx,H p=some (.ins (yF t k) dx (mF k l w a n r))
theorem At.same {t:z4} {H H':Hp} {p:Addr} {k:Int} {l w a:Str} {n:Int} {r:Str} (h:At t H p k l w a n r) (s:zf H H'):At t H' p k l w a n r:=by
 obtain⟨dx,e⟩:=h
 exact⟨dx,s _ _ e⟩
def VY (K:Ls):Sp:=λvs H Q _=>∃(p C dx fI:Addr) (l w a:Str),vs=[.ref p,.str l,.str w,.str a]∧CF K C fI∧H p=some (.ins C dx [])∧Q .non (upd H p (.ins C dx (f3 l w a)))
def VG (K:Ls):Sp:=λvs H Q _=>∃(p C dx fI:Addr) (l w a r:Str),vs=[.ref p,.str l,.str w,.str a,.str r]∧CF K C fI∧H p=some (.ins C dx [])∧Q .non (upd H p (.ins C dx (f4 l w a r)))
def FU (K:Ls):Sp:=λvs H Q _=>∃(p C dx fI:Addr) (l w a:Str) (n:Int) (r:Str),vs=[.ref p,.str l,.str w,.str a,.int n,.str r]∧CF K C fI∧H p=some (.ins C dx [])∧Q .non (upd H p (.ins C dx (f5 l w a n r)))
theorem aj {K:Ls} {mg:Str→Option Lo} {t:z4} (T:Txt K mg t):CF K t.jv t.xZ:=⟨T.GV,T.iq,T.QK,T.QX,T.ij,T.aT,T.aU⟩
theorem sV {K:Ls} {mg:Str→Option Lo} {t:z4} (T:Txt K mg t):CF K t.qR t.z5:=⟨T.Wq,T.tO,T.aO,T.aN,T.tI,T.ik,T.tD⟩
theorem Jg {K:Ls} {mg:Str→Option Lo} {t:z4} (T:Txt K mg t):CF K t.xo t.ku:=⟨T.B9,T.aL,T.JH,T.JG,T.aS,T.QJ,T.JY⟩
theorem sW {K:Ls} {mg:Str→Option Lo} {t:z4} (T:Txt K mg t):CF K t.qW t.jL:=⟨T.Wj,T.tE,T.aE,T.aI,T.nz,T.iw,T.tU⟩
theorem Ka {K:Ls} {mg:Str→Option Lo} {t:z4} (T:Txt K mg t):CF K t.qX t.z5:=⟨T.KZ,T.lg,T.iz,T.oA,T.lZ,T.tN,T.Vq⟩
theorem sY {K:Ls} {mg:Str→Option Lo} {t:z4} (T:Txt K mg t) (k:Int):∃fI,CF K (yF t k) fI:=by
 unfold yF
 split
 ·exact⟨_,aj T⟩
 split
 ·exact⟨_,sV T⟩
 split
 ·exact⟨_,Jg T⟩
 split
 ·exact⟨_,sW T⟩
 ·exact⟨_,Ka T⟩
section
variable {K:Ls} {mg:Str→Option Lo} {t:z4} {H:Hp} {p:Addr} {k:Int} {l w a:Str} {n:Int} {r:Str} {Q:VK}
theorem At.fl (T:Txt K mg t) (h:At t H p k l w a n r):iB K H (.ref p) "label" (.str l):=by
 obtain⟨dx,e⟩:=h
 obtain⟨fI,F⟩:=sY T k
 exact⟨p,_,dx,_,rfl,e,F.cl,F.nl,Jr _ _ _ _ _ _⟩
theorem At.fw (T:Txt K mg t) (h:At t H p k l w a n r):iB K H (.ref p) "who" (.str w):=by
 obtain⟨dx,e⟩:=h
 obtain⟨fI,F⟩:=sY T k
 exact⟨p,_,dx,_,rfl,e,F.cl,F.nw,Wi _ _ _ _ _ _⟩
theorem At.fa (T:Txt K mg t) (h:At t H p k l w a n r):iB K H (.ref p) "act" (.str a):=by
 obtain⟨dx,e⟩:=h
 obtain⟨fI,F⟩:=sY T k
 exact⟨p,_,dx,_,rfl,e,F.cl,F.na,Wo _ _ _ _ _ _⟩
theorem At.ft (T:Txt K mg t) (h:At t H p 0 l w a n r):iB K H (.ref p) "turns" (.int n):=by
 obtain⟨dx,e⟩:=h
 obtain⟨fI,F⟩:=sY T 0
 exact⟨p,_,dx,_,rfl,e,F.cl,F.nt,Jl _ _ _ _ _⟩
theorem At.fr (T:Txt K mg t) (h:At t H p k l w a n r) (hk:k=0∨k=2∨k=3):iB K H (.ref p) "room" (.str r):=by
 obtain⟨dx,e⟩:=h
 obtain⟨fI,F⟩:=sY T k
 exact⟨p,_,dx,_,rfl,e,F.cl,F.nr,KC hk _ _ _ _ _⟩
end
section
variable {P:LH} {w:Sz} {K:Ls} {mg:Str→Option Lo} {base:Heap} {t:z4}
theorem oj:zu ["self","label","who","act"] ["self","label","who","act"] (zy fN):=by walk_at "sc"
theorem jG (T:Txt K mg t):ze P w K mg base zC 1 t.z5 t.jw ["self","label","who","act"] (VY K):=by
 refine T.xt.fn.ok oj (by walk_at "ln") ?_;walk_at "hd"
 obtain⟨p,C,dx,fI,l,w,a,rfl,F,hp,k⟩:=h
 refine⟨_,(zq (qT (pv 0) (pv 1) rfl)
   (zq (qT (pv 0) (pv 2) rfl)
   (zk (qT (pv 0) (pv 3) rfl)))),?_⟩
 refine⟨_,rfl,_,rfl,p,C,dx,[],rfl,hp,F.cl,F.nl,(by show 0 < 1000;decide),?_⟩
 refine⟨_,rfl,_,rfl,p,C,dx,_,rfl,zm,F.cl,F.nw,(by show 1 < 1000;decide),?_⟩
 refine⟨_,rfl,_,rfl,p,C,dx,_,rfl,zm,F.cl,F.na,?_,?_⟩
 ·have:=jm ("who" : Str) (.str w) (zY "label" (.str l) [])
  have e:(zY ("label" : Str) (.str l) []).length=1:=rfl
  omega
 ·rw[yu,yu,put3]
  exact k
theorem Zs:zu ["self","label","who","act","turns","room"] ["self","label","who","act","turns","room"] (zy rK):=by walk_at "sc"
theorem cg (T:Txt K mg t):ze P w K mg base zC 2 t.xZ t.wA ["self","label","who","act","turns","room"] (FU K):=by
 have G_Clause_init:=@ze.mono P w K mg base _ _ 1 _ _ _ _ (jG T) (by decide)
 refine T.c8.fn.ok Zs (by walk_at "ln") ?_;walk_at "hd"
 obtain⟨p,C,dx,fI,l,w,a,n,r,rfl,F,hp,k⟩:=h
 refine⟨_,(zq (zO (nB rfl T.Qi T.iC G_Clause_init hr T.xt.bd .nil zJ (zz (pv 0) (zz (pv 1) (zz (pv 2) (zz (pv 3) zj))))))
   (zq (qT (pv 0) (pv 4) rfl)
   (zk (qT (pv 0) (pv 5) rfl)))),?_⟩
 refine⟨_,rfl,_,rfl,_,rfl,_,rfl,p,C,dx,fI,l,w,a,rfl,F,hp,?_⟩
 refine⟨_,rfl,_,rfl,p,C,dx,_,rfl,zm,F.cl,F.nt,(by show 3 < 1000;decide),?_⟩
 refine⟨_,rfl,_,rfl,p,C,dx,_,rfl,zm,F.cl,F.nr,?_,?_⟩
 ·have:=jm ("turns" : Str) (.int n) (f3 l w a)
  have e:(f3 l w a).length=3:=rfl
  omega
 ·rw[yu,yu,CT]
  exact k
theorem Q1:zu ["self","label","who","act","room"] ["self","label","who","act","room"] (zy nU):=by walk_at "sc"
theorem rf (T:Txt K mg t):ze P w K mg base zC 2 t.ku t.gy ["self","label","who","act","room"] (VG K):=by
 have G_Clause_init:=@ze.mono P w K mg base _ _ 1 _ _ _ _ (jG T) (by decide)
 refine T.sf.fn.ok Q1 (by walk_at "ln") ?_;walk_at "hd"
 obtain⟨p,C,dx,fI,l,w,a,r,rfl,F,hp,k⟩:=h
 refine⟨_,(zq (zO (nB rfl T.Qi T.iC G_Clause_init hr T.xt.bd .nil zJ (zz (pv 0) (zz (pv 1) (zz (pv 2) (zz (pv 3) zj))))))
   (zk (qT (pv 0) (pv 4) rfl))),?_⟩
 refine⟨_,rfl,_,rfl,_,rfl,_,rfl,p,C,dx,fI,l,w,a,rfl,F,hp,?_⟩
 refine⟨_,rfl,_,rfl,p,C,dx,_,rfl,zm,F.cl,F.nr,(by show 3 < 1000;decide),?_⟩
 rw[yu,Dp]
 exact k
theorem ia:zu ["self","label","who","act","room"] ["self","label","who","act","room"] (zy cY):=by walk_at "sc"
theorem fD (T:Txt K mg t):ze P w K mg base zC 2 t.jL t.vW ["self","label","who","act","room"] (VG K):=by
 have G_Clause_init:=@ze.mono P w K mg base _ _ 1 _ _ _ _ (jG T) (by decide)
 refine T.mm.fn.ok ia (by walk_at "ln") ?_;walk_at "hd"
 obtain⟨p,C,dx,fI,l,w,a,r,rfl,F,hp,k⟩:=h
 refine⟨_,(zq (zO (nB rfl T.aD T.Wv G_Clause_init hr T.xt.bd .nil zJ (zz (pv 0) (zz (pv 1) (zz (pv 2) (zz (pv 3) zj))))))
   (zk (qT (pv 0) (pv 4) rfl))),?_⟩
 refine⟨_,rfl,_,rfl,_,rfl,_,rfl,p,C,dx,fI,l,w,a,rfl,F,hp,?_⟩
 refine⟨_,rfl,_,rfl,p,C,dx,_,rfl,zm,F.cl,F.nr,(by show 3 < 1000;decide),?_⟩
 rw[yu,Dp]
 exact k
theorem ji {H:Hp} {x dx:Addr} {o o':HO} (hx:H x=none) (hdx:H dx=none) (hne:dx≠x):zf H (upd (upd (upd H dx (.own x)) x o) x o'):=by
 rw[yu]
 exact(zf.Vx hdx).new (by rw[zP (SF hne)];exact hx)
theorem XH:jT.length=10∧jT.cps.toList=[48,49,50,51,52,53,54,55,56,57]:=by decide +kernel
theorem X2:zA.length=26∧zA.cps.toList.length=26∧∀c∈zA.cps.toList,c < 128:=by decide +kernel
noncomputable def has (z:Str) (c:Nat):Bool:=!(Nc z ⟨#[c]⟩ 0 z.length 1).isEmpty
noncomputable def bp (x z:Str) (m:Int):Bool:=decide (1≤x.length) && decide ((x.length:Int)≤m) && x.cps.toList.all (has z)
noncomputable def zZ (x:Str):Bool:=bp x zA 8 && !ZS (.str x) (gJ.map V.str)
theorem KA:(gJ.map V.str).all bI=true:=by decide +kernel
theorem Qh (c:Nat):has jT c=decide (48≤c∧c≤57):=by
 unfold has
 rw[OE,XH.2]
 by_cases h:48≤c∧c≤57
 ·rw[zzP h]
  simp
  omega
 ·rw[decide_eq_false h]
  simp
  omega
noncomputable def gY (x:Str):Int:=if bp x jT 20=true∧x.cps.toList.head?≠some 48 then ((TU x.cps.toList:Nat):Int) else 0
def Xh:Sp:=λvs H Q _=>∃(x z:Str) (m:Int),vs=[.str x,.str z,.int m]∧x.length≤400∧z.length≤100∧∀H',zf H H'→Q (.bl (bp x z m)) H'
def ZX:Sp:=λvs H Q _=>∃(x:Str),vs=[.str x]∧x.length≤400∧∀H',zf H H'→Q (.bl (zZ x)) H'
def YO:Sp:=λvs H Q _=>∃(x:Str),vs=[.str x]∧x.length≤400∧∀H',zf H H'→Q (.int (gY x)) H'
theorem V5 {x z:Str} {bs:List Bool} (hl:bs.length=x.length) (h:∀(i:Nat) (c:Nat) (b:Bool),x.cps.toList[i]?=some c→bs[i]?=some b→b=has z c):bs.all id=x.cps.toList.all (has z):=by
 have e:bs=x.cps.toList.map (has z):=by
  apply Ox
  intro i
  rw[LV]
  cases q:x.cps.toList[i]? with
  | none=>
   have:x.cps.toList.length≤i:=SN.mp q
   exact SN.mpr (by rw[hl];simpa [TY] using this)
  | some c=>
   have hi:i < bs.length:=by
    rw[hl]
    have:=(LN.mp q).1
    simpa [TY] using this
   rw[Le hi,Tq,h i c _ q (Le hi)]
 rw[e,A4]
 rfl
theorem rF {x:Str} {m:Int} (h:bp x jT m=true):1≤x.length∧(x.length:Int)≤m∧N6 x.cps.toList:=by
 unfold bp at h
 rw[SR,SR] at h
 obtain⟨⟨h1,h2⟩,h3⟩:=h
 refine⟨zzB h1,zzB h2,λc hc=>?_⟩
 have:=Tc.mp h3 c hc
 rw[Qh] at this
 exact zzB this
theorem Qj {x:Str} (h:1≤x.length):∃c,x.cps.toList.head?=some c∧vX x.cps.toList 0=some c:=by
 have hl:0 < x.cps.toList.length:=by have h':1≤x.cps.size:=h;rw[OQ];omega
 cases e:x.cps.toList with
 | nil=>rw[e] at hl;simp at hl
 | cons c r=>exact⟨c,rfl,kF (xs:=c :: r) (j:=0) (v:=c) rfl⟩
theorem P8 (c d:Nat):decide (V.str ⟨#[c]⟩=V.str ⟨#[d]⟩)=decide (c=d):=by
 by_cases h:c=d
 ·subst h;simp
 ·have:¬(V.str ⟨#[c]⟩=V.str ⟨#[d]⟩):=λq=>h (by injection q with q;injection q with q;simpa using q)
  rw[decide_eq_false this,decide_eq_false h]
theorem Gh:("0" : Str)=⟨#[48]⟩:=by decide +kernel
theorem GN (T:Txt K mg t) (H:Hp):jt K H t.aG (gJ.map V.str):=.inr T.P7
theorem cL:zu ["word","signs","most"] ["word","signs","most"] (zy kY):=by walk_at "sc"
theorem yy (T:Txt K mg t):ze P w K mg base zC 1 t.jS t.jR ["word","signs","most"] Xh:=by
 refine T.jj.fn.ok cL (by walk_at "ln") ?_;walk_at "hd"
 obtain⟨x,z,m,rfl,hx,hz,k⟩:=h
 refine⟨_,(zq (zW (PW.pt (vQ (zd Yb (zX dJ rfl T.qJ L4 (zz (pv 0) zj)) zx (zQ _)) (kW (zd fL (zX dJ rfl T.qJ L4 (zz (pv 0) zj)) (pv 2) (zQ _)))))
    (zk (zp xK)) zr)
   (zk (zp (zX (yl rfl) rfl T.V9 Oy (zz (cZ (osc:=zy kY) (N:=["word","signs","most"]) (names:=["signs"]) (zR:=[1]) rfl rfl rfl ⟨rfl,by decide +kernel,by decide +kernel,by decide +kernel,rfl,rfl,by decide +kernel,by decide +kernel⟩ (Fs (pv 0)) (λ_ _ _=>(yg Vu (pv 0) (pv 1) rfl))) zj))))),?_⟩
 refine⟨_,rfl,x,rfl,zg (by omega),_,_,rfl,rfl,_,rfl,?_⟩
 refine zD (λh1=>dA ?_) (λh1=>?_)
 ·have e:bp x z m=false:=by
   have:¬(1≤x.length):=by have:=zzB h1;omega
   simp [bp,this]
  have:=k H (zf.refl H)
  rw[e] at this
  exact this
 refine⟨_,rfl,x,rfl,zg (by omega),_,rfl,_,_,rfl,rfl,_,rfl,?_⟩
 refine zD (λh2=>?_) (λh2=>?_)
 ·have e:bp x z m=false:=by
   have:¬((x.length:Int)≤m):=by have:=zzB h2;omega
   simp [bp,this]
  have:=k H (zf.refl H)
  rw[e] at this
  exact this
 have e1:1≤x.length:=by have:¬((x.length:Int) < 1):=λq=>h1 (zzP q);omega
 have e2:(x.length:Int)≤m:=by have:¬(m < (x.length:Int)):=λq=>h2 (zzP q);omega
 refine⟨_,rfl,x,rfl,bK (YW (z:=x)) (λ_ y v=>∀c,y=.str ⟨#[c]⟩→v=.bl (has z c)) (zg (by simp [TY] at hx ⊢;omega)) ?_ ?_⟩
 ·intro i y H' Q' hy s' kk
  rw[LV] at hy
  cases q:x.cps.toList[i]? with
  | none=>rw[q] at hy;cases hy
  | some c=>
   rw[q] at hy
   cases hy
   refine⟨_,rfl,_,rfl,_,_,rfl,rfl,kk _ _ (zf.refl _) λc' e=>?_⟩
   have:c=c':=by simpa using e
   subst this
   rfl
 ·intro D H' ys s' hD hy hlen hp
  have hlen':ys.length=x.length:=by simpa [TY] using hlen
  obtain⟨bs,rfl⟩:=eE ys λv hv=>by
   obtain⟨i,hi,e⟩:=NN hv
   have hix:i < x.cps.toList.length:=by rw[hlen'] at hi;simpa [TY] using hi
   exact⟨_,hp i _ v (by rw[LV,Le hix];rfl) (by rw[Le hi,e]) _ rfl⟩
  refine⟨D,bs,rfl,zK.of hy,?_⟩
  have e3:bs.all id=x.cps.toList.all (has z):=V5 (by simpa using hlen') λi c b q1 q2=>by
   have:=hp i (.str ⟨#[c]⟩) (.bl b) (by rw[LV,q1];rfl) (by rw[LV,q2];rfl) c rfl
   simpa using this
  have:=k H' s'
  rw[show bp x z m=bs.all id by rw[e3];simp [bp,e1,e2]] at this
  exact this
theorem Zo:zu ["word"] ["word"] (zy rY):=by walk_at "sc"
theorem gG (T:Txt K mg t):ze P w K mg base zC 2 t.vw t.vx ["word"] ZX:=by
 have G_v_written_with:=@ze.mono P w K mg base _ _ 1 _ _ _ _ (yy T) (by decide)
 refine T.qI.fn.ok Zo (by walk_at "ln") ?_;walk_at "hd"
 obtain⟨x,rfl,hx,k⟩:=h
 refine⟨_,(zk (zp (Zy (zi G_v_written_with hr rfl T.jj.mg T.jj.fn.kp T.jj.bd .nil zJ (zz (pv 0) (zz (jk rfl (T.KR).choose_spec (v:=.str zA) ⟨_,rfl⟩) (zz (jk rfl (T.tV).choose_spec (v:=.int 8) ⟨_,rfl⟩) zj)))) (nP (yg (p8 (K:=K) rfl) (pv 0) (jk rfl T.Pu (v:=.ref t.aG) rfl) rfl))))),?_⟩
 refine⟨_,rfl,x,zA,8,rfl,hx,by decide +kernel,λH' s'=>⟨_,rfl,?_⟩⟩
 walk_at "x3"
 ·refine⟨_,rfl,_,_,rfl,.inr (GN T H'),rfl,KA,?_⟩
  have:=k H' s'
  rw[show zZ x = !ZS (.str x) (gJ.map V.str) by simp [zZ,h1]] at this
  exact this
 ·have:=k H' s'
  rw[show zZ x=false by simp [zZ,h1]] at this
  exact this
theorem ot:zu ["word"] ["word"] (zy mx):=by walk_at "sc"
theorem pQ (T:Txt K mg t):ze P w K mg base zC 2 t.kS t.kC ["word"] YO:=by
 have G_v_written_with:=@ze.mono P w K mg base _ _ 1 _ _ _ _ (yy T) (by decide)
 refine T.jP.fn.ok ot (by walk_at "ln") ?_;walk_at "hd"
 obtain⟨x,rfl,hx,k⟩:=h
 refine⟨_,(zq (zW (PW.pt (vQ (jg (qt (zi G_v_written_with hr rfl T.jj.mg T.jj.fn.kp T.jj.bd .nil zJ (zz (pv 0) (zz (jk rfl (T.KU).choose_spec (v:=.str jT) ⟨_,rfl⟩) (zz (jk rfl (T.tK).choose_spec (v:=.int 20) ⟨_,rfl⟩) zj)))))) (kW (zd qz (zc aY (pv 0) zx (λ_ _=>rfl)) zw (zQ _)))))
    (zk (zp zx)) zr)
   (zk (zp (z8 yt rfl T.Xe NG (zz (pv 0) zj))))),?_⟩
 refine⟨_,rfl,x,jT,20,rfl,hx,by rw[XH.1];decide,λH' s'=>⟨_,rfl,?_⟩⟩
 cases hw:bp x jT 20 with
 | false=>
  refine dA (dA ?_)
  have:=k H' s'
  rw[show gY x=0 by unfold gY;rw[if_neg (by rw[hw];simp)]] at this
  exact this
 | true=>
  refine tG ?_
  obtain⟨h1,h2,h3⟩:=rF hw
  obtain⟨c,e1,e2⟩:=Qj h1
  refine⟨_,rfl,x,_,c,rfl,rfl,zg (by omega),e2,rfl,_,rfl,?_⟩
  have hz:=P8 c 48
  rw[←Gh] at hz
  refine zD (λh4=>?_) (λh4=>?_)
  ·have h4':decide (V.str ⟨#[c]⟩=V.str ("0" : Str))=true:=h4
   rw[hz] at h4'
   have hc:c=48:=zzB h4'
   have:=k H' s'
   rw[show gY x=0 by unfold gY;rw[if_neg (by rw[e1,hc];simp)]] at this
   exact this
  ·have hc:c≠48:=λq=>h4 (by show decide (V.str ⟨#[c]⟩=V.str ("0" : Str))=true;rw[hz];exact zzP q)
   have hne:x.cps.toList≠[]:=λq=>by rw[q] at e1;cases e1
   refine⟨_,rfl,x,_,rfl,ID h3 hne (by omega),by omega,?_⟩
   have:=k H' s'
   rw[show gY x=((TU x.cps.toList:Nat):Int) by unfold gY;rw[if_pos ⟨hw,by rw[e1];simpa using hc⟩]] at this
   exact this
end
local macro_rules | `(tactic| walk_at "at")=>`(tactic| first | assumption | exact At.same (by assumption) (by walk_at "sm"))
local macro_rules | `(tactic| walk_at "fld")=>`(tactic| first
 | with_reducible exact At.fl (by assumption) (by walk_at "at") | with_reducible exact At.fw (by assumption) (by walk_at "at") | with_reducible exact At.fa (by assumption) (by walk_at "at")
 | with_reducible exact At.ft (by assumption) (by walk_at "at") | with_reducible exact At.fr (by assumption) (by walk_at "at") (by first | assumption | omega))
section
variable {P:LH} {w:Sz} {K:Ls} {mg:Str→Option Lo} {base:Heap} {t:z4}
noncomputable def vy (x p:Str):Bool:=if p = "NAME" then zZ x else if p = "WHO" then zZ x || decide (x = "any") else if p = "NUMBER" then decide (gY x > 0) else decide (x=p)
noncomputable def ja (ws fs:List Str):Bool:=decide (ws.length=fs.length) && (ws.zip fs).all λp=>vy p.1 p.2
noncomputable def fo (ws:List Str) (m:Int):Bool:=decide (1≤ws.length) && decide ((ws.length:Int)≤m) && ws.all zZ
structure Sh (ws:List Str):Prop where
 ai:ws.length≤200
 short:∀x∈ws,x.length≤400
theorem Sh.drop {ws:List Str} (h:Sh ws) (n:Nat):Sh (ws.drop n):=⟨by have:=h.ai;rw[Tx];omega,λx hx=>h.short x (Oi hx)⟩
theorem Sh.take {ws:List Str} (h:Sh ws) (n:Nat):Sh (ws.take n):=⟨by have:=h.ai;rw[L3];omega,λx hx=>h.short x (Tp hx)⟩
theorem cT (a b:Str):decide (V.str a=V.str b)=decide (a=b):=by
 by_cases h:a=b
 ·subst h;simp
 ·have:¬(V.str a=V.str b):=λq=>h (by injection q)
  rw[decide_eq_false this,decide_eq_false h]
theorem lA {a b:Str} (h:decide (V.str a=V.str b)=true):a=b:=by rw[cT] at h;exact zzB h
theorem l9 {a b:Str} (h:¬decide (V.str a=V.str b)=true):a≠b:=λq=>h (by rw[cT];exact zzP q)
theorem Kc {a b:Str} (h:(!decide (V.str a=V.str b))=true):a≠b:=λq=>by subst q;simp at h
theorem Kd {a b:Str} (h:¬(!decide (V.str a=V.str b))=true):a=b:=by
 rw[cT] at h
 by_cases q:a=b
 ·exact q
 ·exact absurd (by rw[decide_eq_false q];rfl) h
theorem nQ {b:Bool} (h:(!b)=true):b=false:=by cases b;rfl;cases h
theorem nZ {b:Bool} (h:¬(!b)=true):b=true:=by cases b;exact absurd rfl h;rfl
theorem uI {ws:List Str} {i:Nat} (h:i < ws.length):ws.getD i ""∈ws:=by
 rw[L7,Le h]
 exact T5 h
def Kp:Sp:=λvs H Q _=>∃(x p:Str),vs=[.str x,.str p]∧x.length≤400∧∀H',zf H H'→Q (.bl (vy x p)) H'
def ZZ (K:Ls):Sp:=λvs H Q _=>∃(a b:Addr) (ws fs:List Str),vs=[.ref a,.ref b]∧zK K H a (ws.map V.str)∧zK K H b (fs.map V.str)∧Sh ws∧∀H',zf H H'→Q (.bl (ja ws fs)) H'
def YF (K:Ls):Sp:=λvs H Q _=>∃(a:Addr) (m:Int) (ws:List Str),vs=[.ref a,.int m]∧zK K H a (ws.map V.str)∧Sh ws∧∀H',zf H H'→Q (.bl (fo ws m)) H'
theorem all_map {α:Type} {xs:List α} {bs:List Bool} {f:α→Bool} (hl:bs.length=xs.length) (h:∀(i:Nat) x b,xs[i]?=some x→bs[i]?=some b→b=f x):bs.all id=xs.all f:=by
 have e:bs=xs.map f:=by
  apply Ox
  intro i
  rw[LV]
  cases q:xs[i]? with
  | none=>exact SN.mpr (by rw[hl];exact SN.mp q)
  | some c=>
   have hi:i < bs.length:=by rw[hl];exact(LN.mp q).1
   rw[Le hi,Tq,h i c _ q (Le hi)]
 rw[e,A4]
 rfl
theorem lP:zu ["word","place"] ["word","place"] (zy pP):=by walk_at "sc"
theorem lK (T:Txt K mg t):ze P w K mg base zC 3 t.wc t.vA ["word","place"] Kp:=by
 have G_v_is_name:=@ze.mono P w K mg base _ _ 2 _ _ _ _ (gG T) (by decide)
 have G_v_number_of:=@ze.mono P w K mg base _ _ 2 _ _ _ _ (pQ T) (by decide)
 refine T.vD.fn.ok lP (by walk_at "ln") ?_;walk_at "hd"
 obtain⟨x,p,rfl,hx,k⟩:=h
 refine⟨_,(zq (zW (zd qz (pv 1) zw (zQ _))
    (zk (zp (zi G_v_is_name hr rfl T.qI.mg T.qI.fn.kp T.qI.bd .nil zJ (zz (pv 0) zj)))) zr)
   (zq (zW (zd qz (pv 1) zw (zQ _))
    (zk (zp (Dw (zi G_v_is_name hr rfl T.qI.mg T.qI.fn.kp T.qI.bd .nil zJ (zz (pv 0) zj)) (nP (yg qz (pv 0) zw (zQ _)))))) zr)
   (zq (zW (zd qz (pv 1) zw (zQ _))
    (zk (zp (yg fL (zi G_v_number_of hr rfl T.jP.mg T.jP.fn.kp T.jP.bd .nil zJ (zz (pv 0) zj)) zx (zQ _)))) zr)
   (zk (zp (yg qz (pv 0) (pv 1) (zQ _))))))),?_⟩
 walk_at "rd"
 walk_at "x3"
 ·have e:=lA h1
  subst e
  walk_at "rd"
  intro H' s'
  have:=k H' s'
  unfold vy at this
  rw[if_pos rfl] at this
  exact this
 have n1:=l9 h1
 walk_at "rd"
 refine zD (λh2=>?_) (λh2=>?_)
 ·have e:=lA h2
  subst e
  walk_at "rd"
  intro H' s'
  have:=k H' s'
  unfold vy at this
  rw[if_neg n1,if_pos rfl] at this
  refine⟨_,rfl,?_⟩
  refine zD (λh3=>?_) (λh3=>?_)
  ·rw[h3] at this;exact this
  ·walk_at "rd"
   rw[cT]
   rw[Bool.eq_false_iff.mpr h3] at this
   exact this
 have n2:=l9 h2
 walk_at "rd"
 refine zD (λh3=>?_) (λh3=>?_)
 ·have e:=lA h3
  subst e
  walk_at "rd"
  intro H' s'
  walk_at "rd"
  have:=k H' s'
  unfold vy at this
  rw[if_neg n1,if_neg n2,if_pos rfl] at this
  exact this
 have n3:=l9 h3
 walk_at "rd"
 have:=k H (zf.refl H)
 unfold vy at this
 rw[if_neg n1,if_neg n2,if_neg n3] at this
 rw[cT]
 exact this
theorem ou:zu ["words","form"] ["words","form"] (zy yH):=by walk_at "sc"
theorem wY (T:Txt K mg t):ze P w K mg base zC 4 t.xk t.xj ["words","form"] (ZZ K):=by
 have G_v_fits_place:=@ze.mono P w K mg base _ _ 3 _ _ _ _ (lK T) (by decide)
 refine T.zN.fn.ok ou (by walk_at "ln") ?_;walk_at "hd"
 obtain⟨a,b,ws,fs,rfl,hA,hB,hS,k⟩:=h
 refine⟨_,(zq (zW (zd cn (zX (zG (K:=K) rfl) rfl T.qJ L4 (zz (pv 0) zj)) (zX (zG (K:=K) rfl) rfl T.qJ L4 (zz (pv 1) zj)) (zQ _))
    (zk (zp xK)) zr)
   (zk (zp (zX (yl rfl) rfl T.V9 Oy (zz (vR (osc:=zy yH) (N:=["words","form"]) (xs:=["word","place"]) (names:=[]) (zR:=[]) rfl rfl rfl ⟨rfl,by decide +kernel,by decide +kernel,by decide +kernel,by decide +kernel,rfl,by decide +kernel,by decide +kernel⟩ (Hm (K:=K) rfl rfl T.MK (zz (pv 0) (zz (pv 1) zj)) A9) (λ_ _ _=>(vB (K:=K) (n:=2) rfl rfl (qu (zM (i:=0) (show (["word","place"]:List Str).Nodup from by decide +kernel) rfl (.inl (wC rfl)) (.inr (wC rfl))) (qu (zM (i:=1) (show (["word","place"]:List Str).Nodup from by decide +kernel) rfl (.inl (wC rfl)) (.inr (wC rfl))) vP)) rfl rfl)) (λ_ _ _=>lT) (λ_ _ _=>(zi G_v_fits_place hr rfl T.vD.mg T.vD.fn.kp T.vD.bd .nil zJ (zz (pv 0) (zz (pv 1) zj))))) zj))))),?_⟩
 refine⟨_,rfl,a,_,rfl,.inl hA,_,rfl,b,_,rfl,.inl hB,rfl,_,rfl,?_⟩
 rw[Ln,Ln]
 walk_at "x3"
 ·have:=k H (zf.refl H)
  have e:¬ws.length=fs.length:=by
   intro q;rw[q] at h1;simp at h1
  unfold ja at this
  rw[decide_eq_false e] at this
  exact this
 have hl:ws.length=fs.length:=by
  by_cases q:ws.length=fs.length
  ·exact q
  ·exact absurd (by simp;omega) h1
 refine⟨_,rfl,_,rfl,a,b,_,_,rfl,hA,hB,?_⟩
 refine Ww hA hB (λx y v=>∀x' y',x=.str x'→y=.str y'→v=.bl (vy x' y')) (zg (by have:=hS.ai;rw[Ln];omega)) ?_ ?_
 ·intro i x y H' Q' e1 e2 s' kk
  rw[LV] at e1 e2
  cases q1:ws[i]? with
  | none=>rw[q1] at e1;cases e1
  | some x'=>
   cases q2:fs[i]? with
   | none=>rw[q2] at e2;cases e2
   | some y'=>
    rw[q1] at e1
    rw[q2] at e2
    cases e1
    cases e2
    refine⟨_,rfl,_,rfl,x',y',rfl,hS.short x' (LC q1),λH4 s4=>kk _ _ s4 λa b ea eb=>?_⟩
    cases ea
    cases eb
    rfl
 ·intro D H' vs s' hD hv hvl hp
  rw[Ln,Ln,hl,A5] at hvl
  obtain⟨bs,rfl⟩:=eE vs λv hv'=>by
   obtain⟨i,hi,e⟩:=NN hv'
   have h1:i < ws.length:=by omega
   have h2:i < fs.length:=by omega
   exact⟨_,hp i _ _ v (by rw[LV,Le h1];rfl) (by rw[LV,Le h2];rfl) (by rw[Le hi,e]) _ _ rfl rfl⟩
  refine⟨D,bs,rfl,zK.of hv,?_⟩
  have e:bs.all id=(ws.zip fs).all λp=>vy p.1 p.2:=all_map (by rw[List.length_zip,hl,A5];simpa using hvl) λi p b q1 q2=>by
   rw[List.getElem?_zip_eq_some] at q1
   have:=hp i _ _ (.bl b) (by rw[LV,q1.1];rfl) (by rw[LV,q1.2];rfl) (by rw[LV,q2];rfl) _ _ rfl rfl
   simpa using this
  have:=k H' s'
  unfold ja at this
  rw[zzP hl,←e] at this
  exact this
theorem om:zu ["words","most"] ["words","most"] (zy yG):=by walk_at "sc"
theorem pZ (T:Txt K mg t):ze P w K mg base zC 3 t.kL t.kD ["words","most"] (YF K):=by
 have G_v_is_name:=@ze.mono P w K mg base _ _ 2 _ _ _ _ (gG T) (by decide)
 refine T.jB.fn.ok om (by walk_at "ln") ?_;walk_at "hd"
 obtain⟨a,m,ws,rfl,hA,hS,k⟩:=h
 refine⟨_,(zk (zp (Zy (Yf Bu Bu zx (zX (zG (K:=K) rfl) rfl T.qJ L4 (zz (pv 0) zj)) (pv 1)) (nP (zX (yl rfl) rfl T.V9 Oy (zz (cZ (osc:=zy yG) (N:=["words","most"]) (names:=[]) (zR:=[]) rfl rfl rfl ⟨rfl,by decide +kernel,by decide +kernel,by decide +kernel,rfl,rfl,by decide +kernel,by decide +kernel⟩ (qp (K:=K) rfl (pv 0)) (λ_ _ _=>(zi G_v_is_name hr rfl T.qI.mg T.qI.fn.kp T.qI.bd .nil zJ (zz (pv 0) zj)))) zj)))))),?_⟩
 walk_at "rd"
 refine⟨a,_,rfl,.inl hA,_,_,rfl,rfl,_,rfl,?_⟩
 rw[Ln]
 have no:∀H',zf H H'→fo ws m=false→Q (.bl false) H':=λH' s' e=>by have:=k H' s';rw[e] at this;exact this
 walk_at "x3"
 ·have h1':1≤ws.length:=by have:=zzB h1;omega
  refine⟨_,rfl,_,_,rfl,rfl,_,rfl,?_⟩
  refine zD (λh2=>?_) (λh2=>?_)
  ·have h2':(ws.length:Int)≤m:=zzB h2
   refine⟨_,rfl,a,rfl,⟨_,hA⟩,bK (xW hA) (λ_ y v=>∀x,y=.str x→v=.bl (zZ x)) (zg (by have:=hS.ai;rw[Ln];omega)) ?_ ?_⟩
   ·intro i y H' Q' e1 s' kk
    rw[LV] at e1
    cases q1:ws[i]? with
    | none=>rw[q1] at e1;cases e1
    | some x'=>
     rw[q1] at e1
     cases e1
     exact⟨_,rfl,x',rfl,hS.short x' (LC q1),λH4 s4=>kk _ _ s4 λa ea=>by cases ea;rfl⟩
   ·intro D H' vs s' hD hv hvl hp
    rw[Ln] at hvl
    obtain⟨bs,rfl⟩:=eE vs λv hv'=>by
     obtain⟨i,hi,e⟩:=NN hv'
     have h1:i < ws.length:=by omega
     exact⟨_,hp i _ v (by rw[LV,Le h1];rfl) (by rw[Le hi,e]) _ rfl⟩
    refine⟨D,bs,rfl,zK.of hv,?_⟩
    have e:bs.all id=ws.all zZ:=all_map (by simpa using hvl) λi p b q1 q2=>by
     have:=hp i _ (.bl b) (by rw[LV,q1];rfl) (by rw[LV,q2];rfl) _ rfl
     simpa using this
    have:=k H' s'
    unfold fo at this
    rw[zzP h1',zzP h2',←e] at this
    exact this
  ·refine no H (zf.refl H) ?_
   have:¬(ws.length:Int)≤m:=λq=>h2 (zzP q)
   simp [fo,this]
 ·refine⟨false,rfl,tG ?_⟩
  refine no H (zf.refl H) ?_
  have:¬1≤ws.length:=λq=>h1 (zzP (by omega))
  simp only[fo,decide_eq_false this,Ag]
noncomputable def vh (x:Str):List Str:=TJ x " "
theorem lE (x:Str):1≤(vh x).length∧(vh x).length≤x.length + 2:=⟨Na x " ",IW x " "⟩
theorem oV {x:Str} (h:x.length≤190):Sh (vh x):=⟨by have:=(lE x).2;omega,λy hy=>by have:=A0 (x:=x) (y:=" ") hy;omega⟩
theorem vO {α:Type} (f:α→V) (xs:List α) (n:Nat):dW (xs.map f) (some (n:Int)) none=(xs.drop n).map f:=by
 unfold dW
 rw[HT.lI,HT.QN,Ln,←AN,←O1]
 by_cases h:n≤xs.length
 ·rw[NV h,Io (by rw[Tx];omega)]
 ·rw[E3 (by omega),EH,Ii (LF _),Ii (by omega)]
  rfl
theorem Z8 {α:Type} (f:α→V) (xs:List α) (n:Nat):dW (xs.map f) none (some (n:Int))=(xs.take n).map f:=by
 unfold dW
 rw[HT.lI,HT.QN,Ln,OC,Nat.sub_zero,←O1]
 by_cases h:n≤xs.length
 ·rw[NV h]
 ·rw[E3 (by omega),SE,Io (by omega)]
noncomputable def wd (ws:List Str) (i:Nat):Str:=ws.getD i ""
noncomputable def Ws:List Str:=["let","NAME","be","NAME"]
noncomputable def tj:List Str:=["part","NAME"]
noncomputable def XF:List Str:=["NAME","NAME","must","NAME","by","NUMBER","else","NAME"]
noncomputable def ar:List Str:=["NAME","WHO","may","NAME"]
noncomputable def GP:List Str:=["NAME","WHO","may","not","NAME","else","NAME"]
noncomputable def Jd:List Str:=["NAME","WHO","by","NAME","to","NAME"]
noncomputable def j8 (ws:List Str) (x:Str) (m:Int):List Str:=if wd ws 0≠x∨fo (ws.drop 1) m=false then [] else ws.drop 1
noncomputable def pV (ws:List Str):Option (Str × Str):=if ws.length=2∧ZS (.str (wd ws 0)) (zF.map V.str)=true∧zZ (wd ws 1)=true then some (wd ws 0,wd ws 1) else none
noncomputable def K6 (ws:List Str):Option (Str × Str):=if ja ws Ws=true then some (wd ws 1,wd ws 3) else none
noncomputable def kq (ws:List Str):Option (Str × List Str):=if ja (ws.take 2) tj=true then (if ws.length=2 then some (wd ws 1,[]) else if wd ws 2≠"in"∨fo (ws.drop 3) 12=false then none else some (wd ws 1,ws.drop 3)) else none
noncomputable def qe (ws:List Str):Option (Int × Str × Str × Str × Int × Str):=
 if ja ws XF=true then some (0,wd ws 0,wd ws 1,wd ws 3,gY (wd ws 5),wd ws 7)
 else if ja ws ar=true then some (1,wd ws 0,wd ws 1,wd ws 3,0,"")
 else if ja ws GP=true then some (2,wd ws 0,wd ws 1,wd ws 4,0,wd ws 6)
 else if ja ws Jd=true then some (3,wd ws 0,wd ws 1,wd ws 3,0,wd ws 5)
 else none
theorem yS {ws fs:List Str} (h:ja ws fs=true):ws.length=fs.length:=by
 unfold ja at h
 rw[SR] at h
 exact zzB h.1
noncomputable def Mg (n v:Str):List (Str × V):=[("name",.str n),("value",.str v)]
noncomputable def XU (n:Str) (a b:Addr):List (Str × V):=[("name",.str n),("rooms",.ref a),("rows",.ref b)]
theorem m1:¬(("name" : Str) = "value"):=by decide +kernel
theorem m2:¬(("name" : Str) = "rooms"):=by decide +kernel
theorem m3:¬(("name" : Str) = "rows"):=by decide +kernel
theorem m4:¬(("rooms" : Str) = "rows"):=by decide +kernel
theorem Dm (n v:Str):zY "value" (.str v) (zY "name" (.str n) [])=Mg n v:=by
 simp only[zY,Mg,if_neg m1]
theorem Dd (n:Str) (a b:Addr):zY "rows" (.ref b) (zY "rooms" (.ref a) (zY "name" (.str n) []))=XU n a b:=by
 simp only[zY,XU,if_neg m2,if_neg m3,if_neg m4]
def BE (t:z4) (H:Hp) (p:Addr) (n v:Str):Prop:=∃dx,H p=some (.ins t.j4 dx (Mg n v))
def VI (t:z4) (H0 H:Hp) (p:Addr) (n:Str) (rs:List Str) (ys:List V):Prop:=∃dx a b,H p=some (.ins t.zI dx (XU n a b))∧H a=some (.lst (rs.map V.str))∧H b=some (.lst ys)∧H0 a=none∧H0 b=none
abbrev Rx (t:z4) (H0 H:Hp) (p:Addr) (n:Str) (rs:List Str):Prop:=VI t H0 H p n rs []
theorem VI.back {t:z4} {H0 H1 H:Hp} {p:Addr} {n:Str} {rs:List Str} {ys:List V} (h:VI t H1 H p n rs ys) (s:zf H0 H1):VI t H0 H p n rs ys:=by
 obtain⟨dx,a,b,e1,e2,e3,f1,f2⟩:=h
 exact⟨dx,a,b,e1,e2,e3,s.free f1,s.free f2⟩
def Off (p:Addr) (H H':Hp):Prop:=∀b o,b≠p→H b=some o→H' b=some o
def FR (t:z4):Sp:=λvs H Q _=>∃(p dx:Addr) (n v:Str),vs=[.ref p,.str n,.str v]∧H p=some (.ins t.j4 dx [])∧Q .non (upd H p (.ins t.j4 dx (Mg n v)))
def YL (K:Ls) (t:z4):Sp:=λvs H Q _=>∃(p dx a b:Addr) (n:Str) (xs:List Str) (ys:List V),vs=[.ref p,.str n,.ref a,.ref b]∧H p=some (.ins t.zI dx [])∧H a=some (.lst (xs.map V.str))∧H b=some (.lst ys)∧
 ∀H',Off p H H'→VI t H H' p n xs ys→Q .non H'
def BW:Sp:=λvs H Q _=>∃(x y:Str) (m:Int),vs=[.str x,.str y,.int m]∧x.length≤190∧∀l H',zf H H'→H l=none→H' l=some (.lst ((j8 (vh x) y m).map V.str))→Q (.ref l) H'
def Y0:Sp:=λvs H Q _=>∃(x:Str),vs=[.str x]∧x.length≤190∧∀H',zf H H'→(pV (vh x)=none→Q .non H')∧∀p m n,pV (vh x)=some (m,n)→H p=none→H' p=some (.tup [.str m,.str n])→Q (.ref p) H'
def BK (t:z4):Sp:=λvs H Q _=>∃(x:Str),vs=[.str x]∧x.length≤190∧∀H',zf H H'→(K6 (vh x)=none→Q .non H')∧∀p n v,K6 (vh x)=some (n,v)→H p=none→BE t H' p n v→Q (.ref p) H'
def YE (t:z4):Sp:=λvs H Q _=>∃(x:Str),vs=[.str x]∧x.length≤190∧∀H',zf H H'→(kq (vh x)=none→Q .non H')∧∀p n rs,kq (vh x)=some (n,rs)→H p=none→Rx t H H' p n rs→Q (.ref p) H'
def Q6 (t:z4):Sp:=λvs H Q _=>∃(x:Str),vs=[.str x]∧x.length≤190∧∀H',zf H H'→(qe (vh x)=none→Q .non H')∧∀p k l u a n r,qe (vh x)=some (k,l,u,a,n,r)→H p=none→At t H' p k l u a n r→Q (.ref p) H'
theorem jN {H:Hp} {p dx:Addr} {o o2:HO} (hp:H p=none) (hdx:H dx=none):zf H (upd (upd H dx o) p o2):=λb u e=>by rw[zP (zh e hp),zP (zh e hdx)];exact e
theorem yO {H H':Hp} {p dx:Addr} {o o2:HO} (hp:H p=none) (hdx:H dx=none) (f:Off p (upd (upd H dx o) p o2) H'):zf H H':=λb u e=>f b u (zh e hp) (jN hp hdx b u e)
theorem Qe (T:Txt K mg t) (H:Hp):jt K H t.pE (zF.map V.str):=.inr T.Hg
theorem JW:(zF.map V.str).all bI=true:=by decide +kernel
theorem Q2:zu ["self","name","value"] ["self","name","value"] (zy nR):=by walk_at "sc"
theorem rZ (T:Txt K mg t):ze P w K mg base zC 1 t.wy t.gg ["self","name","value"] (FR t):=by
 refine T.sr.fn.ok Q2 (by walk_at "ln") ?_;walk_at "hd"
 obtain⟨p,dx,n,v,rfl,hp,k⟩:=h
 refine⟨_,(zq (qT (pv 0) (pv 1) rfl)
   (zk (qT (pv 0) (pv 2) rfl))),?_⟩
 refine⟨_,rfl,_,rfl,p,_,dx,[],rfl,hp,T.sG,T.rh,(by show 0 < 1000;decide),?_⟩
 refine⟨_,rfl,_,rfl,p,_,dx,_,rfl,zm,T.sG,T.cq,(by show 1 < 1000;decide),?_⟩
 rw[yu,Dm]
 exact k
theorem Zn:zu ["self","name","rooms","rows"] ["self","name","rooms","rows"] (zy rW):=by walk_at "sc"
theorem vH (T:Txt K mg t):ze P w K mg base zC 1 t.jJ t.xa ["self","name","rooms","rows"] (YL K t):=by
 refine T.kf.fn.ok Zn (by walk_at "ln") ?_;walk_at "hd"
 obtain⟨p,dx,a,b,n,xs,ys,rfl,hp,hA,hB,k⟩:=h
 refine⟨_,(zq (qT (pv 0) (pv 1) rfl)
   (zq (qT (pv 0) (z8 (jY (K:=K) rfl) rfl T.km So (zz (pv 2) zj)) rfl)
   (zk (qT (pv 0) (z8 (jY (K:=K) rfl) rfl T.km So (zz (pv 3) zj)) rfl)))),?_⟩
 have na:a≠p:=fM hA hp (by intro z;cases z)
 have nb:b≠p:=fM hB hp (by intro z;cases z)
 refine⟨_,rfl,_,rfl,p,_,dx,[],rfl,hp,T.kM,T.gX,(by show 0 < 1000;decide),?_⟩
 have o1:Off p H (upd H p (.ins t.zI dx (zY "name" (.str n) []))):=λc o hc e=>by rw[zP hc];exact e
 generalize hH1:upd H p (.ins t.zI dx (zY "name" (.str n) []))=H1 at o1 ⊢
 have e1:H1 p=some (.ins t.zI dx (zY "name" (.str n) [])):=by rw[←hH1];exact zm
 refine⟨_,rfl,a,_,rfl,.inl (zK.of (o1 _ _ na hA)),?_⟩
 intro q1 H2 s2 hq1 e2
 refine⟨_,rfl,p,_,dx,_,rfl,s2 _ _ e1,T.kM,T.yW,(by show 1 < 1000;decide),?_⟩
 have nq1:q1≠p:=SF (zh e1 hq1)
 have o2:Off p H2 (upd H2 p (.ins t.zI dx (zY "rooms" (.ref q1) (zY "name" (.str n) [])))):=λc o hc e=>by rw[zP hc];exact e
 generalize hH3:upd H2 p (.ins t.zI dx (zY "rooms" (.ref q1) (zY "name" (.str n) [])))=H3 at o2 ⊢
 have e3:H3 p=some (.ins t.zI dx (zY "rooms" (.ref q1) (zY "name" (.str n) []))):=by rw[←hH3];exact zm
 refine⟨_,rfl,b,_,rfl,.inl (zK.of (o2 _ _ nb (s2 _ _ (o1 _ _ nb hB)))),?_⟩
 intro q2 H4 s4 hq2 e4
 refine⟨_,rfl,p,_,dx,_,rfl,s4 _ _ e3,T.kM,T.gK,?_,?_⟩
 ·have:=jm ("rooms" : Str) (.ref q1) (zY "name" (.str n) [])
  have e:(zY ("name" : Str) (.str n) []).length=1:=rfl
  omega
 have nq2:q2≠p:=SF (zh e3 hq2)
 rw[Dd]
 refine k _ (λc o hc e=>by rw[zP hc];exact s4 _ _ (o2 _ _ hc (s2 _ _ (o1 _ _ hc e)))) ⟨dx,q1,q2,zm,?_,?_,?_,?_⟩
 ·rw[zP nq1];exact s4 _ _ (o2 _ _ nq1 e2)
 ·rw[zP nq2];exact e4
 ·rw[←hH1,zP nq1] at hq1;exact hq1
 ·have z:H2 q2=none:=by rw[←hH3,zP nq2] at hq2;exact hq2
  have z1:=s2.free z
  rw[←hH1,zP nq2] at z1;exact z1
theorem mh:zu ["row","word","most","words"] ["row","word","most"] (zy cF):=by walk_at "sc"
theorem ic (T:Txt K mg t):ze P w K mg base zC 4 t.gs t.gh ["row","word","most"] BW:=by
 have G_v_are_names:=@ze.mono P w K mg base _ _ 3 _ _ _ _ (pZ T) (by decide)
 refine T.gC.fn.ok mh (by walk_at "ln") ?_;walk_at "hd"
 obtain⟨x,y,m,rfl,hx,k⟩:=h
 refine⟨_,(zq (za (i:=3) mh.nd rfl (LL rfl) (qM SM Ta TZ yE (pv 0) (zz zw zj)))
   (zq (zW (PW.pt (vQ (zd cn (zc (zv (K:=K) rfl) (pv 3) zx (λ_ _=>rfl)) (pv 1) (zQ _)) (kW (jg (qt (zi G_v_are_names hr rfl T.jB.mg T.jB.fn.kp T.jB.bd .nil zJ (zz (qD (qF (K:=K) rfl) (pv 3) (qQ zx) kj) (zz (pv 2) zj))))))))
    (zk (zp (zB zj))) zr)
   (zk (zp (qD (qF (K:=K) rfl) (pv 3) (qQ zx) kj))))),?_⟩
 walk_at "rd"
 refine⟨zg (by omega),?_⟩
 intro lw H1 s1 hlw e1
 have hS:=oV hx
 have hl:=(lE x).1
 have e1':H1 lw=some (.lst ((vh x).map V.str)):=e1
 clear e1
 generalize vh x=ws at *
 walk_at "rd"
 walk_at "x3"
 ·have n:j8 ws y m=[]:=if_pos (.inl (Kc h1))
  walk_at "rd"
  intro l H2 s2 hl2 e2
  exact k l H2 (s1.trans s2) (s1.free hl2) (by rw[n];exact e2)
 have w0:=Kd h1
 walk_at "rd"
 intro lc H2 s2 hlc e2
 replace e2:H2 lc=some (.lst ((ws.drop 1).map V.str)):=by rw[←vO V.str ws 1];exact e2
 refine⟨_,rfl,lc,m,_,rfl,zK.of e2,hS.drop 1,λH3 s3=>?_⟩
 walk_at "rd"
 cases hN:fo (ws.drop 1) m with
 | false=>
  refine dA ?_
  have n:j8 ws y m=[]:=if_pos (.inr hN)
  walk_at "rd"
  intro l H4 s4 hl4 e4
  exact k l H4 (((s1.trans s2).trans s3).trans s4) (((s1.trans s2).trans s3).free hl4) (by rw[n];exact e4)
 | true=>
  refine tG ?_
  have n:j8 ws y m=ws.drop 1:=if_neg (λq=>q.elim (λq=>q w0) (λq=>by rw[hN] at q;cases q))
  walk_at "rd"
  intro l H4 s4 hl4 e4
  replace e4:H4 l=some (.lst ((ws.drop 1).map V.str)):=by rw[←vO V.str ws 1];exact e4
  exact k l H4 (((s1.trans s2).trans s3).trans s4) (((s1.trans s2).trans s3).free hl4) (by rw[n];exact e4)
theorem cR:zu ["row","words"] ["row"] (zy rH):=by walk_at "sc"
theorem Zx (T:Txt K mg t):ze P w K mg base zC 3 t.bS t.bB ["row"] Y0:=by
 have G_v_is_name:=@ze.mono P w K mg base _ _ 2 _ _ _ _ (gG T) (by decide)
 refine T.fg.fn.ok cR (by walk_at "ln") ?_;walk_at "hd"
 obtain⟨x,rfl,hx,k⟩:=h
 refine⟨_,(zq (za (i:=1) cR.nd rfl (LL rfl) (qM SM Ta TZ yE (pv 0) (zz zw zj)))
   (zq (zW (PW.pt (vQ (zd cn (zX (zG (K:=K) rfl) rfl T.qJ L4 (zz (pv 1) zj)) zx (zQ _)) (vQ (zd (p8 (K:=K) rfl) (zc (zv (K:=K) rfl) (pv 1) zx (λ_ _=>rfl)) (jk rfl T.XR (v:=.ref t.pE) rfl) rfl) (kW (jg (qt (zi G_v_is_name hr rfl T.qI.mg T.qI.fn.kp T.qI.bd .nil zJ (zz (zc (zv (K:=K) rfl) (pv 1) zx (λ_ _=>rfl)) zj))))))))
    (zk (zp wH)) zr)
   (zk (zp (qq (zz (zc (zv (K:=K) rfl) (pv 1) zx (λ_ _=>rfl)) (zz (zc (zv (K:=K) rfl) (pv 1) zx (λ_ _=>rfl)) zj))))))),?_⟩
 walk_at "rd"
 refine⟨zg (by omega),?_⟩
 intro lw H1 s1 hlw e1
 have hS:=oV hx
 have e1':H1 lw=some (.lst ((vh x).map V.str)):=e1
 clear e1
 generalize vh x=ws at *
 refine⟨_,rfl,lw,_,rfl,.inl (zK.of e1'),rfl,_,rfl,?_⟩
 rw[Ln]
 have no:∀H',zf H H'→pV ws=none→Q .non H':=λH' s' e=>(k H' s').1 e
 refine zD (λh1=>dA (no _ s1 (if_neg λq=>?_))) (λh1=>?_)
 ·rw[q.1] at h1;simp at h1
 have hl:ws.length=2:=by
  by_cases q:ws.length=2
  ·exact q
  ·exact absurd (by simp;omega) h1
 walk_at "rd"
 refine⟨_,_,rfl,.inr (Qe T _),rfl,JW,_,rfl,?_⟩
 refine zD (λh2=>dA (no _ s1 (if_neg λq=>?_))) (λh2=>?_)
 ·have z:ZS (.str (wd ws 0)) (zF.map V.str)=false:=nQ h2
  rw[z] at q
  cases q.2.1
 have hM:ZS (.str (wd ws 0)) (zF.map V.str)=true:=nZ h2
 walk_at "rd"
 refine⟨hS.short _ (uI (by omega)),λH2 s2=>?_⟩
 walk_at "rd"
 refine zD (λh3=>no _ (s1.trans s2) (if_neg λq=>?_)) (λh3=>?_)
 ·have z:zZ (wd ws 1)=false:=nQ h3
  rw[z] at q
  cases q.2.2
 have hN:zZ (wd ws 1)=true:=nZ h3
 walk_at "rd"
 intro p H3 s3 hp e3
 exact(k H3 ((s1.trans s2).trans s3)).2 p (wd ws 0) (wd ws 1) (if_pos ⟨hl,hM,hN⟩) ((s1.trans s2).free hp) e3
theorem rP:zu ["row","words"] ["row"] (zy nS):=by walk_at "sc"
theorem QG (T:Txt K mg t):ze P w K mg base zC 5 t.mW t.mi ["row"] (BK t):=by
 have G_v_fits_form:=@ze.mono P w K mg base _ _ 4 _ _ _ _ (wY T) (by decide)
 have M_Let_init:=@ze.mono P w K mg base _ _ 3 _ _ _ _ (rZ T) (by decide)
 refine T.cN.fn.ok rP (by walk_at "ln") ?_;walk_at "hd"
 obtain⟨x,rfl,hx,k⟩:=h
 refine⟨_,(zq (za (i:=1) rP.nd rfl (LL rfl) (qM SM Ta TZ yE (pv 0) (zz zw zj)))
   (zq (zW (jg (qt (zi G_v_fits_form hr rfl T.zN.mg T.zN.fn.kp T.zN.bd .nil zJ (zz (pv 1) (zz (zB (zz zw (zz zw (zz zw (zz zw zj))))) zj)))))
    (zk (zp wH)) zr)
   (zk (zp (qH T.W0 M_Let_init hr rfl T.WL T.sr.bd .nil zJ (zz (zc (zv (K:=K) rfl) (pv 1) zx (λ_ _=>rfl)) (zz (zc (zv (K:=K) rfl) (pv 1) zx (λ_ _=>rfl)) zj))))))),?_⟩
 walk_at "rd"
 refine⟨zg (by omega),?_⟩
 intro lw H1 s1 hlw e1
 have hS:=oV hx
 have e1':H1 lw=some (.lst ((vh x).map V.str)):=e1
 clear e1
 generalize vh x=ws at *
 walk_at "rd"
 intro lf H2 s2 hlf e2
 refine⟨lw,lf,ws,Ws,rfl,zK.of (s2 _ _ e1'),zK.of e2,hS,λH3 s3=>?_⟩
 walk_at "rd"
 refine zD (λh3=>(k _ ((s1.trans s2).trans s3)).1 (if_neg λq=>?_)) (λh3=>?_)
 ·have z:ja ws Ws=false:=nQ h3
  rw[z] at q
  cases q
 have hF:ja ws Ws=true:=nZ h3
 have hl:ws.length=4:=yS hF
 walk_at "rd"
 intro p dx hp hdx hne
 refine⟨p,dx,_,_,rfl,zm,rfl,?_⟩
 exact(k _ (((s1.trans s2).trans s3).trans (ji hp hdx hne))).2 p _ _ (if_pos hF) (((s1.trans s2).trans s3).free hp) ⟨dx,zm⟩
theorem cU:zu ["row","words"] ["row"] (zy rG):=by walk_at "sc"
theorem Zj (T:Txt K mg t):ze P w K mg base zC 5 t.bL t.bH ["row"] (YE t):=by
 have G_v_are_names:=@ze.mono P w K mg base _ _ 4 _ _ _ _ (pZ T) (by decide)
 have G_v_fits_form:=@ze.mono P w K mg base _ _ 4 _ _ _ _ (wY T) (by decide)
 have M_Part_init:=@ze.mono P w K mg base _ _ 3 _ _ _ _ (vH T) (by decide)
 refine T.fk.fn.ok cU (by walk_at "ln") ?_;walk_at "hd"
 obtain⟨x,rfl,hx,k⟩:=h
 refine⟨_,(zq (za (i:=1) cU.nd rfl (LL rfl) (qM SM Ta TZ yE (pv 0) (zz zw zj)))
   (zq (zW (jg (qt (zi G_v_fits_form hr rfl T.zN.mg T.zN.fn.kp T.zN.bd .nil zJ (zz (qD (qF (K:=K) rfl) (pv 1) kj (qQ zx)) (zz (zB (zz zw (zz zw zj))) zj)))))
    (zk (zp wH)) zr)
   (zq (zW (zd qz (zX (zG (K:=K) rfl) rfl T.qJ L4 (zz (pv 1) zj)) zx (zQ _))
    (zk (zp (qH T.pA M_Part_init hr rfl T.mU T.kf.bd .nil zJ (zz (zc (zv (K:=K) rfl) (pv 1) zx (λ_ _=>rfl)) (zz (zB zj) (zz (zB zj) zj)))))) zr)
   (zq (zW (PW.pt (vQ (zd cn (zc (zv (K:=K) rfl) (pv 1) zx (λ_ _=>rfl)) zw (zQ _)) (kW (jg (qt (zi G_v_are_names hr rfl T.jB.mg T.jB.fn.kp T.jB.bd .nil zJ (zz (qD (qF (K:=K) rfl) (pv 1) (qQ zx) kj) (zz (jk rfl (T.dI).choose_spec (v:=.int 12) ⟨_,rfl⟩) zj))))))))
    (zk (zp wH)) zr)
   (zk (zp (qH T.pA M_Part_init hr rfl T.mU T.kf.bd .nil zJ (zz (zc (zv (K:=K) rfl) (pv 1) zx (λ_ _=>rfl)) (zz (qD (qF (K:=K) rfl) (pv 1) (qQ zx) kj) (zz (zB zj) zj)))))))))),?_⟩
 walk_at "rd"
 refine⟨zg (by omega),?_⟩
 intro lw H1 s1 hlw e1
 have hS:=oV hx
 have e1':H1 lw=some (.lst ((vh x).map V.str)):=e1
 clear e1
 generalize vh x=ws at *
 walk_at "rd"
 intro lc H2 s2 hlc e2
 replace e2:H2 lc=some (.lst ((ws.take 2).map V.str)):=by rw[←Z8 V.str ws 2];exact e2
 walk_at "rd"
 intro lf H3 s3 hlf e3
 refine⟨lc,lf,ws.take 2,tj,rfl,zK.of (s3 _ _ e2),zK.of e3,hS.take 2,λH4 s4=>?_⟩
 have sA:zf H H4:=((s1.trans s2).trans s3).trans s4
 walk_at "rd"
 refine zD (λh3=>(k _ sA).1 (if_neg λq=>?_)) (λh3=>?_)
 ·have z:ja (ws.take 2) tj=false:=nQ h3
  rw[z] at q
  cases q
 have hF:ja (ws.take 2) tj=true:=nZ h3
 have hl:2≤ws.length:=by have:(ws.take 2).length=2:=yS hF;rw[L3] at this;omega
 have e4:H4 lw=some (.lst (ws.map V.str)):=s4 _ _ (s3 _ _ (s2 _ _ e1'))
 clear e1' e2 e3 s1 s2 s3 s4
 refine⟨_,rfl,lw,_,rfl,.inl (zK.of e4),rfl,_,rfl,?_⟩
 rw[Ln]
 refine zD (λh4=>?_) (λh4=>?_)
 ·have hl2:ws.length=2:=by have:=zzB h4;injection this with this;omega
  walk_at "rd"
  intro a1 H5 s5 ha1 e5
  walk_at "rd"
  intro a2 H6 s6 ha2 e6
  walk_at "rd"
  intro p dx hp hdx hne
  have sM:=jN (o:=HO.own p) (o2:=HO.ins t.zI dx []) hp hdx
  refine⟨p,dx,a1,a2,_,[],[],rfl,zm,sM _ _ (s6 _ _ e5),sM _ _ e6,λH7 o7 h7=>⟨rfl,?_⟩⟩
  exact(k H7 (((sA.trans s5).trans s6).trans (yO hp hdx o7))).2 p _ _ (by unfold kq;rw[if_pos hF,if_pos hl2];rfl) (((sA.trans s5).trans s6).free hp) (h7.back (((sA.trans s5).trans s6).trans sM))
 have hl3:¬ws.length=2:=λq=>h4 (zzP (by rw[q];rfl))
 walk_at "rd"
 refine zD (λh5=>dA ((k _ sA).1 ?_)) (λh5=>?_)
 ·unfold kq
  rw[if_pos hF,if_neg hl3,if_pos (.inl (Kc h5))]
 have hin:wd ws 2 = "in":=Kd h5
 walk_at "rd"
 intro lc H5 s5 hlc e5
 replace e5:H5 lc=some (.lst ((ws.drop 3).map V.str)):=by rw[←vO V.str ws 3];exact e5
 refine⟨lc,_,_,rfl,zK.of e5,hS.drop 3,λH6 s6=>?_⟩
 walk_at "rd"
 refine zD (λh6=>(k _ ((sA.trans s5).trans s6)).1 ?_) (λh6=>?_)
 ·unfold kq
  rw[if_pos hF,if_neg hl3,if_pos (.inr (nQ h6))]
 have hN:fo (ws.drop 3) 12=true:=nZ h6
 have e6:H6 lw=some (.lst (ws.map V.str)):=s6 _ _ (s5 _ _ e4)
 clear e4 e5
 walk_at "rd"
 intro a1 H7 s7 ha1 e7
 replace e7:H7 a1=some (.lst ((ws.drop 3).map V.str)):=by rw[←vO V.str ws 3];exact e7
 walk_at "rd"
 intro a2 H8 s8 ha2 e8
 walk_at "rd"
 intro p dx hp hdx hne
 have sM:=jN (o:=HO.own p) (o2:=HO.ins t.zI dx []) hp hdx
 refine⟨p,dx,a1,a2,_,_,[],rfl,zm,sM _ _ (s8 _ _ e7),sM _ _ e8,λH9 o9 h9=>⟨rfl,?_⟩⟩
 exact(k H9 (((((sA.trans s5).trans s6).trans s7).trans s8).trans (yO hp hdx o9))).2 p _ _ (by unfold kq;rw[if_pos hF,if_neg hl3,if_neg (λq=>q.elim (λq=>q hin) (λq=>by rw[hN] at q;cases q))];rfl) (((((sA.trans s5).trans s6).trans s7).trans s8).free hp) (h9.back (((((sA.trans s5).trans s6).trans s7).trans s8).trans sM))
theorem pU:zu ["row","words"] ["row"] (zy mq):=by walk_at "sc"
theorem nV (T:Txt K mg t):ze P w K mg base zC 5 t.yJ t.yn ["row"] (Q6 t):=by
 have G_v_fits_form:=@ze.mono P w K mg base _ _ 4 _ _ _ _ (wY T) (by decide)
 have G_v_number_of:=@ze.mono P w K mg base _ _ 4 _ _ _ _ (pQ T) (by decide)
 have M_Ban_init:=@ze.mono P w K mg base _ _ 3 _ _ _ _ (rf T) (by decide)
 have M_Clause_init:=@ze.mono P w K mg base _ _ 3 _ _ _ _ (jG T) (by decide)
 have M_Duty_init:=@ze.mono P w K mg base _ _ 3 _ _ _ _ (cg T) (by decide)
 have M_Power_init:=@ze.mono P w K mg base _ _ 3 _ _ _ _ (fD T) (by decide)
 refine T.yr.fn.ok pU (by walk_at "ln") ?_;walk_at "hd"
 obtain⟨x,rfl,hx,k⟩:=h
 refine⟨_,(zq (za (i:=1) pU.nd rfl (LL rfl) (qM SM Ta TZ yE (pv 0) (zz zw zj)))
   (zq (zW (qt (zi G_v_fits_form hr rfl T.zN.mg T.zN.fn.kp T.zN.bd .nil zJ (zz (pv 1) (zz (zB (zz zw (zz zw (zz zw (zz zw (zz zw (zz zw (zz zw (zz zw zj))))))))) zj))))
    (zk (zp (qH T.aU M_Duty_init hr rfl T.WR T.c8.bd .nil zJ (zz (zc (zv (K:=K) rfl) (pv 1) zx (λ_ _=>rfl)) (zz (zc (zv (K:=K) rfl) (pv 1) zx (λ_ _=>rfl)) (zz (zc (zv (K:=K) rfl) (pv 1) zx (λ_ _=>rfl)) (zz (zi G_v_number_of hr rfl T.jP.mg T.jP.fn.kp T.jP.bd .nil zJ (zz (zc (zv (K:=K) rfl) (pv 1) zx (λ_ _=>rfl)) zj)) (zz (zc (zv (K:=K) rfl) (pv 1) zx (λ_ _=>rfl)) zj)))))))) zr)
   (zq (zW (qt (zi G_v_fits_form hr rfl T.zN.mg T.zN.fn.kp T.zN.bd .nil zJ (zz (pv 1) (zz (zB (zz zw (zz zw (zz zw (zz zw zj))))) zj))))
    (zk (zp (qH T.tD M_Clause_init hr rfl T.aD T.xt.bd .nil zJ (zz (zc (zv (K:=K) rfl) (pv 1) zx (λ_ _=>rfl)) (zz (zc (zv (K:=K) rfl) (pv 1) zx (λ_ _=>rfl)) (zz (zc (zv (K:=K) rfl) (pv 1) zx (λ_ _=>rfl)) zj)))))) zr)
   (zq (zW (qt (zi G_v_fits_form hr rfl T.zN.mg T.zN.fn.kp T.zN.bd .nil zJ (zz (pv 1) (zz (zB (zz zw (zz zw (zz zw (zz zw (zz zw (zz zw (zz zw zj)))))))) zj))))
    (zk (zp (qH T.JY M_Ban_init hr rfl T.Bg T.sf.bd .nil zJ (zz (zc (zv (K:=K) rfl) (pv 1) zx (λ_ _=>rfl)) (zz (zc (zv (K:=K) rfl) (pv 1) zx (λ_ _=>rfl)) (zz (zc (zv (K:=K) rfl) (pv 1) zx (λ_ _=>rfl)) (zz (zc (zv (K:=K) rfl) (pv 1) zx (λ_ _=>rfl)) zj))))))) zr)
   (zq (zW (qt (zi G_v_fits_form hr rfl T.zN.mg T.zN.fn.kp T.zN.bd .nil zJ (zz (pv 1) (zz (zB (zz zw (zz zw (zz zw (zz zw (zz zw (zz zw zj))))))) zj))))
    (zk (zp (qH T.tU M_Power_init hr rfl T.X5 T.mm.bd .nil zJ (zz (zc (zv (K:=K) rfl) (pv 1) zx (λ_ _=>rfl)) (zz (zc (zv (K:=K) rfl) (pv 1) zx (λ_ _=>rfl)) (zz (zc (zv (K:=K) rfl) (pv 1) zx (λ_ _=>rfl)) (zz (zc (zv (K:=K) rfl) (pv 1) zx (λ_ _=>rfl)) zj))))))) zr)
   (zk (zp wH))))))),?_⟩
 walk_at "rd"
 refine⟨zg (by omega),?_⟩
 intro lw H1 s1 hlw e1
 have hS:=oV hx
 have e1':H1 lw=some (.lst ((vh x).map V.str)):=e1
 clear e1
 generalize vh x=ws at *
 walk_at "rd"
 intro lf H2 s2 hlf e2
 refine⟨lw,lf,ws,XF,rfl,zK.of (s2 _ _ e1'),zK.of e2,hS,λH3 s3=>?_⟩
 have e3:H3 lw=some (.lst (ws.map V.str)):=s3 _ _ (s2 _ _ e1')
 have sA:zf H H3:=(s1.trans s2).trans s3
 clear e1' e2 s1 s2 s3
 walk_at "rd"
 walk_at "x3"
 ·have hl:ws.length=8:=yS h1
  walk_at "rd"
  refine⟨hS.short _ (uI (by omega)),λH4 s4=>?_⟩
  have e4:H4 lw=some (.lst (ws.map V.str)):=s4 _ _ e3
  clear e3
  walk_at "rd"
  intro p dx hp hdx hne
  refine⟨p,_,dx,_,_,_,_,_,_,rfl,aj T,zm,rfl,?_⟩
  exact(k _ ((sA.trans s4).trans (ji hp hdx hne))).2 p 0 _ _ _ _ _ (by unfold qe;rw[if_pos h1];rfl) ((sA.trans s4).free hp) ⟨dx,zm⟩
 have f1:¬ja ws XF=true:=h1
 walk_at "rd"
 intro lf2 H4 s4 hlf2 e4
 refine⟨lw,lf2,ws,ar,rfl,zK.of (s4 _ _ e3),zK.of e4,hS,λH5 s5=>?_⟩
 have e5:H5 lw=some (.lst (ws.map V.str)):=s5 _ _ (s4 _ _ e3)
 have sB:zf H H5:=(sA.trans s4).trans s5
 clear e3 e4 s4 s5 sA
 walk_at "rd"
 refine zD (λh2=>?_) (λh2=>?_)
 ·have hl:ws.length=4:=yS h2
  walk_at "rd"
  intro p dx hp hdx hne
  refine⟨p,_,dx,_,_,_,_,rfl,sV T,zm,rfl,?_⟩
  exact(k _ (sB.trans (ji hp hdx hne))).2 p 1 _ _ _ 0 "" (by unfold qe;rw[if_neg f1,if_pos h2];rfl) (sB.free hp) ⟨dx,zm⟩
 have f2:¬ja ws ar=true:=h2
 walk_at "rd"
 intro lf3 H6 s6 hlf3 e6
 refine⟨lw,lf3,ws,GP,rfl,zK.of (s6 _ _ e5),zK.of e6,hS,λH7 s7=>?_⟩
 have e7:H7 lw=some (.lst (ws.map V.str)):=s7 _ _ (s6 _ _ e5)
 have sC:zf H H7:=(sB.trans s6).trans s7
 clear e5 e6 s6 s7 sB
 walk_at "rd"
 refine zD (λh3=>?_) (λh3=>?_)
 ·have hl:ws.length=7:=yS h3
  walk_at "rd"
  intro p dx hp hdx hne
  refine⟨p,_,dx,_,_,_,_,_,rfl,Jg T,zm,rfl,?_⟩
  exact(k _ (sC.trans (ji hp hdx hne))).2 p 2 _ _ _ 0 _ (by unfold qe;rw[if_neg f1,if_neg f2,if_pos h3];rfl) (sC.free hp) ⟨dx,zm⟩
 have f3:¬ja ws GP=true:=h3
 walk_at "rd"
 intro lf4 H8 s8 hlf4 e8
 refine⟨lw,lf4,ws,Jd,rfl,zK.of (s8 _ _ e7),zK.of e8,hS,λH9 s9=>?_⟩
 have e9:H9 lw=some (.lst (ws.map V.str)):=s9 _ _ (s8 _ _ e7)
 have sD:zf H H9:=(sC.trans s8).trans s9
 clear e7 e8 s8 s9 sC
 walk_at "rd"
 refine zD (λh4=>?_) (λh4=>?_)
 ·have hl:ws.length=6:=yS h4
  walk_at "rd"
  intro p dx hp hdx hne
  refine⟨p,_,dx,_,_,_,_,_,rfl,sW T,zm,rfl,?_⟩
  exact(k _ (sD.trans (ji hp hdx hne))).2 p 3 _ _ _ 0 _ (by unfold qe;rw[if_neg f1,if_neg f2,if_neg f3,if_pos h4];rfl) (sD.free hp) ⟨dx,zm⟩
 exact(k _ sD).1 (by unfold qe;rw[if_neg f1,if_neg f2,if_neg f3,if_neg h4])
theorem boot_set:Nk (LM "set")=some (Av "set"):=by kernel_rfl
def Gp (t:z4) (n:Int) (H:Hp):XK:=λ_ _ _=>True
theorem Gp.back {t:z4} {n:Int} {H0 H:Hp} {c:Lo} {o:Option Addr} {H':Hp} (h:Gp t n H c o H') (s:zf H0 H):Gp t n H0 c o H':=trivial
structure uz (rows:List Str):Prop where
 ai:rows.length≤400
 short:∀x∈rows,x.length≤190
noncomputable def kX (rows:List Str) (i:Nat) (x:Str) (m:Int) (taken:List Str):Option (List Str):=
 if i=rows.length then none else
  let ns:=j8 (vh (wd rows i)) x m
  if ns=[]∨¬(taken ++ ns).Nodup then none else some ns
theorem Pl {z:Str} {c:Nat} (h:has z c=true):c∈z.cps.toList:=by
 unfold has at h
 rw[OE] at h
 simpa using h
theorem yI {x:Str} (h:zZ x=true):asc x:=λc hc=>by
 unfold zZ bp at h
 (simp only[SR] at h)
 exact X2.2.2 c (Pl (Tc.mp h.1.2 c hc))
theorem i6 {ws:List Str} {x:Str} {m:Int}:(j8 ws x m).length≤ws.length∧∀y∈j8 ws x m,zZ y=true:=by
 unfold j8
 split
 ·exact⟨Sy _,λy hy=>by cases hy⟩
 ·rename_i h
  refine⟨by rw[Tx];omega,λy hy=>?_⟩
  have:fo (ws.drop 1) m=true:=by
   cases q:fo (ws.drop 1) m with
   | true=>rfl
   | false=>exact absurd (.inr q) h
  unfold fo at this
  rw[SR] at this
  exact Tc.mp this.2 y hy
def Xg (K:Ls):Sp:=λvs H Q _=>∃(l:Addr) (zs:List Str),vs=[.ref l]∧zK K H l (zs.map V.str)∧zs.length < 1000∧∀H',zf H H'→Q (.bl (decide zs.Nodup)) H'
def DY (K:Ls) (t:z4):Sp:=λvs H Q E=>∃(a b:Addr) (i:Nat) (x:Str) (m:Int) (rows taken:List Str),vs=[.ref a,.int i,.str x,.int m,.ref b]∧zK K H a (rows.map V.str)∧H b=some (.lst (taken.map V.str))∧i≤rows.length∧uz rows∧taken.length≤300∧m≤100∧
 (kX rows i x m taken=none→∀c o H',Gp t i H c o H'→False)∧∀ns l H',kX rows i x m taken=some ns→zf H H'→H l=none→H' l=some (.lst (ns.map V.str))→Q (.ref l) H'
theorem gP (_:Txt K mg t) {n:Int} {H:Hp} (k:∀c o H',Gp t n H c o H'→False):False:=k .none none H trivial
theorem oa:zu ["names"] ["names"] (zy mw):=by walk_at "sc"
theorem pJ (T:Txt K mg t):ze P w K mg base zC 1 t.kT t.kU ["names"] (Xg K):=by
 refine T.jF.fn.ok oa (by walk_at "ln") ?_;walk_at "hd"
 obtain⟨l,zs,rfl,hl,hn,k⟩:=h
 refine⟨_,(zk (zp (yg qz (zX Ki rfl T.qJ L4 (zz (z8 (Hz (K:=K) rfl rfl) rfl T.MX boot_set (zz (pv 0) zj)) zj)) (zX (zG (K:=K) rfl) rfl T.qJ L4 (zz (pv 0) zj)) (zQ _)))),?_⟩
 refine⟨_,rfl,l,zs,rfl,hl,hn,λa ha=>?_⟩
 refine⟨a,_,rfl,zm,?_⟩
 have s1:zf H (upd H a (Mc P w a (Z9 [] zs))):=zf.Vx ha
 refine⟨_,rfl,l,_,rfl,.inl (s1.seq hl),rfl,?_⟩
 rw[show decide (V.int ((Z9 [] zs:Nat):Int)=V.int ((zs.map V.str).length:Nat))=decide zs.Nodup from by rw[Ln,←Pg];simp]
 exact k _ s1
theorem bw:zu ["rows","number","word","most","taken","names"] ["rows","number","word","most","taken"] (zy pF):=by walk_at "sc"
theorem lV (T:Txt K mg t):ze P w K mg base zC 6 t.wt t.wz ["rows","number","word","most","taken"] (DY K t):=by
 have G_v_names_of:=@ze.mono P w K mg base _ _ 5 _ _ _ _ (ic T) (by decide)
 have G_v_told_once:=@ze.mono P w K mg base _ _ 5 _ _ _ _ (pJ T) (by decide)
 refine T.jr.fn.ok bw (by walk_at "ln") ?_;walk_at "hd"
 obtain⟨a,b,i,x,m,rows,taken,rfl,hA,hB,hi,hR,hT,hm,kE,kQ⟩:=h
 refine⟨_,(zq (zW (zd qz (pv 1) (zX (zG (K:=K) rfl) rfl T.qJ L4 (zz (pv 0) zj)) (zQ _))
    (zk (ky)) zr)
   (zq (za (i:=5) bw.nd rfl (LL rfl) (zi G_v_names_of hr rfl T.gC.mg T.gC.fn.kp T.gC.bd .nil zJ (zz (zc (zv (K:=K) rfl) (pv 0) (pv 1) (λ_ _=>rfl)) (zz (pv 2) (zz (pv 3) zj)))))
   (zq (zW (PW.pt (vQ (zd (p5 (K:=K) rfl hr.units) (pv 5) (zB zj) (zQ _)) (kW (jg (qt (zi G_v_told_once hr rfl T.jF.mg T.jF.fn.kp T.jF.bd .nil zJ (zz (zo vi (pv 4) (pv 5)) zj)))))))
    (zk (ky)) zr)
   (zk (zp (pv 5)))))),?_⟩
 walk_at "rd"
 refine⟨a,_,rfl,.inl hA,rfl,_,rfl,?_⟩
 walk_at "x3"
 ·walk_at "rd"
  exact gP T (kE (by
   have:(i:Int)=((rows.map V.str).length:Nat):=by simpa using h1
   rw[Ln] at this
   unfold kX;rw[if_pos (by omega)]))
 have hi':i < rows.length:=by
  have:¬(i:Int)=((rows.map V.str).length:Nat):=by simpa using h1
  rw[Ln] at this;omega
 have hwd:wd rows i∈rows:=uI hi'
 have eR:kX rows i x m taken=(if j8 (vh (wd rows i)) x m=[]∨¬(taken ++ j8 (vh (wd rows i)) x m).Nodup then none else some (j8 (vh (wd rows i)) x m)):=by
  unfold kX;rw[if_neg (by omega)]
 walk_at "rd"
 simp only[EW]
 refine⟨hR.short _ hwd,λl H1 s1 hl e1=>?_⟩
 have e1':H1 l=some (.lst ((j8 (vh (wd rows i)) x m).map V.str)):=e1
 clear e1
 have hn:=@i6 (vh (wd rows i)) x m
 have hw:=(lE (wd rows i)).2
 have hw2:=hR.short _ hwd
 have hb:(j8 (vh (wd rows i)) x m).length≤192:=by omega
 have ho:=hn.2
 clear hn hw hw2
 generalize j8 (vh (wd rows i)) x m=ns at *
 have sh:SI (.list (ns.map S0))=true:=qV λy hy=>(yI (ho y hy)).ok
 walk_at "rd"
 intro l2 H2 s2 hl2 e2
 have sh0:SI (.list (([]:List Str).map S0))=true:=qV (xs:=[]) λy hy=>by cases hy
 refine⟨_,_,dt.lst (zK.of (s2 _ _ e1')) (vj.strs ns),dt.lst (zK.of e2) (vj.strs []),sh,sh0,_,rfl,?_⟩
 rw[bU]
 refine zD (λh2=>?_) (λh2=>?_)
 ·walk_at "rd"
  exact gP T λc o H' z=>kE (by rw[eR,if_pos (.inl (zzB h2))]) c o H' (z.back (s1.trans s2))
 have hne:¬ns=[]:=λq=>h2 (zzP q)
 walk_at "rd"
 refine⟨b,l,_,_,rfl,rfl,s2 _ _ (s1 _ _ hB),s2 _ _ e1',zg (by simp only[Ln];omega),?_⟩
 intro l3 H3 s3 hl3 e3
 refine⟨l3,taken ++ ns,rfl,zK.of (by rw[e3,LY]),(by rw[Li];omega),λH4 s4=>?_⟩
 have sA:zf H H4:=((s1.trans s2).trans s3).trans s4
 walk_at "rd"
 refine zD (λh3=>?_) (λh3=>?_)
 ·walk_at "rd"
  exact gP T λc o H' z=>kE (by rw[eR,if_pos (.inr (of_decide_eq_false (nQ h3)))]) c o H' (z.back sA)
 walk_at "rd"
 exact kQ ns l H4 (by rw[eR,if_neg (λq=>q.elim hne (λq=>q (zzB (nZ h3))))]) sA hl (s4 _ _ (s3 _ _ (s2 _ _ e1')))
noncomputable def jf (taken:List Str):List (Str × Str)→List Str→Except Nat (List (Str × Str))
 | found,[]=>if found=[] then .error 2 else .ok found
 | found,x :: r=>match pV (vh x) with
  | none=>if found=[] then .error 2 else .ok found
  | some mn=>if found.length=12∨¬(taken ++ (found ++ [mn]).map (·.2)).Nodup then .error (2 + found.length) else jf taken (found ++ [mn]) r
def j6 (H:Hp) (v:V) (mn:Str × Str):Prop:=∃p,v=.ref p∧H p=some (.tup [.str mn.1,.str mn.2])
def rS (mn:Str × Str):Prop:=mn.1∈zF∧zZ mn.2=true
theorem Yo {ws:List Str} {m n:Str} (h:pV ws=some (m,n)):rS (m,n):=by
 unfold pV at h
 split at h
 ·rename_i q
  cases h
  rw[kN] at q
  exact⟨zzB q.2.1,q.2.2⟩
 ·cases h
theorem WI:∀x∈zF,TF x=true:=by decide +kernel
noncomputable def Mm (mn:Str × Str):PyData:=.tuple [.str mn.1,.str mn.2]
theorem Ys:∀{fnd:List (Str × Str)},(∀mn∈fnd,rS mn)→NM (fnd.map Mm)=true∧N3 (fnd.map Mm)≤2
 | [],_=>⟨rfl,Sy _⟩
 | mn :: r,h=>by
  have q:=Ys (fnd:=r) λx hx=>h x (LK _ hx)
  have h1:=WI _ (h mn Sw).1
  have h2:=(yI (h mn Sw).2).ok
  have q2:=q.2
  simp [NM,Oj,N3,OY,Mm,q.1,h1,h2]
  omega
theorem Vt {fnd:List (Str × Str)} (h:∀mn∈fnd,rS mn):SI (.list (fnd.map Mm))=true:=by
 have q:=Ys h
 simp [SI,Oj,OY,q.1]
 omega
theorem j6.same {H H':Hp} {v:V} {mn:Str × Str} (h:j6 H v mn) (s:zf H H'):j6 H' v mn:=by
 obtain⟨p,e,q⟩:=h
 exact⟨p,e,s _ _ q⟩
theorem j6.keeps {H H':Hp} {v:V} {mn:Str × Str} {l:Addr} {xs:List V} (h:j6 H v mn) (k:Keeps l H H') (e:H l=some (.lst xs)):j6 H' v mn:=by
 obtain⟨p,e',q⟩:=h
 exact⟨p,e',k.look q (fM q e (by intro z;cases z))⟩
theorem Paired.snoc {α β:Type} {F:α→β→Prop} {a:α} {b:β} {xs:List α} {ys:List β} (h:Paired F xs ys) (q:F a b):Paired F (xs ++ [a]) (ys ++ [b]):=by
 induction h with
 | nil=>exact .cons q .nil
 | cons h t ih=>exact .cons h ih
noncomputable def Jq (H:Hp) (y:V):List (Option V):=match y with
 | .ref p=>(match H p with | some (.tup [u,v])=>[some u,some v] | _=>[none,none])
 | _=>[none,none]
theorem ZP (H:Hp) (y:V):(Jq H y).length=2:=by
 unfold Jq
 split
 ·split<;>rfl
 ·rfl
theorem Paired.Vz {α β:Type} {F:α→β→Prop} {a:α} {xs:List α} {ys:List β} (h:Paired F xs ys) (q:a∈xs):∃b∈ys,F a b:=by
 induction h with
 | nil=>cases q
 | cons h t ih=>
  rcases La.mp q with rfl | q
  ·exact⟨_,Sw,h⟩
  ·exact(ih q).elim λb hb=>⟨b,LK _ hb.1,hb.2⟩
theorem dz {H:Hp} {vs:List V} {fnd:List (Str × Str)} {ys:List V} (h1:Paired (j6 H) vs fnd) (h2:Paired (λy v=>∀p m n,y=V.ref p→H p=some (.tup [.str m,.str n])→v=V.str n) vs ys):ys=(fnd.map (·.2)).map V.str:=by
 induction h1 generalizing ys with
 | nil=>cases h2;rfl
 | cons r t ih=>
  cases h2 with
  | cons h t'=>
   rcases r with ⟨p,e,q⟩
   rw[h p _ _ e q,ih t']
   rfl
theorem Yt {K:Ls} {H:Hp} {vs:List V} {fnd:List (Str × Str)} (h:Paired (j6 H) vs fnd):vj K H vs (fnd.map Mm):=by
 induction h with
 | nil=>exact .nil
 | cons r t ih=>
  rcases r with ⟨p,rfl,q⟩
  exact .cons (dt.tup (jt.of q) (.cons (.str _) (.cons (.str _) .nil))) ih
theorem FP (fnd:List (Str × Str)):N5 (.list (fnd.map Mm)) (.list (([]:List Str).map S0))=decide (fnd=[]):=by
 cases fnd<;>simp [N5,Np]
def DG (K:Ls) (t:z4):Sp:=λvs H Q E=>∃(a b:Addr) (rows taken:List Str),vs=[.ref a,.ref b]∧zK K H a (rows.map V.str)∧H b=some (.lst (taken.map V.str))∧uz rows∧taken.length≤400∧
 (∀n:Nat,jf taken [] (rows.drop 2)=.error n→∀c o H',Gp t n H c o H'→False)∧∀rs l H' vs,jf taken [] (rows.drop 2)=.ok rs→zf H H'→H l=none→H' l=some (.lst vs)→Paired (j6 H') vs rs→Q (.ref l) H'
theorem xf:zu ["rows","taken","rooms","row","room"] ["rows","taken"] (zy wF):=by walk_at "sc"
theorem lW (T:Txt K mg t):ze P w K mg base zC 6 t.wo t.wq ["rows","taken"] (DG K t):=by
 have G_v_room_of:=@ze.mono P w K mg base _ _ 5 _ _ _ _ (Zx T) (by decide)
 have G_v_told_once:=@ze.mono P w K mg base _ _ 5 _ _ _ _ (pJ T) (by decide)
 refine T.vC.fn.ok xf (by walk_at "ln") ?_;walk_at "hd"
 obtain⟨a,b,rows,taken,rfl,hA,hB,hR,hT,kE,kQ⟩:=h
 refine⟨_,(zq (za (i:=2) xf.nd rfl (LL rfl) (zB zj) jZ)
   (zq (PS.join (jy Su rfl (qp (K:=K) rfl (qD (qF (K:=K) rfl) (pv 0) (qQ (jk rfl (T.dO).choose_spec (v:=.int 2) ⟨_,rfl⟩)) kj)) (zM (i:=3) xf.nd rfl (LL rfl))
    (zq (za (i:=4) xf.nd rfl (LL rfl) (zi G_v_room_of hr rfl T.fg.mg T.fg.fn.kp T.fg.bd .nil zJ (zz (pv 3) zj)))
   (zq (zW (zd JT (pv 4) wH (zQ _))
    (zk (Yr)) zr)
   (zq (zW (PW.pt (vQ (zd qz (zX (zG (K:=K) rfl) rfl T.qJ L4 (zz (pv 2) zj)) (jk rfl (T.dI).choose_spec (v:=.int 12) ⟨_,rfl⟩) (zQ _)) (kW (jg (qt (zi G_v_told_once hr rfl T.jF.mg T.jF.fn.kp T.jF.bd .nil zJ (zz (zo vi (pv 1) (vR (osc:=zy wF) (N:=["rows","taken","rooms","row","room"]) (xs:=["mark","name"]) (names:=[]) (zR:=[]) rfl rfl rfl ⟨rfl,by decide +kernel,by decide +kernel,by decide +kernel,by decide +kernel,rfl,by decide +kernel,by decide +kernel⟩ (qp (K:=K) rfl (zo vi (pv 2) (zB (zz (pv 4) zj)))) (λ_ _ _=>(vB (K:=K) (n:=2) rfl rfl (qu (zM (i:=0) (show (["mark","name"]:List Str).Nodup from by decide +kernel) rfl (.inl (wC rfl)) (.inr (wC rfl))) (qu (zM (i:=1) (show (["mark","name"]:List Str).Nodup from by decide +kernel) rfl (.inl (wC rfl)) (.inr (wC rfl))) vP)) rfl rfl)) (λ_ _ _=>lT) (λ_ _ _=>(pv 1)))) zj)))))))
    (zk (ky)) zr)
   (zk (zO (qM LD L5 L6 qj (pv 2) (zz (pv 4) zj)))))))))
   (zq (zW (zd (p5 (K:=K) rfl hr.units) (pv 2) (zB zj) (zQ _))
    (zk (ky)) zr)
   (zk (zp (pv 2)))))),?_⟩
 refine⟨Sy _,?_⟩
 intro l H1 s1 hl e1
 let Jn:xM:=λσ' H'=>(∃(vs:List V) (fnd:List (Str × Str)) (v3 v4:Option V),σ'=[some (.ref a),some (.ref b),some (.ref l),v3,v4]∧zf H H'∧H' l=some (.lst vs)∧Paired (j6 H') vs fnd∧fnd.length≤12∧(∀mn∈fnd,rS mn)∧jf taken [] (rows.drop 2)=(if fnd=[] then .error 2 else .ok fnd))∨False
 refine⟨Jn,?_,?_⟩
 ·walk_at "rd"
  intro l0 H2 s2 hl0 e2
  have e2':H2 l0=some (.lst ((rows.drop 2).map V.str)):=by rw[←vO V.str rows 2];exact e2
  clear e2
  walk_at "rd"
  have hne0:l0≠l:=SF (zh e1 hl0)
  let Iv:xn:=λi σ H'=>∃(vs:List V) (fnd:List (Str × Str)) (v3 v4:Option V),σ=[some (.ref a),some (.ref b),some (.ref l),v3,v4]∧zf H H'∧H' l=some (.lst vs)∧H' l0=some (.lst ((rows.drop 2).map V.str))∧Paired (j6 H') vs fnd∧fnd.length≤12∧(∀mn∈fnd,rS mn)∧jf taken [] (rows.drop 2)=jf taken fnd ((rows.drop 2).drop i)
  refine xg (K:=K) (a:=l0) (xs:=(rows.drop 2).map V.str) Iv
   ⟨[],[],none,none,rfl,s1.trans s2,s2 _ _ e1,e2',.nil,Sy _,λ_ z=>(by cases z),by rw[OC]⟩ (λi σ H' _ ⟨_,_,_,_,_,_,_,q,_⟩=>zK.of q) ?_ ?_
  ·rintro i y σ H3 hi ⟨vs,fnd,v3,v4,rfl,s3,e3,e30,hP,hf,qx,hr'⟩
   rw[LV] at hi
   cases q:(rows.drop 2)[i]? with
   | none=>rw[q] at hi;cases hi
   | some x=>
    rw[q] at hi
    cases hi
    have hx:x∈rows:=Oi (LC q)
    have hd:(rows.drop 2).drop i=x :: (rows.drop 2).drop (i + 1):=by
     obtain⟨hi',e⟩:=LN.mp q
     rw[←e];exact Nx hi'
    rw[hd] at hr'
    walk_at "rd"
    refine⟨hR.short _ hx,λH4 s4=>⟨λh0=>?_,λp m n h0 hp e4=>?_⟩⟩
    ·walk_at "rd"
     refine .inl ⟨vs,fnd,_,_,rfl,s3.trans s4,s4 _ _ e3,Paired.imp' (λ_ _ z=>z.same s4) hP,hf,qx,?_⟩
     rw[hr',jf,h0]
    ·have hP4:Paired (j6 H4) (vs ++ [.ref p]) (fnd ++ [(m,n)]):=Paired.snoc (Paired.imp' (λ_ _ z=>z.same s4) hP) ⟨p,rfl,e4⟩
     have hlen:vs.length=fnd.length:=SW hP
     have eRR:jf taken fnd (x :: E4 (i + 1) (E4 2 rows))=if fnd.length=12∨¬(taken ++ (fnd ++ [(m,n)]).map (·.2)).Nodup then .error (2 + fnd.length) else jf taken (fnd ++ [(m,n)]) (E4 (i + 1) (E4 2 rows)):=by rw[jf,h0]
     rw[eRR] at hr'
     have e34:=s4 _ _ e3
     have raise2:(fnd.length=12∨¬(taken ++ (fnd ++ [(m,n)]).map (·.2)).Nodup)→∀c o H',Gp t (2 + (vs.length:Nat):Int) H c o H'→False:=λz c o H' q=>kE (2 + fnd.length) (by rw[hr',if_pos z]) c o H' (by rw[←hlen];exact q)
     walk_at "rd"
     refine⟨l,_,rfl,.inl (zK.of e34),rfl,_,rfl,?_⟩
     refine zD (λh12=>?_) (λh12=>?_)
     ·walk_at "rd"
      exact gP T λc o H' z=>raise2 (.inl (by
       have:((vs.length:Nat):Int)=12:=by simpa using h12
       omega)) c o H' (z.back (s3.trans s4))
     have hn12:¬fnd.length=12:=λq=>h12 (by rw[hlen,q];rfl)
     walk_at "rd"
     intro l5 H5 s5 hl5 e5
     refine⟨l,l5,_,_,rfl,rfl,s5 _ _ e34,e5,zg (by simp only[LQ,LO];omega),?_⟩
     intro l6 H6 s6 hl6 e6
     have hP6:Paired (j6 H6) (vs ++ [.ref p]) (fnd ++ [(m,n)]):=Paired.imp' (λ_ _ z=>z.same (s5.trans s6)) hP4
     refine⟨l6,rfl,⟨_,zK.of e6⟩,uq (xW (zK.of e6)) (Jq H6) (ZP H6) (λy v=>∀p m n,y=V.ref p→H6 p=some (.tup [.str m,.str n])→v=V.str n) (zg (by rw[Li];simp only[LQ,LO];omega)) ?_ ?_ ?_⟩
     ·intro j y ts H' K' hy hts s' k'
      obtain⟨mn,_,p',rfl,ep⟩:=Paired.Vz hP6 (LC hy)
      have et:Jq H6 (.ref p')=[some (.str mn.1),some (.str mn.2)]:=by unfold Jq;simp only[ep]
      rw[et] at k'
      match ts,hts with
      | [t1,t2],_=>exact⟨p',_,rfl,jt.of (s' _ _ ep),rfl,_,_,rfl,_,_,rfl,rfl,k'⟩
     ·intro j y H' Q' hy s' kk
      obtain⟨mn,_,p',rfl,ep⟩:=Paired.Vz hP6 (LC hy)
      have et:Jq H6 (.ref p')=[some (.str mn.1),some (.str mn.2)]:=by unfold Jq;simp only[ep]
      rw[et]
      refine⟨_,rfl,kk _ _ (zf.refl _) λp2 m2 n2 e q=>?_⟩
      cases e
      rw[ep] at q
      cases q
      rfl
     intro D H7 ys s7 hD e7 hPr
     rw[dz hP6 hPr] at e7
     have sA:zf H H7:=(((s3.trans s4).trans s5).trans s6).trans s7
     walk_at "rd"
     refine⟨b,D,_,_,rfl,rfl,sA _ _ hB,e7,zg (by simp only[Ln,Li,LQ,LO];omega),?_⟩
     intro l8 H8 s8 hl8 e8
     refine⟨l8,taken ++ (fnd ++ [(m,n)]).map (·.2),rfl,zK.of (by rw[e8,←LY]),(by simp only[Ln,Li,LQ,LO];omega),λH9 s9=>?_⟩
     have sB:zf H4 H9:=(((s5.trans s6).trans s7).trans s8).trans s9
     walk_at "rd"
     refine zD (λh3=>?_) (λh3=>?_)
     ·walk_at "rd"
      exact gP T λc o H' z=>raise2 (.inr (of_decide_eq_false (nQ h3))) c o H' (z.back ((s3.trans s4).trans sB))
     walk_at "rd"
     intro H10 k10 e10
     have e9l:=sB _ _ e34
     refine⟨vs ++ [.ref p],fnd ++ [(m,n)],_,_,rfl,k10.put ((s3.trans s4).trans sB) hl,e10,k10.look (sB _ _ (s4 _ _ e30)) (λq=>?_),Paired.imp' (λ_ _ z=>(z.same sB).keeps k10 e9l) hP4,(by rw[Li];simp only[LQ,LO];omega),(λz hz=>(LU.mp hz).elim (qx z) (λhz=>by rw[LW.mp hz];exact Yo h0)),?_⟩
     ·exact hne0 q
     ·rw[hr',if_neg (λq=>q.elim hn12 (λq=>q (zzB (nZ h3))))]
  ·rintro σ H3 ⟨vs,fnd,v3,v4,rfl,s3,e3,e30,hP,hf,qx,hr'⟩
   rw[Ln,E5,jf] at hr'
   exact .inl ⟨vs,fnd,v3,v4,rfl,s3,e3,hP,hf,qx,hr'⟩
 ·rintro σ H3 (⟨vs,fnd,v3,v4,rfl,s3,e3,hP,hf,qx,hr'⟩ | ⟨⟨⟩⟩)
  walk_at "rd"
  intro l4 H4 s4 hl4 e4
  have sh0:SI (.list (([]:List Str).map S0))=true:=qV (xs:=[]) λy hy=>by cases hy
  have hP4:Paired (j6 H4) vs fnd:=Paired.imp' (λ_ _ z=>z.same s4) hP
  refine⟨_,_,dt.lst (zK.of (s4 _ _ e3)) (Yt hP4),dt.lst (zK.of e4) (vj.strs []),Vt qx,sh0,_,rfl,?_⟩
  rw[FP]
  refine zD (λh2=>?_) (λh2=>?_)
  ·walk_at "rd"
   exact gP T λc o H' z=>kE 2 (by rw[hr',if_pos (zzB h2)]) c o H' (z.back (s3.trans s4))
  walk_at "rd"
  exact kQ fnd l H4 vs (by rw[hr',if_neg (λq=>h2 (zzP q))]) (s3.trans s4) hl (s4 _ _ e3) hP4
inductive Rw where
 | lt (n v:Str)
 | cl (k:Int) (l u a:Str) (n:Int) (r:Str)
 | pt (n:Str) (rs:List Str) (rows:List Rw)
mutual
def jU (t:z4) (ms:List Addr) (H:Hp):Rw→V→Prop
 | .lt n v,x=>∃p,x=.ref p∧p∉ms∧BE t H p n v
 | .cl k l u a n r,x=>∃p,x=.ref p∧p∉ms∧At t H p k l u a n r
 | .pt n rs rows,x=>∃p dx a b ys,x=.ref p∧p∉ms∧a∉ms∧b∉ms∧H p=some (.ins t.zI dx (XU n a b))∧H a=some (.lst (rs.map V.str))∧H b=some (.lst ys)∧qw t ms H rows ys
def qw (t:z4) (ms:List Addr) (H:Hp):List Rw→List V→Prop
 | [],ys=>ys=[]
 | r :: rs,ys=>∃y ys',ys=y :: ys'∧jU t ms H r y∧qw t ms H rs ys'
end
def Fm (ms:List Addr) (H H':Hp):Prop:=∀b o,b∉ms→H b=some o→H' b=some o
theorem Fm.trans {ms ms':List Addr} {H H1 H2:Hp} (a:Fm ms H H1) (b:Fm ms' H1 H2) (hm:∀b∈ms',b∈ms∨H b=none):Fm ms H H2:=λc o hc e=>b c o (λz=>(hm c z).elim hc (λq=>by rw[e] at q;cases q)) (a c o hc e)
theorem Fm.same {ms:List Addr} {H H1 H2:Hp} (a:Fm ms H H1) (s:zf H1 H2):Fm ms H H2:=λc o hc e=>s _ _ (a c o hc e)
theorem Fm.of {ms:List Addr} {H H1:Hp} (s:zf H H1):Fm ms H H1:=λc o _ e=>s _ _ e
theorem Fm.Xc {ms:List Addr} {H0 H H1:Hp} (a:Fm ms H H1) (s:zf H0 H) (h:∀b∈ms,H0 b=none):zf H0 H1:=λc o e=>a c o (λz=>by rw[h c z] at e;cases e) (s c o e)
theorem cy {ms ms':List Addr} {H:Hp} {b:Addr} {o:HO} (hm:∀b∈ms',b∈ms∨H b=none) (h:b∉ms) (e:H b=some o):b∉ms':=λz=>(hm b z).elim h (λq=>by rw[e] at q;cases q)
mutual
theorem jU.move {t:z4} {ms ms':List Addr} {H H':Hp} (hk:Fm ms H H') (hm:∀b∈ms',b∈ms∨H b=none):∀{r:Rw} {x:V},jU t ms H r x→jU t ms' H' r x
 | .lt n v,x,h=>by
  unfold jU at h ⊢
  obtain⟨p,e,hp,dx,q⟩:=h
  exact⟨p,e,cy hm hp q,dx,hk _ _ hp q⟩
 | .cl k l u a n r,x,h=>by
  unfold jU at h ⊢
  obtain⟨p,e,hp,dx,q⟩:=h
  exact⟨p,e,cy hm hp q,dx,hk _ _ hp q⟩
 | .pt n rs rows,x,h=>by
  unfold jU at h ⊢
  obtain⟨p,dx,a,b,ys,e,hp,ha,hb,e1,e2,e3,q⟩:=h
  exact⟨p,dx,a,b,ys,e,cy hm hp e1,cy hm ha e2,cy hm hb e3,hk _ _ hp e1,hk _ _ ha e2,hk _ _ hb e3,qw.move hk hm q⟩
theorem qw.move {t:z4} {ms ms':List Addr} {H H':Hp} (hk:Fm ms H H') (hm:∀b∈ms',b∈ms∨H b=none):∀{rs:List Rw} {ys:List V},qw t ms H rs ys→qw t ms' H' rs ys
 | [],ys,h=>by unfold qw at h ⊢;exact h
 | r :: rs,ys,h=>by
  unfold qw at h ⊢
  obtain⟨y,ys',e,h1,h2⟩:=h
  exact⟨y,ys',e,jU.move hk hm h1,qw.move hk hm h2⟩
end
theorem qw.snoc {t:z4} {ms:List Addr} {H:Hp} {r:Rw} {y:V} (h:jU t ms H r y):∀{rs:List Rw} {ys:List V},qw t ms H rs ys→qw t ms H (rs ++ [r]) (ys ++ [y])
 | [],ys,q=>by
  unfold qw at q
  subst q
  show qw t ms H [r] [y]
  unfold qw
  exact⟨y,[],rfl,h,by unfold qw;rfl⟩
 | r' :: rs,ys,q=>by
  unfold qw at q
  obtain⟨y',ys',rfl,h1,h2⟩:=q
  show qw t ms H (r' :: (rs ++ [r])) (y' :: (ys' ++ [y]))
  unfold qw
  exact⟨y',_,rfl,h1,qw.snoc h h2⟩
theorem qw.len {t:z4} {ms:List Addr} {H:Hp}:∀{rs:List Rw} {ys:List V},qw t ms H rs ys→ys.length=rs.length
 | [],ys,q=>by unfold qw at q;rw[q];rfl
 | r' :: rs,ys,q=>by
  unfold qw at q
  obtain⟨y',ys',rfl,h1,h2⟩:=q
  rw[LQ,LQ,qw.len h2]
noncomputable abbrev Fr:=Str × List Str × List Rw
def bo (t:z4) (ms:List Addr) (H:Hp) (B:Nat):List Addr→List Addr→List Fr→Prop
 | [],[],[]=>True
 | p :: ps,q :: qs,(n,rs,rows) :: fr=>(∃dx a b,p∉ms∧a∉ms∧H p=some (.ins t.zI dx (XU n a b))∧H a=some (.lst (rs.map V.str)))∧(∃ys,H q=some (.lst ys)∧qw t ms H rows ys∧rows.length≤B)∧bo t ms H B ps qs fr
 | _,_,_=>False
noncomputable def Jc (a b c:Addr):List (Str × V):=[("heads",.ref a),("bodies",.ref b),("labels",.ref c)]
noncomputable def vb (ls:List Str):List (Key × V):=ls.map λl=>(.inr l,.bl true)
structure eU (t:z4) (H:Hp) (me dx hd bd lb:Addr) (hps bqs:List Addr) (fr:List Fr) (ls:List Str) (B:Nat):Prop where
 nd:(me :: hd :: bd :: lb :: bqs).Nodup
 se:H me=some (.ins t.zL dx (Jc hd bd lb))
 hh:H hd=some (.lst (hps.map V.ref).reverse)
 hb:H bd=some (.lst (bqs.map V.ref).reverse)
 hl:H lb=some (.dK (vb ls))
 fa:bo t (me :: hd :: bd :: lb :: bqs) H B hps bqs fr
 ai:ls.length≤B
def vq (t:z4) (H:Hp) (me:Addr) (fr:List Fr) (ls:List Str) (B:Nat) (ms:List Addr):Prop:=∃dx hd bd lb hps bqs,ms=me :: hd :: bd :: lb :: bqs∧eU t H me dx hd bd lb hps bqs fr ls B
theorem bo.len {t:z4} {ms:List Addr} {H:Hp} {B:Nat}:∀{ps qs:List Addr} {fr:List Fr},bo t ms H B ps qs fr→ps.length=fr.length∧qs.length=fr.length
 | [],[],[],_=>⟨rfl,rfl⟩
 | p :: ps,q :: qs,(n,rs,rows) :: fr,h=>by
  have:=bo.len h.2.2
  simp [this.1,this.2]
theorem bo.move {t:z4} {ms ms':List Addr} {H H':Hp} {B B':Nat} (hk:Fm ms H H') (hm:∀b∈ms',b∈ms∨H b=none) (hB:B≤B'):∀{ps qs:List Addr} {fr:List Fr},bo t ms H B ps qs fr→(∀q∈qs,∀o,H q=some o→H' q=some o)→bo t ms' H' B' ps qs fr
 | [],[],[],_,_=>Tz
 | p :: ps,q :: qs,(n,rs,rows) :: fr,h,hq=>by
  obtain⟨⟨dx,a,b,h1,h2,h3,h4⟩,⟨ys,h5,h6,h7⟩,h8⟩:=h
  exact⟨⟨dx,a,b,cy hm h1 h3,cy hm h2 h4,hk _ _ h1 h3,hk _ _ h2 h4⟩,⟨ys,hq q Sw _ h5,h6.move hk hm,by omega⟩,bo.move hk hm hB h8 λc hc=>hq c (LK _ hc)⟩
theorem bo.VT {t:z4} {ms:List Addr} {H:Hp} {B:Nat}:∀{ps qs:List Addr} {fr:List Fr},bo t ms H B ps qs fr→∀q∈qs,∃o,H q=some o
 | [],[],[],_,q,hq=>by cases hq
 | p :: ps,q :: qs,(n,rs,rows) :: fr,h,c,hc=>by
  obtain⟨_,⟨ys,h5,_,_⟩,h8⟩:=h
  (rcases La.mp hc with rfl | hc)
  ·exact⟨_,h5⟩
  ·exact bo.VT h8 c hc
theorem eU.VT {t:z4} {H:Hp} {me dx hd bd lb:Addr} {hps bqs:List Addr} {fr:List Fr} {ls:List Str} {B:Nat} (h:eU t H me dx hd bd lb hps bqs fr ls B):∀b∈me :: hd :: bd :: lb :: bqs,∃o,H b=some o:=by
 intro b hb
 simp only[La] at hb
 rcases hb with rfl | rfl | rfl | rfl | hb
 ·exact⟨_,h.se⟩
 ·exact⟨_,h.hh⟩
 ·exact⟨_,h.hb⟩
 ·exact⟨_,h.hl⟩
 ·exact h.fa.VT b hb
theorem bo.inv {t:z4} {ms:List Addr} {H:Hp} {B:Nat} {n:Str} {rs:List Str} {rows:List Rw} {fr:List Fr}:∀{hps bqs:List Addr},bo t ms H B hps bqs ((n,rs,rows) :: fr)→∃p ps q qs,hps=p :: ps∧bqs=q :: qs∧(∃dx a b,p∉ms∧a∉ms∧H p=some (.ins t.zI dx (XU n a b))∧H a=some (.lst (rs.map V.str)))∧(∃ys,H q=some (.lst ys)∧qw t ms H rows ys∧rows.length≤B)∧bo t ms H B ps qs fr
 | [],_,h=>by simp [bo] at h
 | _ :: _,[],h=>by simp [bo] at h
 | p :: ps,q :: qs,h=>⟨p,ps,q,qs,rfl,rfl,h.1,h.2.1,h.2.2⟩
def ZJ (t:z4):Sp:=λvs H Q _=>∃(self:Addr) (fr:List Fr) (ls:List Str) (B:Nat) (ms:List Addr),vs=[.ref self]∧vq t H self fr ls B ms∧Q (.int (((fr.length:Nat):Int) - 1)) H
def Kf (t:z4):Sp:=λvs H Q _=>∃(self:Addr) (y:V) (n:Str) (rs:List Str) (rows:List Rw) (fr:List Fr) (ls:List Str) (B:Nat) (ms:List Addr) (r:Rw),vs=[.ref self,y]∧vq t H self ((n,rs,rows) :: fr) ls B ms∧jU t ms H r y∧B < 1000∧∀H',Fm ms H H'→vq t H' self ((n,rs,rows ++ [r]) :: fr) ls (B + 1) ms→Q .non H'
def oX (t:z4):Sp:=λvs H Q _=>∃(self:Addr) (n:Str) (rs:List Str) (rows:List Rw) (fr:List Fr) (ls:List Str) (B:Nat) (ms:List Addr),vs=[.ref self]∧vq t H self ((n,rs,rows) :: fr) ls B ms∧B≤1000∧∀p H' ms',Fm ms H H'→(∀b∈ms',b∈ms)→vq t H' self fr ls B ms'→jU t ms' H' (.pt n rs rows) (.ref p)→Q (.ref p) H'
theorem b1:¬(("bodies" : Str) = "heads"):=by decide +kernel
theorem b2:¬(("labels" : Str) = "heads"):=by decide +kernel
theorem b3:¬(("labels" : Str) = "bodies"):=by decide +kernel
section
variable {H:Hp} {self dx hd bd lb:Addr} {hps bqs:List Addr} {fr:List Fr} {ls:List Str} {B:Nat}
theorem eU.f1 (h:eU t H self dx hd bd lb hps bqs fr ls B) (T:Txt K mg t):iB K H (.ref self) "heads" (.ref hd):=⟨self,_,dx,_,rfl,h.se,T.qi,T.yK,zS⟩
theorem eU.f2 (h:eU t H self dx hd bd lb hps bqs fr ls B) (T:Txt K mg t):iB K H (.ref self) "bodies" (.ref bd):=⟨self,_,dx,_,rfl,h.se,T.qi,T.x6,(zt b1).trans zS⟩
theorem eU.f3 (h:eU t H self dx hd bd lb hps bqs fr ls B) (T:Txt K mg t):iB K H (.ref self) "labels" (.ref lb):=⟨self,_,dx,_,rfl,h.se,T.qi,T.pk,(zt b2).trans ((zt b3).trans zS)⟩
end
theorem cM:zu ["self"] ["self"] (zy y4):=by walk_at "sc"
theorem x9 (T:Txt K mg t):ze P w K mg base zC 1 t.kr t.yM ["self"] (ZJ t):=by
 refine T.xP.fn.ok cM (by walk_at "ln") ?_;walk_at "hd"
 obtain⟨self,fr,ls,B,ms,rfl,⟨dx,hd,bd,lb,hps,bqs,rfl,h⟩,k⟩:=h
 refine⟨_,(zk (zp (zo m8 (zX (zG (K:=K) rfl) rfl T.qJ L4 (zz (zT (K:=K) rfl (pv 0) rfl) zj)) zx))),?_⟩
 refine⟨_,rfl,_,h.f1 T,hd,_,rfl,.inl (zK.of h.hh),?_⟩
 refine⟨_,_,rfl,rfl,?_⟩
 have:(hps.map V.ref).reverse.length=fr.length:=by rw[Nd,Ln];exact h.fa.len.1
 rw[this]
 exact k
theorem oq:zu ["self","row"] ["self","row"] (zy fT):=by walk_at "sc"
theorem wV (T:Txt K mg t):ze P w K mg base zC 1 t.yi t.fV ["self","row"] (Kf t):=by
 refine T.wR.fn.ok oq (by walk_at "ln") ?_;walk_at "hd"
 obtain⟨self,y,n,rs,rows,fr,ls,B,ms,r,rfl,⟨dx,hd,bd,lb,hps,bqs,rfl,h⟩,hr',hB,k⟩:=h
 refine⟨_,(zk (zO (qM LD L5 L6 qj (zc (zv (K:=K) rfl) (zT (K:=K) rfl (pv 0) rfl) (cQ gD zx) (λ_ _=>rfl)) (zz (pv 1) zj)))),?_⟩
 obtain⟨nd,se,hh,hb,hl,fa,ai⟩:=id h
 obtain⟨p,ps,q,qs,rfl,rfl,f1,⟨ys,e1,e2,e3⟩,f3⟩:=fa.inv
 refine⟨_,rfl,_,h.f2 T,?_⟩
 refine⟨_,rfl,bd,_,_,.ref q,rfl,rfl,zK.of hb,(by rw[LR,S8];exact sJ _ _),?_⟩
 have hq:q∈self :: hd :: bd :: lb :: q :: qs:=by simp
 refine⟨.inl ⟨rfl,_,zK.of e1⟩,_,rfl,q,ys,_,rfl,rfl,e1,zg (by have:=e2.len;omega),?_⟩
 intro H' k' e'
 have fm:Fm (self :: hd :: bd :: lb :: q :: qs) H H':=λb o hb e=>by rw[k' b (λz=>hb (by rw[z];exact hq))];exact e
 have ne:∀b,b∈self :: hd :: bd :: lb :: qs→b≠q:=λb hx z=>by
  subst z
  simp only[Sq,La,not_or] at nd hx
  rcases hx with hx | hx | hx | hx | hx
  ·exact nd.1.2.2.2.1 hx.symm
  ·exact nd.2.1.2.2.1 hx.symm
  ·exact nd.2.2.1.2.1 hx.symm
  ·exact nd.2.2.2.1.1 hx.symm
  ·exact nd.2.2.2.2.1 hx
 have hm:∀b∈self :: hd :: bd :: lb :: q :: qs,b∈self :: hd :: bd :: lb :: q :: qs∨H b=none:=λb hb=>.inl hb
 refine k H' fm ⟨dx,hd,bd,lb,p :: ps,q :: qs,rfl,nd,?_,?_,?_,?_,⟨?_,⟨ys ++ [y],e',qw.snoc (hr'.move fm hm) (e2.move fm hm),?_⟩,f3.move fm hm (Ol _) λc hc o e=>by rw[k' c (ne c (by simp [hc]))];exact e⟩,by omega⟩
 ·rw[k' self (ne self (by simp))];exact se
 ·rw[k' hd (ne hd (by simp))];exact hh
 ·rw[k' bd (ne bd (by simp))];exact hb
 ·rw[k' lb (ne lb (by simp))];exact hl
 ·obtain⟨dx',a,b,g1,g2,g3,g4⟩:=f1
  exact⟨dx',a,b,g1,g2,fm _ _ g1 g3,fm _ _ g2 g4⟩
 ·rw[Li];simp only[LQ,LO];omega
theorem M7 {a b c d q:Addr} {qs:List Addr} (h:(a :: b :: c :: d :: q :: qs).Nodup):(a :: b :: c :: d :: qs).Nodup∧∀x∈a :: b :: c :: d :: qs,x≠q:=by
 have h':=h
 simp only[Sq,La,not_or] at h ⊢
 refine⟨⟨⟨h.1.1,h.1.2.1,h.1.2.2.1,h.1.2.2.2.2⟩,⟨h.2.1.1,h.2.1.2.1,h.2.1.2.2.2⟩,⟨h.2.2.1.1,h.2.2.1.2.2⟩,h.2.2.2.1.2,h.2.2.2.2.2⟩,λx hx z=>?_⟩
 subst z
 rcases hx with hx | hx | hx | hx | hx
 ·exact h.1.2.2.2.1 hx.symm
 ·exact h.2.1.2.2.1 hx.symm
 ·exact h.2.2.1.2.1 hx.symm
 ·exact h.2.2.2.1.1 hx.symm
 ·exact h.2.2.2.2.1 hx
theorem pD:zu ["self","head"] ["self"] (zy fS):=by walk_at "sc"
theorem pd (T:Txt K mg t):ze P w K mg base zC 3 t.yo t.fK ["self"] (oX t):=by
 have M_Part_init:=@ze.mono P w K mg base _ _ 1 _ _ _ _ (vH T) (by decide)
 refine T.bc.fn.ok pD (by walk_at "ln") ?_;walk_at "hd"
 obtain⟨self,n,rs,rows,fr,ls,B,ms,rfl,⟨dx,hd,bd,lb,hps,bqs,rfl,h⟩,hB,k⟩:=h
 refine⟨_,(zq (za (i:=1) pD.nd rfl (LL rfl) (uM LD T9 Nz ny (zT (K:=K) rfl (pv 0) rfl)))
   (zk (zp (qH T.pA M_Part_init hr rfl T.mU T.kf.bd .nil zJ (zz (zT (K:=K) rfl (pv 1) rfl) (zz (zT (K:=K) rfl (pv 1) rfl) (zz (uM LD T9 Nz ny (zT (K:=K) rfl (pv 0) rfl)) zj))))))),?_⟩
 obtain⟨nd,se,hh,hb,hl,fa,ai⟩:=id h
 obtain⟨p,ps,q,qs,rfl,rfl,⟨dx',a,b,g1,g2,g3,g4⟩,⟨ys,e1,e2,e3⟩,f3⟩:=fa.inv
 have VT:=h.VT
 refine⟨_,rfl,_,h.f1 T,?_⟩
 refine⟨.inl ⟨rfl,_,zK.of hh⟩,hd,_,.ref p,rfl,rfl,hh,(by rw[LR,S8];simp),?_⟩
 intro H1 k1 e1'
 rw[LR,S8,IC] at e1'
 obtain⟨nd2,nq⟩:=M7 nd
 have nab:hd≠bd:=by simp only[Sq,La,not_or] at nd;exact nd.2.1.1
 have nsh:self≠hd:=by simp only[Sq,La,not_or] at nd;exact nd.1.1
 have nsb:self≠bd:=by simp only[Sq,La,not_or] at nd;exact nd.1.2.1
 have nlh:lb≠hd:=by simp only[Sq,La,not_or] at nd;exact λz=>nd.2.1.2.1 z.symm
 have nlb:lb≠bd:=by simp only[Sq,La,not_or] at nd;exact λz=>nd.2.2.1.1 z.symm
 have ph:p≠hd:=λz=>g1 (by rw[z];simp)
 have ah:a≠hd:=λz=>g2 (by rw[z];simp)
 have p1:H1 p=some (.ins t.zI dx' (XU n a b)):=by rw[k1 p ph];exact g3
 have a1:H1 a=some (.lst (rs.map V.str)):=by rw[k1 a ah];exact g4
 have s1:H1 self=some (.ins t.zL dx (Jc hd bd lb)):=by rw[k1 self nsh];exact se
 have b1':H1 bd=some (.lst ((q :: qs).map V.ref).reverse):=by rw[k1 bd (SF nab)];exact hb
 refine⟨_,rfl,_,⟨p,_,dx',_,rfl,p1,T.kM,T.gX,zS⟩,?_⟩
 refine⟨_,rfl,_,⟨p,_,dx',_,rfl,p1,T.kM,T.yW,(zt (λz=>m2 z.symm)).trans zS⟩,?_⟩
 refine⟨_,rfl,_,⟨self,_,dx,_,rfl,s1,T.qi,T.x6,(zt b1).trans zS⟩,?_⟩
 refine⟨.inl ⟨rfl,_,zK.of b1'⟩,bd,_,.ref q,rfl,rfl,b1',(by rw[LR,S8];simp),?_⟩
 intro H2 k2 e2'
 rw[LR,S8,IC] at e2'
 intro x dxx hx hdx hne
 have keep2:∀c o,c≠hd→c≠bd→H c=some o→H2 c=some o:=λc o h1 h2 e=>by rw[k2 c h2,k1 c h1];exact e
 have keepm:∀c o,H2 c=some o→(upd (upd H2 dxx (HO.own x)) x (HO.ins t.zI dxx [])) c=some o:=jN hx hdx
 have ab:a≠bd:=λz=>g2 (by rw[z];simp)
 have qh:q≠hd:=SF (nq hd (by simp))
 have qb':q≠bd:=SF (nq bd (by simp))
 refine⟨x,dxx,a,q,n,rs,ys,rfl,zm,keepm _ _ (keep2 _ _ ah ab g4),keepm _ _ (keep2 _ _ qh qb' e1),λH3 o3 h3=>⟨rfl,?_⟩⟩
 obtain⟨dx3,qa,qb,r1,r2,r3,z1,z2⟩:=h3
 have keep3:∀c o,H2 c=some o→H3 c=some o:=λc o e=>o3 c o (zh e hx) (keepm c o e)
 have ke:∀c o,c≠hd→c≠bd→H c=some o→H3 c=some o:=λc o h1 h2 e=>keep3 c o (keep2 c o h1 h2 e)
 have h2h:H2 hd=some (.lst (ps.map V.ref).reverse):=by rw[k2 hd nab];exact e1'
 have sub:∀c∈self :: hd :: bd :: lb :: qs,c∈self :: hd :: bd :: lb :: q :: qs:=λc hc=>by
  simp only[La] at hc ⊢
  rcases hc with z | z | z | z | z<;>simp [z]
 have fm:Fm (self :: hd :: bd :: lb :: q :: qs) H H3:=λc o hc e=>ke c o (λz=>hc (by rw[z];simp)) (λz=>hc (by rw[z];simp)) e
 have dom2:∀c∈self :: hd :: bd :: lb :: qs,∃o,H2 c=some o:=λc hc=>by
  by_cases q1:c=hd
  ·subst q1;exact⟨_,h2h⟩
  ·by_cases q2:c=bd
   ·subst q2;exact⟨_,e2'⟩
   ·obtain⟨o,e⟩:=VT c (sub c hc)
    exact⟨o,keep2 c o q1 q2 e⟩
 have ni:∀y,(upd (upd H2 dxx (HO.own x)) x (HO.ins t.zI dxx [])) y=none→y∉self :: hd :: bd :: lb :: qs:=λy e hy=>by
  obtain⟨o,e'⟩:=dom2 y hy
  rw[keepm y o e'] at e;cases e
 have hm:∀c∈self :: hd :: bd :: lb :: qs,c∈self :: hd :: bd :: lb :: q :: qs∨H c=none:=λc hc=>.inl (sub c hc)
 have nqs:∀c∈qs,c≠hd∧c≠bd:=λc hc=>by
  simp only[Sq,La,not_or] at nd2
  exact⟨λz=>nd2.2.1.2.2 (by rw[←z];exact hc),λz=>nd2.2.2.1.2 (by rw[←z];exact hc)⟩
 refine k x H3 (self :: hd :: bd :: lb :: qs) fm sub ⟨dx,hd,bd,lb,ps,qs,rfl,nd2,ke _ _ nsh nsb se,keep3 _ _ h2h,keep3 _ _ e2',ke _ _ nlh nlb hl,f3.move fm hm (LF _) (λc hc o e=>ke c o (nqs c hc).1 (nqs c hc).2 e),ai⟩ ?_
 unfold jU
 refine⟨x,dx3,qa,qb,ys,rfl,λhxm=>?_,ni qa z1,ni qb z2,r1,r2,r3,e2.move fm hm⟩
 obtain⟨o,e'⟩:=dom2 x hxm
 rw[hx] at e';cases e'
end
def YC (t:z4):Sp:=λvs H Q _=>∃(self:Addr) (fr:List Fr) (ls:List Str) (B:Nat) (ms:List Addr),vs=[.ref self]∧vq t H self fr ls B ms∧B < 1000∧fr≠[]∧(fr.length=1→Q (.bl false) H)∧
 ∀n rs rows n2 rs2 rows2 fr',fr=(n,rs,rows) :: (n2,rs2,rows2) :: fr'→∀H' ms',Fm ms H H'→(∀b∈ms',b∈ms)→vq t H' self ((n2,rs2,rows2 ++ [.pt n rs rows]) :: fr') ls (B + 1) ms'→Q (.bl true) H'
def YR (t:z4):Sp:=λvs H Q _=>∃(self p dx a b:Addr) (n:Str) (rs:List Str) (fr:List Fr) (ls:List Str) (B:Nat) (ms:List Addr),vs=[.ref self,.ref p]∧vq t H self fr ls B ms∧B < 1000∧fr.length≤7∧p∉ms∧a∉ms∧H p=some (.ins t.zI dx (XU n a b))∧H a=some (.lst (rs.map V.str))∧(fr.length=7∨n∈ls→Q (.bl false) H)∧
 (¬(fr.length=7∨n∈ls)→∀H' ms',Fm ms H H'→(∀b∈ms',b∈ms∨H b=none)→vq t H' self ((n,rs,[]) :: fr) (ls ++ [n]) (B + 1) ms'→Q (.bl true) H')
def YD (t:z4):Sp:=λvs H Q _=>∃(self p:Addr) (k:Int) (l u a:Str) (n:Int) (r:Str) (pn:Str) (rs:List Str) (rows:List Rw) (fr:List Fr) (ls:List Str) (B:Nat) (ms:List Addr),vs=[.ref self,.ref p]∧vq t H self ((pn,rs,rows) :: fr) ls B ms∧B < 998∧p∉ms∧At t H p k l u a n r∧(l∈ls→Q (.bl false) H)∧
 (l∉ls→∀H',Fm ms H H'→vq t H' self ((pn,rs,rows ++ [.cl k l u a n r]) :: fr) (ls ++ [l]) (B + 2) ms→Q (.bl true) H')
theorem mP {a b c:Addr} {m:Str} (h1:¬m = "heads") (h2:¬m = "bodies") (h3:¬m = "labels"):(Jc a b c).lookup m=none:=(zt h1).trans ((zt h2).trans ((zt h3).trans rfl))
theorem aA {a b c:Addr}:(Jc a b c).lookup ("many_open" : Str)=none:=mP (by decide +kernel) (by decide +kernel) (by decide +kernel)
theorem JP {a b c:Addr}:(Jc a b c).lookup ("put_in" : Str)=none:=mP (by decide +kernel) (by decide +kernel) (by decide +kernel)
theorem i7 {a b c:Addr}:(Jc a b c).lookup ("closed" : Str)=none:=mP (by decide +kernel) (by decide +kernel) (by decide +kernel)
theorem Dq {a b c:Addr}:(Jc a b c).lookup ("takes_done" : Str)=none:=mP (by decide +kernel) (by decide +kernel) (by decide +kernel)
theorem Dj {a b c:Addr}:(Jc a b c).lookup ("takes_head" : Str)=none:=mP (by decide +kernel) (by decide +kernel) (by decide +kernel)
theorem Dz {a b c:Addr}:(Jc a b c).lookup ("takes_clause" : Str)=none:=mP (by decide +kernel) (by decide +kernel) (by decide +kernel)
theorem Dx {a b c:Addr}:(Jc a b c).lookup ("takes" : Str)=none:=mP (by decide +kernel) (by decide +kernel) (by decide +kernel)
theorem JZ {ls:List Str} {n:Str}:(j9 (vb ls) (.inr n)).isSome=decide (n∈ls):=by
 rw[←gk]
 unfold vb
 rw[ED]
 rw[NX]
 simp
theorem X0 {ls:List Str} {n:Str} (h:n∉ls):putK (vb ls) (.inr n) (.bl true)=vb (ls ++ [n]):=by
 rw[Yl]
 ·unfold vb;rw[LY];rfl
 ·have:=@JZ ls n
  rw[decide_eq_false h] at this
  cases q:j9 (vb ls) (.inr n) with
  | none=>rfl
  | some v=>rw[q] at this;cases this
section
variable {P:LH} {w:Sz} {K:Ls} {mg:Str→Option Lo} {base:Heap} {t:z4}
theorem dv:zu ["self"] ["self"] (zy yh):=by walk_at "sc"
theorem mO (T:Txt K mg t):ze P w K mg base zC 5 t.xU t.wO ["self"] (YC t):=by
 refine T.gS.fn.ok dv (by walk_at "ln") ?_;walk_at "hd"
 obtain⟨self,fr,ls,B,ms,rfl,hb,hB,hne,k0,k1⟩:=h
 refine⟨_,(zq (zW (zd qz (jb hr (pv 0)) zx (zQ _))
    (zk (zp xK)) zr)
   (zq (zO (qg hr (pv 0) (zz (jb hr (pv 0)) zj)))
   (zk (zp xK)))),?_⟩
 have M1:qy P w K mg base zC 4 t.zL "many_open" (ZJ t):=.mk' T.xA (x9 T) T.xP.bd (by decide)
 have M2:qy P w K mg base zC 4 t.zL "put_in" (Kf t):=.mk' T.wQ (wV T) T.wR.bd (by decide)
 have M3:qy P w K mg base zC 4 t.zL "closed" (oX t):=.mk' T.pz (pd T) T.bc.bd (by decide)
 obtain⟨dx,hd,bd,lb,hps,bqs,e,h⟩:=id hb
 refine⟨_,rfl,self,_,dx,_,rfl,h.se,T.qi,aA,_,M1,?_⟩
 refine⟨self,fr,ls,B,ms,rfl,hb,?_⟩
 walk_at "rd"
 walk_at "x3"
 ·walk_at "rd"
  exact k0 (by
   have:((fr.length:Nat):Int) - 1=0:=by simpa using h1
   omega)
 match fr,hne with
 | [(n,rs,rows)],_=>exact absurd rfl h1
 | (n,rs,rows) :: (n2,rs2,rows2) :: fr',_=>
  walk_at "rd"
  refine⟨self,_,dx,_,rfl,h.se,T.qi,JP,_,M2,?_⟩
  refine⟨_,rfl,self,_,dx,_,rfl,h.se,T.qi,i7,_,M3,?_⟩
  refine⟨self,n,rs,rows,_,ls,B,ms,rfl,hb,by omega,λp H1 ms1 fm1 sub1 hb1 hr1=>?_⟩
  refine⟨self,.ref p,n2,rs2,rows2,fr',ls,B,ms1,.pt n rs rows,rfl,hb1,hr1,hB,λH2 fm2 hb2=>?_⟩
  exact k1 _ _ _ _ _ _ _ rfl H2 ms1 (fm1.trans fm2 (λb hb=>.inl (sub1 b hb))) sub1 hb2
theorem dw:zu ["self","head"] ["self","head"] (zy yb):=by walk_at "sc"
theorem mI (T:Txt K mg t):ze P w K mg base zC 3 t.xR t.wI ["self","head"] (YR t):=by
 refine T.gT.fn.ok dw (by walk_at "ln") ?_;walk_at "hd"
 obtain⟨self,p,dxp,a,b,n,rs,fr,ls,B,ms,rfl,hb,hB,h7,hp,ha,ep,ea,k0,k1⟩:=h
 refine⟨_,(zq (zW (PW.pt (vQ (zd qz (jb hr (pv 0)) (jk rfl (T.Qy).choose_spec (v:=.int 6) ⟨_,rfl⟩) (zQ _)) (kW (Zh (JO (qo hr) (zT (K:=K) rfl (pv 1) rfl) (zT (K:=K) rfl (pv 0) rfl))))))
    (zk (zp xK)) zr)
   (zq (kx xK (ve (zT (K:=K) rfl (pv 0) rfl) (zT (K:=K) rfl (pv 1) rfl) (je (qo hr))))
   (zq (zO (qM LD L5 L6 qj (zT (K:=K) rfl (pv 0) rfl) (zz (pv 1) zj)))
   (zq (zO (qM LD L5 L6 qj (zT (K:=K) rfl (pv 0) rfl) (zz (zB zj) zj)))
   (zk (zp xK)))))),?_⟩
 have M1:qy P w K mg base zC 2 t.zL "many_open" (ZJ t):=.mk' T.xA (x9 T) T.xP.bd (by decide)
 obtain⟨dx,hd,bd,lb,hps,bqs,e,h⟩:=id hb
 have fnm:iB K H (.ref p) "name" (.str n):=⟨p,_,dxp,_,rfl,ep,T.kM,T.gX,zS⟩
 refine⟨_,rfl,self,_,dx,_,rfl,h.se,T.qi,aA,_,M1,?_⟩
 refine⟨self,fr,ls,B,ms,rfl,hb,?_⟩
 walk_at "rd"
 walk_at "x3"
 ·walk_at "rd"
  exact k0 (.inl (by
   have:((fr.length:Nat):Int) - 1=6:=by simpa using h1
   omega))
 have n7:¬fr.length=7:=λz=>h1 (by rw[z];rfl)
 refine⟨_,rfl,_,fnm,_,rfl,_,h.f3 T,lb,_,rfl,jC.k (k:=.inr n) h.hl,?_⟩
 rw[JZ]
 subst e
 obtain⟨nd,se,hh,hbb,hl,fa,ai⟩:=id h
 have ndx:=nd
 simp only[Sq,La,not_or] at ndx
 obtain⟨⟨nsh,nsb,nsl,_⟩,⟨nhb,nhl,_⟩,⟨nbl,_⟩,_,_⟩:=ndx
 refine⟨_,rfl,?_⟩
 refine zD (λh2=>?_) (λh2=>?_)
 ·exact k0 (.inr (zzB h2))
 have hnl:n∉ls:=λz=>h2 (zzP z)
 refine⟨_,rfl,_,h.f3 T,_,rfl,_,fnm,lb,_,.inr n,rfl,rfl,hl,zg (by unfold vb;rw[Ln];omega),?_⟩
 intro H1 k1' e1
 rw[X0 hnl] at e1
 have s1:H1 self=some (.ins t.zL dx (Jc hd bd lb)):=by rw[k1' self nsl];exact se
 have h1':H1 hd=some (.lst (hps.map V.ref).reverse):=by rw[k1' hd nhl];exact hh
 have b1':H1 bd=some (.lst (bqs.map V.ref).reverse):=by rw[k1' bd nbl];exact hbb
 have lh:=fa.len
 refine⟨_,rfl,_,⟨self,_,dx,_,rfl,s1,T.qi,T.yK,zS⟩,.inl ⟨rfl,_,zK.of h1'⟩,_,rfl,hd,_,_,rfl,rfl,h1',zg (by rw[Nd,Ln];omega),?_⟩
 intro H2 k2 e2
 have s2:H2 self=some (.ins t.zL dx (Jc hd bd lb)):=by rw[k2 self nsh];exact s1
 have b2':H2 bd=some (.lst (bqs.map V.ref).reverse):=by rw[k2 bd (SF nhb)];exact b1'
 have l2':H2 lb=some (.dK (vb (ls ++ [n]))):=by rw[k2 lb (SF nhl)];exact e1
 refine⟨_,rfl,_,⟨self,_,dx,_,rfl,s2,T.qi,T.x6,(zt b1).trans zS⟩,.inl ⟨rfl,_,zK.of b2'⟩,Sy _,?_⟩
 intro q H3 s3 hq e3
 refine⟨bd,_,_,rfl,rfl,s3 _ _ b2',zg (by rw[Nd,Ln];omega),?_⟩
 intro H4 k4 e4
 have ke:∀c o,c≠hd→c≠bd→c≠lb→H c=some o→H4 c=some o:=λc o z1 z2 z3 e=>by
  rw[k4 c z2];refine s3 _ _ ?_;rw[k2 c z1,k1' c z3];exact e
 have VT:=h.VT
 have dom2:∀c∈self :: hd :: bd :: lb :: bqs,∃o,H2 c=some o:=λc hc=>by
  by_cases q1:c=hd
  ·subst q1;exact⟨_,e2⟩
  ·rw[k2 c q1]
   by_cases q3:c=lb
   ·subst q3;exact⟨_,e1⟩
   ·rw[k1' c q3];exact VT c hc
 have qn:q∉self :: hd :: bd :: lb :: bqs:=λz=>by
  obtain⟨o,e⟩:=dom2 q z
  rw[hq] at e;cases e
 have Hq:H q=none:=by
  cases z:H q with
  | none=>rfl
  | some o=>
   have q1:q≠hd:=λy=>qn (by rw[y];simp)
   have q3:q≠lb:=λy=>qn (by rw[y];simp)
   rw[k2 q q1,k1' q q3,z] at hq;cases hq
 have fm:Fm (self :: hd :: bd :: lb :: bqs) H H4:=λc o hc e=>ke c o (λz=>hc (by rw[z];simp)) (λz=>hc (by rw[z];simp)) (λz=>hc (by rw[z];simp)) e
 have hm:∀c∈self :: hd :: bd :: lb :: q :: bqs,c∈self :: hd :: bd :: lb :: bqs∨H c=none:=λc hc=>by
  simp only[La] at hc
  rcases hc with z | z | z | z | z | z
  ·exact .inl (by simp [z])
  ·exact .inl (by simp [z])
  ·exact .inl (by simp [z])
  ·exact .inl (by simp [z])
  ·exact .inr (by rw[z];exact Hq)
  ·exact .inl (by simp [z])
 have qb:q≠bd:=λy=>qn (by rw[y];simp)
 have q4:H4 q=some (.lst []):=by rw[k4 q qb];exact e3
 have nqs:∀c∈bqs,c≠hd∧c≠bd∧c≠lb:=λc hc=>by
  simp only[Sq,La,not_or] at nd
  exact⟨λz=>nd.2.1.2.2 (by rw[←z];exact hc),λz=>nd.2.2.1.2 (by rw[←z];exact hc),λz=>nd.2.2.2.1 (by rw[←z];exact hc)⟩
 refine k1 (λz=>z.elim n7 hnl) H4 (self :: hd :: bd :: lb :: q :: bqs) fm hm ⟨dx,hd,bd,lb,p :: hps,q :: bqs,rfl,?_,ke _ _ nsh nsb nsl se,?_,?_,?_,⟨⟨dxp,a,b,cy hm hp ep,cy hm ha ea,fm _ _ hp ep,fm _ _ ha ea⟩,⟨[],q4,by unfold qw;rfl,Sy _⟩,fa.move fm hm (Ol _) (λc hc o e=>ke c o (nqs c hc).1 (nqs c hc).2.1 (nqs c hc).2.2 e)⟩,by rw[Li];simp only[LQ,LO];omega⟩
 ·have nd':=nd
  simp only[Sq,La,not_or] at nd' qn ⊢
  exact⟨⟨nd'.1.1,nd'.1.2.1,nd'.1.2.2.1,SF qn.1,nd'.1.2.2.2⟩,⟨nd'.2.1.1,nd'.2.1.2.1,SF qn.2.1,nd'.2.1.2.2⟩,⟨nd'.2.2.1.1,SF qn.2.2.1,nd'.2.2.1.2⟩,⟨SF qn.2.2.2.1,nd'.2.2.2.1⟩,qn.2.2.2.2,nd'.2.2.2.2⟩
 ·rw[k4 hd nhb,LR,S8];exact s3 _ _ e2
 ·rw[LR,S8];exact e4
 ·rw[k4 lb (SF nbl)];exact s3 _ _ l2'
theorem vq.same {t:z4} {H H':Hp} {me:Addr} {fr:List Fr} {ls:List Str} {B:Nat} {ms:List Addr} (h:vq t H me fr ls B ms) (s:zf H H'):vq t H' me fr ls B ms:=by
 obtain⟨dx,hd,bd,lb,hps,bqs,e,h⟩:=h
 subst e
 exact⟨dx,hd,bd,lb,hps,bqs,rfl,h.nd,s _ _ h.se,s _ _ h.hh,s _ _ h.hb,s _ _ h.hl,h.fa.move (Fm.of s) (λb hb=>.inl hb) (LF _) (λc _ o e=>s _ _ e),h.ai⟩
theorem vq.up {t:z4} {H:Hp} {me:Addr} {fr:List Fr} {ls:List Str} {B B':Nat} {ms:List Addr} (h:vq t H me fr ls B ms) (hB:B≤B'):vq t H me fr ls B' ms:=by
 obtain⟨dx,hd,bd,lb,hps,bqs,e,h⟩:=h
 subst e
 exact⟨dx,hd,bd,lb,hps,bqs,rfl,h.nd,h.se,h.hh,h.hb,h.hl,h.fa.move (Fm.of (zf.refl _)) (λb hb=>.inl hb) hB (λc _ o e=>e),S1 h.ai hB⟩
theorem vq.VT {t:z4} {H:Hp} {me:Addr} {fr:List Fr} {ls:List Str} {B:Nat} {ms:List Addr} (h:vq t H me fr ls B ms):∀b∈ms,∃o,H b=some o:=by
 obtain⟨dx,hd,bd,lb,hps,bqs,e,h⟩:=h
 subst e
 exact h.VT
theorem vq.out {t:z4} {H:Hp} {me:Addr} {fr:List Fr} {ls:List Str} {B:Nat} {ms:List Addr} {p:Addr} (h:vq t H me fr ls B ms) (hp:H p=none):p∉ms:=λz=>by
 obtain⟨o,e⟩:=h.VT p z
 rw[hp] at e;cases e
noncomputable def push:List Fr→Rw→List Fr
 | (n,rs,rows) :: fr,r=>(n,rs,rows ++ [r]) :: fr
 | [],_=>[]
noncomputable def bg (fr:List Fr) (ls:List Str) (x:Str):Option (List Fr × List Str):=
 if x = "done" then (match fr with
  | (n,rs,rows) :: (n2,rs2,rows2) :: fr'=>some ((n2,rs2,rows2 ++ [.pt n rs rows]) :: fr',ls)
  | _=>none)
 else match kq (vh x) with
  | some (n,rs)=>if fr.length=7∨n∈ls then none else some ((n,rs,[]) :: fr,ls ++ [n])
  | none=>match qe (vh x) with
   | some (k,l,u,a,n,r)=>if l∈ls then none else some (push fr (.cl k l u a n r),ls ++ [l])
   | none=>match K6 (vh x) with
    | none=>none
    | some (n,v)=>some (push fr (.lt n v),ls)
def Km (t:z4):Sp:=λvs H Q _=>∃(self:Addr) (x:Str) (fr:List Fr) (ls:List Str) (B:Nat) (ms:List Addr),vs=[.ref self,.str x]∧vq t H self fr ls B ms∧B < 998∧x.length≤190∧fr≠[]∧fr.length≤7∧(bg fr ls x=none→∀H',Fm ms H H'→Q (.bl false) H')∧
 ∀fr' ls' H' ms',bg fr ls x=some (fr',ls')→Fm ms H H'→(∀b∈ms',b∈ms∨H b=none)→vq t H' self fr' ls' (B + 2) ms'→Q (.bl true) H'
theorem pC:zu ["self","clause"] ["self","clause"] (zy vJ):=by walk_at "sc"
theorem pe (T:Txt K mg t):ze P w K mg base zC 3 t.j7 t.vZ ["self","clause"] (YD t):=by
 refine T.wL.fn.ok pC (by walk_at "ln") ?_;walk_at "hd"
 obtain⟨self,p,k,l,u,a,n,r,pn,rs,rows,fr,ls,B,ms,rfl,hb,hB,hp,hA,k0,k1⟩:=h
 refine⟨_,(zq (zW (Zh (JO (qo hr) (zT (K:=K) rfl (pv 1) rfl) (zT (K:=K) rfl (pv 0) rfl)))
    (zk (zp xK)) zr)
   (zq (kx xK (ve (zT (K:=K) rfl (pv 0) rfl) (zT (K:=K) rfl (pv 1) rfl) (je (qo hr))))
   (zq (zO (qg hr (pv 0) (zz (pv 1) zj)))
   (zk (zp xK))))),?_⟩
 have M2:qy P w K mg base zC 2 t.zL "put_in" (Kf t):=.mk' T.wQ (wV T) T.wR.bd (by decide)
 obtain⟨dx,hd,bd,lb,hps,bqs,e,h⟩:=id hb
 subst e
 have fl:=hA.fl T
 refine⟨_,rfl,_,fl,_,rfl,_,h.f3 T,lb,_,rfl,jC.k (k:=.inr l) h.hl,?_⟩
 rw[JZ]
 refine⟨_,rfl,?_⟩
 refine zD (λh2=>?_) (λh2=>?_)
 ·exact k0 (zzB h2)
 have hnl:l∉ls:=λz=>h2 (zzP z)
 obtain⟨nd,se,hh,hbb,hl,fa,ai⟩:=id h
 have ndx:=nd
 simp only[Sq,La,not_or] at ndx
 obtain⟨⟨nsh,nsb,nsl,_⟩,⟨nhb,nhl,_⟩,⟨nbl,_⟩,nlq,_⟩:=ndx
 refine⟨_,rfl,_,h.f3 T,_,rfl,_,fl,lb,_,.inr l,rfl,rfl,hl,zg (by unfold vb;rw[Ln];omega),?_⟩
 intro H1 k1' e1
 rw[X0 hnl] at e1
 have fm:Fm (self :: hd :: bd :: lb :: bqs) H H1:=λc o hc e=>by rw[k1' c (λz=>hc (by rw[z];simp))];exact e
 have hm:∀c∈self :: hd :: bd :: lb :: bqs,c∈self :: hd :: bd :: lb :: bqs∨H c=none:=λc hc=>.inl hc
 have s1:H1 self=some (.ins t.zL dx (Jc hd bd lb)):=by rw[k1' self nsl];exact se
 have hb1:vq t H1 self ((pn,rs,rows) :: fr) (ls ++ [l]) (B + 1) (self :: hd :: bd :: lb :: bqs):=⟨dx,hd,bd,lb,hps,bqs,rfl,nd,s1,by rw[k1' hd nhl];exact hh,by rw[k1' bd nbl];exact hbb,e1,fa.move fm hm (Ol _) (λc hc o e=>by rw[k1' c (λz=>nlq (by rw[←z];exact hc))];exact e),by rw[Li];simp only[LQ,LO];omega⟩
 refine⟨_,rfl,self,_,dx,_,rfl,s1,T.qi,JP,_,M2,?_⟩
 obtain⟨dxc,ec⟩:=hA
 have hr1:jU t (self :: hd :: bd :: lb :: bqs) H1 (.cl k l u a n r) (.ref p):=by unfold jU;exact⟨p,rfl,hp,dxc,fm _ _ hp ec⟩
 refine⟨_,rfl,self,.ref p,pn,rs,rows,fr,_,_,_,_,rfl,hb1,hr1,by omega,λH2 fm2 hb2=>?_⟩
 exact k1 hnl H2 (fm.trans fm2 hm) hb2
theorem kO:zu ["self","row","head","clause","let"] ["self","row"] (zy cV):=by walk_at "sc"
theorem iy (T:Txt K mg t):ze P w K mg base zC 7 t.gp t.dG ["self","row"] (Km t):=by
 have G_v_clause_of:=@ze.mono P w K mg base _ _ 6 _ _ _ _ (nV T) (by decide)
 have G_v_let_of:=@ze.mono P w K mg base _ _ 6 _ _ _ _ (QG T) (by decide)
 have G_v_part_of:=@ze.mono P w K mg base _ _ 6 _ _ _ _ (Zj T) (by decide)
 refine T.sm.fn.ok kO (by walk_at "ln") ?_;walk_at "hd"
 obtain⟨self,x,fr,ls,B,ms,rfl,hb,hB,hx,hne,h7,k0,k1⟩:=h
 refine⟨_,(zq (zW (zd qz (pv 1) zw (zQ _))
    (zk (zp (jb hr (pv 0)))) zr)
   (zq (za (i:=2) kO.nd rfl (LL rfl) (zi G_v_part_of hr rfl T.fk.mg T.fk.fn.kp T.fk.bd .nil zJ (zz (pv 1) zj)))
   (zq (zW (zd Kj (pv 2) wH (zQ _))
    (zk (zp (qg hr (pv 0) (zz (pv 2) zj)))) zr)
   (zq (za (i:=3) kO.nd rfl (LL rfl) (zi G_v_clause_of hr rfl T.yr.mg T.yr.fn.kp T.yr.bd .nil zJ (zz (pv 1) zj)))
   (zq (zW (zd Kj (pv 3) wH (zQ _))
    (zk (zp (qg hr (pv 0) (zz (pv 3) zj)))) zr)
   (zq (za (i:=4) kO.nd rfl (LL rfl) (zi G_v_let_of hr rfl T.cN.mg T.cN.fn.kp T.cN.bd .nil zJ (zz (pv 1) zj)))
   (zq (zW (zd JT (pv 4) wH (zQ _))
    (zk (zp xK)) zr)
   (zq (zO (qg hr (pv 0) (zz (pv 4) zj)))
   (zk (zp xK)))))))))),?_⟩
 have M1:qy P w K mg base zC 6 t.zL "takes_done" (YC t):=.mk' T.mR (mO T) T.gS.bd (by decide)
 have M2:qy P w K mg base zC 6 t.zL "takes_head" (YR t):=.mk' T.mL (mI T) T.gT.bd (by decide)
 have M3:qy P w K mg base zC 6 t.zL "takes_clause" (YD t):=.mk' T.pj (pe T) T.wL.bd (by decide)
 have M4:qy P w K mg base zC 6 t.zL "put_in" (Kf t):=.mk' T.wQ (wV T) T.wR.bd (by decide)
 obtain⟨dx,hd,bd,lb,hps,bqs,e,h⟩:=id hb
 obtain⟨pn,prs,prow,dN,rfl⟩:∃pn prs prow dN,fr=(pn,prs,prow) :: dN:=by
  match fr,hne with
  | (a,b,c) :: r,_=>exact⟨a,b,c,r,rfl⟩
 have se:=h.se
 have hmm:∀c∈ms,c∈ms∨H c=none:=λc hc=>.inl hc
 walk_at "rd"
 walk_at "x3"
 ·have hxd:x = "done":=lA h1
  refine⟨_,rfl,self,_,dx,_,rfl,se,T.qi,Dq,_,M1,?_⟩
  refine⟨self,_,ls,B,ms,rfl,hb,by omega,hne,λhl1=>?_,λn rs rows n2 rs2 rows2 fr' ef H' ms' fm sub hb'=>?_⟩
  ·refine k0 ?_ H (λ_ _ _ e=>e)
   unfold bg
   rw[if_pos hxd]
   have hf0:dN=[]:=List.length_eq_zero_iff.mp (by simpa using hl1)
   rw[hf0]
  ·refine k1 _ _ H' ms' ?_ fm (λb hb=>.inl (sub b hb)) (hb'.up (by omega))
   unfold bg
   rw[if_pos hxd,ef]
 have hxd:¬x = "done":=l9 h1
 have eT:bg ((pn,prs,prow) :: dN) ls x=(match kq (vh x) with
  | some (n,rs)=>if ((pn,prs,prow) :: dN).length=7∨n∈ls then none else some ((n,rs,[]) :: (pn,prs,prow) :: dN,ls ++ [n])
  | none=>match qe (vh x) with
   | some (k,l,u,a,n,r)=>if l∈ls then none else some (push ((pn,prs,prow) :: dN) (.cl k l u a n r),ls ++ [l])
   | none=>match K6 (vh x) with
    | none=>none
    | some (n,v)=>some (push ((pn,prs,prow) :: dN) (.lt n v),ls)):=by unfold bg;rw[if_neg hxd]
 walk_at "rd"
 refine λH1 s1=>⟨λh0=>?_,λp n rs h0 hp hP=>?_⟩
 ·rw[h0] at eT
  walk_at "rd"
  refine λH2 s2=>⟨λh0c=>?_,λp k l u a n r h0c hp hA=>?_⟩
  ·rw[h0c] at eT
   walk_at "rd"
   refine λH3 s3=>⟨λh0l=>?_,λp n v h0l hp hL=>?_⟩
   ·rw[h0l] at eT
    walk_at "rd"
    exact k0 eT H3 (Fm.of ((s1.trans s2).trans s3))
   ·rw[h0l] at eT
    have sA:zf H H3:=(s1.trans s2).trans s3
    have hout:p∉ms:=(hb.same (s1.trans s2)).out hp
    walk_at "rd"
    refine⟨self,_,dx,_,rfl,sA _ _ se,T.qi,JP,_,M4,?_⟩
    refine⟨_,rfl,self,.ref p,pn,prs,prow,dN,ls,B,ms,.lt n v,rfl,hb.same sA,(by unfold jU;exact⟨p,rfl,hout,hL⟩),by omega,λH4 fm4 hb4=>?_⟩
    exact k1 _ _ H4 ms eT ((Fm.of sA).trans fm4 hmm) hmm (hb4.up (by omega))
  ·rw[h0c] at eT
   have sA:zf H H2:=s1.trans s2
   have hout:p∉ms:=(hb.same s1).out hp
   walk_at "rd"
   refine⟨self,_,dx,_,rfl,sA _ _ se,T.qi,Dz,_,M3,?_⟩
   refine⟨_,rfl,self,p,k,l,u,a,n,r,pn,prs,prow,dN,ls,B,ms,rfl,hb.same sA,hB,hout,hA,λhl=>?_,λhl H' fm hb'=>?_⟩
   ·exact k0 (by rw[eT];exact if_pos hl) H2 (Fm.of sA)
   ·exact k1 _ _ H' ms (by rw[eT];exact if_neg hl) ((Fm.of sA).trans fm hmm) hmm hb'
 ·rw[h0] at eT
  obtain⟨dxp,a,b,q1,q2,q3,z1,z2⟩:=hP
  walk_at "rd"
  refine⟨self,_,dx,_,rfl,s1 _ _ se,T.qi,Dj,_,M2,?_⟩
  refine⟨_,rfl,self,p,dxp,a,b,n,rs,_,ls,B,ms,rfl,hb.same s1,by omega,h7,hb.out hp,hb.out z1,q1,q2,λhl=>?_,λhl H' ms' fm hm' hb'=>?_⟩
  ·exact k0 (by rw[eT];exact if_pos hl) H1 (Fm.of s1)
  ·exact k1 _ _ H' ms' (by rw[eT];exact if_neg hl) ((Fm.of s1).trans fm hmm) (λc hc=>(hm' c hc).elim .inl (λz=>.inr (s1.free z))) (hb'.up (by omega))
def DW (t:z4):Sp:=λvs H Q _=>∃(self dx:Addr),vs=[.ref self]∧H self=some (.ins t.zL dx [])∧∀H' ms,(∀b o,b≠self→H b=some o→H' b=some o)→(∀b∈ms,b=self∨H b=none)→vq t H' self [("whole",[],[])] [] 0 ms→Q .non H'
noncomputable def yP:Nat→List Str→List Fr→List Str→Except Nat (List Fr)
 | _,[],fr,_=>.ok fr
 | i,x :: r,fr,ls=>if i=90 then .error i else match bg fr ls x with
  | none=>.error i
  | some (fr',ls')=>yP (i + 1) r fr' ls'
noncomputable def Ph (n:Nat):Except Nat (List Fr)→Except Nat Rw
 | .error i=>.error i
 | .ok [(a,b,c)]=>.ok (.pt a b c)
 | .ok _=>.error n
noncomputable def dr (rows:List Str) (start:Nat):Except Nat Rw:=Ph rows.length (yP start (rows.drop start) [("whole",[],[])] [])
theorem VF {fr fr':List Fr} {ls ls':List Str} {x:Str} (h:bg fr ls x=some (fr',ls')) (h0:fr≠[]) (h7:fr.length≤7):fr'≠[]∧fr'.length≤7:=by
 obtain⟨pn,prs,prow,dN,rfl⟩:∃pn prs prow dN,fr=(pn,prs,prow) :: dN:=by
  match fr,h0 with
  | (a,b,c) :: r,_=>exact⟨a,b,c,r,rfl⟩
 have hp:∀r,(push ((pn,prs,prow) :: dN) r)≠[]∧(push ((pn,prs,prow) :: dN) r).length≤7:=λr=>⟨by simp [push],by simpa [push] using h7⟩
 unfold bg at h
 split at h
 ·match dN,h with
  | (a,b,c) :: r,h=>
   cases h
   refine⟨by simp,?_⟩
   simp only[LQ] at h7 ⊢
   omega
 ·split at h
  ·split at h
   ·cases h
   ·rename_i hn
    cases h
    refine⟨by simp,?_⟩
    have:¬((pn,prs,prow) :: dN).length=7:=λz=>hn (.inl z)
    simp only[LQ] at h7 this ⊢
    omega
  ·split at h
   ·split at h
    ·cases h
    ·cases h;exact hp _
   ·split at h
    ·cases h
    ·cases h;exact hp _
def DH (K:Ls) (t:z4):Sp:=λvs H Q E=>∃(a:Addr) (start:Nat) (rows:List Str),vs=[.ref a,.int start]∧zK K H a (rows.map V.str)∧start≤rows.length∧uz rows∧
 (∀n:Nat,dr rows start=.error n→∀c o H',Gp t n H c o H'→False)∧∀rw p H',dr rows start=.ok rw→zf H H'→jU t [] H' rw (.ref p)→Q (.ref p) H'
theorem Df (a b c:Addr):zY "labels" (.ref c) (zY "bodies" (.ref b) (zY "heads" (.ref a) []))=Jc a b c:=by
 simp only[zY,Jc,if_neg (λz=>b1 (Tu z)),if_neg (λz=>b2 (Tu z)),if_neg (λz=>b3 (Tu z))]
theorem xp {H:Hp} {p:Addr} {o:HO}:Off p H (upd H p o):=λc o' hc e=>by rw[zP hc];exact e
theorem Zl:zu ["self"] ["self"] (zy rX):=by walk_at "sc"
theorem Zq (T:Txt K mg t):ze P w K mg base zC 3 t.yx t.bW ["self"] (DW t):=by
 have M_Part_init:=@ze.mono P w K mg base _ _ 1 _ _ _ _ (vH T) (by decide)
 refine T.iH.fn.ok Zl (by walk_at "ln") ?_;walk_at "hd"
 obtain⟨self,dx,rfl,se,k⟩:=h
 refine⟨_,(zq (qT (pv 0) (zB (zz (qH T.pA M_Part_init hr rfl T.mU T.kf.bd .nil zJ (zz zw (zz (zB zj) (zz (zB zj) zj)))) zj)) rfl)
   (zq (qT (pv 0) (zB (zz (zB zj) zj)) rfl)
   (zk (qT (pv 0) cw rfl)))),?_⟩
 refine⟨Sy _,?_⟩
 intro a1 H1 s1 ha1 ea1
 refine⟨Sy _,?_⟩
 intro a2 H2 s2 ha2 ea2
 intro p dxp hp hdxp hne
 have mk:∀c o,H2 c=some o→(upd (upd H2 dxp (HO.own p)) p (HO.ins t.zI dxp [])) c=some o:=jN hp hdxp
 refine⟨p,dxp,a1,a2,"whole",[],[],rfl,zm,mk _ _ (s2 _ _ ea1),mk _ _ ea2,λH3 o3 h3=>⟨rfl,?_⟩⟩
 obtain⟨dx3,qa,qb,r1,r2,r3,z1,z2⟩:=h3
 have k3:zf H H3:=λc o e=>o3 c o (zh (s2 _ _ (s1 _ _ e)) hp) (mk c o (s2 _ _ (s1 _ _ e)))
 refine⟨zg (by show 1≤1000;decide),?_⟩
 intro hd H4 s4 hhd ehd
 have se4:=s4 _ _ (k3 _ _ se)
 refine⟨_,rfl,self,_,dx,[],rfl,se4,T.qi,T.yK,(by show 0 < 1000;decide),?_⟩
 have o5:Off self H4 (upd H4 self (.ins t.zL dx (zY "heads" (.ref hd) []))):=xp
 generalize hH5:upd H4 self (.ins t.zL dx (zY "heads" (.ref hd) []))=H5 at o5 ⊢
 have e5:H5 self=some (.ins t.zL dx (zY "heads" (.ref hd) [])):=by rw[←hH5];exact zm
 refine⟨Sy _,?_⟩
 intro q H6 s6 hq eq
 refine⟨zg (by show 1≤1000;decide),?_⟩
 intro bd H7 s7 hbd ebd
 refine⟨_,rfl,self,_,dx,_,rfl,s7 _ _ (s6 _ _ e5),T.qi,T.x6,(by show 1 < 1000;decide),?_⟩
 have o8:Off self H7 (upd H7 self (.ins t.zL dx (zY "bodies" (.ref bd) (zY "heads" (.ref hd) [])))):=xp
 generalize hH8:upd H7 self (.ins t.zL dx (zY "bodies" (.ref bd) (zY "heads" (.ref hd) [])))=H8 at o8 ⊢
 have e8:H8 self=some (.ins t.zL dx (zY "bodies" (.ref bd) (zY "heads" (.ref hd) []))):=by rw[←hH8];exact zm
 intro lb H9 s9 hlb elb
 refine⟨_,rfl,self,_,dx,_,rfl,s9 _ _ e8,T.qi,T.pk,?_,?_⟩
 ·have:=jm ("bodies" : Str) (.ref bd) (zY "heads" (.ref hd) [])
  have e:(zY ("heads" : Str) (.ref hd) []).length=1:=rfl
  omega
 have o10:Off self H9 (upd H9 self (.ins t.zL dx (zY "labels" (.ref lb) (zY "bodies" (.ref bd) (zY "heads" (.ref hd) []))))):=xp
 rw[Df] at o10 ⊢
 have hds:hd≠self:=SF (zh (k3 _ _ se) hhd)
 have qs:q≠self:=SF (zh e5 hq)
 have bs:bd≠self:=SF (zh (s6 _ _ e5) hbd)
 have lbs':lb≠self:=SF (zh e8 hlb)
 have ps:p≠self:=SF (zh (s2 _ _ (s1 _ _ se)) hp)
 have qas:qa≠self:=SF (zh (mk _ _ (s2 _ _ (s1 _ _ se))) z1)
 have up:∀c o,c≠self→H3 c=some o→H9 c=some o:=λc o hc e=>s9 _ _ (o8 _ _ hc (s7 _ _ (s6 _ _ (o5 _ _ hc (s4 _ _ e)))))
 have h5d:H5 hd=some (.lst [.ref p]):=o5 _ _ hds ehd
 have h6d:=s6 _ _ h5d
 have h8d:H8 hd=some (.lst [.ref p]):=o8 _ _ hds (s7 _ _ h6d)
 have h8q:H8 q=some (.lst []):=o8 _ _ qs (s7 _ _ eq)
 have h8b:H8 bd=some (.lst [.ref q]):=o8 _ _ bs ebd
 have hqd:hd≠q:=zh h5d hq
 have hdb:hd≠bd:=zh h6d hbd
 have hdl:hd≠lb:=zh h8d hlb
 have bql:bd≠q:=SF (zh eq hbd)
 have bl:bd≠lb:=zh h8b hlb
 have lq:lb≠q:=SF (zh h8q hlb)
 have h5p:H5 p=some (.ins t.zI dx3 (XU "whole" qa qb)):=o5 _ _ ps (s4 _ _ r1)
 have h5a:H5 qa=some (.lst (([]:List Str).map V.str)):=o5 _ _ qas (s4 _ _ r2)
 have nin:∀c o,c≠self→H3 c=some o→c∉[self,hd,bd,lb,q]:=λc o hc e hm=>by
  have e5':H5 c=some o:=o5 _ _ hc (s4 _ _ e)
  (simp only[La,Sm,or_false] at hm)
  rcases hm with z | z | z | z | z
  ·exact hc z
  ·rw[z,hhd] at e;cases e
  ·have:=s6 _ _ e5';rw[z,hbd] at this;cases this
  ·have:=o8 _ _ hc (s7 _ _ (s6 _ _ e5'));rw[z,hlb] at this;cases this
  ·rw[z,hq] at e5';cases e5'
 have free:∀c,c∈[self,hd,bd,lb,q]→c=self∨H c=none:=λc hm=>by
  (simp only[La,Sm,or_false] at hm)
  by_cases hc:c=self
  ·exact .inl hc
  ·refine .inr ?_
   cases z:H c with
   | none=>rfl
   | some o=>
    have:=nin c o hc (k3 _ _ z)
    exact absurd (by simpa using hm) this
 refine k _ [self,hd,bd,lb,q] (λc o hc e=>o10 _ _ hc (up c o hc (k3 _ _ e))) free ⟨dx,hd,bd,lb,[p],[q],rfl,?_,zm,o10 _ _ hds (s9 _ _ h8d),o10 _ _ bs (s9 _ _ h8b),o10 _ _ lbs' elb,⟨⟨dx3,qa,qb,nin p _ ps r1,nin qa _ qas r2,o10 _ _ ps (up _ _ ps r1),o10 _ _ qas (up _ _ qas r2)⟩,⟨[],o10 _ _ qs (s9 _ _ h8q),by unfold qw;rfl,LF _⟩,Tz⟩,LF _⟩
 simp only[Sq,La,Sm,not_or,or_false,IU,not_false_eq_true,and_true]
 exact⟨⟨SF hds,SF bs,SF lbs',SF qs⟩,⟨hdb,hdl,hqd⟩,⟨bl,bql⟩,lq⟩
theorem va:zu ["rows","start","body","number"] ["rows","start"] (zy pM):=by walk_at "sc"
theorem lY (T:Txt K mg t):ze P w K mg base zC 8 t.we t.wj ["rows","start"] (DH K t):=by
 have M_Body_init:=@ze.mono P w K mg base _ _ 6 _ _ _ _ (Zq T) (by decide)
 refine T.vU.fn.ok va (by walk_at "ln") ?_;walk_at "hd"
 obtain⟨a,start,rows,rfl,hA,hst,hR,kE,kQ⟩:=h
 refine⟨_,(zq (za (i:=2) va.nd rfl (LL rfl) (Yd T.G6 M_Body_init hr rfl T.PH T.iH.bd .nil zJ))
   (zq (jy Su rfl (Vr rfl T.vK (zz (pv 1) (zz (zX (zG (K:=K) rfl) rfl T.qJ L4 (zz (pv 0) zj)) zj))) (zM (i:=3) va.nd rfl (LL rfl))
    (zk (zW (PW.pt (vQ (zd qz (pv 3) (jk rfl (T.Qg).choose_spec (v:=.int 90) ⟨_,rfl⟩) (zQ _)) (kW (jg (qt (qg hr (pv 2) (zz (zc (zv (K:=K) rfl) (pv 0) (pv 3) (λ_ _=>rfl)) zj)))))))
    (zk (ky)) zr)))
   (zq (zW (zd fL (jb hr (pv 2)) zx (zQ _))
    (zk (ky)) zr)
   (zk (zp (jb hr (pv 2))))))),?_⟩
 have M1:qy P w K mg base zC 7 t.zL "takes" (Km t):=.mk' T.oN (iy T) T.sm.bd (by decide)
 have M2:qy P w K mg base zC 7 t.zL "many_open" (ZJ t):=.mk' T.xA (x9 T) T.xP.bd (by decide)
 have M3:qy P w K mg base zC 7 t.zL "closed" (oX t):=.mk' T.pz (pd T) T.bc.bd (by decide)
 intro self dx hs hdx hne
 refine⟨self,dx,rfl,zm,λH1 ms k1 fr1 hb1=>⟨rfl,?_⟩⟩
 have s1:zf H H1:=λc o e=>k1 c o (zh e hs) (jN hs hdx c o e)
 have f1:∀c∈ms,H c=none:=λc hc=>by
  rcases fr1 c hc with z | z
  ·rw[z];exact hs
  ·cases q:H c with
   | none=>rfl
   | some o=>rw[jN hs hdx c o q] at z;cases z
 walk_at "rd"
 refine⟨a,_,rfl,.inl (s1.seq hA),?_⟩
 have hlen:(rows.map V.str).length=rows.length:=Ln ..
 refine⟨_,_,rfl,⟨by omega,by have:=hR.ai;omega,by omega,by have:=hR.ai;omega⟩,?_⟩
 have hn:(((rows.map V.str).length:Nat) - (start:Int)).toNat=rows.length - start:=by rw[hlen];omega
 rw[hn]
 let Iv:xn:=λi σ H'=>∃(fr:List Fr) (ls:List Str) (ms:List Addr) (v3:Option V),σ=[some (.ref a),some (.int start),some (.ref self),v3]∧zf H H'∧(∀c∈ms,H c=none)∧vq t H' self fr ls (2 * i) ms∧fr≠[]∧fr.length≤7∧yP start (rows.drop start) [("whole",[],[])] []=yP (start + i) (rows.drop (start + i)) fr ls
 refine ki (lo:=(start:Int)) (n:=rows.length - start) Iv
  ⟨_,_,ms,none,rfl,s1,f1,hb1,by simp,by simp,by rw[Nat.add_zero]⟩ ?_ ?_
 ·rintro i σ H2 hi ⟨fr,ls,ms2,v3,rfl,s2,f2,hb2,hne2,h72,hr2⟩
  have hi':start + i < rows.length:=by omega
  have hwd:wd rows (start + i)∈rows:=uI hi'
  have hd:rows.drop (start + i)=wd rows (start + i) :: rows.drop (start + i + 1):=by
   unfold wd
   rw[L7,Le hi']
   exact Nx hi'
  rw[hd] at hr2
  have hfew:=hR.ai
  have eb:yP (start + i) (wd rows (start + i) :: rows.drop (start + i + 1)) fr ls=if start + i=90 then .error (start + i) else match bg fr ls (wd rows (start + i)) with
   | none=>.error (start + i)
   | some (fr',ls')=>yP (start + i + 1) (rows.drop (start + i + 1)) fr' ls':=by rw[yP]
  have bad:yP (start + i) (wd rows (start + i) :: rows.drop (start + i + 1)) fr ls=.error (start + i)→∀c o H',Gp t ((start:Int) + i) H c o H'→False:=λz c o H' q=>kE (start + i) (by unfold dr;rw[hr2,z];rfl) c o H' (by rw[Int.natCast_add];exact q)
  walk_at "rd"
  walk_at "x3"
  ·walk_at "rd"
   exact gP T λc o H' z=>bad (by
    have:(start:Int) + i=90:=by simpa using h1
    rw[eb,if_pos (by omega)]) c o H' (z.back s2)
  have h90:¬start + i=90:=λz=>h1 (by
   have:(start:Int) + i=90:=by omega
   simp [this])
  rw[if_neg h90] at eb
  obtain⟨dx2,hd2,bd2,lb2,hps2,bqs2,e2,h2⟩:=id hb2
  walk_at "rd"
  refine⟨self,_,dx2,_,rfl,h2.se,T.qi,Dx,_,M1,?_⟩
  have hix:vX (rows.map V.str) ((start:Int) + i)=some (.str (wd rows (start + i))):=by
   have:=bJ (xs:=rows) (i:=(start:Int) + i) (by omega) (by omega)
   rw[this]
   unfold wd
   rw[show ((start:Int) + i).toNat=start + i by omega]
  refine⟨_,rfl,_,rfl,a,_,_,_,rfl,rfl,s2.seq hA,hix,?_⟩
  refine⟨self,_,fr,ls,2 * i,ms2,rfl,hb2,by omega,hR.short _ hwd,hne2,h72,λhN H3 fm3=>?_,λfr' ls' H3 ms3 hS fm3 hm3 hb3=>?_⟩
  ·rw[hN] at eb
   walk_at "rd"
   exact gP T λc o H' z=>bad eb c o H' (z.back (fm3.Xc s2 f2))
  ·rw[hS] at eb
   obtain⟨g1,g2⟩:=VF hS hne2 h72
   walk_at "rd"
   exact⟨fr',ls',ms3,_,rfl,fm3.Xc s2 f2,λc hc=>(hm3 c hc).elim (f2 c) (λz=>s2.free z),hb3.up (by omega),g1,g2,by rw[hr2,eb];rfl⟩
 ·rintro σ H2 ⟨fr,ls,ms2,v3,rfl,s2,f2,hb2,hne2,h72,hr2⟩
  have hfew:=hR.ai
  rw[show start + (rows.length - start)=rows.length by omega,E5,yP] at hr2
  obtain⟨dx2,hd2,bd2,lb2,hps2,bqs2,e2,h2⟩:=id hb2
  walk_at "rd"
  refine⟨self,_,dx2,_,rfl,h2.se,T.qi,aA,_,M2,?_⟩
  refine⟨self,fr,ls,_,ms2,rfl,hb2,?_⟩
  walk_at "rd"
  walk_at "x3"
  ·have h1':(0:Int) < ((fr.length:Nat):Int) - 1:=zzB h1
   walk_at "rd"
   exact gP T λc o H' z=>kE rows.length (by
    unfold dr
    rw[hr2]
    match fr,h1' with
    | _ :: _ :: _,_=>rfl
    | [_],h=>exact absurd h (by simp)) c o H' (z.back s2)
  have h1':¬(0:Int) < ((fr.length:Nat):Int) - 1:=λz=>h1 (zzP z)
  obtain⟨n,rs,rws,rfl⟩:∃n rs rws,fr=[(n,rs,rws)]:=by
   match fr,hne2,h1' with
   | [(n,rs,rws)],_,_=>exact⟨n,rs,rws,rfl⟩
   | _ :: _ :: _,_,h=>exact absurd (by simp only[LQ];omega) h
  walk_at "rd"
  refine⟨self,_,dx2,_,rfl,h2.se,T.qi,i7,_,M3,?_⟩
  refine⟨self,n,rs,rws,[],ls,_,ms2,rfl,hb2,by omega,λp H3 ms3 fm3 sub3 hb3 hr3=>?_⟩
  exact kQ _ p H3 (by unfold dr;rw[hr2];rfl) (fm3.Xc s2 f2) (hr3.move (λ_ _ _ e=>e) (λb hb=>by cases hb))
noncomputable def Bj (a b c:Addr) (x:V):List (Str × V):=[("parties",.ref a),("acts",.ref b),("rooms",.ref c),("whole",x)]
theorem a1:¬(("parties" : Str) = "acts"):=by decide +kernel
theorem a2:¬(("parties" : Str) = "rooms"):=by decide +kernel
theorem a3:¬(("parties" : Str) = "whole"):=by decide +kernel
theorem a4:¬(("acts" : Str) = "rooms"):=by decide +kernel
theorem a5:¬(("acts" : Str) = "whole"):=by decide +kernel
theorem a6:¬(("rooms" : Str) = "whole"):=by decide +kernel
theorem Dc (a b c:Addr) (x:V):zY "whole" x (zY "rooms" (.ref c) (zY "acts" (.ref b) (zY "parties" (.ref a) [])))=Bj a b c x:=by
 simp only[zY,Bj,if_neg a1,if_neg a2,if_neg a3,if_neg a4,if_neg a5,if_neg a6]
def YS (K:Ls) (t:z4):Sp:=λvs H Q _=>∃(p dx a b c:Addr) (x:V) (xs ys zs:List V),vs=[.ref p,.ref a,.ref b,.ref c,x]∧H p=some (.ins t.jz dx [])∧H a=some (.lst xs)∧H b=some (.lst ys)∧H c=some (.lst zs)∧
 ∀H' a' b' c',Off p H H'→H' p=some (.ins t.jz dx (Bj a' b' c' x))→H' a'=some (.lst xs)→H' b'=some (.lst ys)→H' c'=some (.lst zs)→H a'=none→H b'=none→H c'=none→Q .non H'
def vp (t:z4) (H:Hp) (p:Addr) (ps as:List Str) (zb:List (Str × Str)) (rw:Rw):Prop:=∃dx a b c x vs,H p=some (.ins t.jz dx (Bj a b c x))∧H a=some (.lst (ps.map V.str))∧H b=some (.lst (as.map V.str))∧H c=some (.lst vs)∧Paired (j6 H) vs zb∧jU t [] H rw x
theorem pf {H H':Hp} {p c:Addr} {o:HO} (f:Off p H H') (hp:H' p=some o) (hc:H' c=none):H c=none:=by
 cases e:H c with
 | none=>rfl
 | some u=>
  rw[f c u (λz=>by rw[z,hp] at hc;cases hc) e] at hc
  cases hc
noncomputable def g8 (rows:List Str):Except Nat (List Str × List Str × List (Str × Str) × Rw):=
 match kX rows 0 "parties" 4 [] with
 | none=>.error 0
 | some ps=>match kX rows 1 "acts" 6 ps with
  | none=>.error 1
  | some as=>match jf (ps ++ as) [] (rows.drop 2) with
   | .error n=>.error n
   | .ok zb=>match dr rows (2 + zb.length) with
    | .error n=>.error n
    | .ok rw=>.ok (ps,as,zb,rw)
theorem dq {taken:List Str}:∀{rest:List Str} {found zb:List (Str × Str)},jf taken found rest=.ok zb→zb.length≤found.length + rest.length∧zb≠[]
 | [],found,zb,h=>by
  unfold jf at h
  split at h
  ·cases h
  ·rename_i z;cases h;exact⟨by simp,z⟩
 | x :: r,found,zb,h=>by
  unfold jf at h
  split at h
  ·split at h
   ·cases h
   ·rename_i z;cases h;exact⟨by omega,z⟩
  ·split at h
   ·cases h
   ·have:=dq h
    rw[Li] at this
    simp only[LQ,LO] at this ⊢
    exact⟨by omega,this.2⟩
theorem Gy {rows:List Str} (hR:uz rows) (i:Nat):(wd rows i).length≤190:=by
 by_cases hi:i < rows.length
 ·exact hR.short _ (uI hi)
 ·have hz:(wd rows i).length=0:=by
   unfold wd
   rw[L7,SN.mpr (by omega)]
   decide +kernel
  omega
theorem nk {rows:List Str} {i:Nat} {x:Str} {m:Int} {taken ns:List Str} (hR:uz rows) (h:kX rows i x m taken=some ns):ns.length≤192:=by
 unfold kX at h
 split at h
 ·cases h
 ·dsimp only at h
  split at h
  ·cases h
  ·cases h
   have hn:=@i6 (vh (wd rows i)) x m
   have hw:=(lE (wd rows i)).2
   have:=Gy hR i
   omega
def YA (t:z4):Sp:=λvs H Q E=>∃(x:Str),vs=[.str x]∧x.length≤60000∧uz (TJ x "; ")∧
 (∀n:Nat,g8 (TJ x "; ")=.error n→∀c o H',Gp t n H c o H'→False)∧∀ps as zb rw p H',g8 (TJ x "; ")=.ok (ps,as,zb,rw)→zf H H'→vp t H' p ps as zb rw→Q (.ref p) H'
theorem Zt:zu ["self","parties","acts","rooms","whole"] ["self","parties","acts","rooms","whole"] (zy rV):=by walk_at "sc"
theorem cf (T:Txt K mg t):ze P w K mg base zC 1 t.vk t.yq ["self","parties","acts","rooms","whole"] (YS K t):=by
 refine T.c9.fn.ok Zt (by walk_at "ln") ?_;walk_at "hd"
 obtain⟨p,dx,a,b,c,x,xs,ys,zs,rfl,hp,hA,hB,hC,k⟩:=h
 refine⟨_,(zq (qT (pv 0) (z8 (jY (K:=K) rfl) rfl T.km So (zz (pv 1) zj)) rfl)
   (zq (qT (pv 0) (z8 (jY (K:=K) rfl) rfl T.km So (zz (pv 2) zj)) rfl)
   (zq (qT (pv 0) (z8 (jY (K:=K) rfl) rfl T.km So (zz (pv 3) zj)) rfl)
   (zk (qT (pv 0) (pv 4) rfl))))),?_⟩
 have na:a≠p:=fM hA hp (by intro z;cases z)
 have nb:b≠p:=fM hB hp (by intro z;cases z)
 have nc:c≠p:=fM hC hp (by intro z;cases z)
 refine⟨_,rfl,a,_,rfl,.inl (zK.of hA),?_⟩
 intro q1 H1 s1 hq1 e1
 refine⟨_,rfl,p,_,dx,_,rfl,s1 _ _ hp,T.vV,T.g7,(by show 0 < 1000;decide),?_⟩
 have o2:Off p H1 (upd H1 p (.ins t.jz dx (zY "parties" (.ref q1) []))):=xp
 generalize hH2:upd H1 p (.ins t.jz dx (zY "parties" (.ref q1) []))=H2 at o2 ⊢
 have e2:H2 p=some (.ins t.jz dx (zY "parties" (.ref q1) [])):=by rw[←hH2];exact zm
 refine⟨_,rfl,b,_,rfl,.inl (zK.of (o2 _ _ nb (s1 _ _ hB))),?_⟩
 intro q3 H3 s3 hq3 e3
 refine⟨_,rfl,p,_,dx,_,rfl,s3 _ _ e2,T.vV,T.cj,(by show 1 < 1000;decide),?_⟩
 have o4:Off p H3 (upd H3 p (.ins t.jz dx (zY "acts" (.ref q3) (zY "parties" (.ref q1) [])))):=xp
 generalize hH4:upd H3 p (.ins t.jz dx (zY "acts" (.ref q3) (zY "parties" (.ref q1) [])))=H4 at o4 ⊢
 have e4:H4 p=some (.ins t.jz dx (zY "acts" (.ref q3) (zY "parties" (.ref q1) []))):=by rw[←hH4];exact zm
 refine⟨_,rfl,c,_,rfl,.inl (zK.of (o4 _ _ nc (s3 _ _ (o2 _ _ nc (s1 _ _ hC))))),?_⟩
 intro q5 H5 s5 hq5 e5
 have l2:(zY ("acts" : Str) (.ref q3) (zY "parties" (.ref q1) [])).length≤2:=by
  have:=jm ("acts" : Str) (.ref q3) (zY "parties" (.ref q1) [])
  have e:(zY ("parties" : Str) (.ref q1) []).length=1:=rfl
  omega
 refine⟨_,rfl,p,_,dx,_,rfl,s5 _ _ e4,T.vV,T.yV,by omega,?_⟩
 have o6:Off p H5 (upd H5 p (.ins t.jz dx (zY "rooms" (.ref q5) (zY "acts" (.ref q3) (zY "parties" (.ref q1) []))))):=xp
 generalize hH6:upd H5 p (.ins t.jz dx (zY "rooms" (.ref q5) (zY "acts" (.ref q3) (zY "parties" (.ref q1) []))))=H6 at o6 ⊢
 have e6:H6 p=some (.ins t.jz dx (zY "rooms" (.ref q5) (zY "acts" (.ref q3) (zY "parties" (.ref q1) [])))):=by rw[←hH6];exact zm
 refine⟨_,rfl,_,rfl,p,_,dx,_,rfl,e6,T.vV,T.fP,?_,?_⟩
 ·have:=jm ("rooms" : Str) (.ref q5) (zY "acts" (.ref q3) (zY "parties" (.ref q1) []))
  omega
 have o7:Off p H6 (upd H6 p (.ins t.jz dx (zY "whole" x (zY "rooms" (.ref q5) (zY "acts" (.ref q3) (zY "parties" (.ref q1) [])))))):=xp
 rw[Dc] at o7 ⊢
 have n1:q1≠p:=SF (zh hp hq1)
 have n3:q3≠p:=SF (zh e2 hq3)
 have n5:q5≠p:=SF (zh e4 hq5)
 exact k _ q1 q3 q5 (λd o hd e=>o7 _ _ hd (o6 _ _ hd (s5 _ _ (o4 _ _ hd (s3 _ _ (o2 _ _ hd (s1 _ _ e))))))) zm (o7 _ _ n1 (o6 _ _ n1 (s5 _ _ (o4 _ _ n1 (s3 _ _ (o2 _ _ n1 e1)))))) (o7 _ _ n3 (o6 _ _ n3 (s5 _ _ (o4 _ _ n3 e3)))) (o7 _ _ n5 (o6 _ _ n5 e5)) hq1 (s1.free (pf o2 e2 hq3)) (s1.free (pf o2 e2 (s3.free (pf o4 e4 hq5))))
theorem vL:zu ["text","rows","parties","acts","rooms","whole"] ["text"] (zy QO):=by walk_at "sc"
theorem Vh (T:Txt K mg t):ze P w K mg base zC 9 t.dU t.dM ["text"] (YA t):=by
 have G_v_read_names:=@ze.mono P w K mg base _ _ 8 _ _ _ _ (lV T) (by decide)
 have G_v_read_rooms:=@ze.mono P w K mg base _ _ 8 _ _ _ _ (lW T) (by decide)
 have G_v_read_whole:=@ze.mono P w K mg base _ _ 8 _ _ _ _ (lY T) (by decide)
 have M_Pact_init:=@ze.mono P w K mg base _ _ 7 _ _ _ _ (cf T) (by decide)
 refine T.ZF.fn.ok vL (by walk_at "ln") ?_;walk_at "hd"
 obtain⟨x,rfl,hx,hR,kE,kQ⟩:=h
 refine⟨_,(zq (za (i:=1) vL.nd rfl (LL rfl) (qM SM Ta TZ yE (pv 0) (zz zw zj)))
   (zq (za (i:=2) vL.nd rfl (LL rfl) (zi G_v_read_names hr rfl T.jr.mg T.jr.fn.kp T.jr.bd .nil zJ (zz (pv 1) (zz zx (zz zw (zz (jk rfl (T.tW).choose_spec (v:=.int 4) ⟨_,rfl⟩) (zz (zB zj) zj)))))))
   (zq (za (i:=3) vL.nd rfl (LL rfl) (zi G_v_read_names hr rfl T.jr.mg T.jr.fn.kp T.jr.bd .nil zJ (zz (pv 1) (zz zx (zz zw (zz (jk rfl (T.Qw).choose_spec (v:=.int 6) ⟨_,rfl⟩) (zz (pv 2) zj)))))))
   (zq (za (i:=4) vL.nd rfl (LL rfl) (zi G_v_read_rooms hr rfl T.vC.mg T.vC.fn.kp T.vC.bd .nil zJ (zz (pv 1) (zz (zo vi (pv 2) (pv 3)) zj))))
   (zq (za (i:=5) vL.nd rfl (LL rfl) (zi G_v_read_whole hr rfl T.vU.mg T.vU.fn.kp T.vU.bd .nil zJ (zz (pv 1) (zz (zo qf (jk rfl (T.dO).choose_spec (v:=.int 2) ⟨_,rfl⟩) (zX (zG (K:=K) rfl) rfl T.qJ L4 (zz (pv 4) zj))) zj))))
   (zk (zp (qH T.X7 M_Pact_init hr rfl T.WS T.c9.bd .nil zJ (zz (pv 2) (zz (pv 3) (zz (pv 4) (zz (pv 5) zj)))))))))))),?_⟩
 walk_at "rd"
 refine⟨by rw[sizeLine_eq];omega,?_⟩
 intro lr H1 s1 hlr e1
 have hpos:1≤(TJ x (LM "; ")).length:=Na x "; "
 have e1':H1 lr=some (.lst ((TJ x "; ").map V.str)):=e1
 clear e1
 generalize TJ x (LM "; ")=rows at *
 walk_at "rd"
 intro l0 H2 s2 hl0 e2
 have sA:zf H H2:=s1.trans s2
 refine⟨lr,l0,0,_,_,rows,[],rfl,zK.of (s2 _ _ e1'),e2,Sy _,hR,Sy _,by decide,λhN c o H' z=>?_,λps lp H3 hS s3 hlp e3=>?_⟩
 ·exact kE 0 (by unfold g8;rw[hN]) c o H' (z.back sA)
 have hps:=nk hR hS
 walk_at "rd"
 refine⟨lr,lp,1,_,_,rows,ps,rfl,zK.of (s3 _ _ (s2 _ _ e1')),e3,hpos,hR,by omega,by decide,λhN c o H' z=>?_,λas la H4 hS4 s4 hla e4=>?_⟩
 ·exact kE 1 (by unfold g8;rw[hS];dsimp only;rw[hN]) c o H' (z.back (sA.trans s3))
 have has:=nk hR hS4
 walk_at "rd"
 refine⟨lp,la,_,_,rfl,rfl,s4 _ _ e3,e4,zg (by simp only[Ln];omega),?_⟩
 intro lt H5 s5 hlt e5
 have e5':H5 lt=some (.lst ((ps ++ as).map V.str)):=by rw[e5,LY]
 have sB:zf H H5:=((sA.trans s3).trans s4).trans s5
 refine⟨lr,lt,rows,ps ++ as,rfl,zK.of (s5 _ _ (s4 _ _ (s3 _ _ (s2 _ _ e1')))),e5',hR,by rw[Li];omega,λn hN c o H' z=>?_,λzb l6 H6 vs hS6 s6 hl6 e6 hP6=>?_⟩
 ·exact kE n (by unfold g8;rw[hS];dsimp only;rw[hS4];dsimp only;rw[hN]) c o H' (z.back sB)
 have hrl:=(dq hS6).1
 have hr0:=OK.mpr (dq hS6).2
 rw[Tx,LO,Ir] at hrl
 have hvl:vs.length=zb.length:=SW hP6
 walk_at "rd"
 refine⟨l6,_,rfl,.inl (zK.of e6),?_⟩
 refine⟨_,_,rfl,rfl,?_⟩
 have ecast:(2:Int) + ((vs.length:Nat):Int)=((2 + zb.length:Nat):Int):=by rw[hvl];omega
 have sC:zf H H6:=sB.trans s6
 refine⟨lr,2 + zb.length,rows,by rw[←ecast];rfl,zK.of (s6 _ _ (s5 _ _ (s4 _ _ (s3 _ _ (s2 _ _ e1'))))),by omega,hR,λn hN c o H' z=>?_,λrw' p H7 hS7 s7 hr7=>?_⟩
 ·exact kE n (by unfold g8;rw[hS];dsimp only;rw[hS4];dsimp only;rw[hS6];dsimp only;rw[hN]) c o H' (z.back sC)
 walk_at "rd"
 intro q dxq hq hdq hne
 have mk:∀c o,H7 c=some o→(upd (upd H7 dxq (HO.own q)) q (HO.ins t.jz dxq [])) c=some o:=jN hq hdq
 refine⟨q,dxq,lp,la,l6,.ref p,_,_,_,rfl,zm,mk _ _ (s7 _ _ (s6 _ _ (s5 _ _ (s4 _ _ e3)))),mk _ _ (s7 _ _ (s6 _ _ (s5 _ _ e4))),mk _ _ (s7 _ _ e6),λH8 a' b' c' o8 g1 g2 g3 g4 _ _ _=>⟨rfl,?_⟩⟩
 have s8:zf H7 H8:=λc o e=>o8 c o (zh e hq) (mk c o e)
 exact kQ ps as zb rw' q H8 (by unfold g8;rw[hS];dsimp only;rw[hS4];dsimp only;rw[hS6];dsimp only;rw[hS7]) ((sC.trans s7).trans s8) ⟨_,a',b',c',_,_,g1,g2,g3,g4,Paired.imp' (λ_ _ z=>z.same (s7.trans s8)) hP6,hr7.move (λ_ _ _ e=>s8 _ _ e) (λb hb=>by cases hb)⟩
noncomputable def lits:List Str:=["any","must","may","not","by","else","to","let","be","part","in","calm","sore","end"]
def Rt (k:Nat) (x:Str):Prop:=(k=0∧zZ x=true)∨(k=1∧zZ x=false∧0 < gY x∧x∉lits)∨(k=2∧zZ x=false∧gY x=0∧x∉lits)∨(3≤k∧lits[k - 3]?=some x)
noncomputable def XD (k p:Nat):Bool:=if p=100 then k == 0 else if p=101 then k == 0 || k == 3 else if p=102 then k == 1 else k == p
noncomputable def qP (ks ps:List Nat):Bool:=decide (ks.length=ps.length) && (ks.zip ps).all λq=>XD q.1 q.2
noncomputable def JE (p:Nat):Str:=if p=100 then "NAME" else if p=101 then "WHO" else if p=102 then "NUMBER" else lits.getD (p - 3) ""
noncomputable def rQ:List Nat:=[100,100,4,100,7,102,8,100]
noncomputable def pX:List Nat:=[100,101,5,100]
noncomputable def JN:List Nat:=[100,101,5,6,100,8,100]
noncomputable def uP:List Nat:=[100,101,7,100,9,100]
noncomputable def Hb:List Nat:=[10,100,11,100]
noncomputable def i9:List Nat:=[12,100]
noncomputable def Yg (p:Nat):Bool:=p == 100 || p == 101 || p == 102 || (decide (3≤p) && decide (p≤16))
theorem jq:XF=rQ.map JE∧ar=pX.map JE∧GP=JN.map JE∧Jd=uP.map JE∧Ws=Hb.map JE∧tj=i9.map JE:=by decide +kernel
theorem lL:∀x∈lits,zZ x=false∧gY x=0:=by decide +kernel
theorem G0:lits.Nodup:=by decide +kernel
theorem aV:∀c∈zA.cps.toList,¬(48≤c∧c≤57):=by decide +kernel
theorem XS (z:Str) (c:Nat):has z c=decide (c∈z.cps.toList):=OE z c
theorem oY {x z:Str} {m:Int} (h:bp x z m=true):1≤x.length∧(x.length:Int)≤m∧∀c∈x.cps.toList,c∈z.cps.toList:=by
 unfold bp at h
 rw[SR,SR] at h
 obtain⟨⟨h1,h2⟩,h3⟩:=h
 refine⟨zzB h1,zzB h2,λc hc=>?_⟩
 have:=Tc.mp h3 c hc
 rw[XS] at this
 exact zzB this
theorem name_num {x:Str} (h:zZ x=true):gY x=0:=by
 unfold zZ at h
 rw[SR] at h
 obtain⟨h1,_,h3⟩:=oY h.1
 unfold gY
 refine if_neg λq=>?_
 obtain⟨_,_,d3⟩:=rF q.1
 obtain⟨c,e,_⟩:=Qj h1
 have hc:c∈x.cps.toList:=List.mem_of_mem_head? e
 exact aV c (h3 c hc) (d3 c hc)
theorem W3 {x:Str} (h:zZ x=true):x∉lits:=λq=>by rw[(lL x q).1] at h;cases h
theorem PV {k j:Nat} {x:Str} (hk:lits[k]?=some x) (hj:lits[j]?=some x):k=j:=nu G0 hk hj
theorem Rt.num {k:Nat} {x:Str} (h:Rt k x):decide (gY x > 0)=(k == 1):=by
 rcases h with ⟨rfl,h⟩ | ⟨rfl,h1,h2,h3⟩ | ⟨rfl,h1,h2,h3⟩ | ⟨h1,h2⟩
 ·rw[name_num h];rfl
 ·rw[zzP h2];rfl
 ·rw[h2];rfl
 ·have hm:=LC h2
  rw[(lL x hm).2]
  have:(k == 1)=false:=beq_eq_false_iff_ne.mpr (by omega)
  rw[this];rfl
theorem Rt.name {k:Nat} {x:Str} (h:Rt k x):zZ x=(k == 0):=by
 rcases h with ⟨rfl,h⟩ | ⟨rfl,h1,h2,h3⟩ | ⟨rfl,h1,h2,h3⟩ | ⟨h1,h2⟩
 ·rw[h];rfl
 ·rw[h1];rfl
 ·rw[h1];rfl
 ·have hm:=LC h2
  rw[(lL x hm).1]
  exact(beq_eq_false_iff_ne.mpr (by omega)).symm
theorem Rt.lit {k j:Nat} {x y:Str} (h:Rt k x) (hj:lits[j]?=some y):decide (x=y)=(k == j + 3):=by
 have nm:x∉lits→k < 3→decide (x=y)=(k == j + 3):=λh h3=>by
  have:¬x=y:=λq=>h (by rw[q];exact LC hj)
  rw[decide_eq_false this]
  exact(beq_eq_false_iff_ne.mpr (by omega)).symm
 rcases h with ⟨rfl,h⟩ | ⟨rfl,h1,h2,h3⟩ | ⟨rfl,h1,h2,h3⟩ | ⟨h1,h2⟩
 ·exact nm (W3 h) (by omega)
 ·exact nm h3 (by omega)
 ·exact nm h3 (by omega)
 ·by_cases q:k=j + 3
  ·subst q
   rw[Et] at h2
   rw[hj] at h2
   cases h2
   simp
  ·have:¬x=y:=λe=>q (by subst e;have:=PV h2 hj;omega)
   rw[decide_eq_false this]
   exact(beq_eq_false_iff_ne.mpr q).symm
theorem Fo:∀p < 17,3≤p→JE p≠"NAME"∧JE p≠"WHO"∧JE p≠"NUMBER"∧lits[p - 3]?=some (JE p):=by decide +kernel
theorem Ju (x:Str):vy x "NAME" = zZ x:=if_pos rfl
theorem Xl:("WHO" : Str)≠"NAME"∧("NUMBER" : Str)≠"NAME"∧("NUMBER" : Str)≠"WHO":=by decide +kernel
theorem Rt.fits {k p:Nat} {x:Str} (h:Rt k x) (hp:Yg p=true):vy x (JE p)=XD k p:=by
 unfold XD
 by_cases h1:p=100
 ·subst h1
  rw[if_pos rfl]
  show vy x "NAME" = _
  rw[Ju,h.name]
 rw[if_neg h1]
 by_cases h2:p=101
 ·subst h2
  rw[if_pos rfl]
  show vy x "WHO" = _
  unfold vy
  rw[if_neg Xl.1,if_pos rfl,h.name,h.lit (j:=0) rfl]
 rw[if_neg h2]
 by_cases h3:p=102
 ·subst h3
  rw[if_pos rfl]
  show vy x "NUMBER" = _
  unfold vy
  rw[if_neg Xl.2.1,if_neg Xl.2.2,if_pos rfl,h.num]
 rw[if_neg h3]
 have hp':3≤p∧p≤16:=by
  unfold Yg at hp
  simp [h1,h2,h3] at hp
  exact hp
 obtain⟨a,b,c,d⟩:=Fo p (by omega) hp'.1
 unfold vy
 rw[if_neg a,if_neg b,if_neg c,h.lit d,Nat.sub_add_cancel hp'.1]
abbrev fu:List Nat→List Str→Prop:=Paired Rt
theorem fu.fits:∀{ks:List Nat} {ws:List Str},fu ks ws→∀{ps:List Nat},ps.all Yg=true→ja ws (ps.map JE)=qP ks ps:=by
 intro ks ws r ps hp
 unfold ja qP
 rw[Ln,←r.length]
 congr 1
 induction r generalizing ps with
 | nil=>rfl
 | cons h t ih=>
  cases ps with
  | nil=>rfl
  | cons p ps=>
   rw[Ng,SR] at hp
   rw[LR,En,En,Ng,Ng,ih hp.2]
   rw[show vy _ (JE p)=XD _ p from h.fits hp.1]
noncomputable def ez (ks:List Nat):Bool:=qP (ks.take 2) i9 && (ks.length == 2 || (ks.getD 2 99 == 13 && (decide (1≤(ks.drop 3).length) && decide ((ks.drop 3).length≤12) && (ks.drop 3).all (· == 0))))
noncomputable def Bs (ks:List Nat):Bool:=ks.length == 2 && (decide (14≤ks.getD 0 99) && decide (ks.getD 0 99≤16)) && ks.getD 1 99 == 0
noncomputable def UB (ks:List Nat):Bool:=!qP ks rQ && !qP ks pX && !qP ks JN && !qP ks uP && !qP ks Hb && !ez ks && !Bs ks
def Ce (ws:List Str):Prop:=qe ws=none∧K6 ws=none∧kq ws=none∧pV ws=none
theorem fu.take:∀{ks:List Nat} {ws:List Str} (n:Nat),fu ks ws→fu (ks.take n) (ws.take n)
 | _,_,0,_=>.nil
 | _,_,_ + 1,.nil=>.nil
 | _,_,n + 1,.cons r t=>.cons r (fu.take n t)
theorem fu.drop:∀{ks:List Nat} {ws:List Str} (n:Nat),fu ks ws→fu (ks.drop n) (ws.drop n)
 | _,_,0,r=>r
 | _,_,_ + 1,.nil=>.nil
 | _,_,n + 1,.cons _ t=>fu.drop n t
theorem fu.append:∀{ks js:List Nat} {ws zs:List Str},fu ks ws→fu js zs→fu (ks ++ js) (ws ++ zs)
 | _,_,_,_,.nil,s=>s
 | _,_,_,_,.cons r t,s=>.cons r (fu.append t s)
theorem fu.pick:∀{ks:List Nat} {ws:List Str} {i:Nat},fu ks ws→i < ks.length→Rt (ks.getD i 99) (My.wd ws i)
 | _,_,_,.nil,h=>by simp at h
 | _,_,0,.cons r _,_=>r
 | _,_,i + 1,.cons _ t,h=>fu.pick (i:=i) t (by simpa using h)
theorem fu.names:∀{ks:List Nat} {ws:List Str},fu ks ws→ws.all zZ=ks.all (· == 0)
 | _,_,.nil=>rfl
 | _,_,.cons r t=>by rw[Ng,Ng,fu.names t,r.name]
theorem JA:rQ.all Yg=true∧pX.all Yg=true∧JN.all Yg=true∧uP.all Yg=true∧Hb.all Yg=true∧i9.all Yg=true:=by decide
theorem wK {ks ps:List Nat} {ws fs:List Str} (r:fu ks ws) (hp:ps.all Yg=true) (e:fs=ps.map JE) (h:qP ks ps=false):¬ja ws fs=true:=by
 rw[e,r.fits hp,h]
 simp
theorem ff {ks ps:List Nat} {ws fs:List Str} (r:fu ks ws) (hp:ps.all Yg=true) (e:fs=ps.map JE) (h:qP ks ps=true):ja ws fs=true:=by
 rw[e,r.fits hp,h]
theorem KP {ks ps:List Nat} (h:qP ks ps=true):ks.length=ps.length:=by
 unfold qP at h
 rw[SR] at h
 exact zzB h.1
theorem fu.part {ks:List Nat} {ws:List Str} (r:fu ks ws) (h:ez ks=false):kq ws=none:=by
 have hl:=r.length
 unfold kq
 by_cases hf:ja (ws.take 2) tj=true
 ·rw[if_pos hf]
  have hT:qP (ks.take 2) i9=true:=by
   have:=(r.take 2).fits JA.2.2.2.2.2
   rw[←jq.2.2.2.2.2,hf] at this
   exact this.symm
  have h2:2≤ks.length:=by have:(ks.take 2).length=2:=KP hT;rw[L3] at this;omega
  unfold ez at h
  rw[hT,Eb,Bool.or_eq_false_iff] at h
  have hn:¬ws.length=2:=λq=>by
   have:ks.length=2:=by omega
   rw[this] at h
   simp at h
  rw[if_neg hn]
  refine if_pos ?_
  by_cases hin:wd ws 2 = "in"
  ·refine .inr ?_
   have r2:=fu.pick (i:=2) r (by omega)
   have e13:(ks.getD 2 99 == 13)=true:=by rw[←r2.lit (j:=10) (y:="in") rfl];exact zzP hin
   have h3:=h.2
   rw[e13,Eb] at h3
   unfold fo
   rw[(r.drop 3).names,←(r.drop 3).length]
   have hc:decide (((ks.drop 3).length:Int)≤12)=decide ((ks.drop 3).length≤12):=by
    by_cases q:(ks.drop 3).length≤12
    ·rw[zzP q,zzP (by omega)]
    ·rw[decide_eq_false q,decide_eq_false (by omega)]
   rw[hc]
   exact h3
  ·exact .inl hin
 ·exact if_neg hf
theorem Zi {c:Nat}:∀{xs ys X Y:List Nat},c∉xs→c∉ys→xs ++ c :: X=ys ++ c :: Y→xs=ys∧X=Y
 | [],[],_,_,_,_,h=>by simpa using h
 | [],y :: ys,_,_,_,hy,h=>by
  simp only[Sr,SA,IJ] at h
  exact absurd (by rw[h.1];simp) hy
 | x :: xs,[],_,_,hx,_,h=>by
  simp only[Sr,SA,IJ] at h
  exact absurd (by rw[←h.1];simp) hx
 | x :: xs,y :: ys,X,Y,hx,hy,h=>by
  simp only[SA,IJ] at h
  obtain⟨e1,e2⟩:=Zi (c:=c) (λq=>hx (LK _ q)) (λq=>hy (LK _ q)) h.2
  exact⟨by rw[h.1,e1],e2⟩
theorem Ko:(" " : Str).cps.toList=[32]:=by decide +kernel
theorem Wz:(" " : Str)=⟨#[32]⟩:=by decide +kernel
theorem kJ (x y:Str) (r:List Str):(Tj " " (x :: y :: r)).cps.toList=x.cps.toList ++ 32 :: (Tj " " (y :: r)).cps.toList:=by
 rw[Qc,cps_append,cps_append,Ko]
 simp
theorem Qp:∀{as bs:List Str},as≠[]→bs≠[]→(∀x∈as,32∉x.cps.toList)→(∀x∈bs,32∉x.cps.toList)→Tj " " as=Tj " " bs→as=bs
 | [],_,h,_,_,_,_=>absurd rfl h
 | _ :: _,[],_,h,_,_,_=>absurd rfl h
 | [a],[b],_,_,_,_,e=>by rw[show a=b from e]
 | [a],b :: b' :: r,_,_,ha,_,e=>by
  have e':=congrArg (λz=>z.cps.toList) e
  simp only[kJ,L2.join_one] at e'
  exact absurd (by rw[e'];simp) (ha a (by simp))
 | a :: a' :: r,[b],_,_,_,hb,e=>by
  have e':=congrArg (λz=>z.cps.toList) e
  simp only[kJ,L2.join_one] at e'
  exact absurd (by rw[←e'];simp) (hb b (by simp))
 | a :: a' :: r,b :: b' :: r',_,_,ha,hb,e=>by
  have e':=congrArg (λz=>z.cps.toList) e
  simp only[kJ] at e'
  obtain⟨e1,e2⟩:=Zi (ha a (by simp)) (hb b (by simp)) e'
  have:=Qp (as:=a' :: r) (bs:=b' :: r') (by simp) (by simp) (λx hx=>ha x (LK _ hx)) (λx hx=>hb x (LK _ hx)) (gF e2)
  rw[gF e1,this]
theorem oK {ws:List Str} (h:ws≠[]) (hb:∀x∈ws,32∉x.cps.toList):vh (Tr " " ws)=ws:=by
 unfold vh
 rw[join_eq]
 refine(Qp h ?_ hb ?_ ?_).symm
 ·intro q
  have:=Na (Tj " " ws) " "
  rw[q] at this
  simp at this
 ·intro x hx
  rw[Wz] at hx
  exact StrLaws.split_free _ 32 x hx
 ·exact(Eo _ _).symm
structure Wk (x:Str):Prop where
 as:asc x
 nb:32∉x.cps.toList
noncomputable def Jz (ws:List Str):Nat:=(ws.map (·.length)).sum + ws.length
theorem HC (as bs:List Str):Jz (as ++ bs)=Jz as + Jz bs:=by
 unfold Jz
 rw[LY,List.sum_append,Li]
 omega
theorem HU (x:Str):Jz [x]=x.length + 1:=by simp [Jz]
theorem uO {n:Nat}:∀{ws:List Str},(∀x∈ws,x.length≤n)→Jz ws≤(n + 1) * ws.length
 | [],_=>by simp [Jz]
 | x :: r,h=>by
  have h1:=h x (by simp)
  have h2:=uO (n:=n) (ws:=r) λy hy=>h y (LK _ hy)
  have e:Jz (x :: r)=Jz [x] + Jz r:=HC [x] r
  rw[e,HU,LQ,zzg]
  omega
theorem lO (ws:List Str):(Tr " " ws).length≤Jz ws:=by
 have:=Qf " " ws
 have e:(" " : Str).length=1:=by decide +kernel
 rw[e] at this
 unfold Jz
 omega
theorem Zm (ws:List Str):(ws.map (·.length)).sum + ws.length * (" " : Str).length=Jz ws:=by
 have e:(" " : Str).length=1:=by decide +kernel
 rw[e];unfold Jz;omega
noncomputable def M5 (c k:Int):Int:=(c % 2147483629 + 104729 * (k + 1)) % 2147483629 * ((c % 2147483629 + 104729 * (k + 1)) % 2147483629) % 2147483647 * 48271 % 2147483647 / 7
noncomputable def MG (ns:List Int) (k:Int):Int:=if k < (ns.length:Int) then ns.getD k.toNat 0 % 1000000000000000000000007 else 0
def C7 (K:Ls):Sp:=λvs H Q _=>∃(a:Addr) (k:Int) (ns:List Int),vs=[.ref a,.int k]∧zK K H a (ns.map V.int)∧0≤k∧Q (.int (MG ns k)) H
def UN:Sp:=λvs H Q _=>∃(c k:Int),vs=[.int c,.int k]∧0≤k∧k≤1000∧Q (.int (M5 c k)) H
noncomputable abbrev sS:Str:="fgjkqvxz"
noncomputable def Gm:List Nat:=[102,103,106,107,113,118,120,122]
theorem Bt:sS.length=8∧sS.cps.toList=Gm:=by decide +kernel
theorem lR:zA.length=26∧zA.cps.toList.length=26:=by decide +kernel
theorem FL:∀c∈Gm,c∈zA.cps.toList:=by decide +kernel
theorem K1:∀x∈gJ,∀c∈x.cps.toList,c∉Gm:=by decide +kernel
noncomputable def Xb (j:Int):Nat:=Gm.getD j.toNat 0
theorem G9 {x:Str} (h1:1≤x.length) (h2:x.length≤8) (h3:∀c∈x.cps.toList,c∈zA.cps.toList) (h4:∃c∈x.cps.toList,c∈Gm):zZ x=true:=by
 unfold zZ bp
 rw[zzP h1,zzP (show (x.length:Int)≤8 by omega)]
 have e:x.cps.toList.all (has zA)=true:=Tc.mpr λc hc=>by rw[XS];exact zzP (h3 c hc)
 rw[e,kN]
 obtain⟨c,hc,hs⟩:=h4
 rw[decide_eq_false (λq=>K1 x q c hc hs)]
 rfl
theorem xX {x:Str} (h:zZ x=true):1≤x.length∧x.length≤8∧Wk x:=by
 unfold zZ at h
 rw[SR] at h
 obtain⟨h1,h2,h3⟩:=oY h.1
 refine⟨h1,by omega,λc hc=>X2.2.2 c (h3 c hc),λhc=>?_⟩
 have:¬32∈zA.cps.toList:=by decide +kernel
 exact this (h3 32 hc)
noncomputable def WQ:List Str:=["part","done","let","calm","sore","end","acts","any","in","else","may","not"]
noncomputable def Cv (c:Int):Int:=2 + c / 81 % (7 - (if c % 3=1 then 1 else 0))
noncomputable def UQ (c:Int):Int:=c / 500 % Cv c
noncomputable def Lg (c:Int):Nat:=(WQ.getD (c / 12 % 12).toNat "").length
noncomputable def RB (c:Int):Int:=(UQ c + 1 + c / 3600 % (Cv c - 1)) % Cv c
noncomputable def mC (j:Int):Nat:=zA.cps.toList.getD (j % 26).toNat 0
noncomputable def RZ (c k:Int) (j:Nat):Nat:=if (j:Int)=RB c then mC (k / 8 + c / 7) else if (j:Int)=UQ c then Xb (k % 8) else mC (M5 c j)
noncomputable def MV (c k:Int):List Nat:=(TL (Cv c).toNat).map (RZ c k)
noncomputable def RG (c k:Int):List Nat:=if c % 12=5∧k < 8 then [Xb (k % 8)] else if c % 12=7 then (WQ.getD (c / 12 % 12).toNat "").cps.toList ++ [Xb (k % 8),mC (k / 8)] else if c % 3=1∧k % 2=1 then MV c (k - 1) ++ [mC (c / 3)] else MV c k
noncomputable def RH (c k:Int):Str:=⟨(RG c k).toArray⟩
def Cj:Sp:=λvs H Q _=>∃(c k:Int),vs=[.int c,.int k]∧0≤c∧c < 1000000000∧0≤k∧k < 208∧∀H',zf H H'→Q (.str (RH c k)) H'
theorem ZV (k:Int):Xb (k % 8)∈Gm:=by
 unfold Xb
 have h0:0≤k % 8:=Sb _ (by omega)
 have h1:k % 8 < 8:=Sx _ (by omega)
 have hj:(k % 8).toNat < Gm.length:=by show (k % 8).toNat < 8;omega
 rw[L7,Le hj]
 exact T5 hj
theorem X1 (k:Int):zA.cps.toList.getD (k % 26).toNat 0∈zA.cps.toList:=by
 have h0:0≤k % 26:=Sb _ (by omega)
 have h1:k % 26 < 26:=Sx _ (by omega)
 have hj:(k % 26).toNat < zA.cps.toList.length:=by rw[lR.2];omega
 rw[L7,Le hj]
 exact T5 hj
def LS (x:Str):Prop:=∀c∈x.cps.toList,c∈zA.cps.toList
def Rq (c k k':Int) (tl:Str):Prop:=(c % 3=1∧k % 2=1∧k'=k - 1∧tl.cps.toList=[mC (c / 3)])∨(¬(c % 3=1∧k % 2=1)∧k'=k∧tl = "")
theorem MT {a b:Int} (h:decide (V.int a=V.int b)=true):a=b:=by have:=zzB h;injection this
theorem Bv {a b:Int} (h:a=b):decide (V.int a=V.int b)=true:=by subst h;exact zzP rfl
theorem CY:zA.cps.toList.Nodup:=by decide +kernel
theorem RS:Gm.Nodup:=by decide +kernel
theorem getD_inj {L:List Nat} (h:L.Nodup) {i j:Nat} (hi:i < L.length) (hj:j < L.length) (e:L.getD i 0=L.getD j 0):i=j:=by
 rw[L7,L7,Le hi,Le hj] at e
 have e':L[i]=L[j]:=e
 have hp:=NR.mp h
 rcases Nat.lt_trichotomy i j with q | q | q
 ·exact absurd e' (OR.mp hp i j hi hj q)
 ·exact q
 ·exact absurd e'.symm (OR.mp hp j i hj hi q)
theorem WB {a b:Int} (e:mC a=mC b):a % 26=b % 26:=by
 have a0:0≤a % 26:=Sb _ (by decide)
 have a1:a % 26 < 26:=Sx _ (by decide)
 have b0:0≤b % 26:=Sb _ (by decide)
 have b1:b % 26 < 26:=Sx _ (by decide)
 have:=getD_inj CY (i:=(a % 26).toNat) (j:=(b % 26).toNat) (by rw[lR.2];omega) (by rw[lR.2];omega) e
 omega
theorem HV {a b:Int} (e:Xb (a % 8)=Xb (b % 8)):a % 8=b % 8:=by
 have a0:0≤a % 8:=Sb _ (by decide)
 have a1:a % 8 < 8:=Sx _ (by decide)
 have b0:0≤b % 8:=Sb _ (by decide)
 have b1:b % 8 < 8:=Sx _ (by decide)
 have:=getD_inj RS (i:=(a % 8).toNat) (j:=(b % 8).toNat) (by show _ < 8;omega) (by show _ < 8;omega) e
 omega
theorem HQ:("; " : Str)=⟨#[59,32]⟩:=by decide +kernel
theorem YV:("; " : Str).cps.toList=[59,32]:=by decide +kernel
def Mn (l:List Nat):Prop:=∀j:Nat,l[j]?=some 59→l[j + 1]?=some 32→False
theorem V8 {x:Str} {i:Nat} (h1:x.cps.toList[i]?=some 59) (h2:x.cps.toList[i + 1]?=some 32):Ei x ⟨#[59,32]⟩ x.length i:=by
 obtain⟨g1,e1⟩:=LN.mp h1
 obtain⟨g2,e2⟩:=LN.mp h2
 have hl:x.cps.toList.length=x.length:=by simp [TY]
 refine⟨by show i + 2≤x.length;omega,?_⟩
 rw[StrLaws.subAt_eq]
 show ((x.cps.toList.drop i).take 2 == [59,32])=true
 rw[Nx g1,Nx g2,e1,e2]
 rfl
theorem QD {x:Str} {a b:Nat} (hn:∀k,a≤k→k < b→¬Ei x ⟨#[59,32]⟩ x.length k):Mn (zza x a b).cps.toList:=by
 intro j h1 h2
 rw[StrLaws.strSub_toList] at h1 h2
 have hj:j + 1 < b - a:=by
  have:=(LN.mp h2).1
  rw[L3] at this
  omega
 rw[TB (by omega),OU] at h1
 rw[TB hj,OU] at h2
 exact hn (a + j) (by omega) (by omega) (V8 h1 (by rw[Nat.add_assoc];exact h2))
theorem eg {x:Str}:∀{cuts:List Nat} {a f:Nat},StrLaws.ChainG x ⟨#[59,32]⟩ x.length a cuts f→(∀k,f≤k→¬Ei x ⟨#[59,32]⟩ x.length k)→∀p∈StrLaws.partsFrom x 2 a cuts,Mn p.cps.toList
 | [],a,f,h,hn,y,hy=>by
  obtain rfl:f=a:=h
  rw[LW.mp hy]
  exact QD λk h1 _=>hn k h1
 | d :: r,a,f,h,hn,y,hy=>by
  rcases La.mp hy with rfl | hy'
  ·exact QD h.2.2.1
  ·exact eg h.2.2.2 hn y hy'
theorem VH (x:Str):∀p∈TJ x ⟨#[59,32]⟩,Mn p.cps.toList:=by
 obtain⟨f,hG,hn⟩:=StrLaws.occ_tight x ⟨#[59,32]⟩ (by show 1≤2;decide)
 intro p hp
 have whole:(∀k,¬Ei x ⟨#[59,32]⟩ x.length k)→Mn x.cps.toList:=λh j h1 h2=>h j (V8 h1 h2)
 unfold TJ at hp
 split at hp
 ·rename_i hc
  rw[LW.mp hp]
  refine whole λk hA=>?_
  (rw[Bool.or_eq_true,decide_eq_true_eq,decide_eq_true_eq] at hc)
  rcases hc with q | q
  ·have:=hA.1;omega
  ·have e:NO ⟨#[59,32]⟩=1:=by decide +kernel
   rw[e] at q
   unfold NO at q
   split at q
   ·omega
   ·split at q<;>omega
 ·split at hp
  ·rename_i he
   rw[LW.mp hp]
   rw[List.isEmpty_iff.mp he] at hG
   obtain rfl:f=0:=hG
   exact whole λk=>hn k (Sy _)
  ·rw[StrLaws.partsBetween_eq] at hp
   exact eg hG hn p hp
def G2 (l:List Nat):Prop:=∀j:Nat,l[j]?=some 59→l[j + 1]?=some 32
theorem G2.free {l:List Nat} (h:59∉l):G2 l:=λj e=>absurd (LC e) h
theorem wZ (x y:Str) (r:List Str):(Tj "; " (x :: y :: r)).cps.toList=x.cps.toList ++ 59 :: 32 :: (Tj "; " (y :: r)).cps.toList:=by
 rw[Qc,cps_append,cps_append,YV]
 simp
theorem G2.glue {x l:List Nat} (hx:59∉x) (hl:G2 l):G2 (x ++ 59 :: 32 :: l):=by
 intro j e
 by_cases q:j < x.length
 ·rw[S5 q] at e
  exact absurd (LC e) hx
 ·rw[SD (by omega)] at e ⊢
  rw[show j + 1 - x.length=(j - x.length) + 1 by omega]
  generalize j - x.length=i at e ⊢
  match i,e with
  | 0,_=>rfl
  | 1,e=>cases e
  | i + 2,e=>exact hl i e
theorem G2.join:∀{rows:List Str},(∀x∈rows,59∉x.cps.toList)→G2 (Tj "; " rows).cps.toList
 | [],_=>G2.free (by decide +kernel)
 | [x],h=>by rw[L2.join_one];exact G2.free (h x (by simp))
 | x :: y :: r,h=>by
  rw[wZ]
  exact G2.glue (h x (by simp)) (G2.join λz hz=>h z (LK _ hz))
theorem tX:∀{ps:List Str},G2 (Tj "; " ps).cps.toList→(∀p∈ps,Mn p.cps.toList)→∀p∈ps,59∉p.cps.toList
 | [],_,_,p,hp=>by cases hp
 | [x],h,hn,p,hp=>by
  rw[L2.join_one] at h
  rw[LW.mp hp]
  intro hm
  (obtain⟨j,hj⟩:=IL hm)
  exact hn x (by simp) j hj (h j hj)
 | x :: y :: r,h,hn,p,hp=>by
  rw[wZ] at h
  have h':G2 (Tj "; " (y :: r)).cps.toList:=λj e=>by
   have:=h (x.cps.toList.length + (j + 2)) (by rw[SD (by omega),Nu];exact e)
   rw[SD (by omega),show x.cps.toList.length + (j + 2) + 1 - x.cps.toList.length=j + 1 + 2 by omega] at this
   exact this
  (rcases La.mp hp with rfl | hp)
  ·intro hm
   (obtain⟨j,hj⟩:=IL hm)
   have hjl:=(LN.mp hj).1
   have e:=h j (by rw[S5 hjl];exact hj)
   by_cases q:j + 1 < p.cps.toList.length
   ·rw[S5 q] at e
    exact hn p (by simp) j hj e
   ·rw[SD (by omega),show j + 1 - p.cps.toList.length=0 by omega] at e
    cases e
  ·exact tX h' (λz hz=>hn z (LK _ hz)) p hp
theorem i3:∀{as bs:List Str},as≠[]→bs≠[]→(∀x∈as,59∉x.cps.toList)→(∀x∈bs,59∉x.cps.toList)→Tj "; " as=Tj "; " bs→as=bs
 | [],_,h,_,_,_,_=>absurd rfl h
 | _ :: _,[],_,h,_,_,_=>absurd rfl h
 | [a],[b],_,_,_,_,e=>by rw[show a=b from e]
 | [a],b :: b' :: r,_,_,ha,_,e=>by
  have e':=congrArg (λz=>z.cps.toList) e
  simp only[wZ,L2.join_one] at e'
  exact absurd (by rw[e'];simp) (ha a (by simp))
 | a :: a' :: r,[b],_,_,_,hb,e=>by
  have e':=congrArg (λz=>z.cps.toList) e
  simp only[wZ,L2.join_one] at e'
  exact absurd (by rw[←e'];simp) (hb b (by simp))
 | a :: a' :: r,b :: b' :: r',_,_,ha,hb,e=>by
  have e':=congrArg (λz=>z.cps.toList) e
  simp only[wZ] at e'
  obtain⟨e1,e2⟩:=Zi (ha a (by simp)) (hb b (by simp)) e'
  have:=i3 (as:=a' :: r) (bs:=b' :: r') (by simp) (by simp) (λx hx=>ha x (LK _ hx)) (λx hx=>hb x (LK _ hx)) (gF (zzH e2).2)
  rw[gF e1,this]
theorem Vo {rows:List Str} (h:rows≠[]) (hb:∀x∈rows,59∉x.cps.toList):TJ (Tr "; " rows) "; " = rows:=by
 rw[join_eq]
 have hj:Tj "; " (TJ (Tj "; " rows) "; ")=Tj "; " rows:=Eo _ _
 refine(i3 h ?_ hb ?_ hj.symm).symm
 ·intro q
  have:=Na (Tj "; " rows) "; "
  rw[q] at this
  simp at this
 ·refine tX ?_ ?_
  ·rw[hj];exact G2.join hb
  ·rw[HQ];exact VH _
noncomputable def fe (ws:List Str):Str:=Tr " " ws
theorem X8 {x:Str} (h:zZ x=true):32∉x.cps.toList:=(xX h).2.2.nb
theorem XI:∀x∈(["let","be","part","done","parties","acts","calm","sore","end"]:List Str),32∉x.cps.toList∧59∉x.cps.toList∧x.length≤7:=by decide +kernel
theorem Hi {a b:Str} (ha:zZ a=true) (hb:zZ b=true):fu [10,0,11,0] ["let",a,"be",b]:=.cons (.inr (.inr (.inr ⟨by decide,rfl⟩))) (.cons (.inl ⟨rfl,ha⟩) (.cons (.inr (.inr (.inr ⟨by decide,rfl⟩))) (.cons (.inl ⟨rfl,hb⟩) .nil)))
theorem Ya {n:Str} (h:zZ n=true):fu [12,0] ["part",n]:=.cons (.inr (.inr (.inr ⟨by decide,rfl⟩))) (.cons (.inl ⟨rfl,h⟩) .nil)
theorem pK {fr:List Fr} {r:Rw}:(push fr r).length=fr.length:=by
 cases fr with
 | nil=>rfl
 | cons f fr=>obtain⟨a,b,c⟩:=f;rfl
theorem a9 {n:Int} (h1:1≤n) (h2:n < 10 ^ 20):Rt 1 (LM (toString n))∧gY (LM (toString n))=n∧Wk (LM (toString n))∧(LM (toString n)).length≤20:=by
 obtain⟨m,rfl⟩:=Th (show 0≤n by omega)
 have e:=NY m
 have hg:=Yk (n:=(m:Int)) (by omega) (by omega)
 generalize hs:LM (toString ((m:Nat):Int))=s at *
 have hl:s.length=(EB 10 m).length:=by
  have:=congrArg Tb e
  rw[Ln] at this
  rw[←this]
  simp [TY]
 have hdig:N6 s.cps.toList:=by
  rw[e]
  intro c hc
  obtain⟨ch,hch,rfl⟩:=SX.mp hc
  have:=T1 (b:=10) (by decide) (by decide) hch
  simp [EC] at this
  exact⟨by have:=this.1;exact this,by have:=this.2;exact this⟩
 have hv:TU s.cps.toList=m:=by rw[e];exact IS m
 have hhead:s.cps.toList.head?≠some 48:=by
  intro q
  have ta:=Am s.cps.toList hdig
  rw[hv] at ta
  cases qc:s.cps.toList with
  | nil=>rw[qc] at q;cases q
  | cons c r=>
   rw[qc] at q ta hv
   have hc:c=48:=by simpa using q
   subst hc
   rw[List.dropWhile_cons] at ta
   have hlen:(EB 10 m).length=r.length + 1:=by
    rw[←hl]
    have:s.length=s.cps.toList.length:=by simp [TY]
    rw[this,qc];rfl
   have hd:(r.dropWhile (· == 48)).length≤r.length:=(List.dropWhile_sublist _).length_le
   cases qd:r.dropWhile (· == 48) with
   | nil=>
    simp only[show ((48:Nat) == 48)=true from rfl,if_true,qd] at ta
    rw[ta] at hlen
    have:r=[]:=by cases r;rfl;simp at hlen
    subst this
    have:TU [48]=0:=rfl
    omega
   | cons d r'=>
    simp only[show ((48:Nat) == 48)=true from rfl,if_true,qd] at ta
    rw[ta,Ln] at hlen
    rw[qd] at hd
    omega
 have hlen20:s.length≤20:=by
  rw[hl]
  refine digits10_le (by decide) ?_
  exact_mod_cast h2
 have hw:bp s jT 20=true:=by
  unfold bp
  rw[zzP hg.2.1,zzP (show (s.length:Int)≤20 by omega)]
  simp only[Eb]
  exact Tc.mpr λc hc=>by rw[Qh];exact zzP (hdig c hc)
 have hn:gY s=(m:Int):=by
  unfold gY
  rw[if_pos ⟨hw,hhead⟩,hv]
 have nl:zZ s=false:=by
  cases q:zZ s with
  | false=>rfl
  | true=>rw[name_num q] at hn;omega
 refine⟨.inr (.inl ⟨rfl,nl,by rw[hn];omega,λq=>?_⟩),hn,⟨hg.2.2,λhc=>?_⟩,hlen20⟩
 ·rw[(lL s q).2] at hn;omega
 ·have:=hdig 32 hc;omega
theorem G1:∀x∈lits,(∀c∈x.cps.toList,c < 128)∧32∉x.cps.toList∧x.length≤4:=by decide +kernel
theorem rn {x:Str} (h:zZ x=true):Rt 0 x:=.inl ⟨rfl,h⟩
theorem rl {x:Str} {k:Nat} (h:lits[k]?=some x):Rt (k + 3) x:=.inr (.inr (.inr ⟨by omega,by rw[Et];exact h⟩))
structure Wt (k:Nat) (x:Str):Prop where
 rt:Rt k x
 wk:Wk x
 len:x.length≤20
theorem wn {x:Str} (h:zZ x=true):Wt 0 x:=⟨rn h,(xX h).2.2,by have:=(xX h).2.1;omega⟩
theorem wl {x:Str} {k:Nat} (h:lits[k]?=some x):Wt (k + 3) x:=by
 obtain⟨h1,h2,h3⟩:=G1 x (LC h)
 exact⟨rl h,⟨h1,h2⟩,by omega⟩
abbrev VL:List Nat→List Str→Prop:=Paired Wt
theorem VL.Md {ks:List Nat} {ws:List Str} (h:VL ks ws):fu ks ws:=Paired.WO h λ_ _ q=>q.rt
theorem VL.wk:∀{ks:List Nat} {ws:List Str},VL ks ws→∀x∈ws,Wk x∧x.length≤20
 | _,_,.nil,x,hx=>by cases hx
 | _,_,.cons r t,x,hx=>by
  (rcases La.mp hx with rfl | hx)
  ·exact⟨r.wk,r.len⟩
  ·exact VL.wk t x hx
theorem GW {ks:List Nat} {ws:List Str} (r:fu ks ws) (h1:qP ks rQ=false) (h2:qP ks pX=false) (h3:qP ks JN=false) (h4:qP ks uP=false):qe ws=none:=by
 obtain⟨f1,f2,f3,f4,f5,f6⟩:=jq
 obtain⟨o1,o2,o3,o4,o5,o6⟩:=JA
 unfold qe
 rw[if_neg (wK r o1 f1 h1),if_neg (wK r o2 f2 h2),if_neg (wK r o3 f3 h3),if_neg (wK r o4 f4 h4)]
def VR (u:Str):Prop:=zZ u=true∨u = "any"
theorem wu {u:Str} (h:VR u):∃k,(k=0∨k=3)∧Wt k u:=by
 rcases h with h | rfl
 ·exact⟨0,.inl rfl,wn h⟩
 ·exact⟨3,.inr rfl,wl (k:=0) rfl⟩
theorem QC {ks:List Nat} {ws:List Str} (r:fu ks ws) (h:qP (ks.take 2) i9=true):ja (ws.take 2) tj=true:=ff (r.take 2) JA.2.2.2.2.2 jq.2.2.2.2.2 h
theorem uE:∀{rs:List Str},(∀x∈rs,zZ x=true)→VL (Sk rs.length 0) rs
 | [],_=>.nil
 | x :: r,h=>.cons (wn (h x (by simp))) (uE λy hy=>h y (LK _ hy))
noncomputable def p6 (m:Nat):List Nat:=[12,0,13] ++ Sk m 0
noncomputable def Br (m:Nat):Bool:=!qP (p6 m) rQ && !qP (p6 m) pX && !qP (p6 m) JN && !qP (p6 m) uP && !qP (p6 m) Hb && !Bs (p6 m) && qP ((p6 m).take 2) i9
theorem CS:∀m < 13,1≤m→Br m=true:=by decide +kernel
inductive Ew where
 | lt (a b:Str)
 | mu (l w a:Str) (n:Int) (r:Str)
 | my (l w a:Str)
 | bn (l w a r:Str)
 | pw (l w a r:Str)
 | pt (n:Str) (rs:List Str)
 | dn
noncomputable def Ew.ws:Ew→List Str
 | .lt a b=>["let",a,"be",b]
 | .mu l w a n r=>[l,w,"must",a,"by",LM (toString n),"else",r]
 | .my l w a=>[l,w,"may",a]
 | .bn l w a r=>[l,w,"may","not",a,"else",r]
 | .pw l w a r=>[l,w,"by",a,"to",r]
 | .pt n []=>["part",n]
 | .pt n (x :: rs)=>"part" :: n :: "in" :: x :: rs
 | .dn=>["done"]
noncomputable def Ew.row (e:Ew):Str:=Tr " " e.ws
def Ew.ok:Ew→Prop
 | .lt a b=>zZ a=true∧zZ b=true
 | .mu l w a n r=>zZ l=true∧zZ w=true∧zZ a=true∧1≤n∧n < 10 ^ 20∧zZ r=true
 | .my l w a=>zZ l=true∧VR w∧zZ a=true
 | .bn l w a r=>zZ l=true∧VR w∧zZ a=true∧zZ r=true
 | .pw l w a r=>zZ l=true∧VR w∧zZ a=true∧zZ r=true
 | .pt n rs=>zZ n=true∧(∀x∈rs,zZ x=true)∧rs.length≤12
 | .dn=>True
noncomputable def Ew.take (fr:List Fr) (ls:List Str):Ew→Option (List Fr × List Str)
 | .lt a b=>some (push fr (.lt a b),ls)
 | .mu l w a n r=>if l∈ls then none else some (push fr (.cl 0 l w a n r),ls ++ [l])
 | .my l w a=>if l∈ls then none else some (push fr (.cl 1 l w a 0 ""),ls ++ [l])
 | .bn l w a r=>if l∈ls then none else some (push fr (.cl 2 l w a 0 r),ls ++ [l])
 | .pw l w a r=>if l∈ls then none else some (push fr (.cl 3 l w a 0 r),ls ++ [l])
 | .pt n rs=>if fr.length=7∨n∈ls then none else some ((n,rs,[]) :: fr,ls ++ [n])
 | .dn=>match fr with
  | (n,rs,rows) :: (n2,rs2,rows2) :: fr'=>some ((n2,rs2,rows2 ++ [.pt n rs rows]) :: fr',ls)
  | _=>none
theorem Ew.Lq:∀{e:Ew},e.ok→(∃ks,VL ks e.ws)∨e=.dn
 | .lt a b,h=>.inl ⟨_,.cons (wl (k:=7) rfl) (.cons (wn h.1) (.cons (wl (k:=8) rfl) (.cons (wn h.2) .nil)))⟩
 | .mu l w a n r,h=>by
  obtain⟨t1,t2,t3,t4⟩:=a9 h.2.2.2.1 h.2.2.2.2.1
  exact .inl ⟨[0,0,4,0,7,1,8,0],.cons (wn h.1) (.cons (wn h.2.1) (.cons (wl (k:=1) rfl) (.cons (wn h.2.2.1) (.cons (wl (k:=4) rfl) (.cons ⟨t1,t3,t4⟩ (.cons (wl (k:=5) rfl) (.cons (wn h.2.2.2.2.2) .nil)))))))⟩
 | .my l w a,h=>by
  obtain⟨k,hk,hw⟩:=wu h.2.1
  exact .inl ⟨[0,k,5,0],.cons (wn h.1) (.cons hw (.cons (wl (k:=2) rfl) (.cons (wn h.2.2) .nil)))⟩
 | .bn l w a r,h=>by
  obtain⟨k,hk,hw⟩:=wu h.2.1
  exact .inl ⟨[0,k,5,6,0,8,0],.cons (wn h.1) (.cons hw (.cons (wl (k:=2) rfl) (.cons (wl (k:=3) rfl) (.cons (wn h.2.2.1) (.cons (wl (k:=5) rfl) (.cons (wn h.2.2.2) .nil))))))⟩
 | .pw l w a r,h=>by
  obtain⟨k,hk,hw⟩:=wu h.2.1
  exact .inl ⟨[0,k,7,0,9,0],.cons (wn h.1) (.cons hw (.cons (wl (k:=4) rfl) (.cons (wn h.2.2.1) (.cons (wl (k:=6) rfl) (.cons (wn h.2.2.2) .nil)))))⟩
 | .pt n [],h=>.inl ⟨_,.cons (wl (k:=9) rfl) (.cons (wn h.1) .nil)⟩
 | .pt n (x :: rs),h=>.inl ⟨_,.cons (wl (k:=9) rfl) (.cons (wn h.1) (.cons (wl (k:=10) rfl) (uE h.2.1)))⟩
 | .dn,_=>.inr rfl
theorem Ew.wk {e:Ew} (h:e.ok):∀x∈e.ws,Wk x∧x.length≤20:=by
 rcases Ew.Lq h with ⟨ks,w⟩ | rfl
 ·exact w.wk
 ·intro x hx
  simp only[Ew.ws,La,Sm,or_false] at hx
  subst hx
  exact⟨⟨by unfold asc;decide +kernel,by decide +kernel⟩,by decide +kernel⟩
theorem Ew.ne (e:Ew):e.ws≠[]:=by
 cases e with
 | pt n rs=>cases rs<;>simp [Ew.ws]
 | _=>simp [Ew.ws]
theorem Ew.vh {e:Ew} (h:e.ok):vh e.row=e.ws:=oK e.ne λx hx=>(Ew.wk h x hx).1.nb
theorem iS:Ew.row .dn = "done":=by decide +kernel
theorem Ew.Yq {e:Ew} (h:e.ok) (hn:e≠.dn):¬e.row = "done":=λq=>by
 have e1:=Ew.vh h
 have e2:My.vh (Ew.row .dn)=(["done"]:List Str):=Ew.vh (e:=.dn) Tz
 rw[q,←iS,e2] at e1
 cases e with
 | dn=>exact hn rfl
 | pt n rs=>cases rs<;>simp [Ew.ws] at e1
 | _=>simp [Ew.ws] at e1
theorem Ew.takes {e:Ew} (h:e.ok) (fr:List Fr) (ls:List Str):bg fr ls e.row=e.take fr ls:=by
 unfold bg
 by_cases hd:e=.dn
 ·subst hd
  rw[if_pos iS]
  rfl
 rw[if_neg (Ew.Yq h hd),Ew.vh h]
 cases e with
 | dn=>exact absurd rfl hd
 | lt a b=>
  have r:=Hi h.1 h.2
  have f5:kq (Ew.lt a b).ws=none:=if_neg (wK (r.take 2) JA.2.2.2.2.2 jq.2.2.2.2.2 (by decide))
  have f6:qe (Ew.lt a b).ws=none:=GW r (by decide) (by decide) (by decide) (by decide)
  have f7:K6 (Ew.lt a b).ws=some (a,b):=if_pos (ff r JA.2.2.2.2.1 jq.2.2.2.2.1 (by decide))
  rw[f5]
  dsimp only
  rw[f6]
  dsimp only
  rw[f7]
  rfl
 | mu l w a n r'=>
  obtain⟨t1,t2,t3,t4⟩:=a9 h.2.2.2.1 h.2.2.2.2.1
  have hw:VL [0,0,4,0,7,1,8,0] (Ew.mu l w a n r').ws:=.cons (wn h.1) (.cons (wn h.2.1) (.cons (wl (k:=1) rfl) (.cons (wn h.2.2.1) (.cons (wl (k:=4) rfl) (.cons ⟨t1,t3,t4⟩ (.cons (wl (k:=5) rfl) (.cons (wn h.2.2.2.2.2) .nil)))))))
  have r:=hw.Md
  have f5:kq (Ew.mu l w a n r').ws=none:=r.part (by decide)
  have f6:qe (Ew.mu l w a n r').ws=some (0,l,w,a,n,r'):=by
   unfold qe
   rw[if_pos (ff r JA.1 jq.1 (by decide))]
   show some ((0:Int),l,w,a,gY (LM (toString n)),r')=_
   rw[t2]
  rw[f5]
  dsimp only
  rw[f6]
  rfl
 | my l w a=>
  obtain⟨k,hk,hu⟩:=wu h.2.1
  have hw:VL [0,k,5,0] (Ew.my l w a).ws:=.cons (wn h.1) (.cons hu (.cons (wl (k:=2) rfl) (.cons (wn h.2.2) .nil)))
  have r:=hw.Md
  have hdd:∀j,j=0∨j=3→(qP [0,j,5,0] rQ=false∧qP [0,j,5,0] pX=true∧ez [0,j,5,0]=false):=by
   rintro j (rfl | rfl)<;>decide
  obtain⟨d1,d2,d4⟩:=hdd k hk
  have f5:kq (Ew.my l w a).ws=none:=r.part d4
  have f6:qe (Ew.my l w a).ws=some ((1:Int),l,w,a,(0:Int),("" : Str)):=by
   unfold qe
   rw[if_neg (wK r JA.1 jq.1 d1),if_pos (ff r JA.2.1 jq.2.1 d2)]
   rfl
  rw[f5]
  dsimp only
  rw[f6]
  rfl
 | bn l w a r'=>
  obtain⟨k,hk,hu⟩:=wu h.2.1
  have hw:VL [0,k,5,6,0,8,0] (Ew.bn l w a r').ws:=.cons (wn h.1) (.cons hu (.cons (wl (k:=2) rfl) (.cons (wl (k:=3) rfl) (.cons (wn h.2.2.1) (.cons (wl (k:=5) rfl) (.cons (wn h.2.2.2) .nil))))))
  have r:=hw.Md
  have hdd:∀j,j=0∨j=3→(qP [0,j,5,6,0,8,0] rQ=false∧qP [0,j,5,6,0,8,0] pX=false∧qP [0,j,5,6,0,8,0] JN=true∧ez [0,j,5,6,0,8,0]=false):=by
   rintro j (rfl | rfl)<;>decide
  obtain⟨d1,d2,d3,d4⟩:=hdd k hk
  have f5:kq (Ew.bn l w a r').ws=none:=r.part d4
  have f6:qe (Ew.bn l w a r').ws=some (2,l,w,a,0,r'):=by
   unfold qe
   rw[if_neg (wK r JA.1 jq.1 d1),if_neg (wK r JA.2.1 jq.2.1 d2),if_pos (ff r JA.2.2.1 jq.2.2.1 d3)]
   rfl
  rw[f5]
  dsimp only
  rw[f6]
  rfl
 | pw l w a r'=>
  obtain⟨k,hk,hu⟩:=wu h.2.1
  have hw:VL [0,k,7,0,9,0] (Ew.pw l w a r').ws:=.cons (wn h.1) (.cons hu (.cons (wl (k:=4) rfl) (.cons (wn h.2.2.1) (.cons (wl (k:=6) rfl) (.cons (wn h.2.2.2) .nil)))))
  have r:=hw.Md
  have hdd:∀j,j=0∨j=3→(qP [0,j,7,0,9,0] rQ=false∧qP [0,j,7,0,9,0] pX=false∧qP [0,j,7,0,9,0] JN=false∧qP [0,j,7,0,9,0] uP=true∧ez [0,j,7,0,9,0]=false):=by
   rintro j (rfl | rfl)<;>decide
  obtain⟨d1,d2,d3,d5,d4⟩:=hdd k hk
  have f5:kq (Ew.pw l w a r').ws=none:=r.part d4
  have f6:qe (Ew.pw l w a r').ws=some (3,l,w,a,0,r'):=by
   unfold qe
   rw[if_neg (wK r JA.1 jq.1 d1),if_neg (wK r JA.2.1 jq.2.1 d2),if_neg (wK r JA.2.2.1 jq.2.2.1 d3),if_pos (ff r JA.2.2.2.1 jq.2.2.2.1 d5)]
   rfl
  rw[f5]
  dsimp only
  rw[f6]
  rfl
 | pt n rs=>
  have f5:kq (Ew.pt n rs).ws=some (n,rs):=by
   cases rs with
   | nil=>
    have r:fu [12,0] (Ew.pt n []).ws:=Ya h.1
    unfold kq
    rw[if_pos (QC r (by decide)),if_pos (show (Ew.pt n []).ws.length=2 from rfl)]
    rfl
   | cons x rs=>
    have h3:VL [12,0,13] ["part",n,"in"]:=.cons (wl (k:=9) rfl) (.cons (wn h.1) (.cons (wl (k:=10) rfl) .nil))
    have r:fu (p6 (x :: rs).length) (Ew.pt n (x :: rs)).ws:=h3.Md.append (uE h.2.1).Md
    have h2:(x :: rs).length≤12:=h.2.2
    have hpat:=CS (x :: rs).length (by omega) (by simp)
    unfold Br at hpat
    simp only[SR,Bool.not_eq_true'] at hpat
    have ha:fo (x :: rs) 12=true:=by
     unfold fo
     rw[zzP (show 1≤(x :: rs).length by simp),zzP (show ((x :: rs).length:Int)≤12 by omega)]
     exact Tc.mpr h.2.1
    unfold kq
    have hl:¬(Ew.pt n (x :: rs)).ws.length=2:=by simp [Ew.ws]
    have hdr:(Ew.pt n (x :: rs)).ws.drop 3=x :: rs:=rfl
    rw[if_pos (QC r hpat.2),if_neg hl,hdr,if_neg (λq=>q.elim (λq=>q rfl) (λq=>by rw[ha] at q;cases q))]
    rfl
  rw[f5]
  rfl
structure ZR (ps as:List Str) (zb:List (Str × Str)):Prop where
 p1:1≤ps.length
 p2:ps.length≤4
 a1:1≤as.length
 a2:as.length≤6
 r1:1≤zb.length
 r2:zb.length≤12
 pn:∀x∈ps,zZ x=true
 an:∀x∈as,zZ x=true
 rn:∀mn∈zb,rS mn
 nd:(ps ++ as ++ zb.map (·.2)).Nodup
noncomputable def cX (mn:Str × Str):Str:=fe [mn.1,mn.2]
noncomputable def rowsOf (ps as:List Str) (zb:List (Str × Str)) (evs:List Ew):List Str:=fe ("parties" :: ps) :: fe ("acts" :: as) :: (zb.map cX ++ evs.map Ew.row)
theorem Q7 {x:Str} {ns:List Str} (hx:x∈(["parties","acts"]:List Str)) (hn:∀y∈ns,zZ y=true):vh (fe (x :: ns))=x :: ns:=by
 refine oK (by simp) λy hy=>?_
 rcases La.mp hy with rfl | hy
 ·simp only[La,Sm,or_false] at hx
  rcases hx with rfl | rfl
  ·exact(XI _ (by simp)).1
  ·exact(XI _ (by simp)).1
 ·exact X8 (hn y hy)
theorem Kt {ns:List Str} (hn:∀y∈ns,zZ y=true):ns.all zZ=true:=Tc.mpr hn
theorem rp {x:Str} {ns:List Str} {m:Int} (h1:1≤ns.length) (hn:∀y∈ns,zZ y=true) (hm:(ns.length:Int)≤m):j8 (x :: ns) x m=ns:=by
 unfold j8 fo
 rw[List.drop_one,List.tail_cons,Kt hn,zzP h1,show wd (x :: ns) 0=x from rfl,zzP hm,if_neg (by simp)]
theorem aC:∀x∈zF,32∉x.cps.toList∧59∉x.cps.toList∧x.length≤4∧x≠"part"∧x≠"done":=by decide +kernel
theorem FT {mn:Str × Str} (h:rS mn):vh (cX mn)=[mn.1,mn.2]:=by
 refine oK (by simp) λy hy=>?_
 simp only[La,Sm,or_false] at hy
 rcases hy with rfl | rfl
 ·exact(aC _ h.1).1
 ·exact X8 h.2
theorem Yi {mn:Str × Str} (h:rS mn):pV (vh (cX mn))=some mn:=by
 rw[FT h]
 unfold pV
 rw[if_pos ⟨rfl,by rw[kN];exact zzP h.1,h.2⟩]
 rfl
theorem Yn {e:Ew} (h:e.ok):pV (vh e.row)=none:=by
 rw[Ew.vh h]
 unfold pV
 refine if_neg λq=>?_
 have hp:("part" : Str)∉zF:=by decide +kernel
 have two:∀{x y:Str} {r:List Str},1≤r.length→¬(x :: y :: r).length=2:=λ{x y r} h=>by simp only[LQ];omega
 cases e with
 | pt n rs=>
  cases rs with
  | nil=>
   have:=q.2.1
   rw[kN] at this
   exact hp (zzB this)
  | cons x rs=>exact two (by simp) q.1
 | dn=>exact absurd q.1 (by simp [Ew.ws])
 | lt a b=>exact two (by simp) q.1
 | mu l w a n r=>exact two (by simp) q.1
 | my l w a=>exact two (by simp) q.1
 | bn l w a r=>exact two (by simp) q.1
 | pw l w a r=>exact two (by simp) q.1
theorem eu {taken:List Str} {evs:List Ew} (he:∀e∈evs,e.ok):∀{zb found:List (Str × Str)},(∀mn∈zb,rS mn)→(taken ++ (found ++ zb).map (·.2)).Nodup→found ++ zb≠[]→found.length + zb.length≤12→
  jf taken found (zb.map cX ++ evs.map Ew.row)=.ok (found ++ zb)
 | [],found,_,_,hne,hf=>by
  rw[Sd] at hne
  rw[S7,Sr,Sd]
  cases evs with
  | nil=>simp only[S7,jf,if_neg hne]
  | cons e r=>
   rw[LR,jf,Yn (he e Sw)]
   dsimp only
   rw[if_neg hne]
 | mn :: r,found,hr,hnd,hne,hf=>by
  have e:found ++ mn :: r=(found ++ [mn]) ++ r:=by simp
  rw[e] at hnd hne
  rw[LR,SA,jf,Yi (hr mn Sw)]
  dsimp only
  have hnd1:(taken ++ (found ++ [mn]).map (·.2)).Nodup:=by
   rw[LY,←SY] at hnd
   exact(SG.mp hnd).1
  simp only[LQ] at hf
  rw[if_neg (λz=>z.elim (λz=>by omega) (λz=>z hnd1)),eu he (λx hx=>hr x (LK _ hx)) hnd hne (by rw[Li];simp only[LQ,LO];omega),e]
theorem Hn {ps as:List Str} {zb:List (Str × Str)} {evs:List Ew} (h:ZR ps as zb) (he:∀e∈evs,e.ok) :
  g8 (rowsOf ps as zb evs)=match Ph (rowsOf ps as zb evs).length (yP (2 + zb.length) (evs.map Ew.row) [("whole",[],[])] []) with
   | .error n=>.error n
   | .ok rw=>.ok (ps,as,zb,rw):=by
 have e0:vh (wd (rowsOf ps as zb evs) 0)=("parties" : Str) :: ps:=Q7 (by simp) h.pn
 have e1:vh (wd (rowsOf ps as zb evs) 1)=("acts" : Str) :: as:=Q7 (by simp) h.an
 have hlen:(rowsOf ps as zb evs).length=2 + zb.length + evs.length:=by unfold rowsOf;simp only[LQ,Li,Ln];omega
 have nd:=h.nd
 have nd2:(ps ++ as).Nodup:=(SG.mp nd).1
 have nd1:ps.Nodup:=(SG.mp nd2).1
 have h1:=h.p1;have h2:=h.p2;have h3:=h.a1;have h4:=h.a2;have h5:=h.r1;have h6:=h.r2
 have nps:ps≠[]:=λz=>by rw[z] at h1;simp at h1
 have nas:as≠[]:=λz=>by rw[z] at h3;simp at h3
 have nrm:zb≠[]:=λz=>by rw[z] at h5;simp at h5
 have hn0:kX (rowsOf ps as zb evs) 0 "parties" 4 []=some ps:=by
  unfold kX
  rw[if_neg (by omega),e0]
  dsimp only
  rw[rp h.p1 h.pn (by omega),if_neg (λz=>z.elim nps (λz=>z (by simpa using nd1)))]
 have hn1:kX (rowsOf ps as zb evs) 1 "acts" 6 ps=some as:=by
  unfold kX
  rw[if_neg (by omega),e1]
  dsimp only
  rw[rp h.a1 h.an (by omega),if_neg (λz=>z.elim nas (λz=>z nd2))]
 have hrr:jf (ps ++ as) [] ((rowsOf ps as zb evs).drop 2)=.ok zb:=by
  have:=eu (taken:=ps ++ as) (evs:=evs) he (zb:=zb) (found:=[]) h.rn (by simpa using nd) (by simpa using nrm) (by simpa using h6)
  simpa [rowsOf] using this
 have hdrop:(rowsOf ps as zb evs).drop (2 + zb.length)=evs.map Ew.row:=by
  unfold rowsOf
  rw[show 2 + zb.length=zb.length + 1 + 1 by omega,Ek,Ek]
  rw[show zb.length=(zb.map cX).length by rw[Ln],List.drop_left]
 unfold g8
 rw[hn0]
 dsimp only
 rw[hn1]
 dsimp only
 rw[hrr]
 dsimp only
 unfold dr
 rw[hdrop]
 all_goals (cases Ph (rowsOf ps as zb evs).length (yP (2 + zb.length) (evs.map Ew.row) [("whole",[],[])] [])<;>rfl)
noncomputable def J5:Nat→List Ew→List Fr→List Str→Except Nat (List Fr)
 | _,[],fr,_=>.ok fr
 | i,e :: r,fr,ls=>if i=90 then .error i else match e.take fr ls with
  | none=>.error i
  | some (fr',ls')=>J5 (i + 1) r fr' ls'
theorem ZE:∀{evs:List Ew} {i:Nat} {fr:List Fr} {ls:List Str},(∀e∈evs,e.ok)→yP i (evs.map Ew.row) fr ls=J5 i evs fr ls
 | [],_,_,_,_=>rfl
 | e :: r,i,fr,ls,h=>by
  rw[LR,yP,J5,Ew.takes (h e Sw)]
  by_cases q:i=90
  ·rw[if_pos q,if_pos q]
  ·rw[if_neg q,if_neg q]
   cases e.take fr ls with
   | none=>rfl
   | some p=>exact ZE λx hx=>h x (LK _ hx)
noncomputable def yX:Ew→List Str
 | .mu l _ _ _ _=>[l]
 | .my l _ _=>[l]
 | .bn l _ _ _=>[l]
 | .pw l _ _ _=>[l]
 | .pt n _=>[n]
 | _=>[]
noncomputable def jV (evs:List Ew):List Str:=evs.flatMap yX
noncomputable def dp (d:Nat):Ew→Option Nat
 | .pt _ _=>if d < 6 then some (d + 1) else none
 | .dn=>if 0 < d then some (d - 1) else none
 | _=>some d
noncomputable def af:Nat→List Ew→Option Nat
 | d,[]=>some d
 | d,e :: r=>(dp d e).bind λd'=>af d' r
theorem Ku {d d':Nat} {e:Ew} {fr:List Fr} {ls:List Str} (hd:dp d e=some d') (hf:fr.length=d + 1) (h6:d≤6) (hl:∀x∈yX e,x∉ls):∃fr',e.take fr ls=some (fr',ls ++ yX e)∧fr'.length=d' + 1∧d'≤6:=by
 cases e with
 | lt a b=>
  cases hd
  exact⟨push fr (.lt a b),by simp [Ew.take,yX],by rw[pK];exact hf,h6⟩
 | mu l w a n r=>
  cases hd
  walk_at "x5"
 | my l w a=>
  cases hd
  walk_at "x5"
 | bn l w a r=>
  cases hd
  walk_at "x5"
 | pw l w a r=>
  cases hd
  walk_at "x5"
 | pt n rs=>
  simp only[dp] at hd
  split at hd
  ·cases hd
   exact⟨_,by rw[Ew.take,if_neg (λz=>z.elim (λz=>by omega) (hl n (by simp [yX])))];rfl,by simp only[LQ];omega,by omega⟩
  ·cases hd
 | dn=>
  simp only[dp] at hd
  split at hd
  ·cases hd
   match fr,hf with
   | [f],hf=>simp only[LQ,LO] at hf;omega
   | (n,rs,rows) :: (n2,rs2,rows2) :: fr',hf=>
    exact⟨(n2,rs2,rows2 ++ [.pt n rs rows]) :: fr',by simp [Ew.take,yX],by simp only[LQ] at hf ⊢;omega,by omega⟩
  ·cases hd
theorem YK:∀{evs:List Ew} {i d d':Nat} {fr:List Fr} {ls:List Str},af d evs=some d'→fr.length=d + 1→d≤6→(ls ++ jV evs).Nodup→i + evs.length≤90→∃fr',J5 i evs fr ls=.ok fr'∧fr'.length=d' + 1
 | [],i,d,d',fr,ls,h,hf,_,_,_=>by cases h;exact⟨fr,rfl,hf⟩
 | e :: r,i,d,d',fr,ls,h,hf,h6,hn,hi=>by
  rw[af] at h
  cases hd:dp d e with
  | none=>rw[hd] at h;cases h
  | some d1=>
   rw[hd,LX] at h
   have hn':((ls ++ yX e) ++ jV r).Nodup:=by
    have:jV (e :: r)=yX e ++ jV r:=by simp [jV]
    rw[this,←SY] at hn
    exact hn
   have hl:∀x∈yX e,x∉ls:=λx hx hs=>by
    have:=(SG.mp hn').1
    exact(SG.mp this).2.2 x hs x hx rfl
   obtain⟨fr1,e1,l1,s1⟩:=Ku hd hf h6 hl
   simp only[LQ] at hi
   rw[J5,if_neg (by omega),e1]
   exact YK h l1 s1 hn' (by omega)
noncomputable def cu (c:Int):Int:=c % 3
noncomputable def oW (c:Int):Int:=(c % 3 + 1 + c / 3 % 2) % 3
theorem Mf (c:Int):0≤cu c∧cu c < 3∧0≤oW c∧oW c < 3∧cu c≠oW c:=by
 unfold cu oW
 have h1:c % 3=0∨c % 3=1∨c % 3=2:=by omega
 have h2:c / 3 % 2=0∨c / 3 % 2=1:=by omega
 rcases h1 with h1 | h1 | h1<;>rcases h2 with h2 | h2<;>rw[h1,h2]<;>decide
noncomputable def gw (c n:Int):Int:=n - n % 2 * (c / 6 % 2)
theorem XZ {c n:Int}:gw c n=n∨(n % 2=1∧gw c n=n - 1):=by
 unfold gw
 have h2:c / 6 % 2=0∨c / 6 % 2=1:=by omega
 have h1:n % 2=0∨n % 2=1:=by omega
 rcases h1 with h1 | h1<;>rcases h2 with h2 | h2<;>rw[h1,h2]<;>omega
noncomputable def ZU (c b:Int):List Nat:=(((TL 8).map λj:Nat=>mC (c / 7 / ((j:Int) + 1) + (j:Int) * j)).set (cu c).toNat (Xb ((b * 3 + c / 17) % 8))).set (oW c).toNat (mC (c / 11 + b / 8))
theorem F5 (c b:Int):(ZU c b).length=8:=by unfold ZU;simp
theorem F7 (c b:Int):(ZU c b)[(cu c).toNat]?=some (Xb ((b * 3 + c / 17) % 8)):=by
 have h:=Mf c
 unfold ZU
 rw[Ou (by omega),Nl (by rw[Ln,EU];omega)]
theorem F8 (c b:Int):(ZU c b)[(oW c).toNat]?=some (mC (c / 11 + b / 8)):=by
 have h:=Mf c
 unfold ZU
 rw[Nl (by rw[E8,Ln,EU];omega)]
theorem F6 (c b:Int):∀x∈ZU c b,x∈zA.cps.toList:=by
 intro x hx
 unfold ZU at hx
 rcases OL hx with hx | rfl
 ·rcases OL hx with hx | rfl
  ·obtain⟨j,_,rfl⟩:=SX.mp hx
   exact X1 _
  ·exact FL _ (ZV _)
 ·exact X1 _
noncomputable def ue:List Str:=["any","part","done","let","may","end","not","else"]
theorem iE:∀x∈ue,3≤x.cps.toList.length∧x.cps.toList.length≤4∧(∀c∈x.cps.toList,c∈zA.cps.toList)∧∀c∈x.cps.toList,c∉Gm:=by decide +kernel
def WZ (c n:Int):Prop:=c / 12 % 6=1∧1 < n % 4
noncomputable instance (c n:Int):Decidable (WZ c n):=by unfold WZ;infer_instance
noncomputable def UY (c:Int):Str:=ue.getD (c / 72 % 8).toNat ""
theorem Wa (c:Int):UY c∈ue:=by
 have b0:0≤c / 72 % 8:=Sb _ (by decide)
 have b1:c / 72 % 8 < 8:=Sx _ (by decide)
 exact uI (ws:=ue) (i:=(c / 72 % 8).toNat) (by show _ < 8;omega)
noncomputable def XT (c n:Int):Str:=if WZ c n then UY c else ""
noncomputable def oG (c n:Int):Int:=if WZ c n then 3 + n - gw c n else 3 + c / (gw c n + 13) % 5 + n - gw c n
theorem gM (c n:Int):3≤oG c n∧oG c n≤8∧(WZ c n→oG c n≤4):=by
 have hb:=@XZ c n
 unfold oG
 split
 ·omega
 ·have b0:0≤c / (gw c n + 13) % 5:=Sb _ (by decide)
  have b1:c / (gw c n + 13) % 5 < 5:=Sx _ (by decide)
  refine⟨by omega,by omega,λh=>absurd h (by assumption)⟩
noncomputable def Kz (c n:Int):List Nat:=(XT c n).cps.toList ++ (ZU c (gw c n)).take (oG c n).toNat
noncomputable def Jv (c n:Int):Str:=⟨(Kz c n).toArray⟩
theorem p4 (c n:Int):(Jv c n).cps.toList=Kz c n:=rfl
theorem Wr:("" : Str).cps.toList=[]:=by decide +kernel
theorem uN (c n:Int):((ZU c (gw c n)).take (oG c n).toNat).length=(oG c n).toNat:=by
 have:=gM c n
 rw[L3,F5]
 omega
theorem ZH (c n:Int):((ZU c (gw c n)).take (oG c n).toNat)[(cu c).toNat]?=some (Xb ((gw c n * 3 + c / 17) % 8)):=by
 have:=gM c n
 have h:=Mf c
 (rw[TB (by omega)])
 exact F7 _ _
theorem Gq (c n:Int):((ZU c (gw c n)).take (oG c n).toNat)[(oW c).toNat]?=some (mC (c / 11 + gw c n / 8)):=by
 have:=gM c n
 have h:=Mf c
 (rw[TB (by omega)])
 exact F8 _ _
theorem Yv (c n:Int):zZ (Jv c n)=true:=by
 have hs:=gM c n
 have hl:=uN c n
 have len:(Jv c n).length=(Kz c n).length:=by rw[←p4];simp [TY]
 have hh:(XT c n).cps.toList.length + (oG c n).toNat≤8∧∀x∈(XT c n).cps.toList,x∈zA.cps.toList:=by
  unfold XT
  split
  ·rename_i q
   have:=hs.2.2 q
   obtain⟨g1,g2,g3,_⟩:=iE _ (Wa c)
   exact⟨by omega,g3⟩
  ·rw[Wr]
   exact⟨by simp only[LO];omega,λx hx=>by cases hx⟩
 refine G9 (by rw[len];unfold Kz;rw[Li,hl];omega) (by rw[len];unfold Kz;rw[Li,hl];omega) (λx hx=>?_) ⟨Xb ((gw c n * 3 + c / 17) % 8),?_,ZV _⟩
 ·rw[p4] at hx
  (rcases LU.mp hx with hx | hx)
  ·exact hh.2 x hx
  ·exact F6 _ _ x (Tp hx)
 ·rw[p4]
  exact LP _ (LC (ZH c n))
theorem Kq {c n m:Int} (h1:0≤n∧n < 80) (h2:0≤m∧m < 80) (e:(ZU c (gw c n)).take (oG c n).toNat=(ZU c (gw c m)).take (oG c m).toNat):gw c n=gw c m:=by
 have e1:=ZH c n
 rw[e,ZH c m] at e1
 have e2:=Gq c n
 rw[e,Gq c m] at e2
 have f1:=HV (L8 e1)
 have f2:=WB (L8 e2)
 have b1:=@XZ c n
 have b2:=@XZ c m
 generalize c / 17=k at *
 generalize c / 11=k2 at *
 omega
theorem QY {c n m:Int} (q:WZ c n) (q2:¬WZ c m) (e:Kz c n=Kz c m):False:=by
 have h:=Mf c
 obtain⟨g1,g2,g3,g4⟩:=iE _ (Wa c)
 have e1:(Kz c m)[(cu c).toNat]?=some (Xb ((gw c m * 3 + c / 17) % 8)):=by
  unfold Kz XT
  rw[if_neg q2,Wr,Sr]
  exact ZH c m
 rw[←e] at e1
 unfold Kz XT at e1
 rw[if_pos q,S5 (by omega)] at e1
 exact g4 _ (LC e1) (ZV _)
theorem P6 {c n m:Int} (h1:0≤n∧n < 80) (h2:0≤m∧m < 80) (e:Jv c n=Jv c m):n=m:=by
 have e':Kz c n=Kz c m:=by rw[←p4,←p4,e]
 by_cases q:WZ c n<;>by_cases q2:WZ c m
 ·have e2:=e'
  unfold Kz XT at e2
  rw[if_pos q,if_pos q2] at e2
  have e3:=O9 e2
  have hb:=Kq h1 h2 e3
  have hl:=congrArg Tb e3
  rw[uN,uN] at hl
  have s1:=gM c n
  have s2:=gM c m
  unfold oG at hl s1 s2
  rw[if_pos q] at hl s1
  rw[if_pos q2] at hl s2
  omega
 ·exact(QY q q2 e').elim
 ·exact(QY q2 q e'.symm).elim
 ·have e2:=e'
  unfold Kz XT at e2
  rw[if_neg q,if_neg q2] at e2
  have e3:=O9 e2
  have hb:=Kq h1 h2 e3
  have hl:=congrArg Tb e3
  rw[uN,uN] at hl
  have s1:=gM c n
  have s2:=gM c m
  unfold oG at hl s1 s2
  rw[if_neg q] at hl s1
  rw[if_neg q2] at hl s2
  rw[hb] at hl s1
  generalize c / (gw c m + 13) % 5=r at *
  omega
noncomputable def NZ (c:Int):List Str:=(TL 80).map λj:Nat=>Jv c j
theorem V1 (c:Int):(NZ c).length=80:=by unfold NZ;simp
theorem V0 (c:Int) {i:Nat} (h:i < 80):(NZ c).getD i (LM "")=Jv c i:=by
 unfold NZ
 (rw[L7,LV,Nm h])
 rfl
theorem V2 (c:Int):(NZ c).Nodup:=by
 unfold NZ
 rw[NR,List.pairwise_map]
 refine AO (λ{a b} ha hb hab z=>?_) (NR.mp List.nodup_range)
 have ha:=N8.mp ha
 have hb:=N8.mp hb
 have:=P6 (c:=c) (n:=a) (m:=b) (by omega) (by omega) z
 omega
theorem si (c:Int):∀x∈NZ c,zZ x=true:=λx hx=>by
 unfold NZ at hx
 obtain⟨j,_,rfl⟩:=SX.mp hx
 exact Yv _ _
theorem join_ones:∀l:List Nat,(Tj ("" : Str) (l.map λc=>(⟨#[c]⟩:Str))).cps.toList=l
 | []=>by simp [Tj,zzX]
 | [x]=>by simp [Tj]
 | x :: y :: r=>by
  have e:Tj ("" : Str) ((x :: y :: r).map λc=>(⟨#[c]⟩:Str))=(⟨#[x]⟩:Str) ++ ("" : Str) ++ Tj ("" : Str) ((y :: r).map λc=>(⟨#[c]⟩:Str)):=rfl
  rw[e,cps_append,cps_append,Wr,join_ones (y :: r)]
  simp
theorem Hw (c n:Int):XT c n ++ Tr ("" : Str) (((ZU c (gw c n)).take (oG c n).toNat).map λc=>(⟨#[c]⟩:Str))=Jv c n:=by
 refine gF ?_
 rw[cps_append,join_eq,join_ones,p4]
 rfl
def Kg (K:Ls):Sp:=λvs H Q _=>∃(a:Addr) (k:Int) (ns:List Int),vs=[.ref a,.int k]∧zK K H a (ns.map V.int)∧0≤k∧k≤63∧∀c:Int,0≤c→c < 2147483629→Q (.int c) H
def BF:Sp:=λvs H Q _=>∃(n m:Int),vs=[.int n,.int m]∧0≤n∧n < 2147483647∧0≤m∧m≤20∧∀l H' (xs:List Int),zf H H'→H l=none→H' l=some (.lst (xs.map V.int))→xs.length=m.toNat→(∀x∈xs,0≤x∧x < 429496730)→Q (.ref l) H'
def BV:Sp:=λvs H Q _=>∃(c:Int),vs=[.int c,.int 80]∧0≤c∧c < 2147483629∧∀l H',zf H H'→H l=none→H' l=some (.lst ((NZ c).map V.str))→Q (.ref l) H'
theorem Hy (c:Int) (i:Nat):((TL (i + 1)).map λj:Nat=>Jv c j)=((TL i).map λj:Nat=>Jv c j) ++ [Jv c i]:=by
 rw[List.range_succ,LY];rfl
noncomputable def BI (c:Int):List Nat:=(TL 8).map λj:Nat=>mC (c / 7 / ((j:Int) + 1) + (j:Int) * j)
theorem HS {c:Int} {ys:List V} (hl:ys.length=8) (h:∀(i:Nat) (v:V),i < 8→ys[i]?=some v→v=.str ⟨#[mC (c / 7 / ((i:Int) + 1) + (i:Int) * i)]⟩):ys=((BI c).map λc=>(⟨#[c]⟩:Str)).map V.str:=by
 apply Ox
 intro i
 by_cases hi:i < 8
 ·unfold BI
  rw[LV,LV,LV,Nm hi,Le (by omega:i < ys.length)]
  exact congrArg some (h i _ hi (Le (by omega)))
 ·rw[SN.mpr (by omega),SN.mpr (by unfold BI;simp;omega)]
theorem Q5 (l:List Nat) (j c:Nat):((l.map λc=>(⟨#[c]⟩:Str)).map V.str).set j (.str ⟨#[c]⟩)=((l.set j c).map λc=>(⟨#[c]⟩:Str)).map V.str:=by rw[A6,A6]
theorem QM:∀l:List Nat,((l.map λc=>(⟨#[c]⟩:Str)).map (·.length)).sum=l.length
 | []=>rfl
 | x :: l=>by
  rw[LR,LR,AI,QM l,LQ]
  show 1 + l.length=_
  omega
theorem gq:zu ["_law_script","_law_k","_law_number"] ["_law_script","_law_k"] (zy QI):=by walk_at "sc"
theorem uH (T:Txt K mg t):ze P w K mg base zC 1 t.bN t.bF ["_law_script","_law_k"] (Kg K):=by
 refine T.jl.fn.ok gq (by walk_at "ln") ?_;walk_at "hd"
 obtain⟨a,k,ns,rfl,hA,k0,k1,kk⟩:=h
 refine⟨_,(zq (za (i:=2) gq.nd rfl (LL rfl) (zo qf (zo kz (pv 1) zx) zx))
   (zq (PS.join (zW (zd Yb (pv 1) (zX (zG (K:=K) rfl) rfl T.qJ L4 (zz (pv 0) zj)) (zQ _))
    (zk (za (i:=2) gq.nd rfl (LL rfl) (zo z6 (zc (zv (K:=K) rfl) (pv 0) (pv 1) (λ_ _=>rfl)) zx))) (zk (PS.join (zW (zd fL (zX (zG (K:=K) rfl) rfl T.qJ L4 (zz (pv 0) zj)) zx (zQ _))
    (zk (za (i:=2) gq.nd rfl (LL rfl) (zo qf (zo z6 (zc (zv (K:=K) rfl) (pv 0) (zo z6 (zo kz (pv 1) zx) (zX (zG (K:=K) rfl) rfl T.qJ L4 (zz (pv 0) zj))) (λ_ _=>rfl)) zx) (zo kz (pv 1) zx)))) zr)))))
   (zq (za (i:=2) gq.nd rfl (LL rfl) (zo z6 (zo kz (zo qf (zo qf (pv 2) (zo kz (pv 1) (pv 1))) zx) zx) zx))
   (zk (zp (zo z6 (zo kz (pv 2) zx) zx)))))),?_⟩
 walk_at "rd"
 let Jn:xM:=λσ' H'=>(∃n:Int,σ'=[some (.ref a),some (.int k),some (.int n)]∧H'=H)∨False
 refine⟨Jn,?_,?_⟩
 ·refine⟨_,rfl,_,rfl,a,_,rfl,.inl hA,_,_,rfl,rfl,_,rfl,?_⟩
  rw[Ln]
  walk_at "x3"
  ·have h1':k < (ns.length:Int):=zzB h1
   walk_at "rd"
   exact .inl ⟨_,rfl,rfl⟩
  ·let Jn:xM:=λσ' H'=>(∃n:Int,σ'=[some (.ref a),some (.int k),some (.int n)]∧H'=H)∨False
   refine⟨Jn,?_,?_⟩
   ·refine⟨_,rfl,a,_,rfl,.inl hA,_,_,rfl,rfl,_,rfl,?_⟩
    rw[Ln]
    refine zD (λh2=>?_) (λh2=>.inl ⟨_,rfl,rfl⟩)
    have h2':(0:Int) < (ns.length:Int):=zzB h2
    have m0:0≤k * 7 % (ns.length:Int):=Sb _ (by omega)
    have m1:k * 7 % (ns.length:Int) < (ns.length:Int):=Sx _ h2'
    refine⟨_,rfl,_,rfl,_,_,rfl,rfl,.inl ⟨by omega,by omega⟩,_,rfl,a,_,rfl,.inl hA,_,_,rfl,rfl,?_⟩
    rw[Ln]
    refine⟨h2',a,_,_,_,rfl,rfl,hA,qA m0 m1,?_⟩
    walk_at "rd"
    exact .inl ⟨_,rfl,rfl⟩
   ·exact λ_ _ z=>z
 intro σ' H' q
 obtain⟨n,rfl,rfl⟩:=q.resolve_right λz=>z
 clear q
 walk_at "rd"
 exact kk _ (Sb _ (by decide)) (Sx _ (by decide))
theorem yd:zu ["_law_number","_law_many","_law_found","_law_k"] ["_law_number","_law_many"] (zy nA):=by walk_at "sc"
theorem QF (T:Txt K mg t):ze P w K mg base zC 1 t.mB t.mX ["_law_number","_law_many"] BF:=by
 refine T.cA.fn.ok yd (by walk_at "ln") ?_;walk_at "hd"
 obtain⟨n,m,rfl,n0,n1,h0,h1,k⟩:=h
 refine⟨_,(zq (za (i:=2) yd.nd rfl (LL rfl) (zB zj) jZ)
   (zq (jy Su rfl (xV rfl T.vK (zz (pv 1) zj)) (zM (i:=3) yd.nd rfl (LL rfl))
    (zq (za (i:=0) yd.nd rfl (LL rfl) (zo z6 (zo qf (zo qf (zo kz (pv 0) zx) (zo kz (zo kz zx (pv 3)) (pv 3))) zx) zx))
   (zk (zO (qM LD L5 L6 qj (pv 2) (zz (zo qZ (pv 0) zx) zj))))))
   (zk (zp (pv 2))))),?_⟩
 refine⟨Sy _,?_⟩
 intro l H1 s1 hl hL
 walk_at "rd"
 refine ki (lo:=0) (n:=m.toNat) (λi σ H2=>∃(xs:List Int) (z:Int) (kv:Option V),σ=[some (.int z),some (.int m),some (.ref l),kv]∧0≤z∧z < 2147483647∧
   zf H H2∧H2 l=some (.lst (xs.map V.int))∧xs.length=i∧∀x∈xs,0≤x∧x < 429496730)
   ⟨[],_,none,rfl,n0,n1,s1,hL,rfl,λx hx=>by cases hx⟩ ?_ ?_
 ·rintro i σ H2 hi ⟨xs,z,kv,rfl,z0,z1,s2,hL,hx,hb⟩
  have hi':(i:Int) < 100:=by omega
  refine⟨_,rfl,_,_,rfl,rfl,.inl ⟨by omega,by omega⟩,_,rfl,_,_,rfl,rfl,.inl ⟨by decide,by decide⟩,_,rfl,_,_,rfl,rfl,.inr ⟨by omega,by omega⟩,_,_,rfl,rfl,_,_,rfl,rfl,_,_,rfl,rfl,(by show (0:Int) < 2147483647;decide),?_⟩
  have z0':0≤(z * 48271 + 7919 * (0 + (i:Int)) * (0 + (i:Int)) + 11) % 2147483647:=Sb _ (by decide)
  have z1':(z * 48271 + 7919 * (0 + (i:Int)) * (0 + (i:Int)) + 11) % 2147483647 < 2147483647:=Sx _ (by decide)
  refine⟨_,rfl,.inl ⟨rfl,_,zK.of hL⟩,_,rfl,_,_,rfl,rfl,⟨by decide,by decide⟩,l,_,_,rfl,rfl,hL,gx (by rw[Ln];omega),?_⟩
  intro H3 k3 hL3
  refine⟨xs ++ [(z * 48271 + 7919 * (0 + (i:Int)) * (0 + (i:Int)) + 11) % 2147483647 / 5],(z * 48271 + 7919 * (0 + (i:Int)) * (0 + (i:Int)) + 11) % 2147483647,_,rfl,z0',z1',k3.put s2 hl,by rw[hL3,LY];rfl,by rw[Li,hx];rfl,λx hx'=>?_⟩
  rcases LU.mp hx' with q | q
  ·exact hb x q
  ·have e:x=(z * 48271 + 7919 * (0 + (i:Int)) * (0 + (i:Int)) + 11) % 2147483647 / 5:=by simpa using q
   generalize (z * 48271 + 7919 * (0 + (i:Int)) * (0 + (i:Int)) + 11) % 2147483647=z' at e z0' z1'
   omega
 ·rintro σ H2 ⟨xs,z,kv,rfl,z0,z1,s2,hL,hx,hb⟩
  exact⟨_,rfl,k l H2 xs s2 hl hL (by omega) hb⟩
theorem qB:zu ["_law_cell_here","_law_many","_law_letters","_law_one","_law_two","_law_names_here","_law_n","_law_base","_law_word","_law_size","_law_head"] ["_law_cell_here","_law_many"] (zy uC):=by walk_at "sc"
theorem JC (T:Txt K mg t):ze P w K mg base zC 1 t.uf t.uk ["_law_cell_here","_law_many"] BV:=by
 refine T.sv.fn.ok qB (by walk_at "ln") ?_;walk_at "hd"
 obtain⟨c,rfl,c0,c1,k⟩:=h
 refine⟨_,(zq (za (i:=2) qB.nd rfl (IP rfl) zw)
   (zq (za (i:=3) qB.nd rfl (LL rfl) (zo z6 (pv 0) zx))
   (zq (za (i:=4) qB.nd rfl (LL rfl) (zo z6 (zo qf (zo qf (pv 3) zx) (zo z6 (zo qZ (pv 0) zx) zx)) zx))
   (zq (za (i:=5) qB.nd rfl (LL rfl) (zB zj) jZ)
   (zq (jy Su rfl (xV rfl T.vK (zz (pv 1) zj)) (zM (i:=6) qB.nd rfl (LL rfl))
    (zq (za (i:=7) qB.nd rfl (LL rfl) (zo m8 (pv 6) (zo kz (zo z6 (pv 6) zx) (zo z6 (zo qZ (pv 0) zx) zx))))
   (zq (Zg (i:=8) (osc:=zy uC) (N:=["_law_cell_here","_law_many","_law_letters","_law_one","_law_two","_law_names_here","_law_n","_law_base","_law_word","_law_size","_law_head"]) (names:=["_law_letters","_law_cell_here"]) (zR:=[2,0]) rfl rfl rfl qB.nd ⟨rfl,by decide +kernel,by decide +kernel,by decide +kernel,rfl,rfl,by decide +kernel,by decide +kernel⟩ rfl rfl (xV rfl T.vK (zz zx zj)) (λ_ _ _=>(zc aY (pv 1) (zo z6 (zo qf (zo qZ (zo qZ (pv 2) zx) (zo qf (pv 0) zx)) (zo kz (pv 0) (pv 0))) zx) (λ_ _=>rfl))))
   (zq (kx (zc aY zw (zo z6 (zo qf (zo kz (pv 7) zx) (zo qZ (pv 0) zx)) zx) (λ_ _=>rfl)) (ve (pv 8) (pv 3) i8))
   (zq (kx (zc aY (pv 2) (zo z6 (zo qf (zo qZ (pv 0) zx) (zo qZ (pv 7) zx)) zx) (λ_ _=>rfl)) (ve (pv 8) (pv 4) i8))
   (zq (za (i:=9) qB.nd rfl (LL rfl) (zo m8 (zo qf (zo qf zx (zo z6 (zo qZ (pv 0) (zo qf (pv 7) zx)) zx)) (pv 6)) (pv 7)))
   (zq (za (i:=10) qB.nd rfl (LL rfl) zw)
   (zq (PS.join (zW (PW.pt (yY (zd qz (zo z6 (zo qZ (pv 0) zx) zx) zx (zQ _)) (vF (zd fL (zo z6 (pv 6) zx) zx (zQ _)))))
    (zq (za (i:=10) qB.nd rfl (LL rfl) (zc (zv (K:=K) rfl) (zB (zz zw (zz zw (zz zw (zz zw (zz zw (zz zw (zz zw (zz zw zj))))))))) (zo z6 (zo qZ (pv 0) zx) zx) (λ_ _=>rfl)))
   (zk (za (i:=9) qB.nd rfl (LL rfl) (zo m8 (zo qf zx (pv 6)) (pv 7))))) zr))
   (zk (zO (qM LD L5 L6 qj (pv 5) (zz (zo wG (pv 10) (qM SM Nq Nj (b9 (K:=K) rfl) zw (zz (qD (qF (K:=K) rfl) (pv 8) kj (qQ (pv 9))) zj))) zj))))))))))))
   (zk (zp (pv 5)))))))),?_⟩
 have hs:(LM "fgjkqvxz").length=8:=Bt.1
 have hl:(LM "abcdefghijklmnopqrstuvwxyz").length=26:=lR.1
 have o3:=Mf c
 walk_at "rd"
 intro l H1 s1 hl1 e1
 walk_at "rd"
 let Iv:xn:=λi σ H'=>(∃(v6 v7 v8 v9 v10:Option V),σ=[some (.int c),some (.int 80),some (.str (LM "abcdefghijklmnopqrstuvwxyz")),some (.int (cu c)),some (.int (oW c)),some (.ref l),v6,v7,v8,v9,v10]∧zf H H'∧H' l=some (.lst (((TL i).map λj:Nat=>Jv c j).map V.str)))∨False
 refine ki (lo:=0) (n:=(80:Int).toNat) Iv
  (.inl ⟨_,_,_,_,_,rfl,s1,e1⟩) ?_ ?_
 ·intro i σ H2 hi q
  obtain⟨v6,v7,v8,v9,v10,rfl,s2,e2⟩:=q.resolve_right λz=>z
  clear q
  have hi80:i < 80:=hi
  have hb:=@XZ c (i:Int)
  have hz:=gM c (i:Int)
  rw[NS]
  walk_at "rd"
  show Xs _ _ _ [some (.int c),some (.int 80),some (.str (LM "abcdefghijklmnopqrstuvwxyz")),some (.int (cu c)),some (.int (oW c)),some (.ref l),some (.int (i:Int)),some (.int (gw c i)),v8,v9,v10] _ _
  refine bK Xq (λj _ v=>v=.str ⟨#[mC (c / 7 / ((j:Int) + 1) + (j:Int) * j)]⟩) (zg (by decide +kernel)) ?_ ?_
  ·intro j y H' Q' hy s' kk
   have hj:j < 8:=by
    have:=(LN.mp hy).1
    simpa using this
   have hy':y=V.int (j:Int):=by
    rw[LV,Nm (show j < (8:Int).toNat from hj)] at hy
    rw[←L8 hy]
    show V.int (0 + (j:Int))=_
    rw[NS]
   subst hy'
   have b0:0≤(c / 7 / ((j:Int) + 1) + (j:Int) * j) % 26:=Sb _ (by decide)
   have b1:(c / 7 / ((j:Int) + 1) + (j:Int) * j) % 26 < 26:=Sx _ (by decide)
   walk_at "rd"
   exact kk _ _ (zf.refl _) rfl
  intro D H3 ys s3 hD e3 hlen hp
  obtain rfl:=HS (c:=c) (ys:=ys) (by rw[hlen];simp) λj v hj hv=>hp j _ v (by rw[LV,Nm (show j < (8:Int).toNat from hj)];rfl) hv
  clear hp hlen
  have b0:0≤(gw c i * 3 + c / 17) % 8:=Sb _ (by decide)
  have b1:(gw c i * 3 + c / 17) % 8 < 8:=Sx _ (by decide)
  have b2:0≤(c / 11 + gw c i / 8) % 26:=Sb _ (by decide)
  have b3:(c / 11 + gw c i / 8) % 26 < 26:=Sx _ (by decide)
  have hDn:H2 D=none:=hD
  have hneD:l≠D:=zh e2 hD
  show zU 8 (V.ref D) [some (.int c),some (.int 80),some (.str (LM "abcdefghijklmnopqrstuvwxyz")),some (.int (cu c)),some (.int (oW c)),some (.ref l),some (.int (i:Int)),some (.int (gw c i)),v8,v9,v10] _ _
  walk_at "rd"
  refine⟨D,_,_,_,rfl,rfl,e3,WX (by omega) (by unfold BI;simp;omega),?_⟩
  intro H4 k4 e4
  have e4':H4 D=some (.lst ((((BI c).set (cu c).toNat (Xb ((gw c i * 3 + c / 17) % 8))).map λc=>(⟨#[c]⟩:Str)).map V.str)):=by
   rw[e4,show (LM "fgjkqvxz").cps.toList=Gm from Bt.2]
   exact congrArg (λz=>some (HO.lst z)) (Q5 (BI c) _ (Xb ((gw c i * 3 + c / 17) % 8)))
  clear e4
  walk_at "rd"
  refine⟨D,_,_,_,rfl,rfl,e4',WX (by omega) (by unfold BI;simp;omega),?_⟩
  intro H5 k5 e5
  have e5':H5 D=some (.lst (((ZU c (gw c i)).map λc=>(⟨#[c]⟩:Str)).map V.str)):=by
   rw[e5]
   exact congrArg (λz=>some (HO.lst z)) (Q5 ((BI c).set (cu c).toNat (Xb ((gw c i * 3 + c / 17) % 8))) _ (mC (c / 11 + gw c i / 8)))
  clear e5
  have s25:zf H2 H5:=k5.put (k4.put s3 hD) hD
  have e25:H5 l=some (.lst (((TL i).map λj:Nat=>Jv c j).map V.str)):=s25 _ _ e2
  walk_at "rd"
  let Jn:xM:=λσ' H'=>(∃(z:Int) (hd:Str),σ'=[some (.int c),some (.int 80),some (.str (LM "abcdefghijklmnopqrstuvwxyz")),some (.int (cu c)),some (.int (oW c)),some (.ref l),some (.int (i:Int)),some (.int (gw c i)),some (.ref D),some (.int z),some (.str hd)]∧z=oG c i∧hd=XT c i∧zf H5 H')∨False
  refine⟨Jn,?_,?_⟩
  ·have n0:¬WZ c i→(3 + c / (gw c i + 13) % 5 + (i:Int) - gw c i)=oG c i∧("" : Str)=XT c i:=λq=>⟨by unfold oG;rw[if_neg q],by unfold XT;rw[if_neg q]⟩
   walk_at "rd"
   refine zD (λh1=>?_) (λh1=>.inl ⟨_,_,rfl,(n0 λz=>h1 (Bv z.1)).1,(n0 λz=>h1 (Bv z.1)).2,zf.refl _⟩)
   walk_at "rd"
   refine zD (λh2=>?_) (λh2=>.inl ⟨_,_,rfl,(n0 λz=>h2 (zzP z.2)).1,(n0 λz=>h2 (zzP z.2)).2,zf.refl _⟩)
   have q:WZ c i:=⟨MT h1,zzB h2⟩
   walk_at "rd"
   intro lh H6 s6 hlh e6
   have e6':H6 lh=some (.lst (ue.map V.str)):=e6
   clear e6
   have m0:0≤c / 72 % 8:=Sb _ (by decide)
   have m1:c / 72 % 8 < 8:=Sx _ (by decide)
   have hk8:ue.length=8:=rfl
   walk_at "rd"
   exact .inl ⟨_,_,rfl,by unfold oG;rw[if_pos q],by unfold XT;rw[if_pos q];rfl,s6⟩
  intro σ' H6 q
  obtain⟨z,hd,rfl,rfl,rfl,s6⟩:=q.resolve_right λz=>z
  clear q
  have e26:=s6 _ _ e25
  have e6':=s6 _ _ e5'
  walk_at "rd"
  intro lw H7 s7 hlw e7
  have e7':H7 lw=some (.lst ((((ZU c (gw c i)).take (oG c i).toNat).map λc=>(⟨#[c]⟩:Str)).map V.str)):=by
   rw[O1,←Z8 V.str,OX (by omega)]
   exact e7
  clear e7
  have hjl:=QM ((ZU c (gw c i)).take (oG c i).toNat)
  refine⟨_,lw,_,rfl,rfl,zK.of e7',?_,?_⟩
  ·rw[hjl,Ln,uN,show ((LM "" : Str).length)=0 from by decide +kernel]
   omega
  have hn:=xX (Yv c (i:Int))
  have hj:=Hw c (i:Int)
  have hlen:(XT c i).length + (Tr (LM "") (((ZU c (gw c i)).take (oG c i).toNat).map λc=>(⟨#[c]⟩:Str))).length≤8:=by
   rw[←pR]
   exact hj▸hn.2.1
  refine⟨_,_,rfl,rfl,zg (by omega),?_⟩
  refine⟨l,_,_,rfl,rfl,s7 _ _ e26,zg (by simp;omega),?_⟩
  intro H8 k8 e8
  refine .inl ⟨_,_,_,_,_,rfl,k8.put (((s2.trans s25).trans s6).trans s7) hl1,?_⟩
  rw[e8,Hy,LY,←hj]
  rfl
 ·intro σ H2 q
  obtain⟨v6,v7,v8,v9,v10,rfl,s2,e2⟩:=q.resolve_right λz=>z
  walk_at "rd"
  exact k l H2 s2 hl1 e2
theorem dY {α:Type} (f:α→V) (xs:List α) (n m:Nat) (h:n + m≤xs.length):dW (xs.map f) (some (n:Int)) (some ((n + m:Nat):Int))=((xs.drop n).take m).map f:=by
 unfold dW
 rw[HT.lI,HT.lI,Ln,NV (show n≤xs.length by omega),NV (show n + m≤xs.length from h),←AN,←O1,Nu]
theorem DF {α:Type} (L:List α) {n0 n1 n2:Nat} (h0:n0≤4) (h1:n1≤6) (h2:n2≤12):(L.take n0 ++ (L.drop 4).take n1 ++ (L.drop 10).take n2).Sublist (L.take 22):=by
 have tk:∀(M:List α) {a b:Nat},a≤b→(M.take a).Sublist (M.take b):=λM a b h=>by
  have:=NP a (M.take b)
  rwa [IT,NV h] at this
 have e:L.take 22=L.take 4 ++ (L.drop 4).take 6 ++ (L.drop 10).take 12:=by
  rw[show (22:Nat)=4 + 18 from rfl,Ep,show (18:Nat)=6 + 12 from rfl,Ep,II,SY]
 rw[e]
 exact((tk L h0).append (tk (L.drop 4) h1)).append (tk (L.drop 10) h2)
structure Mz (c:Int) (ps as:List Str) (zb:List (Str × Str)):Prop where
 hd:ZR ps as zb
 wd:∀x∈ps ++ as ++ zb.map (·.2),x∈(NZ c).take 28
def mf (H:Hp) (p:Addr) (c:Int) (ps as:List Str) (zb:List (Str × Str)):Prop:=∃lp la lr ln ll vs,H p=some (.tup [.ref lp,.ref la,.ref lr,.ref ln,.ref ll])∧H lp=some (.lst (ps.map V.str))∧H la=some (.lst (as.map V.str))∧H lr=some (.lst vs)∧H ln=some (.lst ((NZ c).map V.str))∧Paired (j6 H) vs zb
theorem j6.DQ {H H':Hp} {v:V} {mn:Str × Str} (h:j6 H v mn) (s:zf H H'):j6 H' v mn:=by
 obtain⟨p,e,h⟩:=h
 exact⟨p,e,s _ _ h⟩
theorem mf.same {H H':Hp} {p:Addr} {c:Int} {ps as:List Str} {zb:List (Str × Str)} (h:mf H p c ps as zb) (s:zf H H'):mf H' p c ps as zb:=by
 obtain⟨lp,la,lr,ln,ll,vs,h1,h2,h3,h4,h5,h6⟩:=h
 exact⟨lp,la,lr,ln,ll,vs,s _ _ h1,s _ _ h2,s _ _ h3,s _ _ h4,s _ _ h5,Paired.imp' (λ_ _ z=>z.DQ s) h6⟩
structure B1 (vb:List Str):Prop where
 nd:vb.Nodup
 ln:48≤vb.length
 sh:vb.length≤70
 nm:∀x∈vb,zZ x=true
def Mr (H:Hp) (p:Addr) (vb:List Str):Prop:=∃a b c d ll,H p=some (.tup [a,b,c,d,.ref ll])∧H ll=some (.lst (vb.map V.str))
theorem Mr.same {H H':Hp} {p:Addr} {vb:List Str} (h:Mr H p vb) (s:zf H H'):Mr H' p vb:=by
 obtain⟨a,b,c,d,ll,h1,h2⟩:=h
 exact⟨a,b,c,d,ll,s _ _ h1,s _ _ h2⟩
theorem GA {α:Type} (L:List α) {n0 n1:Nat} (h0:n0≤4) (h1:n1≤6):(L.take n0 ++ (L.drop 4).take n1 ++ (L.drop 10).take 2 ++ L.drop 32).Sublist L:=by
 have tk:∀(M:List α) {a b:Nat},a≤b→(M.take a).Sublist (M.take b):=λM a b h=>by
  have:=NP a (M.take b)
  rwa [IT,NV h] at this
 have e:L=L.take 4 ++ (L.drop 4).take 6 ++ (L.drop 10).take 2 ++ L.drop 12:=by
  have e1:=TV 4 L
  have e2:=TV 6 (L.drop 4)
  have e3:=TV 2 (L.drop 10)
  rw[II] at e2 e3
  conv=>lhs;rw[←e1,←e2,←e3]
  simp
 have h3:(L.drop 32).Sublist (L.drop 12):=by
  have:L.drop 32=(L.drop 12).drop 20:=by rw[II]
  rw[this]
  exact ER _ _
 conv=>rhs;rw[e]
 exact(((tk L h0).append (tk (L.drop 4) h1)).append (EL _)).append h3
def BQ (K:Ls):Sp:=λvs H Q _=>∃(a:Addr) (ns:List Int),vs=[.ref a]∧zK K H a (ns.map V.int)∧∀c ps as zb p H' vb,Mz c ps as zb→zf H H'→H p=none→mf H' p c ps as zb→Mr H' p vb→B1 vb→Q (.ref p) H'
noncomputable def PR:List Str:=["calm","sore","calm","sore","end"]
theorem PU:∀j < 5,PR.getD j ""∈zF:=by decide +kernel
theorem GQ:("calm" : Str)∈zF:=by decide +kernel
seal NZ
theorem qK:zu ["_law_script","_law_cell_here","_law_names_here","_law_rooms","_law_k","_law_mark","_law_parties","_law_acts","_law_labels"] ["_law_script"] (zy nO):=by walk_at "sc"
theorem QB (T:Txt K mg t):ze P w K mg base zC 2 t.mG t.mQ ["_law_script"] (BQ K):=by
 have G_w_cell:=@ze.mono P w K mg base _ _ 1 _ _ _ _ (uH T) (by decide)
 have G_w_names:=@ze.mono P w K mg base _ _ 1 _ _ _ _ (JC T) (by decide)
 refine T.cI.fn.ok qK (by walk_at "ln") ?_;walk_at "hd"
 obtain⟨a,ns,rfl,hA,k⟩:=h
 refine⟨_,(zq (za (i:=1) qK.nd rfl (LL rfl) (zi G_w_cell hr rfl T.jl.mg T.jl.fn.kp T.jl.bd .nil zJ (zz (pv 0) (zz zx zj))))
   (zq (za (i:=2) qK.nd rfl (LL rfl) (zi G_w_names hr rfl T.sv.mg T.sv.fn.kp T.sv.bd .nil zJ (zz (zi G_w_cell hr rfl T.jl.mg T.jl.fn.kp T.jl.bd .nil zJ (zz (pv 0) (zz zx zj))) (zz zx zj))))
   (zq (za (i:=3) qK.nd rfl (LL rfl) (zB zj) jZ)
   (zq (jy Su rfl (xV rfl T.vK (zz (zo qf zx (zo z6 (zo qZ (pv 1) zx) zx)) zj)) (zM (i:=4) qK.nd rfl (LL rfl))
    (zq (za (i:=5) qK.nd rfl (LL rfl) (zc (zv (K:=K) rfl) (zB (zz zw (zz zw (zz zw (zz zw (zz zw zj)))))) (zo z6 (zo qZ (zi G_w_cell hr rfl T.jl.mg T.jl.fn.kp T.jl.bd .nil zJ (zz (pv 0) (zz zx zj))) (zo qf (pv 4) zx)) zx) (λ_ _=>rfl)))
   (zq (PS.join (zW (PW.pt (yY (zd qz (pv 4) zx (zQ _)) (yY (zd qz (pv 5) zw (zQ _)) (vF (zd fL (zo z6 (zo qZ (pv 1) zx) zx) zx (zQ _))))))
    (zk (za (i:=5) qK.nd rfl (LL rfl) zw)) zr))
   (zk (zO (qM LD L5 L6 qj (pv 3) (zz (qq (zz (pv 5) (zz (zc (zv (K:=K) rfl) (pv 2) (zo qf zx (pv 4)) (λ_ _=>rfl)) zj))) zj)))))))
   (zq (za (i:=6) qK.nd rfl (LL rfl) (qD (qF (K:=K) rfl) (pv 2) (qQ zx) (qQ (zo qf zx (zo z6 (pv 1) zx)))))
   (zq (za (i:=7) qK.nd rfl (LL rfl) (qD (qF (K:=K) rfl) (pv 2) (qQ zx) (qQ (zo qf zx (zo z6 (zo qZ (pv 1) zx) zx)))))
   (zq (za (i:=8) qK.nd rfl (LL rfl) (qD (qF (K:=K) rfl) (pv 2) (qQ zx) kj))
   (zq (PS.join (zW (zd qz (zo z6 (zo qZ (pv 1) zx) zx) zx (zQ _))
    (zk (za (i:=8) qK.nd rfl (LL rfl) (zo vi (zo vi (zo vi (pv 7) (pv 6)) (qD (qF (K:=K) rfl) (pv 2) (qQ zx) (qQ zx))) (pv 8)))) zr))
   (zk (zp (qq (zz (pv 6) (zz (pv 7) (zz (pv 3) (zz (pv 2) (zz (pv 8) zj)))))))))))))))),?_⟩
 walk_at "rd"
 refine⟨a,0,ns,rfl,hA,by decide,by decide,λcell c0 c1=>?_⟩
 have m0a:0≤cell % 4:=Sb _ (by decide)
 have m0b:cell % 4 < 4:=Sx _ (by decide)
 have m1a:0≤cell / 4 % 6:=Sb _ (by decide)
 have m1b:cell / 4 % 6 < 6:=Sx _ (by decide)
 have m2a:0≤cell / 24 % 12:=Sb _ (by decide)
 have m2b:cell / 24 % 12 < 12:=Sx _ (by decide)
 obtain⟨n0,en0⟩:=Th (show 0≤1 + cell % 4 by omega)
 obtain⟨n1,en1⟩:=Th (show 0≤1 + cell / 4 % 6 by omega)
 obtain⟨n2,en2⟩:=Th (show 0≤1 + cell / 24 % 12 by omega)
 walk_at "rd"
 refine⟨a,1,ns,rfl,hA,by decide,by decide,λc d0 d1=>?_⟩
 refine⟨c,rfl,d0,d1,λln H1 s1 hln e1=>?_⟩
 have hN:=V1 c
 have hA1:=s1.seq hA
 walk_at "rd"
 intro lr H2 s2 hlr e2
 have ne1:ln≠lr:=zh e1 hlr
 have hlr0:H lr=none:=s1.free hlr
 have ent:(1 + cell / 24 % 12).toNat=n2:=by omega
 show zU 3 (V.ref lr) [some (.ref a),some (.int cell),some (.ref ln),none,none,none,none,none,none] _ _
 walk_at "rd"
 let Iv:xn:=λi σ H'=>(∃(vs:List V) (zb:List (Str × Str)) (v4 v5:Option V),σ=[some (.ref a),some (.int cell),some (.ref ln),some (.ref lr),v4,v5,none,none,none]∧zf H H'∧H' lr=some (.lst vs)∧H' ln=some (.lst ((NZ c).map V.str))∧Paired (j6 H') vs zb∧(∀mn∈zb,rS mn)∧zb.map (·.2)=((NZ c).drop 10).take i)∨False
 refine ki (lo:=0) (n:=(1 + cell / 24 % 12).toNat) Iv
  (.inl ⟨[],[],none,none,rfl,s1.trans s2,e2,s2 _ _ e1,.nil,λ_ z=>(by cases z),rfl⟩) ?_ ?_
 ·intro i σ H4 hi q
  obtain⟨vs,zb,v4,v5,rfl,s4,e4,n4,hP,h4,g4⟩:=q.resolve_right λz=>z
  clear q
  rw[ent] at hi
  have hA4:=s4.seq hA
  have hlen:zb.length=i:=by have:=congrArg Tb g4;rw[Ln,L3,Tx,hN] at this;omega
  have ei:(NZ c).getD (10 + (i:Int)).toNat (LM "")=Jv c ((10 + i:Nat):Int):=by
   rw[show (10 + (i:Int)).toNat=10 + i by omega];exact V0 c (by omega)
  have gi:((NZ c).drop 10).take (i + 1)=((NZ c).drop 10).take i ++ [Jv c ((10 + i:Nat):Int)]:=by
   rw[IE,OU]
   have:=V0 c (i:=10 + i) (by omega)
   rw[L7,Le (show 10 + i < (NZ c).length by omega)] at this
   rw[Le (show 10 + i < (NZ c).length by omega)]
   exact congrArg (λz=>_ ++ [z]) this
  rw[NS]
  walk_at "rd"
  intro l8 H8 s8 hl8 e8
  have e8':H8 l8=some (.lst (PR.map V.str)):=e8
  clear e8
  have hA8:=s8.seq hA4
  refine⟨_,rfl,a,2,ns,rfl,hA8,by decide,by decide,λc2 x0 x1=>?_⟩
  have y0:0≤c2 / ((i:Int) + 1) % 5:=Sb _ (by decide)
  have y1:c2 / ((i:Int) + 1) % 5 < 5:=Sx _ (by decide)
  have hm:=PU (c2 / ((i:Int) + 1) % 5).toNat (by omega)
  have h5:PR.length=5:=rfl
  walk_at "rd"
  let Jn:xM:=λσ' H'=>(∃mk:Str,σ'=[some (.ref a),some (.int cell),some (.ref ln),some (.ref lr),some (.int (i:Int)),some (.str mk),none,none,none]∧mk∈zF∧H'=H8)∨False
  refine⟨Jn,?_,?_⟩
  ·walk_at "rd"
   refine zD (λh1=>?_) (λh1=>.inl ⟨_,rfl,hm,rfl⟩)
   walk_at "rd"
   refine zD (λh2=>?_) (λh2=>.inl ⟨_,rfl,hm,rfl⟩)
   walk_at "rd"
   refine zD (λh3=>?_) (λh3=>.inl ⟨_,rfl,hm,rfl⟩)
   walk_at "rd"
   exact .inl ⟨_,rfl,GQ,rfl⟩
  intro σ' H' q
  obtain⟨mk,rfl,hmk,rfl⟩:=q.resolve_right λz=>z
  clear q hm
  have n8:=s8 _ _ n4
  walk_at "rd"
  rw[ei]
  intro q H9 s9 hq e9
  have e49:=s9 _ _ (s8 _ _ e4)
  refine⟨lr,_,_,rfl,rfl,e49,zg (by have:=SW hP;omega),?_⟩
  intro H10 k10 e10
  have hP9:Paired (j6 H9) (vs ++ [.ref q]) (zb ++ [(mk,Jv c ((10 + i:Nat):Int))]):=Paired.snoc (Paired.imp' (λ_ _ z=>z.same (s8.trans s9)) hP) ⟨q,rfl,e9⟩
  refine .inl ⟨_,_,_,_,rfl,k10.put ((s4.trans s8).trans s9) hlr0,e10,k10.look (s9 _ _ n8) ne1,Paired.imp' (λ_ _ z=>z.keeps k10 e49) hP9,λmn hmn=>?_,?_⟩
  ·(rcases LU.mp hmn with q | q)
   ·exact h4 mn q
   ·rw[LW.mp q];exact⟨hmk,Yv c _⟩
  ·rw[LY,g4,gi];rfl
 intro σ H4 q
 obtain⟨vs,zb,v4,v5,rfl,s4,e4,n4,hP,h4,g4⟩:=q.resolve_right λz=>z
 clear q
 rw[ent] at g4
 have hlen:zb.length=n2:=by have:=congrArg Tb g4;rw[Ln,L3,Tx,hN] at this;omega
 walk_at "rd"
 intro lp H5 s5 hlp e5
 have e5':H5 lp=some (.lst (((NZ c).take n0).map V.str)):=by
  have:=dY V.str (NZ c) 0 n0 (by omega)
  rw[OC,Ir,show ((0:Nat):Int)=0 from rfl] at this
  rw[←this,←en0]
  exact e5
 clear e5
 have n5:=s5 _ _ n4
 walk_at "rd"
 intro la H6 s6 hla e6
 have e6':H6 la=some (.lst ((((NZ c).drop 4).take n1).map V.str)):=by
  rw[←dY V.str (NZ c) 4 n1 (by omega),show ((4 + n1:Nat):Int)=5 + cell / 4 % 6 by omega]
  exact e6
 clear e6
 have n6:=s6 _ _ n5
 walk_at "rd"
 intro ll H7 s7 hll e7
 have e7':H7 ll=some (.lst (((NZ c).drop 32).map V.str)):=by
  rw[←vO V.str (NZ c) 32]
  exact e7
 clear e7
 have n7:=s7 _ _ n6
 have p7:=s7 _ _ (s6 _ _ e5')
 have a7:=s7 _ _ e6'
 have lps:((NZ c).take n0).length=n0:=by rw[L3,hN];omega
 have las:(((NZ c).drop 4).take n1).length=n1:=by rw[L3,Tx,hN];omega
 have l2s:(((NZ c).drop 10).take 2).length=2:=by rw[L3,Tx,hN];rfl
 have lls:((NZ c).drop 32).length=48:=by rw[Tx,hN]
 walk_at "x4"
 let Jn:xM:=λσ' H'=>(∃(l8:Addr) (vb:List Str),σ'=[some (.ref a),some (.int cell),some (.ref ln),some (.ref lr),v4,v5,some (.ref lp),some (.ref la),some (.ref l8)]∧zf H7 H'∧H' l8=some (.lst (vb.map V.str))∧B1 vb)∨False
 refine⟨Jn,?_,?_⟩
 ·walk_at "rd"
  refine zD (λh1=>?_) (λh1=>.inl ⟨_,_,rfl,zf.refl _,e7',(ER _ _).nodup (V2 c),by omega,by omega,λx hx=>si c x (Oi hx)⟩)
  walk_at "rd"
  refine⟨la,lp,_,_,rfl,rfl,a7,p7,zg (by rw[Ln,Ln];omega),?_⟩
  intro b1 H8 s8 hb1 f1
  have n8:=s8 _ _ n7
  walk_at "rd"
  intro b2 H9 s9 hb2 f2
  have f2':H9 b2=some (.lst ((((NZ c).drop 10).take 2).map V.str)):=by
   rw[←dY V.str (NZ c) 10 2 (by omega)]
   exact f2
  clear f2
  refine⟨b1,b2,_,_,rfl,rfl,s9 _ _ f1,f2',zg (by rw[Li,Ln,Ln,Ln];omega),?_⟩
  intro b3 H10 s10 hb3 f3
  walk_at "rd"
  refine⟨b3,ll,_,_,rfl,rfl,f3,s10 _ _ (s9 _ _ (s8 _ _ e7')),zg (by rw[Li,Li,Ln,Ln,Ln,Ln];omega),?_⟩
  intro b4 H11 s11 hb4 f4
  have hsl:=GA (NZ c) (n0:=n0) (n1:=n1) (by omega) (by omega)
  refine .inl ⟨_,((NZ c).drop 4).take n1 ++ (NZ c).take n0 ++ ((NZ c).drop 10).take 2 ++ (NZ c).drop 32,rfl,((s8.trans s9).trans s10).trans s11,?_,?_,?_,?_,?_⟩
  ·rw[f4]
   simp only[LY]
  ·have hn:=hsl.nodup (V2 c)
   have pm:(((NZ c).take n0 ++ ((NZ c).drop 4).take n1) ++ ((NZ c).drop 10).take 2 ++ (NZ c).drop 32).Perm (((NZ c).drop 4).take n1 ++ (NZ c).take n0 ++ ((NZ c).drop 10).take 2 ++ (NZ c).drop 32):=((List.perm_append_comm).append_right _).append_right _
   exact pm.nodup_iff.mp hn
  ·simp only[Li]
   omega
  ·simp only[Li]
   omega
  ·intro x hx
   refine si c x (hsl.subset ?_)
   simp only[LU] at hx ⊢
   rcases hx with ((hx | hx) | hx) | hx
   ·exact .inl (.inl (.inr hx))
   ·exact .inl (.inl (.inl hx))
   ·exact .inl (.inr hx)
   ·exact .inr hx
 intro σ' H8 q
 obtain⟨l8,vb,rfl,s8,e8,hLb⟩:=q.resolve_right λz=>z
 clear q
 walk_at "rd"
 intro q H9 s9 hq e9
 have s48:zf H4 H8:=((s5.trans s6).trans s7).trans s8
 have hsub:=DF (NZ c) (n0:=n0) (n1:=n1) (n2:=n2) (by omega) (by omega) (by omega)
 have mem:∀x∈(NZ c).take n0 ++ ((NZ c).drop 4).take n1 ++ ((NZ c).drop 10).take n2,x∈(NZ c).take 28:=λx hx=>by
  have h1:=hsub.subset hx
  have:(NZ c).take 22=((NZ c).take 28).take 22:=by rw[IT];rfl
  rw[this] at h1
  exact Tp h1
 have ok:∀x∈(NZ c).take 28,zZ x=true:=λx hx=>si c x (Tp hx)
 refine k c _ _ zb q H9 vb ⟨⟨by omega,by omega,by omega,by omega,by omega,by omega,λx hx=>ok x (mem x (Ss _ (Ss _ hx))),λx hx=>ok x (mem x (Ss _ (LP _ hx))),h4,?_⟩,?_⟩ ((s4.trans s48).trans s9) ((s4.trans s48).free hq) ⟨lp,la,lr,ln,l8,vs,e9,s9 _ _ (s8 _ _ p7),s9 _ _ (s8 _ _ a7),s9 _ _ (s48 _ _ e4),s9 _ _ (s8 _ _ n7),Paired.imp' (λ_ _ z=>z.same (s48.trans s9)) hP⟩ ⟨_,_,_,_,l8,e9,s9 _ _ e8⟩ hLb
 ·rw[g4]
  exact hsub.nodup ((NP _ _).nodup (V2 c))
 ·rw[g4]
  exact mem
end
noncomputable abbrev Ow:=List (Str × Str)
noncomputable def dS (o:Ow):List (Key × V):=o.map λp=>(.inr p.1,V.str p.2)
noncomputable def lk (o:Ow) (z:Str):Option Str:=(o.find? λp=>decide (p.1=z)).map (·.2)
noncomputable def pu (o:Ow) (n b:Str):Ow:=if (o.any λp=>decide (p.1=n))=true then o.map (λp=>if p.1=n then (p.1,b) else p) else o ++ [(n,b)]
noncomputable def mv (kd:Str→Str) (o:Ow):Ow:=o.map λp=>(p.1,kd p.2)
noncomputable def Zp (o:Ow) (l:Ow):Ow:=l.foldl (λo p=>pu o p.1 p.2) o
theorem lC {a b:Str}:((N7 a:Key)=N7 b)=(a=b):=propext ⟨λh=>zzq h,λh=>by rw[h]⟩
theorem vI (o:Ow):(dS o).length=o.length:=Ln ..
theorem kB (z:Str):∀o:Ow,j9 (dS o) (.inr z)=(lk o z).map V.str
 | []=>rfl
 | p :: o=>by
  have ih:=kB z o
  unfold j9 dS lk at *
  rw[LR,Td,Td]
  simp only[lC]
  by_cases h:p.1=z
  ·simp [h]
  ·simp only[decide_eq_false h]
   exact ih
theorem gB (o:Ow) (n b:Str):putK (dS o) (.inr n) (.str b)=dS (pu o n b):=by
 unfold putK pu dS
 rw[ED]
 have e:(λkv:Key × V=>decide (kv.1=N7 n)) ∘ (λp:Str × Str=>((N7 p.1:Key),V.str p.2))=λp:Str × Str=>decide (p.1=n):=by
  funext p
  simp only[O2,lC]
 rw[e]
 split
 ·rw[TQ,TQ]
  (refine NI λp _=>?_)
  simp only[O2,lC]
  by_cases h:p.1=n
  ·simp [h]
  ·simp [h]
 ·rw[LY];rfl
theorem X4 (kd:Str→Str) (z:Str):∀o:Ow,lk (mv kd o) z=(lk o z).map kd
 | []=>rfl
 | p :: o=>by
  have ih:=X4 kd z o
  unfold lk mv at *
  rw[LR,Td,Td]
  by_cases h:p.1=z
  ·simp [h]
  ·simp only[decide_eq_false h]
   exact ih
theorem Dh (kd:Str→Str) (o:Ow) (n b:Str):pu (mv kd o) n (kd b)=mv kd (pu o n b):=by
 unfold pu mv
 rw[ED]
 have e:(λp:Str × Str=>decide (p.1=n)) ∘ (λp:Str × Str=>(p.1,kd p.2))=λp:Str × Str=>decide (p.1=n):=rfl
 rw[e]
 split
 ·rw[TQ,TQ]
  (refine NI λp _=>?_)
  simp only[O2]
  by_cases h:p.1=n
  ·simp [h]
  ·simp [h]
 ·rw[LY];rfl
theorem lN (o:Ow) (n b:Str):(pu o n b).map (·.1)=if n∈o.map (·.1) then o.map (·.1) else o.map (·.1) ++ [n]:=by
 have e:(o.any λp=>decide (p.1=n))=decide (n∈o.map (·.1)):=by
  induction o with
  | nil=>rfl
  | cons p o ih=>
   rw[Nh,ih,LR]
   by_cases h:p.1=n
   ·simp [h]
   ·have h':¬n=p.1:=λz=>h z.symm
    simp [h,h']
 unfold pu
 rw[e]
 by_cases h:n∈o.map (·.1)
 ·rw[if_pos (zzP h),if_pos h,TQ]
  (refine NI λp _=>?_)
  simp only[O2]
  split<;>rfl
 ·rw[if_neg (by rw[decide_eq_false h];exact LA),if_neg h,LY]
  rfl
theorem Fe {o:Ow} {n b:Str} (h:n∉o.map (·.1)):pu o n b=o ++ [(n,b)]:=by
 unfold pu
 rw[if_neg]
 intro z
 obtain⟨p,hp,q⟩:=List.any_eq_true.mp z
 exact h (SX.mpr ⟨p,hp,zzB q⟩)
theorem J3 (o:Ow) (n b:Str):(pu o n b).length≤o.length + 1:=by
 unfold pu
 split
 ·rw[Ln];omega
 ·(rw[Li];simp)
theorem WC (o:Ow) (n b z:Str):lk (pu o n b) z=if z=n then some b else lk o z:=by
 have h:=Gv (dS o) (.inr n) (.inr z) (V.str b)
 rw[gB,kB,kB] at h
 simp only[lC] at h
 by_cases e:z=n
 ·rw[if_pos e] at h ⊢
  cases q:lk (pu o n b) z with
  | none=>rw[q] at h;cases h
  | some y=>rw[q] at h;exact congrArg some (V.str.inj (L8 h))
 ·rw[if_neg e] at h ⊢
  cases q:lk (pu o n b) z with
  | none=>
   cases q2:lk o z with
   | none=>rfl
   | some y=>rw[q,q2] at h;cases h
  | some y=>
   cases q2:lk o z with
   | none=>rw[q,q2] at h;cases h
   | some y2=>rw[q,q2] at h;exact congrArg some (V.str.inj (L8 h))
theorem xh (o l:Ow) (p:Str × Str):Zp o (l ++ [p])=pu (Zp o l) p.1 p.2:=by unfold Zp;rw[List.foldl_append];rfl
theorem kg:∀(l o:Ow),(Zp o l).length≤o.length + l.length
 | [],o=>by show o.length≤_;omega
 | p :: l,o=>by
  have h1:=kg l (pu o p.1 p.2)
  have h2:=J3 o p.1 p.2
  show (Zp (pu o p.1 p.2) l).length≤_
  rw[LQ]
  omega
theorem cJ:∀(l o:Ow),((o ++ l).map (·.1)).Nodup→Zp o l=o ++ l
 | [],o,_=>by rw[Sd];rfl
 | p :: l,o,h=>by
  have e:o ++ p :: l=(o ++ [(p.1,p.2)]) ++ l:=by simp
  have hn:p.1∉o.map (·.1):=λz=>by
   rw[LY,LR] at h
   exact(SG.mp h).2.2 _ z _ Sw rfl
  show Zp (pu o p.1 p.2) l=_
  rw[Fe hn,cJ l _ (by rw[←e];exact h),e]
theorem X3 {o:Ow} {n b:Str} (h:lk o n=some b):(n,b)∈o:=by
 unfold lk at h
 cases q:o.find? λp=>decide (p.1=n) with
 | none=>rw[q] at h;cases h
 | some p=>
  rw[q] at h
  have h1:=List.mem_of_find?_eq_some q
  have h2:=@List.find?_some _ (λp:Str × Str=>decide (p.1=n)) p o q
  have h2:p.1=n:=zzB h2
  obtain⟨x,y⟩:=p
  cases h
  cases h2
  exact h1
theorem WD:∀{o:Ow} {p:Str × Str},(o.map (·.1)).Nodup→p∈o→lk o p.1=some p.2
 | q :: o,p,hn,h=>by
  (rw[LR,Sq] at hn)
  unfold lk
  rw[Td]
  (rcases La.mp h with rfl | h)
  ·simp
  ·have hne:¬q.1=p.1:=λz=>hn.1 (by rw[z];exact SH h)
   simp only[decide_eq_false hne]
   exact WD hn.2 h
noncomputable def j5 (ps as:List Str) (zb:List (Str × Str)):Ow:=ps.map (λn=>(n,("party" : Str))) ++ as.map (λn=>(n,("act" : Str))) ++ zb.map λmn=>(mn.2,mn.1)
noncomputable def xB (ps as:List Str) (zb:List (Str × Str)) (z:Str):Str:=(lk (j5 ps as zb) z).getD ""
noncomputable def wD (o:Ow):Ow:=o.map λp=>(p.1,p.1)
theorem yN (ps as:List Str) (zb:List (Str × Str)):(j5 ps as zb).map (·.1)=ps ++ as ++ zb.map (·.2):=by
 unfold j5
 rw[LY,LY,TQ,TQ,TQ]
 have e:∀(l:List Str) (x:Str),l.map ((λp:Str × Str=>p.1) ∘ λn=>(n,x))=l:=λl x=>by
  rw[show ((λp:Str × Str=>p.1) ∘ λn:Str=>(n,x))=id from rfl,zzh]
 rw[e,e]
 rfl
theorem dE (o:Ow):(wD o).map (·.1)=o.map (·.1):=by unfold wD;rw[TQ];rfl
theorem aH {ps as:List Str} {zb:List (Str × Str)} (h:ZR ps as zb):(j5 ps as zb).length≤22:=by
 have:=h.p2;have:=h.a2;have:=h.r2
 unfold j5
 rw[Li,Li,Ln,Ln,Ln]
 omega
theorem G8 {ps as:List Str} {zb:List (Str × Str)} (h:ZR ps as zb):mv (xB ps as zb) (wD (j5 ps as zb))=j5 ps as zb:=by
 have hn:((j5 ps as zb).map (·.1)).Nodup:=by rw[yN];exact h.nd
 unfold mv wD
 rw[TQ]
 have:(j5 ps as zb).map ((λp:Str × Str=>(p.1,xB ps as zb p.2)) ∘ λp:Str × Str=>(p.1,p.1))=(j5 ps as zb).map id:=NI λp hp=>by
  show (p.1,xB ps as zb p.1)=p
  unfold xB
  rw[WD hn hp]
  rfl
 rw[this,zzh]
theorem Paired.a8 {α β:Type} {F:α→β→Prop} {a:α}:∀{xs:List α} {ys:List β} {i:Nat},Paired F xs ys→xs[i]?=some a→∃b,ys[i]?=some b∧F a b
 | _ :: _,_ :: _,0,.cons h t,e=>by cases e;exact⟨_,rfl,h⟩
 | _ :: _,_ :: _,i + 1,.cons h t,e=>Paired.a8 (i:=i) t e
theorem take_snoc {α:Type} {xs:List α} {i:Nat} {b:α} (h:xs[i]?=some b):xs.take (i + 1)=xs.take i ++ [b]:=by
 rw[IE,h];rfl
theorem yc {l:List Str} {i:Nat} {y:V} (h:(l.map V.str)[i]?=some y):∃n,l[i]?=some n∧y=.str n:=by
 rw[LV] at h
 cases q:l[i]? with
 | none=>rw[q] at h;cases h
 | some n=>rw[q] at h;exact⟨n,rfl,(L8 h).symm⟩
def Kh:Sp:=λvs H Q _=>∃(p:Addr) (c:Int) (ps as:List Str) (zb:List (Str × Str)),vs=[.ref p]∧mf H p c ps as zb∧ZR ps as zb∧∀d H',zf H H'→H d=none→H' d=some (.dK (dS (j5 ps as zb)))→Q (.ref d) H'
def Y1:Sp:=λvs H Q _=>∃(p:Addr) (c:Int) (ps as:List Str) (zb:List (Str × Str)),vs=[.ref p]∧mf H p c ps as zb∧ZR ps as zb∧∀d H',zf H H'→H d=none→H' d=some (.dK (dS (wD (j5 ps as zb))))→Q (.ref d) H'
section
variable {P:LH} {w:Sz} {K:Ls} {mg:Str→Option Lo} {base:Heap} {t:z4}
theorem kG:zu ["_law_header_here","_law_kinds_here","_law_name","_law_mark"] ["_law_header_here"] (zy eo):=by walk_at "sc"
theorem m6 (T:Txt K mg t):ze P w K mg base zC 1 t.yL t.yR ["_law_header_here"] Kh:=by
 refine T.vz.fn.ok kG (by walk_at "ln") ?_;walk_at "hd"
 obtain⟨p,c,ps,as,zb,rfl,hH,hd,k⟩:=h
 refine⟨_,(zq (za (i:=1) kG.nd rfl (LL rfl) cw)
   (zq (jy Su rfl (qp (K:=K) rfl (zc (qY (K:=K) rfl) (pv 0) zx (λ_ _=>rfl))) (zM (i:=2) kG.nd rfl (LL rfl))
    (zk (kx zw (ve (pv 1) (pv 2) (je (qo hr))))))
   (zq (jy Su rfl (qp (K:=K) rfl (zc (qY (K:=K) rfl) (pv 0) zx (λ_ _=>rfl))) (zM (i:=2) kG.nd rfl (LL rfl))
    (zk (kx zw (ve (pv 1) (pv 2) (je (qo hr))))))
   (zq (jy Su rfl (qp (K:=K) rfl (zc (qY (K:=K) rfl) (pv 0) zx (λ_ _=>rfl))) (vB (K:=K) rfl rfl (qu (zM (i:=3) kG.nd rfl (LL rfl)) (qu (zM (i:=2) kG.nd rfl (LL rfl)) vP)))
    (zk (kx (pv 3) (ve (pv 1) (pv 2) (je (qo hr))))))
   (zk (zp (pv 1))))))),?_⟩
 obtain⟨lp,la,lr,ln,ll,vs,ep,elp,ela,elr,eln,hR⟩:=hH
 have p2:=hd.p2;have a2:=hd.a2;have r2:=hd.r2
 have hvl:vs.length=zb.length:=SW hR
 walk_at "rd"
 intro d H1 s1 hd1 e1
 have ep1:=s1 _ _ ep
 show zU 1 (V.ref d) [some (.ref p),none,none,none] _ _
 walk_at "rd"
 let Iv:xn:=λi σ H'=>(∃v2:Option V,σ=[some (.ref p),some (.ref d),v2,none]∧zf H H'∧H' d=some (.dK (dS (Zp [] ((ps.take i).map λn=>(n,("party" : Str)))))))∨False
 refine xg (K:=K) (a:=lp) (xs:=ps.map V.str) Iv
  (.inl ⟨none,rfl,s1,e1⟩) (λi σ H' _ q=>(by obtain⟨_,_,z,_⟩:=q.resolve_right (λz=>z);exact zK.of (z _ _ elp))) ?_ ?_
 ·intro i y σ H2 hi q
  obtain⟨v2,rfl,s2,e2⟩:=q.resolve_right λz=>z
  clear q
  obtain⟨n,hn,rfl⟩:=yc hi
  have hlen:=kg ((ps.take i).map λn=>(n,("party" : Str))) []
  rw[Ln,L3] at hlen
  walk_at "rd"
  refine⟨d,_,.inr n,rfl,rfl,e2,zg (by rw[vI];simp only[LO] at hlen;omega),?_⟩
  intro H3 k3 e3
  refine .inl ⟨_,rfl,k3.put s2 hd1,?_⟩
  rw[e3,take_snoc hn,LY,LR,S7,xh,gB]
 intro σ H2 q
 obtain⟨v2,rfl,s2,e2⟩:=q.resolve_right λz=>z
 clear q
 rw[Ln,SE] at e2
 have ep2:=s2 _ _ ep
 walk_at "rd"
 let Iv:xn:=λi σ H'=>(∃v2:Option V,σ=[some (.ref p),some (.ref d),v2,none]∧zf H H'∧H' d=some (.dK (dS (Zp [] (ps.map (λn=>(n,("party" : Str))) ++ (as.take i).map λn=>(n,("act" : Str)))))))∨False
 refine xg (K:=K) (a:=la) (xs:=as.map V.str) Iv
  (.inl ⟨v2,rfl,s2,by rw[NL,S7,Sd];exact e2⟩) (λi σ H' _ q=>(by obtain⟨_,_,z,_⟩:=q.resolve_right (λz=>z);exact zK.of (z _ _ ela))) ?_ ?_
 ·intro i y σ H3 hi q
  obtain⟨v2,rfl,s3,e3⟩:=q.resolve_right λz=>z
  clear q
  obtain⟨n,hn,rfl⟩:=yc hi
  have hlen:=kg (ps.map (λn=>(n,("party" : Str))) ++ (as.take i).map λn=>(n,("act" : Str))) []
  rw[Li,Ln,Ln,L3] at hlen
  walk_at "rd"
  refine⟨d,_,.inr n,rfl,rfl,e3,zg (by rw[vI];simp only[LO] at hlen;omega),?_⟩
  intro H4 k4 e4
  refine .inl ⟨_,rfl,k4.put s3 hd1,?_⟩
  rw[e4,take_snoc hn,LY,LR,S7,←SY,xh,gB]
 intro σ H3 q
 obtain⟨v2,rfl,s3,e3⟩:=q.resolve_right λz=>z
 clear q
 rw[Ln,SE] at e3
 have ep3:=s3 _ _ ep
 walk_at "rd"
 let Iv:xn:=λi σ H'=>(∃v2 v3:Option V,σ=[some (.ref p),some (.ref d),v2,v3]∧zf H H'∧H' d=some (.dK (dS (Zp [] (ps.map (λn=>(n,("party" : Str))) ++ as.map (λn=>(n,("act" : Str))) ++ (zb.take i).map λmn=>(mn.2,mn.1))))))∨False
 refine xg (K:=K) (a:=lr) (xs:=vs) Iv
  (.inl ⟨v2,none,rfl,s3,by rw[NL,S7,Sd];exact e3⟩) (λi σ H' _ q=>(by obtain⟨_,_,_,z,_⟩:=q.resolve_right (λz=>z);exact zK.of (z _ _ elr))) ?_ ?_
 ·intro i y σ H4 hi q
  obtain⟨v2,v3,rfl,s4,e4⟩:=q.resolve_right λz=>z
  clear q
  obtain⟨mn,hmn,q,rfl,eq⟩:=Paired.a8 hR hi
  have eq4:=s4 _ _ eq
  have hlen:=kg (ps.map (λn=>(n,("party" : Str))) ++ as.map (λn=>(n,("act" : Str))) ++ (zb.take i).map λmn=>(mn.2,mn.1)) []
  rw[Li,Li,Ln,Ln,Ln,L3] at hlen
  refine⟨q,_,rfl,jt.of eq4,rfl,_,_,rfl,_,_,rfl,rfl,?_⟩
  walk_at "rd"
  refine⟨d,_,.inr mn.2,rfl,rfl,e4,zg (by rw[vI];simp only[LO] at hlen;omega),?_⟩
  intro H5 k5 e5
  refine .inl ⟨_,_,rfl,k5.put s4 hd1,?_⟩
  rw[e5,take_snoc hmn,LY,LR,S7,←SY,xh,gB]
 intro σ H4 q
 obtain⟨v2,v3,rfl,s4,e4⟩:=q.resolve_right λz=>z
 clear q
 rw[hvl,SE] at e4
 walk_at "rd"
 refine k d H4 s4 hd1 ?_
 have:=cJ (j5 ps as zb) [] (by rw[Sr,yN];exact hd.nd)
 rw[Sr] at this
 rw[←this]
 exact e4
theorem dm:zu ["_law_header_here","_law_scope_here","_law_name"] ["_law_header_here"] (zy eJ):=by walk_at "sc"
theorem nG (T:Txt K mg t):ze P w K mg base zC 2 t.pO t.pT ["_law_header_here"] Y1:=by
 have G_w_kinds:=@ze.mono P w K mg base _ _ 1 _ _ _ _ (m6 T) (by decide)
 refine T.gR.fn.ok dm (by walk_at "ln") ?_;walk_at "hd"
 obtain⟨p,c,ps,as,zb,rfl,hH,hd,k⟩:=h
 refine⟨_,(zq (za (i:=1) dm.nd rfl (LL rfl) cw)
   (zq (Hu Su rfl (zi G_w_kinds hr rfl T.vz.mg T.vz.fn.kp T.vz.bd .nil zJ (zz (pv 0) zj)) (zM (i:=2) dm.nd rfl (LL rfl))
    (zk (kx (pv 2) (ve (pv 1) (pv 2) (je (qo hr))))))
   (zk (zp (pv 1))))),?_⟩
 have hk:=aH hd
 walk_at "rd"
 intro d H1 s1 hd1 e1
 show zU 1 (V.ref d) [some (.ref p),none,none] _ _
 walk_at "rd"
 refine⟨p,c,ps,as,zb,rfl,hH.same s1,hd,λd2 H2 s2 hd2 e2=>?_⟩
 have hne:d≠d2:=zh e1 hd2
 refine⟨d2,_,rfl,e2,λi σ H'=>(∃v2:Option V,σ=[some (.ref p),some (.ref d),v2]∧zf H H'∧H' d=some (.dK (dS (Zp [] (wD ((j5 ps as zb).take i))))))∨False,.inl ⟨none,rfl,Jb (s1.trans s2) (s1.free hd2),by rw[dD hne];exact s2 _ _ e1⟩,?_,?_⟩
 ·intro i kk v σ H3 hi q
  obtain⟨v2,rfl,s3,e3⟩:=q.resolve_right λz=>z
  clear q
  obtain⟨pr,hpr,hpq⟩:∃pr,(j5 ps as zb)[i]?=some pr∧kk=.inr pr.1:=by
   unfold dS at hi
   rw[LV] at hi
   cases q:(j5 ps as zb)[i]? with
   | none=>rw[q] at hi;cases hi
   | some pr=>rw[q] at hi;exact⟨pr,rfl,(congrArg zzG (L8 hi)).symm⟩
  subst hpq
  have hlen:=kg (wD ((j5 ps as zb).take i)) []
  rw[show (wD ((j5 ps as zb).take i)).length=((j5 ps as zb).take i).length from Ln ..,L3] at hlen
  walk_at "rd"
  refine⟨d,_,.inr pr.1,rfl,rfl,e3,zg (by rw[vI];simp only[LO] at hlen;omega),?_⟩
  intro H4 k4 e4
  refine .inl ⟨_,rfl,k4.put s3 hd1,?_⟩
  rw[e4,take_snoc hpr]
  unfold wD
  rw[LY,LR,S7,xh]
  exact congrArg (λz=>some (HO.dK z)) (gB _ _ _)
 intro σ H3 q
 obtain⟨v2,rfl,s3,e3⟩:=q.resolve_right λz=>z
 clear q
 rw[vI,SE] at e3
 walk_at "rd"
 refine k d H3 s3 hd1 ?_
 have:=cJ (wD (j5 ps as zb)) [] (by rw[Sr,dE,yN];exact hd.nd)
 rw[Sr] at this
 rw[←this]
 exact e3
end
theorem cx {u:Str} (h:zZ u=true):u.length≤8:=(xX h).2.1
structure Ue (ps as:List Str) (zb:List (Str × Str)):Prop where
 p1:1≤ps.length
 p2:ps.length≤4
 a1:1≤as.length
 a2:as.length≤6
 r2:zb.length≤12
 pn:∀x∈ps,zZ x=true
 an:∀x∈as,zZ x=true
 rn:∀mn∈zb,rS mn
theorem ZR.w {ps as:List Str} {zb:List (Str × Str)} (h:ZR ps as zb):Ue ps as zb:=⟨h.p1,h.p2,h.a1,h.a2,h.r2,h.pn,h.an,h.rn⟩
theorem Qb {x y:Str} (e:y.cps.toList=x.cps.toList ++ [32]) {ns:List Str} (h:ns≠[]):y ++ Tr " " ns=fe (x :: ns):=by
 obtain⟨a,r,rfl⟩:=List.exists_cons_of_ne_nil h
 refine gF ?_
 unfold fe
 rw[cps_append,join_eq,join_eq,kJ,e]
 simp
theorem WM:("parties " : Str).cps.toList=("parties" : Str).cps.toList ++ [32]∧("acts " : Str).cps.toList=("acts" : Str).cps.toList ++ [32]∧(" " : Str).cps.toList=[32]∧("sore " : Str).cps.toList=("sore" : Str).cps.toList ++ [32]:=by decide +kernel
theorem FF (m n:Str):m ++ LM " " ++ n=cX (m,n):=by
 refine gF ?_
 unfold cX fe
 rw[cps_append,cps_append,join_eq,kJ,L2.join_one,WM.2.2.1]
 simp
theorem Vn (ps as:List Str) (zb:List (Str × Str)) (e1 e2:List Ew):rowsOf ps as zb (e1 ++ e2)=rowsOf ps as zb e1 ++ e2.map Ew.row:=by unfold rowsOf;simp
theorem Ho (ps as:List Str) (zb:List (Str × Str)) (mn:Str × Str):rowsOf ps as (zb ++ [mn]) []=rowsOf ps as zb [] ++ [cX mn]:=by unfold rowsOf;simp
theorem cK {ps as:List Str} {zb:List (Str × Str)} {evs:List Ew}:(rowsOf ps as zb evs).length=2 + zb.length + evs.length:=by unfold rowsOf;simp only[LQ,Li,Ln];omega
theorem fz:∀{ws:List Str},(∀x∈ws,59∉x.cps.toList)→59∉(fe ws).cps.toList
 | [],_=>by unfold fe;decide +kernel
 | [x],h=>by unfold fe;rw[join_eq,L2.join_one];exact h x (by simp)
 | x :: y :: r,h=>by
  have ih:=fz (ws:=y :: r) λz hz=>h z (LK _ hz)
  unfold fe at ih ⊢
  rw[join_eq] at ih ⊢
  rw[kJ]
  intro hm
  (rcases LU.mp hm with hm | hm)
  ·exact h x (by simp) hm
  ·rcases La.mp hm with hm | hm
   ·cases hm
   ·exact ih hm
theorem z7 {x:Str} (h:zZ x=true):59∉x.cps.toList:=λhc=>by
 have h':=h
 unfold zZ at h'
 rw[SR] at h'
 have:¬59∈zA.cps.toList:=by decide +kernel
 exact this ((oY h'.1).2.2 59 hc)
theorem Y4 {n:Nat}:∀{xs:List Str},(∀x∈xs,x.length≤n)→(xs.map (·.length)).sum≤n * xs.length
 | [],_=>by simp
 | x :: r,h=>by
  have h1:=h x (by simp)
  have h2:=Y4 (n:=n) (xs:=r) λy hy=>h y (LK _ hy)
  rw[LR,AI,LQ,zzg]
  omega
theorem d7:∀x∈lits,59∉x.cps.toList∧x.length≤8:=by decide +kernel
theorem iI:∀x∈(["done","parties","acts"]:List Str),59∉x.cps.toList∧x.length≤8:=by decide +kernel
theorem Yx {n:Int} (h1:1≤n):59∉(LM (toString n)).cps.toList:=by
 obtain⟨m,rfl⟩:=Th (show 0≤n by omega)
 have e:=NY m
 intro hc
 rw[e] at hc
 obtain⟨ch,hch,e2⟩:=SX.mp hc
 have:=T1 (b:=10) (by decide) (by decide) hch
 simp [EC] at this
 have h2:ch.toNat≤57:=this.2
 have e3:ch.toNat=59:=e2
 omega
theorem F9 {u:Str} (h:VR u):59∉u.cps.toList:=by
 rcases h with h | rfl
 ·exact z7 h
 ·exact(d7 _ (by simp [lits])).1
theorem lf {x:Str} (h:x∈lits):59∉x.cps.toList:=(d7 x h).1
theorem Ew.free {e:Ew} (h:e.ok):∀x∈e.ws,59∉x.cps.toList:=by
 intro x hx
 cases e with
 | lt a b=>
  simp only[Ew.ws,La,Sm,or_false] at hx
  rcases hx with rfl | rfl | rfl | rfl
  ·exact lf (by simp [lits])
  ·exact z7 h.1
  ·exact lf (by simp [lits])
  ·exact z7 h.2
 | mu l w a n r=>
  simp only[Ew.ws,La,Sm,or_false] at hx
  rcases hx with rfl | rfl | rfl | rfl | rfl | rfl | rfl | rfl
  ·exact z7 h.1
  ·exact z7 h.2.1
  ·exact lf (by simp [lits])
  ·exact z7 h.2.2.1
  ·exact lf (by simp [lits])
  ·exact Yx h.2.2.2.1
  ·exact lf (by simp [lits])
  ·exact z7 h.2.2.2.2.2
 | my l w a=>
  simp only[Ew.ws,La,Sm,or_false] at hx
  rcases hx with rfl | rfl | rfl | rfl
  ·exact z7 h.1
  ·exact F9 h.2.1
  ·exact lf (by simp [lits])
  ·exact z7 h.2.2
 | bn l w a r=>
  simp only[Ew.ws,La,Sm,or_false] at hx
  rcases hx with rfl | rfl | rfl | rfl | rfl | rfl | rfl
  ·exact z7 h.1
  ·exact F9 h.2.1
  ·exact lf (by simp [lits])
  ·exact lf (by simp [lits])
  ·exact z7 h.2.2.1
  ·exact lf (by simp [lits])
  ·exact z7 h.2.2.2
 | pw l w a r=>
  simp only[Ew.ws,La,Sm,or_false] at hx
  rcases hx with rfl | rfl | rfl | rfl | rfl | rfl
  ·exact z7 h.1
  ·exact F9 h.2.1
  ·exact lf (by simp [lits])
  ·exact z7 h.2.2.1
  ·exact lf (by simp [lits])
  ·exact z7 h.2.2.2
 | dn=>
  simp only[Ew.ws,La,Sm,or_false] at hx
  rw[hx];exact(iI _ (by simp)).1
 | pt n rs=>
  cases rs with
  | nil=>
   simp only[Ew.ws,La,Sm,or_false] at hx
   rcases hx with rfl | rfl
   ·exact lf (by simp [lits])
   ·exact z7 h.1
  | cons y rs=>
   simp only[Ew.ws] at hx
   (rcases La.mp hx with rfl | hx)
   ·exact lf (by simp [lits])
   (rcases La.mp hx with rfl | hx)
   ·exact z7 h.1
   (rcases La.mp hx with rfl | hx)
   ·exact lf (by simp [lits])
   ·exact z7 (h.2.1 x hx)
structure Jy (x:Str):Prop where
 fr:59∉x.cps.toList
 sh:x.length≤180
theorem Zf {ws:List Str} (h:∀x∈ws,x.length≤8) (hl:ws.length≤20):(fe ws).length≤180:=by
 have h1:(fe ws).length≤Jz ws:=lO ws
 have h2:=uO (n:=8) (ws:=ws) h
 omega
theorem Ew.C2 {e:Ew} (h:e.ok):Jy e.row:=by
 refine⟨fz (Ew.free h),?_⟩
 have h1:e.row.length≤Jz e.ws:=lO e.ws
 by_cases q:e.ws.length≤8
 ·have h2:=uO (n:=20) (ws:=e.ws) λx hx=>(Ew.wk h x hx).2
  omega
 cases e with
 | pt n rs=>
  cases rs with
  | nil=>exact absurd (by simp [Ew.ws]) q
  | cons y rs=>
   refine Zf (ws:=(Ew.pt n (y :: rs)).ws) (λx hx=>?_) ?_
   ·simp only[Ew.ws] at hx
    (rcases La.mp hx with rfl | hx)
    ·exact(d7 _ (by simp [lits])).2
    (rcases La.mp hx with rfl | hx)
    ·exact cx h.1
    (rcases La.mp hx with rfl | hx)
    ·exact(d7 _ (by simp [lits])).2
    ·exact cx (h.2.1 x hx)
   ·have:=h.2.2
    simp only[Ew.ws,LQ] at this ⊢
    omega
 | dn=>exact absurd (by simp [Ew.ws]) q
 | lt a b=>exact absurd (by simp [Ew.ws]) q
 | mu l w a n r=>exact absurd (by simp [Ew.ws]) q
 | my l w a=>exact absurd (by simp [Ew.ws]) q
 | bn l w a r=>exact absurd (by simp [Ew.ws]) q
 | pw l w a r=>exact absurd (by simp [Ew.ws]) q
theorem XN {x:Str} {ns:List Str} (hx:x∈(["done","parties","acts"]:List Str)) (hn:∀y∈ns,zZ y=true) (hl:ns.length≤6):Jy (fe (x :: ns)):=by
 have key:∀y∈x :: ns,59∉y.cps.toList∧y.length≤8:=λy hy=>by
  (rcases La.mp hy with rfl | hy)
  ·exact iI _ hx
  ·exact⟨z7 (hn y hy),cx (hn y hy)⟩
 exact⟨fz λy hy=>(key y hy).1,Zf (λy hy=>(key y hy).2) (by simp only[LQ];omega)⟩
theorem DZ {mn:Str × Str} (h:rS mn):Jy (cX mn):=by
 have key:∀y∈[mn.1,mn.2],59∉y.cps.toList∧y.length≤8:=λy hy=>by
  simp only[La,Sm,or_false] at hy
  rcases hy with rfl | rfl
  ·have:=aC _ h.1;exact⟨this.2.1,by omega⟩
  ·exact⟨z7 h.2,cx h.2⟩
 exact⟨fz λy hy=>(key y hy).1,Zf (λy hy=>(key y hy).2) (by simp)⟩
theorem Kv {ps as:List Str} {zb:List (Str × Str)} {evs:List Ew} (h:Ue ps as zb) (he:∀e∈evs,e.ok):∀x∈rowsOf ps as zb evs,Jy x:=by
 intro x hx
 unfold rowsOf at hx
 (rcases La.mp hx with rfl | hx)
 ·exact XN (by simp) h.pn (by have:=h.p2;omega)
 (rcases La.mp hx with rfl | hx)
 ·exact XN (by simp) h.an (by have:=h.a2;omega)
 (rcases LU.mp hx with hx | hx)
 ·obtain⟨mn,hmn,rfl⟩:=SX.mp hx
  exact DZ (h.rn mn hmn)
 ·obtain⟨e,hee,rfl⟩:=SX.mp hx
  exact Ew.C2 (he e hee)
theorem Qm {rows:List Str} (hF:∀x∈rows,Jy x) (hl:rows.length≤150):(rows.map (·.length)).sum + rows.length * (LM "; ").length≤30000:=by
 have h1:=Y4 (n:=180) (xs:=rows) λx hx=>(hF x hx).sh
 have h2:(LM "; ").length=2:=by decide +kernel
 rw[h2]
 omega
theorem pI {P:LH} {w:Sz} {K:Ls} {mg:Str→Option Lo} {base:Heap} {k:Nat} {f:Addr} {fd:LG} {ps:List Str} {sp sp':Sp} (F:ze P w K mg base zC k f fd ps sp) (h:∀vs H Q E,sp' vs H Q E→sp vs H Q E):ze P w K mg base zC k f fd ps sp':=F.imp h
def eY (t:z4):Sp:=λvs H Q _=>∃(rows:List Str) (ps as:List Str) (zb:List (Str × Str)) (rw:Rw),vs=[.str (Tr (LM "; ") rows)]∧rows≠[]∧(∀x∈rows,Jy x)∧rows.length≤150∧g8 rows=.ok (ps,as,zb,rw)∧∀p H',zf H H'→vp t H' p ps as zb rw→Q (.ref p) H'
theorem FG {t:z4} {vs:List V} {H:Hp} {Q:VK} {E:XK} (h:eY t vs H Q E):YA t vs H Q E:=by
 obtain⟨rows,ps,as,zb,rw,rfl,hne,hF,hl,hr,k⟩:=h
 have hsp:TJ (Tr (LM "; ") rows) (LM "; ")=rows:=Vo hne λx hx=>(hF x hx).fr
 have h1:=Qm hF hl
 have h2:=Qf (LM "; ") rows
 refine⟨_,rfl,by omega,by rw[hsp];exact⟨by omega,λx hx=>S1 (hF x hx).sh (by decide)⟩,λn e=>?_,λps' as' rms' rw' p H' e s hA=>?_⟩
 ·rw[hsp,hr] at e
  cases e
 ·rw[hsp,hr] at e
  cases e
  exact k p H' s hA
theorem FY {t:z4} {rows ps as:List Str} {zb:List (Str × Str)} {rw:Rw} {H:Hp} {Q:VK} {E:XK} (hne:rows≠[]) (hF:∀x∈rows,Jy x) (hl:rows.length≤150) (hr:g8 rows=.ok (ps,as,zb,rw)) (k:∀p H',zf H H'→vp t H' p ps as zb rw→Q (.ref p) H'):eY t [.str (Tr (LM "; ") rows)] H Q E:=⟨rows,ps,as,zb,rw,rfl,hne,hF,hl,hr,k⟩
section
variable {P:LH} {w:Sz} {K:Ls} {mg:Str→Option Lo} {base:Heap} {t:z4}
noncomputable def uo (pq ka ma:Addr):List (Str × V):=[("pact",.ref pq),("kinds",.ref ka),("meanings",.ref ma)]
theorem C4:¬(("pact" : Str) = "kinds"):=by decide +kernel
theorem C5:¬(("pact" : Str) = "meanings"):=by decide +kernel
theorem C6:¬(("kinds" : Str) = "meanings"):=by decide +kernel
theorem Du (pq ka ma:Addr):zY "meanings" (.ref ma) (zY "kinds" (.ref ka) (zY "pact" (.ref pq) []))=uo pq ka ma:=by
 simp only[zY,uo,if_neg C4,if_neg C5,if_neg C6]
theorem Dr (pq ka ma k2:Addr):zY "kinds" (.ref k2) (uo pq ka ma)=uo pq k2 ma:=by
 simp only[zY,uo,if_neg C4,if_true]
theorem Dl (pq ka ma m2:Addr):zY "meanings" (.ref m2) (uo pq ka ma)=uo pq ka m2:=by
 simp only[zY,uo,if_neg C5,if_neg C6,if_true]
theorem bE {a b c:Addr} {m:Str} (h1:¬m = "pact") (h2:¬m = "kinds") (h3:¬m = "meanings"):(uo a b c).lookup m=none:=(zt h1).trans ((zt h2).trans ((zt h3).trans rfl))
theorem lS {a b c:Addr}:(uo a b c).lookup ("know" : Str)=none:=bE (by decide +kernel) (by decide +kernel) (by decide +kernel)
theorem ng {a b c:Addr}:(uo a b c).lookup ("meant" : Str)=none:=bE (by decide +kernel) (by decide +kernel) (by decide +kernel)
theorem Yz {a b c:Addr}:(uo a b c).lookup ("room_for" : Str)=none:=bE (by decide +kernel) (by decide +kernel) (by decide +kernel)
inductive An where
 | told (b:Str)
 | name
 | calm
noncomputable def mA (kd:Str→Str) (o:Ow) (ws:List Str) (z:Str):An:=match lk o z with
 | none=>.name
 | some b=>if kd b∈ws then .told b else .name
noncomputable def fA (kd:Str→Str):An→An
 | .told b=>if kd b = "calm" then .calm else .told b
 | r=>r
noncomputable def bQ (kd:Str→Str) (o:Ow):Nat→Str→An
 | 0,z=>if z = "any" then .told "any" else mA kd o ["party"] z
 | 1,z=>mA kd o ["act"] z
 | 2,z=>mA kd o zF z
 | _,z=>fA kd (mA kd o zF z)
def Mv (t:z4) (z:Str) (H:Hp):XK:=λ_ _ _=>True
def MP (t:z4) (z:Str) (H:Hp):XK:=λ_ _ _=>True
theorem Mv.back {t:z4} {z:Str} {H0 H:Hp} {c:Lo} {o:Option Addr} {H':Hp} (h:Mv t z H c o H') (s:zf H0 H):Mv t z H0 c o H':=trivial
theorem MP.back {t:z4} {z:Str} {H0 H:Hp} {c:Lo} {o:Option Addr} {H':Hp} (h:MP t z H c o H') (s:zf H0 H):MP t z H0 c o H':=trivial
def VO (t:z4) (z:Str) (H:Hp) (Q:VK) (E:XK):An→Prop
 | .told b=>∀H',zf H H'→Q (.str b) H'
 | .name=>∀c o H',Mv t z H c o H'→False
 | .calm=>∀c o H',MP t z H c o H'→False
theorem VO.same {t:z4} {z:Str} {H H1:Hp} {Q:VK} {E:XK} {r:An} (h:VO t z H Q E r) (s:zf H H1):VO t z H1 Q E r:=by
 cases r with
 | told b=>exact λH' s'=>h H' (s.trans s')
 | name=>exact λc o H' e=>h c o H' (e.back s)
 | calm=>exact λc o H' e=>h c o H' (e.back s)
def ju (t:z4) (H:Hp) (q dx pq ka ma:Addr) (ks ms:Ow):Prop:=H q=some (.ins t.zV dx (uo pq ka ma))∧H ka=some (.dK (dS ks))∧H ma=some (.dK (dS ms))
theorem ju.same {t:z4} {H H':Hp} {q dx pq ka ma:Addr} {ks ms:Ow} (h:ju t H q dx pq ka ma ks ms) (s:zf H H'):ju t H' q dx pq ka ma ks ms:=⟨s _ _ h.1,s _ _ h.2.1,s _ _ h.2.2⟩
def Ms (a b:Addr) (H H':Hp):Prop:=∀x,x≠a→x≠b→H' x=H x
def Xv (t:z4):Sp:=λvs H Q _=>∃(q dx pq ka ma:Addr) (ks ms:Ow) (n k m:Str),vs=[.ref q,.str n,.str k,.str m]∧ju t H q dx pq ka ma ks ms∧ka≠ma∧ks.length≤200∧ms.length≤200∧∀H',Ms ka ma H H'→ju t H' q dx pq ka ma (pu ks n k) (pu ms n m)→Q .non H'
def Kb (K:Ls) (t:z4):Sp:=λvs H Q E=>∃(kd:Str→Str) (q dx pq ka ma tp:Addr) (o:Ow) (z:Str) (ws:List Str),vs=[.ref q,.str z,.ref tp]∧ju t H q dx pq ka ma (mv kd o) o∧jt K H tp (ws.map V.str)∧VO t z H Q E (mA kd o ws z)
def eW (t:z4) (way:Nat):Sp:=λvs H Q E=>∃(kd:Str→Str) (q dx pq ka ma:Addr) (o:Ow) (z:Str),vs=[.ref q,.str z]∧ju t H q dx pq ka ma (mv kd o) o∧VO t z H Q E (bQ kd o way z)
theorem xY:∀ws:List Str,(ws.map V.str).all bI=true
 | []=>rfl
 | x :: ws=>by rw[LR,Ng,xY ws];rfl
theorem QV:∀ws:List Str,ZS .non (ws.map V.str)=false
 | []=>rfl
 | x :: ws=>by
  have:=QV ws
  unfold ZS at *
  rw[LR,Nh,this]
  rfl
section
variable {H:Hp} {q dx pq ka ma:Addr} {ks ms:Ow}
theorem ju.f1 (T:Txt K mg t) (h:ju t H q dx pq ka ma ks ms):iB K H (.ref q) "pact" (.ref pq):=⟨q,_,dx,_,rfl,h.1,T.z9,T.fF,zS⟩
theorem ju.f2 (T:Txt K mg t) (h:ju t H q dx pq ka ma ks ms):iB K H (.ref q) "kinds" (.ref ka):=⟨q,_,dx,_,rfl,h.1,T.z9,T.wX,(zt λq=>C4 (Tu q)).trans zS⟩
theorem ju.f3 (T:Txt K mg t) (h:ju t H q dx pq ka ma ks ms):iB K H (.ref q) "meanings" (.ref ma):=⟨q,_,dx,_,rfl,h.1,T.z9,T.x8,(zt λq=>C5 (Tu q)).trans ((zt λq=>C6 (Tu q)).trans zS)⟩
end
theorem J4 (_:Txt K mg t) {z:Str} {H:Hp} (k:∀c o H',Mv t z H c o H'→False):False:=k .none none H trivial
theorem FW (_:Txt K mg t) {z:Str} {H:Hp} (k:∀c o H',MP t z H c o H'→False):False:=k .none none H trivial
theorem iJ:zu ["self","name","kind","meaning"] ["self","name","kind","meaning"] (zy cP):=by walk_at "sc"
theorem fR (T:Txt K mg t):ze P w K mg base zC 1 t.gr t.dF ["self","name","kind","meaning"] (Xv t):=by
 refine T.mr.fn.ok iJ (by walk_at "ln") ?_;walk_at "hd"
 obtain⟨q,dx,pq,ka,ma,ks,ms,n,kk,m,rfl,hS,hne,l1,l2,k⟩:=h
 refine⟨_,(zq (kx (pv 2) (ve (zT (K:=K) rfl (pv 0) rfl) (pv 1) (je (qo hr))))
   (zk (kx (pv 3) (ve (zT (K:=K) rfl (pv 0) rfl) (pv 1) (je (qo hr)))))),?_⟩
 walk_at "rd"
 refine⟨_,hS.f2 T,?_⟩
 walk_at "rd"
 refine⟨ka,_,.inr n,rfl,rfl,hS.2.1,zg (by rw[vI];omega),?_⟩
 intro H1 k1 e1
 rw[gB] at e1
 have hqk:q≠ka:=λz=>by have:=hS.1;rw[z,hS.2.1] at this;cases this
 have hqm:q≠ma:=λz=>by have:=hS.1;rw[z,hS.2.2] at this;cases this
 have hS1:ju t H1 q dx pq ka ma (pu ks n kk) ms:=⟨k1.look hS.1 hqk,e1,k1.look hS.2.2 (SF hne)⟩
 walk_at "rd"
 refine⟨_,hS1.f3 T,?_⟩
 walk_at "rd"
 refine⟨ma,_,.inr n,rfl,rfl,hS1.2.2,zg (by rw[vI];omega),?_⟩
 intro H2 k2 e2
 rw[gB] at e2
 exact k H2 (λx h1 h2=>(k2 x h2).trans (k1 x h1)) ⟨k2.look hS1.1 hqm,k2.look hS1.2.1 hne,e2⟩
theorem og:zu ["self","word","kinds"] ["self","word","kinds"] (zy f9):=by walk_at "sc"
theorem wW (T:Txt K mg t):ze P w K mg base zC 3 t.yZ t.fG ["self","word","kinds"] (Kb K t):=by
 refine T.wN.fn.ok og (by walk_at "ln") ?_;walk_at "hd"
 obtain⟨kd,q,dx,pq,ka,ma,tp,o,z,ws,rfl,hS,hT,k⟩:=h
 refine⟨_,(zq (zW (zd (p8 (K:=K) rfl) (qM Iz TK IH (W5 (qo hr)) (zT (K:=K) rfl (pv 0) rfl) (zz (pv 1) zj)) (pv 2) rfl)
    (zk (ky)) zr)
   (zk (zp (qG (qo hr) (zT (K:=K) rfl (pv 0) rfl) (pv 1) (λ_ _=>rfl))))),?_⟩
 walk_at "rd"
 refine⟨_,hS.f2 T,?_⟩
 refine⟨.inr (.inr (.inl ⟨rfl,.inl ⟨_,hS.2.1⟩⟩)),_,rfl,ka,_,.inr z,rfl,rfl,hS.2.1,?_⟩
 rw[kB,X4]
 unfold mA at k
 cases hl:lk o z with
 | none=>
  rw[hl] at k
  refine⟨_,rfl,tp,_,rfl,.inr hT,rfl,xY ws,_,rfl,?_⟩
  show if (!ZS V.non (ws.map V.str))=true then _ else _
  rw[if_pos (by rw[QV];rfl)]
  walk_at "rd"
  exact J4 T k
 | some b=>
  rw[hl] at k
  refine⟨_,rfl,tp,_,rfl,.inr hT,rfl,xY ws,_,rfl,?_⟩
  show if (!ZS (V.str (kd b)) (ws.map V.str))=true then _ else _
  rw[kN]
  by_cases hb:kd b∈ws
  ·rw[zzP hb]
   have k':VO t z H Q E (.told b):=by have:=k;dsimp only at this;rwa [if_pos hb] at this
   have hg:jC H ma (kV (.inr z)) (some (V.str b)):=by
    have:=jC.k (k:=.inr z) hS.2.2
    rw[kB,hl] at this
    exact this
   refine tG ?_
   walk_at "rd"
   refine⟨_,hS.f3 T,_,rfl,ma,_,rfl,hg,?_⟩
   exact k' H (zf.refl _)
  ·rw[decide_eq_false hb]
   have k':VO t z H Q E .name:=by have:=k;dsimp only at this;rwa [if_neg hb] at this
   refine dA ?_
   walk_at "rd"
   exact J4 T k'
theorem oh:zu ["self","word"] ["self","word"] (zy mz):=by walk_at "sc"
theorem nK (T:Txt K mg t):ze P w K mg base zC 4 t.yQ t.fH ["self","word"] (eW t 0):=by
 refine T.u9.fn.ok oh (by walk_at "ln") ?_;walk_at "hd"
 obtain⟨kd,q,dx,pq,ka,ma,o,z,rfl,hS,k⟩:=h
 have M1:qy P w K mg base zC 3 t.zV "meant" (Kb K t):=.mk' T.wJ (wW T) T.wN.bd (by decide)
 refine⟨_,(zq (zW (zd qz (pv 1) zw (zQ _))
    (zk (zp zw)) zr)
   (zk (zp (qg hr (pv 0) (zz (pv 1) (zz (qq (zz zw zj)) zj)))))),?_⟩
 walk_at "rd"
 have k:VO t z H Q E (if z = "any" then .told "any" else mA kd o ["party"] z):=k
 walk_at "x3"
 ·have e:z = "any":=V.str.inj (zzB h1)
  rw[if_pos e] at k
  walk_at "rd"
  exact k H (zf.refl _)
 ·have e:¬z = "any":=λz=>h1 (by rw[z];exact zzP rfl)
  rw[if_neg e] at k
  walk_at "rd"
  refine⟨q,_,dx,_,rfl,hS.1,T.z9,ng,_,M1,?_⟩
  walk_at "rd"
  intro tp H1 s1 htp e1
  exact⟨kd,q,dx,pq,ka,ma,tp,o,z,["party"],rfl,hS.same s1,jt.of e1,k.same s1⟩
theorem iQ:zu ["self","word"] ["self","word"] (zy cH):=by walk_at "sc"
theorem ip (T:Txt K mg t):ze P w K mg base zC 4 t.gu t.dP ["self","word"] (eW t 1):=by
 refine T.sQ.fn.ok iQ (by walk_at "ln") ?_;walk_at "hd"
 obtain⟨kd,q,dx,pq,ka,ma,o,z,rfl,hS,k⟩:=h
 have M1:qy P w K mg base zC 3 t.zV "meant" (Kb K t):=.mk' T.wJ (wW T) T.wN.bd (by decide)
 refine⟨_,(zk (zp (qg hr (pv 0) (zz (pv 1) (zz (qq (zz zw zj)) zj))))),?_⟩
 walk_at "rd"
 refine⟨q,_,dx,_,rfl,hS.1,T.z9,ng,_,M1,?_⟩
 walk_at "rd"
 intro tp H1 s1 htp e1
 exact⟨kd,q,dx,pq,ka,ma,tp,o,z,["act"],rfl,hS.same s1,jt.of e1,k.same s1⟩
theorem cC:zu ["self","word"] ["self","word"] (zy y9):=by walk_at "sc"
theorem yw (T:Txt K mg t):ze P w K mg base zC 4 t.ko t.yU ["self","word"] (eW t 2):=by
 refine T.vN.fn.ok cC (by walk_at "ln") ?_;walk_at "hd"
 obtain⟨kd,q,dx,pq,ka,ma,o,z,rfl,hS,k⟩:=h
 have M1:qy P w K mg base zC 3 t.zV "meant" (Kb K t):=.mk' T.wJ (wW T) T.wN.bd (by decide)
 refine⟨_,(zk (zp (qg hr (pv 0) (zz (pv 1) (zz (jk rfl T.XR (v:=.ref t.pE) rfl) zj))))),?_⟩
 walk_at "rd"
 refine⟨q,_,dx,_,rfl,hS.1,T.z9,ng,_,M1,?_⟩
 walk_at "rd"
 exact⟨kd,q,dx,pq,ka,ma,t.pE,o,z,zF,rfl,hS,Qe T _,k⟩
theorem ym:zu ["self","word","room"] ["self","word"] (zy y8):=by walk_at "sc"
theorem cm (T:Txt K mg t):ze P w K mg base zC 5 t.kn t.yC ["self","word"] (eW t 3):=by
 refine T.ba.fn.ok ym (by walk_at "ln") ?_;walk_at "hd"
 obtain⟨kd,q,dx,pq,ka,ma,o,z,rfl,hS,k⟩:=h
 have M1:qy P w K mg base zC 4 t.zV "room_for" (eW t 2):=.mk' T.yv (yw T) T.vN.bd (by decide)
 refine⟨_,(zq (za (i:=2) ym.nd rfl (LL rfl) (qg hr (pv 0) (zz (pv 1) zj)))
   (zq (zW (zd qz (qG (qo hr) (zT (K:=K) rfl (pv 0) rfl) (pv 1) (λ_ _=>rfl)) zw (zQ _))
    (zk (ky)) zr)
   (zk (zp (pv 2))))),?_⟩
 walk_at "rd"
 refine⟨q,_,dx,_,rfl,hS.1,T.z9,Yz,_,M1,?_⟩
 refine⟨_,rfl,kd,q,dx,pq,ka,ma,o,z,rfl,hS,?_⟩
 have k2:VO t z H Q E (fA kd (mA kd o zF z)):=k
 clear k
 show VO t z H _ _ (mA kd o zF z)
 cases hm:mA kd o zF z with
 | name=>rw[hm] at k2;exact k2
 | calm=>rw[hm] at k2;exact k2
 | told b=>
  rw[hm] at k2
  have hl:lk o z=some b:=by
   unfold mA at hm
   cases hq:lk o z with
   | none=>rw[hq] at hm;cases hm
   | some y=>
    rw[hq] at hm
    dsimp only at hm
    split at hm
    ·cases hm;rfl
    ·cases hm
  intro H1 s1
  have hS1:=hS.same s1
  have hg:jC H1 ka (kV (.inr z)) (some (V.str (kd b))):=by
   have:=jC.k (k:=.inr z) hS1.2.1
   rw[kB,X4,hl] at this
   exact this
  have k3:=k2.same s1
  have k3:VO t z H1 Q E (if kd b = "calm" then .calm else .told b):=k3
  show zU 2 (V.str b) [some (.ref q),some (.str z),none] _ _
  walk_at "rd"
  refine⟨_,hS1.f2 T,_,rfl,ka,_,rfl,hg,?_⟩
  walk_at "rd"
  walk_at "x3"
  ·have e:kd b = "calm":=V.str.inj (zzB h1)
   rw[if_pos e] at k3
   walk_at "rd"
   exact FW T k3
  ·have e:¬kd b = "calm":=λz=>h1 (by rw[z];exact zzP rfl)
   rw[if_neg e] at k3
   walk_at "rd"
   exact k3 H1 (zf.refl _)
end
theorem PN (kd:Str→Str) (o:Ow):(mv kd o).length=o.length:=Ln ..
def YM (t:z4):Sp:=λvs H Q E=>∃(kd:Str→Str) (q dx pq ka ma:Addr) (o:Ow) (n v:Str),vs=[.ref q,.str n,.str v]∧ju t H q dx pq ka ma (mv kd o) o∧ka≠ma∧o.length≤200∧(lk o v=none→∀c x H',Mv t v H c x H'→False)∧
 ∀b,lk o v=some b→∀H',Ms ka ma H H'→ju t H' q dx pq ka ma (mv kd (pu o n b)) (pu o n b)→Q .non H'
def YT (t:z4):Sp:=λvs H Q _=>∃(q dx pq:Addr) (ps as:List Str) (zb:List (Str × Str)) (rw:Rw),vs=[.ref q,.ref pq]∧H q=some (.ins t.zV dx [])∧vp t H pq ps as zb rw∧ZR ps as zb∧∀H' ka ma,Off q H H'→ju t H' q dx pq ka ma (j5 ps as zb) (wD (j5 ps as zb))→H ka=none→H ma=none→ka≠ma→Q .non H'
def Be (t:z4):Sp:=λvs H Q _=>∃(q dx pq ka ma:Addr) (ks ms:Ow) (ps as:List Str) (zb:List (Str × Str)) (rw:Rw),vs=[.ref q]∧ju t H q dx pq ka ma ks ms∧vp t H pq ps as zb rw∧ZR ps as zb∧∀q' dx' ka' ma' H',zf H H'→ju t H' q' dx' pq ka' ma' ks ms→H q'=none→H ka'=none→H ma'=none→ka'≠ma'→Q (.ref q') H'
theorem vp.same {t:z4} {H H':Hp} {p:Addr} {ps as:List Str} {zb:List (Str × Str)} {rw:Rw} (h:vp t H p ps as zb rw) (s:zf H H'):vp t H' p ps as zb rw:=by
 obtain⟨dx,a,b,c,x,vs,e1,e2,e3,e4,h5,h6⟩:=h
 exact⟨dx,a,b,c,x,vs,s _ _ e1,s _ _ e2,s _ _ e3,s _ _ e4,Paired.imp' (λ_ _ z=>z.same s) h5,h6.move (Fm.of s) λ_ h=>.inl h⟩
theorem tY (o:Ow) (p:Str × Str):wD (o ++ [p])=wD o ++ [(p.1,p.1)]:=by unfold wD;rw[LY];rfl
theorem RJ {a b c:Addr} {x:V}:(Bj a b c x).lookup ("parties" : Str)=some (.ref a):=zS
theorem RX {a b c:Addr} {x:V}:(Bj a b c x).lookup ("acts" : Str)=some (.ref b):=(zt λq=>a1 (Tu q)).trans zS
theorem UK {a b c:Addr} {x:V}:(Bj a b c x).lookup ("rooms" : Str)=some (.ref c):=(zt λq=>a2 (Tu q)).trans ((zt λq=>a4 (Tu q)).trans zS)
theorem Off.MO {q ka ma:Addr} {H H1 H2:Hp} (h:Off q H H1) (k:Ms ka ma H1 H2) (n1:H ka=none) (n2:H ma=none):Off q H H2:=λb o hb e=>by
 rw[k b (zh e n1) (zh e n2)]
 exact h b o hb e
section
variable {P:LH} {w:Sz} {K:Ls} {mg:Str→Option Lo} {base:Heap} {t:z4}
theorem iZ:zu ["self","name","value"] ["self","name","value"] (zy cG):=by walk_at "sc"
theorem ib (T:Txt K mg t):ze P w K mg base zC 3 t.gm t.dB ["self","name","value"] (YM t):=by
 refine T.sZ.fn.ok iZ (by walk_at "ln") ?_;walk_at "hd"
 obtain⟨kd,q,dx,pq,ka,ma,o,n,v,rfl,hS,hne,hl,kE,kQ⟩:=h
 have M1:qy P w K mg base zC 2 t.zV "know" (Xv t):=.mk' T.fB (fR T) T.mr.bd (by decide)
 refine⟨_,(zq (zW (Zh (eh (qo hr) (pv 2) (zT (K:=K) rfl (pv 0) rfl)))
    (zk (ky)) zr)
   (zk (zO (qg hr (pv 0) (zz (pv 1) (zz (qG (qo hr) (zT (K:=K) rfl (pv 0) rfl) (pv 2) (λ_ _=>rfl)) (zz (qG (qo hr) (zT (K:=K) rfl (pv 0) rfl) (pv 2) (λ_ _=>rfl)) zj))))))),?_⟩
 walk_at "rd"
 have hg:jC H ka (kV (.inr v)) (((lk o v).map kd).map V.str):=by
  have:=jC.k (k:=.inr v) hS.2.1
  rw[kB,X4] at this
  exact this
 refine⟨_,hS.f2 T,ka,_,rfl,hg,?_⟩
 walk_at "rd"
 cases hv:lk o v with
 | none=>
  refine dA ?_
  walk_at "rd"
  exact J4 T (kE hv)
 | some b=>
  rw[hv] at hg
  have hg2:jC H ma (kV (.inr v)) (some (V.str b)):=by
   have:=jC.k (k:=.inr v) hS.2.2
   rw[kB,hv] at this
   exact this
  refine tG ?_
  walk_at "rd"
  refine⟨q,_,dx,_,rfl,hS.1,T.z9,lS,_,M1,?_⟩
  walk_at "rd"
  refine⟨_,hS.f2 T,_,rfl,ka,_,rfl,hg,?_⟩
  walk_at "rd"
  refine⟨_,hS.f3 T,_,rfl,ma,_,rfl,hg2,?_⟩
  refine⟨q,dx,pq,ka,ma,_,_,n,kd b,b,rfl,hS,hne,by rw[PN];exact hl,hl,λH' k' hS'=>?_⟩
  rw[Dh] at hS'
  exact kQ b hv H' k' hS'
theorem xb:zu ["self","pact","name","mark"] ["self","pact"] (zy cB):=by walk_at "sc"
theorem fU (T:Txt K mg t):ze P w K mg base zC 2 t.xI t.vY ["self","pact"] (YT t):=by
 refine T.md.fn.ok xb (by walk_at "ln") ?_;walk_at "hd"
 obtain⟨q,dx,pq,ps,as,zb,rw',rfl,eq,hA,hd,k⟩:=h
 have M1:qy P w K mg base zC 1 t.zV "know" (Xv t):=.mk' T.fB (fR T) T.mr.bd (by decide)
 refine⟨_,(zq (qT (pv 0) (pv 1) rfl)
   (zq (qT (pv 0) cw rfl)
   (zq (qT (pv 0) cw rfl)
   (zq (jy Su rfl (qp (K:=K) rfl (zT (K:=K) rfl (pv 1) rfl)) (zM (i:=2) xb.nd rfl (LL rfl))
    (zk (zO (qg hr (pv 0) (zz (pv 2) (zz zw (zz (pv 2) zj)))))))
   (zq (jy Su rfl (qp (K:=K) rfl (zT (K:=K) rfl (pv 1) rfl)) (zM (i:=2) xb.nd rfl (LL rfl))
    (zk (zO (qg hr (pv 0) (zz (pv 2) (zz zw (zz (pv 2) zj)))))))
   (zk (jy Su rfl (qp (K:=K) rfl (zT (K:=K) rfl (pv 1) rfl)) (vB (K:=K) rfl rfl (qu (zM (i:=3) xb.nd rfl (LL rfl)) (qu (zM (i:=2) xb.nd rfl (LL rfl)) vP)))
    (zk (zO (qg hr (pv 0) (zz (pv 2) (zz (pv 3) (zz (pv 2) zj))))))))))))),?_⟩
 have p2:=hd.p2;have a2:=hd.a2;have r2:=hd.r2
 obtain⟨dxp,lp,la,lr,xw,vs,epq,elp,ela,elr,hR,_⟩:=hA
 have hvl:vs.length=zb.length:=SW hR
 have nq:∀{b:Addr} {o:HO},H b=some o→(∀C d f,o≠.ins C d f)→b≠q:=λ{b o} e h z=>by rw[z,eq] at e;exact h _ _ _ (L8 e).symm
 have npq:pq≠q:=λz=>by
  rw[z,eq] at epq
  obtain⟨_,_,h3⟩:=HO.ins.inj (L8 epq)
  cases h3
 refine⟨_,rfl,_,rfl,q,_,dx,[],rfl,eq,T.z9,T.fF,(by show 0 < 1000;decide),?_⟩
 have o1:Off q H (upd H q (.ins t.zV dx (zY "pact" (.ref pq) []))):=xp
 generalize hH1:upd H q (.ins t.zV dx (zY "pact" (.ref pq) []))=H1 at o1 ⊢
 have e1:H1 q=some (.ins t.zV dx (zY "pact" (.ref pq) [])):=by rw[←hH1];exact zm
 intro ka H2 s2 hka eka
 have hka0:H ka=none:=pf o1 e1 hka
 refine⟨_,rfl,q,_,dx,_,rfl,s2 _ _ e1,T.z9,T.wX,(by show 1 < 1000;decide),?_⟩
 have o3:Off q H2 (upd H2 q (.ins t.zV dx (zY "kinds" (.ref ka) (zY "pact" (.ref pq) [])))):=xp
 generalize hH3:upd H2 q (.ins t.zV dx (zY "kinds" (.ref ka) (zY "pact" (.ref pq) [])))=H3 at o3 ⊢
 have e3:H3 q=some (.ins t.zV dx (zY "kinds" (.ref ka) (zY "pact" (.ref pq) []))):=by rw[←hH3];exact zm
 have hkq:ka≠q:=λz=>by rw[z,e1] at hka;cases hka
 have eka3:=o3 _ _ hkq eka
 intro ma H4 s4 hma ema
 have o13:Off q H H3:=λb o hb e=>o3 b o hb (s2 _ _ (o1 b o hb e))
 have hma0:H ma=none:=pf o13 e3 hma
 have hkm:ka≠ma:=zh eka3 hma
 refine⟨_,rfl,q,_,dx,_,rfl,s4 _ _ e3,T.z9,T.x8,(by show 2 < 1000;decide),?_⟩
 rw[Du]
 have o5:Off q H4 (upd H4 q (.ins t.zV dx (uo pq ka ma))):=xp
 generalize hH5:upd H4 q (.ins t.zV dx (uo pq ka ma))=H5 at o5 ⊢
 have e5:H5 q=some (.ins t.zV dx (uo pq ka ma)):=by rw[←hH5];exact zm
 have hmq:ma≠q:=λz=>by rw[z,e3] at hma;cases hma
 have hS5:ju t H5 q dx pq ka ma [] []:=⟨e5,o5 _ _ hkq (s4 _ _ eka3),o5 _ _ hmq ema⟩
 have o15:Off q H H5:=λb o hb e=>o5 b o hb (s4 _ _ (o13 b o hb e))
 clear hH1 hH3 hH5 o1 o3 o5 o13 e1 e3 e5 eka eka3 ema s2 s4 hka hma hkq hmq
 have ae:∀{H':Hp},Off q H H'→iB K H' (.ref pq) "parties" (.ref lp):=λo=>⟨pq,_,dxp,_,rfl,o _ _ npq epq,T.vV,T.g7,RJ⟩
 have Mg:∀{H':Hp},Off q H H'→iB K H' (.ref pq) "acts" (.ref la):=λo=>⟨pq,_,dxp,_,rfl,o _ _ npq epq,T.vV,T.cj,RX⟩
 have fl3:∀{H':Hp},Off q H H'→iB K H' (.ref pq) "rooms" (.ref lr):=λo=>⟨pq,_,dxp,_,rfl,o _ _ npq epq,T.vV,T.yV,UK⟩
 have nlp:lp≠q:=nq elp (λ_ _ _ z=>by cases z)
 have nla:la≠q:=nq ela (λ_ _ _ z=>by cases z)
 have nlr:lr≠q:=nq elr (λ_ _ _ z=>by cases z)
 refine⟨_,rfl,_,ae o15,lp,rfl,⟨_,zK.of (o15 _ _ nlp elp)⟩,?_⟩
 let Iv:xn:=λi σ H'=>(∃v2:Option V,σ=[some (.ref q),some (.ref pq),v2,none]∧Off q H H'∧ju t H' q dx pq ka ma (Zp [] ((ps.take i).map λn=>(n,("party" : Str)))) (Zp [] (wD ((ps.take i).map λn=>(n,("party" : Str))))))∨False
 refine xg (K:=K) (a:=lp) (xs:=ps.map V.str) Iv
  (.inl ⟨none,rfl,o15,hS5⟩) (λi σ H' _ q=>(by obtain⟨_,_,z,_⟩:=q.resolve_right (λz=>z);exact zK.of (z _ _ nlp elp))) ?_ ?_
 ·intro i y σ H6 hi q6
  obtain⟨v2,rfl,o6,hS6⟩:=q6.resolve_right λz=>z
  clear q6
  obtain⟨n,hn,rfl⟩:=yc hi
  have hl1:=kg ((ps.take i).map λn=>(n,("party" : Str))) []
  have hl2:=kg (wD ((ps.take i).map λn=>(n,("party" : Str)))) []
  rw[show (wD ((ps.take i).map λn=>(n,("party" : Str)))).length=((ps.take i).map λn=>(n,("party" : Str))).length from Ln ..,Ln,L3] at hl2
  rw[Ln,L3] at hl1
  simp only[LO] at hl1 hl2
  walk_at "rd"
  refine⟨q,_,dx,_,rfl,hS6.1,T.z9,lS,_,M1,?_⟩
  walk_at "rd"
  refine⟨q,dx,pq,ka,ma,_,_,n,"party",n,rfl,hS6,hkm,by omega,by omega,λH7 k7 hS7=>?_⟩
  refine .inl ⟨_,rfl,o6.MO k7 hka0 hma0,?_⟩
  rw[take_snoc hn,LY,LR,S7,tY,xh,xh]
  exact hS7
 intro σ H6 q6
 obtain⟨v2,rfl,o6,hS6⟩:=q6.resolve_right λz=>z
 clear q6
 rw[Ln,SE] at hS6
 walk_at "rd"
 refine⟨_,Mg o6,la,rfl,⟨_,zK.of (o6 _ _ nla ela)⟩,?_⟩
 let Iv:xn:=λi σ H'=>(∃v2:Option V,σ=[some (.ref q),some (.ref pq),v2,none]∧Off q H H'∧ju t H' q dx pq ka ma (Zp [] (ps.map (λn=>(n,("party" : Str))) ++ (as.take i).map λn=>(n,("act" : Str)))) (Zp [] (wD (ps.map (λn=>(n,("party" : Str))) ++ (as.take i).map λn=>(n,("act" : Str))))))∨False
 refine xg (K:=K) (a:=la) (xs:=as.map V.str) Iv
  (.inl ⟨v2,rfl,o6,by rw[NL,S7,Sd];exact hS6⟩) (λi σ H' _ q=>(by obtain⟨_,_,z,_⟩:=q.resolve_right (λz=>z);exact zK.of (z _ _ nla ela))) ?_ ?_
 ·intro i y σ H6 hi q6
  obtain⟨v2,rfl,o6,hS6⟩:=q6.resolve_right λz=>z
  clear q6
  obtain⟨n,hn,rfl⟩:=yc hi
  have hl1:=kg (ps.map (λn=>(n,("party" : Str))) ++ (as.take i).map λn=>(n,("act" : Str))) []
  have hl2:=kg (wD (ps.map (λn=>(n,("party" : Str))) ++ (as.take i).map λn=>(n,("act" : Str)))) []
  rw[show (wD (ps.map (λn=>(n,("party" : Str))) ++ (as.take i).map λn=>(n,("act" : Str)))).length=(ps.map (λn=>(n,("party" : Str))) ++ (as.take i).map λn=>(n,("act" : Str))).length from Ln ..,Li,Ln,Ln,L3] at hl2
  rw[Li,Ln,Ln,L3] at hl1
  simp only[LO] at hl1 hl2
  walk_at "rd"
  refine⟨q,_,dx,_,rfl,hS6.1,T.z9,lS,_,M1,?_⟩
  walk_at "rd"
  refine⟨q,dx,pq,ka,ma,_,_,n,"act",n,rfl,hS6,hkm,by omega,by omega,λH7 k7 hS7=>?_⟩
  refine .inl ⟨_,rfl,o6.MO k7 hka0 hma0,?_⟩
  rw[take_snoc hn,LY,LR,S7,←SY,tY,xh,xh]
  exact hS7
 intro σ H6 q6
 obtain⟨v2,rfl,o6,hS6⟩:=q6.resolve_right λz=>z
 clear q6
 rw[Ln,SE] at hS6
 walk_at "rd"
 refine⟨_,fl3 o6,lr,rfl,⟨_,zK.of (o6 _ _ nlr elr)⟩,?_⟩
 let Iv:xn:=λi σ H'=>(∃v2 v3:Option V,σ=[some (.ref q),some (.ref pq),v2,v3]∧Off q H H'∧ju t H' q dx pq ka ma (Zp [] (ps.map (λn=>(n,("party" : Str))) ++ as.map (λn=>(n,("act" : Str))) ++ (zb.take i).map λmn=>(mn.2,mn.1))) (Zp [] (wD (ps.map (λn=>(n,("party" : Str))) ++ as.map (λn=>(n,("act" : Str))) ++ (zb.take i).map λmn=>(mn.2,mn.1)))))∨False
 refine xg (K:=K) (a:=lr) (xs:=vs) Iv
  (.inl ⟨v2,none,rfl,o6,by rw[NL,S7,Sd];exact hS6⟩) (λi σ H' _ q=>(by obtain⟨_,_,_,z,_⟩:=q.resolve_right (λz=>z);exact zK.of (z _ _ nlr elr))) ?_ ?_
 ·intro i y σ H6 hi q6
  obtain⟨v2,v3,rfl,o6,hS6⟩:=q6.resolve_right λz=>z
  clear q6
  obtain⟨mn,hmn,r,rfl,er⟩:=Paired.a8 hR hi
  have er6:=o6 _ _ (nq er (λ_ _ _ z=>by cases z)) er
  have hl1:=kg (ps.map (λn=>(n,("party" : Str))) ++ as.map (λn=>(n,("act" : Str))) ++ (zb.take i).map λmn=>(mn.2,mn.1)) []
  have hl2:=kg (wD (ps.map (λn=>(n,("party" : Str))) ++ as.map (λn=>(n,("act" : Str))) ++ (zb.take i).map λmn=>(mn.2,mn.1))) []
  rw[show (wD (ps.map (λn=>(n,("party" : Str))) ++ as.map (λn=>(n,("act" : Str))) ++ (zb.take i).map λmn=>(mn.2,mn.1))).length=(ps.map (λn=>(n,("party" : Str))) ++ as.map (λn=>(n,("act" : Str))) ++ (zb.take i).map λmn=>(mn.2,mn.1)).length from Ln ..,Li,Li,Ln,Ln,Ln,L3] at hl2
  rw[Li,Li,Ln,Ln,Ln,L3] at hl1
  simp only[LO] at hl1 hl2
  refine⟨r,_,rfl,jt.of er6,rfl,_,_,rfl,_,_,rfl,rfl,?_⟩
  walk_at "rd"
  refine⟨q,_,dx,_,rfl,hS6.1,T.z9,lS,_,M1,?_⟩
  walk_at "rd"
  refine⟨q,dx,pq,ka,ma,_,_,mn.2,mn.1,mn.2,rfl,hS6,hkm,by omega,by omega,λH7 k7 hS7=>?_⟩
  refine .inl ⟨_,_,rfl,o6.MO k7 hka0 hma0,?_⟩
  rw[take_snoc hmn,LY,LR,S7,←SY,tY,xh,xh]
  exact hS7
 intro σ H6 q6
 obtain⟨v2,v3,rfl,o6,hS6⟩:=q6.resolve_right λz=>z
 clear q6
 rw[hvl,SE] at hS6
 have g1:=cJ (j5 ps as zb) [] (by rw[Sr,yN];exact hd.nd)
 have g2:=cJ (wD (j5 ps as zb)) [] (by rw[Sr,dE,yN];exact hd.nd)
 rw[Sr] at g1 g2
 have hS7:ju t H6 q dx pq ka ma (Zp [] (j5 ps as zb)) (Zp [] (wD (j5 ps as zb))):=hS6
 rw[g1,g2] at hS7
 exact k H6 ka ma o6 hS7 hka0 hma0 hkm
theorem bq:zu ["self","scope"] ["self"] (zy pB):=by walk_at "sc"
theorem lJ (T:Txt K mg t):ze P w K mg base zC 4 t.wg t.bG ["self"] (Be t):=by
 have M_Scope_init:=@ze.mono P w K mg base _ _ 2 _ _ _ _ (fU T) (by decide)
 refine T.dZ.fn.ok bq (by walk_at "ln") ?_;walk_at "hd"
 obtain⟨q,dx,pq,ka,ma,ks,ms,ps,as,zb,rw',rfl,hS,hA,hd,k⟩:=h
 refine⟨_,(zq (za (i:=1) bq.nd rfl (LL rfl) (qH T.QQ M_Scope_init hr rfl T.X6 T.md.bd .nil zJ (zz (zT (K:=K) rfl (pv 0) rfl) zj)))
   (zq (qT (pv 1) (z8 gW rfl T.eI NQ (zz (zT (K:=K) rfl (pv 0) rfl) zj)) rfl)
   (zq (qT (pv 1) (z8 gW rfl T.eI NQ (zz (zT (K:=K) rfl (pv 0) rfl) zj)) rfl)
   (zk (zp (pv 1)))))),?_⟩
 refine⟨_,rfl,_,hS.f1 T,?_⟩
 intro p dx1 hp hdx1 hne1
 have sM:=jN (o:=HO.own p) (o2:=HO.ins t.zV dx1 []) hp hdx1
 refine⟨p,dx1,pq,ps,as,zb,rw',rfl,zm,hA.same sM,hd,λH1 k1 m1 o1 hS1 n1 n2 h12=>⟨rfl,?_⟩⟩
 have s1:zf H H1:=yO hp hdx1 o1
 have hSo:=hS.same s1
 show zU 1 (V.ref p) [some (.ref q),none] _ _
 walk_at "rd"
 refine⟨_,hSo.f2 T,ka,_,rfl,hSo.2.1,?_⟩
 intro k2 H2 s2 hk2 e2
 have hk20:=s1.free hk2
 have hSo2:=hSo.same s2
 refine⟨_,rfl,p,_,dx1,_,rfl,s2 _ _ hS1.1,T.z9,T.wX,(by show 3 < 1000;decide),?_⟩
 rw[Dr]
 have o3:Off p H2 (upd H2 p (.ins t.zV dx1 (uo pq k2 m1))):=xp
 generalize hH3:upd H2 p (.ins t.zV dx1 (uo pq k2 m1))=H3 at o3 ⊢
 have e3:H3 p=some (.ins t.zV dx1 (uo pq k2 m1)):=by rw[←hH3];exact zm
 have s3:zf H H3:=λb o e=>o3 b o (zh e hp) (s2 _ _ (s1 _ _ e))
 have hSo3:=hS.same s3
 have nk2:k2≠p:=λz=>by rw[z,hS1.1] at hk2;cases hk2
 have e23:=o3 _ _ nk2 e2
 walk_at "rd"
 refine⟨_,hSo3.f3 T,ma,_,rfl,hSo3.2.2,?_⟩
 intro m2 H4 s4 hm2 e4
 have hm20:=s3.free hm2
 have nm2:m2≠p:=λz=>by rw[z,e3] at hm2;cases hm2
 have nkm:k2≠m2:=zh e23 hm2
 refine⟨_,rfl,p,_,dx1,_,rfl,s4 _ _ e3,T.z9,T.x8,(by show 3 < 1000;decide),?_⟩
 rw[Dl]
 have o5:Off p H4 (upd H4 p (.ins t.zV dx1 (uo pq k2 m2))):=xp
 generalize hH5:upd H4 p (.ins t.zV dx1 (uo pq k2 m2))=H5 at o5 ⊢
 have e5:H5 p=some (.ins t.zV dx1 (uo pq k2 m2)):=by rw[←hH5];exact zm
 have s5:zf H H5:=λb o e=>o5 b o (zh e hp) (s4 _ _ (s3 _ _ e))
 walk_at "rd"
 exact k p dx1 k2 m2 H5 s5 ⟨e5,o5 _ _ nk2 (s4 _ _ e23),o5 _ _ nm2 e4⟩ hp hk20 hm20 nkm
noncomputable def oJ (k:Int):Str:=if k=0 then "must" else if k=1 then "may" else if k=2 then "ban" else "power"
noncomputable def PJ (k:Int) (r:Str):V:=if k=1 then .non else .str r
noncomputable def Yj (k n:Int):Int:=if k=0 then n else 0
def Mb (k:Int):Prop:=k=0∨k=1∨k=2∨k=3
def Xy (t:z4) (k:Int):Sp:=λvs H Q _=>∃(p:Addr) (l u a:Str) (n:Int) (r:Str),vs=[.ref p]∧At t H p k l u a n r∧Q (.str (oJ k)) H
def ZQ (t:z4) (k:Int):Sp:=λvs H Q _=>∃(p:Addr) (l u a:Str) (n:Int) (r:Str),vs=[.ref p]∧At t H p k l u a n r∧Q (PJ k r) H
def YI (t:z4) (k:Int):Sp:=λvs H Q _=>∃(p:Addr) (l u a:Str) (n:Int) (r:Str),vs=[.ref p]∧At t H p k l u a n r∧Q (.int (Yj k n)) H
theorem Xy.to {t:z4} {k:Int} {vs:List V} {H:Hp} {Q:VK} {E:XK} (h:Xy t k vs H Q E):∃p,vs=[.ref p]∧Q (.str (oJ k)) H:=by
 obtain⟨p,_,_,_,_,_,e,_,q⟩:=h
 exact⟨p,e,q⟩
def fj (v:V):Sp:=λvs H Q _=>∃(p:Addr),vs=[.ref p]∧Q v H
theorem jK {P:LH} {w:Sz} {K:Ls} {mg:Str→Option Lo} {base:Heap} {k:Nat} {f:Addr} {fd:LG} {ps:List Str} {sp sp':Sp} (F:ze P w K mg base zC k f fd ps sp) (h:∀vs H Q E,sp' vs H Q E→sp vs H Q E):ze P w K mg base zC k f fd ps sp':=
 ⟨λvs H Q E q=>F.len vs H Q E (h vs H Q E q),λA outer s H args us vs Q E hr he hb hv hs=>F.run A outer s H args us vs Q E hr he hb hv (h _ _ _ _ hs)⟩
theorem cD:zu ["self"] ["self"] (zy y7):=by walk_at "sc"
theorem cb (T:Txt K mg t):ze P w K mg base zC 1 t.kl t.yD ["self"] (fj (.str "must")):=by
 refine T.bu.fn.ok cD (by walk_at "ln") ?_;walk_at "hd"
 obtain⟨p,rfl,k⟩:=h
 exact⟨_,(zk (zp zw)),k⟩
theorem dy:zu ["self"] ["self"] (zy yp):=by walk_at "sc"
theorem mE (T:Txt K mg t):ze P w K mg base zC 1 t.xS t.yz ["self"] (fj (.str "may")):=by
 refine T.gN.fn.ok dy (by walk_at "ln") ?_;walk_at "hd"
 obtain⟨p,rfl,k⟩:=h
 exact⟨_,(zk (zp zw)),k⟩
theorem uU:zu ["self"] ["self"] (zy g9):=by walk_at "sc"
theorem uW (T:Txt K mg t):ze P w K mg base zC 1 t.vc t.gE ["self"] (fj (.str "ban")):=by
 refine T.fQ.fn.ok uU (by walk_at "ln") ?_;walk_at "hd"
 obtain⟨p,rfl,k⟩:=h
 exact⟨_,(zk (zp zw)),k⟩
theorem dh:zu ["self"] ["self"] (zy yf):=by walk_at "sc"
theorem m5 (T:Txt K mg t):ze P w K mg base zC 1 t.xT t.yj ["self"] (fj (.str "power")):=by
 refine T.gO.fn.ok dh (by walk_at "ln") ?_;walk_at "hd"
 obtain⟨p,rfl,k⟩:=h
 exact⟨_,(zk (zp zw)),k⟩
theorem lB:zu ["self"] ["self"] (zy pH):=by walk_at "sc"
theorem lQ (T:Txt K mg t):ze P w K mg base zC 1 t.wx t.bY ["self"] (fj .non):=by
 refine T.de.fn.ok lB (by walk_at "ln") ?_;walk_at "hd"
 obtain⟨p,rfl,k⟩:=h
 exact⟨_,(zk (zp wH)),k⟩
theorem uR:zu ["self"] ["self"] (zy hX):=by walk_at "sc"
theorem kK (T:Txt K mg t):ze P w K mg base zC 1 t.jn t.gA ["self"] (fj (.int 0)):=by
 refine T.kP.fn.ok uR (by walk_at "ln") ?_;walk_at "hd"
 obtain⟨p,rfl,k⟩:=h
 exact⟨_,(zk (zp zx)),k⟩
theorem ie:zu ["self"] ["self"] (zy cW):=by walk_at "sc"
theorem ig (T:Txt K mg t):ze P w K mg base zC 1 t.gf t.dH ["self"] (ZQ t 0):=by
 refine T.su.fn.ok ie (by walk_at "ln") ?_;walk_at "hd"
 obtain⟨p,l,u,a,n,r,rfl,hA,k⟩:=h
 exact⟨_,(zk (zp (zT (K:=K) rfl (pv 0) rfl))),_,rfl,_,hA.fr T (.inl rfl),k⟩
theorem Zr:zu ["self"] ["self"] (zy rJ):=by walk_at "sc"
theorem Zz (T:Txt K mg t):ze P w K mg base zC 1 t.bR t.rz ["self"] (ZQ t 2):=by
 refine T.iG.fn.ok Zr (by walk_at "ln") ?_;walk_at "hd"
 obtain⟨p,l,u,a,n,r,rfl,hA,k⟩:=h
 exact⟨_,(zk (zp (zT (K:=K) rfl (pv 0) rfl))),_,rfl,_,hA.fr T (.inr (.inl rfl)),k⟩
theorem oy:zu ["self"] ["self"] (zy fE):=by walk_at "sc"
theorem nX (T:Txt K mg t):ze P w K mg base zC 1 t.ya t.fY ["self"] (ZQ t 3):=by
 refine T.u7.fn.ok oy (by walk_at "ln") ?_;walk_at "hd"
 obtain⟨p,l,u,a,n,r,rfl,hA,k⟩:=h
 exact⟨_,(zk (zp (zT (K:=K) rfl (pv 0) rfl))),_,rfl,_,hA.fr T (.inr (.inr rfl)),k⟩
theorem ow:zu ["self"] ["self"] (zy fO):=by walk_at "sc"
theorem nJ (T:Txt K mg t):ze P w K mg base zC 1 t.ye t.fW ["self"] (YI t 0):=by
 refine T.uA.fn.ok ow (by walk_at "ln") ?_;walk_at "hd"
 obtain⟨p,l,u,a,n,r,rfl,hA,k⟩:=h
 exact⟨_,(zk (zp (zT (K:=K) rfl (pv 0) rfl))),_,rfl,_,hA.ft T,k⟩
theorem WT (T:Txt K mg t) {k:Int} (hk:Mb k) {j:Nat} (hj:1≤j):qy P w K mg base zC j (yF t k) "sort_word" (Xy t k):=by
 rcases hk with rfl | rfl | rfl | rfl
 ·exact .mk' T.d9 (jK (cb T) λvs H Q E h=>h.to) T.bu.bd hj
 ·exact .mk' T.mS (jK (mE T) λvs H Q E h=>h.to) T.gN.bd hj
 ·exact .mk' T.uK (jK (uW T) λvs H Q E h=>h.to) T.fQ.bd hj
 ·exact .mk' T.mT (jK (m5 T) λvs H Q E h=>h.to) T.gO.bd hj
theorem PF (T:Txt K mg t) {k:Int} (hk:Mb k) {j:Nat} (hj:1≤j):qy P w K mg base zC j (yF t k) "leads" (ZQ t k):=by
 rcases hk with rfl | rfl | rfl | rfl
 ·exact .mk' T.oO (ig T) T.su.bd hj
 ·exact .mk' T.tL (jK (lQ T) (by intro vs H Q E h;rcases h with ⟨p,_,_,_,_,_,e,_,q⟩;exact⟨p,e,q⟩)) T.de.bd hj
 ·exact .mk' T.aR (Zz T) T.iG.bd hj
 ·exact .mk' T.tS (nX T) T.u7.bd hj
theorem PM (T:Txt K mg t) {k:Int} (hk:Mb k) {j:Nat} (hj:1≤j):qy P w K mg base zC j (yF t k) "number" (YI t k):=by
 rcases hk with rfl | rfl | rfl | rfl
 ·exact .mk' T.tR (nJ T) T.uA.bd hj
 ·exact .mk' T.lz (jK (kK T) (by intro vs H Q E h;rcases h with ⟨p,_,_,_,_,_,e,_,q⟩;exact⟨p,e,q⟩)) T.kP.bd hj
 ·exact .mk' T.oS (jK (kK T) (by intro vs H Q E h;rcases h with ⟨p,_,_,_,_,_,e,_,q⟩;exact⟨p,e,q⟩)) T.kP.bd hj
 ·exact .mk' T.lj (jK (kK T) (by intro vs H Q E h;rcases h with ⟨p,_,_,_,_,_,e,_,q⟩;exact⟨p,e,q⟩)) T.kP.bd hj
theorem ak (T:Txt K mg t) (k:Int):c7 K (yF t k):=let ⟨_,F⟩:=sY T k;F.cl
end
noncomputable def uJ (kd:Str→Str) (o:Ow) (k:Int) (r:Str):An:=if k=1 then .told "" else if k=3 then bQ kd o 2 r else bQ kd o 3 r
structure Fl where
 l:Str
 s:Str
 w:Str
 a:Str
 n:Int
 r:Str
 zb:List Str
 d:Int
noncomputable def Gf (f:Fl) (lr:Addr):List V:=[.str f.l,.str f.s,.str f.w,.str f.a,.int f.n,.str f.r,.ref lr,.int f.d]
noncomputable def jQ:An→Option Str
 | .told b=>some b
 | _=>none
theorem xl {r:An} {b:Str} (h:jQ r=some b):r=.told b:=by cases r<;>cases h;rfl
noncomputable def gI (kd:Str→Str) (o:Ow) (k:Int) (l u a:Str) (n:Int) (r:Str) (zb:List Str) (d:Int):Option Fl:=
 (jQ (bQ kd o 0 u)).bind λw=>(jQ (bQ kd o 1 a)).bind λa'=>(jQ (uJ kd o k r)).bind λr'=>some ⟨l,oJ k,w,a',Yj k n,r',zb,d⟩
noncomputable def xr (kd:Str→Str) (o:Ow):List Str→Option (List Str)
 | []=>some []
 | x :: xs=>(jQ (bQ kd o 2 x)).bind λy=>(xr kd o xs).bind λys=>some (y :: ys)
noncomputable def bV (kd:Str→Str) (o:Ow) (rs zb:List Str):Option (List Str):=if rs=[] then some zb else (xr kd o rs).bind λns=>some (zb.filter λx=>decide (x∈ns))
theorem mN {kd:Str→Str} {o:Ow}:∀{xs ys:List Str},xr kd o xs=some ys→ys.length=xs.length∧∀(i:Nat) (x:Str),xs[i]?=some x→∃y,ys[i]?=some y∧bQ kd o 2 x=.told y
 | [],ys,h=>by cases h;exact⟨rfl,λi x hx=>by cases hx⟩
 | x :: xs,ys,h=>by
  unfold xr at h
  obtain⟨y,h1,h⟩:=LJ.mp h
  obtain⟨zs,h2,h⟩:=LJ.mp h
  cases h
  obtain⟨l,g⟩:=mN h2
  refine⟨by rw[LQ,LQ,l],λi z hz=>?_⟩
  cases i with
  | zero=>cases hz;exact⟨y,rfl,xl h1⟩
  | succ i=>exact g i z hz
theorem uF {xs ys:List V} (h:Paired (λy v=>v=y) xs ys):ys=xs:=by
 induction h with
 | nil=>rfl
 | cons e _ ih=>rw[e,ih]
def uT (t:z4) (way:Nat):Sp:=λvs H Q _=>∃(kd:Str→Str) (q dx pq ka ma:Addr) (o:Ow) (z b:Str),vs=[.ref q,.str z]∧ju t H q dx pq ka ma (mv kd o) o∧bQ kd o way z=.told b∧∀H',zf H H'→Q (.str b) H'
theorem uT.to {t:z4} {way:Nat} {vs:List V} {H:Hp} {Q:VK} {E:XK} (h:uT t way vs H Q E):eW t way vs H Q E:=by
 obtain⟨kd,q,dx,pq,ka,ma,o,z,b,e,hS,ha,k⟩:=h
 exact⟨kd,q,dx,pq,ka,ma,o,z,e,hS,by rw[ha];exact k⟩
def BX (t:z4):Sp:=λvs H Q _=>∃(kd:Str→Str) (p q dx pq ka ma:Addr) (o:Ow) (k:Int) (l u a:Str) (n:Int) (r b:Str),vs=[.ref p,.ref q]∧At t H p k l u a n r∧Mb k∧ju t H q dx pq ka ma (mv kd o) o∧uJ kd o k r=.told b∧∀H',zf H H'→Q (.str b) H'
def DV (t:z4):Sp:=λvs H Q _=>∃(kd:Str→Str) (p q dx pq ka ma lr:Addr) (o:Ow) (k:Int) (l u a:Str) (n:Int) (r:Str) (zb:List Str) (d:Int) (f:Fl),vs=[.ref p,.ref q,.ref lr,.int d]∧At t H p k l u a n r∧Mb k∧ju t H q dx pq ka ma (mv kd o) o∧H lr=some (.lst (zb.map V.str))∧gI kd o k l u a n r zb d=some f∧∀p' l' H',zf H H'→H p'=none→H l'=none→H' p'=some (.tup (Gf f l'))→H' l'=some (.lst (zb.map V.str))→Q (.ref p') H'
def Ba (t:z4):Sp:=λvs H Q _=>∃(kd:Str→Str) (p dxp a b q dx pq ka ma lr:Addr) (o:Ow) (n:Str) (rs zb cv:List Str),vs=[.ref p,.ref q,.ref lr]∧H p=some (.ins t.zI dxp (XU n a b))∧H a=some (.lst (rs.map V.str))∧rs.length≤100∧(∀x∈rs,TF x=true)∧zb.length≤100∧ju t H q dx pq ka ma (mv kd o) o∧H lr=some (.lst (zb.map V.str))∧bV kd o rs zb=some cv∧∀l' H',zf H H'→H' l'=some (.lst (cv.map V.str))→Q (.ref l') H'
theorem Bm (k:Int) (l w a:Str) (n:Int) (r:Str):(mF k l w a n r).lookup ("sort_word" : Str)=none:=aJ _ _ _ _ _ _ (by decide +kernel)
theorem M8 (k:Int) (l w a:Str) (n:Int) (r:Str):(mF k l w a n r).lookup ("leads" : Str)=none:=aJ _ _ _ _ _ _ (by decide +kernel)
theorem M9 (k:Int) (l w a:Str) (n:Int) (r:Str):(mF k l w a n r).lookup ("number" : Str)=none:=aJ _ _ _ _ _ _ (by decide +kernel)
theorem W9 {a b c:Addr}:(uo a b c).lookup ("party" : Str)=none:=bE (by decide +kernel) (by decide +kernel) (by decide +kernel)
theorem Hx {a b c:Addr}:(uo a b c).lookup ("deed" : Str)=none:=bE (by decide +kernel) (by decide +kernel) (by decide +kernel)
theorem W8 {a b c:Addr}:(uo a b c).lookup ("falls_to" : Str)=none:=bE (by decide +kernel) (by decide +kernel) (by decide +kernel)
theorem Hj {a b c:Addr}:(uo a b c).lookup ("bind" : Str)=none:=bE (by decide +kernel) (by decide +kernel) (by decide +kernel)
theorem Vv {a b c:Addr}:(uo a b c).lookup ("copied" : Str)=none:=bE (by decide +kernel) (by decide +kernel) (by decide +kernel)
theorem Bn {k:Int} (hk:Mb k):(oJ k = "power")↔k=3:=by
 rcases hk with rfl | rfl | rfl | rfl
 all_goals (unfold oJ;decide +kernel)
section
variable {P:LH} {w:Sz} {K:Ls} {mg:Str→Option Lo} {base:Heap} {t:z4}
theorem WA (T:Txt K mg t) {j:Nat} (hj:4≤j):qy P w K mg base zC j t.zV "party" (uT t 0):=.mk' T.tT (pI (nK T) λ_ _ _ _ h=>h.to) T.u9.bd hj
theorem G5 (T:Txt K mg t) {j:Nat} (hj:4≤j):qy P w K mg base zC j t.zV "deed" (uT t 1):=.mk' T.oE (pI (ip T) λ_ _ _ _ h=>h.to) T.sQ.bd hj
theorem Bb (T:Txt K mg t) {j:Nat} (hj:4≤j):qy P w K mg base zC j t.zV "room_for" (uT t 2):=.mk' T.yv (pI (yw T) λ_ _ _ _ h=>h.to) T.vN.bd hj
theorem WE (T:Txt K mg t) {j:Nat} (hj:5≤j):qy P w K mg base zC j t.zV "falls_to" (uT t 3):=.mk' T.cz (pI (cm T) λ_ _ _ _ h=>h.to) T.ba.bd hj
theorem gz:zu ["clause","scope","room"] ["clause","scope"] (zy bz):=by walk_at "sc"
theorem uG (T:Txt K mg t):ze P w K mg base zC 6 t.vn t.vd ["clause","scope"] (BX t):=by
 refine T.kA.fn.ok gz (by walk_at "ln") ?_;walk_at "hd"
 obtain⟨kd,p,q,dx,pq,ka,ma,o,k,l,u,a,n,r,b,rfl,hA,hk,hS,hl,kk⟩:=h
 refine⟨_,(zq (za (i:=2) gz.nd rfl (LL rfl) (jb hr (pv 0)))
   (zq (zW (zd JT (pv 2) wH (zQ _))
    (zk (zp zw)) zr)
   (zq (zW (zd qz (jb hr (pv 0)) zw (zQ _))
    (zk (zp (qg hr (pv 1) (zz (pv 2) zj)))) zr)
   (zk (zp (qg hr (pv 1) (zz (pv 2) zj))))))),?_⟩
 obtain⟨dxp,ep⟩:=id hA
 refine⟨_,rfl,p,_,dxp,_,rfl,ep,ak T k,M8 _ _ _ _ _ _,_,PF T hk (by decide),p,l,u,a,n,r,rfl,hA,?_⟩
 unfold uJ at hl
 by_cases h1:k=1
 ·rw[if_pos h1] at hl
  cases hl
  rw[show PJ k r=.non from if_pos h1]
  walk_at "rd"
  exact kk H (zf.refl _)
 ·rw[if_neg h1] at hl
  rw[show PJ k r=.str r from if_neg h1]
  walk_at "rd"
  refine⟨p,_,dxp,_,rfl,ep,ak T k,Bm _ _ _ _ _ _,_,WT T hk (by decide),p,l,u,a,n,r,rfl,hA,?_⟩
  walk_at "rd"
  refine zD (λh2=>?_) (λh2=>?_)
  ·have e3:k=3:=(Bn hk).mp (V.str.inj (zzB h2))
   rw[if_pos e3] at hl
   walk_at "rd"
   exact⟨q,_,dx,_,rfl,hS.1,T.z9,Yz,_,Bb T (by decide),_,rfl,kd,q,dx,pq,ka,ma,o,r,b,rfl,hS,hl,kk⟩
  ·have e3:¬k=3:=λz=>h2 (by rw[(Bn hk).mpr z];exact zzP rfl)
   rw[if_neg e3] at hl
   walk_at "rd"
   exact⟨q,_,dx,_,rfl,hS.1,T.z9,W8,_,WE T (by decide),_,rfl,kd,q,dx,pq,ka,ma,o,r,b,rfl,hS,hl,kk⟩
theorem jO:zu ["clause","scope","rooms","depth","who","act","room"] ["clause","scope","rooms","depth"] (zy hV):=by walk_at "sc"
theorem uY (T:Txt K mg t):ze P w K mg base zC 7 t.vt t.vm ["clause","scope","rooms","depth"] (DV t):=by
 have G_v_room_led_to:=@ze.mono P w K mg base _ _ 6 _ _ _ _ (uG T) (by decide)
 refine T.kI.fn.ok jO (by walk_at "ln") ?_;walk_at "hd"
 obtain⟨kd,p,q,dx,pq,ka,ma,lr,o,k,l,u,a,n,r,zb,d,f,rfl,hA,hk,hS,elr,hf,kk⟩:=h
 refine⟨_,(zq (za (i:=4) jO.nd rfl (LL rfl) (qg hr (pv 1) (zz (zT (K:=K) rfl (pv 0) rfl) zj)))
   (zq (za (i:=5) jO.nd rfl (LL rfl) (qg hr (pv 1) (zz (zT (K:=K) rfl (pv 0) rfl) zj)))
   (zq (za (i:=6) jO.nd rfl (LL rfl) (zi G_v_room_led_to hr rfl T.kA.mg T.kA.fn.kp T.kA.bd .nil zJ (zz (pv 0) (zz (pv 1) zj))))
   (zk (zp (qq (zz (zT (K:=K) rfl (pv 0) rfl) (zz (jb hr (pv 0)) (zz (pv 4) (zz (pv 5) (zz (jb hr (pv 0)) (zz (pv 6) (zz (z8 (jY (K:=K) rfl) rfl T.km So (zz (pv 2) zj)) (zz (pv 3) zj)))))))))))))),?_⟩
 unfold gI at hf
 obtain⟨w',h1,hf⟩:=LJ.mp hf
 obtain⟨a',h2,hf⟩:=LJ.mp hf
 obtain⟨r',h3,hf⟩:=LJ.mp hf
 cases hf
 have h1:=xl h1
 have h2:=xl h2
 have h3:=xl h3
 refine⟨_,rfl,q,_,dx,_,rfl,hS.1,T.z9,W9,_,WA T (by decide),_,rfl,_,hA.fw T,kd,q,dx,pq,ka,ma,o,u,w',rfl,hS,h1,λH1 s1=>?_⟩
 have hS1:=hS.same s1
 have hA1:=hA.same s1
 show zU 4 (V.str w') [some (.ref p),some (.ref q),some (.ref lr),some (.int d),none,none,none] _ _
 refine⟨_,rfl,q,_,dx,_,rfl,hS1.1,T.z9,Hx,_,G5 T (by decide),_,rfl,_,hA1.fa T,kd,q,dx,pq,ka,ma,o,a,a',rfl,hS1,h2,λH2 s2=>?_⟩
 have hS2:=hS1.same s2
 have hA2:=hA1.same s2
 show zU 5 (V.str a') [some (.ref p),some (.ref q),some (.ref lr),some (.int d),some (.str w'),none,none] _ _
 refine⟨_,rfl,_,rfl,kd,p,q,dx,pq,ka,ma,o,k,l,u,a,n,r,r',rfl,hA2,hk,hS2,h3,λH3 s3=>?_⟩
 have hA3:=hA2.same s3
 obtain⟨dxp,ep⟩:=id hA3
 have s13:zf H H3:=(s1.trans s2).trans s3
 show zU 6 (V.str r') [some (.ref p),some (.ref q),some (.ref lr),some (.int d),some (.str w'),some (.str a'),none] _ _
 refine⟨_,rfl,_,hA3.fl T,?_⟩
 refine⟨_,rfl,p,_,dxp,_,rfl,ep,ak T k,Bm _ _ _ _ _ _,_,WT T hk (by decide),p,l,u,a,n,r,rfl,hA3,?_⟩
 walk_at "rd"
 refine⟨p,_,dxp,_,rfl,ep,ak T k,M9 _ _ _ _ _ _,_,PM T hk (by decide),p,l,u,a,n,r,rfl,hA3,?_⟩
 walk_at "rd"
 refine⟨lr,_,rfl,.inl (zK.of (s13 _ _ elr)),?_⟩
 intro l' H4 s4 hl' e4
 refine⟨_,rfl,zg (by show 8≤1000;decide),?_⟩
 intro p' H5 s5 hp' e5
 exact kk p' l' H5 ((s13.trans s4).trans s5) ((s13.trans s4).free hp') (s13.free hl') e5 (s5 _ _ e4)
theorem bj:zu ["part","scope","rooms","named"] ["part","scope","rooms"] (zy kh):=by walk_at "sc"
theorem lX (T:Txt K mg t):ze P w K mg base zC 6 t.wm t.vE ["part","scope","rooms"] (Ba t):=by
 refine T.vM.fn.ok bj (by walk_at "ln") ?_;walk_at "hd"
 obtain⟨kd,p,dxp,a,b,q,dx,pq,ka,ma,lr,o,n,rs,zb,cv,rfl,ep,ea,hrl,hro,hml,hS,elr,hc,kk⟩:=h
 refine⟨_,(zq (zW (zd (p5 (K:=K) rfl hr.units) (zT (K:=K) rfl (pv 0) rfl) (zB zj) (zQ _))
    (zk (zp (pv 2))) zr)
   (zq (za (i:=3) bj.nd rfl (IP rfl) (cZ (osc:=zy kh) (N:=["part","scope","rooms","named"]) (names:=["scope"]) (zR:=[1]) rfl rfl rfl ⟨rfl,by decide +kernel,by decide +kernel,by decide +kernel,rfl,rfl,by decide +kernel,by decide +kernel⟩ (qp (K:=K) rfl (zT (K:=K) rfl (pv 0) rfl)) (λ_ _ _=>(Yc (P:=P) (w:=w) (K:=K) (mg:=mg) (base:=base) rfl rfl rfl rfl rfl hr (pv 1) (zz (pv 0) zj)))))
   (zk (zp (vR (osc:=zy kh) (N:=["part","scope","rooms","named"]) (xs:=["room"]) (names:=["named"]) (zR:=[3]) rfl rfl rfl ⟨rfl,by decide +kernel,by decide +kernel,by decide +kernel,by decide +kernel,rfl,by decide +kernel,by decide +kernel⟩ (qp (K:=K) rfl (pv 2)) (λ_ _ _=>(zM (i:=0) (show (["room","named"]:List Str).Nodup from by decide +kernel) rfl (.inl (wC rfl)) (.inr (wC rfl)))) (λ_ _ _=>(Zb (zd (nH (K:=K) rfl) (pv 0) (pv 1) rfl))) (λ_ _ _=>(pv 0))))))),?_⟩
 have Jt:∀{H':Hp},zf H H'→iB K H' (.ref p) "rooms" (.ref a):=λs=>⟨p,_,dxp,_,rfl,s _ _ ep,T.kM,T.yW,(zt λq=>m2 (Tu q)).trans zS⟩
 refine⟨_,rfl,_,Jt (zf.refl _),Sy _,?_⟩
 intro l0 H0 s0 hl0 e0
 have sh1:SI (.list (rs.map S0))=true:=qV hro
 have sh2:SI (.list (([]:List Str).map S0))=true:=qV λx hx=>by cases hx
 refine⟨_,_,dt.lst (zK.of (s0 _ _ ea)) (vj.strs _),dt.lst (zK.of e0) (vj.strs []),sh1,sh2,?_⟩
 rw[bU]
 unfold bV at hc
 walk_at "rd"
 walk_at "x3"
 ·rw[if_pos (zzB h1)] at hc
  cases hc
  walk_at "rd"
  exact kk lr H0 s0 (s0 _ _ elr)
 ·rw[if_neg λz=>h1 (zzP z)] at hc
  obtain⟨ns,hn,hc⟩:=LJ.mp hc
  cases hc
  obtain⟨hnl,hnn⟩:=mN hn
  have hS0:=hS.same s0
  have ea0:=s0 _ _ ea
  refine⟨_,rfl,_,Jt s0,a,rfl,⟨_,zK.of ea0⟩,?_⟩
  refine bK (xW (zK.of ea0)) (λi _ v=>∀y,ns[i]?=some y→v=.str y) (zg (by rw[Ln];omega)) ?_ ?_
  ·intro i y H' Q' hy s' k'
   obtain⟨x,hx,rfl⟩:=yc hy
   obtain⟨z,hz,hask⟩:=hnn i x hx
   have hS':=hS0.same s'
   refine⟨_,rfl,q,_,dx,_,rfl,hS'.1,T.z9,Yz,_,Bb T (by decide),_,rfl,kd,q,dx,pq,ka,ma,o,x,z,rfl,hS',hask,λH2 s2=>?_⟩
   refine k' _ _ s2 λy' hy'=>?_
   rw[hz] at hy'
   cases hy'
   rfl
  intro D H1 ys s1 hD e1 hl1 hp1
  obtain rfl:ys=ns.map V.str:=by
   rw[Ln] at hl1
   apply Ox
   intro i
   rw[LV]
   by_cases hi:i < ns.length
   ·rw[Le hi,Le (by omega:i < ys.length)]
    exact congrArg some (hp1 i _ _ (Le (by rw[Ln];omega)) (Le (by omega)) _ (Le hi))
   ·rw[SN.mpr (by omega),SN.mpr (by omega)]
    rfl
  have elr1:=s1 _ _ (s0 _ _ elr)
  show zU 3 (V.ref D) [some (.ref p),some (.ref q),some (.ref lr),none] _ _
  refine⟨_,rfl,lr,rfl,⟨_,zK.of elr1⟩,?_⟩
  refine aw (xW (zK.of elr1)) (λy=>ZS y (ns.map V.str)) (λy v=>v=y) (zg (by rw[Ln];omega)) ?_ ?_ ?_
  ·intro i y H' Q' hy s' k'
   obtain⟨x,hx,rfl⟩:=yc hy
   refine⟨_,rfl,_,rfl,D,_,rfl,.inl (zK.of (s' _ _ e1)),rfl,xY _,_,rfl,?_⟩
   exact k' _ (zf.refl _)
  ·intro i y H' Q' hy _ s' k'
   exact⟨_,rfl,k' _ _ (zf.refl _) rfl⟩
  intro D2 H2 ys s2 hD2 e2 hP
  obtain rfl:ys=(zb.filter λx=>decide (x∈ns)).map V.str:=by
   have:=uF hP
   rw[this]
   have e3:∀l:List Str,(l.map V.str).filter (λy=>ZS y (ns.map V.str))=(l.filter λx=>decide (x∈ns)).map V.str:=λl=>by
    induction l with
    | nil=>rfl
    | cons x l ih=>
     rw[LR,Nr,Nr,kN,ih]
     by_cases hx:x∈ns
     ·simp [hx]
     ·simp [hx]
   exact e3 zb
  exact kk D2 H2 ((s0.trans s1).trans s2) e2
mutual
noncomputable def jX:Rw→List Ew
 | .lt a b=>[.lt a b]
 | .cl k l u a n r=>if k=0 then [.mu l u a n r] else if k=1 then [.my l u a] else if k=2 then [.bn l u a r] else [.pw l u a r]
 | .pt n rs rows=>.pt n rs :: (zE rows ++ [.dn])
noncomputable def zE:List Rw→List Ew
 | []=>[]
 | r :: rs=>jX r ++ zE rs
end
mutual
noncomputable def sO:Rw→Nat
 | .lt _ _=>0
 | .cl _ _ _ _ _ _=>0
 | .pt _ _ rows=>vG rows + 1
noncomputable def vG:List Rw→Nat
 | []=>0
 | r :: rs=>max (sO r) (vG rs)
end
mutual
def mM:Rw→Prop
 | .lt _ _=>True
 | .cl k _ _ _ _ _=>k=0∨k=1∨k=2∨k=3
 | .pt _ _ rows=>vo rows
def vo:List Rw→Prop
 | []=>True
 | r :: rs=>mM r∧vo rs
end
theorem ua {r:Rw} (hr:mM r):∀{a:List Rw},vo a→vo (a ++ [r])
 | [],_=>by rw[Sr,vo,vo];exact⟨hr,Tz⟩
 | x :: a,h=>by
  rw[vo] at h
  rw[SA,vo]
  exact⟨h.1,ua hr h.2⟩
theorem ur:∀(a b:List Rw),zE (a ++ b)=zE a ++ zE b
 | [],b=>by rw[Sr,zE,Sr]
 | r :: a,b=>by rw[SA,zE,zE,ur a b,SY]
theorem sI:∀(a b:List Rw),vG (a ++ b)=max (vG a) (vG b)
 | [],b=>by rw[Sr,vG];omega
 | r :: a,b=>by rw[SA,vG,vG,sI a b];omega
theorem iT (r:Rw):zE [r]=jX r:=by rw[zE,zE,Sd]
theorem Qz (r:Rw):vG [r]=sO r:=by rw[vG,vG];omega
noncomputable def xQ:List Fr→List Ew
 | []=>[]
 | (n,rs,rows) :: fr=>(if fr=[] then [] else xQ fr ++ [.pt n rs]) ++ zE rows
def rL:List Fr→Prop
 | []=>False
 | (n,rs,rows) :: fr=>vG rows + fr.length≤6∧vo rows∧(if fr=[] then n = "whole"∧rs=[] else rL fr)
theorem rL.len {fr:List Fr} (h:rL fr):fr.length≤7:=by
 match fr,h with
 | (n,rs,rows) :: fr,h=>have:=h.1;simp only[LQ];omega
theorem yA {fr:List Fr} {r:Rw} (h:rL fr) (hd:sO r=0) (hk:mM r):rL (push fr r)∧xQ (push fr r)=xQ fr ++ jX r:=by
 match fr,h with
 | (n,rs,rows) :: fr,h=>
  refine⟨⟨?_,ua hk h.2.1,h.2.2⟩,?_⟩
  ·rw[sI,Qz,hd];have:=h.1;omega
  ·show (if fr=[] then [] else xQ fr ++ [.pt n rs]) ++ zE (rows ++ [r])=((if fr=[] then [] else xQ fr ++ [.pt n rs]) ++ zE rows) ++ jX r
   rw[ur,iT,SY]
theorem eG {fr fr':List Fr} {ls ls':List Str} {e:Ew} (h:rL fr) (ht:e.take fr ls=some (fr',ls')):rL fr'∧xQ fr'=xQ fr ++ [e]:=by
 cases e with
 | lt a b=>
  cases ht
  exact yA h (by rw[sO]) (by rw[mM];exact Tz)
 | mu l w a n r=>
  rw[Ew.take] at ht
  split at ht
  ·cases ht
  ·cases ht
   have:=yA (r:=.cl 0 l w a n r) h (by rw[sO]) (by rw[mM];simp)
   exact this
 | my l w a=>
  rw[Ew.take] at ht
  split at ht
  ·cases ht
  ·cases ht
   have:=yA (r:=.cl 1 l w a 0 "") h (by rw[sO]) (by rw[mM];simp)
   exact this
 | bn l w a r=>
  rw[Ew.take] at ht
  split at ht
  ·cases ht
  ·cases ht
   have:=yA (r:=.cl 2 l w a 0 r) h (by rw[sO]) (by rw[mM];simp)
   exact this
 | pw l w a r=>
  rw[Ew.take] at ht
  split at ht
  ·cases ht
  ·cases ht
   have:=yA (r:=.cl 3 l w a 0 r) h (by rw[sO]) (by rw[mM];simp)
   exact this
 | pt n rs=>
  rw[Ew.take] at ht
  split at ht
  ·cases ht
  ·rename_i hq
   cases ht
   have hl:=h.len
   have h7:¬fr.length=7:=λz=>hq (.inl z)
   have hne:fr≠[]:=λz=>by rw[z] at h;exact h
   refine⟨⟨by rw[vG];omega,by rw[vo];exact Tz,by rw[if_neg hne];exact h⟩,?_⟩
   show (if fr=[] then [] else xQ fr ++ [.pt n rs]) ++ zE []=_
   rw[if_neg hne,zE,Sd]
 | dn=>
  match fr,h,ht with
  | (n,rs,rows) :: (n2,rs2,rows2) :: fr,h,ht=>
   cases ht
   have h2:rL ((n2,rs2,rows2) :: fr):=by
    have:=h.2.2
    rw[if_neg (by simp)] at this
    exact this
   have h1:=h.1
   have h3:=h2.1
   simp only[LQ] at h1
   refine⟨⟨?_,ua (by rw[mM];exact h.2.1) h2.2.1,h2.2.2⟩,?_⟩
   ·rw[sI,Qz,sO];omega
   ·show (if fr=[] then [] else xQ fr ++ [.pt n2 rs2]) ++ zE (rows2 ++ [.pt n rs rows])=((if ((n2,rs2,rows2) :: fr)=[] then [] else xQ ((n2,rs2,rows2) :: fr) ++ [.pt n rs]) ++ zE rows) ++ [.dn]
    rw[if_neg (show ¬((n2,rs2,rows2) :: fr)=[] by simp),ur,iT,jX]
    show _=((((if fr=[] then [] else xQ fr ++ [.pt n2 rs2]) ++ zE rows2) ++ [.pt n rs]) ++ zE rows) ++ [.dn]
    simp only[SY,SA,Sr]
  | [],h,_=>exact h.elim
  | [f],_,ht=>cases ht
theorem QS:∀{evs:List Ew} {i:Nat} {fr fr':List Fr} {ls:List Str},J5 i evs fr ls=.ok fr'→rL fr→rL fr'∧xQ fr'=xQ fr ++ evs
 | [],i,fr,fr',ls,h,hf=>by cases h;exact⟨hf,by rw[Sd]⟩
 | e :: r,i,fr,fr',ls,h,hf=>by
  rw[J5] at h
  split at h
  ·cases h
  ·split at h
   ·cases h
   ·rename_i f1 l1 ht
    obtain⟨g1,g2⟩:=eG hf ht
    obtain⟨g3,g4⟩:=QS h g1
    exact⟨g3,by rw[g4,g2,SY];rfl⟩
theorem Vs {ps as:List Str} {zb:List (Str × Str)} {evs:List Ew} (h:ZR ps as zb) (he:∀e∈evs,e.ok) (hd:af 0 evs=some 0) (hn:(jV evs).Nodup) (hl:evs.length≤76) :
  ∃rows,g8 (rowsOf ps as zb evs)=.ok (ps,as,zb,.pt "whole" [] rows)∧zE rows=evs∧vG rows≤6∧vo rows:=by
 have h6:=h.r2
 obtain⟨fr,e1,l1⟩:=YK (i:=2 + zb.length) (fr:=[("whole",[],[])]) (ls:=[]) hd rfl (by decide) (by simpa using hn) (by omega)
 obtain⟨g1,g2⟩:=QS e1 ⟨by rw[vG];decide,by rw[vo];exact Tz,by rw[if_pos rfl];exact⟨rfl,rfl⟩⟩
 match fr,l1,g1,g2,e1 with
 | [(a,b,c)],l1,g1,g2,e1=>
  have g3:=g1.2.2
  rw[if_pos rfl] at g3
  obtain⟨rfl,rfl⟩:=g3
  refine⟨c,?_,?_,by have:=g1.1;simp only[LO] at this;omega,g1.2.1⟩
  ·rw[Hn h he,ZE he,e1];rfl
  ·have g4:([]:List Ew) ++ zE c=([] ++ zE []) ++ evs:=g2
   rw[zE] at g4
   simpa using g4
 | f :: g :: r,l1,g1,g2,e1=>simp only[LQ] at l1;omega
theorem qw.a8 {t:z4} {ms:List Addr} {H:Hp}:∀{rs:List Rw} {ys:List V} {i:Nat} {y:V},qw t ms H rs ys→ys[i]?=some y→∃r,rs[i]?=some r∧jU t ms H r y
 | [],ys,i,y,h,e=>by unfold qw at h;subst h;cases e
 | r :: rs,ys,0,y,h,e=>by
  unfold qw at h
  obtain⟨y',ys',rfl,h1,h2⟩:=h
  cases e
  exact⟨r,rfl,h1⟩
 | r :: rs,ys,i + 1,y,h,e=>by
  unfold qw at h
  obtain⟨y',ys',rfl,h1,h2⟩:=h
  exact qw.a8 (i:=i) h2 e
theorem vo.a8 {r:Rw}:∀{rs:List Rw} {i:Nat},vo rs→rs[i]?=some r→mM r
 | [],i,h,e=>by cases e
 | x :: rs,0,h,e=>by cases e;rw[vo] at h;exact h.1
 | x :: rs,i + 1,h,e=>by rw[vo] at h;exact vo.a8 (i:=i) h.2 e
mutual
noncomputable def ae (kd:Str→Str):Rw→Ow→List Str→Int→Option (List Fl × Ow)
 | .lt a b,o,_,_=>(lk o b).bind λx=>some ([],pu o a x)
 | .cl k l u a n r,o,zb,d=>(gI kd o k l u a n r zb d).bind λf=>some ([f],o)
 | .pt _ rs rows,o,zb,d=>(bV kd o rs zb).bind λcv=>(fi kd rows o cv (d + 1)).bind λp=>some (p.1,o)
noncomputable def fi (kd:Str→Str):List Rw→Ow→List Str→Int→Option (List Fl × Ow)
 | [],o,_,_=>some ([],o)
 | r :: rs,o,zb,d=>(ae kd r o zb d).bind λp=>(fi kd rs p.2 zb d).bind λq=>some (p.1 ++ q.1,q.2)
end
theorem aQ (kd:Str→Str) (bs:List Rw) (zb:List Str) (d:Int):∀(as:List Rw) (o:Ow),fi kd (as ++ bs) o zb d=(fi kd as o zb d).bind λp=>(fi kd bs p.2 zb d).bind λq=>some (p.1 ++ q.1,q.2)
 | [],o=>by
  rw[Sr,fi,LX]
  cases fi kd bs o zb d with
  | none=>rfl
  | some q=>rfl
 | r :: as,o=>by
  rw[SA,fi,fi]
  cases ae kd r o zb d with
  | none=>rfl
  | some p=>
   rw[LX,LX,aQ kd bs zb d as p.2]
   cases fi kd as p.2 zb d with
   | none=>rfl
   | some q=>
    rw[LX,LX,LX]
    cases fi kd bs q.2 zb d with
    | none=>rfl
    | some z=>rw[LX,LX,LX,SY]
theorem GC (kd:Str→Str) (r:Rw) (o:Ow) (zb:List Str) (d:Int):fi kd [r] o zb d=ae kd r o zb d:=by
 rw[fi]
 cases ae kd r o zb d with
 | none=>rfl
 | some p=>rw[LX,fi,LX,Sd]
theorem Wn {kd:Str→Str} {rows:List Rw} {o oi:Ow} {zb:List Str} {d:Int} {R:List Fl × Ow} {i:Nat} {r:Rw} {f:List Fl} (h:fi kd rows o zb d=some R) (hr:rows[i]?=some r) (hi:fi kd (rows.take i) o zb d=some (f,oi)):∃q,ae kd r oi zb d=some q∧fi kd (rows.take (i + 1)) o zb d=some (f ++ q.1,q.2):=by
 have e:rows=(rows.take i ++ [r]) ++ rows.drop (i + 1):=by rw[←take_snoc hr,TV]
 have e2:=aQ kd [r] zb d (rows.take i) o
 rw[hi,LX,GC] at e2
 rw[e,aQ] at h
 obtain⟨p,hp,_⟩:=LJ.mp h
 rw[e2] at hp
 obtain⟨q,hq,hp⟩:=LJ.mp hp
 refine⟨q,hq,?_⟩
 rw[take_snoc hr,e2,hq]
 rfl
mutual
theorem GD {kd:Str→Str}:∀{r:Rw} {o:Ow} {zb:List Str} {d:Int} {q:List Fl × Ow},ae kd r o zb d=some q→q.1.length≤(jX r).length∧q.2.length≤o.length + 1
 | .lt a b,o,zb,d,q,h=>by
  rw[ae] at h
  obtain⟨x,_,h⟩:=LJ.mp h
  cases h
  exact⟨Sy _,J3 _ _ _⟩
 | .cl k l u a n r,o,zb,d,q,h=>by
  rw[ae] at h
  obtain⟨x,_,h⟩:=LJ.mp h
  cases h
  refine⟨?_,Ol _⟩
  rw[jX]
  split
  ·exact LF _
  split
  ·exact LF _
  split
  ·exact LF _
  ·exact LF _
 | .pt n rs rows,o,zb,d,q,h=>by
  rw[ae] at h
  obtain⟨cv,_,h⟩:=LJ.mp h
  obtain⟨p,hp,h⟩:=LJ.mp h
  cases h
  have:=(dR hp).1
  refine⟨?_,Ol _⟩
  rw[jX,LQ,Li]
  show p.1.length≤_
  omega
theorem dR {kd:Str→Str}:∀{rows:List Rw} {o:Ow} {zb:List Str} {d:Int} {q:List Fl × Ow},fi kd rows o zb d=some q→q.1.length≤(zE rows).length∧q.2.length≤o.length + rows.length
 | [],o,zb,d,q,h=>by rw[fi] at h;cases h;exact⟨Sy _,LF _⟩
 | r :: rs,o,zb,d,q,h=>by
  rw[fi] at h
  obtain⟨p,hp,h⟩:=LJ.mp h
  obtain⟨z,hz,h⟩:=LJ.mp h
  cases h
  have h1:=GD hp
  have h2:=dR hz
  rw[zE,Li,Li,LQ]
  show p.1.length + z.1.length≤_∧z.2.length≤_
  omega
end
theorem pW:∀rows:List Rw,rows.length≤(zE rows).length
 | []=>Sy _
 | r :: rs=>by
  have h:=pW rs
  have h1:1≤(jX r).length:=by
   cases r with
   | lt a b=>rw[jX];exact LF _
   | cl k l u a n r=>
    rw[jX]
    split
    ·exact LF _
    split
    ·exact LF _
    split
    ·exact LF _
    ·exact LF _
   | pt n rs rows=>rw[jX,LQ];omega
  rw[zE,Li,LQ]
  omega
theorem Qk {r:Rw}:∀{rows:List Rw} {i:Nat},rows[i]?=some r→∃b,zE rows=zE (rows.take i) ++ jX r ++ b∧sO r≤vG rows
 | x :: rs,0,e=>by cases e;exact⟨zE rs,by rw[zE,NL,zE];rfl,by rw[vG];omega⟩
 | x :: rs,i + 1,e=>by
  obtain⟨b,h,hd⟩:=Qk (rows:=rs) (i:=i) e
  exact⟨b,by rw[List.take_succ_cons,zE,zE,h];simp,by rw[vG];omega⟩
def jh (H:Hp) (rs:List (Addr × Addr)) (fls:List Fl):Prop:=Paired (λ(r:Addr × Addr) (f:Fl)=>H r.1=some (.tup (Gf f r.2))∧H r.2=some (.lst (f.zb.map V.str))) rs fls
theorem jh.same {H H':Hp} {rs:List (Addr × Addr)} {fls:List Fl} (h:jh H rs fls) (s:zf H H'):jh H' rs fls:=Paired.imp' (λ_ _ z=>⟨s _ _ z.1,s _ _ z.2⟩) h
theorem Paired.KN {α β:Type} {F G:α→β→Prop}:∀{xs:List α} {ys:List β},Paired F xs ys→(∀x∈xs,∀y,F x y→G x y)→Paired G xs ys
 | _,_,.nil,_=>.nil
 | _,_,.cons h t,f=>.cons (f _ Sw _ h) (Paired.KN t λx hx=>f x (LK _ hx))
theorem Paired.Kn {α β:Type} {F:α→β→Prop} {bs:List α} {ds:List β} (h2:Paired F bs ds):∀{as:List α} {cs:List β},Paired F as cs→Paired F (as ++ bs) (cs ++ ds)
 | _,_,.nil=>h2
 | _,_,.cons h t=>.cons h (Paired.Kn h2 t)
theorem jh.MO {H H':Hp} {ka ma:Addr} {k1 k2:List (Key × V)} {rs:List (Addr × Addr)} {fls:List Fl} (h:jh H rs fls) (k:Ms ka ma H H') (e1:H ka=some (.dK k1)) (e2:H ma=some (.dK k2)):jh H' rs fls:=Paired.imp' (λr f z=>by
 obtain⟨z1,z2⟩:=z
 refine⟨?_,?_⟩
 ·rw[k r.1 (λq=>by rw[q,e1] at z1;cases z1) (λq=>by rw[q,e2] at z1;cases z1)];exact z1
 ·rw[k r.2 (λq=>by rw[q,e1] at z2;cases z2) (λq=>by rw[q,e2] at z2;cases z2)];exact z2) h
theorem jh.keeps {H H':Hp} {l:Addr} {xs:List V} {rs:List (Addr × Addr)} {fls:List Fl} (h:jh H rs fls) (k:Keeps l H H') (el:H l=some (.lst xs)) (hl:l∉rs.map (·.2)):jh H' rs fls:=Paired.KN h λr hr f z=>by
 obtain⟨z1,z2⟩:=z
 exact⟨k.look z1 (λq=>by rw[q,el] at z1;cases z1),k.look z2 λq=>hl (by rw[←q];exact SH hr)⟩
def Za (t:z4):Sp:=λvs H Q _=>∃(kd:Str→Str) (q dx pq ka ma:Addr) (o:Ow) (n v b:Str),vs=[.ref q,.str n,.str v]∧ju t H q dx pq ka ma (mv kd o) o∧ka≠ma∧o.length≤200∧lk o v=some b∧∀H',Ms ka ma H H'→ju t H' q dx pq ka ma (mv kd (pu o n b)) (pu o n b)→Q .non H'
theorem Za.to {t:z4} {vs:List V} {H:Hp} {Q:VK} {E:XK} (h:Za t vs H Q E):YM t vs H Q E:=by
 obtain⟨kd,q,dx,pq,ka,ma,o,n,v,b,e,hS,h1,h2,hb,k⟩:=h
 exact⟨kd,q,dx,pq,ka,ma,o,n,v,e,hS,h1,h2,λz=>(by rw[hb] at z;cases z),λb2 h=>(by rw[hb] at h;cases h;exact k)⟩
def HK (t:z4):Nat→Sp
 | 0=>λ_ _ _ _=>False
 | n + 1=>λvs H Q _=>∃(B:Hp) (kd:Str→Str) (l q dx pq ka ma lr:Addr) (rows:List Rw) (ys:List V) (o o2:Ow) (zb:List Str) (d:Int) (fls:List Fl) (ps as:List Str) (rm0:List (Str × Str)) (rw:Rw),vs=[.ref l,.ref q,.ref lr,.int d]∧zf B H∧B l=some (.lst ys)∧qw t [] B rows ys∧vG rows≤n∧vo rows∧(∀e∈zE rows,e.ok)∧B lr=some (.lst (zb.map V.str))∧zb.length≤100∧ju t H q dx pq ka ma (mv kd o) o∧o.length + (zE rows).length≤190∧ka≠ma∧B ka=none∧B ma=none∧vp t B pq ps as rm0 rw∧ZR ps as rm0∧fi kd rows o zb d=some (fls,o2)∧
  ∀lt H' rs,zf B H'→B lt=none→H' lt=some (.lst (rs.map λr:Addr × Addr=>.ref r.1))→jh H' rs fls→(rs.map (·.2)).Nodup→(∀r∈rs,B r.1=none∧B r.2=none)→lt∉rs.map (·.2)→Q (.ref lt) H'
theorem iN {K:Ls} {a:Addr} {xs:List V} {E:L2.St→Hp→Prop} {B:V→L2.St→Hp→(L2.St→Hp→Prop)→Prop} {σ:L2.St} {H:Hp} (Pv:Nat→L2.St→Hp→Prop) (h0:Pv 0 σ H) (hl:∀i σ H,i≤xs.length→Pv i σ H→zK K H a xs)
  (hs:∀i x σ H,xs[i]?=some x→Pv i σ H→B x σ H (Pv (i + 1))) (hd:∀σ H,Pv xs.length σ H→E σ H) :
  ∃W:Nat→Nat→L2.St→Hp→Prop,(∃m,W 0 m σ H)∧∀i m σ H,W i m σ H→
   ((Gu K a).stop i H∧E σ H)∨((Gu K a).go i H∧∃N:L2.St→Hp→Prop,(∀σ' H',N σ' H'→∃m',m' < m∧W (i + 1) m' σ' H')∧∀x H',(Gu K a).VN i H x H'→B x σ H' N):=by
 (refine⟨λi m σ H=>m=xs.length - i∧i≤xs.length∧Pv i σ H,⟨xs.length,by simp,Sy _,h0⟩,?_⟩)
 rintro i m σ H ⟨rfl,hi,p⟩
 have q:=hl i σ H hi p
 by_cases hlt:i < xs.length
 ·(refine .inr ⟨⟨xs,xs[i],q,by simp [hlt]⟩,Pv (i + 1),λσ' H' p'=>⟨xs.length - (i + 1),by omega,rfl,hlt,p'⟩,λx H' y=>?_⟩)
  obtain⟨e,y⟩:=y
  subst e
  exact hs i x σ _ (y xs q) p
 ·(have e:i=xs.length:=by omega)
  subst e
  (exact .inl ⟨⟨xs,q,LF _⟩,hd σ H p⟩)
theorem Paired.PX {α β:Type} {F:α→β→Prop}:∀{xs:List α} {ys:List β},Paired F xs ys→xs.length=ys.length
 | _,_,.nil=>rfl
 | _,_,.cons _ t=>congrArg (· + 1) (Paired.PX t)
theorem jh.M0 {H:Hp} {rs:List (Addr × Addr)} {fls:List Fl} (h:jh H rs fls) {r:Addr × Addr} (hr:r∈rs):∃f,f∈fls∧H r.1=some (.tup (Gf f r.2))∧H r.2=some (.lst (f.zb.map V.str)):=by
 unfold jh at h
 induction h with
 | nil=>cases hr
 | cons z _ ih=>
  rcases La.mp hr with rfl | hr
  ·exact⟨_,Sw,z⟩
  ·obtain⟨f,hf,g⟩:=ih hr
   exact⟨f,LK _ hf,g⟩
theorem ju.keeps {t:z4} {H H':Hp} {q dx pq ka ma l:Addr} {ks ms:Ow} {xs:List V} (h:ju t H q dx pq ka ma ks ms) (k:Keeps l H H') (el:H l=some (.lst xs)):ju t H' q dx pq ka ma ks ms:=by
 obtain⟨a1,a2,a3⟩:=h
 exact⟨k.look a1 (λz=>by rw[z,el] at a1;cases a1),k.look a2 (λz=>by rw[z,el] at a2;cases a2),k.look a3 (λz=>by rw[z,el] at a3;cases a3)⟩
theorem ay {kd:Str→Str} {o:Ow} {rs zb cv:List Str} (h:bV kd o rs zb=some cv):cv.length≤zb.length:=by
 unfold bV at h
 split at h
 ·cases h;exact LF _
 ·obtain⟨ns,_,h⟩:=LJ.mp h
  cases h
  exact Ov _ _
theorem Rj (T:Txt K mg t) {H:Hp} {p:Addr} {k:Int} {l w a:Str} {n:Int} {r:Str} (h:At t H p k l w a n r):xm K H (.ref p) (.ref (yF t k)):=by
 obtain⟨dx,e⟩:=h
 obtain⟨fI,F⟩:=sY T k
 have key:Sf K (.ref (yF t k)) "__class__" = some (some (.builtin "object.__class__"))∧To K (yF t k) (.type "object")=some true:=by
  unfold yF
  split
  ·exact T.HD
  split
  ·exact T.Y8
  split
  ·exact T.F4
  split
  ·exact T.Gz
  ·exact T.VM
 exact xm.ins e F.cl key.1 T.JF T.Yw key.2
theorem R9 (T:Txt K mg t) {H:Hp} {p:Addr} {n m:Str} (h:BE t H p n m):xm K H (.ref p) (.ref t.j4):=by
 obtain⟨dx,e⟩:=h
 exact xm.ins e T.sG T.Y9.1 T.JF T.Yw T.Y9.2
theorem BE.fn (T:Txt K mg t) {H:Hp} {p:Addr} {n m:Str} (h:BE t H p n m):iB K H (.ref p) "name" (.str n):=by
 obtain⟨dx,e⟩:=h
 exact⟨p,_,dx,_,rfl,e,T.sG,T.rh,zS⟩
theorem BE.fv (T:Txt K mg t) {H:Hp} {p:Addr} {n m:Str} (h:BE t H p n m):iB K H (.ref p) "value" (.str m):=by
 obtain⟨dx,e⟩:=h
 exact⟨p,_,dx,_,rfl,e,T.sG,T.cq,(zt λq=>m1 (Tu q)).trans zS⟩
theorem Pq (T:Txt K mg t) {k:Int} (hk:k=0∨k=1∨k=2∨k=3):SQ K (.ref (yF t k)) (Wx (.ref t.zI))=some false:=by
 rcases hk with rfl | rfl | rfl | rfl
 ·exact T.aB
 ·exact T.oM
 ·exact T.Qu
 ·exact T.oU
theorem Pz (T:Txt K mg t) {k:Int} (hk:k=0∨k=1∨k=2∨k=3):SQ K (.ref (yF t k)) (Wx (.ref t.j4))=some false:=by
 rcases hk with rfl | rfl | rfl | rfl
 ·exact T.Qr
 ·exact T.aP
 ·exact T.Je
 ·exact T.aM
theorem G4 (T:Txt K mg t) {j:Nat} (hj:3≤j):qy P w K mg base zC j t.zV "bind" (Za t):=.mk' T.oI (pI (ib T) λ_ _ _ _ h=>h.to) T.sZ.bd hj
theorem K9 (T:Txt K mg t) {j:Nat} (hj:4≤j):qy P w K mg base zC j t.zV "copied" (Be t):=.mk' T.ly (lJ T) T.dZ.bd hj
theorem jH:zu ["rows","scope","rooms","depth","told","row","covered"] ["rows","scope","rooms","depth"] (zy mj):=by walk_at "sc"
theorem lG (T:Txt K mg t):∀n:Nat,ze P w K mg base zC (n + 8) t.xy t.xx ["rows","scope","rooms","depth"] ((HK t) n):=by
 intro n
 induction n
 ·exact T.jd.fn.ok jH (λvs H Q E h=>S6 h) (λcdv A outer s H vs Q E hr h=>S6 h)
 rename_i n ih
 have G_v_covered_by:ze P w K mg base zC (n + 8) t.wm t.vE ["part","scope","rooms"] (Ba t):=(lX T).mono (by omega)
 have G_v_flat_clause:ze P w K mg base zC (n + 8) t.vt t.vm ["clause","scope","rooms","depth"] (DV t):=(uY T).mono (by omega)
 have G_v_flat_rows:ze P w K mg base zC (n + 8) t.xy t.xx ["rows","scope","rooms","depth"] ((HK t) n):=ih
 refine T.jd.fn.ok jH (λvs H Q E h=>(by repeat (first | (rcases h with ⟨rfl,_⟩;rfl;done) | rcases h with ⟨_,h⟩))) (λcdv A outer s H vs Q E hr h=>?_)
 obtain⟨B,kd,l,q,dx,pq,ka,ma,lr,rows,ys,o,o2,zb,d,fls,ps,as,rm0,rw',rfl,sB,eyl,hR,hdp,hkk,hev,elr,hml,hS,hol,hkm,bka,bma,hA,hd,hfl,k⟩:=h
 refine⟨_,(zq (za (i:=4) jH.nd rfl (LL rfl) (zB zj) jZ)
   (zq (jy Su rfl (qp (K:=K) rfl (pv 0)) (zM (i:=5) jH.nd rfl (LL rfl))
    (zk (PS.join (zW (qt (zX (qL (K:=K) rfl) rfl T.qU SV (zz (pv 5) (zz (jk rfl T.WL (v:=.ref t.j4) rfl) zj))))
    (zk (zO (qg hr (pv 1) (zz (zT (K:=K) rfl (pv 5) rfl) (zz (zT (K:=K) rfl (pv 5) rfl) zj))))) (zk (PS.join (zW (qt (zX (qL (K:=K) rfl) rfl T.qU SV (zz (pv 5) (zz (jk rfl T.mU (v:=.ref t.zI) rfl) zj))))
    (zq (za (i:=6) jH.nd rfl (LL rfl) (zi G_v_covered_by hr rfl T.vM.mg T.vM.fn.kp T.vM.bd .nil zJ (zz (pv 5) (zz (pv 1) (zz (pv 2) zj)))))
   (zk (zO (qM LD PySem.F.slot_list_extend PySem.F.type_list_extend Vk (pv 4) (zz (zi G_v_flat_rows hr rfl T.jd.mg T.jd.fn.kp T.jd.bd .nil zJ (zz (zT (K:=K) rfl (pv 5) rfl) (zz (jb hr (pv 1)) (zz (pv 6) (zz (zo qf (pv 3) zx) zj))))) zj))))) (zk (zO (qM LD L5 L6 qj (pv 4) (zz (zi G_v_flat_clause hr rfl T.kI.mg T.kI.fn.kp T.kI.bd .nil zJ (zz (pv 5) (zz (pv 1) (zz (pv 2) (zz (pv 3) zj))))) zj)))))))))))
   (zk (zp (pv 4))))),?_⟩
 have hyl:=hR.len
 have hrl:=pW rows
 refine⟨Sy _,?_⟩
 intro lt H1 s1 hlt e1
 have blt:B lt=none:=sB.free hlt
 show zU 4 (V.ref lt) [some (.ref l),some (.ref q),some (.ref lr),some (.int d),none,none,none] _ _
 have eyl1:=s1 _ _ (sB _ _ eyl)
 refine⟨_,rfl,l,rfl,⟨_,zK.of eyl1⟩,?_⟩
 let Iv:xn:=λi σ H'=>(∃(rs:List (Addr × Addr)) (f:List Fl) (oi:Ow) (v5 v6:Option V),σ=[some (.ref l),some (.ref q),some (.ref lr),some (.int d),some (.ref lt),v5,v6]∧fi kd (rows.take i) o zb d=some (f,oi)∧zf B H'∧ju t H' q dx pq ka ma (mv kd oi) oi∧H' lt=some (.lst (rs.map λr=>.ref r.1))∧jh H' rs f∧(rs.map (·.2)).Nodup∧(∀r∈rs,B r.1=none∧B r.2=none)∧lt∉rs.map (·.2))∨False
 refine iN (K:=K) (a:=l) (xs:=ys) Iv
  (.inl ⟨[],[],o,_,_,rfl,by rw[NL,fi],sB.trans s1,hS.same s1,e1,.nil,IU,λ_ z=>(by cases z),λz=>(by cases z)⟩) (λi σ H' _ q=>(by obtain⟨_,_,_,_,_,_,_,z,_⟩:=q.resolve_right (λz=>z);exact zK.of (z _ _ eyl))) ?_ ?_
 ·intro i y σ H2 hi q2
  obtain⟨rs,f,oi,v5,v6,rfl,hfi,sB2,hS2,e2,hF2,nd2,fr2,nl2⟩:=q2.resolve_right λz=>z
  clear q2
  obtain⟨r,hr,hRw⟩:=qw.a8 hR hi
  have hk1:=hkk.a8 hr
  obtain⟨qr,hqr,hfs⟩:=Wn hfl hr hfi
  obtain⟨fb,hfa,hda⟩:=Qk hr
  have hoi:oi.length≤o.length + (rows.take i).length:=(dR hfi).2
  have hfil:f.length≤(zE (rows.take i)).length:=(dR hfi).1
  have htr:=pW (rows.take i)
  have hfal:=congrArg Tb hfa
  rw[Li,Li] at hfal
  have hrl2:=Paired.PX hF2
  have hRw2:jU t [] H2 r y:=hRw.move (Fm.of sB2) λ_ z=>.inl z
  show zU 5 y [some (.ref l),some (.ref q),some (.ref lr),some (.int d),some (.ref lt),v5,v6] _ _
  refine⟨λσ' H'=>(∃(rs:List (Addr × Addr)) (f:List Fl) (oi:Ow) (v5 v6:Option V),σ'=[some (.ref l),some (.ref q),some (.ref lr),some (.int d),some (.ref lt),v5,v6]∧fi kd (rows.take (i + 1)) o zb d=some (f,oi)∧zf B H'∧ju t H' q dx pq ka ma (mv kd oi) oi∧H' lt=some (.lst (rs.map λr=>.ref r.1))∧jh H' rs f∧(rs.map (·.2)).Nodup∧(∀r∈rs,B r.1=none∧B r.2=none)∧lt∉rs.map (·.2))∨False,?_,λ_ _ z=>z⟩
  cases r with
  | lt a b=>
   unfold jU at hRw2
   obtain⟨p,rfl,_,hL⟩:=hRw2
   rw[ae] at hqr
   obtain⟨x,hx,hqr⟩:=LJ.mp hqr
   cases hqr
   refine⟨_,rfl,_,_,_,_,rfl,.inr ⟨_,rfl⟩,R9 T hL,T.Ja,_,rfl,?_⟩
   refine dA ?_
   refine⟨_,rfl,q,_,dx,_,rfl,hS2.1,T.z9,Hj,_,G4 T (by omega),?_⟩
   refine⟨_,rfl,_,hL.fn T,_,rfl,_,hL.fv T,kd,q,dx,pq,ka,ma,oi,a,b,x,rfl,hS2,hkm,by omega,hx,λH3 k3 hS3=>?_⟩
   have sB3:zf B H3:=λc u e=>by rw[k3 c (zh e bka) (zh e bma)];exact sB2 c u e
   refine .inl ⟨rs,_,_,_,_,rfl,hfs,sB3,hS3,?_,?_,nd2,fr2,nl2⟩
   ·rw[k3 lt (λz=>by rw[z,hS2.2.1] at e2;cases e2) (λz=>by rw[z,hS2.2.2] at e2;cases e2)]
    exact e2
   ·rw[Sd]
    exact hF2.MO k3 hS2.2.1 hS2.2.2
  | cl k' l' u a n' r'=>
   unfold jU at hRw2
   obtain⟨p,rfl,_,hC⟩:=hRw2
   rw[mM] at hk1
   rw[ae] at hqr
   obtain⟨x,hx,hqr⟩:=LJ.mp hqr
   cases hqr
   refine⟨_,rfl,_,_,_,_,rfl,.inr ⟨_,rfl⟩,Rj T hC,Pz T hk1,_,rfl,?_⟩
   refine tG ?_
   refine⟨λσ' H'=>(∃(rs:List (Addr × Addr)) (f:List Fl) (oi:Ow) (v5 v6:Option V),σ'=[some (.ref l),some (.ref q),some (.ref lr),some (.int d),some (.ref lt),v5,v6]∧fi kd (rows.take (i + 1)) o zb d=some (f,oi)∧zf B H'∧ju t H' q dx pq ka ma (mv kd oi) oi∧H' lt=some (.lst (rs.map λr=>.ref r.1))∧jh H' rs f∧(rs.map (·.2)).Nodup∧(∀r∈rs,B r.1=none∧B r.2=none)∧lt∉rs.map (·.2))∨False,?_,λ_ _ z=>z⟩
   refine⟨_,rfl,_,_,_,_,rfl,.inr ⟨_,rfl⟩,Rj T hC,Pq T hk1,_,rfl,?_⟩
   refine tG ?_
   refine⟨_,rfl,.inl ⟨rfl,_,zK.of e2⟩,?_⟩
   refine⟨_,rfl,_,rfl,_,rfl,_,rfl,kd,p,q,dx,pq,ka,ma,lr,oi,k',l',u,a,n',r',zb,d,x,rfl,hC,hk1,hS2,sB2 _ _ elr,hx,λp' l2 H3 s3 hp' hl2 e3 e4=>?_⟩
   have e23:=s3 _ _ e2
   refine⟨lt,_,_,rfl,rfl,e23,zg (by rw[Ln];omega),?_⟩
   intro H4 k4 e5
   have nl3:lt≠l2:=zh e2 hl2
   have npt:p'≠lt:=λz=>by rw[z,e2] at hp';cases hp'
   have hF3:jh H3 (rs ++ [(p',l2)]) (f ++ [x]):=Paired.Kn (.cons ⟨e3,by
    have:x.zb=zb:=by
     unfold gI at hx
     obtain⟨_,_,hx⟩:=LJ.mp hx
     obtain⟨_,_,hx⟩:=LJ.mp hx
     obtain⟨_,_,hx⟩:=LJ.mp hx
     cases hx
     rfl
    rw[this]
    exact e4⟩ .nil) (hF2.same s3)
   have nl4:lt∉(rs ++ [(p',l2)]).map (·.2):=λz=>by
    rw[LY] at z
    rcases LU.mp z with z | z
    ·exact nl2 z
    ·exact nl3 (LW.mp z)
   refine .inl ⟨rs ++ [(p',l2)],_,_,_,_,rfl,hfs,λc u e=>?_,hS2.same s3 |>.keeps k4 e23,?_,hF3.keeps k4 e23 nl4,?_,?_,nl4⟩
   ·rw[k4 c (zh e blt)]
    exact s3 _ _ (sB2 c u e)
   ·rw[e5,LY]
    rfl
   ·rw[LY]
    refine SG.mpr ⟨nd2,by simp,λa ha b hb z=>?_⟩
    have hb':b=l2:=LW.mp hb
    subst hb'
    subst z
    obtain⟨r0,hr0,rfl⟩:=SX.mp ha
    obtain⟨f0,_,_,g⟩:=hF2.M0 hr0
    rw[hl2] at g
    cases g
   ·intro r0 hr0
    rcases LU.mp hr0 with hr0 | hr0
    ·exact fr2 r0 hr0
    ·rw[LW.mp hr0]
     exact⟨sB2.free hp',sB2.free hl2⟩
  | pt n' rs' rows'=>
   unfold jU at hRw2
   obtain⟨p,dxp,pa,pb,ys',rfl,_,_,_,ep,ea,eb,hRs⟩:=hRw2
   rw[ae] at hqr
   obtain⟨cv,hcv,hqr⟩:=LJ.mp hqr
   obtain⟨z,hz,hqr⟩:=LJ.mp hqr
   cases hqr
   have tyP:xm K H2 (.ref p) (.ref t.zI):=xm.ins ep T.kM T.Kr.1 T.JF T.Yw T.Kr.2
   refine⟨_,rfl,_,_,_,_,rfl,.inr ⟨_,rfl⟩,tyP,T.Ql,_,rfl,?_⟩
   refine tG ?_
   refine⟨λσ' H'=>(∃(rs:List (Addr × Addr)) (f:List Fl) (oi:Ow) (v5 v6:Option V),σ'=[some (.ref l),some (.ref q),some (.ref lr),some (.int d),some (.ref lt),v5,v6]∧fi kd (rows.take (i + 1)) o zb d=some (f,oi)∧zf B H'∧ju t H' q dx pq ka ma (mv kd oi) oi∧H' lt=some (.lst (rs.map λr=>.ref r.1))∧jh H' rs f∧(rs.map (·.2)).Nodup∧(∀r∈rs,B r.1=none∧B r.2=none)∧lt∉rs.map (·.2))∨False,?_,λ_ _ z=>z⟩
   refine⟨_,rfl,_,_,_,_,rfl,.inr ⟨_,rfl⟩,tyP,T.aF,_,rfl,?_⟩
   refine dA ?_
   have hpe:(Ew.pt n' rs').ok:=hev _ (by rw[hfa,jX];simp)
   have hsub:∀e∈zE rows',e.ok:=λe he=>hev e (by rw[hfa,jX];simp [he])
   rw[jX,LQ,Li] at hfal
   rw[sO] at hda
   rw[mM] at hk1
   refine⟨_,rfl,_,rfl,_,rfl,kd,p,dxp,pa,pb,q,dx,pq,ka,ma,lr,oi,n',rs',zb,cv,rfl,ep,ea,by have:=hpe.2.2;omega,λx hx=>(yI (hpe.2.1 x hx)).ok,hml,hS2,sB2 _ _ elr,hcv,λlc H3 s3 e3=>?_⟩
   have hS3:=hS2.same s3
   have sB3:=sB2.trans s3
   have e23:=s3 _ _ e2
   show zU 6 (V.ref lc) [some (.ref l),some (.ref q),some (.ref lr),some (.int d),some (.ref lt),some (.ref p),v6] _ _
   refine⟨_,rfl,.inl ⟨rfl,_,zK.of e23⟩,?_⟩
   refine⟨_,rfl,_,⟨p,_,dxp,_,rfl,s3 _ _ ep,T.kM,T.gK,(zt λq=>m3 (Tu q)).trans ((zt λq=>m4 (Tu q)).trans zS)⟩,?_⟩
   refine⟨_,rfl,q,_,dx,_,rfl,hS3.1,T.z9,Vv,_,K9 T (by omega),?_⟩
   refine⟨q,dx,pq,ka,ma,_,_,ps,as,rm0,rw',rfl,hS3,hA.same sB3,hd,λq' dx' ka' ma' H4 s4 hS4 nq nka nma nkm=>?_⟩
   refine⟨_,rfl,_,rfl,_,_,rfl,rfl,?_⟩
   cases n with
   | zero=>omega
   | succ n=>
    refine⟨H3,kd,pb,q',dx',pq,ka',ma',lc,rows',ys',oi,z.2,cv,d + 1,z.1,ps,as,rm0,rw',rfl,s4,s3 _ _ eb,hRs.move (Fm.of s3) (λ_ z=>.inl z),by omega,hk1,hsub,e3,by have:=ay hcv;omega,hS4,by omega,nkm,nka,nma,hA.same sB3,hd,hz,λl2 H5 rs2 s5 bl2 e5 hF5 nd5 fr5 nl5=>?_⟩
    have e25:=s5 _ _ e23
    have hrl5:=Paired.PX hF5
    have hzl:=(dR hz).1
    refine⟨lt,l2,_,_,rfl,rfl,e25,e5,zg (by rw[Ln,Ln];omega),?_⟩
    intro H6 k6 e6
    have hin3:∀r∈rs,(∃u,H3 r.1=some u)∧∃u,H3 r.2=some u:=λr hr=>by
     obtain⟨f0,_,g1,g2⟩:=(hF2.same s3).M0 hr
     exact⟨⟨_,g1⟩,_,g2⟩
    have nl6:lt∉(rs ++ rs2).map (·.2):=λz=>by
     rw[LY] at z
     rcases LU.mp z with z | z
     ·exact nl2 z
     ·obtain⟨r0,hr0,hz0⟩:=SX.mp z
      have:=(fr5 r0 hr0).2
      rw[hz0,e23] at this
      cases this
    refine .inl ⟨rs ++ rs2,_,_,_,_,rfl,hfs,λc u e=>?_,(hS3.same s5).keeps k6 e25,?_,jh.keeps (Paired.Kn hF5 ((hF2.same s3).same s5)) k6 e25 nl6,?_,?_,nl6⟩
    ·rw[k6 c (zh e blt)]
     exact s5 _ _ (sB3 c u e)
    ·rw[e6,LY]
    ·rw[LY]
     refine SG.mpr ⟨nd2,nd5,λa ha b hb z=>?_⟩
     subst z
     obtain⟨r0,hr0,h0⟩:=SX.mp ha
     obtain⟨r1,hr1,h1⟩:=SX.mp hb
     obtain⟨u,hu⟩:=(hin3 r0 hr0).2
     have:=(fr5 r1 hr1).2
     rw[h1,←h0,hu] at this
     cases this
    ·intro r0 hr0
     rcases LU.mp hr0 with hr0 | hr0
     ·exact fr2 r0 hr0
     ·exact⟨sB3.free (fr5 r0 hr0).1,sB3.free (fr5 r0 hr0).2⟩
 intro σ H2 q2
 obtain⟨rs,f,oi,v5,v6,rfl,hfi,sB2,hS2,e2,hF2,nd2,fr2,nl2⟩:=q2.resolve_right λz=>z
 rw[hyl,SE,hfl] at hfi
 cases hfi
 walk_at "rd"
 exact k lt H2 rs sB2 blt e2 hF2 nd2 fr2 nl2
theorem nW (T:Txt K mg t):ze P w K mg base zC 15 t.xy t.xx ["rows","scope","rooms","depth"] ((HK t) 7):=lG T 7
noncomputable def rj (H:Hp) (a b:Addr):Hp:=λx=>if x=a∨x=b then none else H x
theorem Jh {H:Hp} {a b:Addr}:zf (rj H a b) H:=λx o e=>by
 unfold rj at e
 split at e
 ·cases e
 ·exact e
theorem Wc {H0 H:Hp} {a b:Addr} (s:zf H0 H) (ha:H0 a=none) (hb:H0 b=none):zf H0 (rj H a b):=λx o e=>by
 unfold rj
 rw[if_neg λz=>z.elim (zh e ha) (zh e hb)]
 exact s x o e
theorem Wd {H:Hp} {a b x:Addr} {o:HO} (e:H x=some o) (h1:x≠a) (h2:x≠b):rj H a b x=some o:=by
 unfold rj
 rw[if_neg λz=>z.elim h1 h2]
 exact e
def YU (t:z4):Sp:=λvs H Q _=>∃(pq:Addr) (ps as:List Str) (zb:List (Str × Str)) (rows:List Rw) (fls:List Fl) (o2:Ow),vs=[.ref pq]∧vp t H pq ps as zb (.pt "whole" [] rows)∧ZR ps as zb∧vG rows≤6∧vo rows∧(∀e∈zE rows,e.ok)∧(zE rows).length≤160∧fi (xB ps as zb) rows (wD (j5 ps as zb)) (zb.map (·.2)) 0=some (fls,o2)∧
 ∀lt H' rs,zf H H'→H lt=none→H' lt=some (.lst (rs.map λr:Addr × Addr=>.ref r.1))→jh H' rs fls→(rs.map (·.2)).Nodup→(∀r∈rs,H r.1=none∧H r.2=none)→lt∉rs.map (·.2)→Q (.ref lt) H'
theorem RK {a b c:Addr} {x:V}:(Bj a b c x).lookup ("whole" : Str)=some x:=(zt λq=>a3 (Tu q)).trans ((zt λq=>a5 (Tu q)).trans ((zt λq=>a6 (Tu q)).trans zS))
theorem Va:zu ["pact"] ["pact"] (zy nL):=by walk_at "sc"
theorem Vg (T:Txt K mg t):ze P w K mg base zC 16 t.tf t.sF ["pact"] (YU t):=by
 have G_v_flat_rows:=@ze.mono P w K mg base _ _ 15 _ _ _ _ (nW T) (by decide)
 have M_Scope_init:=@ze.mono P w K mg base _ _ 14 _ _ _ _ (fU T) (by decide)
 refine T.du.fn.ok Va (by walk_at "ln") ?_;walk_at "hd"
 obtain⟨pq,ps,as,zb,rows,fls,o2,rfl,hA,hd,hdp,hk,hev,hfl,hF,k⟩:=h
 refine⟨_,(zk (zp (zi G_v_flat_rows hr rfl T.jd.mg T.jd.fn.kp T.jd.bd .nil zJ (zz (zT (K:=K) rfl (zT (K:=K) rfl (pv 0) rfl) rfl) (zz (qH T.QQ M_Scope_init hr rfl T.X6 T.md.bd .nil zJ (zz (pv 0) zj)) (zz (vR (osc:=zy nL) (N:=["pact"]) (xs:=["mark","name"]) (names:=[]) (zR:=[]) rfl rfl rfl ⟨rfl,by decide +kernel,by decide +kernel,by decide +kernel,by decide +kernel,rfl,by decide +kernel,by decide +kernel⟩ (qp (K:=K) rfl (zT (K:=K) rfl (pv 0) rfl)) (λ_ _ _=>(vB (K:=K) (n:=2) rfl rfl (qu (zM (i:=0) (show (["mark","name"]:List Str).Nodup from by decide +kernel) rfl (.inl (wC rfl)) (.inr (wC rfl))) (qu (zM (i:=1) (show (["mark","name"]:List Str).Nodup from by decide +kernel) rfl (.inl (wC rfl)) (.inr (wC rfl))) vP)) rfl rfl)) (λ_ _ _=>lT) (λ_ _ _=>(pv 1))) (zz zx zj))))))),?_⟩
 have r2:=hd.r2
 obtain⟨dxp,lp,la,lr,xw,vs,epq,elp,ela,elr,hR,hW⟩:=id hA
 have hvl:vs.length=zb.length:=SW hR
 unfold jU at hW
 obtain⟨pw,dxw,wa,wb,ys,rfl,_,_,_,epw,ewa,ewb,hRs⟩:=hW
 refine⟨_,rfl,_,⟨pq,_,dxp,_,rfl,epq,T.vV,T.fP,RK⟩,_,⟨pw,_,dxw,_,rfl,epw,T.kM,T.gK,(zt λq=>m3 (Tu q)).trans ((zt λq=>m4 (Tu q)).trans zS)⟩,?_⟩
 refine⟨_,rfl,?_⟩
 intro q dx hq hdx hne
 have sM:=jN (o:=HO.own q) (o2:=HO.ins t.zV dx []) hq hdx
 refine⟨q,dx,pq,ps,as,zb,_,rfl,zm,hA.same sM,hd,λH1 ka ma o1 hS1 n1 n2 hkm=>⟨rfl,?_⟩⟩
 have s1:zf H H1:=yO hq hdx o1
 have n1':=sM.free n1
 have n2':=sM.free n2
 have elr1:=s1 _ _ elr
 have hR1:Paired (j6 H1) vs zb:=Paired.imp' (λ_ _ z=>z.same s1) hR
 refine⟨_,rfl,_,⟨pq,_,dxp,_,rfl,s1 _ _ epq,T.vV,T.yV,UK⟩,lr,rfl,⟨_,zK.of elr1⟩,?_⟩
 refine uq (xW (zK.of elr1)) (Jq H1) (ZP H1) (λy v=>∀p m n,y=V.ref p→H1 p=some (.tup [.str m,.str n])→v=V.str n) (zg (by omega)) ?_ ?_ ?_
 ·intro j y ts H' K' hy hts s' k'
  obtain⟨mn,_,p',rfl,ep⟩:=Paired.Vz hR1 (LC hy)
  have et:Jq H1 (.ref p')=[some (.str mn.1),some (.str mn.2)]:=by unfold Jq;simp only[ep]
  rw[et] at k'
  match ts,hts with
  | [t1,t2],_=>exact⟨p',_,rfl,jt.of (s' _ _ ep),rfl,_,_,rfl,_,_,rfl,rfl,k'⟩
 ·intro j y H' Q' hy s' kk
  obtain⟨mn,_,p',rfl,ep⟩:=Paired.Vz hR1 (LC hy)
  have et:Jq H1 (.ref p')=[some (.str mn.1),some (.str mn.2)]:=by unfold Jq;simp only[ep]
  rw[et]
  refine⟨_,rfl,kk _ _ (zf.refl _) λp2 m2 n2 e q=>?_⟩
  cases e
  rw[ep] at q
  cases q
  rfl
 intro D H2 ys2 s2 hD e2 hPr
 rw[dz hR1 hPr] at e2
 have hS2:=hS1.same s2
 have sH2:=s1.trans s2
 have sB:zf H (rj H2 ka ma):=Wc sH2 n1' n2'
 have hk0:=aH hd
 have hol:(wD (j5 ps as zb)).length=(j5 ps as zb).length:=Ln ..
 have hmv:=G8 hd
 have hS3:ju t H2 q dx pq ka ma (mv (xB ps as zb) (wD (j5 ps as zb))) (wD (j5 ps as zb)):=by rw[hmv];exact hS2
 refine⟨rj H2 ka ma,xB ps as zb,wb,q,dx,pq,ka,ma,D,rows,ys,wD (j5 ps as zb),o2,zb.map (·.2),0,fls,ps,as,zb,_,rfl,Jh,sB _ _ ewb,hRs.move (Fm.of sB) (λ_ z=>.inl z),by omega,hk,hev,Wd e2 (zh hS1.2.1 hD).symm (zh hS1.2.2 hD).symm,by rw[Ln];omega,hS3,by omega,hkm,if_pos (.inl rfl),if_pos (.inr rfl),hA.same sB,hd,hF,λlt H' rs s' blt e' hF' nd fr nl=>?_⟩
 exact k lt H' rs (sB.trans s') (sB.free blt) e' hF' nd (λr hr=>⟨sB.free (fr r hr).1,sB.free (fr r hr).2⟩) nl
noncomputable def Ew.ZL:Ew→Option (Int × Str × Str × Str × Int × Str)
 | .mu l u a n r=>some (0,l,u,a,n,r)
 | .my l u a=>some (1,l,u,a,0,"")
 | .bn l u a r=>some (2,l,u,a,0,r)
 | .pw l u a r=>some (3,l,u,a,0,r)
 | _=>none
noncomputable def Gd (kd:Str→Str) (e:Ew):List (Ow × List Str)→Option (List Fl × List (Ow × List Str))
 | []=>none
 | (o,zb) :: st=>match e with
  | .lt a b=>(lk o b).bind λx=>some ([],(pu o a x,zb) :: st)
  | .pt _ rs=>(bV kd o rs zb).bind λcv=>some ([],(o,cv) :: (o,zb) :: st)
  | .dn=>if st=[] then none else some ([],st)
  | e=>e.ZL.bind λc=>(gI kd o c.1 c.2.1 c.2.2.1 c.2.2.2.1 c.2.2.2.2.1 c.2.2.2.2.2 zb st.length).bind λf=>some ([f],(o,zb) :: st)
noncomputable def xH (kd:Str→Str):List Ew→List (Ow × List Str)→Option (List Fl × List (Ow × List Str))
 | [],st=>some ([],st)
 | e :: es,st=>(Gd kd e st).bind λp=>(xH kd es p.2).bind λq=>some (p.1 ++ q.1,q.2)
theorem pG (kd:Str→Str) (bs:List Ew):∀(as:List Ew) (st:List (Ow × List Str)),xH kd (as ++ bs) st=(xH kd as st).bind λp=>(xH kd bs p.2).bind λq=>some (p.1 ++ q.1,q.2)
 | [],st=>by
  rw[Sr,xH,LX]
  cases xH kd bs st with
  | none=>rfl
  | some q=>rfl
 | e :: as,st=>by
  rw[SA,xH,xH]
  cases Gd kd e st with
  | none=>rfl
  | some p=>
   rw[LX,LX,pG kd bs as p.2]
   cases xH kd as p.2 with
   | none=>rfl
   | some q=>
    rw[LX,LX,LX]
    cases xH kd bs q.2 with
    | none=>rfl
    | some z=>rw[LX,LX,LX,SY]
theorem wB (kd:Str→Str) (e:Ew) (st:List (Ow × List Str)):xH kd [e] st=Gd kd e st:=by
 rw[xH]
 cases Gd kd e st with
 | none=>rfl
 | some p=>rw[LX,xH,LX,Sd]
theorem XQ {kd:Str→Str} {o:Ow} {k:Int} {l u a:Str} {n:Int} {r:Str} {zb:List Str} {d:Int} (h1:k≠0):gI kd o k l u a n r zb d=gI kd o k l u a 0 r zb d:=by
 unfold gI Yj
 simp only[if_neg h1]
theorem GX {kd:Str→Str} {o:Ow} {l u a:Str} {n:Int} {r:Str} {zb:List Str} {d:Int}:gI kd o 1 l u a n r zb d=gI kd o 1 l u a 0 "" zb d:=by
 unfold gI Yj uJ
 rfl
mutual
theorem Ha (kd:Str→Str):∀(r:Rw),mM r→∀(o:Ow) (zb:List Str) (st:List (Ow × List Str)),xH kd (jX r) ((o,zb) :: st)=(ae kd r o zb st.length).bind λp=>some (p.1,(p.2,zb) :: st)
 | .lt a b,_,o,zb,st=>by
  rw[jX,wB,ae]
  show (lk o b).bind _=_
  cases lk o b<;>rfl
 | .cl k l u a n r,hk,o,zb,st=>by
  rw[mM] at hk
  rw[ae]
  rcases hk with rfl | rfl | rfl | rfl
  ·rw[jX,if_pos rfl,wB]
   show (gI kd o 0 l u a n r zb st.length).bind (λf=>some ([f],(o,zb) :: st))=_
   cases gI kd o 0 l u a n r zb st.length<;>rfl
  ·rw[jX,if_neg (by decide),if_pos rfl,wB]
   show (gI kd o 1 l u a 0 "" zb st.length).bind (λf=>some ([f],(o,zb) :: st))=_
   rw[GX (n:=n) (r:=r)]
   cases gI kd o 1 l u a 0 "" zb st.length<;>rfl
  ·rw[jX,if_neg (by decide),if_neg (by decide),if_pos rfl,wB]
   show (gI kd o 2 l u a 0 r zb st.length).bind (λf=>some ([f],(o,zb) :: st))=_
   rw[XQ (n:=n) (by decide)]
   cases gI kd o 2 l u a 0 r zb st.length<;>rfl
  ·rw[jX,if_neg (by decide),if_neg (by decide),if_neg (by decide),wB]
   show (gI kd o 3 l u a 0 r zb st.length).bind (λf=>some ([f],(o,zb) :: st))=_
   rw[XQ (n:=n) (by decide)]
   cases gI kd o 3 l u a 0 r zb st.length<;>rfl
 | .pt n rs rows,hk,o,zb,st=>by
  rw[mM] at hk
  rw[jX,xH,ae]
  show OA ((bV kd o rs zb).bind _) _=_
  cases bV kd o rs zb with
  | none=>rfl
  | some cv=>
   rw[LX,LX,pG,Zc kd rows hk o cv ((o,zb) :: st)]
   rw[show (((o,zb) :: st).length:Int)=(st.length:Int) + 1 by rw[LQ];omega,LX]
   cases fi kd rows o cv ((st.length:Int) + 1) with
   | none=>rfl
   | some p=>
    rw[LX,LX,wB]
    show OA (OA (if (o,zb) :: st=[] then none else some ([],(o,zb) :: st)) _) _=_
    rw[if_neg (by simp),LX,LX,LX,LX]
    simp
theorem Zc (kd:Str→Str):∀(rows:List Rw),vo rows→∀(o:Ow) (zb:List Str) (st:List (Ow × List Str)),xH kd (zE rows) ((o,zb) :: st)=(fi kd rows o zb st.length).bind λp=>some (p.1,(p.2,zb) :: st)
 | [],_,o,zb,st=>by rw[zE,xH,fi];rfl
 | r :: rs,hk,o,zb,st=>by
  rw[vo] at hk
  rw[zE,pG,Ha kd r hk.1 o zb st,fi]
  cases ae kd r o zb st.length with
  | none=>rfl
  | some p=>
   rw[LX,LX,LX,Zc kd rs hk.2 p.2 zb st]
   cases fi kd rs p.2 zb st.length with
   | none=>rfl
   | some q=>rfl
end
def rM (kd:Str→Str) (K0 o:Ow):Prop:=∀z b,lk o z=some b→lk K0 b=some (kd b)∧zZ b=true
noncomputable def Yp (kd:Str→Str) (o:Ow) (ws:List Str):V→Bool
 | .str z=>match lk o z with
  | some b=>decide (kd b∈ws)
  | none=>false
 | _=>false
theorem JI {kd:Str→Str} {o:Ow} {ws:List Str} {z b:Str} (hb:lk o z=some b):Yp kd o ws (.str z)=decide (kd b∈ws):=by
 show (match lk o z with | some b=>decide (kd b∈ws) | none=>false)=_
 rw[hb]
def Me (kd:Str→Str) (o:Ow) (ws:List Str) (x:Str):Prop:=(x = ""∧∀z b,lk o z=some b→kd b∉ws)∨(zZ x=true∧∃b,lk o x=some b∧kd b∈ws)
def ZK (K:Ls):Sp:=λvs H Q _=>∃(p d tw:Addr) (c:Int) (ps as:List Str) (zb:List (Str × Str)) (o:Ow) (ws:List Str) (num:Int),vs=[.ref p,.ref d,.ref tw,.int num]∧mf H p c ps as zb∧ZR ps as zb∧H d=some (.dK (dS o))∧jt K H tw (ws.map V.str)∧rM (xB ps as zb) (j5 ps as zb) o∧(∀q∈o,zZ q.1=true)∧o.length≤100∧0≤num∧∀x H',zf H H'→Me (xB ps as zb) o ws x→Q (.str x) H'
theorem JJ {o:Ow} {p:Str × Str} (h:p∈o):∃b,lk o p.1=some b:=by
 unfold lk
 cases q:o.find? λx=>decide (x.1=p.1) with
 | some y=>exact⟨_,rfl⟩
 | none=>
  have:=List.find?_eq_none.mp q p h
  simp at this
theorem Pk {o:Ow} {i:Nat} {y:V} (h:((dS o).map λkv=>kV kv.1)[i]?=some y):∃p∈o,y=.str p.1:=by
 unfold dS at h
 rw[TQ,LV] at h
 cases q:o[i]? with
 | none=>rw[q] at h;cases h
 | some p=>rw[q] at h;exact⟨p,LC q,(L8 h).symm⟩
theorem GR {H H1 H2:Hp} {d:Addr} {od:Obj} {kvs:List (Key × V)} (e:H d=some (.dK kvs)) (s1:zf H H1) (s2:zf (upd H1 d (.frz od (.dK kvs))) H2):zf H (upd H2 d (.dK kvs)):=λb u q=>by
 by_cases hb:b=d
 ·subst hb
  rw[e] at q
  cases q
  exact zm
 ·rw[zP hb]
  exact s2 b u (by rw[zP hb];exact s1 b u q)
theorem uL:zu ["_law_header_here","_law_scope_here","_law_wanted","_law_number","_law_kinds_here","_law_fit"] ["_law_header_here","_law_scope_here","_law_wanted","_law_number"] (zy nE):=by walk_at "sc"
theorem uB (T:Txt K mg t):ze P w K mg base zC 2 t.bO t.bM ["_law_header_here","_law_scope_here","_law_wanted","_law_number"] (ZK K):=by
 have G_w_kinds:=@ze.mono P w K mg base _ _ 1 _ _ _ _ (m6 T) (by decide)
 refine T.xq.fn.ok uL (by walk_at "ln") ?_;walk_at "hd"
 obtain⟨p,d,tw,c,ps,as,zb,o,ws,num,rfl,hH,hd,ed,hT,hB,hnm,hol,hn,k⟩:=h
 refine⟨_,(zq (za (i:=4) uL.nd rfl (IP rfl) (zi G_w_kinds hr rfl T.vz.mg T.vz.fn.kp T.vz.bd .nil zJ (zz (pv 0) zj)))
   (zq (Hr (iu (i:=5) (osc:=zy nE) (N:=["_law_header_here","_law_scope_here","_law_wanted","_law_number","_law_kinds_here","_law_fit"]) (xs:=["_law_name"]) (names:=["_law_wanted","_law_kinds_here","_law_scope_here"]) (zR:=[2,4,1]) rfl rfl rfl uL.nd ⟨rfl,by decide +kernel,by decide +kernel,by decide +kernel,by decide +kernel,rfl,by decide +kernel,by decide +kernel⟩ rfl rfl (Hd (pv 1)) (λ_ _ _=>(zM (i:=0) (show (["_law_name","_law_wanted","_law_kinds_here","_law_scope_here"]:List Str).Nodup from by decide +kernel) rfl (.inl (wC rfl)) (.inr (wC rfl)))) (λ_ _ _=>(Zb (zd (nH (K:=K) rfl) (qG (qo hr) (pv 2) (qG (qo hr) (pv 3) (pv 0) (λ_ _=>rfl)) (λ_ _=>rfl)) (pv 1) rfl))) (λ_ _ _=>(pv 0))))
   (zq (zW (zd (p5 (K:=K) rfl hr.units) (pv 5) (zB zj) (zQ _))
    (zk (zp zw)) zr)
   (zk (zp (zc (zv (K:=K) rfl) (pv 5) (zo z6 (pv 3) (zX (zG (K:=K) rfl) rfl T.qJ L4 (zz (pv 5) zj))) (λ_ _=>rfl))))))),?_⟩
 refine⟨_,rfl,p,c,ps,as,zb,rfl,hH,hd,λd0 H1 s1 hd0 e0=>?_⟩
 have ed1:=s1 _ _ ed
 have hne:d0≠d:=(zh ed hd0).symm
 show zU 4 (V.ref d0) [some (.ref p),some (.ref d),some (.ref tw),some (.int num),none,none] _ _
 refine⟨_,rfl,d,_,rfl,ed1,λod=>?_⟩
 generalize hHF:upd H1 d (.frz od (.dK (dS o)))=HF
 have ef:HF d=some (.frz od (.dK (dS o))):=by rw[←hHF];exact zm
 have e0f:HF d0=some (.dK (dS (j5 ps as zb))):=by rw[←hHF,zP hne];exact e0
 have hTf:jt K HF tw (ws.map V.str):=by
  rcases s1.DX hT with (h | ⟨oo,h⟩) | h
  ·exact .inl (.inl (by rw[←hHF,zP λz=>by rw[z,ed1] at h;cases h];exact h))
  ·exact .inl (.inr ⟨oo,by rw[←hHF,zP λz=>by rw[z,ed1] at h;cases h];exact h⟩)
  ·exact .inr h
 show sd _ _ _ _ _ _ [some (.ref p),some (.ref d),some (.ref tw),some (.int num),some (.ref d0),none] _ _
 refine aw (VQ ef) (Yp (xB ps as zb) o ws) (λy v=>v=y) (zg (by rw[Ln,vI];omega)) ?_ ?_ ?_
 ·intro i y H' Q' hy s' k'
  obtain⟨q,hq,rfl⟩:=Pk hy
  obtain⟨b,hb⟩:=JJ hq
  obtain⟨hk0,hnb⟩:=hB q.1 b hb
  have g1:jC H' d (kV (.inr q.1)) (some (V.str b)):=by
   have:jC H' d (kV (.inr q.1)) (j9 (dS o) (.inr q.1)):=.inl ⟨_,_,.inr ⟨od,s' _ _ ef⟩,rfl,rfl⟩
   rw[kB,hb] at this
   exact this
  have g0:jC H' d0 (kV (.inr b)) (some (V.str (xB ps as zb b))):=by
   have:=jC.k (k:=.inr b) (s' _ _ e0f)
   rw[kB,hk0] at this
   exact this
  rw[JI hb,←kN] at k'
  refine⟨_,rfl,_,rfl,_,rfl,d,_,rfl,g1,d0,_,rfl,g0,_,rfl,tw,_,rfl,.inr (s'.DX hTf),rfl,xY ws,_,rfl,?_⟩
  exact k' _ (zf.refl _)
 ·intro i y H' Q' hy _ s' k'
  exact⟨_,rfl,k' _ _ (zf.refl _) rfl⟩
 intro D H2 ys s2 hD e2 hP
 obtain rfl:=uF hP
 obtain⟨zs,hzs,hzp,hz0'⟩:∃zs:List Str,(((dS o).map λkv=>kV kv.1).filter (Yp (xB ps as zb) o ws))=zs.map V.str∧(∀z∈zs,zZ z=true∧∃b,lk o z=some b∧xB ps as zb b∈ws)∧(zs=[]→∀z b,lk o z=some b→xB ps as zb b∉ws):=by
  refine⟨(o.map (·.1)).filter λz=>Yp (xB ps as zb) o ws (.str z),?_,λz hz=>?_,λhz z b hb hin=>?_⟩
  ·unfold dS
   rw[TQ]
   have:∀l:Ow,(l.map ((λkv:Key × V=>kV kv.1) ∘ λp:Str × Str=>((N7 p.1:Key),V.str p.2))).filter (Yp (xB ps as zb) o ws)=((l.map (·.1)).filter λz=>Yp (xB ps as zb) o ws (.str z)).map V.str:=λl=>by
    induction l with
    | nil=>rfl
    | cons x l ih=>
     rw[LR,LR,Nr,Nr,ih]
     show (if Yp (xB ps as zb) o ws (.str x.1)=true then _ else _)=_
     split
     ·rfl
     ·rfl
   exact this o
  ·obtain⟨h1,h2⟩:=N2.mp hz
   obtain⟨q,hq,rfl⟩:=SX.mp h1
   obtain⟨b,hb⟩:=JJ hq
   refine⟨hnm q hq,b,hb,?_⟩
   have h3:Yp (xB ps as zb) o ws (.str q.1)=true:=h2
   rw[JI hb] at h3
   exact zzB h3
  ·have hm:z∈(o.map (·.1)).filter λz=>Yp (xB ps as zb) o ws (.str z):=N2.mpr ⟨SH (X3 hb),by show Yp (xB ps as zb) o ws (.str z)=true;rw[JI hb];exact zzP hin⟩
   rw[hz] at hm
   cases hm
 have hzl:zs.length≤100:=by
  have:=congrArg Tb hzs
  rw[Ln] at this
  have h2:=Ov (Yp (xB ps as zb) o ws) ((dS o).map λkv=>kV kv.1)
  rw[Ln,vI] at h2
  omega
 rw[hzs] at e2
 rw[←hHF] at s2
 have sH:zf H (upd H2 d (.dK (dS o))):=GR ed s1 s2
 have hDd:D≠d:=λz=>by rw[z,ef] at hD;cases hD
 have e3:upd H2 d (.dK (dS o)) D=some (.lst (zs.map V.str)):=by rw[zP hDd];exact e2
 show zU 5 (V.ref D) [some (.ref p),some (.ref d),some (.ref tw),some (.int num),some (.ref d0),none] _ _
 refine⟨d,od,_,s2 _ _ zm,λoo x z=>?_,?_⟩
 ·have z':H d=some (.frz oo x):=z
  rw[ed] at z'
  cases z'
 generalize upd H2 d (.dK (dS o))=H3 at sH e3
 refine⟨_,rfl,Sy _,?_⟩
 intro l0 H4 s4 hl0 e4
 have sh1:SI (.list (zs.map S0))=true:=qV λz hz=>(yI (hzp z hz).1).ok
 have sh2:SI (.list (([]:List Str).map S0))=true:=qV λx hx=>by cases hx
 have e34:=s4 _ _ e3
 refine⟨_,_,dt.lst (zK.of e34) (vj.strs _),dt.lst (zK.of e4) (vj.strs []),sh1,sh2,?_⟩
 rw[bU]
 walk_at "rd"
 walk_at "x3"
 ·walk_at "rd"
  exact k _ H4 (sH.trans s4) (.inl ⟨rfl,hz0' (zzB h1)⟩)
 ·have hz0:0 < zs.length:=OK.mpr λz=>h1 (zzP z)
  have v0:0≤num % (zs.length:Int):=Sb _ (by omega)
  have v1:num % (zs.length:Int) < (zs.length:Int):=Sx _ (by omega)
  refine⟨_,rfl,_,rfl,_,rfl,D,_,rfl,.inl (zK.of e34),?_⟩
  rw[Ln]
  refine⟨_,_,rfl,rfl,(show (0:Int) < (zs.length:Int) by omega),D,_,_,_,rfl,rfl,zK.of e34,bJ v0 v1,?_⟩
  refine k _ H4 (sH.trans s4) (.inr (hzp _ ?_))
  rw[L7,Le (show (num % (zs.length:Int)).toNat < zs.length by omega)]
  exact T5 _
def Rc (kd:Str→Str) (o:Ow) (lb:Str) (e:Ew):Prop:=e.ok∧yX e=[lb]∧∃c,e.ZL=some c∧∀zb d,∃f,gI kd o c.1 c.2.1 c.2.2.1 c.2.2.2.1 c.2.2.2.2.1 c.2.2.2.2.2 zb d=some f
def Bi (K:Ls):Sp:=λvs H Q _=>∃(p d lx:Addr) (c:Int) (ps as:List Str) (zb:List (Str × Str)) (o:Ow) (lb:Str) (xs:List Int),vs=[.ref p,.ref d,.str lb,.ref lx]∧mf H p c ps as zb∧ZR ps as zb∧H d=some (.dK (dS o))∧rM (xB ps as zb) (j5 ps as zb) o∧(∀q∈o,zZ q.1=true)∧o.length≤100∧zZ lb=true∧H lx=some (.lst (xs.map V.int))∧xs.length=6∧(∀x∈xs,0≤x∧x < 429496730)∧
 ∀l H' ws,zf H H'→H l=none→H' l=some (.lst (ws.map V.str))→(ws=[]∨∃e,ws=e.ws∧Rc (xB ps as zb) o lb e)→Q (.ref l) H'
noncomputable def uS:List Str:=["must","may","ban","power","must","power","ban"]
def UO (s:Str):Prop:=s = "must"∨s = "may"∨s = "ban"∨s = "power"
theorem YB:∀j < 7,uS.getD j "" = "must"∨uS.getD j "" = "may"∨uS.getD j "" = "ban"∨uS.getD j "" = "power":=by decide +kernel
theorem d8:("must" : Str)≠"may"∧("must" : Str)≠"ban"∧("must" : Str)≠"power"∧("may" : Str)≠"ban"∧("may" : Str)≠"power"∧("ban" : Str)≠"power":=by decide +kernel
theorem Qo {kd:Str→Str} {o:Ow} {ws:List Str} {z b:Str} (h:lk o z=some b) (hb:kd b∈ws):mA kd o ws z=.told b:=by
 unfold mA
 rw[h]
 exact if_pos hb
theorem Cn {kd:Str→Str} {o:Ow} {z:Str} (h:z = "any"∨∃b,lk o z=some b∧kd b∈(["party"]:List Str)):∃b,jQ (bQ kd o 0 z)=some b:=by
 by_cases hz:z = "any"
 ·refine⟨"any",?_⟩
  show jQ (if z = "any" then .told "any" else mA kd o ["party"] z)=_
  rw[if_pos hz]
  rfl
 ·obtain⟨b,h1,h2⟩:=h.resolve_left hz
  refine⟨b,?_⟩
  show jQ (if z = "any" then .told "any" else mA kd o ["party"] z)=_
  rw[if_neg hz,Qo h1 h2]
  rfl
theorem Co {kd:Str→Str} {o:Ow} {z:Str} (h:∃b,lk o z=some b∧kd b∈(["act"]:List Str)):∃b,jQ (bQ kd o 1 z)=some b:=by
 obtain⟨b,h1,h2⟩:=h
 exact⟨b,by show jQ (mA kd o ["act"] z)=_;rw[Qo h1 h2];rfl⟩
theorem CW {kd:Str→Str} {o:Ow} {z:Str} (h:∃b,lk o z=some b∧kd b∈(["calm","sore","end"]:List Str)):∃b,jQ (uJ kd o 3 z)=some b:=by
 obtain⟨b,h1,h2⟩:=h
 exact⟨b,by show jQ (mA kd o zF z)=_;rw[Qo (ws:=zF) h1 h2];rfl⟩
theorem By {kd:Str→Str} {o:Ow} {z:Str} {k:Int} (hk:k=0∨k=2) (h:∃b,lk o z=some b∧kd b∈(["sore","end"]:List Str)):∃b,jQ (uJ kd o k z)=some b:=by
 obtain⟨b,h1,h2⟩:=h
 have hm:kd b∈zF:=LK _ h2
 have hc:¬kd b = "calm":=λq=>by
  rw[q] at h2
  exact absurd h2 (by decide +kernel)
 have e:fA kd (mA kd o zF z)=.told b:=by rw[Qo h1 hm];exact if_neg hc
 refine⟨b,?_⟩
 have:uJ kd o k z=fA kd (mA kd o zF z):=by
  unfold uJ
  rcases hk with rfl | rfl
  ·rw[if_neg (by decide),if_neg (by decide)];rfl
  ·rw[if_neg (by decide),if_neg (by decide)];rfl
 rw[this,e]
 rfl
theorem dX {kd:Str→Str} {o:Ow} {k:Int} {l u a:Str} {n:Int} {r:Str} (h0:∃b,jQ (bQ kd o 0 u)=some b) (h1:∃b,jQ (bQ kd o 1 a)=some b) (h2:∃b,jQ (uJ kd o k r)=some b):∀(zb:List Str) (d:Int),∃f,gI kd o k l u a n r zb d=some f:=λzb d=>by
 obtain⟨x,h0⟩:=h0
 obtain⟨y,h1⟩:=h1
 obtain⟨z,h2⟩:=h2
 unfold gI
 rw[h0,LX,h1,LX,h2,LX]
 exact⟨_,rfl⟩
theorem qO:zu ["_law_header_here","_law_scope_here","_law_label","_law_xs","_law_sort","_law_who","_law_act","_law_wanted","_law_room","_law_many"] ["_law_header_here","_law_scope_here","_law_label","_law_xs"] (zy nT):=by walk_at "sc"
theorem QH (T:Txt K mg t):ze P w K mg base zC 3 t.mY t.mZ ["_law_header_here","_law_scope_here","_law_label","_law_xs"] (Bi K):=by
 have G_w_pick:=@ze.mono P w K mg base _ _ 2 _ _ _ _ (uB T) (by decide)
 refine T.cO.fn.ok qO (by walk_at "ln") ?_;walk_at "hd"
 obtain⟨p,d,lx,c,ps,as,zb,o,lb,xs,rfl,hH,hd,ed,hB,hnm,hol,hlb,ex,hxl,hxb,k⟩:=h
 refine⟨_,(zq (za (i:=4) qO.nd rfl (LL rfl) (zc (zv (K:=K) rfl) (zB (zz zw (zz zw (zz zw (zz zw (zz zw (zz zw (zz zw zj)))))))) (zo z6 (zo qZ (zc (zv (K:=K) rfl) (pv 3) zx (λ_ _=>rfl)) zx) zx) (λ_ _=>rfl)))
   (zq (za (i:=5) qO.nd rfl (LL rfl) (zi G_w_pick hr rfl T.xq.mg T.xq.fn.kp T.xq.bd .nil zJ (zz (pv 0) (zz (pv 1) (zz (qq (zz zw zj)) (zz (zc (zv (K:=K) rfl) (pv 3) zx (λ_ _=>rfl)) zj))))))
   (zq (PS.join (zW (PW.pt (yY (zd cn (pv 4) zw (zQ _)) (vF (zd qz (zo z6 (zo qZ (zc (zv (K:=K) rfl) (pv 3) zx (λ_ _=>rfl)) zx) zx) zx (zQ _)))))
    (zk (za (i:=5) qO.nd rfl (LL rfl) zw)) zr))
   (zq (za (i:=6) qO.nd rfl (LL rfl) (zi G_w_pick hr rfl T.xq.mg T.xq.fn.kp T.xq.bd .nil zJ (zz (pv 0) (zz (pv 1) (zz (qq (zz zw zj)) (zz (zc (zv (K:=K) rfl) (pv 3) zx (λ_ _=>rfl)) zj))))))
   (zq (za (i:=7) qO.nd rfl (LL rfl) (qq (zz zw (zz zw zj))))
   (zq (PS.join (zW (zd qz (pv 4) zw (zQ _))
    (zk (za (i:=7) qO.nd rfl (LL rfl) (qq (zz zw (zz zw (zz zw zj)))))) zr))
   (zq (za (i:=8) qO.nd rfl (LL rfl) (zi G_w_pick hr rfl T.xq.mg T.xq.fn.kp T.xq.bd .nil zJ (zz (pv 0) (zz (pv 1) (zz (pv 7) (zz (zc (zv (K:=K) rfl) (pv 3) zx (λ_ _=>rfl)) zj))))))
   (zq (zW (PW.pt (vQ (zd qz (pv 5) zw (zQ _)) (vQ (zd qz (pv 6) zw (zQ _)) (kW (PW.pt (yY (zd qz (pv 8) zw (zQ _)) (vF (zd cn (pv 4) zw (zQ _)))))))))
    (zk (zp (zB zj))) zr)
   (zq (za (i:=9) qO.nd rfl (LL rfl) (zo qf zx (zo z6 (zc (zv (K:=K) rfl) (pv 3) zx (λ_ _=>rfl)) zx)))
   (zq (PS.join (zW (zd qz (zo z6 (zo qZ (zc (zv (K:=K) rfl) (pv 3) zx (λ_ _=>rfl)) zx) zx) zx (zQ _))
    (zk (za (i:=9) qO.nd rfl (LL rfl) (zo qf zx (zo z6 (zo kz (zo kz (zc (zv (K:=K) rfl) (pv 3) zx (λ_ _=>rfl)) (zc (zv (K:=K) rfl) (pv 3) zx (λ_ _=>rfl))) (zc (zv (K:=K) rfl) (pv 3) zx (λ_ _=>rfl))) (zo m8 (zo Fv zx zx) zx))))) zr))
   (zq (zW (zd qz (pv 4) zw (zQ _))
    (zk (zp (zB (zz (pv 2) (zz (pv 5) (zz zw (zz (pv 6) (zz zw (zz (z8 aq rfl T.Bz IB (zz (pv 9) zj)) (zz zw (zz (pv 8) zj))))))))))) zr)
   (zq (zW (zd qz (pv 4) zw (zQ _))
    (zk (zp (zB (zz (pv 2) (zz (pv 5) (zz zw (zz zw (zz (pv 6) (zz zw (zz (pv 8) zj)))))))))) zr)
   (zq (zW (zd qz (pv 4) zw (zQ _))
    (zk (zp (zB (zz (pv 2) (zz (pv 5) (zz zw (zz (pv 6) (zz zw (zz (pv 8) zj))))))))) zr)
   (zk (zp (zB (zz (pv 2) (zz (pv 5) (zz zw (zz (pv 6) zj)))))))))))))))))))),?_⟩
 have b0:=kZ (j:=S3 0) 0 hxb (by omega)
 have b1:=kZ (j:=S3 1) 0 hxb (by omega)
 have b2:=kZ (j:=S3 2) 0 hxb (by omega)
 have b3:=kZ (j:=S3 3) 0 hxb (by omega)
 have b4:=kZ (j:=S3 4) 0 hxb (by omega)
 have b5:=kZ (j:=S3 5) 0 hxb (by omega)
 generalize hx0:xs.getD (S3 0) 0=x0 at b0
 generalize hx1:xs.getD (S3 1) 0=x1 at b1
 generalize hx2:xs.getD (S3 2) 0=x2 at b2
 generalize hx3:xs.getD (S3 3) 0=x3 at b3
 generalize hx4:xs.getD (S3 4) 0=x4 at b4
 generalize hx5:xs.getD (S3 5) 0=x5 at b5
 have g0:vX (xs.map V.int) 0=some (.int x0):=by rw[←hx0];exact qA (by decide) (by omega)
 have g1:vX (xs.map V.int) 1=some (.int x1):=by rw[←hx1];exact qA (by decide) (by omega)
 have g2:vX (xs.map V.int) 2=some (.int x2):=by rw[←hx2];exact qA (by decide) (by omega)
 have g3:vX (xs.map V.int) 3=some (.int x3):=by rw[←hx3];exact qA (by decide) (by omega)
 have g4:vX (xs.map V.int) 4=some (.int x4):=by rw[←hx4];exact qA (by decide) (by omega)
 have g5:vX (xs.map V.int) 5=some (.int x5):=by rw[←hx5];exact qA (by decide) (by omega)
 clear hx0 hx1 hx2 hx3 hx4 hx5
 walk_at "rd"
 intro l7 H1 s1 hl7 e7
 have e7':H1 l7=some (.lst (uS.map V.str)):=e7
 clear e7
 have m0:0≤x0 / 9 % 7:=Sb _ (by decide)
 have m1:x0 / 9 % 7 < 7:=Sx _ (by decide)
 have hso:=YB (x0 / 9 % 7).toNat (by omega)
 refine⟨_,rfl,lx,_,_,_,rfl,rfl,zK.of (s1 _ _ ex),g0,?_⟩
 refine⟨_,_,rfl,rfl,(by walk_at "ar"),_,_,rfl,rfl,(by show (0:Int) < 7;decide),l7,_,_,_,rfl,rfl,zK.of e7',bJ m0 m1,?_⟩
 generalize uS.getD (x0 / 9 % 7).toNat "" = so at hso
 show zU 4 (V.str so) [some (.ref p),some (.ref d),some (.str lb),some (.ref lx),none,none,none,none,none,none] _ _
 have sH1:zf H H1:=s1
 have key:∀{H':Hp},zf H H'→mf H' p c ps as zb∧H' d=some (.dK (dS o))∧H' lx=some (.lst (xs.map V.int)):=λs=>⟨hH.same s,s _ _ ed,s _ _ ex⟩
 clear hH e7' s1 hl7 m0 m1
 walk_at "rd"
 intro tw H2 s2 htw e2
 have sH2:=sH1.trans s2
 obtain⟨hH2,ed2,ex2⟩:=key sH2
 refine⟨_,rfl,lx,_,_,_,rfl,rfl,zK.of ex2,g1,?_⟩
 refine⟨p,d,tw,c,ps,as,zb,o,["party"],x1,rfl,hH2,hd,ed2,jt.of e2,hB,hnm,hol,b1.1,λu0 H3 s3 hu0=>?_⟩
 have sH3:=sH2.trans s3
 obtain⟨hH3,ed3,ex3⟩:=key sH3
 clear s2 s3 htw e2 hH2 ed2 ex2 sH2 sH1
 show zU 5 (V.str u0) [some (.ref p),some (.ref d),some (.str lb),some (.ref lx),some (.str so),none,none,none,none,none] _ _
 walk_at "x4"
 let Jn:xM:=λσ' H'=>(∃u:Str,σ'=[some (.ref p),some (.ref d),some (.str lb),some (.ref lx),some (.str so),some (.str u),none,none,none,none]∧H'=H3∧(u = ""∨(u = "any"∧so≠"must")∨(zZ u=true∧∃b,lk o u=some b∧xB ps as zb b∈(["party"]:List Str))))∨False
 refine⟨Jn,?_,?_⟩
 ·have keep:u0 = ""∨(u0 = "any"∧so≠"must")∨(zZ u0=true∧∃b,lk o u0=some b∧xB ps as zb b∈(["party"]:List Str)):=hu0.elim (λz=>.inl z.1) λz=>.inr (.inr z)
  walk_at "rd"
  refine zD (λh1=>?_) (λh1=>.inl ⟨_,rfl,rfl,keep⟩)
  refine⟨_,rfl,lx,_,_,_,rfl,rfl,zK.of ex3,g1,?_⟩
  walk_at "rd"
  refine zD (λh2=>?_) (λh2=>.inl ⟨_,rfl,rfl,keep⟩)
  walk_at "rd"
  exact .inl ⟨_,rfl,rfl,.inr (.inl ⟨rfl,λz=>by rw[z] at h1;simp at h1⟩)⟩
 intro σ' H' q
 obtain⟨u,rfl,rfl,hu⟩:=q.resolve_right λz=>z
 clear q hu0
 walk_at "rd"
 intro tw H4 s4 htw e4
 have sH4:=sH3.trans s4
 obtain⟨hH4,ed4,ex4⟩:=key sH4
 refine⟨_,rfl,lx,_,_,_,rfl,rfl,zK.of ex4,g2,?_⟩
 refine⟨p,d,tw,c,ps,as,zb,o,["act"],x2,rfl,hH4,hd,ed4,jt.of e4,hB,hnm,hol,b2.1,λa H5 s5 ha=>?_⟩
 have sH5:=sH4.trans s5
 clear s4 s5 htw e4 hH4 ed4 ex4 sH4 sH3 hH3 ed3 ex3
 show zU 6 (V.str a) [some (.ref p),some (.ref d),some (.str lb),some (.ref lx),some (.str so),some (.str u),none,none,none,none] _ _
 walk_at "rd"
 intro t1 H6 s6 ht1 e6
 have sH6:=sH5.trans s6
 show zU 7 (V.ref t1) [some (.ref p),some (.ref d),some (.str lb),some (.ref lx),some (.str so),some (.str u),some (.str a),none,none,none] _ _
 walk_at "x4"
 let Jn:xM:=λσ' H'=>(∃(t2:Addr) (ws2:List Str),σ'=[some (.ref p),some (.ref d),some (.str lb),some (.ref lx),some (.str so),some (.str u),some (.str a),some (.ref t2),none,none]∧zf H6 H'∧H' t2=some (.tup (ws2.map V.str))∧((ws2=(["sore","end"]:List Str)∧so≠"power")∨(ws2=(["calm","sore","end"]:List Str)∧so = "power")))∨False
 refine⟨Jn,?_,?_⟩
 ·walk_at "rd"
  refine zD (λh1=>?_) (λh1=>.inl ⟨t1,["sore","end"],rfl,zf.refl _,e6,.inl ⟨rfl,λz=>h1 (by rw[z];exact zzP rfl)⟩⟩)
  walk_at "rd"
  intro t2 H7 s7 ht2 e7
  exact .inl ⟨t2,["calm","sore","end"],rfl,s7,e7,.inr ⟨rfl,V.str.inj (zzB h1)⟩⟩
 intro σ' H7 q
 obtain⟨t2,ws2,rfl,s7,e7,hws⟩:=q.resolve_right λz=>z
 clear q
 have sH7:=sH6.trans s7
 obtain⟨hH7,ed7,ex7⟩:=key sH7
 clear s6 ht1 e6 s7 sH6 sH5
 refine⟨_,rfl,_,rfl,_,rfl,_,rfl,lx,_,_,_,rfl,rfl,zK.of ex7,g3,?_⟩
 refine⟨p,d,t2,c,ps,as,zb,o,ws2,x3,rfl,hH7,hd,ed7,jt.of e7,hB,hnm,hol,b3.1,λr H8 s8 hr=>?_⟩
 have sH8:=sH7.trans s8
 obtain⟨hH8,ed8,ex8⟩:=key sH8
 clear s8 sH7 hH7 ed7 ex7 e7
 show zU 8 (V.str r) [some (.ref p),some (.ref d),some (.str lb),some (.ref lx),some (.str so),some (.str u),some (.str a),some (.ref t2),none,none] _ _
 have none':∀{D:Ends},D.rt=Q→DI (M6 HH) D [some (.ref p),some (.ref d),some (.str lb),some (.ref lx),some (.str so),some (.str u),some (.str a),some (.ref t2),some (.str r),none] H8:=λ{D} hD=>by
  refine⟨Sy _,?_⟩
  intro l H9 s9 hl e9
  show D.rt (.ref l) H9
  rw[hD]
  exact k l H9 [] (sH8.trans s9) (sH8.free hl) e9 (.inl rfl)
 walk_at "rd"
 refine zD (λh1=>none' rfl) (λh1=>?_)
 have hu':(u = "any"∧so≠"must")∨(zZ u=true∧∃b,lk o u=some b∧xB ps as zb b∈(["party"]:List Str)):=hu.resolve_left λz=>h1 (by rw[z];exact zzP rfl)
 walk_at "rd"
 refine zD (λh2=>none' rfl) (λh2=>?_)
 have ha':=ha.resolve_left λz=>h2 (by rw[z.1];exact zzP rfl)
 have tand:∀{K':Bool→Hp→Prop},((r = ""∧so≠"may")→K' true H8)→(¬(r = ""∧so≠"may")→K' false H8)→DM (Y7 (F3 UD (Q9 8) (tC (V.str (LM ""))))) (Y7 (F3 UR (Q9 4) (tC (V.str (LM "may"))))) [some (.ref p),some (.ref d),some (.str lb),some (.ref lx),some (.str so),some (.str u),some (.str a),some (.ref t2),some (.str r),none] H8 K':=λ{K'} k1 k2=>by
  walk_at "rd"
  refine zD (λh3=>?_) (λh3=>?_)
  ·walk_at "rd"
   have e3:r = "":=V.str.inj (zzB h3)
   by_cases h4:so = "may"
   ·rw[show (!decide (V.str so=V.str (LM "may")))=false from by rw[h4];simp]
    exact k2 λz=>z.2 h4
   ·rw[show (!decide (V.str so=V.str (LM "may")))=true from by rw[decide_eq_false (λz=>h4 (V.str.inj z))];rfl]
    exact k1 ⟨e3,h4⟩
  ·exact k2 λz=>h3 (by rw[z.1];exact zzP rfl)
 refine tand (λ_=>dA (none' rfl)) (λhgo=>tG ?_)
 clear none' tand
 have hr':so = "may"∨(zZ r=true∧∃b,lk o r=some b∧xB ps as zb b∈ws2):=by
  rcases hr with z | z
  ·by_cases h4:so = "may"
   ·exact .inl h4
   ·exact absurd ⟨z.1,h4⟩ hgo
  ·exact .inr z
 refine⟨_,rfl,lx,_,_,_,rfl,rfl,zK.of ex8,g4,_,_,rfl,rfl,(by show (0:Int) < 3;decide),_,_,rfl,rfl,?_⟩
 show zU 9 (V.int (1 + x4 % 3)) [some (.ref p),some (.ref d),some (.str lb),some (.ref lx),some (.str so),some (.str u),some (.str a),some (.ref t2),some (.str r),none] _ _
 walk_at "x4"
 have e20:(10:Int) ^ (S3 20) - 1=99999999999999999999:=by decide +kernel
 have e21:(10:Int) ^ 20=100000000000000000000:=by decide +kernel
 let Jn:xM:=λσ' H'=>(∃n:Int,σ'=[some (.ref p),some (.ref d),some (.str lb),some (.ref lx),some (.str so),some (.str u),some (.str a),some (.ref t2),some (.str r),some (.int n)]∧1≤n∧n < 10 ^ 20∧H'=H8)∨False
 refine⟨Jn,?_,?_⟩
 ·refine⟨_,rfl,lx,_,_,_,rfl,rfl,zK.of ex8,g4,?_⟩
  walk_at "rd"
  refine zD (λh3=>?_) (λh3=>.inl ⟨_,rfl,by omega,by rw[e21];omega,rfl⟩)
  refine⟨_,rfl,lx,_,_,_,rfl,rfl,zK.of ex8,g4,?_⟩
  refine⟨_,rfl,lx,_,_,_,rfl,rfl,zK.of ex8,g5,?_⟩
  refine⟨_,_,rfl,rfl,(by walk_at "ar"),?_⟩
  refine⟨_,rfl,lx,_,_,_,rfl,rfl,zK.of ex8,g3,?_⟩
  refine⟨_,_,rfl,rfl,(by walk_at "ar"),?_⟩
  walk_at "rd"
  have p0:=Sb (x4 * x5 * x3) (show (99999999999999999999:Int)≠0 by decide)
  have p1:=Sx (x4 * x5 * x3) (show (0:Int) < 99999999999999999999 by decide)
  refine .inl ⟨1 + x4 * x5 * x3 % 99999999999999999999,?_,by omega,by rw[e21];omega,rfl⟩
  rw[←e20]
  rfl
 intro σ' H' q
 obtain⟨n,rfl,n1,n2,rfl⟩:=q.resolve_right λz=>z
 clear q
 have who:VR u:=hu'.elim (λz=>.inr z.1) λz=>.inl z.1
 have wk:u = "any"∨∃b,lk o u=some b∧xB ps as zb b∈(["party"]:List Str):=hu'.elim (λz=>.inl z.1) λz=>.inr z.2
 have q0:=Cn wk
 have q1:=Co ha'.2
 walk_at "rd"
 refine zD (λh3=>?_) (λh3=>?_)
 ·have es:so = "must":=V.str.inj (zzB h3)
  have hun:zZ u=true:=hu'.elim (λz=>absurd es z.2) λz=>z.1
  have hr2:zZ r=true∧∃b,lk o r=some b∧xB ps as zb b∈ws2:=hr'.resolve_left λz=>d8.1 (es.symm.trans z)
  have hw2:ws2=(["sore","end"]:List Str):=(hws.resolve_right λz=>d8.2.2.1 (es.symm.trans z.2)).1
  rw[hw2] at hr2
  walk_at "rd"
  refine⟨K7 (by omega) (by omega),?_⟩
  walk_at "rd"
  intro l H9 s9 hl e9
  exact k l H9 (Ew.mu lb u a n r).ws (sH8.trans s9) (sH8.free hl) e9 (.inr ⟨.mu lb u a n r,rfl,⟨hlb,hun,ha'.1,n1,n2,hr2.1⟩,rfl,_,rfl,dX q0 q1 (By (.inl rfl) hr2.2)⟩)
 walk_at "rd"
 refine zD (λh4=>?_) (λh4=>?_)
 ·have es:so = "ban":=V.str.inj (zzB h4)
  have hr2:zZ r=true∧∃b,lk o r=some b∧xB ps as zb b∈ws2:=hr'.resolve_left λz=>d8.2.2.2.1 (z.symm.trans es)
  have hw2:ws2=(["sore","end"]:List Str):=(hws.resolve_right λz=>d8.2.2.2.2.2 (es.symm.trans z.2)).1
  rw[hw2] at hr2
  walk_at "rd"
  intro l H9 s9 hl e9
  exact k l H9 (Ew.bn lb u a r).ws (sH8.trans s9) (sH8.free hl) e9 (.inr ⟨.bn lb u a r,rfl,⟨hlb,who,ha'.1,hr2.1⟩,rfl,_,rfl,dX q0 q1 (By (.inr rfl) hr2.2)⟩)
 walk_at "rd"
 refine zD (λh5=>?_) (λh5=>?_)
 ·have es:so = "power":=V.str.inj (zzB h5)
  have hr2:zZ r=true∧∃b,lk o r=some b∧xB ps as zb b∈ws2:=hr'.resolve_left λz=>d8.2.2.2.2.1 (z.symm.trans es)
  have hw2:ws2=(["calm","sore","end"]:List Str):=(hws.resolve_left λz=>z.2 es).1
  rw[hw2] at hr2
  walk_at "rd"
  intro l H9 s9 hl e9
  exact k l H9 (Ew.pw lb u a r).ws (sH8.trans s9) (sH8.free hl) e9 (.inr ⟨.pw lb u a r,rfl,⟨hlb,who,ha'.1,hr2.1⟩,rfl,_,rfl,dX q0 q1 (CW hr2.2)⟩)
 walk_at "rd"
 intro l H9 s9 hl e9
 exact k l H9 (Ew.my lb u a).ws (sH8.trans s9) (sH8.free hl) e9 (.inr ⟨.my lb u a,rfl,⟨hlb,who,ha'.1⟩,rfl,_,rfl,dX q0 q1 ⟨"",rfl⟩⟩)
def BH (K:Ls):Sp:=λvs H Q _=>∃(p d lx:Addr) (c:Int) (ps as:List Str) (zb:List (Str × Str)) (o:Ow) (lb:Str) (xs:List Int),vs=[.ref p,.ref d,.str lb,.ref lx]∧mf H p c ps as zb∧ZR ps as zb∧H d=some (.dK (dS o))∧rM (xB ps as zb) (j5 ps as zb) o∧(∀q∈o,zZ q.1=true)∧o.length≤100∧zZ lb=true∧H lx=some (.lst (xs.map V.int))∧xs.length=6∧(∀x∈xs,0≤x∧x < 429496730)∧
 ∀l H' rs,zf H H'→H l=none→H' l=some (.lst ((Ew.pt lb rs).ws.map V.str))→(Ew.pt lb rs).ok→(∃ns,xr (xB ps as zb) o rs=some ns)→Q (.ref l) H'
theorem Js {lo:Int} {n:Nat} {E:L2.St→Hp→Prop} {B:V→L2.St→Hp→(L2.St→Hp→Prop)→Prop} {σ:L2.St} {H:Hp} (Pv:Nat→L2.St→Hp→Prop) (h0:Pv 0 σ H)
  (hs:∀i σ H,i < n→Pv i σ H→B (.int (lo + i)) σ H (Pv (i + 1))) (hd:∀σ H,Pv n σ H→E σ H) :
  ∃W:Nat→Nat→L2.St→Hp→Prop,(∃m,W 0 m σ H)∧∀i m σ H,W i m σ H→
   ((VA lo n).stop i H∧E σ H)∨((VA lo n).go i H∧∃N:L2.St→Hp→Prop,(∀σ' H',N σ' H'→∃m',m' < m∧W (i + 1) m' σ' H')∧∀x H',(VA lo n).VN i H x H'→B x σ H' N):=by
 refine⟨λi m σ H=>m=n - i∧i≤n∧Pv i σ H,⟨n,by simp,Sy _,h0⟩,?_⟩
 rintro i m σ H ⟨rfl,hi,p⟩
 by_cases hlt:i < n
 ·refine .inr ⟨hlt,Pv (i + 1),λσ' H' p'=>⟨n - (i + 1),by omega,rfl,hlt,p'⟩,λx H' y=>?_⟩
  obtain⟨e,y⟩:=y
  subst e
  subst y
  exact hs i σ _ hlt p
 ·have e:i=n:=by omega
  subst e
  exact .inl ⟨LF _,hd σ H p⟩
theorem nj {kd:Str→Str} {o:Ow}:∀{rs:List Str},(∀x∈rs,∃b,lk o x=some b∧kd b∈(["calm","sore","end"]:List Str))→∃ns,xr kd o rs=some ns
 | [],_=>⟨[],rfl⟩
 | x :: rs,h=>by
  obtain⟨ns,ih⟩:=nj (rs:=rs) λy hy=>h y (LK _ hy)
  obtain⟨b,h1,h2⟩:=h x Sw
  refine⟨b :: ns,?_⟩
  unfold xr
  have:jQ (bQ kd o 2 x)=some b:=by
   show jQ (mA kd o zF x)=_
   rw[Qo (ws:=zF) h1 h2]
   rfl
  rw[this,LX,ih]
  rfl
theorem Dy (lb:Str) {rs:List Str} (h:rs≠[]):(Ew.pt lb rs).ws=([("part" : Str),lb] ++ [("in" : Str)]) ++ rs:=by
 cases rs with
 | nil=>exact absurd rfl h
 | cons x rs=>rfl
theorem wM:zu ["_law_header_here","_law_scope_here","_law_label","_law_xs","_law_row","_law_some","_law_k"] ["_law_header_here","_law_scope_here","_law_label","_law_xs"] (zy eZ):=by walk_at "sc"
theorem JU (T:Txt K mg t):ze P w K mg base zC 3 t.um t.uv ["_law_header_here","_law_scope_here","_law_label","_law_xs"] (BH K):=by
 have G_w_pick:=@ze.mono P w K mg base _ _ 2 _ _ _ _ (uB T) (by decide)
 refine T.sy.fn.ok wM (by walk_at "ln") ?_;walk_at "hd"
 obtain⟨p,d,lx,c,ps,as,zb,o,lb,xs,rfl,hH,hd,ed,hB,hnm,hol,hlb,ex,hxl,hxb,k⟩:=h
 refine⟨_,(zq (za (i:=4) wM.nd rfl (LL rfl) (zB (zz zw (zz (pv 2) zj))) jZ)
   (zq (PS.join (zW (zd fL (zo z6 (zc (zv (K:=K) rfl) (pv 3) zx (λ_ _=>rfl)) zx) zx (zQ _))
    (zq (za (i:=5) wM.nd rfl (LL rfl) (zB zj) jZ)
   (zq (jy Su rfl (xV rfl T.vK (zz (zo qf zx (zo z6 (zc (zv (K:=K) rfl) (pv 3) zx (λ_ _=>rfl)) zx)) zj)) (zM (i:=6) wM.nd rfl (LL rfl))
    (zk (zO (qM LD L5 L6 qj (pv 5) (zz (zi G_w_pick hr rfl T.xq.mg T.xq.fn.kp T.xq.bd .nil zJ (zz (pv 0) (zz (pv 1) (zz (qq (zz zw (zz zw (zz zw zj)))) (zz (zo qZ (zc (zv (K:=K) rfl) (pv 3) zx (λ_ _=>rfl)) (zo qf (pv 6) zx)) zj))))) zj)))))
   (zk (PS.join (zW (zd (p8 (K:=K) rfl) zw (pv 5) rfl)
    (zk (za (i:=4) wM.nd rfl (LL rfl) (zo vi (zo vi (pv 4) (zB (zz zw zj))) (pv 5)))) zr))))) zr))
   (zk (zp (pv 4))))),?_⟩
 have b1:=kZ (j:=S3 1) 0 hxb (by omega)
 have b2:=kZ (j:=S3 2) 0 hxb (by omega)
 have b3:=kZ (j:=S3 3) 0 hxb (by omega)
 generalize hx1:xs.getD (S3 1) 0=x1 at b1
 generalize hx2:xs.getD (S3 2) 0=x2 at b2
 generalize hx3:xs.getD (S3 3) 0=x3 at b3
 have g1:vX (xs.map V.int) 1=some (.int x1):=by rw[←hx1];exact qA (by decide) (by omega)
 have g2:vX (xs.map V.int) 2=some (.int x2):=by rw[←hx2];exact qA (by decide) (by omega)
 have g3:vX (xs.map V.int) 3=some (.int x3):=by rw[←hx3];exact qA (by decide) (by omega)
 clear hx1 hx2 hx3
 walk_at "rd"
 intro l0 H1 s1 hl0 e0
 have e0':H1 l0=some (.lst (([("part" : Str),lb]).map V.str)):=e0
 clear e0
 show zU 4 (V.ref l0) [some (.ref p),some (.ref d),some (.str lb),some (.ref lx),none,none,none] _ _
 walk_at "x4"
 have ex1:=s1 _ _ ex
 let Jn:xM:=λσ' H'=>(∃(l:Addr) (rs:List Str) (v5 v6:Option V),σ'=[some (.ref p),some (.ref d),some (.str lb),some (.ref lx),some (.ref l),v5,v6]∧zf H H'∧H l=none∧H' l=some (.lst ((Ew.pt lb rs).ws.map V.str))∧(∀x∈rs,zZ x=true∧∃b,lk o x=some b∧xB ps as zb b∈(["calm","sore","end"]:List Str))∧rs.length≤4)∨False
 refine⟨Jn,?_,?_⟩
 ·refine⟨_,rfl,lx,_,_,_,rfl,rfl,zK.of ex1,g1,?_⟩
  walk_at "rd"
  refine zD (λh1=>?_) (λh1=>.inl ⟨l0,[],_,_,rfl,s1,hl0,e0',λ_ z=>(by cases z),by decide⟩)
  walk_at "rd"
  intro ls H2 s2 hls e2
  have hls0:H ls=none:=s1.free hls
  have m0:0≤x2 % 4:=Sb _ (by decide)
  have m1:x2 % 4 < 4:=Sx _ (by decide)
  have nl:l0≠ls:=zh e0' hls
  show zU 5 (V.ref ls) [some (.ref p),some (.ref d),some (.str lb),some (.ref lx),some (.ref l0),none,none] _ _
  refine⟨_,rfl,lx,_,_,_,rfl,rfl,zK.of (s2 _ _ ex1),g2,_,_,rfl,rfl,(by show (0:Int) < 4;decide),_,_,rfl,rfl,_,rfl,by omega,by omega,?_⟩
  let Iv:xn:=λi σ H'=>(∃(zs:List Str) (v6:Option V),σ=[some (.ref p),some (.ref d),some (.str lb),some (.ref lx),some (.ref l0),some (.ref ls),v6]∧zf H H'∧H' l0=some (.lst (([("part" : Str),lb]).map V.str))∧H' ls=some (.lst (zs.map V.str))∧zs.length=i∧∀z∈zs,Me (xB ps as zb) o ["calm","sore","end"] z)∨False
  refine Js (lo:=0) (n:=(1 + x2 % 4).toNat) Iv
   (.inl ⟨[],none,rfl,s1.trans s2,s2 _ _ e0',e2,rfl,λ_ z=>(by cases z)⟩) ?_ ?_
  ·intro i σ H3 hi q
   obtain⟨zs,v6,rfl,s3,e30,e3,hzl,hzp⟩:=q.resolve_right λz=>z
   clear q
   have hi4:i < 4:=by omega
   rw[NS]
   show zU 6 (V.int (i:Int)) [some (.ref p),some (.ref d),some (.str lb),some (.ref lx),some (.ref l0),some (.ref ls),v6] _ _
   refine⟨_,rfl,.inl ⟨rfl,_,zK.of e3⟩,?_⟩
   refine⟨_,rfl,_,rfl,?_⟩
   walk_at "rd"
   intro tw H4 s4 htw e4
   have s34:=s3.trans s4
   refine⟨_,rfl,lx,_,_,_,rfl,rfl,zK.of (s34 _ _ ex),g3,_,rfl,_,_,rfl,rfl,_,_,rfl,rfl,(by walk_at "ar"),?_⟩
   refine⟨p,d,tw,c,ps,as,zb,o,["calm","sore","end"],x3 / ((i:Int) + 1),rfl,hH.same s34,hd,s34 _ _ ed,jt.of e4,hB,hnm,hol,Ak (by omega) (by omega),λz H5 s5 hz=>?_⟩
   have e35:=s5 _ _ (s4 _ _ e3)
   refine⟨ls,_,_,rfl,rfl,e35,zg (by rw[Ln];omega),?_⟩
   intro H6 k6 e6
   refine .inl ⟨zs ++ [z],_,rfl,k6.put (s34.trans s5) hls0,k6.look (s5 _ _ (s4 _ _ e30)) nl,by rw[e6,LY];rfl,by rw[Li,hzl];rfl,λy hy=>?_⟩
   rcases LU.mp hy with hy | hy
   ·exact hzp y hy
   ·rw[LW.mp hy];exact hz
  intro σ H3 q
  obtain⟨zs,v6,rfl,s3,e30,e3,hzl,hzp⟩:=q.resolve_right λz=>z
  clear q
  have hzn:zs≠[]:=λz=>by rw[z] at hzl;simp at hzl;omega
  have hz4:zs.length≤4:=by omega
  walk_at "x4"
  refine⟨λσ' H'=>(∃(l:Addr) (rs:List Str) (v5 v6:Option V),σ'=[some (.ref p),some (.ref d),some (.str lb),some (.ref lx),some (.ref l),v5,v6]∧zf H H'∧H l=none∧H' l=some (.lst ((Ew.pt lb rs).ws.map V.str))∧(∀x∈rs,zZ x=true∧∃b,lk o x=some b∧xB ps as zb b∈(["calm","sore","end"]:List Str))∧rs.length≤4)∨False,?_,λ_ _ z=>z⟩
  refine⟨_,rfl,ls,_,rfl,.inl (zK.of e3),rfl,xY zs,_,rfl,?_⟩
  show if (!ZS (V.str (LM "")) (zs.map V.str))=true then _ else _
  rw[kN]
  by_cases hin:(LM "" : Str)∈zs
  ·rw[zzP hin]
   refine tG ?_
   exact .inl ⟨l0,[],_,_,rfl,s3,hl0,e30,λ_ z=>(by cases z),by decide⟩
  ·rw[decide_eq_false hin]
   refine dA ?_
   walk_at "rd"
   intro l1 H4 s4 hl1 e4
   have e4':H4 l1=some (.lst (([("in" : Str)]).map V.str)):=e4
   refine⟨l0,l1,_,_,rfl,rfl,s4 _ _ e30,e4',zg (by simp),?_⟩
   intro l2 H5 s5 hl2 e5
   refine⟨_,rfl,l2,ls,_,_,rfl,rfl,e5,s5 _ _ (s4 _ _ e3),zg (by simp only[Li,Ln,LQ,LO];omega),?_⟩
   intro l3 H6 s6 hl3 e6
   have s46:=(s3.trans s4).trans s5
   refine .inl ⟨l3,zs,_,_,rfl,s46.trans s6,s46.free hl3,?_,λx hx=>?_,hz4⟩
   ·rw[e6,Dy lb hzn,LY,LY]
   ·exact(hzp x hx).resolve_left λz=>hin (by rw[←z.1];exact hx)
 intro σ' H' q
 obtain⟨l,rs,v5,v6,rfl,sH,hl,el,hrs,hrl⟩:=q.resolve_right λz=>z
 walk_at "rd"
 exact k l H' rs sH hl el ⟨hlb,λx hx=>(hrs x hx).1,by omega⟩ (nj λx hx=>(hrs x hx).2)
structure rR (c:Int) (kd:Str→Str) (K0 o:Ow):Prop where
 nd:(o.map (·.1)).Nodup
 sb:∀n∈o.map (·.1),n∈(NZ c).take 28
 bs:rM kd K0 o
 ne:o≠[]
theorem Bf {α:Type} [DecidableEq α]:∀{l m:List α},l.Nodup→(∀x∈l,x∈m)→l.length≤m.length
 | [],m,_,_=>Sy _
 | x :: l,m,hn,h=>by
  have hx:=h x Sw
  (have hn':=Sq.mp hn)
  have ih:=Bf (l:=l) (m:=m.erase x) hn'.2 λy hy=>(List.mem_erase_of_ne λe=>hn'.1 (by rw[←e];exact hy)).mpr (h y (LK _ hy))
  rw[List.length_erase_of_mem hx] at ih
  have:=List.length_pos_of_mem hx
  rw[LQ]
  omega
theorem rR.len {c:Int} {kd:Str→Str} {K0 o:Ow} (h:rR c kd K0 o):o.length≤28:=by
 have:=Bf h.nd h.sb
 rw[Ln,L3] at this
 omega
theorem rR.put {c:Int} {kd:Str→Str} {K0 o:Ow} {n v b:Str} (h:rR c kd K0 o) (hn:n∈(NZ c).take 28) (hb:lk o v=some b):rR c kd K0 (pu o n b):=by
 refine⟨?_,?_,λz y hz=>?_,λz=>?_⟩
 ·rw[lN]
  split
  ·exact h.nd
  ·rename_i q;exact X9 h.nd q
 ·rw[lN]
  split
  ·exact h.sb
  ·intro x hx
   (rcases LU.mp hx with hx | hx)
   ·exact h.sb x hx
   ·rw[LW.mp hx];exact hn
 ·rw[WC] at hz
  split at hz
  ·cases hz;exact h.bs v _ hb
  ·exact h.bs z y hz
 ·have:=lN o n b
  rw[z] at this
  have hk:o.map (·.1)≠[]:=λq=>h.ne (List.map_eq_nil_iff.mp q)
  split at this
  ·exact hk this.symm
  ·have:=congrArg Tb this
   rw[Li] at this
   simp at this
noncomputable def Y2 (kd:Str→Str) (e:Ew):List Ow→Option (List Ow)
 | []=>none
 | o :: st=>match e with
  | .lt a b=>(lk o b).bind λx=>some (pu o a x :: st)
  | .pt _ rs=>(xr kd o rs).bind λ_=>some (o :: o :: st)
  | .dn=>if st=[] then none else some st
  | e=>e.ZL.bind λc=>(gI kd o c.1 c.2.1 c.2.2.1 c.2.2.2.1 c.2.2.2.2.1 c.2.2.2.2.2 [] 0).bind λ_=>some (o :: st)
structure bZ (c:Int) (kd:Str→Str) (K0:Ow) (B H:Hp) (ls:Addr) (es:List (Addr × Ow)):Prop where
 el:H ls=some (.lst (es.map λe=>.ref e.1))
 at':∀e∈es,H e.1=some (.dK (dS e.2))
 nd:(es.map (·.1)).Nodup
 ok:∀e∈es,rR c kd K0 e.2
 n1:1≤es.length
 n7:es.length≤7
 bs:zf B H
 bl:B ls=none
 bd:∀e∈es,B e.1=none
noncomputable def Jx (ls:Addr) (es:List (Addr × Ow)):List Addr:=ls :: es.map (·.1)
theorem bZ.same {c:Int} {kd:Str→Str} {K0:Ow} {B H H':Hp} {ls:Addr} {es:List (Addr × Ow)} (h:bZ c kd K0 B H ls es) (s:zf H H'):bZ c kd K0 B H' ls es:=⟨s _ _ h.el,λe he=>s _ _ (h.at' e he),h.nd,h.ok,h.n1,h.n7,h.bs.trans s,h.bl,h.bd⟩
theorem bZ.put {c:Int} {kd:Str→Str} {K0:Ow} {B H H':Hp} {ls d:Addr} {es0:List (Addr × Ow)} {o o':Ow} (h:bZ c kd K0 B H ls (es0 ++ [(d,o)])) (k:Keeps d H H') (e:H' d=some (.dK (dS o'))) (ho:rR c kd K0 o'):bZ c kd K0 B H' ls (es0 ++ [(d,o')]):=by
 have hm:(es0 ++ [(d,o')]).map (·.1)=(es0 ++ [(d,o)]).map (·.1):=by simp
 have hnd:=h.nd
 have hdd:H d=some (.dK (dS o)):=h.at' (d,o) (by simp)
 refine⟨?_,λx hx=>?_,by rw[hm];exact hnd,λx hx=>?_,by simp,by have:=h.n7;simpa using this,λb u q=>?_,h.bl,λx hx=>?_⟩
 ·have:=h.el
  rw[k.look this λz=>by rw[z,hdd] at this;cases this]
  simp
 ·rcases LU.mp hx with hx | hx
  ·have hne:x.1≠d:=λz=>by
    rw[LY] at hnd
    exact(SG.mp hnd).2.2 x.1 (SH hx) d (by simp) z
   exact k.look (h.at' x (Ss _ hx)) hne
  ·rw[LW.mp hx]
   exact e
 ·rcases LU.mp hx with hx | hx
  ·exact h.ok x (Ss _ hx)
  ·rw[LW.mp hx]
   exact ho
 ·rw[k b (zh q (h.bd (d,o) (by simp)))]
  exact h.bs b u q
 ·rcases LU.mp hx with hx | hx
  ·exact h.bd x (Ss _ hx)
  ·rw[LW.mp hx]
   exact h.bd (d,o) (by simp)
theorem bZ.push {c:Int} {kd:Str→Str} {K0:Ow} {B H H':Hp} {ls d:Addr} {es:List (Addr × Ow)} {o:Ow} (h:bZ c kd K0 B H ls es) (hn:d∉es.map (·.1)) (hb:B d=none) (ed:H d=some (.dK (dS o))) (ho:rR c kd K0 o) (h6:es.length < 7) (k:Keeps ls H H') (e:H' ls=some (.lst ((es.map λe=>.ref e.1) ++ [.ref d]))):bZ c kd K0 B H' ls (es ++ [(d,o)]):=by
 have hel:=h.el
 have nls:∀{x:Addr} {u:List (Key × V)},H x=some (.dK u)→x≠ls:=λ{x u} q z=>by rw[z,hel] at q;cases q
 refine⟨by rw[e,LY];rfl,λx hx=>?_,?_,λx hx=>?_,by rw[Li];simp,by rw[Li];simp only[LQ,LO];omega,λb u q=>?_,h.bl,λx hx=>?_⟩
 ·rcases LU.mp hx with hx | hx
  ·exact k.look (h.at' x hx) (nls (h.at' x hx))
  ·rw[LW.mp hx]
   exact k.look ed (nls ed)
 ·rw[LY]
  exact SG.mpr ⟨h.nd,by simp,λa ha b hb' z=>hn (by rw[←(LW.mp hb':b=d),←z];exact ha)⟩
 ·rcases LU.mp hx with hx | hx
  ·exact h.ok x hx
  ·rw[LW.mp hx];exact ho
 ·rw[k b (zh q h.bl)]
  exact h.bs b u q
 ·rcases LU.mp hx with hx | hx
  ·exact h.bd x hx
  ·rw[LW.mp hx];exact hb
theorem bZ.pop {c:Int} {kd:Str→Str} {K0:Ow} {B H H':Hp} {ls:Addr} {es0:List (Addr × Ow)} {x0:Addr × Ow} (h:bZ c kd K0 B H ls (es0 ++ [x0])) (h1:1≤es0.length) (k:Keeps ls H H') (e:H' ls=some (.lst (es0.map λe=>.ref e.1))):bZ c kd K0 B H' ls es0:=by
 have hel:=h.el
 refine⟨e,λx hx=>?_,?_,λx hx=>h.ok x (Ss _ hx),h1,by have:=h.n7;rw[Li] at this;omega,λb u q=>?_,h.bl,λx hx=>h.bd x (Ss _ hx)⟩
 ·have q:=h.at' x (Ss _ hx)
  exact k.look q λz=>by rw[z,hel] at q;cases q
 ·have:=h.nd
  rw[LY] at this
  exact(SG.mp this).1
 ·rw[k b (zh q h.bl)]
  exact h.bs b u q
theorem HZ {ms:List Addr} {H H':Hp} (s:zf H H'):Fm ms H H':=λb o _ e=>s b o e
def Rb (kd:Str→Str) (lb:Str) (ws:List Str) (es es2:List (Addr × Ow)):Prop:=(ws=[]∧es2=es)∨∃e:Ew,ws=e.ws∧e.ok∧(yX e=[]∨yX e=[lb])∧Y2 kd e (es.map (·.2)).reverse=some (es2.map (·.2)).reverse
def BY (K:Ls):Sp:=λvs H Q _=>∃(B:Hp) (p ls lx:Addr) (c:Int) (ps as:List Str) (zb:List (Str × Str)) (es:List (Addr × Ow)) (lb:Str) (xs:List Int),vs=[.ref p,.ref ls,.str lb,.ref lx]∧bZ c (xB ps as zb) (j5 ps as zb) B H ls es∧mf B p c ps as zb∧Mz c ps as zb∧zZ lb=true∧H lx=some (.lst (xs.map V.int))∧xs.length=6∧(∀x∈xs,0≤x∧x < 429496730)∧
 ∀l H' ws es2,Fm (Jx ls es) H H'→H l=none→H' l=some (.lst (ws.map V.str))→bZ c (xB ps as zb) (j5 ps as zb) B H' ls es2→(∀e∈es2,e.1∈es.map (·.1)∨H e.1=none)→l∉Jx ls es2→Rb (xB ps as zb) lb ws es es2→Q (.ref l) H'
theorem tF {α:Type} {es:List α} (h:1≤es.length):∃es0 e,es=es0 ++ [e]:=⟨es.dropLast,es.getLast (λz=>by rw[z] at h;simp at h),(List.dropLast_concat_getLast _).symm⟩
theorem Ge {es0:List (Addr × Ow)} {e:Addr × Ow}:vX ((es0 ++ [e]).map λe=>V.ref e.1) (-1)=some (.ref e.1):=by
 have h:Jk (es0.length + 1) (-1)=some es0.length:=by
  unfold Jk
  rw[if_neg (by decide),if_pos (by omega)]
  exact congrArg some (by omega)
 unfold vX
 rw[Ln,Li,LQ,LO,h]
 simp
noncomputable def GF:List Str:=["party","act","calm","sore","end"]
theorem GS {ps as:List Str} {zb:List (Str × Str)} (h:ZR ps as zb) {b x:Str} (hb:lk (j5 ps as zb) b=some x):x∈GF:=by
 have hm:=X3 hb
 unfold j5 at hm
 (rcases LU.mp hm with hm | hm)
 ·(rcases LU.mp hm with hm | hm)
  ·obtain⟨n,_,e⟩:=SX.mp hm
   cases e
   decide +kernel
  ·obtain⟨n,_,e⟩:=SX.mp hm
   cases e
   decide +kernel
 ·obtain⟨mn,hmn,e⟩:=SX.mp hm
  cases e
  have h2:=(h.rn mn hmn).1
  exact(show ∀y∈zF,y∈GF by decide +kernel) _ h2
theorem rR.D8 {c:Int} {kd:Str→Str} {K0 o:Ow} (h:rR c kd K0 o):∀q∈o,zZ q.1=true:=λq hq=>si c _ (Tp (h.sb _ (SH hq)))
seal NZ
theorem kH:zu ["_law_header_here","_law_stack","_law_label","_law_xs","_law_kind","_law_scope_here","_law_names_here","_law_new","_law_value","_law_row"] ["_law_header_here","_law_stack","_law_label","_law_xs"] (zy QE):=by walk_at "sc"
theorem Vp (T:Txt K mg t):ze P w K mg base zC 4 t.tu t.sR ["_law_header_here","_law_stack","_law_label","_law_xs"] (BY K):=by
 have G_w_clause:=@ze.mono P w K mg base _ _ 3 _ _ _ _ (QH T) (by decide)
 have G_w_opens:=@ze.mono P w K mg base _ _ 3 _ _ _ _ (JU T) (by decide)
 have G_w_pick:=@ze.mono P w K mg base _ _ 3 _ _ _ _ (uB T) (by decide)
 refine T.w_next.fn.ok kH (by walk_at "ln") ?_;walk_at "hd"
 obtain⟨B,p,ls,lx,c,ps,as,zb,es,lb,xs,rfl,hK,hH,hZ,hlb,ex,hxl,hxb,k⟩:=h
 refine⟨_,(zq (za (i:=4) kH.nd rfl (LL rfl) (zo z6 (zc (zv (K:=K) rfl) (pv 3) zx (λ_ _=>rfl)) zx))
   (zq (za (i:=5) kH.nd rfl (LL rfl) (zc (zv (K:=K) rfl) (pv 1) (cQ gD zx) (λ_ _=>rfl)))
   (zq (zW (zd qz (pv 4) zx (zQ _))
    (zq (za (i:=6) kH.nd rfl (LL rfl) (zc (qY (K:=K) rfl) (pv 0) zx (λ_ _=>rfl)))
   (zq (za (i:=7) kH.nd rfl (LL rfl) (zc (zv (K:=K) rfl) (zo vi (qD (qF (K:=K) rfl) (pv 6) (qQ zx) (qQ zx)) (qD (qF (K:=K) rfl) (pv 6) (qQ zx) (qQ zx))) (zo qZ (zo z6 (zc (zv (K:=K) rfl) (pv 3) zx (λ_ _=>rfl)) zx) (zo qf zx (zo z6 (zc (zv (K:=K) rfl) (pv 3) zx (λ_ _=>rfl)) zx))) (λ_ _=>rfl)))
   (zq (za (i:=8) kH.nd rfl (LL rfl) (zi G_w_pick hr rfl T.xq.mg T.xq.fn.kp T.xq.bd .nil zJ (zz (pv 0) (zz (pv 5) (zz (qq (zz zw (zz zw (zz zw (zz zw (zz zw zj)))))) (zz (zc (zv (K:=K) rfl) (pv 3) zx (λ_ _=>rfl)) zj))))))
   (zq (kx (qG (qo hr) (pv 5) (pv 8) (λ_ _=>rfl)) (ve (pv 5) (pv 7) (je (qo hr))))
   (zk (zp (zB (zz zw (zz (pv 7) (zz zw (zz (pv 8) zj))))))))))) zr)
   (zq (PS.join (zW (PW.pt (yY (zd (nH (K:=K) rfl) (pv 4) (qq (zz zx (zz zx zj))) rfl) (vF (zd Yb (zX (zG (K:=K) rfl) rfl T.qJ L4 (zz (pv 1) zj)) zx (zQ _)))))
    (zq (za (i:=9) kH.nd rfl (LL rfl) (zi G_w_opens hr rfl T.sy.mg T.sy.fn.kp T.sy.bd .nil zJ (zz (pv 0) (zz (pv 5) (zz (pv 2) (zz (pv 3) zj))))))
   (zq (zO (qM LD L5 L6 qj (pv 1) (zz (z8 gW rfl T.eI NQ (zz (pv 5) zj)) zj)))
   (zk (zp (pv 9))))) zr))
   (zq (PS.join (zW (PW.pt (yY (zd qz (pv 4) zx (zQ _)) (vF (zd fL (zX (zG (K:=K) rfl) rfl T.qJ L4 (zz (pv 1) zj)) zx (zQ _)))))
    (zq (zO (uM LD T9 Nz ny (pv 1)))
   (zk (zp (zB (zz zw zj))))) zr))
   (zk (zp (zi G_w_clause hr rfl T.cO.mg T.cO.fn.kp T.cO.bd .nil zJ (zz (pv 0) (zz (pv 5) (zz (pv 2) (zz (pv 3) zj)))))))))))),?_⟩
 have hd:=hZ.hd
 have hN:=V1 c
 have b0:=kZ (j:=S3 0) 0 hxb (by omega)
 have b1:=kZ (j:=S3 1) 0 hxb (by omega)
 have b2:=kZ (j:=S3 2) 0 hxb (by omega)
 have b5:=kZ (j:=S3 5) 0 hxb (by omega)
 generalize hx0:xs.getD (S3 0) 0=x0 at b0
 generalize hx1:xs.getD (S3 1) 0=x1 at b1
 generalize hx2:xs.getD (S3 2) 0=x2 at b2
 generalize hx5:xs.getD (S3 5) 0=x5 at b5
 have g0:vX (xs.map V.int) 0=some (.int x0):=by rw[←hx0];exact qA (by decide) (by omega)
 have g1:vX (xs.map V.int) 1=some (.int x1):=by rw[←hx1];exact qA (by decide) (by omega)
 have g2:vX (xs.map V.int) 2=some (.int x2):=by rw[←hx2];exact qA (by decide) (by omega)
 have g5:vX (xs.map V.int) 5=some (.int x5):=by rw[←hx5];exact qA (by decide) (by omega)
 clear hx0 hx1 hx2 hx5
 have n1:=hK.n1
 have n7:=hK.n7
 obtain⟨es0,⟨d,o⟩,rfl⟩:=tF n1
 have ed:H d=some (.dK (dS o)):=hK.at' (d,o) (by simp)
 have hO:rR c (xB ps as zb) (j5 ps as zb) o:=hK.ok (d,o) (by simp)
 have hol:=hO.len
 have hrev:((es0 ++ [(d,o)]).map (·.2)).reverse=o :: (es0.map (·.2)).reverse:=by simp
 have hHH:=hH.same hK.bs
 have lno:∀{l:Addr} {es2:List (Addr × Ow)} {H0:Hp},H0 l=none→(∃ys,H0 ls=some (.lst ys))→(∀e∈es2,∃u,H0 e.1=some (.dK u))→l∉Jx ls es2:=λ{l es2 H0} h1 h2 h3 z=>by
  rcases La.mp z with z | z
  ·obtain⟨ys,hy⟩:=h2
   rw[←z,h1] at hy
   cases hy
  ·obtain⟨e,he,rfl⟩:=SX.mp z
   obtain⟨u,hu⟩:=h3 e he
   rw[h1] at hu
   cases hu
 refine⟨_,rfl,lx,_,_,_,rfl,rfl,zK.of ex,g0,_,_,rfl,rfl,(by show (0:Int) < 9;decide),?_⟩
 have m0:0≤x0 % 9:=Sb _ (by decide)
 show zU 4 (V.int (x0 % 9)) [some (.ref p),some (.ref ls),some (.str lb),some (.ref lx),none,none,none,none,none,none] _ _
 generalize x0 % 9=kk at m0
 refine⟨_,rfl,1,rfl,ls,_,_,_,rfl,rfl,zK.of hK.el,Ge,?_⟩
 show zU 5 (V.ref d) [some (.ref p),some (.ref ls),some (.str lb),some (.ref lx),some (.int kk),none,none,none,none,none] _ _
 walk_at "rd"
 walk_at "x3"
 ·obtain⟨lp,la,lr,ln,ll,vs,ep,_,_,_,eln,_⟩:=id hHH
  refine⟨_,rfl,p,_,_,_,rfl,rfl,jt.of ep,rfl,?_⟩
  show zU 6 (V.ref ln) [some (.ref p),some (.ref ls),some (.str lb),some (.ref lx),some (.int kk),some (.ref d),none,none,none,none] _ _
  walk_at "rd"
  intro a1 H1 s1 ha1 e1
  have e1':H1 a1=some (.lst ((((NZ c).drop 22).take 6).map V.str)):=by
   rw[←dY V.str (NZ c) 22 6 (by omega)]
   exact e1
  have eln1:=s1 _ _ eln
  walk_at "rd"
  intro a2 H2 s2 ha2 e2
  have e2':H2 a2=some (.lst (((NZ c).take 22).map V.str)):=by
   have:=dY V.str (NZ c) 0 22 (by omega)
   rw[OC,Ir] at this
   rw[←this]
   exact e2
  have l6:(((NZ c).drop 22).take 6).length=6:=by rw[L3,Tx,hN];rfl
  have l22:((NZ c).take 22).length=22:=by rw[L3,hN];rfl
  refine⟨a1,a2,_,_,rfl,rfl,s2 _ _ e1',e2',zg (by rw[Ln,Ln];omega),?_⟩
  intro a3 H3 s3 ha3 e3
  have e3':H3 a3=some (.lst ((((NZ c).drop 22).take 6 ++ (NZ c).take 22).map V.str)):=by rw[e3,LY]
  have sA:zf H H3:=(s1.trans s2).trans s3
  have j0:0≤x1 % 28 / (1 + x5 % 2):=Ak (Sb _ (by decide)) (by omega)
  have j1:x1 % 28 / (1 + x5 % 2) < 28:=by
   have h5:x5 % 2=0∨x5 % 2=1:=by omega
   rcases h5 with h5 | h5<;>rw[h5]<;>omega
  have hL:(((NZ c).drop 22).take 6 ++ (NZ c).take 22).length=28:=by rw[Li,l6,l22]
  have hin:(((NZ c).drop 22).take 6 ++ (NZ c).take 22).getD (x1 % 28 / (1 + x5 % 2)).toNat ""∈(NZ c).take 28:=by
   have hm:(((NZ c).drop 22).take 6 ++ (NZ c).take 22).getD (x1 % 28 / (1 + x5 % 2)).toNat ""∈((NZ c).drop 22).take 6 ++ (NZ c).take 22:=by
    rw[L7,Le (show (x1 % 28 / (1 + x5 % 2)).toNat < (((NZ c).drop 22).take 6 ++ (NZ c).take 22).length by omega)]
    exact T5 _
   have e28:(NZ c).take 28=(NZ c).take 22 ++ ((NZ c).drop 22).take 6:=by rw[show (28:Nat)=22 + 6 from rfl,Ep]
   rw[e28]
   rcases LU.mp hm with h | h
   ·exact LP _ h
   ·exact Ss _ h
  refine⟨_,rfl,lx,_,_,_,rfl,rfl,zK.of (sA _ _ ex),g1,_,_,rfl,rfl,(by show (0:Int) < 28;decide),?_⟩
  refine⟨_,rfl,lx,_,_,_,rfl,rfl,zK.of (sA _ _ ex),g5,_,_,rfl,rfl,(by show (0:Int) < 2;decide),_,_,rfl,rfl,_,_,rfl,rfl,(by walk_at "ar"),?_⟩
  refine⟨a3,_,_,_,rfl,rfl,zK.of e3',bJ j0 (by omega),?_⟩
  generalize (((NZ c).drop 22).take 6 ++ (NZ c).take 22).getD (x1 % 28 / (1 + x5 % 2)).toNat "" = nw at hin ⊢
  clear e1 e1' e2 e2' e3 e3' eln1 ha1 ha2 ha3 s1 s2 s3 j0 j1 hL
  show zU 7 (V.str nw) [some (.ref p),some (.ref ls),some (.str lb),some (.ref lx),some (.int kk),some (.ref d),some (.ref ln),none,none,none] _ _
  walk_at "rd"
  intro tw H4 s4 htw e4
  have sB:=sA.trans s4
  refine⟨_,rfl,lx,_,_,_,rfl,rfl,zK.of (sB _ _ ex),g2,?_⟩
  refine⟨p,d,tw,c,ps,as,zb,o,GF,x2,rfl,hHH.same sB,hd,sB _ _ ed,jt.of e4,hO.bs,hO.D8,by omega,b2.1,λv H5 s5 hv=>?_⟩
  have hv':zZ v=true∧∃b,lk o v=some b∧xB ps as zb b∈GF:=by
   refine hv.resolve_left λz=>?_
   obtain⟨q,hq⟩:=List.exists_mem_of_ne_nil _ hO.ne
   obtain⟨b,hb⟩:=JJ hq
   exact z.2 q.1 b hb (GS hd (hO.bs q.1 b hb).1)
  obtain⟨hvn,b,hvb,_⟩:=hv'
  have sC:=sB.trans s5
  have ed5:=sC _ _ ed
  have hg:jC H5 d (kV (.inr v)) (some (V.str b)):=by
   have:=jC.k (k:=.inr v) ed5
   rw[kB,hvb] at this
   exact this
  show zU 8 (V.str v) [some (.ref p),some (.ref ls),some (.str lb),some (.ref lx),some (.int kk),some (.ref d),some (.ref ln),some (.str nw),none,none] _ _
  refine⟨_,rfl,_,rfl,d,_,rfl,hg,?_⟩
  walk_at "rd"
  refine⟨d,_,.inr nw,rfl,rfl,ed5,zg (by rw[vI];omega),?_⟩
  intro H6 k6 e6
  rw[gB] at e6
  walk_at "rd"
  intro l H7 s7 hl e7
  have hK6:=(hK.same sC).put k6 e6 (hO.put hin hvb)
  have hl5:H5 l=none:=by
   rw[←k6 l (λz=>by rw[z,e6] at hl;cases hl)]
   exact hl
  refine k l H7 ["let",nw,"be",v] _ (λx u hx q=>?_) (sC.free hl5) e7 (hK6.same s7) (λx hx=>.inl (by simpa using SH (f:=zzG) hx)) (lno hl ⟨_,hK6.el⟩ λx hx=>⟨_,hK6.at' x hx⟩) (.inr ⟨.lt nw v,rfl,⟨si c _ (Tp hin),hvn⟩,.inl rfl,?_⟩)
  ·refine s7 _ _ ?_
   rw[k6 x λz=>hx (by rw[z];simp [Jx])]
   exact sC _ _ q
  ·rw[hrev]
   show (lk o v).bind _=_
   rw[hvb]
   simp
 walk_at "x4"
 let Jn:xM:=λσ' H'=>(∃(v9:Option V),σ'=[some (.ref p),some (.ref ls),some (.str lb),some (.ref lx),some (.int kk),some (.ref d),none,none,none,v9]∧zf H H')∨False
 refine⟨Jn,?_,?_⟩
 ·walk_at "rd"
  intro tq H1 s1 htq e1
  refine⟨tq,_,rfl,.inr (jt.of e1),rfl,rfl,_,rfl,?_⟩
  refine zD (λh2=>?_) (λh2=>.inl ⟨_,rfl,s1⟩)
  have hK1:=hK.same s1
  refine⟨_,rfl,ls,_,rfl,.inl (zK.of hK1.el),_,_,rfl,rfl,_,rfl,?_⟩
  rw[Ln]
  refine zD (λh3=>?_) (λh3=>.inl ⟨_,rfl,s1⟩)
  have h3':((es0 ++ [(d,o)]).length:Int) < 7:=zzB h3
  refine⟨_,rfl,_,rfl,_,rfl,_,rfl,p,d,lx,c,ps,as,zb,o,lb,xs,rfl,hHH.same s1,hd,s1 _ _ ed,hO.bs,hO.D8,by omega,hlb,s1 _ _ ex,hxl,hxb,λl H2 rs s2 hl e2 qx hns=>?_⟩
  have hK2:=hK1.same s2
  show zU 9 (V.ref l) [some (.ref p),some (.ref ls),some (.str lb),some (.ref lx),some (.int kk),some (.ref d),none,none,none,none] _ _
  refine⟨_,rfl,.inl ⟨rfl,_,zK.of hK2.el⟩,?_⟩
  refine⟨_,rfl,d,_,rfl,s2 _ _ (s1 _ _ ed),?_⟩
  intro d2 H3 s3 hd2 e3
  have hK3:=hK2.same s3
  refine⟨ls,_,_,rfl,rfl,hK3.el,zg (by rw[Ln];omega),?_⟩
  intro H4 k4 e4
  have hnew:d2∉(es0 ++ [(d,o)]).map (·.1):=λz=>by
   obtain⟨x,hx,hxe⟩:=SX.mp z
   have q:=hK2.at' x hx
   rw[hxe,hd2] at q
   cases q
  have hK4:=hK3.push hnew (hK2.bs.free hd2) e3 hO (by omega) k4 e4
  have hll:l≠ls:=λz=>by have q:=hK1.el;rw[←z,hl] at q;cases q
  have sA:=s1.trans s2
  refine⟨_,rfl,?_⟩
  refine k l H4 (Ew.pt lb rs).ws _ (λx u hx q=>?_) (s1.free hl) (k4.look (s3 _ _ e2) hll) hK4 (λx hx=>?_) (λz=>?_) (.inr ⟨.pt lb rs,rfl,qx,.inr rfl,?_⟩)
  ·rw[k4 x λz=>hx (by rw[z];simp [Jx])]
   exact s3 _ _ (sA _ _ q)
  ·rcases LU.mp hx with hx | hx
   ·exact .inl (SH hx)
   ·rw[LW.mp hx];exact .inr (sA.free hd2)
  ·rcases La.mp z with z | z
   ·exact hll z
   ·obtain⟨x,hx,hxe⟩:=SX.mp z
    (rcases LU.mp hx with hx | hx)
    ·have q:=hK1.at' x hx
     rw[hxe,hl] at q
     cases q
    ·rw[LW.mp hx] at hxe
     have hxe:d2=l:=hxe
     rw[hxe,e2] at hd2
     cases hd2
  ·rw[hrev]
   obtain⟨ns,hns⟩:=hns
   show (xr _ o rs).bind _=_
   rw[hns]
   simp
 intro σ' H1 q
 obtain⟨v9,rfl,s1⟩:=q.resolve_right λz=>z
 clear q
 have hK1:=hK.same s1
 walk_at "x4"
 let Jn:xM:=λσ' H'=>(σ'=[some (.ref p),some (.ref ls),some (.str lb),some (.ref lx),some (.int kk),some (.ref d),none,none,none,v9]∧H'=H1)∨False
 refine⟨Jn,?_,?_⟩
 ·walk_at "rd"
  refine zD (λh2=>?_) (λh2=>.inl ⟨rfl,rfl⟩)
  refine⟨_,rfl,ls,_,rfl,.inl (zK.of hK1.el),_,_,rfl,rfl,_,rfl,?_⟩
  rw[Ln]
  refine zD (λh3=>?_) (λh3=>.inl ⟨rfl,rfl⟩)
  have h3':(1:Int) < ((es0 ++ [(d,o)]).length:Int):=zzB h3
  rw[Li] at h3'
  simp only[LQ,LO] at h3'
  refine⟨_,rfl,.inl ⟨rfl,_,zK.of hK1.el⟩,ls,_,.ref d,rfl,rfl,hK1.el,by simp,?_⟩
  intro H2 k2 e2
  have e2':H2 ls=some (.lst (es0.map λe=>.ref e.1)):=by rw[e2];simp
  have hK2:=hK1.pop (by omega) k2 e2'
  walk_at "rd"
  intro l H3 s3 hl e3
  have hls1:H1 l=none:=by
   rw[←k2 l (λz=>by rw[z,e2'] at hl;cases hl)]
   exact hl
  refine k l H3 ["done"] es0 (λx u hx q=>?_) (s1.free hls1) e3 (hK2.same s3) (λx hx=>.inl (by simpa using LL ⟨x.2,hx⟩)) (lno hl ⟨_,e2'⟩ λx hx=>⟨_,hK2.at' x hx⟩) (.inr ⟨.dn,rfl,Tz,.inl rfl,?_⟩)
  ·refine s3 _ _ ?_
   rw[k2 x λz=>hx (by rw[z];simp [Jx])]
   exact s1 _ _ q
  ·rw[hrev]
   show (if (es0.map (·.2)).reverse=[] then none else some (es0.map (·.2)).reverse)=_
   rw[if_neg λz=>by
    have:=congrArg Tb z
    simp at this
    rw[this] at h3'
    simp at h3']
 intro σ' H2 q
 obtain⟨rfl,rfl⟩:=q.resolve_right λz=>z
 clear q
 refine⟨_,rfl,_,rfl,_,rfl,_,rfl,?_⟩
 refine⟨p,d,lx,c,ps,as,zb,o,lb,xs,rfl,hHH.same s1,hd,s1 _ _ ed,hO.bs,hO.D8,by omega,hlb,s1 _ _ ex,hxl,hxb,λl H3 ws s3 hl e3 hws=>?_⟩
 have s13:=s1.trans s3
 refine k l H3 ws _ (HZ s13) (s1.free hl) e3 (hK.same s13) (λx hx=>.inl (SH hx)) (lno hl ⟨_,hK1.el⟩ λx hx=>⟨_,hK1.at' x hx⟩) ?_
 rcases hws with hws | ⟨e,hws,qx,hlab,cc,hcc,hcl⟩
 ·exact .inl ⟨hws,rfl⟩
 ·refine .inr ⟨e,hws,qx,.inr hlab,?_⟩
  rw[hrev]
  obtain⟨f,hf⟩:=hcl [] 0
  cases e<;>first | (cases hcc;done) | (cases hcc;show (gI _ _ _ _ _ _ _ _ [] 0).bind _=_;rw[hf];rfl) | skip
end
def fc (H:Hp) (v:V) (e:Ew):Prop:=∃l,v=.ref l∧H l=some (.lst (e.ws.map V.str))
theorem fc.same {H H':Hp} {v:V} {e:Ew} (h:fc H v e) (s:zf H H'):fc H' v e:=by
 obtain⟨l,e,h⟩:=h
 exact⟨l,e,s _ _ h⟩
noncomputable def fZ (kd:Str→Str):List Ew→List Ow→Option (List Ow)
 | [],st=>some st
 | e :: es,st=>(Y2 kd e st).bind λs=>fZ kd es s
theorem nD (kd:Str→Str) (bs:List Ew):∀(as:List Ew) (st:List Ow),fZ kd (as ++ bs) st=(fZ kd as st).bind λs=>fZ kd bs s
 | [],st=>by rw[Sr,fZ];rfl
 | e :: as,st=>by
  rw[SA,fZ,fZ]
  cases Y2 kd e st with
  | none=>rfl
  | some s=>exact nD kd bs as s
theorem YX (kd:Str→Str) (e:Ew) (st:List Ow):fZ kd [e] st=Y2 kd e st:=by
 rw[fZ]
 cases Y2 kd e st<;>rfl
theorem au:∀{as bs:List Ew} {d d1 d2:Nat},af d as=some d1→af d1 bs=some d2→af d (as ++ bs)=some d2
 | [],bs,d,d1,d2,h1,h2=>by cases h1;exact h2
 | e :: as,bs,d,d1,d2,h1,h2=>by
  rw[af] at h1
  rw[SA,af]
  cases hd:dp d e with
  | none=>rw[hd] at h1;cases h1
  | some x=>rw[hd] at h1;exact au (d:=x) h1 h2
theorem GH (d:Nat) (e:Ew):af d [e]=dp d e:=by
 rw[af]
 cases dp d e<;>rfl
theorem Y3 {kd:Str→Str} {e:Ew} {o:Ow} {st st2:List Ow} {c:Int × Str × Str × Str × Int × Str} (hc:e.ZL=some c) (h:Y2 kd e (o :: st)=some st2):st2=o :: st∧∃f,gI kd o c.1 c.2.1 c.2.2.1 c.2.2.2.1 c.2.2.2.2.1 c.2.2.2.2.2 [] 0=some f:=by
 have h':(e.ZL).bind (λc=>(gI kd o c.1 c.2.1 c.2.2.1 c.2.2.2.1 c.2.2.2.2.1 c.2.2.2.2.2 [] 0).bind λ_=>some (o :: st))=some st2:=by
  cases e<;>first | exact h | cases hc
 rw[hc,LX] at h'
 cases q:gI kd o c.1 c.2.1 c.2.2.1 c.2.2.2.1 c.2.2.2.2.1 c.2.2.2.2.2 [] 0 with
 | none=>rw[q] at h';cases h'
 | some f=>rw[q] at h';exact⟨(L8 h').symm,f,rfl⟩
theorem FI {kd:Str→Str} {e:Ew} {o:Ow} {st st2:List Ow} (h:Y2 kd e (o :: st)=some st2) (h7:st2.length≤7):1≤st2.length∧dp st.length e=some (st2.length - 1):=by
 have cl:∀{c},e.ZL=some c→dp st.length e=some st.length→1≤st2.length∧dp st.length e=some (st2.length - 1):=λ{c} hc hd=>by
  obtain⟨rfl,_⟩:=Y3 hc h
  exact⟨by simp,by rw[hd];simp⟩
 cases e with
 | lt a b=>
  have h':(lk o b).bind (λx=>some (pu o a x :: st))=some st2:=h
  cases q:lk o b with
  | none=>rw[q] at h';cases h'
  | some x=>rw[q] at h';cases h';exact⟨by simp,by simp [dp]⟩
 | mu l w a n r=>exact cl rfl rfl
 | my l w a=>exact cl rfl rfl
 | bn l w a r=>exact cl rfl rfl
 | pw l w a r=>exact cl rfl rfl
 | pt n rs=>
  have h':(xr kd o rs).bind (λ_=>some (o :: o :: st))=some st2:=h
  cases q:xr kd o rs with
  | none=>rw[q] at h';cases h'
  | some x=>
   rw[q] at h'
   cases h'
   simp only[LQ] at h7
   exact⟨by simp,by simp only[dp,LQ];rw[if_pos (by omega)];rfl⟩
 | dn=>
  have h':(if st=[] then none else some st)=some st2:=h
  split at h'
  ·cases h'
  ·cases h'
   have hp:0 < st.length:=OK.mpr (by assumption)
   exact⟨hp,by simp only[dp];rw[if_pos hp]⟩
theorem GK {kd:Str→Str} {o:Ow} {k:Int} {l u a:Str} {n:Int} {r:Str} {f:Fl} {zb:List Str} {d:Int} (h:gI kd o k l u a n r [] 0=some f):gI kd o k l u a n r zb d=some { f with zb:=zb,d:=d }:=by
 unfold gI at h ⊢
 cases q1:jQ (bQ kd o 0 u) with
 | none=>rw[q1] at h;cases h
 | some w=>
  rw[q1,LX] at h
  cases q2:jQ (bQ kd o 1 a) with
  | none=>rw[q2] at h;cases h
  | some a'=>
   rw[q2,LX] at h
   cases q3:jQ (uJ kd o k r) with
   | none=>rw[q3] at h;cases h
   | some r'=>rw[q3] at h;cases h;rfl
theorem KQ {kd:Str→Str} {o:Ow} {rs zb ns:List Str} (h:xr kd o rs=some ns):∃cv,bV kd o rs zb=some cv:=by
 unfold bV
 split
 ·exact⟨_,rfl⟩
 ·rw[h];exact⟨_,rfl⟩
theorem DP {kd:Str→Str} {e:Ew} {S:List (Ow × List Str)} {st2:List Ow} (h:Y2 kd e (S.map (·.1))=some st2):∃p,Gd kd e S=some p∧p.2.map (·.1)=st2:=by
 cases S with
 | nil=>cases h
 | cons or S=>
  obtain⟨o,zb⟩:=or
  have cl:∀{c},e.ZL=some c→Gd kd e ((o,zb) :: S)=(e.ZL.bind λc=>(gI kd o c.1 c.2.1 c.2.2.1 c.2.2.2.1 c.2.2.2.2.1 c.2.2.2.2.2 zb S.length).bind λf=>some ([f],(o,zb) :: S))→∃p,Gd kd e ((o,zb) :: S)=some p∧p.2.map (·.1)=st2:=λ{c} hc hd=>by
   obtain⟨rfl,f,hf⟩:=Y3 hc (show Y2 kd e (o :: S.map (·.1))=some st2 from h)
   rw[hd,hc,LX,GK hf]
   exact⟨_,rfl,rfl⟩
  cases e with
  | lt a b=>
   have h':(lk o b).bind (λx=>some (pu o a x :: S.map (·.1)))=some st2:=h
   show ∃p,(lk o b).bind _=some p∧_
   cases q:lk o b with
   | none=>rw[q] at h';cases h'
   | some x=>rw[q] at h';cases h';exact⟨_,rfl,rfl⟩
  | mu l w a n r=>exact cl rfl rfl
  | my l w a=>exact cl rfl rfl
  | bn l w a r=>exact cl rfl rfl
  | pw l w a r=>exact cl rfl rfl
  | pt n rs=>
   have h':(xr kd o rs).bind (λ_=>some (o :: o :: S.map (·.1)))=some st2:=h
   cases q:xr kd o rs with
   | none=>rw[q] at h';cases h'
   | some x=>
    rw[q] at h'
    cases h'
    obtain⟨cv,hcv⟩:=KQ (zb:=zb) q
    show ∃p,(bV kd o rs zb).bind _=some p∧_
    rw[hcv]
    exact⟨_,rfl,rfl⟩
  | dn=>
   have h':(if S.map (·.1)=[] then none else some (S.map (·.1)))=some st2:=h
   show ∃p,(if S=[] then none else some (([]:List Fl),S))=some p∧_
   cases S with
   | nil=>cases h'
   | cons x S=>cases h';exact⟨_,rfl,rfl⟩
theorem YJ {kd:Str→Str}:∀{es:List Ew} {S:List (Ow × List Str)} {st2:List Ow},fZ kd es (S.map (·.1))=some st2→∃p,xH kd es S=some p∧p.2.map (·.1)=st2
 | [],S,st2,h=>by cases h;exact⟨_,rfl,rfl⟩
 | e :: es,S,st2,h=>by
  rw[fZ] at h
  cases q:Y2 kd e (S.map (·.1)) with
  | none=>rw[q] at h;cases h
  | some s=>
   rw[q,LX] at h
   obtain⟨p,hp,rfl⟩:=DP q
   obtain⟨p2,hp2,hp3⟩:=YJ h
   rw[xH,hp,LX,hp2]
   exact⟨_,rfl,hp3⟩
structure Xt (kd:Str→Str) (K0:Ow) (evs:List Ew):Prop where
 ok:∀e∈evs,e.ok
 dp:af 0 evs=some 0
 nd:(jV evs).Nodup
 ln:evs.length≤42
 rn:∃o2,fZ kd evs [wD K0]=some [o2]
theorem Kw {kd:Str→Str}:∀{st:List Ow} {o:Ow},∃o2,fZ kd (Sk st.length .dn) (o :: st)=some [o2]
 | [],o=>⟨o,rfl⟩
 | x :: st,o=>by
  obtain⟨o2,h⟩:=Kw (kd:=kd) (st:=st) (o:=x)
  refine⟨o2,?_⟩
  rw[LQ,Tv,fZ]
  show OA (if x :: st=[] then none else some (x :: st)) _=_
  rw[if_neg (by simp),LX]
  exact h
theorem Wm:∀n:Nat,af n (Sk n .dn)=some 0
 | 0=>rfl
 | n + 1=>by
  rw[Tv,af]
  show OA (if 0 < n + 1 then some (n + 1 - 1) else none) _=_
  rw[if_pos (by omega),LX]
  exact Wm n
theorem Qt (a b:List Ew):jV (a ++ b)=jV a ++ jV b:=by unfold jV;simp
theorem XA:∀n:Nat,jV (Sk n .dn)=[]
 | 0=>rfl
 | n + 1=>by rw[Tv];exact XA n
theorem Xt.close {kd:Str→Str} {K0:Ow} {evs:List Ew} {st:List Ow} (h1:∀e∈evs,e.ok) (h2:af 0 evs=some (st.length - 1)) (h3:(jV evs).Nodup) (h4:evs.length≤36) (h5:fZ kd evs [wD K0]=some st) (h6:1≤st.length) (h7:st.length≤7):Xt kd K0 (evs ++ Sk (st.length - 1) .dn):=by
 refine⟨λe he=>?_,au h2 (Wm _),by rw[Qt,XA,Sd];exact h3,by rw[Li,Tw];omega,?_⟩
 ·(rcases LU.mp he with he | he)
  ·exact h1 e he
  ·rw[List.eq_of_mem_replicate he];trivial
 ·rw[nD,h5,LX]
  cases st with
  | nil=>simp at h6
  | cons o st=>exact Kw
theorem WK {c:Int} {ps as:List Str} {zb:List (Str × Str)} (h:Mz c ps as zb):rR c (xB ps as zb) (j5 ps as zb) (wD (j5 ps as zb)):=by
 have hk:=yN ps as zb
 have hn:((j5 ps as zb).map (·.1)).Nodup:=by rw[hk];exact h.hd.nd
 refine⟨by rw[dE];exact hn,λn hm=>by rw[dE,hk] at hm;exact h.wd n hm,λz b hz=>?_,λz=>?_⟩
 ·obtain⟨p,hp,e⟩:=SX.mp (X3 hz)
  have e1:p.1=b:=congrArg Prod.snd e
  subst e1
  refine⟨?_,?_⟩
  ·have:=WD hn hp
   unfold xB
   rw[this]
   rfl
  ·have hm:p.1∈ps ++ as ++ zb.map (·.2):=by rw[←hk];exact SH hp
   exact si c _ (Tp (h.wd _ hm))
 ·have:=congrArg Tb z
  have hp:=h.hd.p1
  unfold wD j5 at this
  rw[Ln,Li,Li,Ln] at this
  simp only[LO] at this
  omega
theorem Kk {α:Type} (x:α):∀n:Nat,(Sk n [x]).flatten=Sk n x
 | 0=>rfl
 | n + 1=>by rw[Tv,NF,Kk x n];rfl
theorem QR {H:Hp} {l:Addr} (h:H l=some (.lst ((Ew.dn).ws.map V.str))):∀n:Nat,Paired (fc H) (Sk n (V.ref l)) (Sk n Ew.dn)
 | 0=>.nil
 | n + 1=>.cons ⟨l,rfl,h⟩ (QR h n)
theorem sub_snoc {α:Type} {as xs:List α} {i:Nat} {x:α} (h:as.Sublist (xs.take i)) (hx:xs[i]?=some x):(as ++ [x]).Sublist (xs.take (i + 1)):=by
 rw[take_snoc hx]
 exact h.append (EL _)
theorem Q8 {α:Type} {as xs:List α} {i:Nat} (h:as.Sublist (xs.take i)):as.Sublist (xs.take (i + 1)):=by
 refine h.trans ?_
 rw[IE]
 exact List.sublist_append_left _ _
section
variable {P:LH} {w:Sz} {K:Ls} {mg:Str→Option Lo} {base:Heap} {t:z4}
def BP (K:Ls):Sp:=λvs H Q _=>∃(a p:Addr) (ns:List Int) (c:Int) (ps as:List Str) (zb:List (Str × Str)) (vb:List Str),vs=[.ref a,.ref p,.int 36]∧zK K H a (ns.map V.int)∧mf H p c ps as zb∧Mz c ps as zb∧Mr H p vb∧B1 vb∧
 ∀l H' vs evs,zf H H'→H l=none→H' l=some (.lst vs)→Paired (fc H') vs evs→Xt (xB ps as zb) (j5 ps as zb) evs→Q (.ref l) H'
structure rT (c:Int) (kd:Str→Str) (K0:Ow) (vb:List Str) (B H:Hp) (ls lr:Addr) (i:Nat) (es:List (Addr × Ow)) (vs:List V) (evs:List Ew):Prop where
 sk:bZ c kd K0 B H ls es
 el:H lr=some (.lst vs)
 bl:B lr=none
 pr:Paired (fc H) vs evs
 nl:lr∉Jx ls es
 nv:∀l,V.ref l∈vs→l∉Jx ls es∧l≠lr
 ok:∀e∈evs,e.ok
 dp:af 0 evs=some (es.length - 1)
 lb:(jV evs).Sublist (vb.take i)
 ln:evs.length≤i
 rn:fZ kd evs [wD K0]=some (es.map (·.2)).reverse
theorem Kx {H H':Hp} {vs:List V} {evs:List Ew} (h:Paired (fc H) vs evs) (hk:∀l,V.ref l∈vs→∀u,H l=some u→H' l=some u):Paired (fc H') vs evs:=Paired.KN h λv hv e z=>by
 obtain⟨l,rfl,z⟩:=z
 exact⟨l,rfl,hk l hv _ z⟩
theorem Xo {H:Hp} {ls lr:Addr} {es es2:List (Addr × Ow)} {u:HO} (h:lr∉Jx ls es) (h2:∀e∈es2,e.1∈es.map (·.1)∨H e.1=none) (hl:H lr=some u):lr∉Jx ls es2:=λz=>by
 rcases La.mp z with z | z
 ·exact h (by rw[z];exact Sw)
 ·obtain⟨e,he,hee⟩:=SX.mp z
  rcases h2 e he with q | q
  ·rw[hee] at q;exact h (LK _ q)
  ·rw[hee,hl] at q;cases q
theorem rT.next {c:Int} {kd:Str→Str} {K0:Ow} {vb:List Str} {B H H2 H3:Hp} {ls lr l:Addr} {i:Nat} {es es2:List (Addr × Ow)} {vs:List V} {evs:List Ew} {e:Ew} {lb:Str} (h:rT c kd K0 vb B H ls lr i es vs evs) (f:Fm (Jx ls es) H H2) (hl:H l=none) (el:H2 l=some (.lst (e.ws.map V.str))) (hk:bZ c kd K0 B H2 ls es2) (h2:∀e∈es2,e.1∈es.map (·.1)∨H e.1=none) (hn:l∉Jx ls es2)
  (ho:e.ok) (hla:yX e=[]∨yX e=[lb]) (hlb:vb[i]?=some lb) (hst:Y2 kd e (es.map (·.2)).reverse=some (es2.map (·.2)).reverse) (k3:Keeps lr H2 H3) (e3:H3 lr=some (.lst (vs ++ [.ref l]))):rT c kd K0 vb B H3 ls lr (i + 1) es2 (vs ++ [.ref l]) (evs ++ [e]):=by
 have nl2:=Xo h.nl h2 h.el
 have hlr:l≠lr:=λz=>by rw[z,h.el] at hl;cases hl
 have nr:∀x∈es2,x.1≠lr:=λx hx z=>nl2 (LK _ (by rw[←z];exact SH hx))
 have nls:ls≠lr:=λz=>nl2 (by rw[←z];exact Sw)
 have hlen:((es2.map (·.2)).reverse).length=es2.length:=by simp
 refine⟨⟨k3.look hk.el nls,λx hx=>k3.look (hk.at' x hx) (nr x hx),hk.nd,hk.ok,hk.n1,hk.n7,k3.put hk.bs h.bl,hk.bl,hk.bd⟩,e3,h.bl,?_,nl2,λa ha=>?_,λx hx=>?_,?_,?_,?_,?_⟩
 ·refine Paired.Kn (.cons ⟨l,rfl,k3.look el hlr⟩ .nil) (Kx h.pr λa ha u hu=>?_)
  exact k3.look (f a u (h.nv a ha).1 hu) (h.nv a ha).2
 ·(rcases LU.mp ha with ha | ha)
  ·have:∃u,H a=some u:=by
    obtain⟨j,hj,hje⟩:=List.mem_iff_getElem.mp ha
    obtain⟨e',_,b,hb,hu⟩:=Paired.a8 (i:=j) h.pr (by rw[Le hj,hje])
    cases hb
    exact⟨_,hu⟩
   obtain⟨u,hu⟩:=this
   exact⟨Xo (h.nv a ha).1 h2 hu,(h.nv a ha).2⟩
  ·cases LW.mp ha
   exact⟨hn,hlr⟩
 ·rcases LU.mp hx with hx | hx
  ·exact h.ok x hx
  ·rw[LW.mp hx];exact ho
 ·refine au h.dp ?_
  rw[GH]
  have hsp:∃o st,(es.map (·.2)).reverse=o :: st∧st.length=es.length - 1:=by
   have h1:=h.sk.n1
   have hl':((es.map (·.2)).reverse).length=es.length:=by simp
   cases q:(es.map (·.2)).reverse with
   | nil=>rw[q] at hl';simp at hl';omega
   | cons o st=>rw[q] at hl';exact⟨o,st,rfl,by simp only[LQ] at hl';omega⟩
  obtain⟨o,st,q,ql⟩:=hsp
  rw[q] at hst
  have:=(FI hst (by rw[hlen];exact hk.n7)).2
  rw[hlen,ql] at this
  exact this
 ·rw[Qt]
  have e1:jV [e]=yX e:=by simp [jV]
  rw[e1]
  rcases hla with z | z
  ·rw[z,Sd];exact Q8 h.lb
  ·rw[z];exact sub_snoc h.lb hlb
 ·have:=h.ln
  rw[Li]
  (simp only[LQ,LO])
  omega
 ·rw[nD,h.rn,LX,YX]
  exact hst
theorem rT.skip {c:Int} {kd:Str→Str} {K0:Ow} {vb:List Str} {B H H2:Hp} {ls lr:Addr} {i:Nat} {es:List (Addr × Ow)} {vs:List V} {evs:List Ew} (h:rT c kd K0 vb B H ls lr i es vs evs) (f:Fm (Jx ls es) H H2) (hk:bZ c kd K0 B H2 ls es):rT c kd K0 vb B H2 ls lr (i + 1) es vs evs:=
 ⟨hk,f _ _ h.nl h.el,h.bl,Kx h.pr λa ha u hu=>f a u (h.nv a ha).1 hu,h.nl,h.nv,h.ok,h.dp,Q8 h.lb,Tg h.ln,h.rn⟩
theorem rT.same {c:Int} {kd:Str→Str} {K0:Ow} {vb:List Str} {B H H2:Hp} {ls lr:Addr} {i:Nat} {es:List (Addr × Ow)} {vs:List V} {evs:List Ew} (h:rT c kd K0 vb B H ls lr i es vs evs) (s:zf H H2):rT c kd K0 vb B H2 ls lr i es vs evs:=
 ⟨h.sk.same s,s _ _ h.el,h.bl,Paired.imp' (λ_ _ z=>z.same s) h.pr,h.nl,h.nv,h.ok,h.dp,h.lb,h.ln,h.rn⟩
theorem KH {e:Ew} (h:e.ok):SI (.list (e.ws.map S0))=true:=qV λx hx=>(Ew.wk h x hx).1.as.ok
seal NZ
theorem gj:zu ["_law_script","_law_header_here","_law_most","_law_rows_here","_law_stack","_law_k","_law_row"] ["_law_script","_law_header_here","_law_most"] (zy QA):=by walk_at "sc"
theorem Vf (T:Txt K mg t):ze P w K mg base zC 5 t.tZ t.sL ["_law_script","_law_header_here","_law_most"] (BP K):=by
 have G_w_cell:=@ze.mono P w K mg base _ _ 4 _ _ _ _ (uH T) (by decide)
 have G_w_next:=@ze.mono P w K mg base _ _ 4 _ _ _ _ (Vp T) (by decide)
 have G_w_scope:=@ze.mono P w K mg base _ _ 4 _ _ _ _ (nG T) (by decide)
 have G_w_stream:=@ze.mono P w K mg base _ _ 4 _ _ _ _ (QF T) (by decide)
 refine T.ZD.fn.ok gj (by walk_at "ln") ?_;walk_at "hd"
 obtain⟨a,p,ns,c,ps,as,zb,vb,rfl,hA,hH,hZ,hL,hLb,k⟩:=h
 refine⟨_,(zq (za (i:=3) gj.nd rfl (LL rfl) (zB zj) jZ)
   (zq (za (i:=4) gj.nd rfl (LL rfl) (zB (zz (zi G_w_scope hr rfl T.gR.mg T.gR.fn.kp T.gR.bd .nil zJ (zz (pv 1) zj)) zj)) jZ)
   (zq (jy Su rfl (xV rfl T.vK (zz (zo z6 (zi G_w_cell hr rfl T.jl.mg T.jl.fn.kp T.jl.bd .nil zJ (zz (pv 0) (zz zx zj))) (zo qf (pv 2) zx)) zj)) (zM (i:=5) gj.nd rfl (LL rfl))
    (zq (za (i:=6) gj.nd rfl (LL rfl) (zi G_w_next hr rfl T.w_next.mg T.w_next.fn.kp T.w_next.bd .nil zJ (zz (pv 1) (zz (pv 4) (zz (zc (zv (K:=K) rfl) (zc (qY (K:=K) rfl) (pv 1) zx (λ_ _=>rfl)) (pv 5) (λ_ _=>rfl)) (zz (zi G_w_stream hr rfl T.cA.mg T.cA.fn.kp T.cA.bd .nil zJ (zz (zi G_w_cell hr rfl T.jl.mg T.jl.fn.kp T.jl.bd .nil zJ (zz (pv 0) (zz (zo qf zx (pv 5)) zj))) (zz zx zj))) zj))))))
   (zk (PS.join (zW (zd (Zv (K:=K) rfl hr.units) (pv 6) (zB zj) (zQ _))
    (zk (zO (qM LD L5 L6 qj (pv 3) (zz (pv 6) zj)))) zr)))))
   (zk (zp (zo vi (pv 3) (zo Fw (zB (zz (zB (zz zw zj)) zj)) (zo m8 (zX (zG (K:=K) rfl) rfl T.qJ L4 (zz (pv 4) zj)) zx)))))))),?_⟩
 walk_at "rd"
 intro lr H1 s1 hlr e1
 show zU 3 (V.ref lr) [some (.ref a),some (.ref p),some (.int 36),none,none,none,none] _ _
 refine⟨_,rfl,p,c,ps,as,zb,rfl,hH.same s1,hZ.hd,λd H2 s2 hd0 e2=>?_⟩
 walk_at "rd"
 intro ls H3 s3 hls e3
 show zU 4 (V.ref ls) [some (.ref a),some (.ref p),some (.int 36),some (.ref lr),none,none,none] _ _
 have s13:=(s1.trans s2).trans s3
 have hlsH:H ls=none:=(s1.trans s2).free hls
 have hdH:H d=none:=s1.free hd0
 have e2':=s3 _ _ e2
 have e1':=s3 _ _ (s2 _ _ e1)
 have st0:rT c (xB ps as zb) (j5 ps as zb) vb H H3 ls lr 0 [(d,wD (j5 ps as zb))] [] []:=by
  refine⟨⟨e3,λx hx=>?_,by simp,λx hx=>?_,by simp,by simp,s13,hlsH,λx hx=>?_⟩,e1',hlr,.nil,λz=>?_,λl hl=>(by cases hl),λe he=>(by cases he),rfl,List.nil_sublist _,LF _,rfl⟩
  ·rw[LW.mp hx];exact e2'
  ·rw[LW.mp hx];exact WK hZ
  ·rw[LW.mp hx];exact hdH
  ·simp only[Jx,LR,S7,La,Sm,or_false] at z
   rcases z with z | z
   ·rw[z,e3] at e1';cases e1'
   ·rw[z,e2'] at e1';cases e1'
 walk_at "rd"
 refine⟨a,3,ns,rfl,s13.seq hA,by decide,by decide,λcell c0 c1=>?_⟩
 have m0:0≤cell % (36 + 1):=Sb _ (by decide)
 have m1:cell % (36 + 1) < 37:=Sx _ (by decide)
 walk_at "rd"
 let Iv:xn:=λi σ H'=>(∃(es:List (Addr × Ow)) (vs:List V) (evs:List Ew) (v5 v6:Option V),σ=[some (.ref a),some (.ref p),some (.int 36),some (.ref lr),some (.ref ls),v5,v6]∧rT c (xB ps as zb) (j5 ps as zb) vb H H' ls lr i es vs evs)∨False
 refine ki (lo:=0) (n:=(cell % (36 + 1)).toNat) Iv (.inl ⟨_,_,_,none,none,rfl,st0⟩) ?_ ?_
 ·intro i σ H4 hi q
  obtain⟨es,vs,evs,v5,v6,rfl,st⟩:=q.resolve_right λz=>z
  clear q
  have s4:=st.sk.bs
  have hll:=hLb.ln
  have hi':i < 37:=by omega
  rw[NS]
  obtain⟨lb,hlb⟩:∃lb,vb[i]?=some lb:=⟨_,Le (show i < vb.length by omega)⟩
  have hlbn:=hLb.nm lb (LC hlb)
  obtain⟨ga,gb,gc,gd,ll,ep,ell⟩:=hL.same s4
  have gl:vX (vb.map V.str) (i:Int)=some (.str lb):=kF (by rw[LV,hlb];rfl)
  refine⟨_,rfl,_,rfl,_,rfl,p,_,_,_,rfl,rfl,jt.of ep,rfl,_,rfl,ll,_,_,_,rfl,rfl,zK.of ell,gl,?_⟩
  walk_at "rd"
  refine⟨a,6 + (i:Int),ns,rfl,s4.seq hA,by omega,by omega,λcell2 d0 d1=>?_⟩
  walk_at "rd"
  intro lx H5 xs s5 hlx e5 hx hb
  have st5:=st.same s5
  refine⟨H,p,ls,lx,c,ps,as,zb,es,lb,xs,rfl,st5.sk,hH,hZ,hlbn,e5,hx,hb,λl H6 ws es2 f6 hl e6 hk6 ho6 hn6 hr6=>?_⟩
  show zU 6 (V.ref l) [some (.ref a),some (.ref p),some (.int 36),some (.ref lr),some (.ref ls),some (.int (i:Int)),v6] _ _
  walk_at "x4"
  let Jn:xM:=λσ' H'=>(∃(es:List (Addr × Ow)) (vs:List V) (evs:List Ew),σ'=[some (.ref a),some (.ref p),some (.int 36),some (.ref lr),some (.ref ls),some (.int (i:Int)),some (.ref l)]∧rT c (xB ps as zb) (j5 ps as zb) vb H H' ls lr (i + 1) es vs evs)∨False
  refine⟨Jn,?_,?_⟩
  ·walk_at "rd"
   intro l7 H7 s7 hl7 e7
   have sh2:SI (.list (([]:List Str).map S0))=true:=qV λx hx=>by cases hx
   have sh1:SI (.list (ws.map S0))=true:=by
    rcases hr6 with ⟨rfl,_⟩ | ⟨e,rfl,ho,_⟩
    ·exact sh2
    ·exact KH ho
   refine⟨_,_,dt.lst (zK.of (s7 _ _ e6)) (vj.strs _),dt.lst (zK.of e7) (vj.strs []),sh1,sh2,?_⟩
   rw[bU]
   walk_at "rd"
   walk_at "x3"
   ·have hne:ws≠[]:=λz=>by rw[z] at h1;simp at h1
    rcases hr6 with ⟨z,_⟩ | ⟨e,rfl,ho,hla,hst⟩
    ·exact absurd z hne
    have hk7:=hk6.same s7
    have f7:=f6.same s7
    have el7:=f7 _ _ st5.nl st5.el
    have hvl:vs.length=evs.length:=SW st.pr
    have hvn:=st.ln
    walk_at "rd"
    intro H8 k8 e8
    exact .inl ⟨_,_,_,rfl,st5.next f7 hl (s7 _ _ e6) hk7 ho6 hn6 ho hla hlb hst k8 e8⟩
   ·have he:ws=[]:=by
     by_cases z:ws=[]
     ·exact z
     ·exact absurd (by simpa using z) h1
    rcases hr6 with ⟨_,rfl⟩ | ⟨e,z,_⟩
    ·exact .inl ⟨_,_,_,rfl,(st5.skip f6 hk6).same s7⟩
    ·exact absurd (z.symm.trans he) e.ne
  ·intro σ' H7 q
   obtain⟨es3,vs3,evs3,rfl,st7⟩:=q.resolve_right λz=>z
   exact .inl ⟨_,_,_,_,_,rfl,st7⟩
 intro σ H4 q
 obtain⟨es,vs,evs,v5,v6,rfl,st⟩:=q.resolve_right λz=>z
 clear q
 walk_at "rd"
 intro l5 H5 s5 hl5 e5
 refine⟨zg (by show 1≤1000;decide),?_⟩
 intro l6 H6 s6 hl6 e6
 have st6:=(st.same s5).same s6
 have n1:=st.sk.n1
 have n7:=st.sk.n7
 have hln:=st.ln
 have hvl:vs.length=evs.length:=SW st.pr
 refine⟨_,rfl,ls,_,rfl,.inl (zK.of st6.sk.el),_,_,rfl,rfl,?_⟩
 rw[Ln]
 have ek:(((es.length:Nat):Int) - 1).toNat=es.length - 1:=by omega
 refine⟨l6,_,_,rfl,rfl,e6,by omega,by omega,zg (by rw[ek];simp only[LQ,LO];omega),?_⟩
 intro l7 hl7
 rw[ek,Kk]
 have e7:upd H6 l7 (.lst (Sk (es.length - 1) (V.ref l5))) l7=some (.lst (Sk (es.length - 1) (V.ref l5))):=zm
 have s7:zf H6 (upd H6 l7 (.lst (Sk (es.length - 1) (V.ref l5)))):=λb u q=>by
  rw[zP λz=>by rw[z,hl7] at q;cases q]
  exact q
 generalize upd H6 l7 (.lst (Sk (es.length - 1) (V.ref l5)))=H7 at e7 s7 ⊢
 have st7:=st6.same s7
 refine⟨lr,l7,_,_,rfl,rfl,st7.el,e7,zg (by rw[Tw];omega),?_⟩
 intro l8 H8 s8 hl8 e8
 have hrl:((es.map (·.2)).reverse).length=es.length:=by simp
 have e5':H8 l5=some (.lst ((Ew.dn).ws.map V.str)):=s8 _ _ (s7 _ _ (s6 _ _ e5))
 refine k l8 H8 _ (evs ++ Sk (es.length - 1) .dn) (st7.sk.bs.trans s8) (st7.sk.bs.free hl8) e8 (Paired.Kn (QR e5' _) (Paired.imp' (λ_ _ z=>z.same s8) st7.pr)) ?_
 have:=Xt.close (kd:=xB ps as zb) (K0:=j5 ps as zb) (st:=(es.map (·.2)).reverse) st.ok (by rw[hrl];exact st.dp) (st.lb.nodup ?_) (by omega) st.rn (by rw[hrl];exact n1) (by rw[hrl];exact n7)
 ·rw[hrl] at this
  exact this
 ·exact(NP _ _).nodup hLb.nd
end
def BD (K:Ls):Sp:=λvs H Q _=>∃(p l:Addr) (c:Int) (ps as:List Str) (zb:List (Str × Str)) (ws:List V) (evs:List Ew),vs=[.ref p,.ref l]∧mf H p c ps as zb∧ZR ps as zb∧H l=some (.lst ws)∧Paired (fc H) ws evs∧(∀e∈evs,e.ok)∧evs.length≤130∧∀H',zf H H'→Q (.str (Tr (LM "; ") (rowsOf ps as zb evs))) H'
theorem Ye {ws:List V} {evs:List Ew} {H:Hp} {ys:List V} (h:Paired (fc H) ws evs) (hl:ys.length=ws.length) (hv:∀(i:Nat) (v:V) (e:Ew),evs[i]?=some e→ys[i]?=some v→v=.str e.row):ys=(evs.map Ew.row).map V.str:=by
 induction h generalizing ys with
 | nil=>
  cases ys
  ·rfl
  ·cases hl
 | cons h t ih=>
  cases ys
  ·cases hl
  ·rw[hv 0 _ _ rfl rfl,ih (NT hl) λi v e' h1 h2=>hv (i + 1) v e' h1 h2]
   rfl
theorem Pp {e:Ew} (h:e.ok):e.ws.length≤15:=by
 cases e with
 | pt n rs=>
  have h3:=h.2.2
  cases rs with
  | nil=>simp [Ew.ws]
  | cons x rs=>simp only[LQ] at h3;simp only[Ew.ws,LQ];omega
 | _=>simp [Ew.ws]
theorem Fg {X:Cx} {K:Ls} {o e:Expr} {es:List Expr} {to:TE} {t:TA} {name:Str} {apos cpos:Pos} {T id:String} {r:V→List V→Hp→VK→Prop} (hK:X.K=K) (pa:PlainAttrs T) (slot:Slot T name id) (hty:typeOf (.builtin id)=pure (.type "method_descriptor")) (hm:eL X id r) (ho:PE X o to) (ha:PA X (e :: es) t) (hbase:Ny o name X.env (eval o X.env)=eval o X.env:=by rfl)
  (hfew:((backTo cpos (Sg (e :: es) X.env)).all (λx=>!x.1) && (NC cpos (TC [] X.env)).all (λx=>x.1.isSome) && decide ((e :: es).length + ([]:List Keyword).length + (if ([]:List Keyword).isEmpty then 0 else 1) < 30))=true:=by rfl)
  (hline:(apos.endLine == cpos.line)=true:=by rfl) (hs:Sg (e :: es) X.env=(false,eval e X.env) :: Sg es X.env:=by rfl) (hplain:(backTo cpos (Sg es X.env)).any (·.1)=false:=by rfl):PE X (.Call (.Attribute o name apos) (e :: es) [] cpos) (UE K T r to t):=hK▸qM pa slot hty hm ho ha hbase hfew hline hs hplain
section
variable {P:LH} {w:Sz} {K:Ls} {mg:Str→Option Lo} {base:Heap} {t:z4}
theorem fq:zu ["_law_header_here","_law_rows_here","_law_lines","_law_mark","_law_name"] ["_law_header_here","_law_rows_here"] (zy oz):=by walk_at "sc"
theorem Vm (T:Txt K mg t):ze P w K mg base zC 1 t.tQ t.sT ["_law_header_here","_law_rows_here"] (BD K):=by
 refine T.w_text.fn.ok fq (by walk_at "ln") ?_;walk_at "hd"
 obtain⟨p,l,c,ps,as,zb,ws,evs,rfl,hH,hd,hL,hP,qx,hlen,k⟩:=h
 refine⟨_,(zq (za (i:=2) fq.nd rfl (LL rfl) (zB (zz (zo wG zw (qM SM Nq Nj (b9 (K:=K) rfl) zw (zz (zc (qY (K:=K) rfl) (pv 0) zx (λ_ _=>rfl)) zj))) (zz (zo wG zw (qM SM Nq Nj (b9 (K:=K) rfl) zw (zz (zc (qY (K:=K) rfl) (pv 0) zx (λ_ _=>rfl)) zj))) zj))) jZ)
   (zq (jy Su rfl (qp (K:=K) rfl (zc (qY (K:=K) rfl) (pv 0) zx (λ_ _=>rfl))) (vB (K:=K) rfl rfl (qu (zM (i:=3) fq.nd rfl (LL rfl)) (qu (zM (i:=4) fq.nd rfl (LL rfl)) vP)))
    (zk (zO (qM LD L5 L6 qj (pv 2) (zz (zo wG (zo wG (pv 3) zw) (pv 4)) zj)))))
   (zk (zp (qM SM Nq Nj (b9 (K:=K) rfl) zw (zz (zo vi (pv 2) (cZ (osc:=zy oz) (N:=["_law_header_here","_law_rows_here","_law_lines","_law_mark","_law_name"]) (names:=[]) (zR:=[]) rfl rfl rfl ⟨rfl,by decide +kernel,by decide +kernel,by decide +kernel,rfl,rfl,by decide +kernel,by decide +kernel⟩ (qp (K:=K) rfl (pv 1)) (λ_ _ _=>(Fg (K:=K) rfl SM Nq Nj (b9 (K:=K) rfl) zw (zz (pv 0) zj))))) zj)))))),?_⟩
 have hW:=hd.w
 obtain⟨lp,la,lr,ln,ll,vs,ep,elp,ela,elr,eln,hR⟩:=hH
 have tp:=uO (n:=8) (ws:=ps) λx hx=>(xX (hW.pn x hx)).2.1
 have ta:=uO (n:=8) (ws:=as) λx hx=>(xX (hW.an x hx)).2.1
 have p1:=hW.p1;have p2:=hW.p2;have a1:=hW.a1;have a2:=hW.a2;have r2:=hW.r2
 have tp':(8 + 1) * ps.length≤9 * 4:=by omega
 have ta':(8 + 1) * as.length≤9 * 6:=by omega
 have j1:(Tr (LM " ") ps).length≤36:=by have:=lO ps;exact S1 this (by omega)
 have j2:(Tr (LM " ") as).length≤54:=by have:=lO as;exact S1 this (by omega)
 have w1:(LM "parties ").length=8:=by decide +kernel
 have w2:(LM "acts ").length=5:=by decide +kernel
 have np:ps≠[]:=λz=>by rw[z] at p1;simp at p1
 have na:as≠[]:=λz=>by rw[z] at a1;simp at a1
 have hvl:vs.length=zb.length:=SW hR
 have hwl:ws.length=evs.length:=SW hP
 walk_at "rd"
 refine⟨_,lp,ps,rfl,rfl,zK.of elp,by rw[Zm];omega,?_⟩
 refine⟨_,_,rfl,rfl,zg (by omega),?_⟩
 rw[show LM "parties " ++ Tr (LM " ") ps=fe ("parties" :: ps) from Qb WM.1 np]
 walk_at "rd"
 refine⟨_,la,as,rfl,rfl,zK.of ela,by rw[Zm];omega,?_⟩
 refine⟨_,_,rfl,rfl,zg (by omega),?_⟩
 rw[show LM "acts " ++ Tr (LM " ") as=fe ("acts" :: as) from Qb WM.2.1 na]
 refine⟨zg (by show 2≤1000;decide),?_⟩
 intro lq H1 s1 hlq e1
 have ep1:=s1 _ _ ep
 show zU 2 (V.ref lq) [some (.ref p),some (.ref l),none,none,none] _ _
 walk_at "rd"
 let Iv:xn:=λi σ H'=>(∃v2 v3:Option V,σ=[some (.ref p),some (.ref l),some (.ref lq),v2,v3]∧zf H H'∧H' lq=some (.lst ((rowsOf ps as (zb.take i) []).map V.str)))∨False
 refine xg (K:=K) (a:=lr) (xs:=vs) Iv
  (.inl ⟨none,none,rfl,s1,e1⟩) (λi σ H' _ q=>(by obtain⟨_,_,_,z,_⟩:=q.resolve_right (λz=>z);exact zK.of (z _ _ elr))) ?_ ?_
 ·intro i y σ H2 hi q
  obtain⟨v3,v4,rfl,s2,e2⟩:=q.resolve_right λz=>z
  clear q
  obtain⟨mn,hmn,q,rfl,eq⟩:=Paired.a8 hR hi
  have hi':i < zb.length:=(LN.mp hmn).1
  have hm:=hW.rn mn (LC hmn)
  have eq2:=s2 _ _ eq
  have g1:=(aC _ hm.1).2.2.1
  have g2:=(xX hm.2).2.1
  refine⟨q,_,rfl,jt.of eq2,rfl,_,_,rfl,_,_,rfl,rfl,?_⟩
  walk_at "rd"
  have hrl:=@cK ps as (zb.take i) []
  refine⟨lq,_,_,rfl,rfl,e2,zg (by rw[Ln,hrl,L3];simp only[LO];omega),?_⟩
  intro H3 k3 e3
  refine .inl ⟨_,_,rfl,k3.put s2 hlq,?_⟩
  rw[e3,FF,take_snoc hmn,Ho,LY]
  rfl
 intro σ H2 q
 obtain⟨v3,v4,rfl,s2,e2⟩:=q.resolve_right λz=>z
 clear q
 rw[hvl,SE] at e2
 walk_at "rd"
 have hL2:=s2 _ _ hL
 have hP2:Paired (fc H2) ws evs:=Paired.imp' (λ_ _ z=>z.same s2) hP
 refine bK (xW (zK.of hL2)) (λi _ v=>∀e,evs[i]?=some e→v=.str e.row) (zg (by omega)) ?_ ?_
 ·intro i y H' Q' hy s' kk
  obtain⟨e,he,b,rfl,hb⟩:=Paired.a8 hP2 hy
  have heo:=qx e (LC he)
  have tt:=uO (n:=20) (ws:=e.ws) λx hx=>(Ew.wk heo x hx).2
  have hl:=Pp heo
  refine⟨rfl,_,rfl,_,b,e.ws,rfl,rfl,zK.of (s' _ _ hb),by rw[Zm];omega,kk _ _ (zf.refl _) λe' h'=>?_⟩
  rw[he] at h'
  cases h'
  rfl
 intro D H3 ys s3 hD e3 hlen3 hp
 have eys:=Ye hP2 hlen3 λi v e h1 h2=>by
  have hi:i < ws.length:=by
   have:=(LN.mp h1).1
   omega
  exact hp i _ v (Le hi) h2 e h1
 subst eys
 have hrl:=@cK ps as zb []
 refine⟨lq,D,_,_,rfl,rfl,s3 _ _ e2,e3,zg (by rw[Ln,hrl,Ln,Ln];simp only[LO];omega),?_⟩
 intro l4 H4 s4 hl4 e4
 have hra:=Vn ps as zb [] evs
 rw[Sr] at hra
 have e4':H4 l4=some (.lst ((rowsOf ps as zb evs).map V.str)):=by rw[e4,hra,LY]
 have hjs:=Qm (Kv (evs:=evs) hW qx) (by rw[cK];omega)
 refine⟨_,l4,_,rfl,rfl,zK.of e4',by omega,?_⟩
 exact k H4 ((s2.trans s3).trans s4)
theorem i5 {kd:Str→Str} {o:Ow} {ws:List Str} {z b:Str} (h:mA kd o ws z=.told b):lk o z=some b∧kd b∈ws:=by
 unfold mA at h
 cases q:lk o z with
 | none=>rw[q] at h;cases h
 | some x=>
  rw[q] at h
  dsimp only at h
  split at h
  ·cases h;exact⟨rfl,by assumption⟩
  ·cases h
structure Ut (kd:Str→Str) (o:Ow) (k:Int) (u a r:Str) (w a' r':Str):Prop where
 wu:u = "any"∧w = "any"∨u≠"any"∧lk o u=some w∧kd w = "party"
 la:lk o a=some a'
 ka:kd a' = "act"
 r1:k=1→r' = ""
 rm:k≠1→lk o r=some r'∧kd r'∈zF
 rc:k=0∨k=2→kd r'≠"calm"
theorem ax {kd:Str→Str} {o:Ow} {k:Int} {l u a:Str} {n:Int} {r:Str} {zb:List Str} {d:Int} {f:Fl} (h:gI kd o k l u a n r zb d=some f):∃w a' r',f=⟨l,oJ k,w,a',Yj k n,r',zb,d⟩∧Ut kd o k u a r w a' r':=by
 unfold gI at h
 cases q1:jQ (bQ kd o 0 u) with
 | none=>rw[q1] at h;cases h
 | some w=>
  rw[q1,LX] at h
  cases q2:jQ (bQ kd o 1 a) with
  | none=>rw[q2] at h;cases h
  | some a'=>
   rw[q2,LX] at h
   cases q3:jQ (uJ kd o k r) with
   | none=>rw[q3] at h;cases h
   | some r'=>
    rw[q3] at h
    cases h
    refine⟨w,a',r',rfl,?_⟩
    have t1:=xl q1
    have t2:=i5 (xl q2)
    have t3:=xl q3
    have g3:k≠1→(lk o r=some r'∧kd r'∈zF)∧(k=0∨k=2→kd r'≠"calm"):=λhk=>by
     unfold uJ at t3
     rw[if_neg hk] at t3
     by_cases h3:k=3
     ·rw[if_pos h3] at t3
      exact⟨i5 t3,λz=>by omega⟩
     ·rw[if_neg h3] at t3
      have t4:fA kd (mA kd o zF r)=.told r':=t3
      cases qm:mA kd o zF r with
      | told b=>
       rw[qm] at t4
       have t5:(if kd b = "calm" then An.calm else .told b)=.told r':=t4
       split at t5
       ·cases t5
       ·cases t5;exact⟨i5 qm,λ_=>by assumption⟩
      | _=>rw[qm] at t4;cases t4
    refine⟨?_,t2.1,LW.mp t2.2,λhk=>?_,λhk=>(g3 hk).1,λhk=>(g3 (by omega)).2 hk⟩
    ·have t1':(if u = "any" then An.told "any" else mA kd o ["party"] u)=.told w:=t1
     by_cases hu:u = "any"
     ·rw[if_pos hu] at t1'
      cases t1'
      exact .inl ⟨hu,rfl⟩
     ·rw[if_neg hu] at t1'
      exact .inr ⟨hu,(i5 t1').1,LW.mp (i5 t1').2⟩
    ·unfold uJ at t3
     rw[if_pos hk] at t3
     cases t3
     rfl
theorem dg {H:Hp} {d:Addr} {o:Ow} {z b:Str} (e:H d=some (.dK (dS o))) (h:lk o z=some b):jC H d (.str z) (some (.str b)):=by
 have:=jC.k (k:=.inr z) e
 rw[kB,h] at this
 exact this
def Xw (K:Ls):Sp:=λvs H Q _=>∃(d0 d tw:Addr) (K0 o:Ow) (z b kb:Str) (ws:List Str),vs=[.ref d0,.ref d,.str z,.ref tw]∧H d0=some (.dK (dS K0))∧H d=some (.dK (dS o))∧jt K H tw (ws.map V.str)∧lk o z=some b∧lk K0 b=some kb∧kb∈ws∧Q (.bl true) H
theorem J9:zu ["_law_kinds_here","_law_scope_here","_law_word","_law_wanted"] ["_law_kinds_here","_law_scope_here","_law_word","_law_wanted"] (zy ee):=by walk_at "sc"
theorem nY (T:Txt K mg t):ze P w K mg base zC 1 t.pN t.pS ["_law_kinds_here","_law_scope_here","_law_word","_law_wanted"] (Xw K):=by
 refine T.jA.fn.ok J9 (by walk_at "ln") ?_;walk_at "hd"
 obtain⟨d0,d,tw,K0,o,z,b,kb,ws,rfl,e0,ed,hT,hz,hb,hkb,k⟩:=h
 refine⟨_,(zk (zp (Zy (Fh (JO (qo hr) (pv 2) (pv 1))) (nP (yg (nH (K:=K) rfl) (qG (qo hr) (pv 0) (qG (qo hr) (pv 1) (pv 2) (λ_ _=>rfl)) (λ_ _=>rfl)) (pv 3) rfl))))),?_⟩
 walk_at "rd"
 refine⟨d,_,rfl,dg ed hz,true,rfl,?_⟩
 show F3 (Ds K false) (Y6 (Q9 0) (Y6 (Q9 1) (Q9 2))) (Q9 3) [some (.ref d0),some (.ref d),some (.str z),some (.ref tw)] H _
 refine⟨_,rfl,_,rfl,_,rfl,d,_,rfl,dg ed hz,d0,_,rfl,dg e0 hb,_,rfl,tw,_,rfl,.inr hT,rfl,xY ws,?_⟩
 rw[kN,zzP hkb]
 exact k
structure Rk (ws:List Str) (k:Int) (l u a r:Str):Prop where
 w0:vX (ws.map V.str) 0=some (.str l)
 w1:vX (ws.map V.str) 1=some (.str u)
 w3:(∃y,vX (ws.map V.str) 3=some (.str y)∧y = "not"∧vX (ws.map V.str) 4=some (.str a))∨(vX (ws.map V.str) 3=some (.str a)∧a≠"not")
 wl:k=1∧ws.length=4∨k≠1∧4 < ws.length∧vX (ws.map V.str) (-1)=some (.str r)
 w6:6 < ws.length→k=0∨k=2
theorem P5:zZ ("not" : Str)=false:=by decide +kernel
theorem Ew.UX {e:Ew} {c:Int × Str × Str × Str × Int × Str} (ho:e.ok) (hc:e.ZL=some c):Rk e.ws c.1 c.2.1 c.2.2.1 c.2.2.2.1 c.2.2.2.2.2:=by
 have nn:∀{a:Str},zZ a=true→a≠"not":=λ{a} h z=>by rw[z,P5] at h;cases h
 cases e with
 | mu l w a n r=>cases hc;exact⟨rfl,rfl,.inr ⟨rfl,nn ho.2.2.1⟩,.inr ⟨(show _≠(1:Int) by simp),by simp [Ew.ws],rfl⟩,λ_=>.inl rfl⟩
 | my l w a=>cases hc;exact⟨rfl,rfl,.inr ⟨rfl,nn ho.2.2⟩,.inl ⟨rfl,rfl⟩,λz=>by simp [Ew.ws] at z⟩
 | bn l w a r=>cases hc;exact⟨rfl,rfl,.inl ⟨_,rfl,rfl,rfl⟩,.inr ⟨(show _≠(1:Int) by simp),by simp [Ew.ws],rfl⟩,λ_=>.inr rfl⟩
 | pw l w a r=>cases hc;exact⟨rfl,rfl,.inr ⟨rfl,nn ho.2.2.1⟩,.inr ⟨(show _≠(1:Int) by simp),by simp [Ew.ws],rfl⟩,λz=>by simp [Ew.ws] at z⟩
 | _=>cases hc
def BU:Sp:=λvs H Q _=>∃(d0 d lw:Addr) (K0 o:Ow) (kd:Str→Str) (e:Ew) (c:Int × Str × Str × Str × Int × Str) (w a' r':Str),vs=[.ref d0,.ref d,.ref lw]∧H d0=some (.dK (dS K0))∧H d=some (.dK (dS o))∧H lw=some (.lst (e.ws.map V.str))∧e.ok∧e.ZL=some c∧Ut kd o c.1 c.2.2.1 c.2.2.2.1 c.2.2.2.2.2 w a' r'∧rM kd K0 o∧∀q H',zf H H'→H' q=some (.tup [])→Q (.ref q) H'
theorem dc:zu ["_law_kinds_here","_law_scope_here","_law_row","_law_act"] ["_law_kinds_here","_law_scope_here","_law_row"] (zy eK):=by walk_at "sc"
theorem JS (T:Txt K mg t):ze P w K mg base zC 2 t.uu t.ug ["_law_kinds_here","_law_scope_here","_law_row"] BU:=by
 have G_w_meant:=@ze.mono P w K mg base _ _ 1 _ _ _ _ (nY T) (by decide)
 refine T.sg.fn.ok dc (by walk_at "ln") ?_;walk_at "hd"
 obtain⟨d0,d,lw,K0,o,kd,e,c,w',a',r',rfl,e0,ed,el,ho,hc,hU,hB,k⟩:=h
 refine⟨_,(zq (PS.join (zW (PW.pt (yY (zd cn (zc (zv (K:=K) rfl) (pv 2) zx (λ_ _=>rfl)) zw (zQ _)) (vF (jg (qt (zi G_w_meant hr rfl T.jA.mg T.jA.fn.kp T.jA.bd .nil zJ (zz (pv 0) (zz (pv 1) (zz (zc (zv (K:=K) rfl) (pv 2) zx (λ_ _=>rfl)) (zz (qq (zz zw zj)) zj))))))))))
    (zk (zp (qq (zz zw (zz zw (zz (zc (zv (K:=K) rfl) (pv 2) zx (λ_ _=>rfl)) zj)))))) zr))
   (zq (za (i:=3) dc.nd rfl (LL rfl) (zc (zv (K:=K) rfl) (pv 2) zx (λ_ _=>rfl)))
   (zq (PS.join (zW (zd qz (zc (zv (K:=K) rfl) (pv 2) zx (λ_ _=>rfl)) zw (zQ _))
    (zk (za (i:=3) dc.nd rfl (LL rfl) (zc (zv (K:=K) rfl) (pv 2) zx (λ_ _=>rfl)))) zr))
   (zq (zW (jg (qt (zi G_w_meant hr rfl T.jA.mg T.jA.fn.kp T.jA.bd .nil zJ (zz (pv 0) (zz (pv 1) (zz (pv 3) (zz (qq (zz zw zj)) zj)))))))
    (zk (zp (qq (zz zw (zz zw (zz (pv 3) zj)))))) zr)
   (zq (PS.join (zW (PW.pt (yY (zd fL (zX (zG (K:=K) rfl) rfl T.qJ L4 (zz (pv 2) zj)) zx (zQ _)) (vF (jg (qt (zi G_w_meant hr rfl T.jA.mg T.jA.fn.kp T.jA.bd .nil zJ (zz (pv 0) (zz (pv 1) (zz (zc (zv (K:=K) rfl) (pv 2) (cQ gD zx) (λ_ _=>rfl)) (zz (qq (zz zw (zz zw (zz zw zj)))) zj))))))))))
    (zk (zp (qq (zz zw (zz zw (zz (zc (zv (K:=K) rfl) (pv 2) (cQ gD zx) (λ_ _=>rfl)) zj)))))) zr))
   (zq (PS.join (zW (PW.pt (yY (zd fL (zX (zG (K:=K) rfl) rfl T.qJ L4 (zz (pv 2) zj)) zx (zQ _)) (vF (zd qz (qG (qo hr) (pv 0) (qG (qo hr) (pv 1) (zc (zv (K:=K) rfl) (pv 2) (cQ gD zx) (λ_ _=>rfl)) (λ_ _=>rfl)) (λ_ _=>rfl)) zw (zQ _)))))
    (zk (zp (qq (zz zw (zz zw (zz (zc (zv (K:=K) rfl) (pv 2) (cQ gD zx) (λ_ _=>rfl)) zj)))))) zr))
   (zk (zp (qq zj))))))))),?_⟩
 have hW:=Ew.UX ho hc
 obtain⟨kk,l,u,a,n,r⟩:=c
 dsimp only at hU hW
 generalize e.ws=ws at el hW
 clear ho hc e
 have f0:=e0
 have fd:=ed
 have fl:=el
 show HP _ _ _ [some (.ref d0),some (.ref d),some (.ref lw),none] _
 walk_at "x4"
 let Jn:xM:=λσ' H'=>(σ'=[some (.ref d0),some (.ref d),some (.ref lw),none]∧zf H H')∨False
 refine⟨Jn,?_,?_⟩
 ·refine⟨_,rfl,lw,_,_,_,rfl,rfl,zK.of el,hW.w1,?_⟩
  walk_at "rd"
  refine zD (λh1=>?_) (λh1=>.inl ⟨rfl,zf.refl _⟩)
  have hu:u≠"any":=λz=>by rw[z] at h1;exact absurd h1 (by decide +kernel)
  obtain⟨_,hlu,hku⟩:=hU.wu.resolve_left λz=>hu z.1
  refine⟨_,rfl,_,rfl,_,rfl,lw,_,_,_,rfl,rfl,zK.of el,hW.w1,?_⟩
  walk_at "rd"
  intro tw H1 s1 htw e1
  refine⟨d0,d,tw,K0,o,u,w',"party",["party"],rfl,s1 _ _ e0,s1 _ _ ed,jt.of e1,hlu,?_,LW.mpr rfl,?_⟩
  ·have:=(hB _ _ hlu).1
   rw[hku] at this
   exact this
  ·refine⟨true,rfl,?_⟩
   exact .inl ⟨rfl,s1⟩
 ·intro σ' H1 q
  obtain⟨rfl,s1⟩:=q.resolve_right λz=>z
  clear q
  have e0:=s1 _ _ e0
  have ed:=s1 _ _ ed
  have el:=s1 _ _ el
  obtain⟨y3,hy3,hy3'⟩:∃y,vX (ws.map V.str) 3=some (.str y)∧(y = "not"∧vX (ws.map V.str) 4=some (.str a)∨y≠"not"∧y=a):=by
   rcases hW.w3 with ⟨y,h1,h2,h3⟩ | ⟨h1,h2⟩
   ·exact⟨y,h1,.inl ⟨h2,h3⟩⟩
   ·exact⟨a,h1,.inr ⟨h2,rfl⟩⟩
  refine⟨_,rfl,lw,_,_,_,rfl,rfl,zK.of el,hy3,?_⟩
  show zU 3 (V.str y3) [some (.ref d0),some (.ref d),some (.ref lw),none] _ _
  walk_at "x4"
  let Jn:xM:=λσ' H'=>(σ'=[some (.ref d0),some (.ref d),some (.ref lw),some (.str a)]∧H'=H1)∨False
  refine⟨Jn,?_,?_⟩
  ·refine⟨_,rfl,lw,_,_,_,rfl,rfl,zK.of el,hy3,?_⟩
   walk_at "rd"
   walk_at "x3"
   ·have hy:y3 = "not":=V.str.inj (zzB h1)
    have h4:=(hy3'.resolve_right λz=>z.1 hy).2
    refine⟨_,rfl,lw,_,_,_,rfl,rfl,zK.of el,h4,?_⟩
    exact .inl ⟨rfl,rfl⟩
   ·have hy:y3≠"not":=λz=>h1 (zzP (congrArg V.str z))
    have h4:=(hy3'.resolve_left λz=>hy z.1).2
    rw[h4]
    exact .inl ⟨rfl,rfl⟩
  intro σ' H2 q
  obtain⟨rfl,rfl⟩:=q.resolve_right λz=>z
  clear q
  walk_at "rd"
  intro tw H3 s3 htw e3
  refine⟨d0,d,tw,K0,o,a,a',"act",["act"],rfl,s3 _ _ e0,s3 _ _ ed,jt.of e3,hU.la,?_,LW.mpr rfl,true,rfl,?_⟩
  ·have:=(hB _ _ hU.la).1
   rw[hU.ka] at this
   exact this
  have s2:=s1.trans s3
  have e0:=s3 _ _ e0
  have ed:=s3 _ _ ed
  have el:=s3 _ _ el
  clear e3 s3 s1 htw hy3 hy3'
  walk_at "x4"
  let Jn:xM:=λσ' H'=>(σ'=[some (.ref d0),some (.ref d),some (.ref lw),some (.str a)]∧zf H H')∨False
  refine⟨Jn,?_,?_⟩
  ·refine⟨_,rfl,lw,_,rfl,.inl (zK.of el),_,_,rfl,rfl,_,rfl,?_⟩
   rw[Ln]
   refine zD (λh1=>?_) (λh1=>.inl ⟨rfl,s2⟩)
   have h1':(4:Int) < (ws.length:Int):=zzB h1
   obtain⟨hk,_,hr⟩:=hW.wl.resolve_left λz=>by omega
   obtain⟨hr1,hr2⟩:=hU.rm hk
   refine⟨_,rfl,_,rfl,_,rfl,1,rfl,lw,_,_,_,rfl,rfl,zK.of el,hr,?_⟩
   walk_at "rd"
   intro tw H4 s4 htw e4
   refine⟨d0,d,tw,K0,o,r,r',kd r',zF,rfl,s4 _ _ e0,s4 _ _ ed,jt.of e4,hr1,(hB _ _ hr1).1,hr2,true,rfl,?_⟩
   exact .inl ⟨rfl,s2.trans s4⟩
  intro σ' H4 q
  obtain⟨rfl,s4⟩:=q.resolve_right λz=>z
  clear q
  clear e0 ed el s2
  have e0:=s4 _ _ f0
  have ed:=s4 _ _ fd
  have el:=s4 _ _ fl
  walk_at "x4"
  let Jn:xM:=λσ' H'=>(σ'=[some (.ref d0),some (.ref d),some (.ref lw),some (.str a)]∧H'=H4)∨False
  refine⟨Jn,?_,?_⟩
  ·refine⟨_,rfl,lw,_,rfl,.inl (zK.of el),_,_,rfl,rfl,_,rfl,?_⟩
   rw[Ln]
   refine zD (λh1=>?_) (λh1=>.inl ⟨rfl,rfl⟩)
   have h1':(6:Int) < (ws.length:Int):=zzB h1
   obtain⟨hk,_,hr⟩:=hW.wl.resolve_left λz=>by omega
   obtain⟨hr1,hr2⟩:=hU.rm hk
   have hnc:=hU.rc (hW.w6 (by omega))
   refine⟨_,rfl,_,rfl,_,rfl,1,rfl,lw,_,_,_,rfl,rfl,zK.of el,hr,d,_,rfl,dg ed hr1,d0,_,rfl,dg e0 (hB _ _ hr1).1,?_⟩
   walk_at "rd"
   refine zD (λh2=>?_) (λh2=>.inl ⟨rfl,rfl⟩)
   exact absurd (V.str.inj (zzB h2)) hnc
  intro σ' H5 q
  obtain⟨rfl,rfl⟩:=q.resolve_right λz=>z
  clear q
  walk_at "rd"
  intro q H6 s6 hq e6
  exact k q H6 (s4.trans s6) e6
theorem Bc {n:Int} (h1:1≤n) (h2:n < 10 ^ 20):intText? (LM (toString n))=some n∧(LM (toString n)).length≤640:=by
 have hl:=(a9 h1 h2).2.2.2
 obtain⟨m,rfl⟩:=Th (show 0≤n by omega)
 have e:=NY m
 have hd:N6 (LM (toString ((m:Nat):Int))).cps.toList:=by
  rw[e]
  intro c hc
  obtain⟨ch,hch,rfl⟩:=SX.mp hc
  have:=T1 (b:=10) (by decide) (by decide) hch
  simp [EC] at this
  exact⟨by have:=this.1;exact this,by have:=this.2;exact this⟩
 have hv:TU (LM (toString ((m:Nat):Int))).cps.toList=m:=by rw[e];exact IS m
 have hne:(LM (toString ((m:Nat):Int))).cps.toList≠[]:=λz=>by
  rw[z] at hv
  have:(0:Nat)=m:=hv
  omega
 have:=ID hd hne (by omega)
 rw[hv] at this
 exact⟨this,by omega⟩
theorem B3:zZ ("any" : Str)=false:=by decide +kernel
theorem HL {kd:Str→Str} {o:Ow} {u w:Str} (hn:∀q∈o,zZ q.1=true) (h:u = "any"∧w = "any"∨u≠"any"∧lk o u=some w∧kd w = "party"):(j9 (dS o) (.inr u)).getD (.str (LM "any"))=.str w:=by
 rw[kB]
 rcases h with ⟨rfl,rfl⟩ | ⟨_,h,_⟩
 ·cases q:lk o "any" with
  | none=>rfl
  | some b=>
   have:=hn _ (X3 q)
   rw[B3] at this
   cases this
 ·rw[h];rfl
def BM (K:Ls):Sp:=λvs H Q _=>∃(d lw lr:Addr) (o:Ow) (kd:Str→Str) (e:Ew) (c:Int × Str × Str × Str × Int × Str) (f:Fl) (zb:List Str) (dep:Int),vs=[.ref d,.ref lw,.ref lr,.int dep]∧H d=some (.dK (dS o))∧H lw=some (.lst (e.ws.map V.str))∧H lr=some (.lst (zb.map V.str))∧(∀q∈o,zZ q.1=true)∧e.ok∧e.ZL=some c∧gI kd o c.1 c.2.1 c.2.2.1 c.2.2.2.1 c.2.2.2.2.1 c.2.2.2.2.2 zb dep=some f∧∀p' l' H',zf H H'→H p'=none→H l'=none→H' p'=some (.tup (Gf f l'))→H' l'=some (.lst (zb.map V.str))→Q (.ref p') H'
theorem eV:zu ["_law_scope_here","_law_row","_law_rooms","_law_depth","_law_who"] ["_law_scope_here","_law_row","_law_rooms","_law_depth"] (zy Q0):=by walk_at "sc"
theorem Vd (T:Txt K mg t):ze P w K mg base zC 1 t.tJ t.sN ["_law_scope_here","_law_row","_law_rooms","_law_depth"] (BM K):=by
 refine T.ZC.fn.ok eV (by walk_at "ln") ?_;walk_at "hd"
 obtain⟨d,lw,lr,o,kd,e,c,f,zb,dep,rfl,ed,el,er,hnm,ho,hc,hf,k⟩:=h
 refine⟨_,(zq (za (i:=4) eV.nd rfl (LL rfl) (qM Iz TK IH (W6 (qo hr)) (pv 0) (zz (zc (zv (K:=K) rfl) (pv 1) zx (λ_ _=>rfl)) (zz zw zj))))
   (zq (zW (zd qz (zX (zG (K:=K) rfl) rfl T.qJ L4 (zz (pv 1) zj)) zx (zQ _))
    (zk (zp (qq (zz (zc (zv (K:=K) rfl) (pv 1) zx (λ_ _=>rfl)) (zz zw (zz (pv 4) (zz (qG (qo hr) (pv 0) (zc (zv (K:=K) rfl) (pv 1) zx (λ_ _=>rfl)) (λ_ _=>rfl)) (zz (z8 yt rfl T.Xe NG (zz (zc (zv (K:=K) rfl) (pv 1) zx (λ_ _=>rfl)) zj)) (zz (qG (qo hr) (pv 0) (zc (zv (K:=K) rfl) (pv 1) zx (λ_ _=>rfl)) (λ_ _=>rfl)) (zz (z8 (jY (K:=K) rfl) rfl T.km So (zz (pv 2) zj)) (zz (pv 3) zj))))))))))) zr)
   (zq (zW (zd qz (zX (zG (K:=K) rfl) rfl T.qJ L4 (zz (pv 1) zj)) zx (zQ _))
    (zk (zp (qq (zz (zc (zv (K:=K) rfl) (pv 1) zx (λ_ _=>rfl)) (zz zw (zz (pv 4) (zz (qG (qo hr) (pv 0) (zc (zv (K:=K) rfl) (pv 1) zx (λ_ _=>rfl)) (λ_ _=>rfl)) (zz zx (zz (qG (qo hr) (pv 0) (zc (zv (K:=K) rfl) (pv 1) zx (λ_ _=>rfl)) (λ_ _=>rfl)) (zz (z8 (jY (K:=K) rfl) rfl T.km So (zz (pv 2) zj)) (zz (pv 3) zj))))))))))) zr)
   (zq (zW (zd qz (zX (zG (K:=K) rfl) rfl T.qJ L4 (zz (pv 1) zj)) zx (zQ _))
    (zk (zp (qq (zz (zc (zv (K:=K) rfl) (pv 1) zx (λ_ _=>rfl)) (zz zw (zz (pv 4) (zz (qG (qo hr) (pv 0) (zc (zv (K:=K) rfl) (pv 1) zx (λ_ _=>rfl)) (λ_ _=>rfl)) (zz zx (zz (qG (qo hr) (pv 0) (zc (zv (K:=K) rfl) (pv 1) zx (λ_ _=>rfl)) (λ_ _=>rfl)) (zz (z8 (jY (K:=K) rfl) rfl T.km So (zz (pv 2) zj)) (zz (pv 3) zj))))))))))) zr)
   (zk (zp (qq (zz (zc (zv (K:=K) rfl) (pv 1) zx (λ_ _=>rfl)) (zz zw (zz (pv 4) (zz (qG (qo hr) (pv 0) (zc (zv (K:=K) rfl) (pv 1) zx (λ_ _=>rfl)) (λ_ _=>rfl)) (zz zx (zz zw (zz (z8 (jY (K:=K) rfl) rfl T.km So (zz (pv 2) zj)) (zz (pv 3) zj))))))))))))))),?_⟩
 have hW:=Ew.UX ho hc
 obtain⟨w',a',r',rfl,hU⟩:=ax hf
 refine⟨_,rfl,.inr (.inr (.inl ⟨rfl,.inl ⟨_,ed⟩⟩)),_,rfl,lw,_,_,_,rfl,rfl,zK.of el,hW.w1,?_⟩
 refine⟨d,_,.inr c.2.2.1,_,rfl,rfl,ed,?_⟩
 rw[HL hnm hU.wu]
 show zU 4 (V.str w') [some (.ref d),some (.ref lw),some (.ref lr),some (.int dep),none] _ _
 cases e with
 | mu l u a n r=>
  cases hc
  dsimp only at hU k
  obtain⟨hr1,hr2⟩:=hU.rm (show _≠(1:Int) by simp)
  obtain⟨n1,n2⟩:=Bc ho.2.2.2.1 ho.2.2.2.2.1
  walk_at "x1"
  walk_at "x7"
  walk_at "x0"
  walk_at "x6"
  refine⟨_,rfl,lw,_,_,_,rfl,rfl,zK.of el,rfl,_,n,rfl,n1,n2,?_⟩
  refine⟨_,rfl,_,rfl,lw,_,_,_,rfl,rfl,zK.of el,rfl,d,_,rfl,dg ed hr1,?_⟩
  refine⟨_,rfl,lr,_,rfl,.inl (zK.of er),?_⟩
  intro l' H1 s1 hl' e1
  refine⟨_,rfl,?_⟩
  walk_at "rd"
  intro p' H2 s2 hp' e2
  exact k p' l' H2 (s1.trans s2) (s1.free hp') hl' e2 (s2 _ _ e1)
 | bn l u a r=>
  cases hc
  dsimp only at hU k
  obtain⟨hr1,hr2⟩:=hU.rm (show _≠(1:Int) by simp)
  walk_at "x1"
  walk_at "x2"
  walk_at "x1"
  walk_at "x7"
  walk_at "x0"
  walk_at "x6"
  refine⟨_,rfl,_,rfl,lw,_,_,_,rfl,rfl,zK.of el,rfl,d,_,rfl,dg ed hr1,?_⟩
  refine⟨_,rfl,lr,_,rfl,.inl (zK.of er),?_⟩
  intro l' H1 s1 hl' e1
  refine⟨_,rfl,?_⟩
  walk_at "rd"
  intro p' H2 s2 hp' e2
  exact k p' l' H2 (s1.trans s2) (s1.free hp') hl' e2 (s2 _ _ e1)
 | pw l u a r=>
  cases hc
  dsimp only at hU k
  obtain⟨hr1,hr2⟩:=hU.rm (show _≠(1:Int) by simp)
  walk_at "x1"
  walk_at "x2"
  walk_at "x1"
  walk_at "x2"
  walk_at "x1"
  walk_at "x7"
  walk_at "x0"
  walk_at "x6"
  refine⟨_,rfl,_,rfl,lw,_,_,_,rfl,rfl,zK.of el,rfl,d,_,rfl,dg ed hr1,?_⟩
  refine⟨_,rfl,lr,_,rfl,.inl (zK.of er),?_⟩
  intro l' H1 s1 hl' e1
  refine⟨_,rfl,?_⟩
  walk_at "rd"
  intro p' H2 s2 hp' e2
  exact k p' l' H2 (s1.trans s2) (s1.free hp') hl' e2 (s2 _ _ e1)
 | my l u a=>
  cases hc
  dsimp only at hU k
  have hr1:r' = "":=hU.r1 rfl
  subst hr1
  walk_at "x1"
  walk_at "x2"
  walk_at "x1"
  walk_at "x2"
  walk_at "x1"
  walk_at "x2"
  walk_at "x0"
  walk_at "x6"
  refine⟨_,rfl,lr,_,rfl,.inl (zK.of er),?_⟩
  intro l' H1 s1 hl' e1
  refine⟨_,rfl,?_⟩
  walk_at "rd"
  intro p' H2 s2 hp' e2
  exact k p' l' H2 (s1.trans s2) (s1.free hp') hl' e2 (s2 _ _ e1)
 | _=>cases hc
def BJ (K:Ls):Sp:=λvs H Q _=>∃(d0 d lw lr:Addr) (K0 o:Ow) (kd:Str→Str) (n:Str) (rs zb cv:List Str),vs=[.ref d0,.ref d,.ref lw,.ref lr]∧H d0=some (.dK (dS K0))∧H d=some (.dK (dS o))∧H lw=some (.lst ((Ew.pt n rs).ws.map V.str))∧H lr=some (.lst (zb.map V.str))∧(Ew.pt n rs).ok∧bV kd o rs zb=some cv∧rM kd K0 o∧zb.length≤100∧∀l' H',zf H H'→H l'=none→H' l'=some (.lst (cv.map V.str))→Q (.ref l') H'
theorem J0 (n:Str) (rs:List Str):dW ((Ew.pt n rs).ws.map V.str) (some 3) none=rs.map V.str:=by
 cases rs with
 | nil=>rfl
 | cons x rs=>
  have:=vO V.str (Ew.pt n (x :: rs)).ws 3
  exact this
theorem iL {kd:Str→Str} {o:Ow} {rs zb cv:List Str} (h:bV kd o rs zb=some cv):∃ns,xr kd o rs=some ns∧cv=if rs=[] then zb else zb.filter λx=>decide (x∈ns):=by
 unfold bV at h
 split at h
 ·rename_i z
  subst z
  cases h
  exact⟨[],rfl,by rw[if_pos rfl]⟩
 ·obtain⟨ns,hn,hc⟩:=LJ.mp h
  cases hc
  exact⟨ns,hn,by rw[if_neg (by assumption)]⟩
theorem XM (ns:List Str):∀l:List Str,(l.map V.str).filter (λy=>ZS y (ns.map V.str))=(l.filter λx=>decide (x∈ns)).map V.str
 | []=>rfl
 | x :: l=>by
  rw[LR,Nr,Nr,kN,XM ns l]
  by_cases hx:x∈ns
  ·simp [hx]
  ·simp [hx]
theorem df:zu ["_law_kinds_here","_law_scope_here","_law_row","_law_rooms","_law_named","_law_word"] ["_law_kinds_here","_law_scope_here","_law_row","_law_rooms"] (zy uD):=by walk_at "sc"
theorem JD (T:Txt K mg t):ze P w K mg base zC 2 t.ub t.ux ["_law_kinds_here","_law_scope_here","_law_row","_law_rooms"] (BJ K):=by
 have G_w_meant:=@ze.mono P w K mg base _ _ 1 _ _ _ _ (nY T) (by decide)
 refine T.sx.fn.ok df (by walk_at "ln") ?_;walk_at "hd"
 obtain⟨d0,d,lw,lr,K0,o,kd,n,rs,zb,cv,rfl,e0,ed,el,er,ho,hcv,hB,hrl,k⟩:=h
 refine⟨_,(zq (za (i:=4) df.nd rfl (IP rfl) (zB zj) jZ)
   (zq (jy Su rfl (qp (K:=K) rfl (qD (qF (K:=K) rfl) (pv 2) (qQ zx) kj)) (zM (i:=5) df.nd rfl (LL rfl))
    (zq (zW (jg (qt (zi G_w_meant hr rfl T.jA.mg T.jA.fn.kp T.jA.bd .nil zJ (zz (pv 0) (zz (pv 1) (zz (pv 5) (zz (qq (zz zw (zz zw (zz zw zj)))) zj)))))))
    (zk (zp (qq (zz zw (zz zw (zz (pv 5) zj)))))) zr)
   (zk (zO (qM LD L5 L6 qj (pv 4) (zz (qG (qo hr) (pv 1) (pv 5) (λ_ _=>rfl)) zj))))))
   (zq (zW (zd (p5 (K:=K) rfl hr.units) (qD (qF (K:=K) rfl) (pv 2) (qQ zx) kj) (zB zj) (zQ _))
    (zk (zp (z8 (jY (K:=K) rfl) rfl T.km So (zz (pv 3) zj)))) zr)
   (zk (zp (vR (osc:=zy uD) (N:=["_law_kinds_here","_law_scope_here","_law_row","_law_rooms","_law_named","_law_word"]) (xs:=["_law_room"]) (names:=["_law_named"]) (zR:=[4]) rfl rfl rfl ⟨rfl,by decide +kernel,by decide +kernel,by decide +kernel,by decide +kernel,rfl,by decide +kernel,by decide +kernel⟩ (qp (K:=K) rfl (pv 3)) (λ_ _ _=>(zM (i:=0) (show (["_law_room","_law_named"]:List Str).Nodup from by decide +kernel) rfl (.inl (wC rfl)) (.inr (wC rfl)))) (λ_ _ _=>(Zb (zd (nH (K:=K) rfl) (pv 0) (pv 1) rfl))) (λ_ _ _=>(pv 0)))))))),?_⟩
 walk_at "rd"
 intro ln H1 s1 hln e1
 show zU 4 (V.ref ln) [some (.ref d0),some (.ref d),some (.ref lw),some (.ref lr),none,none] _ _
 walk_at "rd"
 intro lc H2 s2 hlc e2
 rw[J0] at e2
 obtain⟨ns,hns,rfl⟩:=iL hcv
 obtain⟨hnl,hnn⟩:=mN hns
 have hr12:=ho.2.2
 have e1':=s2 _ _ e1
 have ne1:ln≠lc:=zh e1 hlc
 refine⟨lc,rfl,⟨_,zK.of e2⟩,?_⟩
 let Iv:xn:=λi σ H'=>(∃v5:Option V,σ=[some (.ref d0),some (.ref d),some (.ref lw),some (.ref lr),some (.ref ln),v5]∧zf H H'∧H' ln=some (.lst ((ns.take i).map V.str))∧H' lc=some (.lst (rs.map V.str)))∨False
 refine xg (K:=K) (a:=lc) (xs:=rs.map V.str) Iv
  (.inl ⟨none,rfl,s1.trans s2,e1',e2⟩) (λi σ H' _ q=>(by obtain⟨_,_,_,_,z⟩:=q.resolve_right (λz=>z);exact zK.of z)) ?_ ?_
 ·intro i y σ H3 hi q
  obtain⟨v5,rfl,s3,e3,f3⟩:=q.resolve_right λz=>z
  clear q
  obtain⟨x,hx,rfl⟩:=yc hi
  obtain⟨z,hz,hask⟩:=hnn i x hx
  obtain⟨hlz,hkz⟩:=i5 (show mA kd o zF x=.told z from hask)
  have hi':i < ns.length:=(LN.mp hz).1
  walk_at "rd"
  intro tw H4 s4 htw e4
  have s34:=s3.trans s4
  refine⟨d0,d,tw,K0,o,x,z,kd z,zF,rfl,s34 _ _ e0,s34 _ _ ed,jt.of e4,hlz,(hB _ _ hlz).1,hkz,true,rfl,?_⟩
  walk_at "rd"
  refine⟨d,_,rfl,dg (s34 _ _ ed) hlz,ln,_,_,rfl,rfl,s4 _ _ e3,gx (by rw[Ln,L3];omega),?_⟩
  intro H5 k5 e5
  refine .inl ⟨_,rfl,k5.put s34 hln,?_,k5.look (s4 _ _ f3) (λz=>ne1 z.symm)⟩
  rw[e5,take_snoc hz,LY]
  rfl
 ·intro σ H3 q
  obtain⟨v5,rfl,s3,e3,f3⟩:=q.resolve_right λz=>z
  clear q
  rw[Ln,←hnl,SE] at e3
  have el3:=s3 _ _ el
  have er3:=s3 _ _ er
  walk_at "rd"
  intro l4 H4 s4 hl4 e4
  rw[J0] at e4
  walk_at "rd"
  intro l5 H5 s5 hl5 e5
  have sh1:SI (.list (rs.map S0))=true:=qV λz hz=>(yI (ho.2.1 z hz)).ok
  have sh2:SI (.list (([]:List Str).map S0))=true:=qV λx hx=>by cases hx
  refine⟨_,_,dt.lst (zK.of (s5 _ _ e4)) (vj.strs _),dt.lst (zK.of e5) (vj.strs []),sh1,sh2,?_⟩
  rw[bU]
  have s35:=s4.trans s5
  have er5:=s35 _ _ er3
  have e35:=s35 _ _ e3
  walk_at "rd"
  walk_at "x3"
  ·refine⟨_,rfl,lr,_,rfl,.inl (zK.of er5),?_⟩
   intro l6 H6 s6 hl6 e6
   refine k l6 H6 ((s3.trans s35).trans s6) ((s3.trans s35).free hl6) ?_
   rw[if_pos (zzB h1)]
   exact e6
  ·rw[if_neg λz=>h1 (zzP z)] at k
   refine⟨_,rfl,lr,rfl,⟨_,zK.of er5⟩,?_⟩
   refine aw (xW (zK.of er5)) (λy=>ZS y (ns.map V.str)) (λy v=>v=y) (zg (by rw[Ln];omega)) ?_ ?_ ?_
   ·intro i y H' Q' hy s' k'
    obtain⟨x,hx,rfl⟩:=yc hy
    refine⟨_,rfl,_,rfl,ln,_,rfl,.inl (zK.of (s' _ _ e35)),rfl,xY _,_,rfl,?_⟩
    exact k' _ (zf.refl _)
   ·intro i y H' Q' hy _ s' k'
    exact⟨_,rfl,k' _ _ (zf.refl _) rfl⟩
   intro D H6 ys s6 hD e6 hP
   obtain rfl:=uF hP
   refine k D H6 ((s3.trans s35).trans s6) ((s3.trans s35).free hD) ?_
   rw[e6,XM]
end
structure br where
 t:Addr
 d:Addr
 l:Addr
 o:Ow
 rm:List Str
noncomputable def br.pr (e:br):Ow × List Str:=(e.o,e.rm)
structure bh (kd:Str→Str) (K0:Ow) (B H:Hp) (ls lf:Addr) (i:Nat) (es:List br) (rs:List (Addr × Addr)) (fls:List Fl):Prop where
 el:H ls=some (.lst (es.map λe=>V.ref e.t))
 a1:∀e∈es,H e.t=some (.tup [.ref e.d,.ref e.l])
 a2:∀e∈es,H e.d=some (.dK (dS e.o))
 a3:∀e∈es,H e.l=some (.lst (e.rm.map V.str))
 nd:(es.map (·.d)).Nodup
 ob:∀e∈es,rM kd K0 e.o
 on:∀e∈es,∀q∈e.o,zZ q.1=true
 ol:∀e∈es,e.o.length≤22 + i
 Fy:∀e∈es,e.rm.length≤12
 nl:∀e∈es,e.l≠ls∧e.l≠lf
 n1:1≤es.length
 n2:es.length≤1 + i
 bs:zf B H
 bl:B ls=none
 bf:B lf=none
 bd:∀e∈es,B e.d=none
 ne:ls≠lf
 ef:H lf=some (.lst (rs.map λr:Addr × Addr=>V.ref r.1))
 fa:jh H rs fls
 nr:∀r∈rs,(B r.1=none∧B r.2=none)∧r.2≠ls∧r.2≠lf
 rl:rs.length≤i
theorem bh.same {kd:Str→Str} {K0:Ow} {B H H':Hp} {ls lf:Addr} {i:Nat} {es:List br} {rs:List (Addr × Addr)} {fls:List Fl} (h:bh kd K0 B H ls lf i es rs fls) (s:zf H H'):bh kd K0 B H' ls lf i es rs fls:=
 ⟨s _ _ h.el,λe he=>s _ _ (h.a1 e he),λe he=>s _ _ (h.a2 e he),λe he=>s _ _ (h.a3 e he),h.nd,h.ob,h.on,h.ol,h.Fy,h.nl,h.n1,h.n2,h.bs.trans s,h.bl,h.bf,h.bd,h.ne,s _ _ h.ef,h.fa.same s,h.nr,h.rl⟩
theorem jh.MN {H H':Hp} {d:Addr} {kvs:List (Key × V)} {rs:List (Addr × Addr)} {fls:List Fl} (h:jh H rs fls) (k:Keeps d H H') (e:H d=some (.dK kvs)):jh H' rs fls:=Paired.imp' (λr f z=>⟨k.look z.1 (λq=>by (have:=z.1);rw[q,e] at this;cases this),k.look z.2 (λq=>by (have:=z.2);rw[q,e] at this;cases this)⟩) h
theorem bh.put {kd:Str→Str} {K0:Ow} {B H H':Hp} {ls lf:Addr} {i:Nat} {es0:List br} {t d l:Addr} {o o':Ow} {rm:List Str} {rs:List (Addr × Addr)} {fls:List Fl} (h:bh kd K0 B H ls lf i (es0 ++ [⟨t,d,l,o,rm⟩]) rs fls) (k:Keeps d H H') (e:H' d=some (.dK (dS o'))) (h1:rM kd K0 o') (h2:∀q∈o',zZ q.1=true) (h3:o'.length≤22 + (i + 1)):bh kd K0 B H' ls lf (i + 1) (es0 ++ [⟨t,d,l,o',rm⟩]) rs fls:=by
 have hx:(⟨t,d,l,o,rm⟩:br)∈es0 ++ [⟨t,d,l,o,rm⟩]:=by simp
 have ed:=h.a2 _ hx
 have g1:H t=some (.tup [.ref d,.ref l]):=h.a1 _ hx
 have g3:H l=some (.lst (rm.map V.str)):=h.a3 _ hx
 have g4:rm.length≤12:=h.Fy _ hx
 have g5:l≠ls∧l≠lf:=h.nl _ hx
 have g6:B d=none:=h.bd _ hx
 dsimp only at ed
 have nt:∀{x:Addr} {u:List V},H x=some (.tup u)→x≠d:=λ{x u} q z=>by rw[z,ed] at q;cases q
 have nls:∀{x:Addr} {u:List V},H x=some (.lst u)→x≠d:=λ{x u} q z=>by rw[z,ed] at q;cases q
 have ini:∀{e:br},e∈es0→e∈es0 ++ [⟨t,d,l,o,rm⟩]:=λhe=>Ss _ he
 have hnd:=h.nd
 have hd0:∀e∈es0,e.d≠d:=λe he z=>by
  rw[LY] at hnd
  exact(SG.mp hnd).2.2 e.d (SH he) d (by simp) z
 have cs:∀{p:br→Prop},(∀e∈es0,p e)→p ⟨t,d,l,o',rm⟩→∀e∈es0 ++ [⟨t,d,l,o',rm⟩],p e:=λ{p} a b e he=>by
  (rcases LU.mp he with he | he)
  ·exact a e he
  ·rw[LW.mp he];exact b
 refine⟨?_,cs (λe he=>k.look (h.a1 e (ini he)) (nt (h.a1 e (ini he)))) (k.look g1 (nt g1)),cs (λe he=>k.look (h.a2 e (ini he)) (hd0 e he)) e,cs (λe he=>k.look (h.a3 e (ini he)) (nls (h.a3 e (ini he)))) (k.look g3 (nls g3)),by have:=h.nd;simpa using this,cs (λe he=>h.ob e (ini he)) h1,cs (λe he=>h.on e (ini he)) h2,cs (λe he=>Tg (h.ol e (ini he))) h3,cs (λe he=>h.Fy e (ini he)) g4,cs (λe he=>h.nl e (ini he)) g5,by simp,by have:=h.n2;simp at this ⊢;omega,k.put h.bs g6,h.bl,h.bf,cs (λe he=>h.bd e (ini he)) g6,h.ne,k.look h.ef (nls h.ef),h.fa.MN k ed,h.nr,Tg h.rl⟩
 have:=k.look h.el (nls h.el)
 rw[this]
 simp
theorem bh.push {kd:Str→Str} {K0:Ow} {B H H':Hp} {ls lf:Addr} {i:Nat} {es:List br} {x:br} {rs:List (Addr × Addr)} {fls:List Fl} (h:bh kd K0 B H ls lf i es rs fls) (k:Keeps ls H H') (e:H' ls=some (.lst ((es.map λe=>V.ref e.t) ++ [.ref x.t]))) (h1:H x.t=some (.tup [.ref x.d,.ref x.l])) (h2:H x.d=some (.dK (dS x.o))) (h3:H x.l=some (.lst (x.rm.map V.str))) (hn:x.d∉es.map (·.d)) (hb:B x.d=none) (hl:x.l≠ls∧x.l≠lf) (ho:rM kd K0 x.o∧(∀q∈x.o,zZ q.1=true)∧x.o.length≤22 + i∧x.rm.length≤12):bh kd K0 B H' ls lf (i + 1) (es ++ [x]) rs fls:=by
 have hel:=h.el
 have nt:∀{x:Addr} {u:List V},H x=some (.tup u)→x≠ls:=λ{x u} q z=>by rw[z,hel] at q;cases q
 have ndd:∀{x:Addr} {u:List (Key × V)},H x=some (.dK u)→x≠ls:=λ{x u} q z=>by rw[z,hel] at q;cases q
 have cs:∀{p:br→Prop},(∀e∈es,p e)→p x→∀e∈es ++ [x],p e:=λ{p} a b e he=>by
  (rcases LU.mp he with he | he)
  ·exact a e he
  ·rw[LW.mp he];exact b
 refine⟨by rw[e,LY];rfl,cs (λe he=>k.look (h.a1 e he) (nt (h.a1 e he))) (k.look h1 (nt h1)),cs (λe he=>k.look (h.a2 e he) (ndd (h.a2 e he))) (k.look h2 (ndd h2)),cs (λe he=>k.look (h.a3 e he) (h.nl e he).1) (k.look h3 hl.1),?_,cs h.ob ho.1,cs h.on ho.2.1,cs (λe he=>Tg (h.ol e he)) (Tg ho.2.2.1),cs h.Fy ho.2.2.2,cs h.nl hl,by simp,by have:=h.n2;simp;omega,k.put h.bs h.bl,h.bl,h.bf,cs h.bd hb,h.ne,k.look h.ef (λz=>h.ne z.symm),Paired.KN h.fa λr hr f z=>⟨k.look z.1 (nt z.1),k.look z.2 (h.nr r hr).2.1⟩,h.nr,Tg h.rl⟩
 rw[LY]
 exact SG.mpr ⟨h.nd,by simp,λa ha b hb' z=>hn (by rw[←(LW.mp hb':b=x.d),←z];exact ha)⟩
theorem bh.pop {kd:Str→Str} {K0:Ow} {B H H':Hp} {ls lf:Addr} {i:Nat} {es:List br} {x:br} {rs:List (Addr × Addr)} {fls:List Fl} (h:bh kd K0 B H ls lf i (es ++ [x]) rs fls) (h1:1≤es.length) (k:Keeps ls H H') (e:H' ls=some (.lst (es.map λe=>V.ref e.t))):bh kd K0 B H' ls lf (i + 1) es rs fls:=by
 have hel:=h.el
 have nt:∀{x:Addr} {u:List V},H x=some (.tup u)→x≠ls:=λ{x u} q z=>by rw[z,hel] at q;cases q
 have ndd:∀{x:Addr} {u:List (Key × V)},H x=some (.dK u)→x≠ls:=λ{x u} q z=>by rw[z,hel] at q;cases q
 have ini:∀{e:br},e∈es→e∈es ++ [x]:=λhe=>Ss _ he
 refine⟨e,λe he=>k.look (h.a1 e (ini he)) (nt (h.a1 e (ini he))),λe he=>k.look (h.a2 e (ini he)) (ndd (h.a2 e (ini he))),λe he=>k.look (h.a3 e (ini he)) (h.nl e (ini he)).1,?_,λe he=>h.ob e (ini he),λe he=>h.on e (ini he),λe he=>Tg (h.ol e (ini he)),λe he=>h.Fy e (ini he),λe he=>h.nl e (ini he),h1,by have:=h.n2;simp at this;omega,k.put h.bs h.bl,h.bl,h.bf,λe he=>h.bd e (ini he),h.ne,k.look h.ef (λz=>h.ne z.symm),Paired.KN h.fa λr hr f z=>⟨k.look z.1 (nt z.1),k.look z.2 (h.nr r hr).2.1⟩,h.nr,Tg h.rl⟩
 have:=h.nd
 rw[LY] at this
 exact(SG.mp this).1
theorem bh.add {kd:Str→Str} {K0:Ow} {B H H':Hp} {ls lf:Addr} {i:Nat} {es:List br} {r:Addr × Addr} {f:Fl} {rs:List (Addr × Addr)} {fls:List Fl} (h:bh kd K0 B H ls lf i es rs fls) (k:Keeps lf H H') (e:H' lf=some (.lst ((rs.map λr:Addr × Addr=>V.ref r.1) ++ [.ref r.1]))) (h1:H r.1=some (.tup (Gf f r.2))) (h2:H r.2=some (.lst (f.zb.map V.str))) (hb:B r.1=none∧B r.2=none) (hl:r.2≠ls∧r.2≠lf):bh kd K0 B H' ls lf (i + 1) es (rs ++ [r]) (fls ++ [f]):=by
 have hef:=h.ef
 have nt:∀{x:Addr} {u:List V},H x=some (.tup u)→x≠lf:=λ{x u} q z=>by rw[z,hef] at q;cases q
 have ndd:∀{x:Addr} {u:List (Key × V)},H x=some (.dK u)→x≠lf:=λ{x u} q z=>by rw[z,hef] at q;cases q
 refine⟨k.look h.el h.ne,λe he=>k.look (h.a1 e he) (nt (h.a1 e he)),λe he=>k.look (h.a2 e he) (ndd (h.a2 e he)),λe he=>k.look (h.a3 e he) (h.nl e he).2,h.nd,h.ob,h.on,λe he=>Tg (h.ol e he),h.Fy,h.nl,h.n1,Tg h.n2,k.put h.bs h.bf,h.bl,h.bf,h.bd,h.ne,by rw[e,LY];rfl,?_,λr' hr=>?_,by rw[Li];have:=h.rl;simp;omega⟩
 ·exact Paired.Kn (.cons ⟨k.look h1 (nt h1),k.look h2 hl.2⟩ .nil) (Paired.KN h.fa λr hr f z=>⟨k.look z.1 (nt z.1),k.look z.2 (h.nr r hr).2.2⟩)
 ·rcases LU.mp hr with hr | hr
  ·exact h.nr r' hr
  ·rw[LW.mp hr];exact⟨hb,hl⟩
theorem Ve {kd:Str→Str} {evs:List Ew} {S Si:List (Ow × List Str)} {R:List Fl × List (Ow × List Str)} {i:Nat} {e:Ew} {f:List Fl} (h:xH kd evs S=some R) (he:evs[i]?=some e) (hi:xH kd (evs.take i) S=some (f,Si)):∃q,Gd kd e Si=some q∧xH kd (evs.take (i + 1)) S=some (f ++ q.1,q.2):=by
 have e1:evs=(evs.take i ++ [e]) ++ evs.drop (i + 1):=by rw[←take_snoc he,TV]
 have e2:=pG kd [e] (evs.take i) S
 rw[hi,LX,wB] at e2
 rw[e1,pG] at h
 obtain⟨p,hp,_⟩:=LJ.mp h
 rw[e2] at hp
 obtain⟨q,hq,hp⟩:=LJ.mp hp
 refine⟨q,hq,?_⟩
 rw[take_snoc he,e2,hq]
 rfl
theorem V7 {es0:List br} {e:br}:vX ((es0 ++ [e]).map λe=>V.ref e.t) (-1)=some (.ref e.t):=by
 have h:Jk (es0.length + 1) (-1)=some es0.length:=by
  unfold Jk
  rw[if_neg (by decide),if_pos (by omega)]
  exact congrArg some (by omega)
 unfold vX
 rw[Ln,Li,LQ,LO,h]
 simp
theorem nF (es0:List br) (x:br):((es0 ++ [x]).map br.pr).reverse=x.pr :: (es0.map br.pr).reverse:=by simp
theorem WV:zZ ("let" : Str)=false∧zZ ("part" : Str)=false∧zZ ("done" : Str)=false:=by decide +kernel
theorem bA {l:Str} (h:zZ l=true):l≠"let"∧l≠"part"∧l≠"done":=⟨(λz=>by rw[z,WV.1] at h;cases h),(λz=>by rw[z,WV.2.1] at h;cases h),(λz=>by rw[z,WV.2.2] at h;cases h)⟩
theorem i4:¬("part" : Str) = "let"∧¬("done" : Str) = "let"∧¬("done" : Str) = "part":=by decide +kernel
noncomputable def Ew.w0:Ew→Str
 | .lt _ _=>"let"
 | .pt _ _=>"part"
 | .dn=>"done"
 | .mu l _ _ _ _=>l
 | .my l _ _=>l
 | .bn l _ _ _=>l
 | .pw l _ _ _=>l
theorem Ew.Mx (e:Ew):vX (e.ws.map V.str) 0=some (.str e.w0):=by
 cases e with
 | pt n rs=>
  cases rs with
  | nil=>rfl
  | cons x rs=>exact kF (j:=0) rfl
 | _=>rfl
theorem Ew.eM {e:Ew} {c:Int × Str × Str × Str × Int × Str} (ho:e.ok) (hc:e.ZL=some c):e.w0≠"let"∧e.w0≠"part"∧e.w0≠"done":=by
 cases e with
 | mu l w a n r=>exact bA ho.1
 | my l w a=>exact bA ho.1
 | bn l w a r=>exact bA ho.1
 | pw l w a r=>exact bA ho.1
 | _=>cases hc
theorem B8 {kd:Str→Str} {o:Ow} {k:Int} {l u a:Str} {n:Int} {r:Str} {zb:List Str} {d:Int} {f:Fl} (h:gI kd o k l u a n r zb d=some f):f.zb=zb:=by
 obtain⟨_,_,_,rfl,_⟩:=ax h
 rfl
theorem Xp {kd:Str→Str} {e:Ew} {c:Int × Str × Str × Str × Int × Str} {o:Ow} {zb:List Str} {S:List (Ow × List Str)} {q:List Fl × List (Ow × List Str)} (hc:e.ZL=some c) (h:Gd kd e ((o,zb) :: S)=some q):∃f,gI kd o c.1 c.2.1 c.2.2.1 c.2.2.2.1 c.2.2.2.2.1 c.2.2.2.2.2 zb S.length=some f∧q=([f],(o,zb) :: S):=by
 have h':(e.ZL).bind (λc=>(gI kd o c.1 c.2.1 c.2.2.1 c.2.2.2.1 c.2.2.2.2.1 c.2.2.2.2.2 zb S.length).bind λf=>some ([f],(o,zb) :: S))=some q:=by
  cases e<;>first | exact h | cases hc
 rw[hc,LX] at h'
 obtain⟨f,hf,h'⟩:=LJ.mp h'
 exact⟨f,hf,(L8 h').symm⟩
theorem Dg {kd:Str→Str} {K0 o:Ow} {n v b:Str} (h:rM kd K0 o) (hb:lk o v=some b):rM kd K0 (pu o n b):=λz y hz=>by
 rw[WC] at hz
 split at hz
 ·cases hz;exact h v _ hb
 ·exact h z y hz
theorem FZ {o:Ow} {n b:Str} (h:∀q∈o,zZ q.1=true) (hn:zZ n=true):∀q∈pu o n b,zZ q.1=true:=λq hq=>by
 have hm:q.1∈(pu o n b).map (·.1):=SH hq
 have h':∀x∈o.map (·.1),zZ x=true:=λx hx=>by
  obtain⟨p,hp,rfl⟩:=SX.mp hx
  exact h p hp
 rw[lN] at hm
 split at hm
 ·exact h' _ hm
 ·(rcases LU.mp hm with hm | hm)
  ·exact h' _ hm
  ·rw[LW.mp hm];exact hn
section
variable {P:LH} {w:Sz} {K:Ls} {mg:Str→Option Lo} {base:Heap} {t:z4}
def BZ (K:Ls):Sp:=λvs H Q _=>∃(p l:Addr) (c:Int) (ps as:List Str) (zb:List (Str × Str)) (ws:List V) (evs:List Ew) (fls:List Fl) (S2:List (Ow × List Str)),vs=[.ref p,.ref l]∧mf H p c ps as zb∧Mz c ps as zb∧H l=some (.lst ws)∧Paired (fc H) ws evs∧(∀e∈evs,e.ok)∧evs.length≤42∧xH (xB ps as zb) evs [(wD (j5 ps as zb),zb.map (·.2))]=some (fls,S2)∧
 ∀lt H' rs,zf H H'→H lt=none→H' lt=some (.lst (rs.map λr:Addr × Addr=>.ref r.1))→jh H' rs fls→(∀r∈rs,H r.1=none∧H r.2=none)→Q (.ref lt) H'
seal NZ
theorem jE:zu ["_law_header_here","_law_rows_here","_law_kinds_here","_law_stack","_law_found","_law_row","_law_scope_here","_law_rooms","_law_inner_here","_law_wrong_here"] ["_law_header_here","_law_rows_here"] (zy nN):=by walk_at "sc"
theorem Vb (T:Txt K mg t):ze P w K mg base zC 3 t.tm t.sU ["_law_header_here","_law_rows_here"] (BZ K):=by
 have G_w_inner:=@ze.mono P w K mg base _ _ 2 _ _ _ _ (JD T) (by decide)
 have G_w_kinds:=@ze.mono P w K mg base _ _ 2 _ _ _ _ (m6 T) (by decide)
 have G_w_scope:=@ze.mono P w K mg base _ _ 2 _ _ _ _ (nG T) (by decide)
 have G_w_told:=@ze.mono P w K mg base _ _ 2 _ _ _ _ (Vd T) (by decide)
 have G_w_wrong:=@ze.mono P w K mg base _ _ 2 _ _ _ _ (JS T) (by decide)
 refine T.ZM.fn.ok jE (by walk_at "ln") ?_;walk_at "hd"
 obtain⟨p,l,c,ps,as,zb,ws,evs,fls,S2,rfl,hH,hZ,el,hP,hev,hln,hR,k⟩:=h
 refine⟨_,(zq (za (i:=2) jE.nd rfl (LL rfl) (zi G_w_kinds hr rfl T.vz.mg T.vz.fn.kp T.vz.bd .nil zJ (zz (pv 0) zj)))
   (zq (za (i:=3) jE.nd rfl (LL rfl) (zB (zz (qq (zz (zi G_w_scope hr rfl T.gR.mg T.gR.fn.kp T.gR.bd .nil zJ (zz (pv 0) zj)) (zz (vR (osc:=zy nN) (N:=["_law_header_here","_law_rows_here","_law_kinds_here","_law_stack","_law_found","_law_row","_law_scope_here","_law_rooms","_law_inner_here","_law_wrong_here"]) (xs:=["_law_mark","_law_name"]) (names:=[]) (zR:=[]) rfl rfl rfl ⟨rfl,by decide +kernel,by decide +kernel,by decide +kernel,by decide +kernel,rfl,by decide +kernel,by decide +kernel⟩ (qp (K:=K) rfl (zc (qY (K:=K) rfl) (pv 0) zx (λ_ _=>rfl))) (λ_ _ _=>(vB (K:=K) (n:=2) rfl rfl (qu (zM (i:=0) (show (["_law_mark","_law_name"]:List Str).Nodup from by decide +kernel) rfl (.inl (wC rfl)) (.inr (wC rfl))) (qu (zM (i:=1) (show (["_law_mark","_law_name"]:List Str).Nodup from by decide +kernel) rfl (.inl (wC rfl)) (.inr (wC rfl))) vP)) rfl rfl)) (λ_ _ _=>lT) (λ_ _ _=>(pv 1))) zj))) zj)) jZ)
   (zq (za (i:=4) jE.nd rfl (LL rfl) (zB zj) jZ)
   (zq (jy Su rfl (qp (K:=K) rfl (pv 1)) (zM (i:=5) jE.nd rfl (LL rfl))
    (zq (kx (zc (zv (K:=K) rfl) (pv 3) (cQ gD zx) (λ_ _=>rfl)) (vB (K:=K) rfl rfl (qu (zM (i:=6) jE.nd rfl (LL rfl)) (qu (zM (i:=7) jE.nd rfl (LL rfl)) vP))))
   (zk (PS.join (zW (zd qz (zc (zv (K:=K) rfl) (pv 5) zx (λ_ _=>rfl)) zw (zQ _))
    (zq (zW (Zh (eh (qo hr) (zc (zv (K:=K) rfl) (pv 5) zx (λ_ _=>rfl)) (pv 6)))
    (zk (zp (qq (zz zw (zz zw (zz (zc (zv (K:=K) rfl) (pv 5) zx (λ_ _=>rfl)) zj)))))) zr)
   (zk (kx (qG (qo hr) (pv 6) (zc (zv (K:=K) rfl) (pv 5) zx (λ_ _=>rfl)) (λ_ _=>rfl)) (ve (pv 6) (zc (zv (K:=K) rfl) (pv 5) zx (λ_ _=>rfl)) (je (qo hr)))))) (zk (PS.join (zW (zd qz (zc (zv (K:=K) rfl) (pv 5) zx (λ_ _=>rfl)) zw (zQ _))
    (zq (za (i:=8) jE.nd rfl (LL rfl) (zi G_w_inner hr rfl T.sx.mg T.sx.fn.kp T.sx.bd .nil zJ (zz (pv 2) (zz (pv 6) (zz (pv 5) (zz (pv 7) zj))))))
   (zq (zW (qt (zX (qL (K:=K) rfl) rfl T.qU SV (zz (pv 8) (zz (gH rfl T.Xa Iq (v:=.ty "tuple") rfl) zj))))
    (zk (zp (pv 8))) zr)
   (zk (zO (qM LD L5 L6 qj (pv 3) (zz (qq (zz (z8 gW rfl T.eI NQ (zz (pv 6) zj)) (zz (pv 8) zj))) zj)))))) (zk (PS.join (zW (zd qz (zc (zv (K:=K) rfl) (pv 5) zx (λ_ _=>rfl)) zw (zQ _))
    (zk (zO (uM LD T9 Nz ny (pv 3)))) (zq (za (i:=9) jE.nd rfl (LL rfl) (zi G_w_wrong hr rfl T.sg.mg T.sg.fn.kp T.sg.bd .nil zJ (zz (pv 2) (zz (pv 6) (zz (pv 5) zj)))))
   (zq (zW (zd (Zv (K:=K) rfl hr.units) (pv 9) (qq zj) (zQ _))
    (zk (zp (pv 9))) zr)
   (zk (zO (qM LD L5 L6 qj (pv 4) (zz (zi G_w_told hr rfl T.ZC.mg T.ZC.fn.kp T.ZC.bd .nil zJ (zz (pv 6) (zz (pv 5) (zz (pv 7) (zz (zo m8 (zX (zG (K:=K) rfl) rfl T.qJ L4 (zz (pv 3) zj)) zx) zj))))) zj)))))))))))))))))
   (zk (zp (pv 4))))))),?_⟩
 refine⟨_,rfl,p,c,ps,as,zb,rfl,hH,hZ.hd,λd0 H1 s1 hd0 e0=>?_⟩
 show zU 2 (V.ref d0) [some (.ref p),some (.ref l),none,none,none,none,none,none,none,none] _ _
 refine⟨_,rfl,p,c,ps,as,zb,rfl,hH.same s1,hZ.hd,λd H2 s2 hd e2=>?_⟩
 obtain⟨lp,la,lr,lm,ll,vs,ep,elp,ela,elr,elm,hRm⟩:=hH.same (s1.trans s2)
 refine⟨_,rfl,p,_,_,_,rfl,rfl,jt.of ep,rfl,lr,rfl,⟨_,zK.of elr⟩,?_⟩
 have hvl:vs.length=zb.length:=SW hRm
 have hrl:zb.length≤12:=hZ.hd.r2
 refine uq (xW (zK.of elr)) (Jq H2) (ZP H2) (λy v=>∀p m n,y=V.ref p→H2 p=some (.tup [.str m,.str n])→v=V.str n) (zg (by omega)) ?_ ?_ ?_
 ·intro j y ts H' K' hy hts s' k'
  obtain⟨mn,_,p',rfl,ep⟩:=Paired.Vz hRm (LC hy)
  have et:Jq H2 (.ref p')=[some (.str mn.1),some (.str mn.2)]:=by unfold Jq;simp only[ep]
  rw[et] at k'
  match ts,hts with
  | [t1,t2],_=>exact⟨p',_,rfl,jt.of (s' _ _ ep),rfl,_,_,rfl,_,_,rfl,rfl,k'⟩
 ·intro j y H' Q' hy s' kk
  obtain⟨mn,_,p',rfl,ep⟩:=Paired.Vz hRm (LC hy)
  have et:Jq H2 (.ref p')=[some (.str mn.1),some (.str mn.2)]:=by unfold Jq;simp only[ep]
  rw[et]
  refine⟨_,rfl,kk _ _ (zf.refl _) λp2 m2 n2 e q=>?_⟩
  cases e
  rw[ep] at q
  cases q
  rfl
 intro D H3 ys s3 hD e3 hPr
 rw[dz hRm hPr] at e3
 clear hPr ys
 refine⟨zg (by show 2≤1000;decide),?_⟩
 intro t0 H4 s4 ht0 e4
 refine⟨zg (by show 1≤1000;decide),?_⟩
 intro ls H5 s5 hls e5
 show zU 3 (V.ref ls) [some (.ref p),some (.ref l),some (.ref d0),none,none,none,none,none,none,none] _ _
 refine⟨zg (by show 0≤1000;decide),?_⟩
 intro lf H6 s6 hlf e6
 show zU 4 (V.ref lf) [some (.ref p),some (.ref l),some (.ref d0),some (.ref ls),none,none,none,none,none,none] _ _
 have s26:=((s3.trans s4).trans s5).trans s6
 have s16:=s2.trans s26
 have e2':=s26 _ _ e2
 have e3':=s6 _ _ (s5 _ _ (s4 _ _ e3))
 have e4':=s6 _ _ (s5 _ _ e4)
 have e5':=s6 _ _ e5
 have hbl:H1 ls=none:=((s2.trans s3).trans s4).free hls
 have hbf:H1 lf=none:=(((s2.trans s3).trans s4).trans s5).free hlf
 have hEn:=WK hZ
 have hk0:=aH hZ.hd
 have hol:(wD (j5 ps as zb)).length=(j5 ps as zb).length:=Ln ..
 have st0:bh (xB ps as zb) (j5 ps as zb) H1 H6 ls lf 0 [⟨t0,d,D,wD (j5 ps as zb),zb.map (·.2)⟩] [] []:=by
  have one:∀{q:br→Prop},q ⟨t0,d,D,wD (j5 ps as zb),zb.map (·.2)⟩→∀e∈[(⟨t0,d,D,wD (j5 ps as zb),zb.map (·.2)⟩:br)],q e:=λ{q} h e he=>by rw[LW.mp he];exact h
  refine⟨e5',one e4',one e2',one e3',by simp,one hEn.bs,one hEn.D8,one (show (wD (j5 ps as zb)).length≤22 + 0 by omega),one (show (zb.map (·.2)).length≤12 by rw[Ln];exact hrl),one ⟨λz=>?_,λz=>?_⟩,by simp,by simp,s16,hbl,hbf,one hd,λz=>?_,e6,.nil,λr hr=>(by cases hr),Sy _⟩
  ·have z':D=ls:=z
   rw[←z',s4 _ _ e3] at hls;cases hls
  ·have z':D=lf:=z
   rw[←z',s5 _ _ (s4 _ _ e3)] at hlf;cases hlf
  ·rw[←z,e5] at hlf;cases hlf
 have el6:=(s1.trans s16) _ _ el
 have elB:=s1 _ _ el
 have hPB:Paired (fc H1) ws evs:=Paired.imp' (λ_ _ z=>z.same s1) hP
 have hwl:ws.length=evs.length:=SW hP
 clear e2 e3 e4 e5 e6 e2' e3' e4' e5' s26 s3 s4 s5 s6 hls hlf hD ht0 hd s2
 clear ep elp ela elr elm hRm
 refine⟨_,rfl,l,rfl,⟨_,zK.of el6⟩,?_⟩
 let Iv:xn:=λi σ H'=>(∃(es:List br) (rs:List (Addr × Addr)) (fl:List Fl) (v5 v6 v7 v8 v9:Option V),σ=[some (.ref p),some (.ref l),some (.ref d0),some (.ref ls),some (.ref lf),v5,v6,v7,v8,v9]∧bh (xB ps as zb) (j5 ps as zb) H1 H' ls lf i es rs fl∧xH (xB ps as zb) (evs.take i) [(wD (j5 ps as zb),zb.map (·.2))]=some (fl,(es.map br.pr).reverse))∨False
 refine xg (K:=K) (a:=l) (xs:=ws) Iv
  (.inl ⟨_,_,_,none,none,none,none,none,rfl,st0,rfl⟩) (λi σ H' _ q=>(by obtain⟨_,_,_,_,_,_,_,_,_,z,_⟩:=q.resolve_right (λz=>z);exact zK.of (z.bs _ _ elB))) ?_ ?_
 ·intro i y σ H7 hi q
  obtain⟨es,rs,fl,v5,v6,v7,v8,v9,rfl,st,hrun⟩:=q.resolve_right λz=>z
  clear q
  obtain⟨e,hie,lw,rfl,hlw⟩:=Paired.a8 (i:=i) hPB hi
  obtain⟨es0,⟨tt,d,lq,o,rm⟩,rfl⟩:=tF st.n1
  rw[nF] at hrun
  obtain⟨q,hq,hrun2⟩:=Ve hR hie hrun
  have hx:(⟨tt,d,lq,o,rm⟩:br)∈es0 ++ [⟨tt,d,lq,o,rm⟩]:=by simp
  have ett:H7 tt=some (.tup [.ref d,.ref lq]):=st.a1 _ hx
  have ed:H7 d=some (.dK (dS o)):=st.a2 _ hx
  have elq:H7 lq=some (.lst (rm.map V.str)):=st.a3 _ hx
  have hob:rM (xB ps as zb) (j5 ps as zb) o:=st.ob _ hx
  have hon:∀q∈o,zZ q.1=true:=st.on _ hx
  have hol':o.length≤22 + i:=st.ol _ hx
  have horm:rm.length≤12:=st.Fy _ hx
  have hnl:lq≠ls∧lq≠lf:=st.nl _ hx
  have hbd:H1 d=none:=st.bd _ hx
  have hil:i < evs.length:=(LN.mp hie).1
  have qx:=hev e (LC hie)
  have elw:=st.bs _ _ hlw
  have e07:=st.bs _ _ e0
  refine⟨_,rfl,1,rfl,ls,_,_,_,rfl,rfl,zK.of st.el,V7,tt,_,rfl,jt.of ett,rfl,?_⟩
  show Qv (zU 6) (Qv (zU 7) Pd) _ [some (.ref p),some (.ref l),some (.ref d0),some (.ref ls),some (.ref lf),some (.ref lw),v6,v7,v8,v9] _ _
  refine⟨_,_,rfl,_,_,rfl,rfl,?_⟩
  walk_at "x4"
  let Jn:xM:=λσ' H'=>(∃(es:List br) (rs:List (Addr × Addr)) (fl:List Fl) (v8 v9:Option V),σ'=[some (.ref p),some (.ref l),some (.ref d0),some (.ref ls),some (.ref lf),some (.ref lw),some (.ref d),some (.ref lq),v8,v9]∧bh (xB ps as zb) (j5 ps as zb) H1 H' ls lf (i + 1) es rs fl∧xH (xB ps as zb) (evs.take (i + 1)) [(wD (j5 ps as zb),zb.map (·.2))]=some (fl,(es.map br.pr).reverse))∨False
  refine⟨Jn,?_,?_⟩
  ·refine⟨_,rfl,lw,_,_,_,rfl,rfl,zK.of elw,e.Mx,?_⟩
   walk_at "rd"
   walk_at "x3"
   ·have hw:e.w0 = "let":=V.str.inj (zzB h1)
    cases e with
    | lt a b=>
     have hq':(lk o b).bind (λx=>some (([]:List Fl),(pu o a x,rm) :: (es0.map br.pr).reverse))=some q:=hq
     obtain⟨x,hbx,hq'⟩:=LJ.mp hq'
     cases hq'
     refine⟨_,rfl,lw,_,_,_,rfl,rfl,zK.of elw,rfl,?_⟩
     refine⟨_,rfl,d,_,rfl,dg ed hbx,false,rfl,?_⟩
     refine⟨_,rfl,_,rfl,lw,_,_,_,rfl,rfl,zK.of elw,rfl,d,_,rfl,dg ed hbx,?_⟩
     refine⟨_,rfl,_,rfl,lw,_,_,_,rfl,rfl,zK.of elw,rfl,?_⟩
     refine⟨d,_,.inr a,rfl,rfl,ed,?_,?_⟩
     ·exact zg (by rw[vI];omega)
     intro H9 k9 e9
     rw[gB] at e9
     have hpl:=J3 o a x
     refine .inl ⟨_,rs,fl,v8,v9,rfl,st.put k9 e9 (Dg hob hbx) (FZ hon qx.1) (by omega),?_⟩
     rw[hrun2,Sd,nF]
     rfl
    | mu l w a n r=>exact absurd hw (Ew.eM qx rfl).1
    | my l w a=>exact absurd hw (Ew.eM qx rfl).1
    | bn l w a r=>exact absurd hw (Ew.eM qx rfl).1
    | pw l w a r=>exact absurd hw (Ew.eM qx rfl).1
    | pt n rs=>exact absurd hw i4.1
    | dn=>exact absurd hw i4.2.1
   ·have hw1:e.w0≠"let":=λz=>h1 (zzP (congrArg V.str z))
    refine⟨λσ' H'=>_,?_,λσ' H' q=>q⟩
    refine⟨_,rfl,lw,_,_,_,rfl,rfl,zK.of elw,e.Mx,?_⟩
    walk_at "rd"
    refine zD (λh2=>?_) (λh2=>?_)
    ·have hw:e.w0 = "part":=V.str.inj (zzB h2)
     cases e with
     | pt n rs'=>
      have hq':(bV (xB ps as zb) o rs' rm).bind (λcv=>some (([]:List Fl),(o,cv) :: (o,rm) :: (es0.map br.pr).reverse))=some q:=hq
      obtain⟨cv,hcv,hq'⟩:=LJ.mp hq'
      cases hq'
      refine⟨_,rfl,_,rfl,_,rfl,_,rfl,d0,d,lw,lq,j5 ps as zb,o,xB ps as zb,n,rs',rm,cv,rfl,e07,ed,elw,elq,qx,hcv,hob,by omega,λl' H8 s8 hl' e8=>?_⟩
      have st8:=st.same s8
      have ed8:=s8 _ _ ed
      show zU 8 (V.ref l') [some (.ref p),some (.ref l),some (.ref d0),some (.ref ls),some (.ref lf),some (.ref lw),some (.ref d),some (.ref lq),v8,v9] _ _
      refine⟨_,rfl,_,_,.type "list",false,rfl,.inl ⟨_,rfl⟩,xm.lst e8,T.oR,_,rfl,?_⟩
      refine zD (λh=>by cases h) (λ_=>?_)
      refine⟨_,rfl,.inl ⟨rfl,_,zK.of st8.el⟩,?_⟩
      refine⟨_,rfl,d,_,rfl,ed8,?_⟩
      intro d2 H9 s9 hd2 e9
      refine⟨_,rfl,zg (by show 2≤1000;decide),?_⟩
      intro t2 H10 s10 ht2 e10
      have st10:=(st8.same s9).same s10
      have hn2:=st.n2
      refine⟨ls,_,_,rfl,rfl,st10.el,zg (by rw[Ln];omega),?_⟩
      intro H11 k11 e11
      have hnew:d2∉(es0 ++ [(⟨tt,d,lq,o,rm⟩:br)]).map (·.d):=λz=>by
       obtain⟨x,hx,hxe⟩:=SX.mp z
       have q:=st8.a2 x hx
       rw[hxe,hd2] at q
       cases q
      have hcl:=ay hcv
      refine .inl ⟨_,rs,fl,_,_,rfl,st10.push (x:=⟨t2,d2,l',o,cv⟩) k11 e11 e10 (s10 _ _ e9) (s10 _ _ (s9 _ _ e8)) hnew (st8.bs.free hd2) ⟨λz=>?_,λz=>?_⟩ ⟨hob,hon,hol',by show cv.length≤12;omega⟩,?_⟩
      ·have z':l'=ls:=z
       have q:=st.el
       rw[←z',hl'] at q
       cases q
      ·have z':l'=lf:=z
       have q:=st.ef
       rw[←z',hl'] at q
       cases q
      ·rw[hrun2,Sd,nF,nF]
       rfl
     | mu l w a n r=>exact absurd hw (Ew.eM qx rfl).2.1
     | my l w a=>exact absurd hw (Ew.eM qx rfl).2.1
     | bn l w a r=>exact absurd hw (Ew.eM qx rfl).2.1
     | pw l w a r=>exact absurd hw (Ew.eM qx rfl).2.1
     | lt a b=>exact absurd rfl hw1
     | dn=>exact absurd hw i4.2.2
    ·have hw2:e.w0≠"part":=λz=>h2 (zzP (congrArg V.str z))
     refine⟨λσ' H'=>_,?_,λσ' H' q=>q⟩
     refine⟨_,rfl,lw,_,_,_,rfl,rfl,zK.of elw,e.Mx,?_⟩
     walk_at "rd"
     refine zD (λh3=>?_) (λh3=>?_)
     ·have hw:e.w0 = "done":=V.str.inj (zzB h3)
      cases e with
      | dn=>
       have hq':(if (es0.map br.pr).reverse=[] then none else some (([]:List Fl),(es0.map br.pr).reverse))=some q:=hq
       split at hq'
       ·cases hq'
       rename_i hne
       cases hq'
       have hes0:1≤es0.length:=by
        cases es0 with
        | nil=>exact absurd rfl hne
        | cons a b=>simp
       refine⟨_,rfl,.inl ⟨rfl,_,zK.of st.el⟩,ls,_,.ref tt,rfl,rfl,st.el,by simp,?_⟩
       intro H8 k8 e8
       have e8':H8 ls=some (.lst (es0.map λe=>.ref e.t)):=by rw[e8];simp
       refine .inl ⟨_,rs,fl,_,_,rfl,st.pop hes0 k8 e8',?_⟩
       rw[hrun2,Sd]
      | mu l w a n r=>exact absurd hw (Ew.eM qx rfl).2.2
      | my l w a=>exact absurd hw (Ew.eM qx rfl).2.2
      | bn l w a r=>exact absurd hw (Ew.eM qx rfl).2.2
      | pw l w a r=>exact absurd hw (Ew.eM qx rfl).2.2
      | lt a b=>exact absurd rfl hw1
      | pt n rs=>exact absurd rfl hw2
     ·have hw3:e.w0≠"done":=λz=>h3 (zzP (congrArg V.str z))
      obtain⟨c',hc⟩:∃c',e.ZL=some c':=by
       cases e with
       | lt a b=>exact absurd rfl hw1
       | pt n rs=>exact absurd rfl hw2
       | dn=>exact absurd rfl hw3
       | _=>exact⟨_,rfl⟩
      obtain⟨f,hf,rfl⟩:=Xp hc hq
      obtain⟨w',a',r',_,hU⟩:=ax hf
      refine⟨_,rfl,_,rfl,_,rfl,d0,d,lw,j5 ps as zb,o,xB ps as zb,e,c',w',a',r',rfl,e07,ed,elw,qx,hc,hU,hob,λq8 H8 s8 e8=>?_⟩
      show zU 9 (V.ref q8) [some (.ref p),some (.ref l),some (.ref d0),some (.ref ls),some (.ref lf),some (.ref lw),some (.ref d),some (.ref lq),v8,v9] _ _
      walk_at "rd"
      intro q9 H9 s9 hq9 e9
      refine⟨_,_,dt.tup (jt.of (s9 _ _ e8)) .nil,dt.tup (jt.of e9) .nil,rfl,rfl,_,rfl,?_⟩
      refine zD (λh=>by cases h) (λ_=>?_)
      have s79:=s8.trans s9
      have st9:=st.same s79
      refine⟨_,rfl,.inl ⟨rfl,_,zK.of st9.ef⟩,?_⟩
      refine⟨_,rfl,_,rfl,_,rfl,_,rfl,ls,_,rfl,.inl (zK.of st9.el),_,_,rfl,rfl,?_⟩
      have hdep:((((es0 ++ [(⟨tt,d,lq,o,rm⟩:br)]).map λe=>V.ref e.t).length:Nat):Int) - 1=(((es0.map br.pr).reverse.length:Nat):Int):=by
       rw[Ln,Li,Nd,Ln]
       simp
      rw[←hdep] at hf
      refine⟨d,lw,lq,o,xB ps as zb,e,c',f,rm,_,rfl,s79 _ _ ed,s79 _ _ elw,s79 _ _ elq,hon,qx,hc,hf,λp' l' H10 s10 hp' hl' e10 f10=>?_⟩
      have st10:=st9.same s10
      have hrl10:=st.rl
      have hfr:f.zb=rm:=B8 hf
      refine⟨lf,_,_,rfl,rfl,st10.ef,zg (by rw[Ln];omega),?_⟩
      intro H11 k11 e11
      refine .inl ⟨_,_,_,_,_,rfl,st10.add (r:=(p',l')) (f:=f) k11 e11 e10 (by rw[hfr];exact f10) ⟨st9.bs.free hp',st9.bs.free hl'⟩ ⟨λz=>?_,λz=>?_⟩,?_⟩
      ·have z':l'=ls:=z
       have q:=st9.el
       rw[←z',hl'] at q
       cases q
      ·have z':l'=lf:=z
       have q:=st9.ef
       rw[←z',hl'] at q
       cases q
      ·rw[hrun2,nF]
       rfl
  ·intro σ' H8 q
   obtain⟨es3,rs3,fl3,w8,w9,rfl,st8,hr8⟩:=q.resolve_right λz=>z
   exact .inl ⟨_,_,_,_,_,_,_,_,rfl,st8,hr8⟩
 ·intro σ H7 q
  obtain⟨es,rs,fl,v5,v6,v7,v8,v9,rfl,st,hrun⟩:=q.resolve_right λz=>z
  clear q
  rw[hwl,SE,hR] at hrun
  obtain⟨rfl,_⟩:=Prod.mk.inj (L8 hrun)
  walk_at "rd"
  exact k lf H7 rs (s1.trans st.bs) (s1.free st.bf) st.ef st.fa λr hr=>⟨s1.free (st.nr r hr).1.1,s1.free (st.nr r hr).1.2⟩
end
noncomputable def J8:Ew→Rw
 | .lt a b=>.lt a b
 | .mu l w a n r=>.cl 0 l w a n r
 | .my l w a=>.cl 1 l w a 0 ""
 | .bn l w a r=>.cl 2 l w a 0 r
 | .pw l w a r=>.cl 3 l w a 0 r
 | .pt n rs=>.pt n rs []
 | .dn=>.lt "" ""
noncomputable def Yu:Ew→Bool
 | .pt _ _=>false
 | .dn=>false
 | _=>true
def BG (t:z4):Sp:=λvs H Q _=>∃(lw:Addr) (e:Ew),vs=[.ref lw]∧H lw=some (.lst (e.ws.map V.str))∧e.ok∧Yu e=true∧∀p H',zf H H'→H p=none→(∀ms,p∉ms→jU t ms H' (J8 e) (.ref p))→Q (.ref p) H'
section
variable {P:LH} {w:Sz} {K:Ls} {mg:Str→Option Lo} {base:Heap} {t:z4}
theorem Q3:zu ["_law_row"] ["_law_row"] (zy nI):=by walk_at "sc"
theorem QP (T:Txt K mg t):ze P w K mg base zC 4 t.mH t.mJ ["_law_row"] (BG t):=by
 have M_Ban_init:=@ze.mono P w K mg base _ _ 2 _ _ _ _ (rf T) (by decide)
 have M_Clause_init:=@ze.mono P w K mg base _ _ 2 _ _ _ _ (jG T) (by decide)
 have M_Duty_init:=@ze.mono P w K mg base _ _ 2 _ _ _ _ (cg T) (by decide)
 have M_Let_init:=@ze.mono P w K mg base _ _ 2 _ _ _ _ (rZ T) (by decide)
 have M_Power_init:=@ze.mono P w K mg base _ _ 2 _ _ _ _ (fD T) (by decide)
 refine T.cE.fn.ok Q3 (by walk_at "ln") ?_;walk_at "hd"
 obtain⟨lw,e,rfl,el,ho,hp,k⟩:=h
 refine⟨_,(zq (zW (zd qz (zc (zv (K:=K) rfl) (pv 0) zx (λ_ _=>rfl)) zw (zQ _))
    (zk (zp (qH T.W0 M_Let_init hr rfl T.WL T.sr.bd .nil zJ (zz (zc (zv (K:=K) rfl) (pv 0) zx (λ_ _=>rfl)) (zz (zc (zv (K:=K) rfl) (pv 0) zx (λ_ _=>rfl)) zj))))) zr)
   (zq (zW (zd qz (zX (zG (K:=K) rfl) rfl T.qJ L4 (zz (pv 0) zj)) zx (zQ _))
    (zk (zp (qH T.aU M_Duty_init hr rfl T.WR T.c8.bd .nil zJ (zz (zc (zv (K:=K) rfl) (pv 0) zx (λ_ _=>rfl)) (zz (zc (zv (K:=K) rfl) (pv 0) zx (λ_ _=>rfl)) (zz (zc (zv (K:=K) rfl) (pv 0) zx (λ_ _=>rfl)) (zz (z8 yt rfl T.Xe NG (zz (zc (zv (K:=K) rfl) (pv 0) zx (λ_ _=>rfl)) zj)) (zz (zc (zv (K:=K) rfl) (pv 0) zx (λ_ _=>rfl)) zj)))))))) zr)
   (zq (zW (zd qz (zX (zG (K:=K) rfl) rfl T.qJ L4 (zz (pv 0) zj)) zx (zQ _))
    (zk (zp (qH T.JY M_Ban_init hr rfl T.Bg T.sf.bd .nil zJ (zz (zc (zv (K:=K) rfl) (pv 0) zx (λ_ _=>rfl)) (zz (zc (zv (K:=K) rfl) (pv 0) zx (λ_ _=>rfl)) (zz (zc (zv (K:=K) rfl) (pv 0) zx (λ_ _=>rfl)) (zz (zc (zv (K:=K) rfl) (pv 0) zx (λ_ _=>rfl)) zj))))))) zr)
   (zq (zW (zd qz (zX (zG (K:=K) rfl) rfl T.qJ L4 (zz (pv 0) zj)) zx (zQ _))
    (zk (zp (qH T.tU M_Power_init hr rfl T.X5 T.mm.bd .nil zJ (zz (zc (zv (K:=K) rfl) (pv 0) zx (λ_ _=>rfl)) (zz (zc (zv (K:=K) rfl) (pv 0) zx (λ_ _=>rfl)) (zz (zc (zv (K:=K) rfl) (pv 0) zx (λ_ _=>rfl)) (zz (zc (zv (K:=K) rfl) (pv 0) zx (λ_ _=>rfl)) zj))))))) zr)
   (zk (zp (qH T.tD M_Clause_init hr rfl T.aD T.xt.bd .nil zJ (zz (zc (zv (K:=K) rfl) (pv 0) zx (λ_ _=>rfl)) (zz (zc (zv (K:=K) rfl) (pv 0) zx (λ_ _=>rfl)) (zz (zc (zv (K:=K) rfl) (pv 0) zx (λ_ _=>rfl)) zj)))))))))),?_⟩
 refine⟨_,rfl,lw,_,_,_,rfl,rfl,zK.of el,e.Mx,?_⟩
 walk_at "rd"
 cases e with
 | pt n rs=>cases hp
 | dn=>cases hp
 | lt a b=>
  walk_at "x7"
  walk_at "x0"
  walk_at "x0"
  intro p dx hp hdx hne
  refine⟨p,dx,_,_,rfl,zm,rfl,?_⟩
  exact k p _ (ji hp hdx hne) hp λms hm=>by
   unfold J8 jU
   exact⟨p,rfl,hm,dx,zm⟩
 | mu l u a n r=>
  obtain⟨n1,n2⟩:=Bc ho.2.2.2.1 ho.2.2.2.2.1
  refine zD (λh=>absurd (V.str.inj (zzB h)) (bA ho.1).1) (λ_=>?_)
  walk_at "x1"
  walk_at "x7"
  walk_at "x0"
  walk_at "x0"
  walk_at "x0"
  refine⟨_,rfl,lw,_,_,_,rfl,rfl,zK.of el,rfl,_,n,rfl,n1,n2,?_⟩
  walk_at "x0"
  intro p dx hp hdx hne
  refine⟨p,_,dx,_,_,_,_,_,_,rfl,aj T,zm,rfl,?_⟩
  exact k p _ (ji hp hdx hne) hp λms hm=>by
   unfold J8 jU
   exact⟨p,rfl,hm,dx,zm⟩
 | bn l u a r=>
  refine zD (λh=>absurd (V.str.inj (zzB h)) (bA ho.1).1) (λ_=>?_)
  walk_at "x1"
  walk_at "x2"
  walk_at "x1"
  walk_at "x7"
  walk_at "x0"
  walk_at "x0"
  walk_at "x0"
  walk_at "x0"
  intro p dx hp hdx hne
  refine⟨p,_,dx,_,_,_,_,_,rfl,Jg T,zm,rfl,?_⟩
  exact k p _ (ji hp hdx hne) hp λms hm=>by
   unfold J8 jU
   exact⟨p,rfl,hm,dx,zm⟩
 | pw l u a r=>
  refine zD (λh=>absurd (V.str.inj (zzB h)) (bA ho.1).1) (λ_=>?_)
  walk_at "x1"
  walk_at "x2"
  walk_at "x1"
  walk_at "x2"
  walk_at "x1"
  walk_at "x7"
  walk_at "x0"
  walk_at "x0"
  walk_at "x0"
  walk_at "x0"
  intro p dx hp hdx hne
  refine⟨p,_,dx,_,_,_,_,_,rfl,sW T,zm,rfl,?_⟩
  exact k p _ (ji hp hdx hne) hp λms hm=>by
   unfold J8 jU
   exact⟨p,rfl,hm,dx,zm⟩
 | my l u a=>
  refine zD (λh=>absurd (V.str.inj (zzB h)) (bA ho.1).1) (λ_=>?_)
  walk_at "x1"
  walk_at "x2"
  walk_at "x1"
  walk_at "x2"
  walk_at "x1"
  walk_at "x2"
  walk_at "x0"
  walk_at "x0"
  walk_at "x0"
  intro p dx hp hdx hne
  refine⟨p,_,dx,_,_,_,_,rfl,sV T,zm,rfl,?_⟩
  exact k p _ (ji hp hdx hne) hp λms hm=>by
   unfold J8 jU
   exact⟨p,rfl,hm,dx,zm⟩
def ZO (t:z4) (ms:List Addr) (H:Hp) (f:Addr × Addr × Addr) (g:Fr):Prop:=H f.1=some (.tup [.str g.1,.ref f.2.1,.ref f.2.2])∧f.2.1∈ms∧f.2.2∈ms∧H f.2.1=some (.lst (g.2.1.map V.str))∧∃ys,H f.2.2=some (.lst ys)∧qw t ms H g.2.2 ys
noncomputable def wU (fs:List (Addr × Addr × Addr)):List Addr:=fs.flatMap λf=>[f.2.1,f.2.2]
structure lF (t:z4) (ms:List Addr) (H:Hp) (l:Addr) (fs:List (Addr × Addr × Addr)) (fr:List Fr):Prop where
 el:H l=some (.lst (fs.reverse.map λf=>V.ref f.1))
 lm:l∈ms
 nd:(l :: wU fs).Nodup
 at_:Paired (ZO t ms H) fs fr
 al:∀c∈ms,∃o,H c=some o
theorem eS {ms:List Addr} {H H':Hp} {x:Addr} (h:∀c∈ms,∃o,H c=some o) (k:Keeps x H H') (hx:∃o,H' x=some o):∀c∈ms,∃o,H' c=some o:=λc hc=>by
 by_cases q:c=x
 ·rw[q];exact hx
 ·obtain⟨o,e⟩:=h c hc
  exact⟨o,k.look e q⟩
theorem ZO.same {t:z4} {ms:List Addr} {H H':Hp} {f:Addr × Addr × Addr} {g:Fr} (h:ZO t ms H f g) (s:zf H H'):ZO t ms H' f g:=by
 obtain⟨h1,h2,h3,h4,ys,h5,h6⟩:=h
 exact⟨s _ _ h1,h2,h3,s _ _ h4,ys,s _ _ h5,h6.move (Fm.of s) λb hb=>.inl hb⟩
theorem ZO.more {t:z4} {ms:List Addr} {H:Hp} {f:Addr × Addr × Addr} {g:Fr} {c:Addr} (h:ZO t ms H f g) (hc:H c=none):ZO t (c :: ms) H f g:=by
 obtain⟨h1,h2,h3,h4,ys,h5,h6⟩:=h
 exact⟨h1,LK _ h2,LK _ h3,h4,ys,h5,h6.move (λb o _ e=>e) λb hb=>(La.mp hb).elim (λz=>.inr (by rw[z];exact hc)) .inl⟩
theorem ZO.keep {t:z4} {ms:List Addr} {H H':Hp} {f:Addr × Addr × Addr} {g:Fr} {x:Addr} {zs:List V} (h:ZO t ms H f g) (k:Keeps x H H') (hx:x∈ms) (ex:H x=some (.lst zs)) (n1:f.2.1≠x) (n2:f.2.2≠x):ZO t ms H' f g:=by
 obtain⟨h1,h2,h3,h4,ys,h5,h6⟩:=h
 refine⟨k.look h1 (fM h1 ex (by intro z;cases z)),h2,h3,k.look h4 n1,ys,k.look h5 n2,h6.move (λb o hb e=>k.look e (λz=>hb (by rw[z];exact hx))) λb hb=>.inl hb⟩
theorem lF.same {t:z4} {ms:List Addr} {H H':Hp} {l:Addr} {fs:List (Addr × Addr × Addr)} {fr:List Fr} (h:lF t ms H l fs fr) (s:zf H H'):lF t ms H' l fs fr:=⟨s _ _ h.el,h.lm,h.nd,Paired.imp' (λ_ _ z=>z.same s) h.at_,λc hc=>by obtain⟨o,e⟩:=h.al c hc;exact⟨o,s _ _ e⟩⟩
theorem lF.add {t:z4} {ms:List Addr} {H H':Hp} {l c:Addr} {o:HO} {fs:List (Addr × Addr × Addr)} {fr:List Fr} (h:lF t ms H l fs fr) (s:zf H H') (hc:H c=none) (e:H' c=some o):lF t (c :: ms) H' l fs fr:=
 ⟨s _ _ h.el,LK _ h.lm,h.nd,Paired.imp' (λ_ _ z=>(z.more hc).same s) h.at_,λx hx=>(La.mp hx).elim (λz=>⟨o,by rw[z];exact e⟩) (λz=>by obtain⟨o,e⟩:=h.al x z;exact⟨o,s _ _ e⟩)⟩
theorem lM {t:z4} {ms:List Addr} {H H':Hp} {x:Addr} {zs:List V} (k:Keeps x H H') (hx:x∈ms) (ex:H x=some (.lst zs)):∀{fs:List (Addr × Addr × Addr)} {fr:List Fr},x∉wU fs→Paired (ZO t ms H) fs fr→Paired (ZO t ms H') fs fr
 | _,_,_,.nil=>.nil
 | f :: fs,_,hn,.cons h r=>by
  have e:wU (f :: fs)=[f.2.1,f.2.2] ++ wU fs:=by simp [wU]
  rw[e] at hn
  refine .cons (h.keep k hx ex (λz=>hn (by rw[←z];simp)) (λz=>hn (by rw[←z];simp))) (lM k hx ex (λz=>hn (LP _ z)) r)
theorem xJ (f:Addr × Addr × Addr) (fs:List (Addr × Addr × Addr)):wU (f :: fs)=f.2.1 :: f.2.2 :: wU fs:=by simp [wU]
theorem lF.push {t:z4} {ms:List Addr} {H H':Hp} {l tp a b:Addr} {fs:List (Addr × Addr × Addr)} {fr:List Fr} {n:Str} {rs:List Str} (h:lF t ms H l fs fr) (ha:a∉l :: wU fs) (hb:b∉l :: wU fs) (hab:a≠b) (ham:a∈ms) (hbm:b∈ms) (et:H tp=some (.tup [.str n,.ref a,.ref b])) (ea:H a=some (.lst (rs.map V.str))) (eb:H b=some (.lst []))
  (k:Keeps l H H') (el:H' l=some (.lst (fs.reverse.map (λf=>V.ref f.1) ++ [.ref tp]))):lF t ms H' l ((tp,a,b) :: fs) ((n,rs,[]) :: fr):=by
 have hln:l∉wU fs:=(Sq.mp h.nd).1
 refine⟨?_,h.lm,?_,.cons ?_ (lM k h.lm h.el hln h.at_),eS h.al k ⟨_,el⟩⟩
 ·rw[el,S8,LY];rfl
 ·rw[xJ]
  have n0:=(Sq.mp h.nd).2
  simp only[La,not_or] at ha hb
  simp only[Sq,La,not_or]
  exact⟨⟨λz=>ha.1 z.symm,λz=>hb.1 z.symm,hln⟩,⟨hab,ha.2⟩,hb.2,n0⟩
 ·simp only[La,not_or] at ha hb
  exact⟨k.look et (fM et h.el (by intro z;cases z)),ham,hbm,k.look ea ha.1,[],k.look eb hb.1,by unfold qw;rfl⟩
theorem lF.row {t:z4} {ms:List Addr} {H H':Hp} {l:Addr} {f:Addr × Addr × Addr} {fs:List (Addr × Addr × Addr)} {n:Str} {rs:List Str} {rows:List Rw} {fr:List Fr} {r:Rw} {y:V} {ys:List V} (h:lF t ms H l (f :: fs) ((n,rs,rows) :: fr)) (hy:jU t ms H r y) (eb:H f.2.2=some (.lst ys))
  (k:Keeps f.2.2 H H') (e:H' f.2.2=some (.lst (ys ++ [y]))):lF t ms H' l (f :: fs) ((n,rs,rows ++ [r]) :: fr):=by
 have nd:=h.nd
 rw[xJ] at nd
 simp only[Sq,La,not_or] at nd
 match h.at_ with
 | .cons hf hr=>
  obtain⟨h1,h2,h3,h4,ys',h5,h6⟩:=hf
  rw[eb] at h5
  cases h5
  have fm:Fm ms H H':=λb o hb e=>k.look e (λz=>hb (by rw[z];exact h3))
  refine⟨k.look h.el nd.1.2.1,h.lm,h.nd,.cons ⟨k.look h1 (fM h1 eb (by intro z;cases z)),h2,h3,k.look h4 nd.2.1.1,_,e,?_⟩ (lM k h3 eb nd.2.2.1 hr),eS h.al k ⟨_,e⟩⟩
  exact qw.snoc (hy.move fm λb hb=>.inl hb) (h6.move fm λb hb=>.inl hb)
theorem lF.pop {t:z4} {ms:List Addr} {H H':Hp} {l:Addr} {f:Addr × Addr × Addr} {fs:List (Addr × Addr × Addr)} {g:Fr} {fr:List Fr} (h:lF t ms H l (f :: fs) (g :: fr)) (k:Keeps l H H') (el:H' l=some (.lst (fs.reverse.map λf=>V.ref f.1))):lF t ms H' l fs fr∧ZO t ms H' f g:=by
 have nd:=h.nd
 rw[xJ] at nd
 simp only[Sq,La,not_or] at nd
 match h.at_ with
 | .cons hf hr=>exact⟨⟨el,h.lm,Sq.mpr ⟨nd.1.2.2,nd.2.2.2⟩,lM k h.lm h.el nd.1.2.2 hr,eS h.al k ⟨_,el⟩⟩,hf.keep k h.lm h.el (λz=>nd.1.1 z.symm) (λz=>nd.1.2.1 z.symm)⟩
theorem lF.has {t:z4} {ms:List Addr} {H:Hp} {l:Addr} {fs:List (Addr × Addr × Addr)} {fr:List Fr} (h:lF t ms H l fs fr):∀x∈l :: wU fs,∃o,H x=some o:=by
 have key:∀{fs:List (Addr × Addr × Addr)} {fr:List Fr},Paired (ZO t ms H) fs fr→∀x∈wU fs,∃o,H x=some o:=λ{fs fr} q=>by
  induction q with
  | nil=>intro x hx;cases hx
  | cons h _ ih=>
   intro x hx
   rw[xJ] at hx
   obtain⟨_,_,_,h4,ys,h5,_⟩:=h
   (rcases La.mp hx with rfl | hx)
   ·exact⟨_,h4⟩
   (rcases La.mp hx with rfl | hx)
   ·exact⟨_,h5⟩
   ·exact ih x hx
 intro x hx
 (rcases La.mp hx with rfl | hx)
 ·exact⟨_,h.el⟩
 ·exact key h.at_ x hx
theorem lF.new {t:z4} {ms:List Addr} {H:Hp} {l c:Addr} {fs:List (Addr × Addr × Addr)} {fr:List Fr} (h:lF t ms H l fs fr) (hc:H c=none):c∉l :: wU fs:=λz=>by
 obtain⟨o,e⟩:=h.has c z
 rw[hc] at e
 cases e
structure D1 (evs:List Ew):Prop where
 dp:af 0 evs=some 0
 nd:(jV evs).Nodup
noncomputable def pY:List Ew→List Fr × List Str→Option (List Fr × List Str)
 | [],s=>some s
 | e :: r,s=>(e.take s.1 s.2).bind (pY r)
theorem nM:∀(a b:List Ew) (s:List Fr × List Str),pY (a ++ b) s=(pY a s).bind (pY b)
 | [],b,s=>rfl
 | e :: r,b,s=>by
  rw[SA,pY,pY]
  cases e.take s.1 s.2 with
  | none=>rfl
  | some q=>exact nM r b q
theorem Zd:∀{evs:List Ew} {d d':Nat} {fr:List Fr} {ls:List Str},af d evs=some d'→fr.length=d + 1→d≤6→(ls ++ jV evs).Nodup→∃fr',pY evs (fr,ls)=some (fr',ls ++ jV evs)∧fr'.length=d' + 1
 | [],d,d',fr,ls,h,hf,_,_=>by cases h;exact⟨fr,by simp [pY,jV],hf⟩
 | e :: r,d,d',fr,ls,h,hf,h6,hn=>by
  rw[af] at h
  cases hd:dp d e with
  | none=>(rw[hd] at h;cases h)
  | some d1=>
   rw[hd,LX] at h
   have el:jV (e :: r)=yX e ++ jV r:=by simp [jV]
   rw[el] at hn ⊢
   have hnl:∀x∈yX e,x∉ls:=λx hx q=>(SG.mp hn).2.2 x q x (Ss _ hx) rfl
   obtain⟨fr1,e1,l1,h61⟩:=Ku hd hf h6 hnl
   rw[←SY] at hn ⊢
   obtain⟨fr',z,zl⟩:=Zd h l1 h61 hn
   exact⟨fr',by rw[pY];dsimp only;rw[e1];exact z,zl⟩
noncomputable def dN:List Fr:=[("whole",[],[])]
theorem He {evs:List Ew} (he:D1 evs) (i:Nat):∃fr ls,pY (evs.take i) (dN,[])=some (fr,ls):=by
 obtain⟨fr,e,_⟩:=Zd (fr:=dN) (ls:=[]) he.dp rfl (by decide) (by simpa using he.nd)
 rw[←TV i evs,nM] at e
 cases q:pY (evs.take i) (dN,[]) with
 | none=>(rw[q] at e;cases e)
 | some s=>exact⟨s.1,s.2,rfl⟩
theorem Vi {evs:List Ew} (he:D1 evs) {i:Nat} {e:Ew} (hi:evs[i]?=some e) {fr:List Fr} {ls:List Str} (h:pY (evs.take i) (dN,[])=some (fr,ls)):∃fr' ls',e.take fr ls=some (fr',ls')∧pY (evs.take (i + 1)) (dN,[])=some (fr',ls'):=by
 obtain⟨fr',ls',e1⟩:=He he (i + 1)
 have e2:=e1
 rw[take_snoc hi,nM,h] at e2
 refine⟨fr',ls',?_,e1⟩
 have e3:(e.take fr ls).bind (pY [])=some (fr',ls'):=e2
 cases q:e.take fr ls with
 | none=>rw[q] at e3;cases e3
 | some s=>rw[q] at e3;exact e3
theorem YZ {evs:List Ew} (he:D1 evs) {fr:List Fr} {ls:List Str} (h:pY evs (dN,[])=some (fr,ls)):fr.length=1:=by
 obtain⟨fr',e,l⟩:=Zd (fr:=dN) (ls:=[]) he.dp rfl (by decide) (by simpa using he.nd)
 rw[h] at e
 cases e
 exact l
theorem Qx (n:Str) (rs:List Str) (rows:List Rw) (fr:List Fr):(zE rows).length≤(xQ ((n,rs,rows) :: fr)).length:=by
 show _≤((if fr=[] then [] else xQ fr ++ [Ew.pt n rs]) ++ zE rows).length
 rw[Li]
 omega
theorem Fi (n:Str) (rs:List Str):vX ((Ew.pt n rs).ws.map V.str) 1=some (.str n):=by
 cases rs with
 | nil=>rfl
 | cons x rs=>exact kF (j:=1) rfl
def DK (t:z4):Sp:=λvs H Q _=>∃(p le:Addr) (c:Int) (ps as:List Str) (zb:List (Str × Str)) (ws:List V) (evs:List Ew),vs=[.ref p,.ref le]∧mf H p c ps as zb∧H le=some (.lst ws)∧Paired (fc H) ws evs∧(∀e∈evs,e.ok)∧D1 evs∧evs.length≤42∧
 ∀q rows H',zf H H'→zE rows=evs→vo rows→vG rows≤6→vp t H' q ps as zb (.pt "whole" [] rows)→Q (.ref q) H'
seal NZ
theorem jI:zu ["_law_header_here","_law_rows_here","_law_stack","_law_row","_law_name","_law_rooms","_law_own"] ["_law_header_here","_law_rows_here"] (zy rB):=by walk_at "sc"
theorem Zk (T:Txt K mg t):ze P w K mg base zC 5 t.bT t.bP ["_law_header_here","_law_rows_here"] (DK t):=by
 have G_w_object:=@ze.mono P w K mg base _ _ 4 _ _ _ _ (QP T) (by decide)
 have M_Pact_init:=@ze.mono P w K mg base _ _ 3 _ _ _ _ (cf T) (by decide)
 have M_Part_init:=@ze.mono P w K mg base _ _ 3 _ _ _ _ (vH T) (by decide)
 refine T.fh.fn.ok jI (by walk_at "ln") ?_;walk_at "hd"
 obtain⟨p,le,c,ps,as,zb,ws,evs,rfl,hH,hL,hP,qx,he,hel,kk⟩:=h
 refine⟨_,(zq (za (i:=2) jI.nd rfl (LL rfl) (zB (zz (qq (zz zw (zz (zB zj) (zz (zB zj) zj)))) zj)) jZ)
   (zq (jy Su rfl (qp (K:=K) rfl (pv 1)) (zM (i:=3) jI.nd rfl (LL rfl))
    (zk (PS.join (zW (zd qz (zc (zv (K:=K) rfl) (pv 3) zx (λ_ _=>rfl)) zw (zQ _))
    (zk (zO (qM LD L5 L6 qj (pv 2) (zz (qq (zz (zc (zv (K:=K) rfl) (pv 3) zx (λ_ _=>rfl)) (zz (qD (qF (K:=K) rfl) (pv 3) (qQ zx) kj) (zz (zB zj) zj)))) zj)))) (zk (PS.join (zW (zd qz (zc (zv (K:=K) rfl) (pv 3) zx (λ_ _=>rfl)) zw (zQ _))
    (zq (kx (uM LD T9 Nz ny (pv 2)) (vB (K:=K) rfl rfl (qu (zM (i:=4) jI.nd rfl (LL rfl)) (qu (zM (i:=5) jI.nd rfl (LL rfl)) (qu (zM (i:=6) jI.nd rfl (LL rfl)) vP)))))
   (zk (zO (qM LD L5 L6 qj (zc (qY (K:=K) rfl) (zc (zv (K:=K) rfl) (pv 2) (cQ gD zx) (λ_ _=>rfl)) zx (λ_ _=>rfl)) (zz (qH T.pA M_Part_init hr rfl T.mU T.kf.bd .nil zJ (zz (pv 4) (zz (pv 5) (zz (pv 6) zj)))) zj))))) (zk (zO (qM LD L5 L6 qj (zc (qY (K:=K) rfl) (zc (zv (K:=K) rfl) (pv 2) (cQ gD zx) (λ_ _=>rfl)) zx (λ_ _=>rfl)) (zz (zi G_w_object hr rfl T.cE.mg T.cE.fn.kp T.cE.bd .nil zJ (zz (pv 3) zj)) zj)))))))))))
   (zk (zp (qH T.X7 M_Pact_init hr rfl T.WS T.c9.bd .nil zJ (zz (zc (qY (K:=K) rfl) (pv 0) zx (λ_ _=>rfl)) (zz (zc (qY (K:=K) rfl) (pv 0) zx (λ_ _=>rfl)) (zz (zc (qY (K:=K) rfl) (pv 0) zx (λ_ _=>rfl)) (zz (qH T.pA M_Part_init hr rfl T.mU T.kf.bd .nil zJ (zz zw (zz (zB zj) (zz (zc (qY (K:=K) rfl) (zc (zv (K:=K) rfl) (pv 2) zx (λ_ _=>rfl)) zx (λ_ _=>rfl)) zj)))) zj))))))))),?_⟩
 have hwl:ws.length=evs.length:=SW hP
 walk_at "rd"
 intro a0 H1 s1 ha0 e1
 walk_at "rd"
 intro b0 H2 s2 hb0 e2
 walk_at "rd"
 intro t0 H3 s3 ht0 e3
 walk_at "rd"
 intro l H4 s4 hl e4
 have sA:zf H H4:=((s1.trans s2).trans s3).trans s4
 have e14:=s4 _ _ (s3 _ _ (s2 _ _ e1))
 have e24:=s4 _ _ (s3 _ _ e2)
 have e34:=s4 _ _ e3
 have nab:a0≠b0:=zh e1 hb0
 have nal:a0≠l:=zh (s3 _ _ (s2 _ _ e1)) hl
 have nbl:b0≠l:=zh (s3 _ _ e2) hl
 have hSt:lF t [l,a0,b0] H4 l [(t0,a0,b0)] dN:=⟨e4,by simp,by
   simp only[wU,ES,E6,Sd,Sq,La,Sm,or_false,not_or,IU,and_true,not_false_eq_true]
   exact⟨⟨SF nal,SF nbl⟩,nab⟩,.cons ⟨e34,by simp,by simp,e14,[],e24,by unfold qw;rfl⟩ .nil,λc hc=>by
   simp only[La,Sm,or_false] at hc
   rcases hc with rfl | rfl | rfl
   ·exact⟨_,e4⟩
   ·exact⟨_,e14⟩
   ·exact⟨_,e24⟩⟩
 have hms:∀c∈l :: wU [(t0,a0,b0)],H c=none:=λc hc=>by
  simp only[wU,ES,E6,Sd,La,Sm,or_false] at hc
  rcases hc with rfl | rfl | rfl
  ·exact((s1.trans s2).trans s3).free hl
  ·exact ha0
  ·exact s1.free hb0
 clear e1 e2 e3 e4 e14 e24 e34 nab nal nbl s1 s2 s3 s4
 show zU 2 (V.ref l) [some (.ref p),some (.ref le),none,none,none,none,none] _ _
 walk_at "rd"
 have hL4:=sA _ _ hL
 try (refine⟨_,rfl,le,rfl,⟨_,zK.of hL4⟩,?_⟩)
 let Iv:xn:=λi σ H'=>(∃(ms:List Addr) (fs:List (Addr × Addr × Addr)) (fr:List Fr) (ls:List Str) (v3 v4 v5 v6:Option V),σ=[some (.ref p),some (.ref le),some (.ref l),v3,v4,v5,v6]∧zf H H'∧(∀c∈l :: wU fs,H c=none)∧lF t ms H' l fs fr∧rL fr∧xQ fr=evs.take i∧pY (evs.take i) (dN,[])=some (fr,ls))∨False
 refine iN (K:=K) (a:=le) (xs:=ws) Iv
  ?_ ?_ ?_ ?_
 ·refine .inl ⟨_,_,dN,[],none,none,none,none,rfl,sA,hms,hSt,?_,?_,rfl⟩
  ·exact⟨by rw[vG];decide,by rw[vo];exact Tz,by rw[if_pos rfl];exact⟨rfl,rfl⟩⟩
  ·show (if ([]:List Fr)=[] then [] else _) ++ zE []=_
   rw[if_pos rfl,zE]
   rfl
 ·intro i σ H' _ q
  obtain⟨_,_,_,_,_,_,_,_,_,z,_⟩:=q.resolve_right (λz=>z)
  exact zK.of (z _ _ hL)
 ·intro i y σ H5 hi q
  obtain⟨ms,fs,fr,ls,v3,v4,v5,v6,rfl,s5,hm5,h5,hfo,hff,hrn⟩:=q.resolve_right (λz=>z)
  clear q
  obtain⟨e,hei,lw,rfl,hlw⟩:=Paired.a8 hP hi
  have elw:=s5 _ _ hlw
  obtain⟨fr',ls',lD,hrn'⟩:=Vi he hei hrn
  obtain⟨hfo',hff'⟩:=eG hfo lD
  rw[hff,←take_snoc hei] at hff'
  have hfl:=hfo.len
  have hfs:fs.length=fr.length:=SW h5.at_
  have hlH:=hm5 l (by simp)
  have heok:=qx e (LC hei)
  have hend:∀{ms':List Addr} {fs':List (Addr × Addr × Addr)} {v3 v4 v5 v6:Option V} {H':Hp},zf H H'→(∀c∈l :: wU fs',H c=none)→lF t ms' H' l fs' fr'→(∃(ms:List Addr) (fs:List (Addr × Addr × Addr)) (fr:List Fr) (ls:List Str) (w3 w4 w5 w6:Option V),[some (V.ref p),some (V.ref le),some (V.ref l),v3,v4,v5,v6]=[some (.ref p),some (.ref le),some (.ref l),w3,w4,w5,w6]∧zf H H'∧(∀c∈l :: wU fs,H c=none)∧lF t ms H' l fs fr∧rL fr∧xQ fr=evs.take (i + 1)∧pY (evs.take (i + 1)) (dN,[])=some (fr,ls))∨False:=λs hm hs=>.inl ⟨_,_,fr',ls',_,_,_,_,rfl,s,hm,hs,hfo',hff',hrn'⟩
  refine⟨_,?_,λ_ _ z=>z⟩
  refine⟨_,rfl,lw,_,_,_,rfl,rfl,zK.of elw,e.Mx,?_⟩
  walk_at "rd"
  walk_at "x3"
  ·have hw:e.w0 = "part":=V.str.inj (zzB h1)
   cases e with
   | pt n rs=>
    rw[Ew.take] at lD
    split at lD
    ·cases lD
    cases lD
    refine⟨_,rfl,.inl ⟨rfl,_,zK.of h5.el⟩,?_⟩
    refine⟨_,rfl,lw,_,_,_,rfl,rfl,zK.of elw,Fi n rs,?_⟩
    walk_at "rd"
    intro a6 H6 s6 ha6 e6
    rw[J0] at e6
    walk_at "rd"
    intro b7 H7 s7 hb7 e7
    walk_at "rd"
    intro t8 H8 s8 ht8 e8
    have h8:lF t (b7 :: a6 :: ms) H8 l fs fr:=((h5.add s6 ha6 e6).add s7 hb7 e7).same s8
    refine⟨l,_,_,rfl,rfl,h8.el,zg (by rw[Ln,Nd];omega),?_⟩
    intro H9 k9 e9
    refine hend (k9.put (((s5.trans s6).trans s7).trans s8) hlH) (λc hc=>?_) (h8.push (h5.new ha6) ((h5.same s6).new hb7) (zh e6 hb7) (by simp) (by simp) e8 (s8 _ _ (s7 _ _ e6)) (s8 _ _ e7) k9 e9)
    rw[xJ] at hc
    (rcases La.mp hc with rfl | hc)
    ·exact hlH
    (rcases La.mp hc with rfl | hc)
    ·exact s5.free ha6
    (rcases La.mp hc with rfl | hc)
    ·exact(s5.trans s6).free hb7
    ·exact hm5 c (LK _ hc)
   | mu l w a n r=>exact absurd hw (Ew.eM heok rfl).2.1
   | my l w a=>exact absurd hw (Ew.eM heok rfl).2.1
   | bn l w a r=>exact absurd hw (Ew.eM heok rfl).2.1
   | pw l w a r=>exact absurd hw (Ew.eM heok rfl).2.1
   | lt a b=>exact absurd hw λz=>i4.1 z.symm
   | dn=>exact absurd hw i4.2.2
  ·have hw1:e.w0≠"part":=λz=>h1 (zzP (congrArg V.str z))
   refine⟨_,?_,λ_ _ z=>z⟩
   refine⟨_,rfl,lw,_,_,_,rfl,rfl,zK.of elw,e.Mx,?_⟩
   walk_at "rd"
   refine zD (λh2=>?_) (λh2=>?_)
   ·have hw:e.w0 = "done":=V.str.inj (zzB h2)
    cases e with
    | dn=>
     obtain⟨n1,rs1,rows1,n2,rs2,rows2,fr2,hfr⟩:∃n1 rs1 rows1 n2 rs2 rows2 fr2,fr=(n1,rs1,rows1) :: (n2,rs2,rows2) :: fr2:=by
      match fr,lD with
      | (a1,a2,a3) :: (b1,b2,b3) :: r,_=>exact⟨a1,a2,a3,b1,b2,b3,r,rfl⟩
      | [_],h=>cases h
      | [],h=>cases h
     subst hfr
     cases lD
     obtain⟨f,f',fs2,rfl⟩:∃f f' fs2,fs=f :: f' :: fs2:=by
      match fs,h5.at_ with
      | f :: f' :: r,_=>exact⟨f,f',r,rfl⟩
     have h5l:=h5.el
     rw[S8,LY] at h5l
     have nd:=h5.nd
     rw[xJ,xJ] at nd
     simp only[Sq,La,not_or] at nd
     refine⟨_,rfl,.inl ⟨rfl,_,zK.of h5l⟩,l,_,V.ref f.1,rfl,rfl,h5l,by simp,?_⟩
     intro H6 k6 e6
     have e6':H6 l=some (.lst ((f' :: fs2).reverse.map λf=>V.ref f.1)):=by rw[e6];simp
     obtain⟨h6,hf6⟩:=h5.pop k6 e6'
     obtain⟨f1,f2,f3,f4,ys,f5,f6⟩:=hf6
     obtain⟨u1,u2,u3,u4,ys2,u5,u6⟩:ZO t ms H6 f' (n2,rs2,rows2):=by
      match h6.at_ with
      | .cons hf _=>exact hf
     have hyl:ys2.length≤66:=by
      have g1:=u6.len
      have g2:=pW rows2
      have g3:=Qx n2 rs2 rows2 fr2
      have g4:=congrArg Tb hff
      have g5:(xQ ((n2,rs2,rows2) :: fr2)).length≤(xQ ((n1,rs1,rows1) :: (n2,rs2,rows2) :: fr2)).length:=by
       show _≤((if ((n2,rs2,rows2) :: fr2:List Fr)=[] then [] else xQ ((n2,rs2,rows2) :: fr2) ++ [Ew.pt n1 rs1]) ++ zE rows1).length
       rw[if_neg (by simp),Li,Li]
       omega
      rw[L3] at g4
      dsimp only at g1
      omega
     have h6l:=e6'
     rw[S8,LY] at h6l
     refine⟨f.1,_,rfl,jt.of f1,rfl,_,_,rfl,_,_,rfl,_,_,rfl,rfl,?_⟩
     refine⟨_,rfl,1,rfl,l,_,_,_,rfl,rfl,zK.of h6l,sJ _ _,?_⟩
     refine⟨f'.1,_,_,_,rfl,rfl,jt.of u1,rfl,?_⟩
     refine⟨.inl ⟨rfl,_,zK.of u5⟩,?_⟩
     refine⟨_,rfl,_,rfl,_,rfl,?_⟩
     intro p dx hp hdx hne
     have sM:=jN (o:=HO.own p) (o2:=HO.ins t.zI dx []) hp hdx
     refine⟨p,dx,f.2.1,f.2.2,n1,rs1,ys,rfl,zm,sM _ _ f4,sM _ _ f5,λH7 o7 h7=>⟨rfl,?_⟩⟩
     have s67:zf H6 H7:=yO hp hdx o7
     obtain⟨dx7,a7,b7,g1,g2,g3,g4,g5⟩:=h7.back sM
     have hnm:∀{c:Addr},H6 c=none→c∉ms:=λhc z=>by
      obtain⟨o,e⟩:=h6.al _ z
      rw[hc] at e
      cases e
     have hRw:jU t ms H7 (.pt n1 rs1 rows1) (.ref p):=by
      unfold jU
      exact⟨p,dx7,a7,b7,ys,rfl,hnm hp,hnm g4,hnm g5,g1,g2,g3,f6.move (Fm.of s67) λc hc=>.inl hc⟩
     refine⟨f'.2.2,_,_,rfl,rfl,s67 _ _ u5,zg (by omega),?_⟩
     intro H8 k8 e8
     have h8:=(h6.same s67).row hRw (s67 _ _ u5) k8 e8
     exact hend (k8.put ((k6.put s5 hlH).trans s67) (hm5 _ (by simp [wU]))) (λc hc=>hm5 c (by rw[xJ];simp only[La] at hc ⊢;exact hc.elim .inl λz=>.inr (.inr (.inr z)))) h8
    | mu l w a n r=>exact absurd hw (Ew.eM heok rfl).2.2
    | my l w a=>exact absurd hw (Ew.eM heok rfl).2.2
    | bn l w a r=>exact absurd hw (Ew.eM heok rfl).2.2
    | pw l w a r=>exact absurd hw (Ew.eM heok rfl).2.2
    | lt a b=>exact absurd hw λz=>i4.2.1 z.symm
    | pt n rs=>exact absurd rfl hw1
   ·have hw2:e.w0≠"done":=λz=>h2 (zzP (congrArg V.str z))
    have hpl:Yu e=true:=by
     cases e with
     | pt n rs=>exact absurd rfl hw1
     | dn=>exact absurd rfl hw2
     | _=>rfl
    have hfr:fr'=push fr (J8 e):=by
     cases e with
     | pt n rs=>cases hpl
     | dn=>cases hpl
     | lt a b=>cases lD;rfl
     | mu l w a n r=>rw[Ew.take] at lD;split at lD<;>cases lD;rfl
     | my l w a=>rw[Ew.take] at lD;split at lD<;>cases lD;rfl
     | bn l w a r=>rw[Ew.take] at lD;split at lD<;>cases lD;rfl
     | pw l w a r=>rw[Ew.take] at lD;split at lD<;>cases lD;rfl
    obtain⟨f,fs0,n1,rs1,rows1,fr1,rfl,rfl⟩:∃f fs0 n1 rs1 rows1 fr1,fs=f :: fs0∧fr=(n1,rs1,rows1) :: fr1:=by
     match fr,fs,h5.at_,hfo with
     | (n1,rs1,rows1) :: fr1,f :: fs0,_,_=>exact⟨f,fs0,n1,rs1,rows1,fr1,rfl,rfl⟩
    have h5l:=h5.el
    rw[S8,LY] at h5l
    obtain⟨f1,f2,f3,f4,ys,f5,f6⟩:ZO t ms H5 f (n1,rs1,rows1):=by
     match h5.at_ with
     | .cons hf _=>exact hf
    have hyl:ys.length≤66:=by
     have g1:=f6.len
     have g2:=pW rows1
     have g3:=Qx n1 rs1 rows1 fr1
     have g4:=congrArg Tb hff
     rw[L3] at g4
     dsimp only at g1
     omega
    refine⟨_,rfl,1,rfl,l,_,_,_,rfl,rfl,zK.of h5l,sJ _ _,?_⟩
    refine⟨f.1,_,_,_,rfl,rfl,jt.of f1,rfl,?_⟩
    refine⟨.inl ⟨rfl,_,zK.of f5⟩,?_⟩
    refine⟨_,rfl,lw,e,rfl,elw,heok,hpl,λp6 H6 s6 hp6 hRw=>?_⟩
    have hp6m:p6∉ms:=λz=>by
     obtain⟨o,e⟩:=h5.al p6 z
     rw[hp6] at e
     cases e
    refine⟨f.2.2,_,_,rfl,rfl,s6 _ _ f5,zg (by omega),?_⟩
    intro H7 k7 e7
    refine hend (ms':=ms) (fs':=f :: fs0) (k7.put (s5.trans s6) (hm5 _ (by simp [wU]))) hm5 ?_
    rw[hfr]
    exact(h5.same s6).row (hRw ms hp6m) (s6 _ _ f5) k7 e7
 ·intro σ H5 q
  obtain⟨ms,fs,fr,ls,v3,v4,v5,v6,rfl,s5,hm5,h5,hfo,hff,hrn⟩:=q.resolve_right (λz=>z)
  clear q
  rw[hwl,SE] at hff hrn
  have hl1:=YZ he hrn
  obtain⟨f,rows,rfl,rfl⟩:∃(f:Addr × Addr × Addr) (rows:List Rw),fs=[f]∧fr=[((("whole" : Str),([]:List Str),rows):Fr)]:=by
   match fr,fs,h5.at_,hfo,hl1 with
   | [(n1,rs1,rows1)],[f],_,hfo,_=>
    have h3:=hfo.2.2
    rw[if_pos rfl] at h3
    exact⟨f,rows1,rfl,by rw[h3.1,h3.2]⟩
  have hrows:zE rows=evs:=by
   rw[←hff]
   show _=(if ([]:List Fr)=[] then [] else _) ++ zE rows
   rw[if_pos rfl]
   rfl
  have hk2:=hfo.2.1
  have hd2:vG rows≤6:=by have:=hfo.1;omega
  obtain⟨f1,f2,f3,f4,ys,f5,f6⟩:ZO t ms H5 f ("whole",[],rows):=by
   match h5.at_ with
   | .cons hf _=>exact hf
  have el:H5 l=some (.lst [V.ref f.1]):=h5.el
  obtain⟨lp,la,lr,lm,ll,vs,ep,elp,ela,elr,elm,hRm⟩:=hH.same s5
  refine⟨_,rfl,p,_,_,_,rfl,rfl,jt.of ep,rfl,?_⟩
  refine⟨_,rfl,p,_,_,_,rfl,rfl,jt.of ep,rfl,?_⟩
  refine⟨_,rfl,p,_,_,_,rfl,rfl,jt.of ep,rfl,?_⟩
  walk_at "rd"
  intro b6 H6 s6 hb6 e6
  refine⟨_,rfl,l,_,_,_,rfl,rfl,zK.of (s6 _ _ el),rfl,f.1,_,_,_,rfl,rfl,jt.of (s6 _ _ f1),rfl,?_⟩
  intro pw dx hp hdx hne
  have sM:=jN (o:=HO.own pw) (o2:=HO.ins t.zI dx []) hp hdx
  refine⟨pw,dx,b6,f.2.2,"whole",[],ys,rfl,zm,sM _ _ e6,sM _ _ (s6 _ _ f5),λH7 o7 h7=>⟨rfl,?_⟩⟩
  have s67:zf H6 H7:=yO hp hdx o7
  obtain⟨dx7,a7,b7,g1,g2,g3,g4,g5⟩:=h7.back sM
  have s57:=s6.trans s67
  have hRw:jU t [] H7 (.pt "whole" [] rows) (.ref pw):=by
   unfold jU
   exact⟨pw,dx7,a7,b7,ys,rfl,by simp,by simp,by simp,g1,g2,g3,f6.move (Fm.of s57) λc hc=>by cases hc⟩
  intro q dxq hq hdq hne2
  have mk:=jN (o:=HO.own q) (o2:=HO.ins t.jz dxq []) hq hdq
  refine⟨q,dxq,lp,la,lr,.ref pw,_,_,_,rfl,zm,mk _ _ (s57 _ _ elp),mk _ _ (s57 _ _ ela),mk _ _ (s57 _ _ elr),λH8 a' b' c' o8 k1 k2 k3 k4 n1 n2 n3=>⟨rfl,?_⟩⟩
  have s78:zf H7 H8:=λc o e=>o8 c o (zh e hq) (mk c o e)
  have s58:=s57.trans s78
  exact kk q rows H8 (s5.trans s58) hrows hk2 hd2 ⟨dxq,a',b',c',.ref pw,vs,k1,k2,k3,k4,Paired.imp' (λ_ _ z=>z.same s58) hRm,hRw.move (Fm.of s78) (λb hb=>by cases hb)⟩
end
def HN (f:Fl):Prop:=(∀x∈f.l :: f.s :: f.w :: f.a :: f.r :: f.zb,TF x=true)∧f.zb.length≤12
noncomputable def Mh (f:Fl):PyData:=.tuple [.str f.l,.str f.s,.str f.w,.str f.a,.int f.n,.str f.r,.list (f.zb.map S0),.int f.d]
theorem gZ {f:Fl} (h':HN f):SI (Mh f)=true:=by
 have h:=h'.1
 have q:=bX f.zb λx hx=>h x (by simp [hx])
 have h1:=h f.l (by simp)
 have h2:=h f.s (by simp)
 have h3:=h f.w (by simp)
 have h4:=h f.a (by simp)
 have h5:=h f.r (by simp)
 simp [Mh,SI,Oj,NM,OY,N3,q.1,q.2,h1,h2,h3,h4,h5]
theorem KG:∀xs:List Str,Np (xs.map S0) (xs.map S0)=true:=λxs=>by rw[bC];simp
theorem XC (f:Fl):N5 (Mh f) (Mh f)=true:=by
 simp [Mh,N5,Np,KG]
theorem aZ {K:Ls} {H:Hp} {f:Fl} {p a:Addr} (h1:H p=some (.tup (Gf f a))) (h2:H a=some (.lst (f.zb.map V.str))):dt K H (.ref p) (Mh f):=
 dt.tup (jt.of h1) (.cons (.str _) (.cons (.str _) (.cons (.str _) (.cons (.str _) (.cons (.int _) (.cons (.str _) (.cons (dt.lst (zK.of h2) (vj.strs _)) (.cons (.int _) .nil))))))))
def SK (s:Ow × List Str):Prop:=(∀z b,lk s.1 z=some b→zZ b=true)∧(∀x∈s.2,zZ x=true)∧s.2.length≤12
theorem W7 {x:Str} (h:zZ x=true):TF x=true:=(yI h).ok
theorem JQ:TF ("" : Str)=true∧TF ("any" : Str)=true∧∀j∈[(0:Int),1,2,3],TF (oJ j)=true:=by decide +kernel
theorem Ew.RV {e:Ew} {c:Int × Str × Str × Str × Int × Str} (ho:e.ok) (hc:e.ZL=some c):zZ c.2.1=true∧c.1∈[(0:Int),1,2,3]:=by
 cases e with
 | mu l w a n r=>cases hc;exact⟨ho.1,by simp⟩
 | my l w a=>cases hc;exact⟨ho.1,by simp⟩
 | bn l w a r=>cases hc;exact⟨ho.1,by simp⟩
 | pw l w a r=>cases hc;exact⟨ho.1,by simp⟩
 | _=>cases hc
theorem MH {kd:Str→Str} {o:Ow} {k:Int} {l u a:Str} {n:Int} {r:Str} {zb:List Str} {d:Int} {f:Fl} (h:gI kd o k l u a n r zb d=some f) (hl:zZ l=true) (hk:k∈[(0:Int),1,2,3]) (hS:SK (o,zb)):HN f:=by
 obtain⟨w,a',r',rfl,hU⟩:=ax h
 refine⟨λx hx=>?_,hS.2.2⟩
 simp only[La] at hx
 rcases hx with rfl | rfl | rfl | rfl | rfl | hx
 ·exact W7 hl
 ·exact JQ.2.2 k hk
 ·rcases hU.wu with ⟨_,rfl⟩ | ⟨_,h,_⟩
  ·exact JQ.2.1
  ·exact W7 (hS.1 _ _ h)
 ·exact W7 (hS.1 _ _ hU.la)
 ·by_cases h1:k=1
  ·rw[hU.r1 h1];exact JQ.1
  ·exact W7 (hS.1 _ _ (hU.rm h1).1)
 ·exact W7 (hS.2.1 x hx)
theorem DB {kd:Str→Str} {e:Ew} {S:List (Ow × List Str)} {q:List Fl × List (Ow × List Str)} (h:Gd kd e S=some q) (ho:e.ok) (hS:∀s∈S,SK s):(∀f∈q.1,HN f)∧∀s∈q.2,SK s:=by
 cases S with
 | nil=>cases h
 | cons or S=>
  obtain⟨o,zb⟩:=or
  have h0:=hS _ Sw
  have h1:∀s∈S,SK s:=λs hs=>hS s (LK _ hs)
  have cl:∀{c},e.ZL=some c→(∀f∈q.1,HN f)∧∀s∈q.2,SK s:=λ{c} hc=>by
   obtain⟨f,hf,rfl⟩:=Xp hc h
   obtain⟨hl,hk⟩:=Ew.RV ho hc
   exact⟨λx hx=>by rw[LW.mp hx];exact MH hf hl hk h0,hS⟩
  cases e with
  | lt a b=>
   have h':(lk o b).bind (λx=>some (([]:List Fl),(pu o a x,zb) :: S))=some q:=h
   obtain⟨x,hx,h'⟩:=LJ.mp h'
   cases h'
   refine⟨λf hf=>(by cases hf),λs hs=>?_⟩
   (rcases La.mp hs with rfl | hs)
   ·refine⟨λz y hz=>?_,h0.2⟩
    have hz':lk (pu o a x) z=some y:=hz
    rw[WC] at hz'
    split at hz'
    ·cases hz';exact h0.1 b _ hx
    ·exact h0.1 z y hz'
   ·exact h1 s hs
  | mu l w a n r=>exact cl rfl
  | my l w a=>exact cl rfl
  | bn l w a r=>exact cl rfl
  | pw l w a r=>exact cl rfl
  | pt n rs=>
   have h':(bV kd o rs zb).bind (λcv=>some (([]:List Fl),(o,cv) :: (o,zb) :: S))=some q:=h
   obtain⟨cv,hcv,h'⟩:=LJ.mp h'
   cases h'
   refine⟨λf hf=>(by cases hf),λs hs=>?_⟩
   (rcases La.mp hs with rfl | hs)
   ·refine⟨h0.1,λx hx=>?_,S1 (ay hcv) h0.2.2⟩
    obtain⟨ns,_,rfl⟩:=iL hcv
    have hx':x∈if rs=[] then zb else zb.filter λx=>decide (x∈ns):=hx
    split at hx'
    ·exact h0.2.1 x hx'
    ·exact h0.2.1 x (N2.mp hx').1
   ·exact hS s hs
  | dn=>
   have h':(if S=[] then none else some (([]:List Fl),S))=some q:=h
   split at h'
   ·cases h'
   ·cases h'
    exact⟨λf hf=>(by cases hf),h1⟩
theorem YQ {kd:Str→Str}:∀{evs:List Ew} {S:List (Ow × List Str)} {q:List Fl × List (Ow × List Str)},xH kd evs S=some q→(∀e∈evs,e.ok)→(∀s∈S,SK s)→∀f∈q.1,HN f
 | [],S,q,h,_,_=>by cases h;intro f hf;cases hf
 | e :: es,S,q,h,ho,hS=>by
  rw[xH] at h
  obtain⟨p,hp,h⟩:=LJ.mp h
  obtain⟨z,hz,h⟩:=LJ.mp h
  cases h
  have h1:=DB hp (ho e Sw) hS
  have h2:=YQ hz (λx hx=>ho x (LK _ hx)) h1.2
  intro f hf
  rcases LU.mp hf with hf | hf
  ·exact h1.1 f hf
  ·exact h2 f hf
section
variable {P:LH} {w:Sz} {K:Ls} {mg:Str→Option Lo} {base:Heap} {t:z4}
def BC:Sp:=λvs H Q _=>∃(n:Int),vs=[.int n]∧Q (.bl true) H
def Bo:Sp:=λvs H Q _=>∃(p q a b:Addr) (f:Fl),vs=[.ref p,.ref q]∧H p=some (.tup (Gf f a))∧H a=some (.lst (f.zb.map V.str))∧H q=some (.tup (Gf f b))∧H b=some (.lst (f.zb.map V.str))∧HN f∧∀H',zf H H'→Q (.bl true) H'
def BB:Sp:=λvs H Q _=>∃(l m:Addr) (rs qs:List (Addr × Addr)) (fls:List Fl),vs=[.ref l,.ref m]∧H l=some (.lst (rs.map λr:Addr × Addr=>.ref r.1))∧H m=some (.lst (qs.map λr:Addr × Addr=>.ref r.1))∧jh H rs fls∧jh H qs fls∧(∀f∈fls,HN f)∧fls.length≤160∧∀H',zf H H'→Q (.bl true) H'
theorem Xz:zu ["_law_found"] ["_law_found"] (zy eX):=by walk_at "sc"
theorem JL (T:Txt K mg t):ze P w K mg base zC 1 t.uc t.uy ["_law_found"] BC:=by
 refine T.gL.fn.ok Xz (by walk_at "ln") ?_;walk_at "hd"
 obtain⟨n,rfl,k⟩:=h
 refine⟨_,(zk (zp (Zy (zX (qL (K:=K) rfl) rfl T.qU SV (zz (pv 0) (zz (gH rfl T.Xe NG (v:=.ty "int") rfl) zj))) (nP (Ff (zX (qL (K:=K) rfl) rfl T.qU SV (zz (pv 0) (zz (gH rfl T.B5 A7 (v:=.ty "bool") rfl) zj)))))))),?_⟩
 refine⟨_,rfl,_,_,.type "int",true,rfl,.inl ⟨_,rfl⟩,xm.int _,xE _ _,true,rfl,?_⟩
 refine⟨_,rfl,_,_,.type "int",false,rfl,.inl ⟨_,rfl⟩,xm.int _,T.Qs,false,rfl,?_⟩
 exact k
theorem oZ:zu ["_law_found","_law_due","_law_k"] ["_law_found","_law_due"] (zy en):=by walk_at "sc"
theorem JM (T:Txt K mg t):ze P w K mg base zC 2 t.uh t.uj ["_law_found","_law_due"] Bo:=by
 have G_w_whole:=@ze.mono P w K mg base _ _ 1 _ _ _ _ (JL T) (by decide)
 refine T.sj.fn.ok oZ (by walk_at "ln") ?_;walk_at "hd"
 obtain⟨p,q,a,b,f,rfl,e1,e2,e3,e4,hK,k⟩:=h
 refine⟨_,(zq (zW (PW.pt (vQ (jg (qt (zX (qL (K:=K) rfl) rfl T.qU SV (zz (pv 0) (zz (gH rfl T.Xa Iq (v:=.ty "tuple") rfl) zj))))) (kW (zd cn (zX (zG (K:=K) rfl) rfl T.qJ L4 (zz (pv 0) zj)) zx (zQ _)))))
    (zk (zp xK)) zr)
   (zq (jy Su rfl (Hf (K:=K) rfl (qq (zz zx (zz zx (zz zx (zz zx (zz zx zj))))))) (zM (i:=2) oZ.nd rfl (LL rfl))
    (zk (zW (jg (qt (zX (qL (K:=K) rfl) rfl T.qU SV (zz (zc (qY (K:=K) rfl) (pv 0) (pv 2) (λ_ _=>rfl)) (zz (gH rfl T.Bz IB (v:=.ty "str") rfl) zj)))))
    (zk (zp xK)) zr)))
   (zq (zW (PW.pt (vQ (jg (qt (zi G_w_whole hr rfl T.gL.mg T.gL.fn.kp T.gL.bd .nil zJ (zz (zc (qY (K:=K) rfl) (pv 0) zx (λ_ _=>rfl)) zj)))) (vQ (jg (qt (zi G_w_whole hr rfl T.gL.mg T.gL.fn.kp T.gL.bd .nil zJ (zz (zc (qY (K:=K) rfl) (pv 0) zx (λ_ _=>rfl)) zj)))) (kW (jg (qt (zX (qL (K:=K) rfl) rfl T.qU SV (zz (zc (qY (K:=K) rfl) (pv 0) zx (λ_ _=>rfl)) (zz (gH rfl T.km So (v:=.ty "list") rfl) zj)))))))))
    (zk (zp xK)) zr)
   (zk (zp (yg (p5 (K:=K) rfl hr.units) (pv 0) (pv 1) (zQ _))))))),?_⟩
 refine⟨_,rfl,_,_,.type "tuple",true,rfl,.inl ⟨_,rfl⟩,xm.tup e1,xE _ _,true,rfl,?_⟩
 refine⟨_,rfl,p,_,rfl,.inr (jt.of e1),rfl,false,rfl,?_⟩
 walk_at "rd"
 intro tq H1 s1 htq e5
 have f1:=s1 _ _ e1
 have f2:=s1 _ _ e2
 have f3:=s1 _ _ e3
 have f4:=s1 _ _ e4
 refine⟨tq,rfl,⟨_,jt.of e5⟩,?_⟩
 let Iv:xn:=λi σ H'=>(∃v2:Option V,σ=[some (.ref p),some (.ref q),v2]∧H'=H1)∨False
 refine GU (K:=K) (a:=tq) (xs:=[.int 0,.int 1,.int 2,.int 3,.int 5]) Iv (.inl ⟨none,rfl,rfl⟩) (λi σ H' _ z=>(by obtain⟨_,_,rfl⟩:=z.resolve_right (λz=>z);exact jt.of e5)) ?_ ?_
 ·intro i y σ H2 hi z
  obtain⟨v2,rfl,rfl⟩:=z.resolve_right λz=>z
  clear z
  (have hm:=LC hi)
  obtain⟨j,x,rfl,hj⟩:∃(j:Int) (x:Str),y=.int j∧vX (Gf f a) j=some (.str x):=by
   (simp only[La,Sm,or_false] at hm)
   rcases hm with rfl | rfl | rfl | rfl | rfl
   ·exact⟨_,_,rfl,rfl⟩
   ·exact⟨_,_,rfl,rfl⟩
   ·exact⟨_,_,rfl,rfl⟩
   ·exact⟨_,_,rfl,rfl⟩
   ·exact⟨_,_,rfl,rfl⟩
  refine⟨_,rfl,_,rfl,p,_,_,_,rfl,rfl,jt.of f1,hj,_,_,.type "str",true,rfl,.inl ⟨_,rfl⟩,xm.str _,xE _ _,true,rfl,?_⟩
  exact .inl ⟨_,rfl,rfl⟩
 ·intro σ H2 z
  obtain⟨v2,rfl,rfl⟩:=z.resolve_right λz=>z
  clear z
  refine⟨_,rfl,p,_,_,_,rfl,rfl,jt.of f1,rfl,_,rfl,true,rfl,?_⟩
  refine⟨_,rfl,p,_,_,_,rfl,rfl,jt.of f1,rfl,_,rfl,true,rfl,?_⟩
  refine⟨_,rfl,p,_,_,_,rfl,rfl,jt.of f1,rfl,_,_,.type "list",true,rfl,.inl ⟨_,rfl⟩,xm.lst f2,xE _ _,true,rfl,?_⟩
  refine⟨_,rfl,_,rfl,_,_,aZ f1 f2,aZ f3 f4,gZ hK,gZ hK,?_⟩
  rw[XC]
  exact k _ s1
theorem oQ:zu ["_law_found","_law_due","_law_k"] ["_law_found","_law_due"] (zy eQ):=by walk_at "sc"
theorem JR (T:Txt K mg t):ze P w K mg base zC 3 t.ud t.uw ["_law_found","_law_due"] BB:=by
 have G_w_alike:=@ze.mono P w K mg base _ _ 2 _ _ _ _ (JM T) (by decide)
 refine T.gU.fn.ok oQ (by walk_at "ln") ?_;walk_at "hd"
 obtain⟨l,m,rs,qs,fls,rfl,e1,e2,h1,h2,hK,hfl,k⟩:=h
 refine⟨_,(zq (zW (PW.pt (vQ (jg (qt (zX (qL (K:=K) rfl) rfl T.qU SV (zz (pv 0) (zz (gH rfl T.km So (v:=.ty "list") rfl) zj))))) (kW (zd cn (zX (zG (K:=K) rfl) rfl T.qJ L4 (zz (pv 0) zj)) (zX (zG (K:=K) rfl) rfl T.qJ L4 (zz (pv 1) zj)) (zQ _)))))
    (zk (zp xK)) zr)
   (zq (jy Su rfl (xV rfl T.vK (zz (zX (zG (K:=K) rfl) rfl T.qJ L4 (zz (pv 1) zj)) zj)) (zM (i:=2) oQ.nd rfl (LL rfl))
    (zk (zW (jg (qt (zi G_w_alike hr rfl T.sj.mg T.sj.fn.kp T.sj.bd .nil zJ (zz (zc (zv (K:=K) rfl) (pv 0) (pv 2) (λ_ _=>rfl)) (zz (zc (zv (K:=K) rfl) (pv 1) (pv 2) (λ_ _=>rfl)) zj)))))
    (zk (zp xK)) zr)))
   (zk (zp xK)))),?_⟩
 refine⟨_,rfl,_,_,.type "list",true,rfl,.inl ⟨_,rfl⟩,xm.lst e1,xE _ _,true,rfl,?_⟩
 refine⟨_,rfl,l,_,rfl,.inl (zK.of e1),?_⟩
 refine⟨_,rfl,m,_,rfl,.inl (zK.of e2),?_⟩
 have n1:rs.length=fls.length:=SW h1
 have n2:qs.length=fls.length:=SW h2
 refine⟨rfl,_,rfl,?_⟩
 rw[Ln,Ln,n1,n2]
 refine zD (λh=>?_) (λ_=>?_)
 ·simp at h
 refine⟨_,rfl,m,_,rfl,.inl (zK.of e2),?_⟩
 rw[Ln,n2]
 refine⟨_,rfl,by omega,by omega,?_⟩
 let Iv:xn:=λi σ H'=>(∃v2:Option V,σ=[some (.ref l),some (.ref m),v2]∧zf H H')∨False
 refine ki (lo:=0) (n:=fls.length) Iv (.inl ⟨none,rfl,zf.refl _⟩) ?_ ?_
 ·intro i σ H2 hi z
  obtain⟨v2,rfl,s2⟩:=z.resolve_right λz=>z
  clear z
  rw[NS]
  obtain⟨r,hr⟩:∃r,rs[i]?=some r:=⟨_,Le (by omega)⟩
  obtain⟨r2,hr2⟩:∃r,qs[i]?=some r:=⟨_,Le (by omega)⟩
  obtain⟨f,hf,g1,g2⟩:=Paired.a8 h1 hr
  obtain⟨f',hf',g3,g4⟩:=Paired.a8 h2 hr2
  rw[hf] at hf'
  cases hf'
  have a1:vX (rs.map λr:Addr × Addr=>V.ref r.1) (i:Int)=some (.ref r.1):=kF (by rw[LV,hr];rfl)
  have a2:vX (qs.map λr:Addr × Addr=>V.ref r.1) (i:Int)=some (.ref r2.1):=kF (by rw[LV,hr2];rfl)
  refine⟨_,rfl,_,rfl,l,_,_,_,rfl,rfl,zK.of (s2 _ _ e1),a1,?_⟩
  refine⟨_,rfl,_,rfl,m,_,_,_,rfl,rfl,zK.of (s2 _ _ e2),a2,?_⟩
  refine⟨r.1,r2.1,r.2,r2.2,f,rfl,s2 _ _ g1,s2 _ _ g2,s2 _ _ g3,s2 _ _ g4,hK f (LC hf),λH3 s3=>?_⟩
  refine⟨true,rfl,?_⟩
  exact .inl ⟨_,rfl,s2.trans s3⟩
 ·intro σ H2 z
  obtain⟨v2,rfl,s2⟩:=z.resolve_right λz=>z
  exact k _ s2
theorem KD {kd:Str→Str} {o:Ow} {zb:List Str} {rows:List Rw} {evs:List Ew} {p:List Fl × List (Ow × List Str)} (hk:vo rows) (hf:zE rows=evs) (h:xH kd evs [(o,zb)]=some p):∃o2,fi kd rows o zb 0=some (p.1,o2):=by
 subst hf
 rw[Zc kd rows hk o zb []] at h
 obtain⟨q,hq,h⟩:=LJ.mp h
 cases h
 exact⟨q.2,hq⟩
theorem QL {kd:Str→Str}:∀{evs:List Ew} {S:List (Ow × List Str)} {q:List Fl × List (Ow × List Str)},xH kd evs S=some q→q.1.length≤evs.length
 | [],S,q,h=>by cases h;exact LF _
 | e :: es,S,q,h=>by
  rw[xH] at h
  obtain⟨p,hp,h⟩:=LJ.mp h
  obtain⟨z,hz,h⟩:=LJ.mp h
  cases h
  have h2:=QL hz
  have h1:p.1.length≤1:=by
   cases S with
   | nil=>cases hp
   | cons or S=>
    obtain⟨o,zb⟩:=or
    have cl:∀{c},e.ZL=some c→p.1.length≤1:=λ{c} hc=>by
     obtain⟨f,hf,rfl⟩:=Xp hc hp
     exact LF _
    cases e with
    | lt a b=>
     have h':(lk o b).bind (λx=>some (([]:List Fl),(pu o a x,zb) :: S))=some p:=hp
     obtain⟨x,hx,h'⟩:=LJ.mp h'
     cases h'
     exact Sy _
    | mu l w a n r=>exact cl rfl
    | my l w a=>exact cl rfl
    | bn l w a r=>exact cl rfl
    | pw l w a r=>exact cl rfl
    | pt n rs=>
     have h':(bV kd o rs zb).bind (λcv=>some (([]:List Fl),(o,cv) :: (o,zb) :: S))=some p:=hp
     obtain⟨cv,hcv,h'⟩:=LJ.mp h'
     cases h'
     exact Sy _
    | dn=>
     have h':(if S=[] then none else some (([]:List Fl),S))=some p:=hp
     split at h'
     ·cases h'
     ·cases h'
      exact Sy _
  rw[Li,LQ]
  omega
theorem RL {c:Int} {ps as:List Str} {zb:List (Str × Str)} (h:Mz c ps as zb):∀s∈[(wD (j5 ps as zb),zb.map (·.2))],SK s:=λs hs=>by
 rw[LW.mp hs]
 refine⟨λz b hz=>((WK h).bs z b hz).2,λx hx=>?_,by show (zb.map (·.2)).length≤12;rw[Ln];exact h.hd.r2⟩
 have hx':x∈zb.map (·.2):=hx
 exact si c _ (Tp (h.wd x (by simp only[LU];exact .inr hx')))
structure V4 (B H:Hp) (lt:Addr) (rs:List (Addr × Addr)) (fls:List Fl) (i:Nat):Prop where
 bs:zf B H
 el:H lt=some (.lst (rs.map λr:Addr × Addr=>.ref r.1))
 tp:∀(j:Nat) (r:Addr × Addr) (f:Fl),rs[j]?=some r→fls[j]?=some f→H r.1=some (.tup (Gf f r.2))
 ls:∀(j:Nat) (r:Addr × Addr) (f:Fl),rs[j]?=some r→fls[j]?=some f→i≤j→H r.2=some (.lst (f.zb.map V.str))
theorem V4.next {B H H':Hp} {lt:Addr} {rs:List (Addr × Addr)} {fls:List Fl} {i:Nat} {r:Addr × Addr} {xs:List V} (h:V4 B H lt rs fls i) (hr:rs[i]?=some r) (hl:H r.2=some (.lst xs)) (k:Keeps r.2 H H') (hb:B r.2=none) (hn:lt≠r.2) (nd:(rs.map (·.2)).Nodup):V4 B H' lt rs fls (i + 1):=by
 refine⟨k.put h.bs hb,k.look h.el hn,λj q f hq hf=>?_,λj q f hq hf hj=>?_⟩
 ·have:=h.tp j q f hq hf
  exact k.look this (λz=>by rw[z,hl] at this;cases this)
 ·refine k.look (h.ls j q f hq hf (by omega)) λz=>?_
  have a1:(rs.map (·.2))[j]?=some q.2:=by rw[LV,hq];rfl
  have a2:(rs.map (·.2))[i]?=some r.2:=by rw[LV,hr];rfl
  have hj1:j < (rs.map (·.2)).length:=(LN.mp a1).1
  have:=(List.getElem?_inj hj1 nd).mp (a1.trans (by rw[z,a2]))
  omega
def YN (K:Ls):Sp:=λvs H Q _=>∃(x:Addr) (ms:List Int),vs=[.ref x]∧zK K H x (ms.map V.int)∧ms.length≤63∧∀H2,Q (.bl true) H2
theorem Yy (T:Txt K mg t):ze P w K mg base zC 9 t.dU t.dM ["text"] (eY t):=pI (Vh T) λ_ _ _ _ h=>FG h
seal NZ eY
theorem vg:zu ["_law_script","_law_header_here","_law_rows_here","_law_due","_law_pact","_law_told_here","_law_k"] ["_law_script"] (zy Ky):=by walk_at "sc"
set_option maxHeartbeats 2000000 in
theorem Yh (T:Txt K mg t):ze P w K mg base zC 17 t.ao t.ag ["_law_script"] (YN K):=by
 have G_w_by_hand:=@ze.mono P w K mg base _ _ 16 _ _ _ _ (Zk T) (by decide)
 have G_w_cell:=@ze.mono P w K mg base _ _ 16 _ _ _ _ (uH T) (by decide)
 have G_w_flat:=@ze.mono P w K mg base _ _ 16 _ _ _ _ (Vb T) (by decide)
 have G_w_header:=@ze.mono P w K mg base _ _ 16 _ _ _ _ (QB T) (by decide)
 have G_w_right:=@ze.mono P w K mg base _ _ 16 _ _ _ _ (JR T) (by decide)
 have G_w_rows:=@ze.mono P w K mg base _ _ 16 _ _ _ _ (Vf T) (by decide)
 have G_w_text:=@ze.mono P w K mg base _ _ 16 _ _ _ _ (Vm T) (by decide)
 have G_v_flat:=@ze.mono P w K mg base _ _ 16 _ _ _ _ (Vg T) (by decide)
 have G_v_read:=@ze.mono P w K mg base _ _ 16 _ _ _ _ (Yy T) (by decide)
 refine T.BO.fn.ok vg (by walk_at "ln") ?_;walk_at "hd"
 obtain⟨a,ns,rfl,hS,hl,k⟩:=h
 refine⟨_,(zq (za (i:=1) vg.nd rfl (LL rfl) (zi G_w_header hr rfl T.cI.mg T.cI.fn.kp T.cI.bd .nil zJ (zz (pv 0) zj)))
   (zq (za (i:=2) vg.nd rfl (LL rfl) (zi G_w_rows hr rfl T.ZD.mg T.ZD.fn.kp T.ZD.bd .nil zJ (zz (pv 0) (zz (pv 1) (zz zx zj)))))
   (zq (za (i:=3) vg.nd rfl (LL rfl) (zi G_w_flat hr rfl T.ZM.mg T.ZM.fn.kp T.ZM.bd .nil zJ (zz (pv 1) (zz (pv 2) zj))))
   (zq (za (i:=4) vg.nd rfl (LL rfl) (zi G_v_read hr rfl T.ZF.mg T.ZF.fn.kp T.ZF.bd .nil zJ (zz (zi G_w_text hr rfl T.w_text.mg T.w_text.fn.kp T.w_text.bd .nil zJ (zz (pv 1) (zz (pv 2) zj))) zj)))
   (zq (PS.join (zW (zd qz (zo z6 (zi G_w_cell hr rfl T.jl.mg T.jl.fn.kp T.jl.bd .nil zJ (zz (pv 0) (zz zx zj))) zx) zx (zQ _))
    (zk (za (i:=4) vg.nd rfl (LL rfl) (zi G_w_by_hand hr rfl T.fh.mg T.fh.fn.kp T.fh.bd .nil zJ (zz (pv 1) (zz (pv 2) zj))))) zr))
   (zq (za (i:=5) vg.nd rfl (LL rfl) (zi G_v_flat hr rfl T.du.mg T.du.fn.kp T.du.bd .nil zJ (zz (pv 4) zj)))
   (zq (zW (jg (qt (zi G_w_right hr rfl T.gU.mg T.gU.fn.kp T.gU.bd .nil zJ (zz (pv 5) (zz (pv 3) zj)))))
    (zk (zp xK)) zr)
   (zq (jy Su rfl (xV rfl T.vK (zz (zX (zG (K:=K) rfl) rfl T.qJ L4 (zz (pv 5) zj)) zj)) (zM (i:=6) vg.nd rfl (LL rfl))
    (zq (zW (zd (Zv (K:=K) rfl hr.units) (zc (zv (K:=K) rfl) (pv 5) (pv 6) (λ_ _=>rfl)) (zc (zv (K:=K) rfl) (pv 3) (pv 6) (λ_ _=>rfl)) (zQ _))
    (zk (zp xK)) zr)
   (zk (zO (qM LD L5 L6 qj (zc (qY (K:=K) rfl) (zc (zv (K:=K) rfl) (pv 5) (pv 6) (λ_ _=>rfl)) zx (λ_ _=>rfl)) (zz zw zj))))))
   (zq (zO (uM LD PySem.F.slot_list_clear PySem.F.type_list_clear W4 (pv 5)))
   (zk (zp (zi G_w_right hr rfl T.gU.mg T.gU.fn.kp T.gU.bd .nil zJ (zz (zi G_v_flat hr rfl T.du.mg T.du.fn.kp T.du.bd .nil zJ (zz (pv 4) zj)) (zz (pv 3) zj)))))))))))))),?_⟩
 refine⟨_,rfl,a,ns,rfl,hS,λc ps as zb p H1 vb hZ s1 hp hH hLb hLo=>?_⟩
 show zU 1 (V.ref p) [some (.ref a),none,none,none,none,none,none] _ _
 have hd:=hZ.hd
 refine⟨_,rfl,_,rfl,a,p,ns,c,ps,as,zb,vb,rfl,s1.seq hS,hH,hZ,hLb,hLo,λlr H2 ws evs s2 hlr e2 hP hE=>?_⟩
 show zU 2 (V.ref lr) [some (.ref a),some (.ref p),none,none,none,none,none] _ _
 have hH2:=hH.same s2
 have hS2:=(s1.trans s2).seq hS
 have hel:=hE.ln
 obtain⟨o2,hrn⟩:=hE.rn
 obtain⟨⟨fls,S2⟩,hR,_⟩:=YJ (S:=[(wD (j5 ps as zb),zb.map (·.2))]) hrn
 have hFK:∀f∈fls,HN f:=YQ hR hE.ok (RL hZ)
 have hfl:fls.length≤evs.length:=QL hR
 clear hrn hLb hH s1 hS hLo
 refine⟨_,rfl,_,rfl,p,lr,c,ps,as,zb,ws,evs,fls,S2,rfl,hH2,hZ,e2,hP,hE.ok,hel,hR,λld H3 qs s3 hld e3 hF3 hn3=>?_⟩
 show zU 3 (V.ref ld) [some (.ref a),some (.ref p),some (.ref lr),none,none,none,none] _ _
 have hP3:Paired (fc H3) ws evs:=Paired.imp' (λ_ _ z=>z.same s3) hP
 refine⟨_,rfl,_,rfl,p,lr,c,ps,as,zb,ws,evs,rfl,hH2.same s3,hd,s3 _ _ e2,hP3,hE.ok,by omega,λH4 s4=>?_⟩
 obtain⟨rows,hrd,hrf,hrdp,hrk⟩:=Vs hd hE.ok hE.dp hE.nd (by omega)
 show eY t [.str (Tr (LM "; ") (rowsOf ps as zb evs))] H4 _ _
 refine FY (by unfold rowsOf;simp) (Kv hd.w hE.ok) (by rw[cK];have:=hd.r2;omega) hrd λpq H5 s5 hA5=>?_
 show zU 4 (V.ref pq) [some (.ref a),some (.ref p),some (.ref lr),some (.ref ld),none,none,none] _ _
 have s35:=s4.trans s5
 have hH5:=(hH2.same s3).same s35
 have hP5:Paired (fc H5) ws evs:=Paired.imp' (λ_ _ z=>z.same s35) hP3
 have e25:=s35 _ _ (s3 _ _ e2)
 have e35:=s35 _ _ e3
 have hF5:=hF3.same s35
 have hS5:=(s3.trans s35).seq hS2
 clear hP3 hP hrd e2 e3 hF3 hS2 hH2 s35 s4 s5 s3 s2 hlr hld hn3
 walk_at "x4"
 let Jn:xM:=λσ' H'=>(∃(pq:Addr) (rows:List Rw),σ'=[some (.ref a),some (.ref p),some (.ref lr),some (.ref ld),some (.ref pq),none,none]∧H' ld=some (.lst (qs.map λr:Addr × Addr=>.ref r.1))∧jh H' qs fls∧vp t H' pq ps as zb (.pt "whole" [] rows)∧zE rows=evs∧vo rows∧vG rows≤6)∨False
 refine⟨Jn,?_,?_⟩
 ·refine⟨_,rfl,a,4,ns,rfl,hS5,by decide,by decide,λcell c0 c1=>?_⟩
  refine⟨_,_,rfl,rfl,(by show (0:Int) < 2;decide),rfl,_,rfl,?_⟩
  refine zD (λ_=>?_) (λ_=>.inl ⟨pq,rows,rfl,e35,hF5,hA5,hrf,hrk,hrdp⟩)
  refine⟨_,rfl,_,rfl,p,lr,c,ps,as,zb,ws,evs,rfl,hH5,e25,hP5,hE.ok,⟨hE.dp,hE.nd⟩,hel,λq rows' H6 s6 hf6 hk6 hd6 hA6=>?_⟩
  exact .inl ⟨q,rows',rfl,s6 _ _ e35,hF5.same s6,hA6,hf6,hk6,hd6⟩
 intro σ' H6 q
 clear hA5 hrf hrk hrdp rows
 obtain⟨pq,rows,rfl,e3,hF,hA,hrf,hrk,hrdp⟩:=q.resolve_right λz=>z
 clear q hF5 e25 e35 hP5 hH5 hS5
 obtain⟨o3,hfL⟩:=KD hrk hrf hR
 have hev:∀e∈zE rows,e.ok:=by rw[hrf];exact hE.ok
 have hevl:(zE rows).length≤160:=by rw[hrf];omega
 refine⟨_,rfl,pq,ps,as,zb,rows,fls,o3,rfl,hA,hd,hrdp,hrk,hev,hevl,hfL,λlt H7 rs s7 hlt e7 hF7 hnd hfr hln=>?_⟩
 show zU 5 (V.ref lt) [some (.ref a),some (.ref p),some (.ref lr),some (.ref ld),some (.ref pq),none,none] _ _
 refine⟨_,rfl,_,rfl,lt,ld,rs,qs,fls,rfl,e7,s7 _ _ e3,hF7,hF.same s7,hFK,by omega,λH8 s8=>?_⟩
 refine⟨true,rfl,?_⟩
 have n1:rs.length=fls.length:=SW hF7
 have n2:qs.length=fls.length:=SW hF
 refine⟨_,rfl,lt,_,rfl,.inl (zK.of (s8 _ _ e7)),?_⟩
 rw[Ln,n1]
 refine⟨_,rfl,by omega,by omega,?_⟩
 have st0:V4 H6 H8 lt rs fls 0:=by
  refine⟨s7.trans s8,s8 _ _ e7,λj r f hr hf=>?_,λj r f hr hf _=>?_⟩
  ·obtain⟨f',hf',g1,g2⟩:=Paired.a8 hF7 hr
   rw[hf] at hf'
   cases hf'
   exact s8 _ _ g1
  ·obtain⟨f',hf',g1,g2⟩:=Paired.a8 hF7 hr
   rw[hf] at hf'
   cases hf'
   exact s8 _ _ g2
 let Iv:xn:=λi σ H'=>(∃v6:Option V,σ=[some (.ref a),some (.ref p),some (.ref lr),some (.ref ld),some (.ref pq),some (.ref lt),v6]∧V4 H6 H' lt rs fls i)∨False
 refine ki (lo:=0) (n:=fls.length) Iv (.inl ⟨none,rfl,st0⟩) ?_ ?_
 ·intro i σ H9 hi z
  obtain⟨v6,rfl,st⟩:=z.resolve_right λz=>z
  clear z
  rw[NS]
  obtain⟨r,hr⟩:∃r,rs[i]?=some r:=⟨_,Le (by omega)⟩
  obtain⟨r2,hr2⟩:∃r,qs[i]?=some r:=⟨_,Le (by omega)⟩
  obtain⟨f,hf,g3,g4⟩:=Paired.a8 hF hr2
  have g1:=st.tp i r f hr hf
  have g2:=st.ls i r f hr hf (LF _)
  have g3':=st.bs _ _ g3
  have g4':=st.bs _ _ g4
  have hfk:=hFK f (LC hf)
  have hrm:=hfk.2
  have a1:vX (rs.map λr:Addr × Addr=>V.ref r.1) (i:Int)=some (.ref r.1):=kF (by rw[LV,hr];rfl)
  have a2:vX (qs.map λr:Addr × Addr=>V.ref r.1) (i:Int)=some (.ref r2.1):=kF (by rw[LV,hr2];rfl)
  have hrmem:r∈rs:=LC hr
  refine⟨_,rfl,_,rfl,lt,_,_,_,rfl,rfl,zK.of st.el,a1,?_⟩
  refine⟨_,rfl,_,rfl,ld,_,_,_,rfl,rfl,zK.of (st.bs _ _ e3),a2,?_⟩
  refine⟨_,_,aZ g1 g2,aZ g3' g4',gZ hfk,gZ hfk,_,rfl,?_⟩
  rw[XC]
  refine zD (λh=>by cases h) (λ_=>?_)
  refine⟨_,rfl,_,rfl,lt,_,_,_,rfl,rfl,zK.of st.el,a1,r.1,_,_,_,rfl,rfl,jt.of g1,rfl,?_⟩
  refine⟨.inl ⟨rfl,_,zK.of g2⟩,?_⟩
  refine⟨r.2,_,_,rfl,rfl,g2,zg (by rw[Ln];omega),?_⟩
  intro H10 k10 e10
  exact .inl ⟨_,rfl,st.next hr g2 k10 (hfr r hrmem).2 (λz=>hln (by rw[z];exact SH hrmem)) hnd⟩
 ·intro σ H9 z
  obtain⟨v6,rfl,st⟩:=z.resolve_right λz=>z
  clear z
  refine⟨_,rfl,.inl ⟨rfl,_,zK.of st.el⟩,lt,_,rfl,rfl,st.el,?_⟩
  intro H10 k10 e10
  have s10:zf H6 H10:=k10.put st.bs hlt
  refine⟨_,rfl,pq,ps,as,zb,rows,fls,o3,rfl,hA.same s10,hd,hrdp,hrk,hev,hevl,hfL,λlu H11 us s11 hlu e11 hF11 _ _ _=>?_⟩
  have s6b:=s10.trans s11
  refine⟨_,rfl,lu,ld,us,qs,fls,rfl,e11,s6b _ _ e3,hF11,hF.same s6b,hFK,by omega,λH12 s12=>?_⟩
  exact k _
theorem K4 (T:Txt K mg t) (s:LZ) (u:Lo):BindsTo s t.ag ⟨[u],[]⟩ [("_law_script",u)]:=by
 obtain⟨oc,od,kV,doc,pm,an,cdv,ct,osl,e,_⟩:=T.BO.fn.ex
 rw[e]
 exact .of_eq rfl
theorem K5 {H:Hp} {a:Addr} {ns:List Int} (hl:ns.length≤63) (_:V3 H) (hS:zK K H a (ns.map V.int)):YN K [.ref a] H (λv _=>v=.bl true) λ_ _ _=>False:=
 ⟨a,ns,rfl,hS,hl,λ_=>rfl⟩
end
theorem GO:(19:Nat)≤LI:=zg (by decide)
theorem GI {t0 t1 t2 t3 t4 t5 t6 t7 t8 t9 t10 t11 t12 t13 t14 t15 t16 t17 t18:Tok}:Vals (gJ.map V.str) ([.str "acts" t0,.str "any" t1,.str "be" t2,.str "by" t3,.str "calm" t4,.str "done" t5,.str "else" t6,.str "end" t7,.str "in" t8,.str "let" t9,.str "may" t10,.str "must" t11,.str "not" t12,.str "part" t13,.str "parties" t14,.str "rest" t15,.str "sore" t16,.str "to" t17,.str "whole" t18]:List Lo):=by
 repeat (first | exact .nil | refine .cons ⟨_,rfl⟩ ?_)
theorem WW:(3:Nat)≤LI:=zg (by decide)
theorem WY {t0 t1 t2:Tok}:Vals (zF.map V.str) ([.str "calm" t0,.str "sore" t1,.str "end" t2]:List Lo):=by
 repeat (first | exact .nil | refine .cons ⟨_,rfl⟩ ?_)
theorem dk {K:Ls} {h:Heap} {mg:Str→Option Lo} (X:K.In h) (G:h.Ns TM mg) {x:Str} {st:Stmt} {ps:List Str} {f:Addr} {oc:Lo} {od an:Option Addr} {osl:Array (Option Lo)} {kV doc pm cdv ct:Lo} (a:PySem.W.nsIn K TM x=some (some (.ref f))) (l:K.lookup f=some ⟨oc,od,.func (Te x x (kR st) (xC st) (zy st) .none kV doc pm an cdv ct),osl⟩) (c:Oq K cdv x=true) (k:Tt K (.ref f)=true)
  (b:∀(kV doc pm:Lo) (an:Option Addr) (cdv ct:Lo) (us:List Lo),us.length=ps.length→bindArgs (Te x x (kR st) (xC st) (zy st) .none kV doc pm an cdv ct) ⟨us,[]⟩=pure (ps.zip us)):Def K mg x st ps f (Te x x (kR st) (xC st) (zy st) .none kV doc pm an cdv ct):=⟨aK l c k,(aK l c k).binds b,O3 X G a⟩
theorem Mp {K:Ls} {h:Heap} {mg:Str→Option Lo} (X:K.In h) (G:h.Ns TM mg) {x q:Str} {st:Stmt} {ps:List Str} {cc f:Addr} {oc:Lo} {od an:Option Addr} {osl:Array (Option Lo)} {kV doc pm cdv ct:Lo} (a:Sf K (.ref cc) x=some (some (.ref f))) (l:K.lookup f=some ⟨oc,od,.func (Te x q (kR st) (xC st) (zy st) .none kV doc pm an cdv ct),osl⟩) (c:Oq K cdv q=true) (k:Tt K (.ref f)=true)
  (b:∀(kV doc pm:Lo) (an:Option Addr) (cdv ct:Lo) (us:List Lo),us.length=ps.length→bindArgs (Te x q (kR st) (xC st) (zy st) .none kV doc pm an cdv ct) ⟨us,[]⟩=pure (ps.zip us)):jc K cc x q st ps f (Te x q (kR st) (xC st) (zy st) .none kV doc pm an cdv ct):=⟨aK l c k,(aK l c k).binds b,a⟩
theorem RW {α:Type} {P:List α→Prop} (h:P []) (us:List α) (e:us.length=0):P us:=by
 cases us
 ·exact h
 ·cases e
theorem CG {α:Type} {P:List α→Prop} (h:∀a,P [a]) (us:List α) (e:us.length=1):P us:=by
 cases us
 ·cases e
 ·exact RW (P:=λl=>P (_ :: l)) (h _) _ (NT e)
theorem ln2 {α:Type} {P:List α→Prop} (h:∀a b,P [a,b]) (us:List α) (e:us.length=2):P us:=by
 cases us
 ·cases e
 ·exact CG (P:=λl=>P (_ :: l)) (λb=>h _ b) _ (NT e)
theorem CH {α:Type} {P:List α→Prop} (h:∀a b c,P [a,b,c]) (us:List α) (e:us.length=3):P us:=by
 cases us
 ·cases e
 ·exact ln2 (P:=λl=>P (_ :: l)) (λb c=>h _ b c) _ (NT e)
theorem CB {α:Type} {P:List α→Prop} (h:∀a b c d,P [a,b,c,d]) (us:List α) (e:us.length=4):P us:=by
 cases us
 ·cases e
 ·exact CH (P:=λl=>P (_ :: l)) (λb c d=>h _ b c d) _ (NT e)
theorem CP {α:Type} {P:List α→Prop} (h:∀a b c d e,P [a,b,c,d,e]) (us:List α) (e:us.length=5):P us:=by
 cases us
 ·cases e
 ·exact CB (P:=λl=>P (_ :: l)) (λb c d e=>h _ b c d e) _ (NT e)
theorem RY {α:Type} {P:List α→Prop} (h:∀a b c d e f,P [a,b,c,d,e,f]) (us:List α) (e:us.length=6):P us:=by
 cases us
 ·cases e
 ·exact CP (P:=λl=>P (_ :: l)) (λb c d e f=>h _ b c d e f) _ (NT e)
theorem Pf {α:Type} {p:α→Prop} {w:α} (h:p w):∃x,p x:=⟨w,h⟩
theorem R8 {P:z4→Prop} {aaa aab aac aad aae aaf aag aah aai aaj aak aal aam aan aao aap aaq aar aas aat aau aav aaw aax aay aaz aba abb abc abd abe abf abg abh abi abj abk abl abm abn abo abp abq abr abs abt abu abv abw abx aby abz aca acb acc acd ace acf acg ach aci acj ack acl acm acn aco acp acq acr acs act acu acv acw acx acy acz ada adb adc add ade adf adg adh adi adj adk adl adm adn ado adp adq adr Jx adt adu:Addr} {daa dab dac dad dae daf dag dah dai daj dak dal dam dan dao dap daq dar das dat dau dav daw dax day daz dba dbb dbc dbd dbe dbf dbg dbh dbi dbj dbk dbl dbm dbn dbo dbp dbq dbr dbs dbt dbu dbv dbw dbx dby dbz dca dcb dcc dcd dce dcf dcg dch dci dcj dck dcl dcm dcn dco dcp dcq dcr dcs dct dcu dcv dcw dcx dcy dcz dda ddb ddc ddd:LG} (h:P ⟨aaa,aab,aac,aad,aae,aaf,aag,aah,aai,aaj,aak,aal,aam,aan,aao,aap,aaq,aar,aas,aat,aau,aav,aaw,aax,aay,aaz,aba,abb,abc,abd,abe,abf,abg,abh,abi,abj,abk,abl,abm,abn,abo,abp,abq,abr,abs,abt,abu,abv,abw,abx,aby,abz,aca,acb,acc,acd,ace,acf,acg,ach,aci,acj,ack,acl,acm,acn,aco,acp,acq,acr,acs,act,acu,acv,acw,acx,acy,acz,ada,adb,adc,add,ade,adf,adg,adh,adi,adj,adk,adl,adm,adn,ado,adp,adq,adr,Jx,adt,adu,daa,dab,dac,dad,dae,daf,dag,dah,dai,daj,dak,dal,dam,dan,dao,dap,daq,dar,das,dat,dau,dav,daw,dax,day,daz,dba,dbb,dbc,dbd,dbe,dbf,dbg,dbh,dbi,dbj,dbk,dbl,dbm,dbn,dbo,dbp,dbq,dbr,dbs,dbt,dbu,dbv,dbw,dbx,dby,dbz,dca,dcb,dcc,dcd,dce,dcf,dcg,dch,dci,dcj,dck,dcl,dcm,dcn,dco,dcp,dcq,dcr,dcs,dct,dcu,dcv,dcw,dcx,dcy,dcz,dda,ddb,ddc,ddd⟩):∃t,P t:=⟨_,h⟩
end My
theorem PySem.W.Fast.tw10014686156739872148:True:=trivial
theorem PySem.W.Fast.tw10016768103223375019:True:=trivial
theorem PySem.W.Fast.tw10035659776650829680:True:=trivial
theorem PySem.W.Fast.tw100393746110036331:True:=trivial
theorem PySem.W.Fast.tw10051440602771995661:True:=trivial
theorem PySem.W.Fast.tw10053858764357153177:True:=trivial
theorem PySem.W.Fast.tw10056161797738195550:True:=trivial
theorem PySem.W.Fast.tw10065170680596802210:True:=trivial
theorem PySem.W.Fast.tw10070333954510344693:True:=trivial
theorem PySem.W.Fast.tw1007051189207801577:True:=trivial
theorem PySem.W.Fast.tw10111626529117764350:True:=trivial
theorem PySem.W.Fast.tw10140766658415558649:True:=trivial
theorem PySem.W.Fast.tw10160413110754224002:True:=trivial
theorem PySem.W.Fast.tw10249909247806052628:True:=trivial
theorem PySem.W.Fast.tw10260374846211310901:True:=trivial
theorem PySem.W.Fast.tw10289955545866039617:True:=trivial
theorem PySem.W.Fast.tw10368289916083699422:True:=trivial
theorem PySem.W.Fast.tw10400861576169094618:True:=trivial
theorem PySem.W.Fast.tw10426586844880987121:True:=trivial
theorem PySem.W.Fast.tw10449893767231201328:True:=trivial
theorem PySem.W.Fast.tw10454585980431712178:True:=trivial
theorem PySem.W.Fast.tw1046309045515012852:True:=trivial
theorem PySem.W.Fast.tw10555125302139278629:True:=trivial
theorem PySem.W.Fast.tw1062277323598786526:True:=trivial
theorem PySem.W.Fast.tw10631531206079091037:True:=trivial
theorem PySem.W.Fast.tw10695391429640131804:True:=trivial
theorem PySem.W.Fast.tw10703398560170421456:True:=trivial
theorem PySem.W.Fast.tw10704925586438847474:True:=trivial
theorem PySem.W.Fast.tw10707961832961047473:True:=trivial
theorem PySem.W.Fast.tw10758005813946191653:True:=trivial
theorem PySem.W.Fast.tw10855506961235581389:True:=trivial
theorem PySem.W.Fast.tw10987782567997870129:True:=trivial
theorem PySem.W.Fast.tw11037413415287274963:True:=trivial
theorem PySem.W.Fast.tw11073510823163787470:True:=trivial
theorem PySem.W.Fast.tw11135275182656565641:True:=trivial
theorem PySem.W.Fast.tw11152730320325932485:True:=trivial
theorem PySem.W.Fast.tw11360170547723136387:True:=trivial
theorem PySem.W.Fast.tw11368171430110100953:True:=trivial
theorem PySem.W.Fast.tw11524935792510220281:True:=trivial
theorem PySem.W.Fast.tw11536113517708837810:True:=trivial
theorem PySem.W.Fast.tw11593983292013064906:True:=trivial
theorem PySem.W.Fast.tw11614999813887522752:True:=trivial
theorem PySem.W.Fast.tw11642683445166930653:True:=trivial
theorem PySem.W.Fast.tw11649887164709824517:True:=trivial
theorem PySem.W.Fast.tw11679395598989624492:True:=trivial
theorem PySem.W.Fast.tw11698503240313121318:True:=trivial
theorem PySem.W.Fast.tw11720387715615142376:True:=trivial
theorem PySem.W.Fast.tw11728006931373751043:True:=trivial
theorem PySem.W.Fast.tw11730697112796665765:True:=trivial
theorem PySem.W.Fast.tw1186599617090264316:True:=trivial
theorem PySem.W.Fast.tw11884520848102691601:True:=trivial
theorem PySem.W.Fast.tw11932764166888585880:True:=trivial
theorem PySem.W.Fast.tw12034918355252031397:True:=trivial
theorem PySem.W.Fast.tw12047352742649651971:True:=trivial
theorem PySem.W.Fast.tw12061235934426956814:True:=trivial
theorem PySem.W.Fast.tw12077834447211154411:True:=trivial
theorem PySem.W.Fast.tw12088411699649550224:True:=trivial
theorem PySem.W.Fast.tw12186144273131622998:True:=trivial
theorem PySem.W.Fast.tw12198387245818135470:True:=trivial
theorem PySem.W.Fast.tw12202549422682446399:True:=trivial
theorem PySem.W.Fast.tw12277660933674860209:True:=trivial
theorem PySem.W.Fast.tw12282782650348729332:True:=trivial
theorem PySem.W.Fast.tw12300761644577541755:True:=trivial
theorem PySem.W.Fast.tw12373395855706773156:True:=trivial
theorem PySem.W.Fast.tw12378311218448786637:True:=trivial
theorem PySem.W.Fast.tw12402423330637310408:True:=trivial
theorem PySem.W.Fast.tw12414545525288052632:True:=trivial
theorem PySem.W.Fast.tw12443308774260761110:True:=trivial
theorem PySem.W.Fast.tw12465539187345986201:True:=trivial
theorem PySem.W.Fast.tw12501660942189076005:True:=trivial
theorem PySem.W.Fast.tw12557150355651770437:True:=trivial
theorem PySem.W.Fast.tw12585029405434552112:True:=trivial
theorem PySem.W.Fast.tw12590232341869149002:True:=trivial
theorem PySem.W.Fast.tw12689437450508984957:True:=trivial
theorem PySem.W.Fast.tw12702324907354322114:True:=trivial
theorem PySem.W.Fast.tw12720901197933514037:True:=trivial
theorem PySem.W.Fast.tw12731233905279673183:True:=trivial
theorem PySem.W.Fast.tw1279370559531636798:True:=trivial
theorem PySem.W.Fast.tw12838478304581330916:True:=trivial
theorem PySem.W.Fast.tw1285658706337346441:True:=trivial
theorem PySem.W.Fast.tw1286239598825241907:True:=trivial
theorem PySem.W.Fast.tw12884271892556468147:True:=trivial
theorem PySem.W.Fast.tw1293464020012664040:True:=trivial
theorem PySem.W.Fast.tw12989794301599996751:True:=trivial
theorem PySem.W.Fast.tw12991459827432652152:True:=trivial
theorem PySem.W.Fast.tw13019540714718645276:True:=trivial
theorem PySem.W.Fast.tw13044844180542825218:True:=trivial
theorem PySem.W.Fast.tw13052208638610236353:True:=trivial
theorem PySem.W.Fast.tw1311038946968464482:True:=trivial
theorem PySem.W.Fast.tw13118661445966007813:True:=trivial
theorem PySem.W.Fast.tw1315609493932734046:True:=trivial
theorem PySem.W.Fast.tw13159686946455761811:True:=trivial
theorem PySem.W.Fast.tw1319524652901307831:True:=trivial
theorem PySem.W.Fast.tw13273352047203276037:True:=trivial
theorem PySem.W.Fast.tw13295580357457965807:True:=trivial
theorem PySem.W.Fast.tw13335722909380325454:True:=trivial
theorem PySem.W.Fast.tw1335975111924127299:True:=trivial
theorem PySem.W.Fast.tw1336887392457682751:True:=trivial
theorem PySem.W.Fast.tw13436024176905287307:True:=trivial
theorem PySem.W.Fast.tw13456836784692350887:True:=trivial
theorem PySem.W.Fast.tw13476340637170950448:True:=trivial
theorem PySem.W.Fast.tw13486826588646027695:True:=trivial
theorem PySem.W.Fast.tw13493475203761468273:True:=trivial
theorem PySem.W.Fast.tw13511591179817036339:True:=trivial
theorem PySem.W.Fast.tw13518677869081152593:True:=trivial
theorem PySem.W.Fast.tw13624930735811275941:True:=trivial
theorem PySem.W.Fast.tw13637965647118421828:True:=trivial
theorem PySem.W.Fast.tw13687403100429170464:True:=trivial
theorem PySem.W.Fast.tw13715565740416763451:True:=trivial
theorem PySem.W.Fast.tw13727286813886603475:True:=trivial
theorem PySem.W.Fast.tw13754288828744989690:True:=trivial
theorem PySem.W.Fast.tw13755134454089824073:True:=trivial
theorem PySem.W.Fast.tw13776407546039542173:True:=trivial
theorem PySem.W.Fast.tw13818907870421809017:True:=trivial
theorem PySem.W.Fast.tw13852389553166741604:True:=trivial
theorem PySem.W.Fast.tw13868225966649728022:True:=trivial
theorem PySem.W.Fast.tw13879531777223612609:True:=trivial
theorem PySem.W.Fast.tw13903041563649788486:True:=trivial
theorem PySem.W.Fast.tw13947772081166122459:True:=trivial
theorem PySem.W.Fast.tw13985371891361778805:True:=trivial
theorem PySem.W.Fast.tw1399096692481433479:True:=trivial
theorem PySem.W.Fast.tw14096318488560985475:True:=trivial
theorem PySem.W.Fast.tw14115957327198359031:True:=trivial
theorem PySem.W.Fast.tw14182316779587664739:True:=trivial
theorem PySem.W.Fast.tw14238659904938228245:True:=trivial
theorem PySem.W.Fast.tw14250023594187967343:True:=trivial
theorem PySem.W.Fast.tw14342599300496783945:True:=trivial
theorem PySem.W.Fast.tw14399316713270560208:True:=trivial
theorem PySem.W.Fast.tw14430819676146423294:True:=trivial
theorem PySem.W.Fast.tw14492929476236045107:True:=trivial
theorem PySem.W.Fast.tw14500039676815778201:True:=trivial
theorem PySem.W.Fast.tw14660047962578767549:True:=trivial
theorem PySem.W.Fast.tw14660335343229874088:True:=trivial
theorem PySem.W.Fast.tw14716201639048754412:True:=trivial
theorem PySem.W.Fast.tw14728877259829455698:True:=trivial
theorem PySem.W.Fast.tw14746104931803477880:True:=trivial
theorem PySem.W.Fast.tw14767038924551280227:True:=trivial
theorem PySem.W.Fast.tw1478699313178829792:True:=trivial
theorem PySem.W.Fast.tw14865437537354573753:True:=trivial
theorem PySem.W.Fast.tw14883728573740819505:True:=trivial
theorem PySem.W.Fast.tw14913220909899927100:True:=trivial
theorem PySem.W.Fast.tw14927660915675388176:True:=trivial
theorem PySem.W.Fast.tw14929311965246225172:True:=trivial
theorem PySem.W.Fast.tw14981888801262925507:True:=trivial
theorem PySem.W.Fast.tw15007427896707760446:True:=trivial
theorem PySem.W.Fast.tw15024559670496505725:True:=trivial
theorem PySem.W.Fast.tw15032781776372747535:True:=trivial
theorem PySem.W.Fast.tw15033274722106530704:True:=trivial
theorem PySem.W.Fast.tw15096949540522513545:True:=trivial
theorem PySem.W.Fast.tw15100650235080183317:True:=trivial
theorem PySem.W.Fast.tw15119661828332127685:True:=trivial
theorem PySem.W.Fast.tw15157822893195481746:True:=trivial
theorem PySem.W.Fast.tw15240124930320282496:True:=trivial
theorem PySem.W.Fast.tw15285235554511823369:True:=trivial
theorem PySem.W.Fast.tw1532114991031923564:True:=trivial
theorem PySem.W.Fast.tw15330721857792971729:True:=trivial
theorem PySem.W.Fast.tw15352474807002811471:True:=trivial
theorem PySem.W.Fast.tw15394451463629950120:True:=trivial
theorem PySem.W.Fast.tw15406922382202620020:True:=trivial
theorem PySem.W.Fast.tw15516789773379006160:True:=trivial
theorem PySem.W.Fast.tw15566966231940266165:True:=trivial
theorem PySem.W.Fast.tw15597043927152578045:True:=trivial
theorem PySem.W.Fast.tw15615461570578528944:True:=trivial
theorem PySem.W.Fast.tw1569757882038013446:True:=trivial
theorem PySem.W.Fast.tw15720408730222682868:True:=trivial
theorem PySem.W.Fast.tw15726866949870898651:True:=trivial
theorem PySem.W.Fast.tw15732674743110614644:True:=trivial
theorem PySem.W.Fast.tw15734667386094117336:True:=trivial
theorem PySem.W.Fast.tw15770438427579154107:True:=trivial
theorem PySem.W.Fast.tw15782859294137085757:True:=trivial
theorem PySem.W.Fast.tw15798445337464716113:True:=trivial
theorem PySem.W.Fast.tw15815144929715087246:True:=trivial
theorem PySem.W.Fast.tw15826548417137285872:True:=trivial
theorem PySem.W.Fast.tw15829048798589498629:True:=trivial
theorem PySem.W.Fast.tw15831931419999938274:True:=trivial
theorem PySem.W.Fast.tw15843121939357080164:True:=trivial
theorem PySem.W.Fast.tw1585815508269125925:True:=trivial
theorem PySem.W.Fast.tw15872924486064772551:True:=trivial
theorem PySem.W.Fast.tw15877083434627748100:True:=trivial
theorem PySem.W.Fast.tw15885557019368707011:True:=trivial
theorem PySem.W.Fast.tw16034987569363389680:True:=trivial
theorem PySem.W.Fast.tw16069200683280152970:True:=trivial
theorem PySem.W.Fast.tw16074232445903342912:True:=trivial
theorem PySem.W.Fast.tw16095168834786703505:True:=trivial
theorem PySem.W.Fast.tw16113214161644223444:True:=trivial
theorem PySem.W.Fast.tw16175496139812450479:True:=trivial
theorem PySem.W.Fast.tw16176875084343011501:True:=trivial
theorem PySem.W.Fast.tw1622909328853455833:True:=trivial
theorem PySem.W.Fast.tw16230220986733456573:True:=trivial
theorem PySem.W.Fast.tw16236840631663335811:True:=trivial
theorem PySem.W.Fast.tw16243943730740877653:True:=trivial
theorem PySem.W.Fast.tw1630438521574615443:True:=trivial
theorem PySem.W.Fast.tw16395494361177493853:True:=trivial
theorem PySem.W.Fast.tw16442144125874993866:True:=trivial
theorem PySem.W.Fast.tw16476170433119361556:True:=trivial
theorem PySem.W.Fast.tw1652286206232016027:True:=trivial
theorem PySem.W.Fast.tw16552420302652273496:True:=trivial
theorem PySem.W.Fast.tw16566276493555491456:True:=trivial
theorem PySem.W.Fast.tw16598045344130389681:True:=trivial
theorem PySem.W.Fast.tw16604134374315811455:True:=trivial
theorem PySem.W.Fast.tw16629938876679500718:True:=trivial
theorem PySem.W.Fast.tw16761215105643440575:True:=trivial
theorem PySem.W.Fast.tw16783488107432579490:True:=trivial
theorem PySem.W.Fast.tw16801203413262974551:True:=trivial
theorem PySem.W.Fast.tw16816675487350738374:True:=trivial
theorem PySem.W.Fast.tw16860081251186755829:True:=trivial
theorem PySem.W.Fast.tw16922888025908751462:True:=trivial
theorem PySem.W.Fast.tw17038140567656979473:True:=trivial
theorem PySem.W.Fast.tw17152837922690304876:True:=trivial
theorem PySem.W.Fast.tw17165527698362641238:True:=trivial
theorem PySem.W.Fast.tw17235174145865209848:True:=trivial
theorem PySem.W.Fast.tw17235461339053469809:True:=trivial
theorem PySem.W.Fast.tw17255366366755271539:True:=trivial
theorem PySem.W.Fast.tw17280859756557710439:True:=trivial
theorem PySem.W.Fast.tw1732314513462232520:True:=trivial
theorem PySem.W.Fast.tw17377668495002349180:True:=trivial
theorem PySem.W.Fast.tw17397853241316335111:True:=trivial
theorem PySem.W.Fast.tw1744633776496491907:True:=trivial
theorem PySem.W.Fast.tw17528562799172755370:True:=trivial
theorem PySem.W.Fast.tw17583378700116729764:True:=trivial
theorem PySem.W.Fast.tw17613633944230400196:True:=trivial
theorem PySem.W.Fast.tw17693605731091034465:True:=trivial
theorem PySem.W.Fast.tw17753229056812322167:True:=trivial
theorem PySem.W.Fast.tw17763764081401768487:True:=trivial
theorem PySem.W.Fast.tw17800564806544249440:True:=trivial
theorem PySem.W.Fast.tw17815804930583597345:True:=trivial
theorem PySem.W.Fast.tw17879758845933255874:True:=trivial
theorem PySem.W.Fast.tw17934266659636432970:True:=trivial
theorem PySem.W.Fast.tw1794186061052769024:True:=trivial
theorem PySem.W.Fast.tw18016283147199126210:True:=trivial
theorem PySem.W.Fast.tw1804009681951595696:True:=trivial
theorem PySem.W.Fast.tw18067642798381525253:True:=trivial
theorem PySem.W.Fast.tw18093936969066040709:True:=trivial
theorem PySem.W.Fast.tw18127061707297808047:True:=trivial
theorem PySem.W.Fast.tw18145767506169353014:True:=trivial
theorem PySem.W.Fast.tw18161095592421075164:True:=trivial
theorem PySem.W.Fast.tw18161231470224612380:True:=trivial
theorem PySem.W.Fast.tw1817716149850340379:True:=trivial
theorem PySem.W.Fast.tw18182776704816495079:True:=trivial
theorem PySem.W.Fast.tw18184769819225944669:True:=trivial
theorem PySem.W.Fast.tw18184969960260514564:True:=trivial
theorem PySem.W.Fast.tw18196788793892621129:True:=trivial
theorem PySem.W.Fast.tw18210113598004542974:True:=trivial
theorem PySem.W.Fast.tw18221058714183660802:True:=trivial
theorem PySem.W.Fast.tw18233598831126793316:True:=trivial
theorem PySem.W.Fast.tw18242467107329736482:True:=trivial
theorem PySem.W.Fast.tw18245991740786006467:True:=trivial
theorem PySem.W.Fast.tw18249090048714212445:True:=trivial
theorem PySem.W.Fast.tw18345614005273896751:True:=trivial
theorem PySem.W.Fast.tw18350440862760194343:True:=trivial
theorem PySem.W.Fast.tw18383005682037243550:True:=trivial
theorem PySem.W.Fast.tw1855253244894241592:True:=trivial
theorem PySem.W.Fast.tw1866782055393276961:True:=trivial
theorem PySem.W.Fast.tw18782242952124562:True:=trivial
theorem PySem.W.Fast.tw1879787069242493896:True:=trivial
theorem PySem.W.Fast.tw1889485023065076609:True:=trivial
theorem PySem.W.Fast.tw1979023614122799658:True:=trivial
theorem PySem.W.Fast.tw1980812580058854857:True:=trivial
theorem PySem.W.Fast.tw1980907201999318766:True:=trivial
theorem PySem.W.Fast.tw2017751591806356434:True:=trivial
theorem PySem.W.Fast.tw2026676469265860928:True:=trivial
theorem PySem.W.Fast.tw2066871361415490208:True:=trivial
theorem PySem.W.Fast.tw2076155666966849389:True:=trivial
theorem PySem.W.Fast.tw2115441619744112305:True:=trivial
theorem PySem.W.Fast.tw2122317815359657666:True:=trivial
theorem PySem.W.Fast.tw2165421340230020926:True:=trivial
theorem PySem.W.Fast.tw2204611606854338441:True:=trivial
theorem PySem.W.Fast.tw2227584444647346300:True:=trivial
theorem PySem.W.Fast.tw2282581048960958027:True:=trivial
theorem PySem.W.Fast.tw2290067903743515218:True:=trivial
theorem PySem.W.Fast.tw2299645700631848402:True:=trivial
theorem PySem.W.Fast.tw235143185935972361:True:=trivial
theorem PySem.W.Fast.tw2358758452677045255:True:=trivial
theorem PySem.W.Fast.tw2363709010947691020:True:=trivial
theorem PySem.W.Fast.tw2413848549163823398:True:=trivial
theorem PySem.W.Fast.tw2435431357203869901:True:=trivial
theorem PySem.W.Fast.tw2491942189849087249:True:=trivial
theorem PySem.W.Fast.tw2491948254905469993:True:=trivial
theorem PySem.W.Fast.tw2513779874983022120:True:=trivial
theorem PySem.W.Fast.tw2530363347898912994:True:=trivial
theorem PySem.W.Fast.tw254059378718262963:True:=trivial
theorem PySem.W.Fast.tw2585385726233185580:True:=trivial
theorem PySem.W.Fast.tw2632520374941175691:True:=trivial
theorem PySem.W.Fast.tw2635854881692950089:True:=trivial
theorem PySem.W.Fast.tw2637365554314451152:True:=trivial
theorem PySem.W.Fast.tw2637978809391627402:True:=trivial
theorem PySem.W.Fast.tw2639252993459131742:True:=trivial
theorem PySem.W.Fast.tw264427861070633061:True:=trivial
theorem PySem.W.Fast.tw2710973467636063278:True:=trivial
theorem PySem.W.Fast.tw2740375016647311685:True:=trivial
theorem PySem.W.Fast.tw2769256489734739344:True:=trivial
theorem PySem.W.Fast.tw2796125674508324665:True:=trivial
theorem PySem.W.Fast.tw2799379521025427419:True:=trivial
theorem PySem.W.Fast.tw2811179099222107893:True:=trivial
theorem PySem.W.Fast.tw2813786050363971100:True:=trivial
theorem PySem.W.Fast.tw2853330619118928752:True:=trivial
theorem PySem.W.Fast.tw2859544038704384911:True:=trivial
theorem PySem.W.Fast.tw286901166259075475:True:=trivial
theorem PySem.W.Fast.tw2879859382084971772:True:=trivial
theorem PySem.W.Fast.tw2898777690668447910:True:=trivial
theorem PySem.W.Fast.tw2915082583859521153:True:=trivial
theorem PySem.W.Fast.tw2962449965130671198:True:=trivial
theorem PySem.W.Fast.tw297412794761522671:True:=trivial
theorem PySem.W.Fast.tw2982813947149699700:True:=trivial
theorem PySem.W.Fast.tw2984815202516326272:True:=trivial
theorem PySem.W.Fast.tw3049670160335391903:True:=trivial
theorem PySem.W.Fast.tw3059946756666670929:True:=trivial
theorem PySem.W.Fast.tw3067504545371802144:True:=trivial
theorem PySem.W.Fast.tw3071353528140501859:True:=trivial
theorem PySem.W.Fast.tw311108814142630495:True:=trivial
theorem PySem.W.Fast.tw3127175898494328688:True:=trivial
theorem PySem.W.Fast.tw3132445358125104044:True:=trivial
theorem PySem.W.Fast.tw3155886845466443178:True:=trivial
theorem PySem.W.Fast.tw3207861403798027047:True:=trivial
theorem PySem.W.Fast.tw3220973454663814430:True:=trivial
theorem PySem.W.Fast.tw3234725018970878052:True:=trivial
theorem PySem.W.Fast.tw3270323205388867708:True:=trivial
theorem PySem.W.Fast.tw3374197637258446130:True:=trivial
theorem PySem.W.Fast.tw3381429369126976513:True:=trivial
theorem PySem.W.Fast.tw3455835707791635260:True:=trivial
theorem PySem.W.Fast.tw3481155795887163092:True:=trivial
theorem PySem.W.Fast.tw3482297762063943552:True:=trivial
theorem PySem.W.Fast.tw3482872354131439536:True:=trivial
theorem PySem.W.Fast.tw3527230735070564863:True:=trivial
theorem PySem.W.Fast.tw3536081742294891696:True:=trivial
theorem PySem.W.Fast.tw3587966514431056904:True:=trivial
theorem PySem.W.Fast.tw3601008522352591569:True:=trivial
theorem PySem.W.Fast.tw3641582925428305159:True:=trivial
theorem PySem.W.Fast.tw369150168743421337:True:=trivial
theorem PySem.W.Fast.tw3717934866631306099:True:=trivial
theorem PySem.W.Fast.tw371904703330155632:True:=trivial
theorem PySem.W.Fast.tw3719088456636144908:True:=trivial
theorem PySem.W.Fast.tw3720299268040664070:True:=trivial
theorem PySem.W.Fast.tw3753085154130178706:True:=trivial
theorem PySem.W.Fast.tw3799054086492277763:True:=trivial
theorem PySem.W.Fast.tw3833576406936316203:True:=trivial
theorem PySem.W.Fast.tw3857507280879774782:True:=trivial
theorem PySem.W.Fast.tw3866762082524974796:True:=trivial
theorem PySem.W.Fast.tw3975815575295868432:True:=trivial
theorem PySem.W.Fast.tw3986319793746969826:True:=trivial
theorem PySem.W.Fast.tw4005098032431837554:True:=trivial
theorem PySem.W.Fast.tw4033107537914462223:True:=trivial
theorem PySem.W.Fast.tw4049642154167886892:True:=trivial
theorem PySem.W.Fast.tw4068735187897772963:True:=trivial
theorem PySem.W.Fast.tw4086935267713093362:True:=trivial
theorem PySem.W.Fast.tw4136041160912589206:True:=trivial
theorem PySem.W.Fast.tw4142260155110723323:True:=trivial
theorem PySem.W.Fast.tw4340748239700567060:True:=trivial
theorem PySem.W.Fast.tw4343009582960106024:True:=trivial
theorem PySem.W.Fast.tw4377454524058154795:True:=trivial
theorem PySem.W.Fast.tw440471142720458645:True:=trivial
theorem PySem.W.Fast.tw4433447630859538532:True:=trivial
theorem PySem.W.Fast.tw4437891165696562574:True:=trivial
theorem PySem.W.Fast.tw4447651311712510061:True:=trivial
theorem PySem.W.Fast.tw445504267911360565:True:=trivial
theorem PySem.W.Fast.tw4486747408367612535:True:=trivial
theorem PySem.W.Fast.tw4529383031733034240:True:=trivial
theorem PySem.W.Fast.tw465259897367013353:True:=trivial
theorem PySem.W.Fast.tw4750250282400845605:True:=trivial
theorem PySem.W.Fast.tw4778170979281311460:True:=trivial
theorem PySem.W.Fast.tw4796978098316280638:True:=trivial
theorem PySem.W.Fast.tw486161158123821900:True:=trivial
theorem PySem.W.Fast.tw490993222813015211:True:=trivial
theorem PySem.W.Fast.tw492774094476930958:True:=trivial
theorem PySem.W.Fast.tw4942819204778717677:True:=trivial
theorem PySem.W.Fast.tw4990222238115566990:True:=trivial
theorem PySem.W.Fast.tw5061956476928771575:True:=trivial
theorem PySem.W.Fast.tw5118230396540844484:True:=trivial
theorem PySem.W.Fast.tw5157255915184389678:True:=trivial
theorem PySem.W.Fast.tw5160190132214789147:True:=trivial
theorem PySem.W.Fast.tw5171045981655298906:True:=trivial
theorem PySem.W.Fast.tw5174919504240119050:True:=trivial
theorem PySem.W.Fast.tw5231815616880395405:True:=trivial
theorem PySem.W.Fast.tw5235882983531149707:True:=trivial
theorem PySem.W.Fast.tw5274736941990403767:True:=trivial
theorem PySem.W.Fast.tw5345161837394371610:True:=trivial
theorem PySem.W.Fast.tw5354883755551589753:True:=trivial
theorem PySem.W.Fast.tw5357630892910319212:True:=trivial
theorem PySem.W.Fast.tw5386309642566720473:True:=trivial
theorem PySem.W.Fast.tw5400295709585843810:True:=trivial
theorem PySem.W.Fast.tw542813120577592291:True:=trivial
theorem PySem.W.Fast.tw5442906316997695831:True:=trivial
theorem PySem.W.Fast.tw5452460503975693195:True:=trivial
theorem PySem.W.Fast.tw5453709578467961700:True:=trivial
theorem PySem.W.Fast.tw5468466618495585152:True:=trivial
theorem PySem.W.Fast.tw5506969813049191398:True:=trivial
theorem PySem.W.Fast.tw551603144616460235:True:=trivial
theorem PySem.W.Fast.tw5524684293636857643:True:=trivial
theorem PySem.W.Fast.tw5569801690158559496:True:=trivial
theorem PySem.W.Fast.tw5585924059502885026:True:=trivial
theorem PySem.W.Fast.tw5616704203368561521:True:=trivial
theorem PySem.W.Fast.tw5636048909674005578:True:=trivial
theorem PySem.W.Fast.tw5642255730006483295:True:=trivial
theorem PySem.W.Fast.tw5670869283583249369:True:=trivial
theorem PySem.W.Fast.tw5732031142886704741:True:=trivial
theorem PySem.W.Fast.tw5754990111209308223:True:=trivial
theorem PySem.W.Fast.tw5756206872444086538:True:=trivial
theorem PySem.W.Fast.tw5763851371848824545:True:=trivial
theorem PySem.W.Fast.tw576875831767809305:True:=trivial
theorem PySem.W.Fast.tw5801581404112278223:True:=trivial
theorem PySem.W.Fast.tw5848393587760312173:True:=trivial
theorem PySem.W.Fast.tw5858418824039834868:True:=trivial
theorem PySem.W.Fast.tw5864432483632585314:True:=trivial
theorem PySem.W.Fast.tw5903583073282006467:True:=trivial
theorem PySem.W.Fast.tw5919311126585254511:True:=trivial
theorem PySem.W.Fast.tw5934102962742246117:True:=trivial
theorem PySem.W.Fast.tw5937419754480636725:True:=trivial
theorem PySem.W.Fast.tw5956109446633426854:True:=trivial
theorem PySem.W.Fast.tw6105027250224705066:True:=trivial
theorem PySem.W.Fast.tw6106269729130460327:True:=trivial
theorem PySem.W.Fast.tw6110073060199915502:True:=trivial
theorem PySem.W.Fast.tw6111465983240207343:True:=trivial
theorem PySem.W.Fast.tw6182908928833311698:True:=trivial
theorem PySem.W.Fast.tw626313218842509701:True:=trivial
theorem PySem.W.Fast.tw6268522994914061957:True:=trivial
theorem PySem.W.Fast.tw6276263930186661363:True:=trivial
theorem PySem.W.Fast.tw6299891862364879702:True:=trivial
theorem PySem.W.Fast.tw6326606017761780916:True:=trivial
theorem PySem.W.Fast.tw636580891794474235:True:=trivial
theorem PySem.W.Fast.tw6382230089403994943:True:=trivial
theorem PySem.W.Fast.tw6392317166837297945:True:=trivial
theorem PySem.W.Fast.tw6455036602204979308:True:=trivial
theorem PySem.W.Fast.tw6486934449941733533:True:=trivial
theorem PySem.W.Fast.tw6509308504445212349:True:=trivial
theorem PySem.W.Fast.tw652929962798646452:True:=trivial
theorem PySem.W.Fast.tw6643583815639525003:True:=trivial
theorem PySem.W.Fast.tw6706505656501573413:True:=trivial
theorem PySem.W.Fast.tw6709426029427223754:True:=trivial
theorem PySem.W.Fast.tw6720787445980643246:True:=trivial
theorem PySem.W.Fast.tw6725984495258458261:True:=trivial
theorem PySem.W.Fast.tw6727825172229614832:True:=trivial
theorem PySem.W.Fast.tw6756069051156400254:True:=trivial
theorem PySem.W.Fast.tw6756823257553361415:True:=trivial
theorem PySem.W.Fast.tw677056608964234133:True:=trivial
theorem PySem.W.Fast.tw6824745954076206510:True:=trivial
theorem PySem.W.Fast.tw686705121400942915:True:=trivial
theorem PySem.W.Fast.tw6913892367441330644:True:=trivial
theorem PySem.W.Fast.tw6968954680021919546:True:=trivial
theorem PySem.W.Fast.tw6969197399728937615:True:=trivial
theorem PySem.W.Fast.tw7116862568847837383:True:=trivial
theorem PySem.W.Fast.tw7166597530382435849:True:=trivial
theorem PySem.W.Fast.tw7185688482267043333:True:=trivial
theorem PySem.W.Fast.tw7300103556757211450:True:=trivial
theorem PySem.W.Fast.tw7320286358462639966:True:=trivial
theorem PySem.W.Fast.tw7337522961804933987:True:=trivial
theorem PySem.W.Fast.tw7342005772079030695:True:=trivial
theorem PySem.W.Fast.tw7357499013087999612:True:=trivial
theorem PySem.W.Fast.tw7365419813335177414:True:=trivial
theorem PySem.W.Fast.tw7375707196886528720:True:=trivial
theorem PySem.W.Fast.tw738675967684387428:True:=trivial
theorem PySem.W.Fast.tw7416584638134499524:True:=trivial
theorem PySem.W.Fast.tw7476117295560097663:True:=trivial
theorem PySem.W.Fast.tw7485096639344405264:True:=trivial
theorem PySem.W.Fast.tw7491823826342878488:True:=trivial
theorem PySem.W.Fast.tw7573229047402632072:True:=trivial
theorem PySem.W.Fast.tw7666411415851734163:True:=trivial
theorem PySem.W.Fast.tw7671257400917965697:True:=trivial
theorem PySem.W.Fast.tw7679782687523143513:True:=trivial
theorem PySem.W.Fast.tw7683164351225641994:True:=trivial
theorem PySem.W.Fast.tw7690278006745258215:True:=trivial
theorem PySem.W.Fast.tw7692354247449684027:True:=trivial
theorem PySem.W.Fast.tw7703669767643342478:True:=trivial
theorem PySem.W.Fast.tw7760397554462510763:True:=trivial
theorem PySem.W.Fast.tw7793308201183458181:True:=trivial
theorem PySem.W.Fast.tw7801757537066363047:True:=trivial
theorem PySem.W.Fast.tw789740366460363503:True:=trivial
theorem PySem.W.Fast.tw8031330112995426232:True:=trivial
theorem PySem.W.Fast.tw8098187060308718844:True:=trivial
theorem PySem.W.Fast.tw8098746242121436628:True:=trivial
theorem PySem.W.Fast.tw8128587390516442541:True:=trivial
theorem PySem.W.Fast.tw8166046225650196108:True:=trivial
theorem PySem.W.Fast.tw8225215215581689424:True:=trivial
theorem PySem.W.Fast.tw8361307100116861785:True:=trivial
theorem PySem.W.Fast.tw8372047635469893271:True:=trivial
theorem PySem.W.Fast.tw8443842476982713291:True:=trivial
theorem PySem.W.Fast.tw8532765866888434589:True:=trivial
theorem PySem.W.Fast.tw8534352159735440838:True:=trivial
theorem PySem.W.Fast.tw8534525485719497086:True:=trivial
theorem PySem.W.Fast.tw8571452814299306615:True:=trivial
theorem PySem.W.Fast.tw858054180406704775:True:=trivial
theorem PySem.W.Fast.tw8624173632993050861:True:=trivial
theorem PySem.W.Fast.tw8636736107079212573:True:=trivial
theorem PySem.W.Fast.tw8638992285507670957:True:=trivial
theorem PySem.W.Fast.tw8735568065186992180:True:=trivial
theorem PySem.W.Fast.tw8850310569750122892:True:=trivial
theorem PySem.W.Fast.tw8871059136280581494:True:=trivial
theorem PySem.W.Fast.tw8872193107187142390:True:=trivial
theorem PySem.W.Fast.tw8899499697883147124:True:=trivial
theorem PySem.W.Fast.tw8912477686826390156:True:=trivial
theorem PySem.W.Fast.tw9004420487786484967:True:=trivial
theorem PySem.W.Fast.tw9014157328393359135:True:=trivial
theorem PySem.W.Fast.tw910038336963871877:True:=trivial
theorem PySem.W.Fast.tw9120160437756142574:True:=trivial
theorem PySem.W.Fast.tw9170812563226505588:True:=trivial
theorem PySem.W.Fast.tw9172521574533212534:True:=trivial
theorem PySem.W.Fast.tw9188991382710122262:True:=trivial
theorem PySem.W.Fast.tw9218319234871412869:True:=trivial
theorem PySem.W.Fast.tw9256746097755674938:True:=trivial
theorem PySem.W.Fast.tw9256905244147598487:True:=trivial
theorem PySem.W.Fast.tw93109914529818394:True:=trivial
theorem PySem.W.Fast.tw9335920850379598217:True:=trivial
theorem PySem.W.Fast.tw933684830895508447:True:=trivial
theorem PySem.W.Fast.tw9396612669602046228:True:=trivial
theorem PySem.W.Fast.tw9507659891156996083:True:=trivial
theorem PySem.W.Fast.tw9535114575858601650:True:=trivial
theorem PySem.W.Fast.tw9545474208804660830:True:=trivial
theorem PySem.W.Fast.tw9568029919588074330:True:=trivial
theorem PySem.W.Fast.tw9652584899882674420:True:=trivial
theorem PySem.W.Fast.tw9758636151394540883:True:=trivial
theorem PySem.W.Fast.tw9832643249468601362:True:=trivial
theorem PySem.W.Fast.tw9835887210255496208:True:=trivial
theorem PySem.W.Fast.tw9977131253885235581:True:=trivial
open PySem PySem.W PyProof.Rows
set_option hygiene false in
local macro_rules | `(tactic| walk_at "zD1")=>`(tactic| ((try dsimp only);refine' My.dk KX G ?a ?l ?c ?k ?b;(case a=>k_is);(case l=>k_is);(case c=>k_is);(case k=>k_is);(case b=>exact λ_ _ _ _ _ _=>My.CG λ_=>rfl)))
set_option hygiene false in
local macro_rules | `(tactic| walk_at "zD2")=>`(tactic| ((try dsimp only);refine' My.dk KX G ?a ?l ?c ?k ?b;(case a=>k_is);(case l=>k_is);(case c=>k_is);(case k=>k_is);(case b=>exact λ_ _ _ _ _ _=>My.ln2 λ_ _=>rfl)))
set_option hygiene false in
local macro_rules | `(tactic| walk_at "zD3")=>`(tactic| ((try dsimp only);refine' My.dk KX G ?a ?l ?c ?k ?b;(case a=>k_is);(case l=>k_is);(case c=>k_is);(case k=>k_is);(case b=>exact λ_ _ _ _ _ _=>My.CH λ_ _ _=>rfl)))
set_option hygiene false in
local macro_rules | `(tactic| walk_at "zD4")=>`(tactic| ((try dsimp only);refine' My.dk KX G ?a ?l ?c ?k ?b;(case a=>k_is);(case l=>k_is);(case c=>k_is);(case k=>k_is);(case b=>exact λ_ _ _ _ _ _=>My.CB λ_ _ _ _=>rfl)))
set_option hygiene false in
local macro_rules | `(tactic| walk_at "zD5")=>`(tactic| ((try dsimp only);refine' My.dk KX G ?a ?l ?c ?k ?b;(case a=>k_is);(case l=>k_is);(case c=>k_is);(case k=>k_is);(case b=>exact λ_ _ _ _ _ _=>My.CP λ_ _ _ _ _=>rfl)))
set_option hygiene false in
local macro_rules | `(tactic| walk_at "zM1")=>`(tactic| ((try dsimp only);refine' My.Mp KX G ?a ?l ?c ?k ?b;(case a=>k_is);(case l=>k_is);(case c=>k_is);(case k=>k_is);(case b=>exact λ_ _ _ _ _ _=>My.CG λ_=>rfl)))
set_option hygiene false in
local macro_rules | `(tactic| walk_at "zM2")=>`(tactic| ((try dsimp only);refine' My.Mp KX G ?a ?l ?c ?k ?b;(case a=>k_is);(case l=>k_is);(case c=>k_is);(case k=>k_is);(case b=>exact λ_ _ _ _ _ _=>My.ln2 λ_ _=>rfl)))
set_option hygiene false in
local macro_rules | `(tactic| walk_at "zM3")=>`(tactic| ((try dsimp only);refine' My.Mp KX G ?a ?l ?c ?k ?b;(case a=>k_is);(case l=>k_is);(case c=>k_is);(case k=>k_is);(case b=>exact λ_ _ _ _ _ _=>My.CH λ_ _ _=>rfl)))
set_option hygiene false in
local macro_rules | `(tactic| walk_at "zM4")=>`(tactic| ((try dsimp only);refine' My.Mp KX G ?a ?l ?c ?k ?b;(case a=>k_is);(case l=>k_is);(case c=>k_is);(case k=>k_is);(case b=>exact λ_ _ _ _ _ _=>My.CB λ_ _ _ _=>rfl)))
set_option hygiene false in
local macro_rules | `(tactic| walk_at "zM5")=>`(tactic| ((try dsimp only);refine' My.Mp KX G ?a ?l ?c ?k ?b;(case a=>k_is);(case l=>k_is);(case c=>k_is);(case k=>k_is);(case b=>exact λ_ _ _ _ _ _=>My.CP λ_ _ _ _ _=>rfl)))
set_option hygiene false in
local macro_rules | `(tactic| walk_at "zM6")=>`(tactic| ((try dsimp only);refine' My.Mp KX G ?a ?l ?c ?k ?b;(case a=>k_is);(case l=>k_is);(case c=>k_is);(case k=>k_is);(case b=>exact λ_ _ _ _ _ _=>My.RY λ_ _ _ _ _ _=>rfl)))
set_option hygiene false in
local macro_rules | `(tactic| walk_at "zC")=>`(tactic| ((try dsimp only);refine' O3 KX G ?_;k_is))
set_option hygiene false in
local macro_rules | `(tactic| walk_at "zT")=>`(tactic| ((try dsimp only);refine' My.Pf (O3 KX G ?a);(case a=>k_is)))
set_option hygiene false in
local macro_rules | `(tactic| walk_at "zB")=>`(tactic| ((try dsimp only);refine' PySem.W.mg_none_of KX G ?_;k_is))
local macro_rules | `(tactic| walk_at "zS0")=>`(tactic| ((try dsimp only);refine' ⟨?h1,?h2,?h3,?h4⟩;(case h1=>k_is);(case h2=>k_is);(case h3=>k_is);(case h4=>k_is)))
local macro_rules | `(tactic| walk_at "zS1")=>`(tactic| ((try dsimp only);(show _=_);k_is))
local macro_rules | `(tactic| walk_at "zS2")=>`(tactic| ((try dsimp only);refine' ⟨?h1,?h2,?h3⟩;(case h1=>k_is);(case h2=>k_is);(case h3=>k_is)))
local macro_rules | `(tactic| walk_at "zS3")=>`(tactic| ((try dsimp only);(show _=_);kit_is))
local macro_rules | `(tactic| walk_at "zS4")=>`(tactic| ((try dsimp only);refine' ⟨?h1,?h2⟩;(case h1=>k_is);(case h2=>k_is)))
set_option maxRecDepth 100000 in
set_option maxHeartbeats 0 in
theorem PySem.Challenge.cw_pactway_k32_flat_holds : PySem.Challenge.rw_pactway_k32_flat.Holds := by
 w_on;o_law;k_head;(case hw=>w_witness2)
 k_fill
 refine L2.Gw (l:=PySem.Challenge.rw_pactway_k32_flat) (n:=63) (k:=17) (x:="_law_script") (CX:=L2.zC) (sp:=My.YN) rfl (by decide) rfl ⟨rfl,by decide,by decide⟩ (fun w h Y=>PySem.W.kIn_of Y) ?F ?S ?C
 case F=>
  intro w mg fa h KX G hmg
  have T:∃t:My.z4,My.Txt (L2.Ua KX) mg t∧mg "law" = some (.ref t.ao):=by
   dsimp only[L2.Ua]
   refine' My.R8 ?y
   case y=>
    dsimp only
    refine' ⟨⟨?zaa,?zab,?zac,?zad,?zae,?zaf,?zag,?zah,?zai,?zaj,?zak,?zal,?zam,?zan,?zao,?zap,?zaq,?zar,?zas,?zat,?zau,?zav,?zaw,?zax,?zay,?zaz,?zaA,?zaB,?zaC,?zaD,?zaE,?zaF,?zaG,?zaH,?zaI,?zaJ,?zaK,?zaL,?zaM,?zaN,?zaO,?zaP,?zaQ,?zaR,?zaS,?zaT,?zaU,?zaV,?zaW,?zaX,?zaY,?zaZ,?zba,?zbb,?zbc,?zbd,?zbe,?zbf,?zbg,?zbh,?zbi,?zbj,?zbk,?zbl,?zbm,?zbn,?zbo,?zbp,?zbq,?zbr,?zbs,?zbt,?zbu,?zbv,?zbw,?zbx,?zby,?zbz,?zbA,?zbB,?zbC,?zbD,?zbE,?zbF,?zbG,?zbH,?zbI,?zbJ,?zbK,?zbL,?zbM,?zbN,?zbO,?zbP,?zbQ,?zbR,?zbS,?zbT,?zbU,?zbV,?zbW,?zbX,?zbY,?zbZ,?zca,?zcb,?zcc,?zcd,?zce,?zcf,?zcg,?zch,?zci,?zcj,?zck,?zcl,?zcm,?zcn,?zco,?zcp,?zcq,?zcr,?zcs,?zct,?zcu,?zcv,?zcw,?zcx,?zcy,?zcz,?zcA,?zcB,?zcC,?zcD,?zcE,?zcF,?zcG,?zcH,?zcI,?zcJ,?zcK,?zcL,?zcM,?zcN,?zcO,?zcP,?zcQ,?zcR,?zcS,?zcT,?zcU,?zcV,?zcW,?zcX,?zcY,?zcZ,?zda,?zdb,?zdc,?zdd,?zde,?zdf,?zdg,?zdh,?zdi,?zdj,?zdk,?zdl,?zdm,?zdn,?zdo,?zdp,?zdq,?zdr,?zds,?zdt,?zdu,?zdv,?zdw,?zdx,?zdy,?zdz,?zdA,?zdB,?zdC,?zdD,?zdE,?zdF,?zdG,?zdH,?zdI,?zdJ,?zdK,?zdL,?zdM,?zdN,?zdO,?zdP,?zdQ,?zdR,?zdS,?zdT,?zdU,?zdV,?zdW,?zdX,?zdY,?zdZ,?zea,?zeb,?zec,?zed,?zee,?zef,?zeg,?zeh,?zei,?zej,?zek,?zel,?zem,?zen,?zeo,?zep,?zeq,?zer,?zes,?zet,?zeu,?zev,?zew,?zex,?zey,?zez,?zeA,?zeB⟩,?z⟩
    (case zcd | zce | zcf | zcg | zch | zci | zcj | zck | zcl | zcm | zcn | zco | zcp | zcq | zcr | zbR=>walk_at "zC")
    (case zbS | zbT | zbU | zbV=>walk_at "zT")
    (case zbW=>walk_at "zC")
    (case zbX | zbY | zbZ | zca | zcb | zcc=>walk_at "zT")
    (case zbE | zbF | zbG | zbH | zbI | zbJ | zbK | zbL | zbM | zbN | zbO | zbP | zbQ=>walk_at "zB")
    (case zcs=>(refine' My.Pf (My.Pf (My.Pf ⟨?a,?b⟩));(case a=>k_is);(case b=>exact⟨rfl,rfl,My.GO,My.GI⟩)))
    (case zct=>(refine' My.Pf (My.Pf (My.Pf ⟨?a,?b⟩));(case a=>k_is);(case b=>exact⟨rfl,rfl,My.WW,My.WY⟩)))
    (case zcu=>walk_at "zS0")
    (case zcv | zcw | zcx | zcy | zcz=>walk_at "zS1")
    (case zcA | zcB=>walk_at "zS0")
    (case zcC | zcD | zcE | zcF | zcG=>walk_at "zS1")
    (case zcH=>walk_at "zS0")
    (case zcI | zcJ | zcK=>walk_at "zS2")
    (case zcL=>walk_at "zS0")
    (case zcM | zcN | zcO | zcP | zcQ=>walk_at "zS1")
    (case zcR=>walk_at "zS2")
    (case zcS=>walk_at "zS0")
    (case zcT | zcU=>walk_at "zS2")
    (case zcV=>walk_at "zS0")
    (case zcW | zcX | zcY | zcZ | zda=>walk_at "zS1")
    (case zdb=>walk_at "zS0")
    (case zdc | zdd | zde=>walk_at "zS2")
    (case zdf=>walk_at "zS0")
    (case zdg | zdh | zdi | zdj | zdk=>walk_at "zS1")
    (case zdl=>walk_at "zS0")
    (case zdm | zdn | zdo=>walk_at "zS2")
    (case zdp=>walk_at "zS0")
    (case zdq | zdr=>walk_at "zS1")
    (case zds | zdt=>walk_at "zS0")
    (case zdu | zdv | zdw=>walk_at "zS1")
    (case zdx | zdy=>walk_at "zS0")
    (case zdz | zdA | zdB | zdC=>walk_at "zS1")
    (case zdD | zdE=>walk_at "zS0")
    (case zdF | zdG | zdH=>walk_at "zS1")
    (case zdI=>walk_at "zS0")
    (case zdJ | zdK | zdL | zdM | zdN | zdO | zdP | zdQ=>walk_at "zS2")
    (case zdR=>walk_at "zS0")
    (case zdS | zdT | zdU=>walk_at "zS1")
    (case zdV=>walk_at "zS0")
    (case zdW | zdX | zdY | zdZ | zea | zeb | zec=>walk_at "zS2")
    (case zed | zee=>walk_at "zS0")
    (case zef | zeg | zeh | zei | zej | zek | zel | zem | zen | zeo | zep | zeq | zer | zes=>walk_at "zS3")
    (case zet | zeu=>walk_at "zS1")
    (case zev | zew | zex | zey | zez | zeA | zeB=>walk_at "zS4")
    (case zaa | zab | zac=>walk_at "zM2")
    (case zad=>walk_at "zM4")
    (case zae | zaf | zag=>walk_at "zM1")
    (case zah=>walk_at "zM6")
    (case zai | zaj | zak | zal=>walk_at "zM1")
    (case zam=>walk_at "zM5")
    (case zan | zao=>walk_at "zM1")
    (case zap=>walk_at "zM5")
    (case zaq | zar=>walk_at "zM1")
    (case zas=>walk_at "zM3")
    (case zat=>walk_at "zM4")
    (case zau=>walk_at "zM5")
    (case zav | zaw=>walk_at "zD1")
    (case zax | zay=>walk_at "zD3")
    (case zaz=>walk_at "zD2")
    (case zaA | zaB | zaC | zaD=>walk_at "zD1")
    (case zaE | zaF=>walk_at "zD2")
    (case zaG=>walk_at "zM2")
    (case zaH=>walk_at "zM4")
    (case zaI=>walk_at "zM3")
    (case zaJ=>walk_at "zM1")
    (case zaK | zaL | zaM | zaN=>walk_at "zM2")
    (case zaO=>walk_at "zM3")
    (case zaP=>walk_at "zD1")
    (case zaQ=>walk_at "zD4")
    (case zaR=>walk_at "zD3")
    (case zaS=>walk_at "zD4")
    (case zaT=>walk_at "zD2")
    (case zaU=>walk_at "zD1")
    (case zaV=>walk_at "zD5")
    (case zaW=>walk_at "zD1")
    (case zaX | zaY=>walk_at "zD2")
    (case zaZ | zba=>walk_at "zM1")
    (case zbb=>walk_at "zM2")
    (case zbc=>walk_at "zM1")
    (case zbd | zbe | zbf=>walk_at "zM2")
    (case zbg=>walk_at "zM1")
    (case zbh | zbi | zbj=>walk_at "zD2")
    (case zbk | zbl | zbm=>walk_at "zD1")
    (case zbn | zbo | zbp | zbq=>walk_at "zD4")
    (case zbr=>walk_at "zD3")
    (case zbs=>walk_at "zD2")
    (case zbt=>walk_at "zD4")
    (case zbu=>walk_at "zD3")
    (case zbv | zbw=>walk_at "zD4")
    (case zbx=>walk_at "zD2")
    (case zby=>walk_at "zD1")
    (case zbz=>walk_at "zD2")
    (case zbA=>walk_at "zD1")
    (case zbB | zbC=>walk_at "zD2")
    (case zbD=>walk_at "zD1")
    (case z=>exact PySem.W.mg_of KX G (by k_is))
  obtain⟨t,T,hl⟩:=T
  have e0:=hmg.symm.trans hl
  cases e0
  exact⟨_,My.K4 T,fun base kb nb=>My.Yh T⟩
 case S=>exact fun K H a ns hl hO hS=>My.K5 hl hO hS
 case C=>exact fun _ _ _ _ z=>z
