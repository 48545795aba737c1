import PyProof.Rows.All
import OpenK.KLine
import Open.Tops
import Wide.FinOn
import KE.KRevSl
import KE.KItem
import KE.KxWritten
import KE.KFromBytes
import KE.LcSums
import KE.KBits
import KE.KTryMore
import KE.KDictOf
import PyProof.AttrMissHeap
import KE.KEqDict
import KE.KSortTup
import PyProof.DictItems
import PyProof.DictItemsLoops
import KE.KPairComp
import KE.KDictList
import PyProof.DictTruth
import PyProof.DictCompW
import KE.KUnpackStar
import PyProof.ZipIter
import KE.KIntText
import KE.KRevIter
import PyProof.Rows.FactsT2
import PyProof.FactsAll.range_2
import PyProof.StrWalks
import PyProof.StrCalls2
import PyProof.StrLawsChain
import PyProof.StrLawsTight
import PyProof.CallStr
import PyProof.Rows.StrJoin2
import PyProof.Rows.StrFin3
import KE.KUnpack
import PySem.Challenge.RW_widewords_k58_sentences_asked_in_a_run
set_option Elab.async false
set_option linter.all false
set_option maxRecDepth 100000
set_option maxHeartbeats 0
local macro_rules
 | `(#print $s:str)=>do
  let n:=fun (x:Lean.Name)=>Lean.mkIdent (`PySem.W.Fast++.mkSimple s!"tw{x.hash}")
  let mut a:=#[n `PySem.Challenge.pw_widewords_k58_sentences_asked_in_a_run]
  for e in s.getString.splitOn "|" do
   let f:=e.splitOn " "
   let mut p:=0
   for r in f.tail! do
    let g:=(r.splitOn ".").map String.toNat!
    p:=p+g[0]!
    for j in [0:g.getD 1 0+1] do a:=a.push (n (.mkStr2 "sh" (f[0]!++toString (p+j))))
    p:=p+g.getD 1 0
  return Lean.mkNullNode (←a.mapM λx=>return (←`(command|noncomputable def $x:ident:=Nat)).raw)
#print "env_ 1|o_ 1 2.2 2 2.8 2.7 2 2.4 2.6 2 2.4 2.6 2 2.4 2.6 2 2.4 2.7 2.5 2.5 2.2 2 2.14 2.5 2.5 2.5 2.5 2.4 4 2 2.5 2.5 2.8 2.2 2.11 2 2 2.3 2.3 2.5 2.5 2.3 2.5 2.3 2.5 2.2 2 2.3 2.2 2.5 2.5 2.5 2.5 2.3 2.5 2.11 2 2 2.5 2.5 2.3 2.5 2.5 2.5 2.5 2.5 2.5 2.5 2.5 2.4 2 2 2.5 2.5 2.5 2.5 2.5 4 2.3 2.2 2.5 2.5 2.5 2.5 2.5 2.5 2.5 2.5 2.5 2.11 2 2 2.5 2.5 2.3 2.5 2.5 2.5 2.5 2.5 2.5 2.5 2.4 2 2 2.5 2.5 2.5 2.5 2.5 2.5 2.5 2.5 2.3 2.5 2.4 2 2 2.5 2.5 2.5 2.3 2.5 2.5 2.5 2.4|sts_ 4 24 16 16 16 35 54 45 56 64 85 41 87 78 78|tree_ 4 22 16 16 16 35 52 47 56 64 85 39 89 78 78 57"
open_shared sh for PySem.Challenge.pw_widewords_k58_sentences_asked_in_a_run leaving 0
namespace hh
open PySem PySem.W PySem.Calls PyProof.Rows
noncomputable abbrev p:=PySem.Challenge.pw_widewords_k58_sentences_asked_in_a_run
abbrev z:Pos:=⟨0,0,0,0⟩
abbrev an:Option Value:=some (.ref 6)
noncomputable abbrev bE:=behindTheImports p
noncomputable abbrev cE:Code:=.body bE sh.env_1
noncomputable abbrev H1(P:Params):Heap:=absHeap (sh.tree_754 P) 713 {}
noncomputable abbrev S0(w:World)(os:OsState):Shared:=⟨boot_heap w.params,⟨[]⟩,boot_drawn,boot_toks,os⟩
noncomputable abbrev Sb(w:World)(os:OsState):Shared:=SharedT.abs ⟨sh.tree_4 w.params,15,{},⟨[]⟩,{},187,os⟩
noncomputable abbrev Sk(w:World)(os:OsState):Shared:=SharedT.abs ⟨sh.tree_754 w.params,713,{},⟨[]⟩,{},1291,os⟩
theorem pre(w os):topGo treeTable p w 11 an 12 (S0 w os) (topStub p)=some (Sb w os,⟨denote treeTable cE,cE,z,[topFrame z]⟩):=by kernel_rfl
theorem blk(w os):segRun treeTable p w 11 an 1 1 (Sb w os) (blockOf bE sh.env_1 cE z [topFrame z])=some (.next,Sb w os,cE,z):=by kernel_rfl
theorem fin(w os):topRun treeTable p w 11 an 2 (Sk w os) (restOf [] sh.env_1 cE ⟨519,0,530,132⟩ [topFrame z])=some (Sk w os):=by kernel_rfl
theorem bod:bE=sh.sts_4++(sh.sts_28++(sh.sts_44++(sh.sts_60++(sh.sts_76++(sh.sts_111++(sh.sts_165++(sh.sts_210++(sh.sts_266++(sh.sts_330++(sh.sts_415++(sh.sts_456++(sh.sts_543++(sh.sts_621++(sh.sts_699++[])))))))))))))):=by kernel_rfl
theorem run(w os):topRun treeTable p w 11 an (12+(1+(225+(214+(214+(214+(327+(400+(380+(297+(426+(381+(324+(521+(386+(370+(272+2))))))))))))))))) (S0 w os) (topStub p)=some (Sk w os):=by
 refine go_top (pre w os) (piece_block (blk w os) ?_)
 have h:=sh.chain p bE w os [] 2 (Sk w os) (fin w os)
 rw[<-bod] at h
 exact h
noncomputable def q:Program:=view p [96]
noncomputable abbrev lo:List Str:=p.boundNames
theorem look(w:World):(fun os=>((staticsOk (importedModules p.main.body) (boot_heap w.params) (H1 w.params) && namesBound p (H1 w.params) && gensDone (Sk w os) && laidKept (boot_heap w.params) (H1 w.params)),openSeen q lo (importedModules p.main.body) (fun _=>true) true (Sk w os),(Sk w os).heap))=fun _=>(true,openGood q lo,H1 w.params):=by kernel_rfl
theorem left:LeftO p q lo (fun _=>true) Shared.heap (fun w=>H1 w.params) 9998:=.of_pieces (boot_open (by kernel_rfl) (by kernel_rfl) fun s=>by kernel_rfl) (fun w=>by kernel_rfl) run (by kernel_rfl) look
theorem inA{t:BT}{n:Nat}{f:Life}{K:Frag}(h1:K.all (fun x=>Nat.blt x.1 n)=true)(h2:K.map (fun x=>t.get x.1)=K.map fun x=>some x.2)(h3:K.map (fun x=>alive x.2)=K.map fun x=>some x.2):K.In (absHeap t n f):=by
 intro a o e
 induction K with
 | nil=>cases e
 | cons x r ih=>
  obtain ⟨b,y⟩:=x
  simp only[List.map_cons,List.cons.injEq,List.all_cons,Bool.and_eq_true] at h1 h2 h3
  by_cases hb:(a==b)=true
  · rw[List.lookup_cons,hb] at e
    cases e
    have:=beq_iff_eq.mp hb
    subst this
    rw[abs_get (Nat.le_of_ble_eq_true h1.1) h2.1]
    exact h3.1
  · rw[List.lookup_cons,eq_false_of_ne_true hb] at e
    exact ih h1.2 h2.2 h3.2 e
local macro_rules
 | `(panic! $s:str)=>do
  let mut v:=#[]
  let mut p:=0
  let mut q:=0
  for r in s.getString.splitOn " " do
   if let g::l::m:=(r.splitOn ",").map String.toNat! then
    let i:=m.headD (q+g)
    p:=p+g
    for j in [0:l] do v:=v.push (p+j,if i==0 then .str `PySem.W s!"boot_o_{p+j}" else .str `sh s!"o_{i+j}")
    p:=p+l
    q:=i+l
  let mut a ← `(List.nil)
  for (x,o) in v.reverse do a ← `(List.cons (nat_lit $(Lean.Syntax.mkNumLit (toString x)),$(Lean.mkIdent o) P) $a)
  `(fun P=>$a)
noncomputable def KK:Params->Frag:=panic! "2,1,0 0,1,699 11,1,7 1,2 1,3 6,2 0,1,78 0,1,24 2,1,31 6,3 2,1,47 6,3 2,1,63 6,3 2,1,79 6,3 2,1 1,2 1,3 1,2 1,3 2,2 0,15,113 1,2 1,3 1,2 1,3 1,2 1,3 1,2 1,3 1,2 1,2 0,1,167 1,2 1,3 1,2 1,3 1,2 1,2 7,1 1,2 1,7 2,1,212 2,3 2,3 1,2 1,3 1,2 1,3 2,3 1,2 1,3 2,3 1,2 1,3 2,2 7,1,275 1,2 1,3 1,2 1,3 1,2 1,3 1,2 1,3 2,3 1,2 1,3 1,2 1,7 2,1,332 1,2 1,3 1,2 1,3 2,3 1,2 1,3 1,2 1,3 1,2 1,3 1,2 1,3 1,2 1,3 1,2 1,3 1,2 1,3 1,2 1,3 1,2 1,2 0,1,417 1,2 1,3 1,2 1,3 1,2 1,3 1,2 1,3 1,2 1,3 7,1,465 1,2 1,3 1,2 1,3 1,2 1,3 1,2 1,3 1,2 1,3 1,2 1,3 1,2 1,3 1,2 1,3 1,2 1,3 1,2 1,7 2,1,545 1,2 1,3 1,2 1,3 2,3 1,2 1,3 1,2 1,3 1,2 1,3 1,2 1,3 1,2 1,3 1,2 1,3 1,2 1,3 1,2 1,2 0,1,623 1,2 1,3 1,2 1,3 1,2 1,3 1,2 1,3 1,2 1,3 1,2 1,3 1,2 1,3 1,2 1,3 2,3 1,2 1,3 1,2 1,2 0,1,701 1,2 1,3 1,2 1,3 1,2 1,3 2,3 1,2 1,3 1,2 1,3 1,2 1,3 1,2 1,2"
theorem inK(w:World):InK KK w (H1 w.params):=inA (K:=KK w.params) (by kernel_rfl) (by kernel_rfl) (by kernel_rfl)
theorem hd{d:DefRec}{k:List (Str×Expr)}(a:defOf q "law"=some (d,k))(b:p.theDef "law"=some (d.params,d.body,d.scope))(c:kwWritten? d.params.kwonlyargs d.params.kw_defaults=some k)(h:WalkO q lo (fun _ _=>True) (InK KK) PySem.Challenge.rw_widewords_k58_sentences_asked_in_a_run.row.toRowW d k fun f vs=>PySem.call f vs):PySem.Challenge.rw_widewords_k58_sentences_asked_in_a_run.Holds:=by
 w_on;o_law
 refine holds_open left (YP:=InK KK) (XP:=fun _ _=>True) (fun w s e=>e ▸ inK w) InK.keeps (fun _ _=>trivial) (fun _ _ _ _ _=>trivial) a b c (fun s _=>recFacts_nil rfl) (by rfl) (by assumption) (by decide +kernel) ⟨rfl,rfl,rfl,rfl,rfl,by decide +kernel⟩ ?hw h
 w_witness2
end hh
local macro_rules|`(⋯)=>`((by decide))
local macro_rules|`(∅)=>`((by lia))
set_option compiler.extract_closed false
set_option bootstrap.genMatcherCode false
set_option genSizeOf false
local macro_rules | `(tactic| ac_rfl)=>`(tactic| with_unfolding_all rfl)
open _root_ renaming List->Hx,Nat->Hy,Int->Hz,decide_eq_true_eq->IA,Bool->IB,if_pos->ID,if_neg->IE,if_true->IF,absurd->IG,beq_eq_false_iff_ne->IH,or_false->II,decide_eq_false->IJ,False->IK,if_false->IL,congrArg->IM,decide_true->IN,Array->IP,decide_eq_true->IQ,decide_false->IR,of_decide_eq_true->IT,String->IU,beq_iff_eq->IV,beq_self_eq_true->IW,DecidableEq->IX,cond_false->IY,Unit->IZ,cond_true->Ia,bne_iff_ne->Ib,or_self->Ic
open Option renaming some->AA,none->AF,isSome_iff_exists->Ak,bind_some->BO,map_some->B3,getD_some->B6,any_eq_true_iff_get->Cj,get_some->Ep,getD_none->GR
open Bool renaming false->AC,true->AD,and_eq_true->AL,false_ne_true->AR,true_and->Az,and_eq_true_iff->BU,false_and->B9,not_eq_true'->Bb,or_eq_true->Bc,and_assoc->Bm,and_true->CA,false_eq_true->CD,not_true->Cv,and_self->D1,eq_iff_iff->Ga,or_false->HC,false_or->HG,true_or->HR
open PySem.Str renaming ofString->AE,empty->GO
open PySem.W renaming Frag->AG,findIn->Ah,keepIn->An,nsIn->BD,kitOne->BH,emptyDict->BZ,fnOf->Ba,instObj->Bs,codeIn->CJ,kia_one->Ca,plainGet->Cn,isFn->Co,hideAll->DC,callWith_K->DD,hasDictIn->DJ,cellsFrom_some->DM,makesIn->D6,plainGet_of->Dg,callWith_K0->Dh,lookIn->Dv,methodObj->EJ,plainOver->EK,mg_of->ET,OpenLaw->E5,takerIn->Eo,methodCall_KW->Ey,hideAll_get->FR,of_hideAll->F6,codeRec_of->F8,handedIn->GN,WalkO->Gf,exmOne->Gv,subIn->HD,mroIn->HE,clsIn->HF,Rel2->HU
open PySem renaming Value->AH,wpAny_bind->AI,Shared->AJ,Addr->AK,Str->AT,Expr->AW,wpAny_pure->AX,Program->A4,wpAny->A6,World->Ae,Around->Af,Heap->Au,FuncData->Av,Env->BG,wpAny_Call_Name_kw->BM,Scope->BN,wpAny_field->BQ,wpAny_truthy_bool->BR,wpAny_callSpecial?_slot->B5,wpAny_newObj_type->B8,Obj->Be,Pos->Bf,Stmt->Bg,Keyword->Bo,DictEntry->CB,wpAny_seqItems->CF,wpAny_mono->CG,wpAny_pyIter_tuple->CL,wpAny_passesOwn->CP,IsPair->CV,mem_of_lookup->CY,wpAny_call_entry->CZ,wpAny_setField_rec->C8,wpAny_holding->Cy,wpAny_standAt->Cz,sizeLine_eq->DF,Operator->DI,NameKind->DL,strKind_is->DX,wpAny_execs_nil->D5,CmpOp->De,codeAny_mono->Di,wpAny_newFunctionEnv_cells->Dx,IsZip->EN,wpAny_comprehension_free->ER,wpAny_eqBool_int->EV,PassesOwn->EX,noFill_tuple_add->EZ,wpAny_rule->E8,wpAny_pyNext_range_end->E9,wpAny_pyIter_rangeiter->Ea,Result->Eb,BindsTo->Ec,IsPart->Ee,wpAny_isTrue_Compare1->Et,codeAny_call_function->Eu,wpAny_loadName_local->FE,IsRangeIter->FF,wpAny_setField->FI,wpAny_updateSeq_pair->FJ,wpAny_loadName_cell->FT,seq_tuple_add->FZ,wpAny_onRaise->F1,wpAny_pyIter_range->F7,Within->Fd,wpAny_assign_Name->Ff,concat_meets->Fm,wpAny_sequenceKey->Fp,wpAny_typeOf->Fq,slot_list_getitem->Ft,wpAny_pyIter_enum->Fw,wpAny_pyIter_list->Fx,ZipApart->GB,wpAny_eqBool_str->GJ,wpAny_isInstance->GL,wpAny_execs_cons->GM,wpAny_Dict_empty->GS,wpAny_pyIter_zip->GZ,wpAny_getItem_of->G0,seqIndex_of->G4,wpAny_specialOf->G7,Sem->Gd,Paired->Gh,wpAny_Name->Gj,wpAny_call->Gm,typeIs_str->Go,call->Gp,Builtin->HP,BoolOp->HW,Tok->Hn
open List renaming mem_cons_of_mem->AM,map_cons->AN,mem_cons_self->AO,length_cons->AQ,mem_cons->AV,getElem?_cons_succ->AY,getElem?_set_ne->AZ,getElem?_cons_zero->A1,mem_of_getElem?->A3,size_toArray->A7,length_append->A8,not_mem_nil->A9,mem_append_right->Ab,getElem?_set_self->Ac,getElem?_append_left->Ad,set_cons_zero->Ag,set_cons_succ->Ai,length_map->Aj,replicate->Am,length_nil->Ap,all_cons->Aq,getElem?_append_right->Ar,mem_singleton->As,mem_append->Aw,getElem?_eq_some_iff->Ax,map_nil->Ay,all_eq_true->BA,nil_append->BB,getElem?_eq_none->BE,cons_append->BF,mem_append_left->BJ,length_set->BV,lookup_cons->BX,getElem?_map->Bp,append_nil->Bt,find?_cons->Bu,any_cons->By,countP_append->CN,lookup->CS,filterMap_cons->CW,length->C5,map_append->Cb,getElem?_set->Cg,forIn_cons->DB,countP_cons_of_neg->DH,filterMap->DP,set_set->DQ,mem_iff_getElem?->DU,length_take->DV,any_eq_true->DW,sum_cons->D0,nodup_cons->D7,of_mem_zip->D8,foldl_cons->Da,getElem?_concat_length->Dm,mem_map->Dn,mem_filterMap->Dt,zip_cons_cons->EA,getElem?_eq_none_iff->EF,drop_eq_getElem_cons->EG,pairwise_iff_getElem->EH,append_assoc->EM,ext_getElem?->EO,getElem?_eq_getElem->ES,getElem?_replicate->EY,length_drop->E1,range->E7,take_of_length_le->Ej,contains_iff_mem->FA,countP->FL,length_pos_iff->FW,isEmpty_cons->Fz,reverse_cons->GF,sum_nil->GH,isEmpty_nil->GT,take_length->GU,drop_length->GV,zipIdx_cons->GX,countP_true->G1,mem_flatMap->G3,mem_filter->G8,zipIdx_nil->Gc,mem_range->Gi,forIn_nil->Gr,set_comm->HB,dropLast->HI
open Nat renaming le_refl->AS,lt_of_lt_of_le->Aa,ne_of_lt->Ao,pow_le_pow_right->BK,zero_le->BP,le_trans->BW,reduceSub->Bz,zero_add->CT,le_mul_of_pos_right->C2,le_succ->C4,lt_or_ge->C9,mul_le_mul->Ck,ne_of_gt->Cm,le_add_right->Cp,lt_irrefl->Cw,and_two_pow_sub_one_eq_mod->DY,reduceAdd->D3,reduceLeDiff->E4,add_le_add->FN,add_le_add_left->FX,lt_of_le_of_lt->Fb,le_of_lt->Fe,le_of_eq->Fh,le_succ_of_le->GA,lt_succ_self->GP,add_assoc->HA,lt_trans->HS,add_comm->HZ,succ_mul->Ha,log2_lt->Hi
open PySem.Heap renaming get?_push_of_some->AU,lt_size->A2,get?_push_size->A5,size_push->Bl,SameBut->C6,get?_update_other->DO,get?_update_self->Ew,IsTuple->Fu,MadeExcOf->Gq,FlyingW->HQ
open Option.some renaming inj->A0
open PySem.Value renaming ref->Al,none->Br,bool->Dp,int->EU,type->F5,str->GI,isStrOf->Gz,isInt->Hb,bytes->Hc,float->Hd
open PyProof.Rows renaming slot_tuple_getitem->BC,callWith_type1->BS,AllBare->DZ,assignInOrder_cons->Ds,IntsAre->Ef,subscriptTail_builtinR->Eg,tupleItemsOf_->FQ,entry_tuple_getitem->FU,args_tuple_getitem->F9,assignInOrder_nil->Fg,callWith_builtin1->GQ,boot_isinstance->Gb,iadd_int->Ge,boot_range->Gk,Subscript_->Gn
open Ne renaming symm->BI
open PySem.Builtin.SmallTypes renaming nextOf->BL,ownedTupleIsFree->B0,ownedTupleHandOut->Ct
open False renaming elim->BY
open PySem.PyData renaming depthAll->B1,depth->B7,canLay0->Bj,eqv->CC,canLayAll0->CQ,eqvAll->Cc,keyHash->EB
open Int renaming emod_lt_of_pos->B4,pow_pos->Bd,toNat_natCast->Bq,emod_nonneg->Bv,mul_le_mul_of_nonneg_right->C1,mul_one->C3,toNat_of_nonneg->Cu,mul_nonneg->DR,ediv_nonneg->Dc,fdiv_eq_ediv_of_nonneg->Du,one_mul->EL,ediv_one->Ed,pow_succ->El,mul_comm->Em,le_of_lt->En,natCast_pow->Es,emod_add_mul_ediv->FB,ediv_lt_of_lt_mul->FD,le_refl->FK,le_of_lt_add_one->FM,pow_zero->GG,natCast_emod->G2,mul_add->G6,mul_le_mul->Gx,add_assoc->HH,mul_assoc->HJ,add_comm->HX,ofNat_le->HY,pow_add->Hk,pow_mul->Hl
open PySem.Challenge renaming rw_widewords_k58_sentences_asked_in_a_run->Bi,pw_widewords_k58_sentences_asked_in_a_run->D2
open PySem.Builtin renaming bitAnd->Bk,bitXor->FG,bitOr->FY,bitNot->Gw
open PySem.Builtin.Range renaming rangeSize->Bn,rangeFitsLong->Gg,small->Hm
open Array renaming length_toList->Bw,append_assoc->Dq,getElem?_eq_some_iff->Dz,forIn_toList->F4,toList->Fc
open PySem.F renaming slot_tuple_iterator_next->CK,args_tuple_add_2->DA,entry_tuple_add->DG,slot_tuple_add->DN,slot_dict_get->DS,args_tuple_iterator_next_1->D9,slot_zip_next->Db,entry_tuple_iterator_next->Dj,slot_dict_getitem->EI,args_dict_get_3->E2,plainAttrs_list->E3,entry_dict_get->Ek,slot_list_append->Ex,slot_list_insert->Ez,args_zip_next_1->GE,entry_zip_next->GY
open PySem.Heap.FunFrames renaming mem->CM
open PySem.Builtin.Slice renaming slicePlaces->CO,sliceAdjust->Cq,sliceApplied->Dy,slicePartIndex->G9,sliceFields->Gy
open PySem.Builtin.Tuple renaming tupleExact->CU,tupleItemsOf->Ch,tupleHashOf->ED
open True renaming intro->C7
open PySem.NameKind renaming free->Cd,cell->F0
open Eq renaming refl->Cf
open PySem.Value.type renaming inj->Ci
open PySem.Builtin.Int renaming intBits->Cr
open PySem.Builtin.Str renaming occurrences->DE,strSliceIndices->Dl,subAt->Fy
open ForInStep renaming yield->D4
open PUnit renaming unit->Do
open PySem.Calls renaming Name_function_global->Dr,spliced_cons->Dw,callWith_builtin->Ei,evalArgs_plain->FH,spliced_nil->Fk
open PySem.ScopeKind renaming function->EC
open PySem.Paired renaming length->EQ,snoc->Hj
open PySem.Around renaming in1_units->EW,under->Fi
open PySem.Obj renaming mapSeq->Eh,data_mapFields->Fa
open Sum renaming inl->FO,inr->FP
open PySem.Heap.SameBut renaming update->FV,refl->Hv
open PySem.SeqAt.EqAt renaming int_str->F2,str_int->F3
open PySem.Code renaming isFrame->Fj,frames->Hh
open PySem.WalksT renaming enumerateD->Fv
open PySem.Txt renaming removeprefix->GW
open PySem.Shared renaming heap->G5
open PySem.Builtin.List renaming listFitsIndex->Gu
open PySem.Flow renaming next->HK
open PySem.Heap.UpToSlots renaming of_keeps->HL
open PySem.NumText renaming AllDigits->HM
open And renaming intro->HN
open PySem.SeqAt renaming shaped->HV,EqAt->Hr
open PySem.Data renaming fields->He
open PySem.Walks renaming range->Hf
open PySem.IsRange renaming new->Hg
open PySem.W.Looks renaming here->Ho
open PySem.Heap.IsSliceOf renaming new->Hq
open PySem.W.WShape renaming has->Hs
open PySem.Within renaming cons->Ht
open List.Pairwise renaming nil->Hu
open PySem.W.WData renaming int->Hw
noncomputable section
open Lean in
def cnvP:Hy->Syntax->MacroM (TSyntax `rcasesPat)
 |0,_=>Macro.throwUnsupported
 |n+1,s=>do
  if s.isOfKind ``Lean.Parser.Term.anonymousCtor||s.isOfKind ``«term#[_,]» then `(rcasesPat| ⟨$[$(← s[1].getSepArgs.mapM (cnvP n)):rcasesPat],*⟩)
  else if s.isIdent then `(rcasesPat| $(⟨s⟩):ident)
  else if s.isOfKind ``Lean.Parser.Term.hole then `(rcasesPat| _)
  else Macro.throwUnsupported
local macro_rules | `(tactic| let $p:term := $e)=>do `(tactic| obtain $(← cnvP 9 p):rcasesPat := $e)
local macro_rules | `(tactic| erw [$rs,*] $(l)?)=>do
 let t<-rs.getElems.flatMapM λ|`(Lean.Parser.Tactic.rwRule| $t:term)=>(if t.raw.isOfKind `ident then (if t.raw.getId== `ev then "ve1 ve2 ve3 ve4 ve5 ve6 ve7 ve8 ve9 vxq9 ve11 ve12 ve13 ve15 ve16 ve17 ve18 ve19 ve20 ve21 vxq20 ve24 ve25 ve28 ve29 ve32 ve33 ve37" else if t.raw.getId== `ex then "xrq0 xrq1 xrq2 xrq3 xrq4 xrq5 xrq6 xrq7 xrq8 xrq9 xrq10 xrq11" else "").splitOn " " else [""]).toArray.mapM λs=>if s=="" then `(Lean.Parser.Tactic.simpLemma| $t:term)else `(Lean.Parser.Tactic.simpLemma| $(Lean.mkIdent (`IC++s.toName)):term)|_=>Lean.Macro.throwUnsupported
 `(tactic| simp only[$t,*] $(l)?)
local macro_rules | `(fun $bs* => $b)=>do
 if !(bs.any λx=>x.raw.isOfKind ``Lean.Parser.Term.anonymousCtor||x.raw.isOfKind ``«term#[_,]»)||(b.raw.find? λx=>x.isOfKind ``Lean.Parser.Term.syntheticHole).isSome then Lean.Macro.throwUnsupported
 `(by rintro $[$(← bs.mapM λx=>cnvP 9 x.raw):rcasesPat]*;exact $b)
set_option backward.eqns.nonrecursive false
local macro_rules (kind:=Lean.Parser.Command.declaration)
 |s=>do
  if s.getPos?.isNone then Lean.Macro.throwUnsupported
  let s:=s.rewriteBottomUp fun|.atom _ v=>.atom .none v|.ident _ r v p=>.ident .none r v p|.node _ k a=>.node .none k a|x=>x
  let k:=s[1].getKind
  unless (k==``Lean.Parser.Command.definition||k==``Lean.Parser.Command.abbrev)&&s[0].getArgs.all (·.isNone) do return s
  if k==``Lean.Parser.Command.definition&&(toString s[1][1][0].getId).startsWith "z" then
   let m←`(theorem x:True:=trivial)
   return s.setArg 1 (((m.raw[1].setArg 1 s[1][1]).setArg 2 (Lean.mkNode ``Lean.Parser.Command.declSig #[s[1][2][0],s[1][2][1][0]])).setArg 3 s[1][3])
  let m←`(noncomputable def x:=0)
  return s.setArg 0 m.raw[0]
local macro_rules|`(())=>`((by lia))
local macro_rules|`(#[$x,*])=>`(⟨$x,*⟩)
local macro_rules|`(∅)=>`((by decide +kernel))
namespace L2
open PySem PySem.Spec PyProof.Rows
abbrev Key:=Sum Hz AT
def ybp:Key->AH->IB
 |.inl k,v=>Hb k v
 |.inr x,v=>Gz x v
def yfS(w:Ae):Key->Hz
 |.inl k=>hashInt k
 |.inr x=>hashStr w x
def zn:∀{k}{v:AH},ybp k v=AD->(∃i t,k=FO i/\v=EU i t) \/ (∃x t,k=FP x/\v=GI x t)
 |.inl i,v,h=>by let#[t,e]:=Value.isInt_shape (k:=i) (v:=v) h;exact .inl #[i,t,rfl,e]
 |.inr x,v,h=>by let#[t,e]:=Value.isStrOf_shape (x:=x) (v:=v) h;exact .inr #[x,t,rfl,e]
def zgo(i:Hz)(t):ybp (.inl i) (.int i t)=true:=by simp[ybp,Hb]
def zfP(x)(t):ybp (.inr x) (.str x t)=true:=by simp[ybp,Gz]
def zna(a b:Hz):decide ((FO a:Key)=FO b)=(a==b):=by
 by_cases e:a=b
 .subst e;simp
 .have h:¬(FO a:Key)=FO b:=λq=>e (Sum.inl.inj q);rw[IJ h];exact(IH.mpr e).symm
def zmB(a b:AT):decide ((FP a:Key)=FP b)=decide (a=b):=by
 by_cases e:a=b
 .subst e;simp
 .have h:¬(FP a:Key)=FP b:=λq=>e (Sum.inr.inj q);rw[IJ h,IJ e]
def zlO(a:Hz)(b):decide ((FO a:Key)=FP b)=false:=IJ (λq=>nomatch q)
def zmR(a:AT)(b:Hz):decide ((FP a:Key)=FO b)=false:=IJ (λq=>nomatch q)
def yV(prog:A4)(w:Ae):PySem.KeyKind prog w Key where
 is:=ybp
 hash:=yfS w
 inj:=λv a b g f=>by
  rcases zn g with⟨i,t,rfl,rfl⟩|⟨x,t,rfl,rfl⟩
  .rcases zn f with⟨j,u,rfl,e⟩|⟨y,u,rfl,e⟩
   .injection e with c _;rw[c]
   .exact nomatch e
  .rcases zn f with⟨j,u,rfl,e⟩|⟨y,u,rfl,e⟩
   .exact nomatch e
   .injection e with c _;rw[c]
 byValue:=λk v h=>by rcases zn h with⟨i,t,rfl,rfl⟩|⟨x,t,rfl,rfl⟩<;>rfl
 pyHash:=λd h=>by
  rcases zn d with⟨i,t,rfl,rfl⟩|⟨x,t,rfl,rfl⟩
  .exact wpAny_pyHash_int h
  .exact wpAny_pyHash_str h
 eqBool:=λl d h=>by
  rcases zn l with⟨i,t,rfl,rfl⟩|⟨x,t,rfl,rfl⟩
  .rcases zn d with⟨j,u,rfl,rfl⟩|⟨y,u,rfl,rfl⟩
   .rw[zna]at h;exact EV h
   .rw[zlO]at h;exact F2 i t y u _ _ _ _ h
  .rcases zn d with⟨j,u,rfl,rfl⟩|⟨y,u,rfl,rfl⟩
   .rw[zmR]at h;exact F3 x t j u _ _ _ _ h
   .rw[zmB]at h;exact GJ h
 «strs»:=λk x t v h=>by
  rcases zn h with⟨i,u,rfl,e⟩|⟨y,u,rfl,e⟩
  .exact nomatch e
  .injection e with c _;subst c
   cases v<;>rfl
def zed(prog)(w)(i:Hz)(t):(yV prog w).is (.inl i) (.int i t)=true:=zgo i t
def zd7(prog)(w x t):(yV prog w).is (.inr x) (.str x t)=true:=zfP x t
end L2
namespace L2
open PySem
inductive NK where
 |a (k:Key)
 |t (l:Hx NK)
noncomputable instance:IX NK:=λ_ _=>Classical.propDecidable _
mutual
def NI(h:Au):NK->AH->Prop
 |.a k,v=>ybp k v=AD
 |.t l,v=>∃(b:AK) (c:Hx AH),v=.ref b/\h.get? b=AA {cls:=.type "tuple",data:=.seq c.toArray}/\NIs h l c
def NIs(h:Au):Hx NK->Hx AH->Prop
 |[],a=>a=[]
 |k::l,a=>∃v r,a=v::r/\NI h k v/\NIs h l r
end
mutual
def nkH(w:Ae):NK->Hz
 |.a k=>yfS w k
 |.t l=>reduceHash (ED (ydx w l))
def ydx(w:Ae):Hx NK->Hx Hz
 |[]=>[]
 |k::l=>nkH w k::ydx w l
end
mutual
def nkN:NK->Hy
 |.a _=>1
 |.t l=>ydM l+1
def ydM:Hx NK->Hy
 |[]=>0
 |k::l=>nkN k+ydM l
end
mutual
def nkD:NK->PyData
 |.a (.inl i)=>.int i
 |.a (.inr x)=>.str x
 |.t l=>.tuple (ya3 l)
def ya3:Hx NK->Hx PyData
 |[]=>[]
 |k::l=>nkD k::ya3 l
end
section
variable {prog:A4}{w:Ae}{E:AH->AJ->Prop}
mutual
theorem zgT:∀k(v:AH)(A:Af)(s:AJ)(Q:Hz->AJ->Prop),NI s.heap k v->A.units+(nkD k).depth<cLine->Q (nkH w k) {s with toks:=s.toks+nkN k}->A6 (model prog w) A (pyHash v) Q E s
 |.a k,v,A,s,Q,c,_,h=>(yV prog w).pyHash (k:=k) c h
 |.t l,v,A,s,Q,c,f,h=>by let#[b,d,rfl,g,j]:=c;erw[nkD,B7]at f;refine PySem.W.pyHash_slot (T:="tuple") #[_,g,rfl] F.slot_tuple_hash F.entry_tuple_hash (F.args_tuple_hash_1 _) (beq_builtin_none _) (.inr ()) ?_;show A6 _ _ (Ch (.ref b) >>= _) _ _ s;refine AI (wpAny_tupleItemsOf g rfl ?_);refine AI ?_;rw[<-F4];refine zgG l d A.in1 s (Hx.toArray []) _ j (by erw[EW];lia) λm n=>?_;show A6 _ _ (retInt (ED m.toList)) _ _ _;rw[n];exact AI (wpAny_mkInt (AX #[_,_,rfl,h]))
theorem zgG:∀l(vs:Hx AH)(A:Af)(s:AJ)(b:IP Hz)(Q:IP Hz->AJ->Prop),NIs s.heap l vs->A.units+B1 (ya3 l)<cLine ->
  (∀a,a.toList=b.toList++ydx w l->Q a {s with toks:=s.toks+ydM l}) ->
  A6 (model prog w) A (forIn vs b λx r=>do let h <-pyHash x;pure Do;pure (D4 (r.push h))) Q E s
 |[],vs,A,s,b,Q,c,_,h=>by
  cases (show vs=[]from c)
  exact AX (h b (by simp[ydx]))
 |k::l,vs,A,s,b,Q,c,d,h=>by let#[v,r,rfl,f,g]:=c;erw[ya3,B1]at d;rw[DB];refine AI (AI (zgT k v A s _ f () ?_));refine AI (AX (AX ?_));refine zgG l r A _ _ Q g () λa j=>?_;have:=h a (by simp[j,ydx]);simpa [ydM,HA] using this
end
mutual
theorem zc7{h}:∀k(v:AH),NI h k v->∃d,Reads h v (nkD k) d
 |.a (.inl i),v,c=>by
  rcases zn c with⟨j,t,e,rfl⟩|⟨x,t,e,rfl⟩
  .cases e;exact#[_,.int _ _]
  .cases e
 |.a (.inr x),v,c=>by
  rcases zn c with⟨j,t,e,rfl⟩|⟨y,t,e,rfl⟩
  .cases e
  .cases e;exact#[_,.str _ _]
 |.t l,v,c=>by let#[b,f,rfl,g,m]:=c;let#[d,r]:=zdD l f m;exact#[d,.tuple g rfl rfl (by simpa using r)]
theorem zdD{h}:∀l(vs:Hx AH),NIs h l vs->∃b,ReadsAll h vs (ya3 l) b
 |[],vs,a=>by cases (show vs=[]from a);exact#[_,.nil]
 |k::l,vs,a=>by let#[v,r,rfl,c,d]:=a;let#[j,f]:=zc7 k v c;let#[m,g]:=zdD l r d;exact#[_,.cons f g]
end
mutual
theorem zjc:∀a b:NK,CC (nkD a) (nkD b)=decide (a=b)
 |.a (.inl i),.a (.inl j)=>by erw[nkD,CC];by_cases e:i=j<;>simp[e]
 |.a (.inl i),.a (.inr j)=>by simp[nkD,CC]
 |.a (.inr i),.a (.inl j)=>by simp[nkD,CC]
 |.a (.inr i),.a (.inr j)=>by erw[nkD,CC];by_cases e:i=j<;>simp[e]
 |.a (.inl i),.t l=>by simp[nkD,CC]
 |.a (.inr i),.t l=>by simp[nkD,CC]
 |.t l,.a (.inl i)=>by simp[nkD,CC]
 |.t l,.a (.inr i)=>by simp[nkD,CC]
 |.t l,.t m=>by erw[nkD,CC,zf7 l m];by_cases e:l=m<;>simp[e]
theorem zf7:∀a b:Hx NK,Cc (ya3 a) (ya3 b)=decide (a=b)
 |[],[]=>by simp[ya3,Cc]
 |[],_::_=>by simp[ya3,Cc]
 |_::_,[]=>by simp[ya3,Cc]
 |a::l,b::m=>by
  erw[ya3,Cc,zjc a b,zf7 l m]
  by_cases e:a=b<;>by_cases f:l=m<;>simp[e,f]
end
mutual
theorem zeB:∀k(v:AH)(n:Hy)A(s:AJ)(Q:IB->AJ->Prop),NI s.heap k v->(nkD k).depth<=n->Q AD s->A6 (model prog w) A (eqIsQuiet n v) Q E s
 |.a k,v,n,A,s,Q,d,_,h=>by rw[eqIsQuiet_byValue n ((yV prog w).byValue k v d)];exact AX h
 |.t l,v,n,A,s,Q,d,f,h=>by let#[b,c,rfl,g,j]:=d;erw[nkD,B7]at f;obtain⟨m,rfl⟩:∃m,n=m+1:=#[n-1,()];unfold eqIsQuiet;refine AI (G7 (T:="tuple") #[_,g,rfl] F.slot_tuple_eq.lookup ?_);show A6 _ _ (isInstance (.ref b) (.type "tuple") >>= _) _ _ s;refine AI (GL (T:="tuple") #[_,g,rfl] isSubtype_tuple_tuple ?_);erw[Cv,CD,IL];refine AI (CF g rfl ?_);refine AI ?_;show A6 _ _ (forIn c.toArray _ _) _ _ s;rw[<-F4];refine zdx l c m A s _ j () ?_;exact AX h
theorem zdx:∀l(vs:Hx AH)(n:Hy)A(s:AJ)(Q:Option IB×PUnit->AJ->Prop),NIs s.heap l vs->B1 (ya3 l)<=n->Q (AF,Do) s ->
  A6 (model prog w) A (forIn vs (AF,Do) λy r=>do
   let b <-eqIsQuiet n y
   if (!b)=AD then pure (ForInStep.done (AA AC,Do))else do
    pure Do
    pure (D4 (AF,Do))) Q E s
 |[],vs,n,A,s,Q,a,_,h=>by
  cases (show vs=[]from a)
  exact AX h
 |k::l,vs,n,A,s,Q,a,c,h=>by let#[v,r,rfl,d,f]:=a;erw[ya3,B1]at c;rw[DB];refine AI (AI (zeB k v n A s _ d () ?_));erw[Cv,CD,IL];refine AI (AX (AX ?_));exact zdx l r n A s Q f () h
end
mutual
theorem zjq{h}:∀a b(v:AH),NI h a v->NI h b v->a=b
 |.a k,.a j,v,x,y=>by rcases zn x with⟨_,_,rfl,rfl⟩|⟨_,_,rfl,rfl⟩<;>rcases zn y with⟨_,_,rfl,e⟩|⟨_,_,rfl,e⟩<;>cases e<;>rfl
 |.a k,.t l,v,x,y=>by let#[b,c,rfl,_]:=y;rcases zn x with⟨_,_,_,e⟩|⟨_,_,_,e⟩<;>cases e
 |.t l,.a k,v,x,y=>by let#[b,c,rfl,_]:=x;rcases zn y with⟨_,_,_,e⟩|⟨_,_,_,e⟩<;>cases e
 |.t l,.t m,v,x,y=>by
  let#[b,c,rfl,g,o]:=x;let#[q,f,e,d,n]:=y
  cases e
  rw[g]at d;injection d with d;injection d with _ _ d _;injection d with d _;have p:c=f:=by simpa using IM Fc d
  subst p;rw[zhl l m c o n]
theorem zhl{h}:∀a b(vs:Hx AH),NIs h a vs->NIs h b vs->a=b
 |[],[],_,_,_=>rfl
 |[],_::_,vs,x,y=>by
  cases (show vs=[]from x)
  let#[_,_,e,_]:=y;cases e
 |_::_,[],vs,x,y=>by
  cases (show vs=[]from y)
  let#[_,_,e,_]:=x;cases e
 |a::l,b::m,vs,x,y=>by
  let#[v,r,rfl,c,d]:=x;let#[_,_,e,f,g]:=y
  cases e
  rw[zjq a b v c f,zhl l m r d g]
end
end
mutual
theorem NI.stay{h h':Au}(k:∀b c,h.get? b=AA {cls:=.type "tuple",data:=.seq c}->h'.get? b=AA {cls:=.type "tuple",data:=.seq c}):∀(a:NK) (v:AH),NI h a v->NI h' a v
 |.a _,_,x=>x
 |.t l,v,x=>by let#[b,c,e,g,d]:=x;exact#[b,c,e,k _ _ g,NIs.stay k l c d]
theorem NIs.stay{h h':Au}(k:∀b c,h.get? b=AA {cls:=.type "tuple",data:=.seq c}->h'.get? b=AA {cls:=.type "tuple",data:=.seq c}):∀(a:Hx NK) (vs:Hx AH),NIs h a vs->NIs h' a vs
 |[],_,x=>x
 |a::l,vs,x=>by let#[v,r,e,d,f]:=x;exact#[v,r,e,NI.stay k a v d,NIs.stay k l r f]
end
def ydI(l:Hx NK):Prop:=CQ (ya3 l)=AD/\B1 (ya3 l)<=6
def ya0(P:A4)(w:Ae):HeapKind P w (Hx NK) where
 is:=λh l a=>NI h (.t l) (.ref a)/\ydI l
 hash:=λl=>nkH w (.t l)
 draws:=λl=>nkN (.t l)
 room:=λA=>A.units+8<cLine
 inj:=λx y=>by have e:=zjq _ _ _ x.1 y.1;injection e
 keeps:=λx f j m=>#[NI.stay (λb n g=>(m.2 b (λe=>by subst e;rw[f]at g;cases g;cases j)).trans g) _ _ x.1,x.2]
 pyHash:=λo x h=>zgT _ _ _ _ _ x.1 (by have:=x.2.2;erw[nkD,B7];lia) h
 eqBool:=λ{A E s x y a b Q} o c d h=>by
  let#[p,q]:=zc7 _ _ c.1;let#[bs,r]:=zc7 _ _ d.1;refine SeqAt.eqBoolOverData P w A E s _ _ _ _ p bs Q q r (by erw[nkD,Bj];exact c.2.1) (by erw[nkD,Bj];exact d.2.1) (by have:=c.2.2;erw[nkD,B7];lia) ?_;rw[zjc];have:decide (NK.t x=NK.t y)=decide (x=y):=by by_cases e:x=y<;>simp[e]
  rw[this];exact h
 quiet:=λx h=>zeB _ _ _ _ _ _ x.1 (by have:=x.2.2;erw[nkD,B7];lia) h
end L2
namespace L2
open PySem PySem.Spec PyProof.Rows
inductive V where
 |non|bl (b:IB)|int (i:Hz)|str (x:AT)|byt (b:IP UInt8)|flt (b:UInt64)|ref (a:AK)|ty (n:IU)
 deriving IX
def RelV:V->AH->Prop
 |.non,u=>u=Br
 |.bl b,u=>u=Dp b
 |.int i,u=>∃t,u=EU i t
 |.str x,u=>∃t,u=GI x t
 |.byt b,u=>∃t,u=Hc b t
 |.flt b,u=>∃t,u=Hd b t
 |.ref a,u=>u=Al a
 |.ty n,u=>u=F5 n
abbrev Vals:Hx V->Hx AH->Prop:=Gh RelV
theorem Vals.length{xs:Hx V}{us:Hx AH}(r:Vals xs us):xs.length=us.length:=EQ r
theorem Vals.get:∀{xs:Hx V} {us:Hx AH} {i:Hy} {x:V},Vals xs us->xs[i]?=AA x->∃u,us[i]?=AA u/\RelV x u
 |_,_,_,_,.nil,e=>by simp at e
 |_,_,0,_,.cons r _,e=>by simp at e;subst e;exact#[_,rfl,r]
 |_,_,i+1,x,.cons _ t,e=>by let#[u,a,b]:=Vals.get (i:=i) (x:=x) t (by simpa using e);exact#[u,by simpa using a,b]
theorem Vals.set{x:V}{u:AH}(r:RelV x u):∀{xs:Hx V} {us:Hx AH} (i:Hy),Vals xs us->Vals (xs.set i x) (us.set i u)
 |_,_,_,.nil=>.nil
 |_,_,0,.cons _ t=>.cons r t
 |_,_,i+1,.cons q t=>.cons q (Vals.set r i t)
theorem Vals.append:∀{xs ys:Hx V} {us a:Hx AH},Vals xs us->Vals ys a->Vals (xs++ys) (us++a)
 |_,_,_,_,.nil,s=>s
 |_,_,_,_,.cons r t,s=>.cons r (Vals.append t s)
theorem Vals.take:∀{xs:Hx V} {us:Hx AH} (n:Hy),Vals xs us->Vals (xs.take n) (us.take n)
 |_,_,0,_=>.nil
 |_,_,_+1,.nil=>.nil
 |_,_,n+1,.cons r t=>.cons r (Vals.take n t)
theorem Vals.drop:∀{xs:Hx V} {us:Hx AH} (n:Hy),Vals xs us->Vals (xs.drop n) (us.drop n)
 |_,_,0,r=>r
 |_,_,_+1,.nil=>.nil
 |_,_,n+1,.cons _ t=>Vals.drop n t
theorem Vals.none_of:∀{xs:Hx V} {us:Hx AH} {i:Hy},Vals xs us->xs[i]?=AF->us[i]?=none:=λ{xs us i} r e=>by have a:=r.length;have b:xs.length<=i:=EF.mp e;exact EF.mpr ()
def ybk:Option V->Option AH->Prop
 |some v,AA u=>RelV v u
 |none,AF=>True
 |_,_=>IK
def KV{R:Type}:Hx (R×V)->Hx (R×AH)->Prop:=Gh λ(p:R×V) (q:R×AH)=>p.1=q.1/\RelV p.2 q.2
def kV:Key->V
 |.inl i=>.int i
 |.inr x=>.str x
inductive HO where
 |lst (xs:Hx V)
 |tup (xs:Hx V)
 |dK (kvs:Hx (Key×V))|dT (kvs:Hx (Hx NK×V))
 |set (S:Hz->IB) (n:Hy)
 |ins (C dx:AK) (fs:Hx (AT×V))
 |own (x:AK)
 |xd (fs:Hx (AT×V))
 |met (f x:AK)
 |rng (lo hi:Hz)
 |frz (o:Be) (u:HO)
 |tbl (ps:IP AH)
 |ext (A:Au->Prop)
abbrev Hp:=AK->Option HO
def upd(H:Hp)(a:AK)(o:HO):Hp:=λb=>if b=a then AA o else H b
def zo{H a o}:upd H a o a=AA o:=by unfold upd;rw[ID rfl]
def zk{H}{a b:AK}{o}(h:b≠a):upd H a o b=H b:=by unfold upd;rw[IE h]
def zn2{H:Hp}{a b:AK}{o u}(h:H a=AA o)(h':H b=AA u)(d:o≠u):a≠b:=by intro e;subst e;rw[h]at h';exact d (A0 h')
def zm{H:Hp}{a b:AK}{o}(h:H a=AA o)(h':H b=AF):a≠b:=by intro e;subst e;rw[h]at h';cases h'
mutual
def NKr(H:Hp):NK->V->Prop
 |.a k,v=>v=kV k
 |.t l,v=>∃(b:AK) (c:Hx V),v=.ref b/\H b=AA (.tup c)/\NKs H l c
def NKs(H:Hp):Hx NK->Hx V->Prop
 |[],a=>a=[]
 |k::l,a=>∃y b,a=y::b/\NKr H k y/\NKs H l b
end
def KyR(H:Hp)(l:Hx NK)(b:AK):Prop:=NKr H (.t l) (.ref b)/\ydI l
mutual
theorem NKr.stay{H d:Hp}(k:∀b c,H b=AA (.tup c)->d b=AA (.tup c)):∀(a:NK) (v:V),NKr H a v->NKr d a v
 |.a _,_,x=>x
 |.t l,v,x=>by let#[b,c,e,g,f]:=x;exact#[b,c,e,k _ _ g,NKs.stay k l c f]
theorem NKs.stay{H c:Hp}(k:∀b xs,H b=AA (.tup xs)->c b=AA (.tup xs)):∀(a:Hx NK) (xs:Hx V),NKs H a xs->NKs c a xs
 |[],_,x=>x
 |a::l,xs,x=>by let#[y,d,e,f,g]:=x;exact#[y,d,e,NKr.stay k a y f,NKs.stay k l d g]
end
theorem KyR.stay{H a:Hp}{l:Hx NK}{b:AK}(x:KyR H l b)(k:∀b c,H b=AA (.tup c)->a b=AA (.tup c)):KyR a l b:=#[NKr.stay k _ _ x.1,x.2]
section
variable (P:A4)(w:Ae)
def yN(H:Hp)(h:Au)(a:AK):HO->Prop
 |.lst d=>d.length<=sizeLine/\∃(b:Hx AH) (n:Hy),Vals d b/\h.get? a=AA {cls:=.type "list",data:=.seq b.toArray n}
 |.tup d=>d.length<=sizeLine/\∃b:Hx AH,Vals d b/\h.get? a=AA {cls:=.type "tuple",data:=.seq b.toArray}
 |.dK c=>c.length<=sizeLine/\(a==sysModules)=AC/\∃l,KV c l/\h.DictOf (yV P w) a l
 |.dT c=>c.length<=sizeLine/\(a==sysModules)=AC/\∃d:Hx (Hx NK×AK×AH),
   Gh (λ(p:Hx NK×V) (q:Hx NK×AK×AH)=>p.1=q.1/\KyR H p.1 q.2.1/\RelV p.2 q.2.2) c d /\
   ∃o m z,h.get? a=AA o/\o.ExactDict/\o.data=.dict m z/\m.toList=d.map (entryOfKey (ya0 P w))/\(d.map (·.1)).Nodup
 |.set S n=>h.SetOf (intKind P w) a S n
 |.ins C j fs=>H j=AA (.own a)/\fs.length<=1000/\j≠a/\h.get? a=AA (Bs C j) /\
   ∃g,h.Ns1 j g/\(∀f,ybk (fs.lookup f) (g f))/\Fd g (fs.map (·.1))
 |.own _=>∃o,h.get? a=AA o
 |.xd fs=>∃g,h.Ns1 a g/\∀f,ybk (fs.lookup f) (g f)
 |.rng lo B=>∃t u v,h.get? a=AA {cls:=.type "range",data:=.fields (Hx.toArray [.int lo t,.int B u,.int 1 v])}
 |.frz o u=>h.get? a=AA o/\yN H h a u
 |.tbl D=>h.get? a=AA {cls:=.none,data:=.fields D}
 |.met f x=>h.get? a=AA (EJ (.ref f) (.ref x))
 |.ext A=>A h/\(∃o,h.get? a=AA o)/\∀r y:Au,A r->(∀o,r.get? a=AA o->y.get? a=AA o)->A y
def HOk(H:Hp)(h:Au):Prop:=∀a o,H a=AA o->yN P w H h a o
end
section
variable {P:A4}{w:Ae}{H H':Hp}{h h':Au}{a:AK}{o:HO}
theorem yN.lt(x:yN P w H h a o):a<h.objs.size:=by
 cases o with
 |lst c=>let#[_,_,_,_,e]:=x;exact A2 e
 |tup c=>let#[_,_,_,p]:=x;exact A2 p
 |dK b=>let#[_,_,_,_,o,_,_,e,_]:=x;exact A2 e
 |dT b=>let#[_,_,_,_,o,_,_,e,_]:=x;exact A2 e
 |set S n=>let#[o,_,_,_,e,_]:=x;exact A2 e
 |ins C d fs=>let#[_,_,_,e,_]:=x;exact A2 e
 |own y=>let#[_,e]:=x;exact A2 e
 |xd fs=>let#[_,#[_,_,_,e,_],_]:=x;exact A2 e
 |rng lo g=>let#[_,_,_,e]:=x;exact A2 e
 |frz j u=>let#[e,_]:=x;exact A2 e
 |tbl l=>exact A2 (show h.get? a=AA _ from x)
 |met f y=>exact A2 (show h.get? a=AA _ from x)
 |ext A=>let#[_,#[_,e],_]:=x;exact A2 e
theorem Paired.mapP{B D:Type}{F G:B->D->Prop}:∀{c:Hx B} {d:Hx D},Gh F c d->(∀a b,F a b->G a b)->Gh G c d
 |_,_,.nil,_=>.nil
 |_,_,.cons r t,f=>.cons (f _ _ r) (Paired.mapP t f)
theorem yN.stay(x:yN P w H h a o)(k:∀b u,(b=a \/ H b=AA (.own a))->h.get? b=AA u->h'.get? b=AA u)
  (J:∀b,H b=AA (.own a)->H' b=AA (.own a)) (L:∀b B,H b=AA (.tup B)->H' b=AA (.tup B)):yN P w H' h' a o:=by
 induction o with
 |lst B=>let#[z,m,n,r,e]:=x;exact#[z,m,n,r,k _ _ (.inl rfl) e]
 |tup B=>let#[z,m,r,e]:=x;exact#[z,m,r,k _ _ (.inl rfl) e]
 |dK D=>let#[z,y,M,r,l,g,j,e,c]:=x;exact#[z,y,M,r,l,g,j,k _ _ (.inl rfl) e,c]
 |dT D=>
  let#[z,y,B,r,l,g,j,e,c]:=x;exact#[z,y,B,Paired.mapP r λp q z=>#[z.1,z.2.1.stay L,z.2.2],l,g,j,k _ _ (.inl rfl) e,c]
 |set S n=>let#[l,g,j,t,e,c]:=x;exact#[l,g,j,t,k _ _ (.inl rfl) e,c]
 |ins C U fs=>
  let#[d,z,N,e,E,#[G,g,j,O,c],r]:=x;exact#[J _ d,z,N,k _ _ (.inl rfl) e,E,#[G,g,j,k _ _ (.inr d) O,c],r]
 |own y=>let#[l,e]:=x;exact#[l,k _ _ (.inl rfl) e]
 |xd fs=>let#[E,#[G,g,j,e,c],r]:=x;exact#[E,#[G,g,j,k _ _ (.inl rfl) e,c],r]
 |rng lo X=>let#[t,u,v,e]:=x;exact#[t,u,v,k _ _ (.inl rfl) e]
 |frz l u ih=>let#[e,q]:=x;exact#[k _ _ (.inl rfl) e,ih q]
 |tbl I=>
  have e:h.get? a=AA {cls:=.none,data:=.fields I}:=x;show h'.get? a=AA {cls:=.none,data:=.fields I};exact k a _ (.inl rfl) e
 |met f y=>
  have e:h.get? a=AA (EJ (.ref f) (.ref y)):=x;show h'.get? a=AA (EJ (.ref f) (.ref y));exact k a _ (.inl rfl) e
 |ext A=>let#[p,#[o,e],st]:=x;exact#[st _ _ p λo q=>k _ _ (.inl rfl) q,#[o,k _ _ (.inl rfl) e],st]
theorem HOk.lt(x:HOk P w H h)(e:H a=AA o):a<h.objs.size:=(x a o e).lt
theorem HOk.fresh(x:HOk P w H h)(e:h.objs.size<=a):H a=none:=by
 cases q:H a with
 |none=>rfl
 |some u=>exact IG (Aa (x.lt q) e) (Cw _)
theorem HOk.kept(x:HOk P w H h)(k:∀b u,h.get? b=AA u->h'.get? b=AA u):HOk P w H h':=λa o e=>
 (x a o e).stay (λb u _ q=>k b u q) (λ_ q=>q) λ_ _ q=>q
theorem HOk.laid(x:HOk P w H h)(k:∀b u,h.get? b=AA u->h'.get? b=AA u)(j:h.objs.size<=a)(d:yN P w (upd H a o) h' a o):HOk P w (upd H a o) h':=λb u e=>by
 have f:=x.fresh j
 by_cases g:b=a
 .subst g;rw[zo]at e;cases e;exact d
 .rw[zk g]at e;exact(x b u e).stay (λc v _ q=>k c v q) (λc q=>by rw[zk (zm q f)];exact q) λc l q=>by rw[zk (zm q f)];exact q
end
def Rd(H:Hp)(a:AK)(u:HO):Prop:=H a=AA u \/ ∃o,H a=AA (.frz o u)
theorem Rd.of{H:Hp}{a:AK}{u:HO}(h:H a=AA u):Rd H a u:=.inl h
theorem Rd.ok{P:A4}{w:Ae}{H:Hp}{h:Au}{a:AK}{u:HO}(r:Rd H a u)(x:HOk P w H h):yN P w H h a u:=by
 rcases r with r|⟨o,r⟩
 .exact x a u r
 .let#[_,q]:=x a _ r;exact q
def Mut:Option HO->Prop
 |some (.lst _)=>True
 |some (.dK _)=>True
 |some (.dT _)=>True
 |some (.set _ _)=>True
 |some (.ins _ _ _)=>True
 |some (.ext _)=>True
 |_=>IK
section
variable {P:A4}{w:Ae}{H:Hp}{h h':Au}{x e:AK}{o':HO}
theorem HOk.write(ok:HOk P w H h)(g:Mut (H x))(p:e=x \/ H e=AA (.own x))(k:∀b u,b≠e->h.get? b=AA u->h'.get? b=AA u)(n:∃u,h'.get? e=AA u)
  (o:yN P w (upd H x o') h' x o'):HOk P w (upd H x o') h':=λb u q=>by
 have d:∀c y,H c=AA (.own y)->c≠x:=λc y r z=>by subst z;rw[r]at g;exact g
 have f:∀c j,H c=AA (.tup j)->c≠x:=λc j r z=>by subst z;rw[r]at g;exact g
 by_cases l:b=x
 .subst l;rw[zo]at q;cases q;exact o
 .rw[zk l]at q
  by_cases a:b=e
  .have t:H b=AA (.own x):=by
    rcases p with z|z
    .exact IG (a.trans z) l
    .rw[a];exact z
   rw[q]at t;cases t;let#[v,A]:=n;exact#[v,by rw[a];exact A]
  .refine(ok b u q).stay (λc v m r=>k c v ?_ r) (λc r=>by rw[zk (d c b r)];exact r) λc j r=>by rw[zk (f c j r)];exact r
   rcases m with rfl|m
   .exact a
   .rintro rfl
    rcases p with z|z
    .exact d c b m z
    .rw[m]at z;cases z;exact l rfl
end
structure Un(fs ex:Hx AK)(H H':Hp)(h h':Au):Prop where
 keep:∀b o,h.get? b=AA o->H b=AF->b∉fs->b∉ex->h'.get? b=AA o
 slot:∀b o,h.get? b=AA o->H b=AF->b∈fs->b∉ex->∃sl,h'.get? b=AA {o with slots:=sl}
 free:∀b o,h.get? b=AA o->H b=AF->b∉ex->H' b=AF
 there:∀b o,h.get? b=AA o->b∉ex->∃o',h'.get? b=AA o'
 tups:∀b xs,H b=AA (.tup xs)->H' b=AA (.tup xs)
 frzs:∀b o u,H b=AA (.frz o u)->H' b=AA (.frz o u)
 tbls:∀b ps,H b=AA (.tbl ps)->∃more,H' b=AA (.tbl (ps++more))
section
variable {fs fs' ex ex':Hx AK}{H H1 H2:Hp}{h h1 h2 h':Au}{a x e:AK}{o:HO}
theorem Un.any(u:Un fs ex H H1 h h1){b:AK}{a:Be}(q:h.get? b=AA a)(n:H b=AF)(c:b∉ex):∃f,h1.get? b=AA {a with slots:=f}:=by
 by_cases d:b∈fs
 .exact u.slot b a q n d c
 .exact#[a.slots,u.keep b a q n d c]
theorem Un.kept(k:∀b u,h.get? b=AA u->h'.get? b=AA u):Un fs ex H H h h':=
 #[λb a q _ _ _=>k b a q,λb a q _ _ _=>#[a.slots,k b a q],λ_ _ _ n _=>n,λb a q _=>#[a,k b a q],λ_ _ q=>q,λ_ _ _ q=>q,λ_ c q=>#[(Hx.toArray []),by rw[q];simp]]
theorem Un.refl:Un fs ex H H h h:=Un.kept λ_ _ q=>q
theorem Un.laid(k:∀b u,h.get? b=AA u->h'.get? b=AA u)(d:h.objs.size<=a)(c:H a=AF):Un fs ex H (upd H a o) h h' where
 keep:=λb u q _ _ _=>k b u q
 slot:=λb u q _ _ _=>#[u.slots,k b u q]
 free:=λb u q n _=>by rw[zk (Ao (Aa (A2 q) d))];exact n
 there:=λb u q _=>#[u,k b u q]
 tups:=λb f q=>by rw[zk (zm q c)];exact q
 frzs:=λb u f q=>by rw[zk (zm q c)];exact q
 tbls:=λb g q=>#[(Hx.toArray []),by rw[zk (zm q c),q];simp]
theorem Un.write(c:Mut (H x))(l:e=x \/ H e=AA (.own x))(k:∀b u,b≠e->h.get? b=AA u->h'.get? b=AA u)(d:∃u,h'.get? e=AA u):Un fs ex H (upd H x o) h h':=by
 have g:∀b,H b=AF->b≠x:=λb n z=>by subst z;rw[n]at c;exact c
 have j:∀b,H b=AF->b≠e:=λb n z=>by
  subst z;rcases l with r|r
  .exact g b n r
  .rw[n]at r;cases r
 have f:∀b u,H b=AA u->¬Mut (AA u)->b≠x:=λb u q nm z=>by subst z;rw[q]at c;exact nm c
 refine#[λb u q n _ _=>k b u (j b n) q,λb u q n _ _=>#[u.slots,k b u (j b n) q],λb u q n _=>by rw[zk (g b n)];exact n,λb u q _=>?_,
  λb m q=>by rw[zk (f b _ q λz=>z)];exact q,λb u m q=>by rw[zk (f b _ q λz=>z)];exact q,λb p q=>#[(Hx.toArray []),by rw[zk (f b _ q λz=>z),q];simp]]
 by_cases a:b=e
 .subst a;exact d
 .exact#[u,k b u a q]
end
def trk(h:Au)(H:Hp):Hx Addr:=(E7 h.objs.size).filter λa=>(H a).isSome
def ycd(h:Au)(H:Hp):Heap:=DC h (trk h H)
def zhD(h)(H):(ycd h H).objs.size=h.objs.size:=PySem.W.hideAll_size _ _
def ziU{h:Au}{H:Hp}{b:AK}{o}(e:h.get? b=AA o)(n:H b=AF):(ycd h H).get? b=AA o:=
 FR _ e λa=>by have q:(H b).isSome=true:=(G8.mp a).2;rw[n]at q;simp at q
def zkY{h H}{b:AK}{o}(e:(ycd h H).get? b=AA o):h.get? b=AA o/\H b=none:=by
 have a:h.get? b=AA o:=F6 (trk h H) e;refine#[a,?_]
 cases q:H b with
 |none=>rfl
 |some x=>
  have c:b∈trk h H:=G8.mpr #[Gi.mpr (A2 a),by simp[q]];have z:(ycd h H).get? b=none:=PySem.W.hideAll_none (trk h H) c;rw[z]at e;cases e
structure Mod(K:AG)(mg:AT->Option AH)(base:Au):Prop where
 kin:K.In base
 glob:base.Ns mainGlobals mg
 blt:∃mb,base.Ns builtinsNs mb/\∀x:AT,x ≠ "__name__"->mb x=bootBuiltins x
 nolimit:base.NoLimit
structure Cx where
 prog:A4
 w:Ae
 K:AG
 mg:AT->Option AH
 base:Au
 A:Af
 N:Hx AT
 s₀:AJ
 H₀:Hp
 env:Env
 outer:Hx Env
 stack:Hx Env
 ex:Hx AK
 fn:AT->IB
 calm:IB
 pn:Hx (AK×Be)
 xe:AH->AJ->Prop
def frs(l:Hx Env):Hx Addr:=l.filterMap (·.frame)
abbrev Cx.fs(X:Cx):Hx Addr:=frs X.outer
def Vis(sc:BN)(x:AT):Prop:=sc.names.lookup x=AA .local \/ sc.names.lookup x=AA .cell \/ sc.names.lookup x=AA .free
def Loc(sc:BN)(x:AT):Prop:=sc.names.lookup x=AA .local \/ sc.names.lookup x=AA .cell
def Look(env:Env)(h:Au)(m:AT->Option AH)(x:AT)(u:AH):Prop:=
 (env.kindOf x=AA .local/\m x=AA u) \/ ((env.kindOf x=AA .cell \/ env.kindOf x=AA .free)/\∃c,env.cells.lookup x=AA c/\h.IsCell c (AA u))
structure Cx.Ok(X:Cx):Prop where
 mod:Mod X.K X.mg X.base
 kind:X.env.scope.kind=.function
 glob:X.env.globals=mainGlobals
 blt:X.env.builtins=builtinsNs
 above:X.s₀.heap.objs.size<=X.env.locals
 inj:∀x y c,X.env.cells.lookup x=AA c->X.env.cells.lookup y=AA c->x=y
 has:∀x,(X.env.kindOf x=AA .cell \/ X.env.kindOf x=AA .free)->∃c,X.env.cells.lookup x=AA c
 cab:∀x c,X.fn x=AD->X.env.cells.lookup x=AA c->X.s₀.heap.objs.size<=c
 hd:X.calm=AD->X.A.handled=AF
 frames:X.A.frames=AA X.stack
 stk:X.stack=X.outer \/ (X.stack=X.env::X.outer/\X.env.frame=AA X.env.locals)
 exf:∀b∈X.ex,b≠X.env.locals/\∀x c,X.env.cells.lookup x=AA c->c≠b
 bs:∀b o,X.base.get? b=AA o->X.s₀.heap.get? b=AA o/\X.H₀ b=AF
 bsz:X.base.objs.size<=X.s₀.heap.objs.size
 noex:∀b o,X.base.get? b=AA o->b∉X.ex
 exfs:∀b∈X.ex,b∉X.fs
 funs:X.s₀.heap.FunFrames X.base X.outer
 frf:∀b∈X.fs,X.H₀ b=AF
structure Inv(X:Cx)(B:Hx (AK×Be))(A:Hx (Option V))(H:Hp)(s:AJ):Prop where
 ok:X.Ok
 os:s.os=X.s₀.os
 bare:DZ s.gens
 base:Un X.fs X.ex X.H₀ H X.s₀.heap s.heap
 loc:∃m,s.heap.Ns X.env.locals m/\∀(i:Hy) (x:AT) (v:V),X.N[i]?=AA x->A[i]?=AA (AA v)->Vis X.env.scope x->∃u,RelV v u/\Look X.env s.heap m x u
 cell:∀x c,X.env.cells.lookup x=AA c->∃v,s.heap.IsCell c v
 free:H X.env.locals=AF
 freeC:∀x c,X.env.cells.lookup x=AA c->H c=AF
 pin:∀p∈X.pn++B,s.heap.get? p.1=AA p.2/\H p.1=AF/\p.1≠X.env.locals/\p.1∉X.fs/\∀v,p.2.data ≠ .cell v
 hok:HOk X.prog X.w H s.heap
 len:A.length=X.N.length
section
variable {X:Cx}{C:Hx (AK×Be)}{B:Hx (Option V)}{H H':Hp}{s:AJ}{h':Au}
theorem Cx.Ok.nofr(ok:X.Ok){b:AK}{o:Be}(e:X.base.get? b=AA o):b∉X.fs:=λa=>by have:=(ok.funs.mem a).1;rw[e]at this;cases this
theorem Inv.bs(I:Inv X C B H s):∀b o,X.base.get? b=AA o->s.heap.get? b=AA o/\H b=none:=λb o e=>
 #[I.base.keep b o (I.ok.bs b o e).1 (I.ok.bs b o e).2 (I.ok.nofr e) (I.ok.noex b o e),I.base.free b o (I.ok.bs b o e).1 (I.ok.bs b o e).2 (I.ok.noex b o e)]
theorem Inv.bk(I:Inv X C B H s):∀b o,X.base.get? b=AA o->s.heap.get? b=AA o:=λb o e=>(I.bs b o e).1
theorem Inv.mod(I:Inv X C B H s):Mod X.K X.mg X.base:=I.ok.mod
theorem Inv.kIn(I:Inv X C B H s):X.K.In s.heap:=I.ok.mod.kin.keeps I.bk
theorem Inv.lt(I:Inv X C B H s):X.env.locals<s.heap.objs.size:=let #[_,a,_]:=I.loc;a.lt
theorem Inv.sz(I:Inv X C B H s):X.s₀.heap.objs.size<=s.heap.objs.size:=BW I.ok.above (Fe I.lt)
theorem Inv.nofs(I:Inv X C B H s){a:AK}(h:s.heap.objs.size<=a):a∉X.fs:=λb=>by let#[_,o,c,_]:=I.ok.funs.mem b;exact IG (Aa (A2 c) (BW I.sz h)) (Cw _)
theorem Inv.cne(I:Inv X C B H s):∀x c,X.env.cells.lookup x=AA c->c≠X.env.locals:=λx c e z=>by let#[v,o,d,f]:=I.cell x c e;let#[m,#[g,j,l,a,b,_],_]:=I.loc;rw[z,a]at d;cases d;rw[b]at f;cases f
theorem Inv.funs(I:Inv X C B H s):s.heap.FunFrames X.base X.outer:=by
 have all:∀(l:Hx Env),(∀b∈frs l,b∈X.fs)->X.s₀.heap.FunFrames X.base l->s.heap.FunFrames X.base l:=by
  intro l
  induction l with
  |nil=>intro _ _;trivial
  |cons f r ih=>
   intro d g;let#[j,#[L,o,hf,m,n,p],q]:=g;have a:L∈X.fs:=d L (by unfold frs;rw[CW,hf];exact AO);let#[t,e]:=I.base.slot L o n (I.ok.frf L a) a λz=>I.ok.exfs L z a;exact#[j,#[L,_,hf,m,e,p],ih (λb c=>d b (by unfold frs;rw[CW,hf];exact AM _ c)) q]
 exact all X.outer (λ_ c=>c) I.ok.funs
theorem Inv.stack(I:Inv X C B H s):s.heap.FunFrames X.base X.stack:=by
 rcases I.ok.stk with e|⟨e,hf⟩
 .rw[e];exact I.funs
 .rw[e];let#[m,a,_]:=I.loc;refine .cons (by rw[I.ok.kind];decide) hf a ?_ I.funs;exact Heap.get?_none_of_le (BW I.ok.bsz I.ok.above)
theorem Inv.stkSub(I:Inv X C B H s):∀b∈frs X.stack,b∈X.env.locals::X.fs:=λb a=>by
 rcases I.ok.stk with e|⟨e,hf⟩
 .rw[e]at a;exact AM _ a
 .rw[e]at a;unfold frs at a;rw[CW,hf]at a;exact a
theorem Inv.stkFree(I:Inv X C B H s):∀b∈frs X.stack,H b=none:=λb a=>by
 rcases AV.mp (I.stkSub b a)with e|a
 .rw[e];exact I.free
 .let#[_,o,c,_]:=I.ok.funs.mem a;exact I.base.free b o c (I.ok.frf b a) λz=>I.ok.exfs b z a
theorem Inv.step{g':IP GenState}{t':Hy}{d':Drawn}{ch:Hx AK}(I:Inv X C B H s)
  (g:∀b∈ch,(b∈X.ex \/ X.s₀.heap.objs.size<=b)/\b≠X.env.locals/\(∀x c,X.env.cells.lookup x=AA c->c≠b)/\∀p∈X.pn++C,p.1≠b)
  (j:∀b o,b≠X.env.locals->b∉X.fs->b∉ch->s.heap.get? b=AA o->H b=AF->h'.get? b=AA o)
  (D:∀b o,b≠X.env.locals->b∈X.fs->b∉ch->s.heap.get? b=AA o->H b=AF->∃sl,h'.get? b=AA {o with slots:=sl}) (f:∀b o,b∉ch->s.heap.get? b=AA o->H b=AF->H' b=AF)
  (there:∀b o,b∉ch->s.heap.get? b=AA o->∃L,h'.get? b=AA L)
  (M:∀b E,H b=AA (.tup E)->H' b=AA (.tup E)) (N:∀b o u,H b=AA (.frz o u)->H' b=AA (.frz o u)) (O:∀b Z,H b=AA (.tbl Z)->∃more,H' b=AA (.tbl (Z++more)))
  (ns:∀m,s.heap.Ns X.env.locals m->h'.Ns X.env.locals m) (hok:HOk X.prog X.w H' h') (hg:DZ g'):
  Inv X C B H' {s with heap:=h',gens:=g',drawn:=d',toks:=t'}:=by
 have U:∀b o,X.s₀.heap.get? b=AA o->b≠X.env.locals:=λb o e=>Ao (Aa (A2 e) I.ok.above);have y:∀b o,X.s₀.heap.get? b=AA o->b∉X.ex->b∉ch:=λb o e a G=>by
  rcases (g b G).1 with z|z
  .exact a z
  .exact IG (Aa (A2 e) z) (Cw _)
 have t:∀x c,X.env.cells.lookup x=AA c->∀v,s.heap.IsCell c v->h'.IsCell c v:=λx c e v #[o,J,hd]=>by
  have w:c∉ch:=λz=>(g c z).2.2.1 x c e rfl
  by_cases hc:c∈X.fs
  .let#[sl,q]:=D c o (I.cne x c e) hc w J (I.freeC x c e);exact#[_,q,hd]
  .exact#[o,j c o (I.cne x c e) hc w J (I.freeC x c e),hd]
 refine#[I.ok,I.os,hg,#[λb o e n G a=>?_,λb o e n G a=>?_,λb o e n a=>?_,λb o e a=>?_,λb E e=>M b E (I.base.tups b E e),λb o E e=>N b o E (I.base.frzs b o E e),λb Z e=>?_],?_,λx c e=>?_,?_,λx c e=>?_,λp hp=>?_,hok,I.len]
 .exact j b o (U b o e) G (y b o e a) (I.base.keep b o e n G a) (I.base.free b o e n a)
 .let#[sl,A]:=I.base.slot b o e n G a;let#[sl',Y]:=D b _ (U b o e) G (y b o e a) A (I.base.free b o e n a);exact#[sl',Y]
 .let#[L,A]:=I.base.there b o e a;exact f b L (y b o e a) A (I.base.free b o e n a)
 .let#[L,A]:=I.base.there b o e a;exact there b L (y b o e a) A
 .let#[m1,A]:=I.base.tbls b Z e;let#[m2,Y]:=O b _ A;exact#[m1++m2,by rw[Y,Dq]]
 .let#[m,hn,hl]:=I.loc;refine#[m,ns m hn,λi x v A Y e3=>?_];let#[u,r,l]:=hl i x v A Y e3;refine#[u,r,?_];rcases l with l|⟨k,c,e,z⟩
  .exact .inl l
  .exact .inr #[k,c,e,t x c e _ z]
 .let#[v,z]:=I.cell x c e;exact#[v,t x c e v z]
 .let#[m,#[o,_,_,J,_],_]:=I.loc;exact f _ o (λz=>(g _ z).2.1 rfl) J I.free
 .let#[v,o,J,hd]:=I.cell x c e;exact f c o (λz=>(g c z).2.2.1 x c e rfl) J (I.freeC x c e)
 .let#[e,n,ne,nf,d]:=I.pin p hp;have w:p.1∉ch:=λz=>(g p.1 z).2.2.2 p hp rfl;exact#[j p.1 p.2 ne nf w e n,f p.1 p.2 w e n,ne,nf,d]
theorem Inv.un{t':Hy}(I:Inv X C B H s)(u:Un X.fs [] H H' s.heap h')(c:HOk X.prog X.w H' h'):Inv X C B H' {s with heap:=h',toks:=t'}:=by
 let#[m,#[o,t,w,j,r],_]:=id I.loc;let#[x,l]:=u.any j I.free (by simp);exact I.step (g':=s.gens) (d':=s.drawn) (ch:=[]) (λ_ z=>nomatch z) (λb o _ d _ e n=>u.keep b o e n d (by simp)) (λb o _ d _ e n=>u.slot b o e n d (by simp)) (λb o _ e n=>u.free b o e n (by simp)) (λb o _ e=>u.there b o e (by simp)) u.tups u.frzs u.tbls (λy p=>by let#[A,f,g,a,q]:=p;rw[j]at a;cases a;exact#[_,f,g,l,q]) c I.bare
theorem Inv.call{g':IP GenState}{t':Hy}{d':Drawn}{ch:Hx AK}(I:Inv X C B H s)(u:Un (frs X.stack) ch H H' s.heap h')(g:HOk X.prog X.w H' h')(w:DZ g')
  (d:∀b∈ch,(b∈X.ex \/ X.s₀.heap.objs.size<=b)/\b≠X.env.locals/\(∀x c,X.env.cells.lookup x=AA c->c≠b)/\∀p∈X.pn++C,p.1≠b):
  Inv X C B H' {s with heap:=h',gens:=g',drawn:=d',toks:=t'}:=by
 let#[m,#[o,E,G,t,r],_]:=id I.loc;let#[J,j]:=u.any t I.free λz=>(d _ z).2.1 rfl;exact I.step (ch:=ch) d (λb o j y a e n=>u.keep b o e n (λz=>(AV.mp (I.stkSub b z)).elim j y) a) (λb o _ _ a e n=>u.any e n a) (λb o a e n=>u.free b o e n a) (λb o a e=>u.there b o e a) u.tups u.frzs u.tbls (λL A=>by let#[M,l,q,f,D]:=A;rw[t]at f;cases f;exact#[_,l,q,j,D]) g w
theorem Inv.turned{t':Hy}{a:AK}(I:Inv X C B H s)(k:∀b o,b≠a->s.heap.get? b=AA o->h'.get? b=AA o)(j:H a=AF)(g:a≠X.env.locals)
  (l:a∈X.ex \/ X.s₀.heap.objs.size<=a) (t:∀x c,X.env.cells.lookup x=AA c->c≠a) (w:∀p∈X.pn++C,p.1≠a):Inv X C B H {s with heap:=h',toks:=t'}:=by
 have f:∀b u,H b=AA u->b≠a:=λb u e z=>by rw[z,j]at e;cases e
 refine I.step (g':=s.gens) (d':=s.drawn) (ch:=[a]) (λb y=>?_) (λb o _ _ d e _=>k b o (λz=>d (by simp[z])) e) (λb o _ _ d e _=>#[o.slots,k b o (λz=>d (by simp[z])) e]) (λ_ _ _ _ n=>n)
  (λb o d e=>#[o,k b o (λz=>d (by simp[z])) e]) (λ_ _ e=>e) (λ_ _ _ e=>e) (λb J e=>#[(Hx.toArray []),by rw[e];simp]) (λm A=>?_) (λb u e=>?_) I.bare
 .have e:b=a:=by simpa using y
  subst e;exact#[l,g,t,w]
 .let#[o,D,E,G,r]:=A;exact#[o,D,E,k _ o (BI g) G,r]
 .refine(I.hok b u e).stay (λc v d q=>k c v ?_ q) (λ_ q=>q) λ_ _ q=>q;rcases d with z|z
  .rw[z];exact f b u e
  .exact f c _ z
theorem Inv.tok(I:Inv X C B H s)(t:Hy):Inv X C B H {s with toks:=t}:=I.un (h':=s.heap) (t':=t) Un.refl I.hok
theorem Inv.kept{t':Hy}(I:Inv X C B H s)(k:∀b u,s.heap.get? b=AA u->h'.get? b=AA u):Inv X C B H {s with heap:=h',toks:=t'}:=I.un (Un.kept k) (I.hok.kept k)
theorem Inv.laid{a:AK}{o:HO}{t':Hy}(I:Inv X C B H s)(k:∀b u,s.heap.get? b=AA u->h'.get? b=AA u)(c:s.heap.objs.size<=a)(d:yN X.prog X.w (upd H a o) h' a o):
  Inv X C B (upd H a o) {s with heap:=h',toks:=t'}:=I.un (Un.laid k c (I.hok.fresh c)) (I.hok.laid k c d)
theorem Inv.write{x e:AK}{o:HO}{t':Hy}(I:Inv X C B H s)(d:Mut (H x))(f:e=x \/ H e=AA (.own x))(k:∀b u,b≠e->s.heap.get? b=AA u->h'.get? b=AA u)(a:∃u,h'.get? e=AA u)
  (c:yN X.prog X.w (upd H x o) h' x o):Inv X C B (upd H x o) {s with heap:=h',toks:=t'}:=I.un (Un.write d f k a) (I.hok.write d f k a c)
theorem Inv.pins_of{a:Hx (AK×Be)}(I:Inv X C B H s)(h:∀p∈a,s.heap.get? p.1=AA p.2/\H p.1=AF/\p.1≠X.env.locals/\p.1∉X.fs/\∀v,p.2.data ≠ .cell v):Inv X a B H s:=
 #[I.ok,I.os,I.bare,I.base,I.loc,I.cell,I.free,I.freeC,λp b=>(Aw.mp b).elim (λz=>I.pin p (BJ _ z)) (h p),I.hok,I.len]
def zfb{N:Hx AT}(c:N.Nodup){i j:Hy}{x}(a:N[i]?=AA x)(b:N[j]?=AA x):i=j:=by let#[g,d]:=Ax.mp a;let#[l,f]:=Ax.mp b;exact(Hx.getElem_inj c).mp (d.trans f.symm)
def zfL{M A E}{i:Hy}{x v u}{Q:IZ->AJ->Prop}(I:Inv X C B H s)(hN:X.N.Nodup)(hi:X.N[i]?=AA x)(w:Loc X.env.scope x)(r:RelV v u)
  (h:∀s',Inv X C (B.set i (AA v)) H s'->(∃a,C6 a s.heap s'.heap/\(a=X.env.locals \/ X.env.cells.lookup x=AA a))->Q IZ.unit s') (hf:X.fn x=AD \/ X.env.scope.names.lookup x=AA .local:=by first|exact .inl rfl|exact .inr rfl|assumption):A6 M A (storeName X.env x u) Q E s:=by
 let#[m,hn,hl]:=id I.loc;have Y:(X.env.scope.kind==.class || (X.env.scope.kind==.module&&X.env.locals != X.env.globals))=false:=by rw[I.ok.kind];rfl
 have J:i<B.length:=by rw[I.len];exact(Ax.mp hi).1
 have cne:=I.cne;have g:∀{a:AK} {h':Au},(∃o,s.heap.get? a=AA o/\H a=AF)->C6 a s.heap h'->HOk X.prog X.w H h':=λ{a h'} ha f b ob e=>by
  let#[_,_,D]:=ha;refine(I.hok b ob e).stay (λc w' t q=>(f.2 c ?_).trans q) (λ_ q=>q) λ_ _ q=>q
  rintro rfl
  rcases t with rfl|t
  .rw[D]at e;cases e
  .rw[D]at t;cases t
 rcases w with L|L
 .refine wpAny_storeName_local L hn (λh' hn' f=>?_) Y;let#[oL,_,_,hoL,_]:=id hn;refine h _ #[I.ok,I.os,I.bare,#[λb o e n N w=>?_,λb o e n N w=>?_,I.base.free,λb o e w=>?_,I.base.tups,I.base.frzs,I.base.tbls],#[_,hn',λj y v' l G e3=>?_],λy c e=>?_,I.free,I.freeC,λp hp=>?_,g #[oL,hoL,I.free] f,by simpa using I.len] #[_,f,.inl rfl]
  .exact(f.2 b (Ao (Aa (A2 e) I.ok.above))).trans (I.base.keep b o e n N w)
  .let#[sl,l]:=I.base.slot b o e n N w;exact#[sl,(f.2 b (Ao (Aa (A2 e) I.ok.above))).trans l]
  .let#[o',l]:=I.base.there b o e w;exact#[o',(f.2 b (Ao (Aa (A2 e) I.ok.above))).trans l]
  .by_cases O:j=i
   .subst O;rw[hi]at l;cases l;rw[Ac J]at G
    cases G
    exact#[u,r,.inl #[L,by simp]]
   .rw[AZ (BI O)]at G;let#[u',r',q]:=hl j y v' l G e3;refine#[u',r',?_];rcases q with⟨k,e⟩|⟨k,c,e,z⟩
    .refine .inl #[k,?_];have:y≠x:=λe=>O (zfb hN l (e ▸ hi));simp[this,e]
    .exact .inr #[k,c,e,z.sameBut f (cne y c e)]
  .let#[w',z]:=I.cell y c e;exact#[w',z.sameBut f (cne y c e)]
  .let#[e,n,ne,nf,d]:=I.pin p hp;exact#[(f.2 p.1 ne).trans e,n,ne,nf,d]
 .have U:X.fn x=true:=by
   rcases hf with z|z
   .exact z
   .rw[z]at L;cases L
  let#[c,t]:=I.ok.has x (.inl L);let#[w',z]:=I.cell x c t;refine wpAny_storeName_cell I.ok.kind L t z (λh' Z f=>?_);let#[oc,hoc,hocd]:=id z;refine h {s with heap:=h'} #[I.ok,I.os,I.bare,#[λb o e n N w=>?_,λb o e n N w=>?_,I.base.free,λb o e w=>?_,I.base.tups,I.base.frzs,I.base.tbls],#[m,hn.sameBut f (BI (cne x c t)),λj y v' l G e3=>?_],λy c' e=>?_,I.free,I.freeC,λp hp=>?_,g #[oc,hoc,I.freeC x c t] f,by simpa using I.len] #[c,f,.inr t]
  .exact(f.2 b (Ao (Aa (A2 e) (I.ok.cab x c U t)))).trans (I.base.keep b o e n N w)
  .let#[sl,l]:=I.base.slot b o e n N w;exact#[sl,(f.2 b (Ao (Aa (A2 e) (I.ok.cab x c U t)))).trans l]
  .let#[o',l]:=I.base.there b o e w;exact#[o',(f.2 b (Ao (Aa (A2 e) (I.ok.cab x c U t)))).trans l]
  .by_cases O:j=i
   .subst O;rw[hi]at l;cases l;rw[Ac J]at G
    cases G
    exact#[u,r,.inr #[.inl L,c,t,Z]]
   .rw[AZ (BI O)]at G;let#[u',r',q]:=hl j y v' l G e3;refine#[u',r',?_];rcases q with q|⟨k,c',e,z'⟩
    .exact .inl q
    .refine .inr #[k,c',e,z'.sameBut f ?_]
     rintro rfl
     exact O (zfb hN l (I.ok.inj _ _ _ e t ▸ hi))
  .by_cases hcc:c'=c
   .subst hcc;exact#[_,Z]
   .let#[w2,z2]:=I.cell y c' e;exact#[w2,z2.sameBut f hcc]
  .let#[e,n,ne,nf,d]:=I.pin p hp;refine#[(f.2 p.1 ?_).trans e,n,ne,nf,d];intro q;rw[q,hoc]at e;have q':oc=p.2:=A0 e;exact d w' (by rw[<-q'];exact hocd)
def zaY{M A E}{i:Hy}{x v u}{Q:IZ->AJ->Prop}(I:Inv X C B H s)(b:X.N.Nodup)(hi:X.N[i]?=AA x)(c:Loc X.env.scope x)(r:RelV v u)
  (h:∀a,Inv X C (B.set i (AA v)) H a->Q IZ.unit a) (hf:X.fn x=AD \/ X.env.scope.names.lookup x=AA .local:=by first|exact .inl rfl|exact .inr rfl|assumption):A6 M A (storeName X.env x u) Q E s:=
 zfL I b hi c r (λa d _=>h a d) hf
theorem Inv.call'{a:AJ}{ch:Hx AK}(I:Inv X C B H s)(g:a.os=s.os)(u:Un (frs X.stack) ch H H' s.heap a.heap)(d:HOk X.prog X.w H' a.heap)(j:DZ a.gens)
  (f:∀b∈ch,(b∈X.ex \/ X.s₀.heap.objs.size<=b)/\b≠X.env.locals/\(∀x c,X.env.cells.lookup x=AA c->c≠b)/\∀p∈X.pn++C,p.1≠b):Inv X C B H' a:=by let#[h',g',d',t',l]:=a;have e:l=s.os:=g;subst e;exact I.call (g':=g') (t':=t') (d':=d') u d j f
end
abbrev XK:=AH->Option AK->Hp->Prop
abbrev St:=Hx (Option V)
abbrev VK:=V->Hp->Prop
abbrev TE:=St->Hp->VK->Prop
abbrev TT:=St->Hp->(IB->Hp->Prop)->Prop
abbrev TA:=St->Hp->(Hx V->Hp->Prop)->Prop
structure Ends where
 nx:St->Hp->Prop
 rt:VK
 bk:St->Hp->Prop:=λ_ _=>IK
 ct:St->Hp->Prop:=λ_ _=>IK
abbrev TS:=Ends->St->Hp->Prop
def EP(X:Cx)(B:Hx (AK×Be))(A:St)(Q:VK)(u:AH)(b:AJ):Prop:=∃v a,Inv X B A a b/\RelV v u/\Q v a
def TP(X:Cx)(B:Hx (AK×Be))(A:St)(Q:IB->Hp->Prop)(b:IB)(c:AJ):Prop:=∃a,Inv X B A a c/\Q b a
def AP(X:Cx)(B:Hx (AK×Be))(A:St)(Q:Hx V->Hp->Prop)(us:Hx AH)(c:AJ):Prop:=∃a b,Inv X B A b c/\Vals a us/\Q a b
def SP(X:Cx)(A:Hx (AK×Be))(D:Ends)(f:Flow)(c:AJ):Prop:=
 match f with
 |.next=>∃b a,Inv X A b a c/\D.nx b a
 |.brk=>∃b a,Inv X A b a c/\D.bk b a
 |.cont=>∃b a,Inv X A b a c/\D.ct b a
 |.ret u=>∃v b a,Inv X A b a c/\RelV v u/\D.rt v a
def PE(X:Cx)(e:AW)(t:TE):Prop:=
 ∀(C:Hx (AK×Be)) (s:AJ) (B:St) (H:Hp) (Q:VK),Inv X C B H s->t B H Q->A6 (model X.prog X.w) X.A (eval e X.env) (EP X C B Q) X.xe s
def PT(X:Cx)(e:AW)(t:TT):Prop:=
 ∀(C:Hx (AK×Be)) (s:AJ) (B:St) (H:Hp) (Q:IB->Hp->Prop),Inv X C B H s->t B H Q->A6 (model X.prog X.w) X.A (isTrue e X.env (eval e X.env)) (TP X C B Q) X.xe s
def PW(X:Cx)(e:AW)(t:TT):Prop:=
 ∀(whole:Gd AH) (C:Hx (AK×Be)) (s:AJ) (B:St) (H:Hp) (Q:IB->Hp->Prop),Inv X C B H s->t B H Q->A6 (model X.prog X.w) X.A (isTrue e X.env whole) (TP X C B Q) X.xe s
theorem PW.pt{X:Cx}{e:AW}{t:TT}(h:PW X e t):PT X e t:=h _
def PA(X:Cx)(es:Hx AW)(t:TA):Prop:=
 ∀(pos:Bf) (C:Hx (AK×Be)) (s:AJ) (B:St) (H:Hp) (Q:Hx V->Hp->Prop),Inv X C B H s->t B H Q->A6 (model X.prog X.w) X.A (spliced (backTo pos (starEach es X.env))) (AP X C B Q) X.xe s
def PS(X:Cx)(st:Bg)(t:TS):Prop:=
 ∀(C:Hx (AK×Be)) (s:AJ) (B:St) (H:Hp) (D:Ends),Inv X C B H s->t D B H->A6 (model X.prog X.w) X.A (exec st X.env) (SP X C D) X.xe s
def PSs(X:Cx)(st:Hx Bg)(t:TS):Prop:=
 ∀(C:Hx (AK×Be)) (s:AJ) (B:St) (H:Hp) (D:Ends),Inv X C B H s->t D B H->A6 (model X.prog X.w) X.A (execs st X.env) (SP X C D) X.xe s
theorem thn{B}{t:Gd B}{Q b:B->AJ->Prop}{M A E s}(h:A6 M A t Q E s)(c:∀a s,Q a s->b a s):A6 M A t b E s:=CG h c λ_ _ x=>x
section
variable {X:Cx}
def ygt(i:Hy):TE:=λB H Q=>∃v,B[i]?=AA (AA v)/\Q v H
def tC(v:V):TE:=λ_ H Q=>Q v H
def zjm{i:Hy}{x pos}(n:X.N[i]?=AA x)(o:Vis X.env.scope x)(f:(x==("__debug__":AT))=false:=by decide)(g:(x==("__classdict__":AT))=false:=by decide):PE X (.Name x pos) (ygt i):=by
 intro C s B H Q I h;let#[v,e,h]:=h;let#[m,p,q]:=I.loc;let#[u,r,l]:=q i x v n e o;have b:EP X C B Q u s:=#[v,H,I,r,h];rcases l with⟨d,t⟩|⟨d,c,j,a⟩
 .exact Gj (FE I.ok.kind d p t b) f
 .rcases d with d|d
  .exact Gj (FT I.ok.kind d j a b) f
  .exact Gj (wpAny_loadName_free I.ok.kind d j a b g) f
def zoE{i j pos}:PE X (.Constant (.int i) j pos) (tC (.int i)):=λ_ _ _ H _ I h=>wpAny_Constant_int #[.int i,H,I.tok _,#[_,rfl],h]
def zoO{b j pos}:PE X (.Constant (.bool b) j pos) (tC (.bl b)):=λ_ _ _ H _ I h=>Constant_bool #[.bl b,H,I,rfl,h]
def zoP{j pos}:PE X (.Constant .none j pos) (tC .non):=λ_ _ _ H _ I h=>Constant_none #[.non,H,I,rfl,h]
def zoQ{x j pos}:PE X (.Constant (.str x) j pos) (tC (.str x)):=λ_ _ _ H _ I h=>Calls.Constant_str #[.str x,H,I.tok _,#[_,rfl],h]
def Gl(X:Cx)(x:AT):Prop:=X.env.kindOf x=AA .globalImplicit
def zbv{E C s B H x u pos}{Q:AH->AJ->Prop}(I:Inv X C B H s)(a:Gl X x)(b:X.mg x=AA u)(h:Q u s)
  (c:(x==("__debug__":AT))=false:=by decide):A6 (model X.prog X.w) X.A (eval (.Name x pos) X.env) Q E s:=
 Dr I.ok.kind a (Calls.loadGlobal_global (by rw[I.ok.glob];exact I.mod.glob.keeps I.bk) b h) c
def zbH{E C s B H x u pos}{Q:AH->AJ->Prop}(I:Inv X C B H s)(a:Gl X x)(b:X.mg x=AF)(c:bootBuiltins x=AA u)(h:Q u s)
  (d:x ≠ "__name__":=by decide) (f:(x==("__debug__":AT))=false:=by decide):A6 (model X.prog X.w) X.A (eval (.Name x pos) X.env) Q E s:=by let#[l,g,j]:=I.mod.blt;exact Dr I.ok.kind a (Calls.loadGlobal_builtin (by rw[I.ok.glob];exact I.mod.glob.keeps I.bk) b (by rw[I.ok.blt];exact g.keeps I.bk) ((j x d).trans c) h) f
def zca{x v u pos}(a:Gl X x)(b:X.mg x=AA u)(r:RelV v u)(c:(x==("__debug__":AT))=false:=by decide):PE X (.Name x pos) (tC v):=
 λ_ _ _ H _ I h=>zbv I a b #[v,H,I,r,h] c
def zj0{x v u pos}(a:Gl X x)(b:X.mg x=AF)(c:bootBuiltins x=AA u)(r:RelV v u)(d:x ≠ "__name__":=by decide)(f:(x==("__debug__":AT))=false:=by decide):PE X (.Name x pos) (tC v):=
 λ_ _ _ H _ I h=>zbH I a b c #[v,H,I,r,h] d f
variable {a b:AW}{ta tb:TE}{pos:Bf}
def PC(X:Cx)(f:De)(a b:AW)(t:TE):Prop:=
 ∀(C:Hx (AK×Be)) (s:AJ) (B:St) (H:Hp) (Q:VK),Inv X C B H s->t B H Q ->
  A6 (model X.prog X.w) X.A (eval a X.env) (λv c=>A6 (model X.prog X.w) X.A (eval b X.env) (λu d=>A6 (model X.prog X.w) X.A (compareOp f v u) (EP X C B Q) X.xe d) X.xe c) X.xe s
def tB(t:TE):TT:=λB H Q=>t B H λx a=>∃c,x=.bl c/\Q c a
def zme{d t}(h:PC X d a b t)(f:behindInMarks d b=false:=by first|exact c _ ⋯ ⋯|rfl):PE X (.Compare a [d] [b] pos) t:=λC s B H Q I g=>wpAny_Compare1 (h C s B H Q I g) f
def zm5{g t}(h:PC X g a b t)(j:behindInMarks g b=false:=by first|exact f _ ⋯ ⋯|rfl):PT X (.Compare a [g] [b] pos) (tB t):=by
 intro C s B H Q I l;refine Et (thn (h C s B H _ I l) λv w j=>thn j λu y m=>thn m λc z kq=>?_) j;let#[x,n,o,p,r]:=kq;let#[d,rfl,q]:=r
 cases p
 exact BR #[n,o,q]
variable {tA tB':TT}{rest:Hx AW}
def yf7(t u:TT):TT:=λB H Q=>t B H λc a=>if c=AD then u B a Q else Q AC a
def tOr(t u:TT):TT:=λB H Q=>t B H λc a=>if c=AD then Q AD a else u B a Q
def yg3(t:TT):TT:=λB H Q=>t B H λc a=>Q (!c) a
def zku(b:PT X a tA):PW X (.BoolOp .And [a] pos) tA:=by
 intro d C s B H Q I h;refine isTrue_and (thn (b C s B H Q I h) λc f e=>?_)
 cases c with
 |true=>exact isTrue_and_nil e
 |false=>exact e
def zlT(b:PT X a tA):PW X (.BoolOp .Or [a] pos) tA:=by
 intro d C s B H Q I h;refine isTrue_or (thn (b C s B H Q I h) λc f e=>?_)
 cases c with
 |false=>exact isTrue_or_nil e
 |true=>exact e
def zlh(j:PT X a tA)(l:PW X (.BoolOp .And (b::rest) pos) tB'):PW X (.BoolOp .And (a::b::rest) pos) (yf7 tA tB'):=by
 intro m C s B H Q I h;refine isTrue_and (thn (j C s B H _ I h) λc n kq=>?_);let#[d,f,g]:=kq
 cases c with
 |true=>exact l m C n B d Q f g
 |false=>exact#[d,f,g]
def znW(j:PT X a tA)(l:PW X (.BoolOp .Or (b::rest) pos) tB'):PW X (.BoolOp .Or (a::b::rest) pos) (tOr tA tB'):=by
 intro m C s B H Q I h;refine isTrue_or (thn (j C s B H _ I h) λc n kq=>?_);let#[d,f,g]:=kq
 cases c with
 |true=>exact#[d,f,g]
 |false=>exact l m C n B d Q f g
def zlY(b:PT X a tA):PT X (.UnaryOp .Not a pos) (yg3 tA):=by intro C s B H Q I h;exact isTrue_not (b C s B H (λc d=>Q (!c) d) I h)
def ydZ(ta tb:TE):TE:=λB H Q=>ta B H λx a=>∃c,x=.bl c/\if c=AD then tb B a Q else Q (.bl AC) a
def yhJ(ta tb:TE):TE:=λB H Q=>ta B H λx a=>∃c,x=.bl c/\if c=AD then Q (.bl AD) a else tb B a Q
def yem(ta:TE):TE:=λB H Q=>ta B H λx a=>∃c,x=.bl c/\Q (.bl (!c)) a
def zmk{b t}(h:PE X a t):PE X (.BoolOp b [a] pos) t:=λC s B H Q I c=>BoolOp_one (h C s B H Q I c)
def zlC(j:PE X a ta)(l:PE X (.BoolOp .And (b::rest) pos) tb):PE X (.BoolOp .And (a::b::rest) pos) (ydZ ta tb):=by
 intro C s B H Q I h;refine BoolOp_and (thn (j C s B H _ I h) λv m kq=>?_);let#[x,f,g,n,d]:=kq;let#[c,rfl,d]:=d
 cases n
 refine BR ?_
 cases c with
 |true=>exact l C m B f Q g d
 |false=>exact#[.bl AC,f,g,rfl,d]
def zoc(j:PE X a ta)(l:PE X (.BoolOp .Or (b::rest) pos) tb):PE X (.BoolOp .Or (a::b::rest) pos) (yhJ ta tb):=by
 intro C s B H Q I h;refine BoolOp_or (thn (j C s B H _ I h) λv m kq=>?_);let#[x,f,g,n,d]:=kq;let#[c,rfl,d]:=d
 cases n
 refine BR ?_
 cases c with
 |false=>exact l C m B f Q g d
 |true=>exact#[.bl AD,f,g,rfl,d]
def zlP(d:PE X a ta):PE X (.UnaryOp .Not a pos) (yem ta):=by
 intro C s B H Q I h;refine UnaryOp_ (thn (d C s B H _ I h) λv l kq=>?_);let#[x,f,g,j,b]:=kq;let#[c,rfl,b]:=b
 cases j
 exact not_of (BR #[.bl (!c),f,g,rfl,b])
def tIf(t:TT)(ta tb:TE):TE:=λB H Q=>t B H λc a=>if c=AD then ta B a Q else tb B a Q
def zhN{c}(m:PT X c tA)(n:PE X a ta)(o:PE X b tb):PE X (.IfExp c a b pos) (tIf tA ta tb):=by
 intro C s B H Q I h;refine wpAny_IfExp (thn (m C s B H _ I h) λd f kq=>?_);let#[g,j,l]:=kq
 cases d with
 |true=>exact n C f B g Q j l
 |false=>exact o C f B g Q j l
end
def SqL(K:AG)(H:Hp)(a:AK)(xs:Hx V):Prop:=
 Rd H a (.lst xs) \/
  ∃(o:Be) (b:IP AH) (n:Hy),K.lookup a=AA o/\o.cls=.type "list"/\o.dict=AF/\o.data=.seq b n/\b.size<=sizeLine/\Vals xs b.toList
def SqT(K:AG)(H:Hp)(a:AK)(xs:Hx V):Prop:=
 Rd H a (.tup xs) \/
  ∃(o:Be) (b:IP AH) (n:Hy),K.lookup a=AA o/\o.cls=.type "tuple"/\o.data=.seq b n/\b.size<=sizeLine/\Vals xs b.toList
def yhe:AH->Option V
 |.none=>AA .non
 |.bool b=>AA (.bl b)
 |.int i _=>AA (.int i)
 |.str x _=>AA (.str x)
 |.bytes b _=>AA (.byt b)
 |.float b _=>AA (.flt b)
 |.ref a=>AA (.ref a)
 |.type n=>AA (.ty n)
 |_=>AF
theorem RelV.abs{x:V}{u:AH}(r:RelV x u):yhe u=AA x:=by
 cases x with
 |non=>cases r;rfl
 |bl _=>cases r;rfl
 |int _=>let#[t,rfl]:=r;rfl
 |str _=>let#[t,rfl]:=r;rfl
 |byt _=>let#[t,rfl]:=r;rfl
 |flt _=>let#[t,rfl]:=r;rfl
 |ref _=>cases r;rfl
 |ty _=>cases r;rfl
theorem RelV.inj{x y:V}{u:AH}(r:RelV x u)(q:RelV y u):x=y:=A0 (r.abs.symm.trans q.abs)
theorem Vals.inj:∀{xs ys:Hx V} {us:Hx AH},Vals xs us->Vals ys us->xs=ys
 |_,_,_,.nil,.nil=>rfl
 |_,_,_,.cons r t,.cons a b=>by rw[r.inj a,Vals.inj t b]
section
variable {X:Cx}{B:Hx (AK×Be)}{A:St}{H:Hp}{s:AJ}{a:AK}{xs ys:Hx V}
theorem SqL.of{K:AG}(h:H a=AA (.lst xs)):SqL K H a xs:=.inl (.inl h)
theorem Inv.list(I:Inv X B A H s)(h:SqL X.K H a xs):∃b:Hx AH,Vals xs b/\PlainL s.heap a b.toArray/\xs.length<=sizeLine:=by
 rcases h with h|⟨o,b,n,c,d,f,g,j,r⟩
 .let#[z,b,n,r,e]:=h.ok I.hok;exact#[b,r,#[_,n,e,rfl,rfl,rfl],z]
 .refine#[b.toList,r,#[o,n,I.kIn a o c,d,f,by simpa using g],?_];have e:=r.length;erw[Bw]at e;lia
theorem Inv.tuple(I:Inv X B A H s)(h:SqT X.K H a xs):∃b:Hx AH,Vals xs b/\IsTup s.heap a b.toArray/\xs.length<=sizeLine:=by
 rcases h with h|⟨o,b,n,c,d,f,g,r⟩
 .let#[z,b,r,p]:=h.ok I.hok;exact#[b,r,#[_,p,rfl,_,rfl],z]
 .refine#[b.toList,r,#[o,I.kIn a o c,d,n,by simpa using f],?_];have e:=r.length;erw[Bw]at e;lia
theorem Inv.list_inj(I:Inv X B A H s)(h:SqL X.K H a xs)(h':SqL X.K H a ys):xs=ys:=by
 let#[c,r,#[o,n,e,_,_,d],_]:=I.list h;let#[b,j,#[m,p,f,_,_,g],_]:=I.list h';rw[e]at f;cases f;rw[d]at g;injection g with l _;have:c=b:=by simpa using IM Fc l
 subst this;exact r.inj j
theorem Inv.tuple_inj(I:Inv X B A H s)(h:SqT X.K H a xs)(h':SqT X.K H a ys):xs=ys:=by
 let#[c,r,#[o,e,_,n,d],_]:=I.tuple h;let#[b,j,#[m,f,_,p,g],_]:=I.tuple h';rw[e]at f;cases f;rw[d]at g;injection g with l _;have:c=b:=by simpa using IM Fc l
 subst this;exact r.inj j
end
section
variable {X:Cx}{B:Hx (AK×Be)}{A:St}{H:Hp}{s:AJ}{E:AH->AJ->Prop}
end
section
variable {X:Cx}{st:Bg}{rest:Hx Bg}{t u:TS}{e:AW}{te:TE}{pos:Bf}
def yeb:TS:=λD A H=>D.nx A H
def yhC(t u:TS):TS:=λD A H=>t {D with nx:=u D} A H
def zoR:PSs X [] yeb:=λ_ _ A H _ I h=>D5 #[A,H,I,h]
def zfm(a:PS X st t)(b:PSs X rest u):PSs X (st::rest) (yhC t u):=by
 intro B s A H D I h;refine GM (thn (a B s A H {D with nx:=u D} I h) λf c q=>?_)
 cases f with
 |next=>
  let#[d,g,j,q]:=q;exact b B c d g D j q
 |ret v=>exact q
 |brk=>exact q
 |cont=>exact q
def zj1(a:PS X st t):PSs X [st] t:=by
 intro B s A H D I h;refine GM (thn (a B s A H D I h) λf b q=>?_)
 cases f with
 |next=>exact D5 q
 |ret v=>exact q
 |brk=>exact q
 |cont=>exact q
theorem Inv.quiet{B:Hx (AK×Be)}{A:St}{H:Hp}{s:AJ}(I:Inv X B A H s):interactive X.env=false:=by simp[interactive,I.ok.kind]
def yd6(te:TE):TS:=λD A H=>te A H λ_ a=>D.nx A a
def zk1(a:PE X e te)(b:swapsWith e AF pos.line X.env=pure false:=by rfl):PS X (.Expr e pos) (yd6 te):=by intro B s A H D I h;exact wpAny_Expr_any (thn (a B s A H _ I h) λv g #[x,c,d,j,f]=>#[A,c,d,f]) I.quiet b
def yhj(te:TE):TS:=λD A H=>te A H D.rt
def zi0(a:PE X e te):PS X (.Return (AA e) pos) (yhj te):=by intro B s A H D I h;exact wpAny_Return_some (thn (a B s A H _ I h) λv g #[x,b,c,d,f]=>#[x,A,b,c,d,f])
def yeN:TS:=λD _ H=>D.rt .non H
def zoS:PS X (.Return AF pos) yeN:=λ_ _ A H _ I h=>wpAny_Return_none #[.non,A,H,I,rfl,h]
def yht(c:TT)(t u:TS):TS:=λD A H=>c A H λb a=>if b=AD then t D A a else u D A a
def znS{c a b f}(n:PT X c f)(o:PSs X a t)(p:PSs X b u):PS X (.If c a b pos) (yht f t u):=by
 intro B s A H D I h;refine wpAny_If (thn (n B s A H _ I h) λd g kq=>?_);let#[j,l,m]:=kq
 cases d with
 |true=>exact o B g A j D l m
 |false=>exact p B g A j D l m
end
abbrev TG:=V->St->Hp->(St->Hp->Prop)->Prop
abbrev TGs:=Hx V->St->Hp->(St->Hp->Prop)->Prop
def PG(X:Cx)(a:AW)(t:TG):Prop:=
 ∀(C:Hx (AK×Be)) (s:AJ) (B:St) (H:Hp) (v:V) (u:AH) (Q:St->Hp->Prop),Inv X C B H s->RelV v u->t v B H Q ->
  A6 (model X.prog X.w) X.A (assign a X.env u) (λ_ d=>∃b c,Inv X C b c d/\Q b c) X.xe s
def PGs(X:Cx)(f:Hx AW)(t:TGs):Prop:=
 ∀(C:Hx (AK×Be)) (s:AJ) (B:St) (H:Hp) (a:Hx V) (b:Hx AH) (Q:St->Hp->Prop),Inv X C B H s->Vals a b->t a B H Q ->
  A6 (model X.prog X.w) X.A (assignInOrder ((assignEach f X.env).map (·.2)) b) (λ_ g=>∃c d,Inv X C c d g/\Q c d) X.xe s
abbrev yej:=V->V->V->Hp->(Hp->Prop)->Prop
def yfr(X:Cx)(t:yej):Prop:=
 ∀(C:Hx (AK×Be)) (s:AJ) (B:St) (H:Hp) (o i v:V) (a b u:AH) (Q:Hp->Prop),Inv X C B H s->RelV o a->RelV i b->RelV v u->t o i v H Q ->
  A6 (model X.prog X.w) X.A (setItem a b u) (λ_ d=>∃c,Inv X C B c d/\Q c) X.xe s
abbrev TIp:=V->V->Hp->VK->Prop
def PIp(X:Cx)(a:DI)(t:TIp):Prop:=
 ∀(C:Hx (AK×Be)) (s:AJ) (B:St) (H:Hp) (x y:V) (v u:AH) (Q:VK),Inv X C B H s->RelV x v->RelV y u->t x y H Q ->
  A6 (model X.prog X.w) X.A (inplaceOp a v u) (EP X C B Q) X.xe s
section
variable {X:Cx}{pos:Bf}
def yce(i:Hy):TG:=λv B H Q=>Q (B.set i (AA v)) H
def zf1{i:Hy}{x}(a:X.N.Nodup)(hi:X.N[i]?=AA x)(b:Loc X.env.scope x)(hf:X.fn x=AD \/ X.env.scope.names.lookup x=AA .local:=by first|exact .inl rfl|exact .inr rfl|assumption):PG X (.Name x pos) (yce i):=by intro C s B H v u Q I r h;exact Ff (zaY I a hi b r (λd c=>#[_,H,c,h]) hf)
def yhg:TGs:=λa B H Q=>a=[]/\Q B H
def yeI(t:TG)(u:TGs):TGs:=λa B H Q=>∃v r,a=v::r/\t v B H λb c=>u r b c Q
def zoT:PGs X [] yhg:=by
 intro C s B H a b Q I r h;let#[e,h]:=h;subst e
 cases r
 exact Fg #[B,H,I,h]
def ziL{e es t u}(a:PG X e t)(b:PGs X es u)
  (c:(assignEach (e::es) X.env).map (·.2)=assign e X.env::(assignEach es X.env).map (·.2):=by rfl):PGs X (e::es) (yeI t u):=by
 intro C s B H n o Q I r h;let#[v,p,d,h]:=h;subst d
 cases r with
 |cons r f=>
  rw[c];refine Ds (thn (a C s B H _ _ _ I r h) λ_ g kq=>?_);let#[B1,j,l,m]:=kq;exact b C g B1 j _ _ Q l f m
def yg5(K:AG)(n:Hy)(t:TGs):TG:=λv B H Q=>∃a b,v=.ref a/\SqT K H a b/\b.length=n/\t b B H Q
def zlq{es}{k:Hy}{t}{n:Hy}(g:X.calm=AD)(h:PGs X es t)
  (j:(assignEach es X.env).length=n:=by rfl) (c:(assignEach es X.env).findIdx? (·.1)=none:=by rfl):PG X (.Tuple es k pos) (yg5 X.K n t):=by
 intro C s B H v u Q I r d;let#[a,l,m,p,q,d]:=d;subst m
 cases r
 let#[w,f,x,D]:=I.tuple p;refine assign_Tuple_tuple (I.ok.hd g) x (by simp[j,<-q,f.length]) c λy z=>?_;have A:Inv X C B H {s with heap:=y}:=I.kept (t':=s.toks) λb o e=>z b o (Ao (A2 e)) e;exact h C _ B H l _ Q A (by simpa using f) d
def yfK(a ti:TE)(t:yej):TG:=λv B H Q=>a B H λo b=>ti B b λi c=>t o i v c λd=>Q B d
def zjw{o i c ti t}(d:PE X o c)(hi:PE X i ti)(f:yfr X t)
  (g:∀v,assign (.Subscript o i pos) X.env v=(do
   let a <-holding [v] (eval o X.env)
   let b <-holding [v,a] (eval i X.env)
   standAt pos
   holding [v,a,b] (setItem a b v)
   release [v,a,b] []):=by intro _;rfl):PG X (.Subscript o i pos) (yfK c ti t):=by intro C s B H v u Q I r h;rw[g];refine AI (Cy (thn (d C s B H _ I h) λa j kq=>?_));let#[x,l,m,n,p]:=kq;refine AI (Cy (thn (hi C j B l _ m p) λb q kq=>?_));let#[y,w,z,A,D]:=kq;refine AI (Cz (AI (Cy (thn (f C q B w x y v a b u _ z n A r D) λ_ L kq=>?_))));let#[E,G,J]:=kq;exact wpAny_release #[B,E,G,J]
def ydS(a:TE)(g:TG):TS:=λD B H=>a B H λx b=>g x B b D.nx
def ziY{a e b g}(c:PE X e b)(d:PG X a g)(f:swapsWithSole [a] e pos.line X.env=pure false:=by rfl)(j:swappedStores [a] e X.env=pure none:=by rfl)
  (l:(assignEach [a] X.env).map (·.2)=[assign a X.env]:=by rfl):PS X (.Assign [a] e pos) (ydS b g):=by intro C s B H D I h;refine wpAny_Assign_stores (thn (c C s B H _ I h) λv m kq=>?_) f j;let#[x,n,o,p,r]:=kq;rw[l];exact thn (d C m B n x v _ o p r) λ_ t q=>q
def ziZ{i:Hy}{x e b a}(c:X.N.Nodup)(hi:X.N[i]?=AA x)(d:Loc X.env.scope x)(f:PE X e b)(g:swapsWith e (AA (.Name x a)) pos.line X.env=pure false:=by rfl)(hf:X.fn x=AD \/ X.env.scope.names.lookup x=AA .local:=by first|exact .inl rfl|exact .inr rfl|assumption):
  PS X (.Assign [.Name x a] e pos) (ydS b (yce i)):=by intro C s B H D I h;refine wpAny_Assign_Name (thn (f C s B H _ I h) λv p kq=>?_) g;let#[y,j,l,m,n]:=kq;exact zaY l c hi d m (λq o=>#[_,j,o,n]) hf
def ye0(i j:Hy)(a:TA):TS:=λD B H=>a B H λb c=>∃v w,b=[v,w]/\D.nx ((B.set i (AA v)).set j (AA w)) c
def zmd{i j:Hy}{x y}{a b:AW}{E l m pt n r c}(O:X.calm=AD)(G:X.N.Nodup)(hi:X.N[i]?=AA x)(U:X.N[j]?=AA y)(t:i≠j)
  (J:X.env.scope.names.lookup x=AA .local) (L:X.env.scope.names.lookup y=AA .local) (Y:PA X [a,b] E)
  (Z:swappedStores [.Tuple [.Name x l,.Name y m] n pt] (.Tuple [a,b] r c) X.env=pure (AA [x,y]))
  (hs:swapsWithSole [.Tuple [.Name x l,.Name y m] n pt] (.Tuple [a,b] r c) pos.line X.env=pure false:=by rfl):
  PS X (.Assign [.Tuple [.Name x l,.Name y m] n pt] (.Tuple [a,b] r c) pos) (ye0 i j E):=by
 intro C s B H D I h;rw[exec_Assign_arm];refine AI (Cz ?_);rw[hs];refine AI (AX ?_);rw[IE ⋯];refine AI (Tuple_ (thn (Y _ C s B H _ I h) λus d kq=>?_));let#[vs,M,I1,r1,u]:=kq;let#[v,w,e1,u]:=u;subst e1;obtain⟨f,g,rfl,rv,z⟩:∃f g,us=[f,g]/\RelV v f/\RelV w g:=by
  cases r1 with
  |cons p q=>
   cases q with
   |cons p' q'=>
    cases q'
    exact#[_,_,rfl,p,p']
 refine B8 ?_ (by show 2<=sizeLine;decide);have I2:Inv X C B M {d with heap:=d.heap.push {cls:=.type "tuple",data:=.seq [f,g].toArray} }:=I1.kept (t':=d.toks) λb o e=>AU _ e;rw[Z];refine AI (AX ?_);show A6 (model X.prog X.w) X.A (do rule "assign.swapped-stores";let items <-unpackItems (.ref d.heap.objs.size) 2 AF;assignInOrder [λv=>bindName X.env y v,λv=>bindName X.env x v] items.reverse;pure HK) _ _ _;refine AI (E8 (AI (unpackItems_tuple (items:=(Hx.toArray [f,g])) (I.ok.hd O) (IsTup.new d.heap _) λh' A=>?_)));have I3:=I2.kept (h':=h') (t':=d.toks) λb o e=>A b o (Ao (A2 e)) e;show A6 _ _ (assignInOrder [λv=>bindName X.env y v,λv=>bindName X.env x v] [g,f] >>= λ_=>pure HK) _ _ _;refine AI (Ds (wpAny_bindName (zaY I3 G U (.inl L) z (λs2 I4=>?_) (.inr L))));refine Ds (wpAny_bindName (zaY I4 G hi (.inl J) rv (λs3 N=>Fg (AX ?_)) (.inr J)));rw[HB _ _ (BI t)]at N;exact#[_,M,N,u]
def ygp(i:Hy)(a:TE)(ti:TIp):TS:=λD B H=>∃x,B[i]?=AA (AA x)/\a B H λy b=>ti x y b λz c=>D.nx (B.set i (AA z)) c
def zlK{i:Hy}{x e p j ti d}(q:X.N.Nodup)(hi:X.N[i]?=AA x)(n:Loc X.env.scope x)(t:PE X e p)(A:PIp X j ti)(hf:X.fn x=AD \/ X.env.scope.names.lookup x=AA .local:=by first|exact .inl rfl|exact .inr rfl|assumption):
  PS X (.AugAssign (.Name x d) j e pos) (ygp i p ti):=by
 intro C s B H D I h;let#[v,E,h]:=h;let#[m,G,J]:=I.loc;have o:Vis X.env.scope x:=by rcases n with k|k;exact .inl k;exact .inr (.inl k)
 let#[u,r,l]:=J i x v hi E o;refine wpAny_AugAssign_Name ?_;have go:A6 (model X.prog X.w) X.A (eval e X.env) (λw f=>A6 (model X.prog X.w) X.A (inplaceOp j u w) (λr g=>A6 (model X.prog X.w) X.A (storeName X.env x r) (λ_=>SP X C D .next) X.xe g) X.xe f) X.xe s:=by refine thn (t C s B H _ I h) λw L kq=>?_;let#[y,M,N,O,U]:=kq;refine thn (A C L B M v y u w _ N r O U) λz s2 kq=>?_;let#[zv,Y,Z,r2,q2]:=kq;exact zaY Z q hi n r2 (λs3 I3=>#[_,Y,I3,q2]) hf
 rcases l with⟨a,hm⟩|⟨a,c,hc,b⟩
 .exact FE I.ok.kind a G hm go
 .rcases a with a|a
  .exact FT I.ok.kind a hc b go
  .rcases n with k|k
   .have:X.env.scope.names.lookup x=AA .free:=a;rw[k]at this;cases this
   .have:X.env.scope.names.lookup x=AA .free:=a;rw[k]at this;cases this
def ipI(f:Hz->Hz->Hz):TIp:=λx y H Q=>∃i j,x=.int i/\y=.int j/\Q (.int (f i j)) H
def zlo:PIp X .Add (ipI λi j=>i+j):=by intro C s B H x y v u Q I a b h;let#[i,j,c,d,q]:=h;subst c;subst d;let#[t,rfl]:=a;let#[f,rfl]:=b;exact Ge #[.int _,H,I.tok _,#[_,rfl],q]
end
section
variable {X:Cx}{pos:Bf}
def ydb(c:TT)(j:TS):TS:=λD B H=>∃W:Hy->St->Hp->Prop,(∃m,W m B H)/\∀m B H,W m B H ->
 c B H λb a=>if b=AD then ∃N:St->Hp->Prop,(∀d f,N d f->∃g,g < m/\W g d f)/\j {D with nx:=N,ct:=N,bk:=D.nx} B a else D.nx B a
def ziD{c a t u}(w:EX (model X.prog X.w) X.A X.env X.xe)(J:PT X c t)(L:PSs X a u):PS X (.While c a [] pos) (ydb t u):=by
 intro C s B H D I h;let#[W,#[M,O],d]:=h;refine wpAny_While (codeAny_whileLoop (λn U=>∃x y,Inv X C x y U/\W n x y) ?_ M #[B,H,I,O])
 rintro n Y ⟨B1,z,Z,w1⟩
 refine CP w (thn (J C Y B1 z _ Z (d n B1 z w1)) λb s2 kq=>?_);let#[A,E,j]:=kq
 cases b with
 |true=>
  let#[N,G,j]:=j;rw[ID rfl];refine CP w (thn (L C s2 B1 A _ E j) λf s3 l=>?_)
  cases f with
  |next=>
   let#[B3,g,m,o]:=l;let#[p,q,r]:=G B3 g o;exact#[p,q,B3,g,m,r]
  |cont=>
   let#[B3,g,m,o]:=l;let#[p,q,r]:=G B3 g o;exact#[p,q,B3,g,m,r]
  |brk=>exact l
  |ret v=>exact l
 |false=>
  rw[IE AR];exact D5 #[B1,A,E,j]
end
structure It where
 go:Hy->Hp->Prop
 yld:Hy->Hp->V->Hp->Prop
 stop:Hy->Hp->Prop
def ybi(X:Cx)(A:Hx (AK×Be))(H:Hp)(b:AK):Prop:=
 H b=AF/\b≠X.env.locals/\b∉X.fs/\(b∈X.ex \/ X.s₀.heap.objs.size<=b)/\(∀x c,X.env.cells.lookup x=AA c->c≠b)/\∀p∈X.pn++A,p.1≠b
theorem Inv.fpOk{X:Cx}{B:Hx (AK×Be)}{A:St}{H d:Hp}{s:AJ}{b:AK}(I:Inv X B A H s)(a:s.heap.objs.size<=b)(f:d b=AF):ybi X B d b:=by
 refine#[f,Cm (Aa I.lt a),I.nofs a,.inr (BW I.sz a),λx c e z=>?_,λp g z=>?_]
 .let#[v,q]:=I.cell x c e;exact IG (Aa q.lt (by rw[z];exact a)) (Cw _)
 .exact IG (Aa (A2 (I.pin p g).1) (by rw[z];exact a)) (Cw _)
structure Turn(P:A4)(w:Ae)(K:AG)(tg:AW)(J:It)(fp:Hx AK)(it:AK)(tn:Hy->Au->Prop):Prop where
 mem:it∈fp
 obj:∀i h,tn i h->∀b∈fp,∃o,h.get? b=AA o/\∀v,o.data ≠ .cell v
 keep:∀i h h',tn i h->(∀b∈fp,∀o,h.get? b=AA o->h'.get? b=AA o)->tn i h'
 item:∀(X:Cx),X.prog=P->X.w=w->X.K=K->X.calm=AD->∀(i:Hy) (C:Hx (AK×Be)) (s:AJ) (B:St) (H:Hp) (E:AH->AJ->Prop),Inv X C B H s->(∀b∈fp,ybi X C H b)->tn i s.heap->J.go i H ->
  A6 (model P w) X.A (pyNext (.ref it)) (λr s1=>∃u,r=AA u /\
   A6 (model P w) X.A (letOwnedTupleGo tg (.ref it) u) (λ_ s2=>∃x H',Inv X C B H' s2/\RelV x u/\J.yld i H x H'/\tn (i+1) s2.heap/\∀b∈fp,H' b=AF) E s1) E s
 done:∀(X:Cx),X.prog=P->X.w=w->X.K=K->X.calm=AD->∀(i:Hy) (C:Hx (AK×Be)) (s:AJ) (B:St) (H:Hp) (E:AH->AJ->Prop),Inv X C B H s->(∀b∈fp,ybi X C H b)->tn i s.heap->J.stop i H ->
  A6 (model P w) X.A (pyNext (.ref it)) (λr s1=>r=AF/\Inv X C B H s1) E s
 self:∀(A:Af) (i:Hy) (s:AJ) (Q:AH->AJ->Prop) (E:AH->AJ->Prop),tn i s.heap->Q (.ref it) s->A6 (model P w) A (pyIter (.ref it)) Q E s
abbrev TI:=St->Hp->(It->Hp->Prop)->Prop
def PIE(X:Cx)(B:Hx (AK×Be))(A:St)(l:AW)(R:It->Hp->Prop)(a:AH)(d:AJ):Prop:=
 ∃(f:AK) (g:Hx AK) (j:Hy->Au->Prop) (J:It) (c:Hp),a=.ref f/\Inv X B A c d/\Turn X.prog X.w X.K l J g f j/\j 0 d.heap/\(∀b∈g,ybi X B c b)/\R J c
def PI(X:Cx)(b a:AW)(c:TI):Prop:=
 ∀(C:Hx (AK×Be)) (s:AJ) (B:St) (H:Hp) (R:It->Hp->Prop),Inv X C B H s->c B H R ->
  A6 (model X.prog X.w) X.A (eval a X.env) (λv d=>A6 (model X.prog X.w) X.A (pyIter v) (PIE X C B b R) X.xe d) X.xe s
def zit{M A E}{s:AJ}{b}{c:AK}{u o n vs}{Q:IZ->AJ->Prop}(d:s.heap.get? c=AA o)(f:o.cls=.type n)(g:o.data=.fields vs)
  (j:["enumerate","zip","dict_itemiterator","dict_reverseitemiterator","odict_iterator","itertools.zip_longest","itertools.pairwise"].contains n=AC) (a:Q IZ.unit s):A6 M A (letOwnedTupleGo b (.ref c) u) Q E s:=by
 unfold letOwnedTupleGo
 cases b<;>first
  |exact AX a
  | (cases u<;>first
    |exact AX a
    | (refine AI (wpAny_load d ?_)
       rw[f,g];show A6 M A (if (["enumerate","zip","dict_itemiterator","dict_reverseitemiterator","odict_iterator","itertools.zip_longest","itertools.pairwise"].contains n&&vs[0]? == AA (rawInt _))=AD then _ else _) Q E s;rw[IE (by intro h;rw[j,B9]at h;cases h)];exact AX a))
def Itl(K:AG)(a:AK):It:=
 #[λi H=>∃b x,SqL K H a b/\b[i]?=AA x,λi H x c=>c=H/\∀b,SqL K H a b->b[i]?=AA x,λi H=>∃b,SqL K H a b/\b.length<=i]
def Itt(K:AG)(a:AK):It:=
 #[λi H=>∃b x,SqT K H a b/\b[i]?=AA x,λi H x c=>c=H/\∀b,SqT K H a b->b[i]?=AA x,λi H=>∃b,SqT K H a b/\b.length<=i]
def Itr(lo:Hz)(n:Hy):It:=#[λi _=>i<n,λi H x a=>a=H/\x=.int (lo+i),λi _=>n<=i]
def zgd{P w K U}(a f:AK):Turn P w K U (Itl K a) [f] f (λi h=>h.IsListIter f a i) where
 mem:=by simp
 obj:=λi h st b g=>by
  have e:b=f:=by simpa using g
  subst e;let#[o,e,c,d]:=st;exact#[o,e,λv z=>by rw[d]at z;cases z]
 keep:=λi h l st k=>st.at λo e=>k f (by simp) o e
 item:=by intro X n q r O i B s A H E I hf st t;subst n q r;let#[Y,x,m,y]:=t;let#[C,D,p,Z]:=I.list m;let#[u,hu,ru]:=D.get y;let#[G,J,f2,L,M,N]:=hf f (by simp);refine wpAny_pyNext_list_item st p.isList (x:=u) (by simpa using hu) λl j sb=>?_;have I1:Inv X B A H {s with heap:=l}:=I.turned (t':=s.toks) (λb o g e=>(sb.2 b g).trans e) G J L M N;let#[o,e,c,d]:=id j;exact#[u,rfl,zit (s:={s with heap:=l}) e c d ⋯ #[x,H,I1,ru,#[rfl,λys hy=>by rw[I.list_inj hy m];exact y],j,λb g=>(hf b g).1]]
 done:=by intro X n q r O i B s A H E I hf st t;subst n q r;let#[Y,m,y]:=t;let#[C,D,p,Z]:=I.list m;let#[G,J,f2,L,M,N]:=hf f (by simp);have hl:=D.length;exact wpAny_pyNext_list_end (I.ok.hd O) st p.isList (by simp;lia) λl eb=>#[rfl,I.turned (t':=s.toks) (λb o g e=>eb b o g e) G J L M N]
 self:=λ_ _ _ _ _ st h=>wpAny_pyIter_listiter st h
def zfn{P w K U}(a f:AK):Turn P w K U (Itt K a) [f] f (λi h=>h.IsTupleIter f a i) where
 mem:=by simp
 obj:=λi h st b g=>by
  have e:b=f:=by simpa using g
  subst e;let#[o,e,c,d]:=st;exact#[o,e,λv z=>by rw[d]at z;cases z]
 keep:=λi h m st k=>st.at λo e=>k f (by simp) o e
 item:=by intro X q r t O i B s A H E I hf st y;subst q r t;let#[Y,x,n,C]:=y;let#[j,D,p,Z]:=I.tuple n;let#[u,hu,ru]:=D.get C;let#[G,J,f2,L,M,N]:=hf f (by simp);refine wpAny_pyNext_tuple_item st (show s.heap.IsTuple a j.toArray from p) (x:=u) (by simpa using hu) λm l sb=>?_;have I1:Inv X B A H {s with heap:=m}:=I.turned (t':=s.toks) (λb o g e=>(sb.2 b g).trans e) G J L M N;let#[o,e,c,d]:=id l;exact#[u,rfl,zit (s:={s with heap:=m}) e c d ⋯ #[x,H,I1,ru,#[rfl,λys hy=>by rw[I.tuple_inj hy n];exact C],l,λb g=>(hf b g).1]]
 done:=by intro X q r t O i B s A H E I hf st y;subst q r t;let#[Y,n,C]:=y;let#[j,D,p,Z]:=I.tuple n;let#[G,J,f2,L,M,N]:=hf f (by simp);have hl:=D.length;exact wpAny_pyNext_tuple_end (I.ok.hd O) st (show s.heap.IsTuple a j.toArray from p) (by simp;lia) λm eb=>#[rfl,I.turned (t':=s.toks) (λb o g e=>eb b o g e) G J L M N]
 self:=λ_ _ _ _ _ st h=>wpAny_pyIter_tupleiter st h
def zfE{P w K D}(a:AK)(lo:Hz)(n:Hy):Turn P w K D (Itr lo n) [a] a (λi h=>FF h a (lo+(i:Hy)*1) ((n:Hz)-(i:Hy)) 1) where
 mem:=by simp
 obj:=λi h st b c=>by
  have e:b=a:=by simpa using c
  subst e;exact#[_,st,λv z=>by
   have G:He _=Data.cell v:=z
   cases G]
 keep:=λi h f st k=>k a (by simp) _ st
 item:=by intro X g j l m i B s A H E I hf st p;subst g j l;let#[q,r,J,u,x,y]:=hf a (by simp);have W:=Hf (prog:=X.prog) (w:=X.w) (I.ok.hd m) a lo 1 n;refine W.item i s _ _ p st λv f C L d M=>?_;let#[t,rfl]:=L;have N:Inv X B A H {s with heap:=f,toks:=C}:=I.turned (λb o c e=>M b o (by simpa using c) e) q r u x y;refine#[_,rfl,zit (s:={s with heap:=f,toks:=C}) (n:="range_iterator") d rfl rfl ⋯ #[.int (lo+i),H,N,#[t,?_],#[rfl,rfl],d,λb c=>(hf b c).1]];rw[C3]
 done:=by intro X g j l m i B s A H E I hf st p;subst g j l;let#[q,r,J,u,x,y]:=hf a (by simp);exact E9 (I.ok.hd m) st (by have:n<=i:=p;lia) λf O=>#[rfl,I.turned (t':=s.toks) (λb o c e=>O b o c e) q r u x y]
 self:=λ_ _ _ _ _ st h=>Ea st h
section
variable {X:Cx}{tg:AW}
def zeO{C B H s}{R:It->Hp->Prop}{E}{lo hi:Hz}{t u v}{a:Hy}(I:Inv X C B H s)(d:-(2^62)<=lo)(f:lo<2^62)(g:-(2^62)<=hi)(j:hi<2^62)
  (q:R (Itr lo (hi-lo).toNat) H):A6 (model X.prog X.w) X.A (pyIter (.ref s.heap.objs.size)) (PIE X C B tg R) E {s with heap:=s.heap.push {cls:=.type "range",data:=.fields (Hx.toArray [.int lo t,.int hi u,.int 1 v])},toks:=a}:=by
 refine F7 (Hg ..) (small_one d f g j) ?_;have c:Inv X C B H {s with heap:=s.heap.push {cls:=.type "range",data:=.fields (Hx.toArray [.int lo t,.int hi u,.int 1 v])},toks:=a}:=I.kept λb o e=>AU _ e;refine#[(s.heap.push {cls:=.type "range",data:=.fields (Hx.toArray [.int lo t,.int hi u,.int 1 v])}).objs.size,[(s.heap.push {cls:=.type "range",data:=.fields (Hx.toArray [.int lo t,.int hi u,.int 1 v])}).objs.size],_,_,H,rfl,
  c.kept (t':=a) λb o e=>AU _ e,zfE _ lo (hi-lo).toNat,?_,λb l=>?_,q]
 .have m:lo+((0:Hy):Hz)*1=lo:=by simp
  have n:(((hi-lo).toNat:Hy):Hz)-((0:Hy):Hz)=Bn lo hi 1:=by rw[rangeSize_one];split<;>lia
  show FF _ _ (lo+((0:Hy):Hz)*1) ((((hi-lo).toNat:Hy):Hz)-((0:Hy):Hz)) 1;rw[m,n];exact A5 _ rfl
 .have e:b=(s.heap.push {cls:=.type "range",data:=.fields (Hx.toArray [.int lo t,.int hi u,.int 1 v])}).objs.size:=by simpa using l
  subst e;exact c.fpOk (AS _) (c.hok.fresh (AS _))
def yev(a:TA):TI:=λB H R=>a B H λb c=>∃j:Hz,b=[.int j]/\-(2^62)<=j/\j<2^62/\R (Itr 0 j.toNat) c
def yeS(a:TA):TI:=λB H R=>a B H λb c=>∃i j:Hz,b=[.int i,.int j]/\(-(2^62)<=i/\i<2^62/\-(2^62)<=j/\j<2^62)/\R (Itr i (j-i).toNat) c
def zdX{a:AW}{c}{p pos:Bf}(d:Gl X "range")(f:X.mg "range"=AF)(g:PA X [a] c)(l:starEach [a] X.env=[(AC,eval a X.env)]:=by rfl):PI X tg (.Call (.Name "range" p) [a] [] pos) (yev c):=by
 intro C s B H R I h;refine Call_ (zbH I d f Gk (BS (thn (g pos C s B H _ I h) λw x kq=>?_) l rfl));let#[y,z,m,n,b]:=kq;let#[j,e,b,o,q]:=b;subst e
 cases n with
 |cons r u=>
  cases u
  let#[t,rfl]:=r;exact call_range_1 (zeO m () () b o (by simpa using q))
def zgJ{a b:AW}{g}{p pos:Bf}(l:Gl X "range")(m:X.mg "range"=AF)(n:PA X [a,b] g)(o:starEach [a,b] X.env=[(AC,eval a X.env),(AC,eval b X.env)]:=by rfl)(c:starEach [b] X.env=[(AC,eval b X.env)]:=by rfl):
  PI X tg (.Call (.Name "range" p) [a,b] [] pos) (yeS g):=by
 intro C s B H R I h;refine Call_ (zbH I l m Gk (BS (thn (n pos C s B H _ I h) λA D kq=>?_) (by rw[o,c]) (by rw[c];rfl)));let#[E,G,u,w,d]:=kq;let#[i,j,e,#[d,x,y,q4],q]:=d;subst e
 cases w with
 |cons r f=>
  cases f with
  |cons z f=>
   cases f
   let#[t,rfl]:=r;let#[J,rfl]:=z;exact call_range_2 (zeO u d x y q4 q)
def ygZ(d:TI)(g:TG)(f:TS):TS:=λD B H=>d B H λJ j=>∃W:Hy->Hy->St->Hp->Prop,(∃m,W 0 m B j)/\∀i m B H,W i m B H ->
 (J.stop i H/\D.nx B H) \/ (J.go i H/\∃N:St->Hp->Prop,(∀b a,N b a->∃c,c < m/\W (i+1) c b a)/\∀x a,J.yld i H x a->g x B a λl n=>f {D with nx:=N,ct:=N,bk:=D.nx} l n)
def ybf(a:Hx AK)(h:Au):Hx (AK×Be):=a.filterMap λb=>(h.get? b).map λo=>(b,o)
def zaX{a:Hx AK}{h:Au}{b:AK}{o}(c:b∈a)(e:h.get? b=AA o):(b,o)∈ybf a h:=Dt.mpr #[b,c,by rw[e];rfl]
def zgq{a h}{p:AK×Be}(c:p∈ybf a h):p.1∈a/\h.get? p.1=AA p.2:=by
 let#[b,d,e]:=Dt.mp c
 cases q:h.get? b with
 |none=>rw[q]at e;cases e
 |some o=>
  rw[q]at e;have f:(b,o)=p:=A0 e;subst f;exact#[d,q]
theorem Inv.pinned{C:Hx (AK×Be)}{B:St}{H:Hp}{s:AJ}{a:Hx AK}(I:Inv X C B H s)(hf:∀b∈a,ybi X C H b)(g:∀b∈a,∃o,s.heap.get? b=AA o/\∀v,o.data ≠ .cell v):Inv X (C++ybf a s.heap) B H s:=
 I.pins_of λp j=>(Aw.mp j).elim (λz=>I.pin p (Ab _ z)) λz=>by let#[c,e]:=zgq z;let#[l,m,n,_]:=hf p.1 c;let#[o,f,d]:=g p.1 c;rw[e]at f;cases f;exact#[e,l,m,n,d]
theorem Inv.unpinned{C pl:Hx (AK×Be)}{B:St}{H:Hp}{s:AJ}(I:Inv X (C++pl) B H s):Inv X C B H s:=I.pins_of λp a=>I.pin p (Ab _ (BJ _ a))
def zm9{a t wi g tb pos}(z:EX (model X.prog X.w) X.A X.env X.xe)(hc:X.calm=AD)(hi:PI X tg a wi)(hg:PG X tg g)(c:PSs X t tb)
  (hs:∀x,foldedSetIterable a X.env x=pure x:=by intro _;rfl):PS X (.For tg a t [] pos) (ygZ wi g tb):=by
 intro C s B H D I h;refine wpAny_For (thn (hi C s B H _ I h) λv s1 h1=>thn h1 λitv s2 h2=>?_) hs;let#[it,A,tn,J,H2,e,I2,T,Y,f2,W,#[m0,w0],E]:=h2;subst e;have j:∀{q:Hp},(∀b∈A,q b=AF)->∀b∈A,ybi X C q b:=λhn b c=>#[hn b c,(f2 b c).2];refine codeAny_forLoop_any (λn s'=>∃i G q,Inv X C G q s'/\tn i s'.heap/\(∀b∈A,q b=AF)/\W i n G q) ?_ m0 #[0,B,H2,I2,Y,λb c=>(f2 b c).1,w0]
 rintro n s3 ⟨i,B3,U,I3,L,M,w3⟩
 rcases E i n B3 U w3 with⟨stop,qn⟩|⟨go,N,hN,step⟩
 .refine CP z (thn (T.done X rfl rfl rfl hc i C s3 B3 U X.xe I3 (j M) L stop) λr s4 kq=>?_);let#[Z,I4]:=kq;subst Z;exact D5 #[B3,U,I4,qn]
 .refine CP z (thn (T.item X rfl rfl rfl hc i C s3 B3 U X.xe I3 (j M) L go) λr s4 kq=>?_);let#[u,Z,h4]:=kq;subst Z;refine CP z (thn h4 λ_ s5 kq=>?_);let#[x,H5,I5,r5,y5,y,fr5]:=kq;have I5':=I5.pinned (j fr5) (T.obj _ _ y);refine CP z (thn (hg _ s5 B3 H5 x u _ I5' r5 (step x H5 y5)) λ_ s6 kq=>?_);let#[B6,H6,I6,q6]:=kq;refine CP z (thn (c _ s6 B6 H6 _ I6 q6) λf s7 w=>?_);have again:∀{B7:St} {l:Hp},Inv X (C++ybf A s5.heap) B7 l s7->N B7 l->∃m,m<n/\∃i G q,Inv X C G q s7/\tn i s7.heap/\(∀b∈A,q b=AF)/\W i m G q:=λ{B7 l} p O=>by let#[m',hm,w7]:=hN B7 l O;refine#[m',hm,i+1,B7,l,p.unpinned,T.keep _ _ _ y λb c o e=>(p.pin (b,o) (Ab _ (Ab _ (zaX c e)))).1,λb c=>?_,w7];let#[o,e,d]:=T.obj _ _ y b c;exact(p.pin (b,o) (Ab _ (Ab _ (zaX c e)))).2.1
  cases f with
  |next=>let#[B7,l,p,O]:=w;exact again p O
  |cont=>let#[B7,l,p,O]:=w;exact again p O
  |brk=>let#[B7,l,p,w]:=w;exact#[B7,l,p.unpinned,w]
  |ret v=>let#[x7,B7,l,p,r7,w]:=w;exact#[x7,B7,l,p.unpinned,r7,w]
end
abbrev R2:=V->V->Hp->VK->Prop
def OpR(X:Cx)(f:AH->AH->Gd AH)(r:R2):Prop:=
 ∀(C:Hx (AK×Be)) (s:AJ) (B:St) (H:Hp) (x y:V) (v u:AH) (Q:VK),Inv X C B H s->RelV x v->RelV y u->r x y H Q ->
  A6 (model X.prog X.w) X.A (f v u) (EP X C B Q) X.xe s
def UnR(X:Cx)(f:AH->Gd AH)(r:V->Hp->VK->Prop):Prop:=
 ∀(C:Hx (AK×Be)) (s:AJ) (B:St) (H:Hp) (x:V) (v:AH) (Q:VK),Inv X C B H s->RelV x v->r x H Q ->
  A6 (model X.prog X.w) X.A (f v) (EP X C B Q) X.xe s
def yaa(X:Cx)(f:AH)(r:Hx V->Hp->VK->Prop):Prop:=
 ∀(C:Hx (AK×Be)) (s:AJ) (B:St) (H:Hp) (a:Hx V) (b:Hx AH) (Q:VK),Inv X C B H s->Vals a b->r a H Q ->
  A6 (model X.prog X.w) X.A (call f b) (EP X C B Q) X.xe s
def ygh(X:Cx)(r:V->Hp->(IB->Hp->Prop)->Prop):Prop:=
 ∀(C:Hx (AK×Be)) (s:AJ) (B:St) (H:Hp) (x:V) (v:AH) (Q:IB->Hp->Prop),Inv X C B H s->RelV x v->r x H Q ->
  A6 (model X.prog X.w) X.A (truthy v) (TP X C B Q) X.xe s
def tOp(r:R2)(a b:TE):TE:=λA H Q=>a A H λx c=>b A c λy d=>r x y d Q
def tUn(r:V->Hp->VK->Prop)(a:TE):TE:=λA H Q=>a A H λx b=>r x b Q
def rI(C:Hz->Hz->Prop)(g:Hz->Hz->V):R2:=λx y H Q=>∃i j,x=.int i/\y=.int j/\C i j/\Q (g i j) H
def rI0(g:Hz->Hz->V):R2:=λx y H Q=>∃i j,x=.int i/\y=.int j/\Q (g i j) H
def rU(g:Hz->V):V->Hp->VK->Prop:=λx H Q=>∃i,x=.int i/\Q (g i) H
section
variable {X:Cx}{a b c:AW}{ta tb tc:TE}{pos:Bf}
def zow(m:PE X a ta)(n:PE X b tb){D s B H}{R:V->V->Hp->Prop}(I:Inv X D B H s)
  (h:ta B H λx l=>tb B l λy c=>R x y c) {Q} {f:AH->AH->Gd AH}
  (hf:∀v u j x y c,Inv X D B c j->RelV x v->RelV y u->R x y c->A6 (model X.prog X.w) X.A (f v u) Q X.xe j):
  A6 (model X.prog X.w) X.A (eval a X.env) (λv d=>A6 (model X.prog X.w) X.A (eval b X.env) (λu g=>A6 (model X.prog X.w) X.A (f v u) Q X.xe g) X.xe d) X.xe s:=by refine thn (m D s B H _ I h) λv o kq=>?_;let#[x,l,p,q,r]:=kq;refine thn (n D o B l _ p r) λu j kq=>?_;let#[y,c,t,w,z]:=kq;exact hf v u j x y c t q w z
def znV{c r}(d:OpR X (binaryOp c) r)(f:PE X a ta)(g:PE X b tb):PE X (.BinOp a c b pos) (tOp r ta tb):=by intro D s B H Q I h;exact wpAny_BinOp (zow f g I h λv u j x y l m n o q=>d D j B l x y v u Q m n o q)
def zlI{b r}(c:UnR X (unaryOp b) r)(d:PE X a ta):PE X (.UnaryOp b a pos) (tUn r ta):=by intro D s B H Q I h;exact UnaryOp_ (thn (d D s B H _ I h) λv f #[x,g,j,l,m]=>c D f B g x v Q j l m)
theorem opI{f:AH->AH->Gd AH}{C:Hz->Hz->Prop}{g:Hz->Hz->Hz}
  (rule:∀(i j:Hz)t u(s:AJ)(Q:AH->AJ->Prop)E,C i j->Q (.int (g i j) s.toks) {s with toks:=s.toks+1}->A6 (model X.prog X.w) X.A (f (.int i t) (.int j u)) Q E s):
  OpR X f (rI C λi j=>.int (g i j)):=by intro D s B H x y v u Q I a b h;let#[i,j,rfl,rfl,c,q]:=h;let#[t,rfl]:=a;let#[d,rfl]:=b;exact rule i j t d s _ _ c #[.int (g i j),H,I.tok _,#[_,rfl],q]
def zop{f:AH->AH->Gd AH}{g:Hz->Hz->Hz}
  (rule:∀(i j:Hz)t u(s:AJ)(Q:AH->AJ->Prop)E,Q (.int (g i j) s.toks) {s with toks:=s.toks+1}->A6 (model X.prog X.w) X.A (f (.int i t) (.int j u)) Q E s):
  OpR X f (rI0 λi j=>.int (g i j)):=by intro D s B H x y v u Q I a b h;let#[i,j,rfl,rfl,q]:=h;let#[t,rfl]:=a;let#[c,rfl]:=b;exact rule i j t c s _ _ #[.int (g i j),H,I.tok _,#[_,rfl],q]
def zor{f:AH->AH->Gd AH}{g:Hz->Hz->IB}
  (rule:∀(i j:Hz)t u(s:AJ)(Q:AH->AJ->Prop)E,Q (.bool (g i j)) s->A6 (model X.prog X.w) X.A (f (.int i t) (.int j u)) Q E s):
  OpR X f (rI0 λi j=>.bl (g i j)):=by intro D s B H x y v u Q I a b h;let#[i,j,rfl,rfl,q]:=h;let#[t,rfl]:=a;let#[c,rfl]:=b;exact rule i j t c s _ _ #[.bl (g i j),H,I,rfl,q]
def yfL(i j:Hz):Prop:=0<=j/\j<=1000000/\i.natAbs<2^64
def ycs(i j:Hz):Prop:=(-(2^64)<i/\i<2^64) \/ (-(2^64)<j/\j<2^64)
theorem ycs.ok{i j:Hz}(h:ycs i j):IntMulOk i j:=by
 rcases h with⟨a,b⟩|⟨a,b⟩
 .exact .of_left (intBits_le_64 a b)
 .exact .of_right (intBits_le_64 a b)
def zfA(k:Hy):(0:Hz)<=2^k:=by rw[two_pow_cast];exact Hz.natCast_nonneg _
def znb:OpR X (binaryOp .Add) (rI0 λi j=>.int (i+j)):=zop λ_ _ _ _ _ _ _ q=>add_int q
def znc:OpR X (binaryOp .Sub) (rI0 λi j=>.int (i-j)):=zop λ_ _ _ _ _ _ _ q=>sub_int q
def zmp:OpR X (binaryOp .Mult) (rI ycs λi j=>.int (i*j)):=opI λ_ _ _ _ _ _ _ a q=>mul_int q a.ok
def zm1:OpR X (binaryOp .Mod) (rI (λ_ j=>0<j) λi j=>.int (i%j)):=opI λi j _ _ _ _ _ a q=>by have b:(0:Hz)<j:=a;exact mod_int' () (by rw[Hz.fmod_eq_emod_of_nonneg i ()];exact q)
def zlt:OpR X (binaryOp .Pow) (rI yfL λi j=>.int (i^j.toNat)):=opI λ_ _ _ _ _ _ _ a q=>pow_int_small a.1 a.2.1 a.2.2 q
def zm6:OpR X (binaryOp .RShift) (rI (λ_ j=>0<=j) λi j=>.int (i/2^j.toNat)):=opI λi j _ _ _ _ _ a q=>
 rshift_int a (by rw[Du i (zfA _)];exact q)
def znB:OpR X (binaryOp .BitAnd) (rI0 λi j=>.int (Bk i j)):=zop λ_ _ _ _ _ _ _ q=>and_int q
def zn4:OpR X (binaryOp .BitOr) (rI0 λi j=>.int (FY i j)):=zop λ_ _ _ _ _ _ _ q=>or_int q
def zmW:OpR X (binaryOp .BitXor) (rI0 λi j=>.int (FG i j)):=zop λ_ _ _ _ _ _ _ q=>xor_int q
def zj6:OpR X (inplaceOp .Mult) (rI ycs λi j=>.int (i*j)):=opI λ_ _ _ _ _ _ _ a q=>imul_int q a.ok
theorem unI{f:AH->Gd AH}{g:Hz->Hz}
  (rule:∀(i:Hz)t(s:AJ)(Q:AH->AJ->Prop)E,Q (.int (g i) s.toks) {s with toks:=s.toks+1}->A6 (model X.prog X.w) X.A (f (.int i t)) Q E s):
  UnR X f (rU λi=>.int (g i)):=by intro D s B H x v Q I a h;let#[i,rfl,q]:=h;let#[t,rfl]:=a;exact rule i t s _ _ #[.int (g i),H,I.tok _,#[_,rfl],q]
def zi9:UnR X (unaryOp .USub) (rU λi=>.int (-i)):=unI λ_ _ _ _ _ q=>neg_int q
def zgM:OpR X (binaryOp .Add) (λx y H Q=>∃i k,x=.int i/\y=.bl k/\Q (.int (i+b2i k)) H):=by
 intro D s B H x y v u Q I a b h;let#[i,k,rfl,rfl,q]:=h;let#[t,rfl]:=a
 cases b
 exact add_int_bool #[.int (i+b2i k),H,I.tok _,#[_,rfl],q]
end
section
variable {X:Cx}{a b c:AW}{ta tb tc:TE}{pos:Bf}
def ze6{B A H s}{Q:VK}{k a:IB}(I:Inv X B A H s)(q:Q (.bl k) H)(e:k=a):EP X B A Q (.bool a) s:=by subst e;exact#[.bl k,H,I,rfl,q]
def zof:OpR X (compareOp .Lt) (rI0 λi j=>.bl (decide (i<j))):=zor λ_ _ _ _ _ _ _ q=>lt_int q
def znQ:OpR X (compareOp .LtE) (rI0 λi j=>.bl (decide (i<=j))):=zor λ_ _ _ _ _ _ _ q=>le_int q
def znF:OpR X (compareOp .Gt) (rI0 λi j=>.bl (decide (j<i))):=zor λ_ _ _ _ _ _ _ q=>gt_int q
def znJ:OpR X (compareOp .GtE) (rI0 λi j=>.bl (decide (j<=i))):=zor λ_ _ _ _ _ _ _ q=>ge_int q
def zgk:OpR X (compareOp .Lt) (λx y H Q=>∃i j,x=.str i/\y=.str j/\Q (.bl (decide (i.cps.toList<j.cps.toList))) H):=by intro B s A H x y v u Q I a b h;let#[i,j,rfl,rfl,q]:=h;let#[t,rfl]:=a;let#[c,rfl]:=b;exact lt_str (ze6 I q rfl)
def zf4:OpR X (compareOp .In) (λx y H Q=>∃i j,x=.str i/\y=.str j/\Q (.bl (!(DE j i 0 j.length 1).isEmpty)) H):=by intro B s A H x y v u Q I a b h;let#[i,j,rfl,rfl,q]:=h;let#[t,rfl]:=a;let#[c,rfl]:=b;exact in_str (ze6 I q rfl)
def zdH:OpR X (compareOp .NotIn) (λx y H Q=>∃i j,x=.str i/\y=.str j/\Q (.bl (!(!(DE j i 0 j.length 1).isEmpty))) H):=by intro B s A H x y v u Q I a b h;let#[i,j,rfl,rfl,q]:=h;let#[t,rfl]:=a;let#[c,rfl]:=b;exact notIn_str (ze6 I q rfl)
def zks{c r}(d:OpR X (compareOp c) r)(f:PE X a ta)(g:PE X b tb)(j:behindInMarks c b=AC):PE X (.Compare a [c] [b] pos) (tOp r ta tb):=by intro B s A H Q I h;exact wpAny_Compare1 (zow f g I h λv u l x y m n o p q=>d B l A m x y v u Q n o p q) j
def ydd(t:TE):TT:=λA H Q=>t A H λx a=>∃k,x=.bl k/\Q k a
def zjE{d r}(f:OpR X (compareOp d) r)(g:PE X a ta)(j:PE X b tb)(l:behindInMarks d b=AC):PT X (.Compare a [d] [b] pos) (ydd (tOp r ta tb)):=by
 intro B s A H Q I h;refine Et (thn (g B s A H _ I h) λv m #[x,n,o,p,q]=>thn (j B m A n _ o q) λu t #[y,w,C,D,E]=>
  thn (f B t A w x y v u _ C p D E) λc N #[z,G,J,L,k,e,M]=>?_) l
 subst e
 cases L
 exact BR #[G,J,M]
def ycl(r b:R2)(ta tb tc:TE):TE:=λA H Q=>ta A H λx c=>tb A c λy d=>r x y d λz a=>∃k,z=.bl k /\
 (if k=AD then tc A a λf g=>b y f g Q else Q (.bl AC) a)
def ziz{g f r l}(q:OpR X (compareOp g) r)(j:OpR X (compareOp f) l)(t:PE X a ta)(w:PE X b tb)(C:PE X c tc)
  (D:lastMarks [g,f] [b,c]=false:=by ac_rfl):PE X (.Compare a [g,f] [b,c] pos) (ycl r l ta tb tc):=by
 intro B s A H Q I h;refine Compare_chain (thn (t B s A H _ I h) λv E #[x,G,J,L,M]=>chain_link (thn (w B E A G _ J M) λu N #[y,O,U,m,Y]=>
  thn (q B N A O x y v u _ U L m Y) λd Z #[z,n,o,r3,k,e,p]=>?_)) D
 subst e
 cases r3
 refine BR ?_
 cases k with
 |false=>exact ite_ff #[.bl AC,n,o,rfl,p]
 |true=>exact ite_tt (chain_last (thn (C B Z A n _ o p) λw' s4 #[z',H4,I4,r4,q4]=>j B s4 A H4 y z' u w' Q I4 m r4 q4))
def zie{g f r l}(q:OpR X (compareOp g) r)(j:OpR X (compareOp f) l)(t:PE X a ta)(w:PE X b tb)(C:PE X c tc)
  (D:lastMarks [g,f] [b,c]=false:=by ac_rfl):PT X (.Compare a [g,f] [b,c] pos) (ydd (ycl r l ta tb tc)):=by
 intro B s A H Q I h;refine isTrue_chain (thn (t B s A H _ I h) λv E #[x,G,J,L,M]=>test_link (thn (w B E A G _ J M) λu N #[y,O,U,m,Y]=>
  thn (q B N A O x y v u _ U L m Y) λd Z #[z,n,o,r3,k,e,p]=>?_)) D
 subst e
 cases r3
 refine BR ?_
 cases k with
 |false=>
  let#[k',e',q']:=p
  cases e'
  exact ite_ff #[n,o,q']
 |true=>
  refine ite_tt (test_last (thn (C B Z A n _ o p) λw' s4 kq=>?_));let#[z',H4,I4,r4,q4]:=kq;refine thn (j B s4 A H4 y z' u w' _ I4 m r4 q4) λd' s5 kq=>?_;let#[z2,H5,I5,r5,k2,e2,q5]:=kq;subst e2
  cases r5
  exact BR #[H5,I5,q5]
def yd4(K:AG)(x:V)(H:Hp)(k:IB):Prop:=
 match x with
 |.non=>k=AC
 |.bl b=>k=b
 |.int i=>k=(i != 0)
 |.str y=>y.length<=sizeLine/\k=((y.length:Hz) != 0)
 |.byt y=>y.size<=sizeLine/\k=((y.size:Hz) != 0)
 |.ref p=>(∃a,SqL K H p a/\k=!a.isEmpty) \/ (∃a,SqT K H p a/\k=!a.isEmpty) \/ ∃c,H p=AA (.dK c)/\k=!c.isEmpty
 |_=>IK
def zfC{R:Type}{a:Hx (R×V)}{vs:Hx (R×AH)}(r:KV a vs):(!vs.isEmpty)=!a.isEmpty:=by cases r<;>rfl
def zcI{xs a}(r:Vals xs a):(!a.toArray.isEmpty)=!xs.isEmpty:=by cases r<;>simp
def zol:(sizeLine:Hy)<2^63:=by rw[DF];decide
def zly:ygh X (λx H Q=>∃k,yd4 X.K x H k/\Q k H):=by
 intro B s A H x v Q I g h;let#[k,e,q]:=h;have z:=zol;have C:sizeLine=16777216:=DF
 cases x with
 |non=>
  cases g
  have a:k=false:=e;subst a;exact truthy_none #[H,I,q]
 |bl b=>
  cases g
  have a:k=b:=e;subst a;exact BR #[H,I,q]
 |int i=>
  let#[t,rfl]:=g;have a:k=(i != 0):=e;subst a;exact PySem.P.truthy_int #[H,I,q]
 |str y=>
  let#[t,rfl]:=g;obtain⟨u,a⟩:y.length<=sizeLine/\k=((y.length:Hz) != 0):=e;subst a;exact PySem.P.truthy_str () #[H,I.tok _,q]
 |byt y=>
  let#[t,rfl]:=g;obtain⟨u,a⟩:y.size<=sizeLine/\k=((y.size:Hz) != 0):=e;subst a;exact PySem.W.truthy_bytes () #[H,I.tok _,q]
 |ref p=>
  cases g
  have a:(∃f,SqL X.K H p f/\k=!f.isEmpty) \/ (∃f,SqT X.K H p f/\k=!f.isEmpty) \/ ∃c,H p=AA (.dK c)/\k=!c.isEmpty:=e;rcases a with⟨f,j,a⟩|⟨f,j,a⟩|⟨c,j,a⟩
  .subst a;let#[n,r,pl,o]:=I.list j;have d:=r.length;exact wpAny_truthy_list pl.isList (by erw[A7];lia) #[H,I.tok _,by rw[zcI r];exact q]
  .subst a;let#[n,r,pl,o]:=I.tuple j;have d:=r.length;exact truthy_tuple pl (by erw[A7];lia) #[H,I.tok _,by rw[zcI r];exact q]
  .subst a;obtain⟨o,w,l,r,m⟩:c.length<=sizeLine/\(p==sysModules)=AC/\∃l,KV c l/\s.heap.DictOf (yV X.prog X.w) p l:=I.hok p _ j;have d:c.length=l.length:=EQ r;exact wpAny_truthy_dict w m () #[H,I.tok _,by rw[zfC r];exact q]
 |_=>exact(show IK from e).elim
def ziO(c:PE X a ta)(d:∀whole,isTrue a X.env whole=(do let v <-whole;standAt a.pos;holding [v] (truthy v))):
  PT X a (λA H Q=>ta A H λx b=>∃k,yd4 X.K x b k/\Q k b):=by intro B s A H Q I h;exact isTrue_plain (thn (c B s A H _ I h) λv f #[x,g,j,l,m]=>zly B f A g x v Q j l m) (d _)
def zfq:OpR X (binaryOp .Add) (λx y H Q=>∃i j,x=.str i/\y=.str j/\i.length+j.length<=sizeLine/\Q (.str (i++j)) H):=by intro B s A H x y v u Q I a b h;let#[i,j,rfl,rfl,c,q]:=h;let#[t,rfl]:=a;let#[d,rfl]:=b;exact add_str (λd f=>#[.str (i++j),H,I.tok _,#[_,rfl],q]) c
theorem vals1{x:V}{us}(r:Vals [x] us):∃u,us=[u]/\RelV x u:=by
 cases r with
 |cons a b=>cases b;exact#[_,rfl,a]
theorem vals2{x y:V}{us}(r:Vals [x,y] us):∃u a,us=[u,a]/\RelV x u/\RelV y a:=by
 cases r with
 |cons b c=>
  cases c with
  |cons d f=>cases f;exact#[_,_,rfl,b,d]
def zfX(c:X.calm=AD):yaa X (.builtin "max") (λb H Q=>∃i j,b=[.int i,.int j]/\Q (.int (if j > i then j else i)) H):=by
 intro B s A H b d Q I r h;let#[i,j,rfl,q]:=h;let#[u,f,rfl,#[t,rfl],#[g,rfl]]:=vals2 r;refine max_two_ints (I.ok.hd c) λl m k=>#[_,H,I.kept k,?_,q]
 by_cases a:j > i
 .rw[ID a,ID a];exact#[_,rfl]
 .rw[IE a,IE a];exact#[_,rfl]
def zhe(c:X.calm=AD):yaa X (.builtin "min") (λb H Q=>∃i j,b=[.int i,.int j]/\Q (.int (if j<i then j else i)) H):=by
 intro B s A H b d Q I r h;let#[i,j,rfl,q]:=h;let#[u,f,rfl,#[t,rfl],#[g,rfl]]:=vals2 r;refine min_two_ints (I.ok.hd c) λl m k=>#[_,H,I.kept k,?_,q]
 by_cases a:j<i
 .rw[ID a,ID a];exact#[_,rfl]
 .rw[IE a,IE a];exact#[_,rfl]
def zdN:yaa X (.type "int") (λa H Q=>(∃i,a=[.int i]/\Q (.int i) H) \/ ∃k,a=[.bl k]/\Q (.int (if k then 1 else 0)) H):=by
 intro B s A H a c Q I r h;rcases h with⟨i,rfl,q⟩|⟨k,rfl,q⟩
 .let#[u,rfl,t,rfl]:=vals1 r;exact call_int_int #[.int i,H,I,#[_,rfl],q]
 .let#[u,rfl,b]:=vals1 r
  cases b
  exact call_int_bool #[.int (if k then 1 else 0),H,I.tok _,#[_,rfl],q]
end
structure ycz(h:Au)(x dx C:AK)(mA:AT->Option AH):Prop where
 obj:h.get? x=AA (Bs C dx)
 ns:h.Ns1 dx mA
 ne:dx≠x
def zgY{h:Au}{c d}(n:h.Ns1 c d):∃f,h.get? c=AA f/\∀name,Dv name f=AA (d name):=by
 let#[o,g,w,j,l,m,_,p]:=n;refine#[o,j,λname=>?_];have e:=p name;unfold nsFind findBy at e;rw[<-IP.find?_toList]at e;unfold Dv;rw[l];dsimp only;split
 .rename_i y q;rw[q]at e;exact IM AA e
 .rename_i q;rw[q]at e;have a:g.toList.any (·.refKey)=false:=by rw[Hx.any_eq_false];intro y r;let#[z,t,b]:=m y (IP.mem_toList_iff.mp r);simp[DictEntry.refKey,b]
  have u:¬g.toList.any (·.refKey)=true:=by rw[a];exact AR
  rw[IE u];exact IM AA e
theorem ycz.look{h:Au}{x b C:AK}{c:AT->Option AH}(I:ycz h x b C c):∃a,PySem.W.InstAt h x (Bs C b) C (AA a)/\∀name,Dv name a=AA (c name):=
 let #[a,d,f]:=zgY I.ns
 #[a,#[I.obj,rfl,rfl,d],f]
section
variable {prog:A4}{w:Ae}{A:Af}{E:AH->AJ->Prop}{s:AJ}{K:AG}{x dx C f:AK}{mA:AT->Option AH}{name:AT}{v:AH}
def zkI{a}{Q:AH->AJ->Prop}(X:K.In s.heap)(I:ycz s.heap x dx C mA)(c:Cn K C name=AD)(d:DJ K C=AD)
  (f:Ah K (.ref C) name=AA AF) (g:mA name=AA v) (b:GN v=AD) (h:Q v {s with toks:=s.toks+1}):
  A6 (model prog w) A (getAttr (.ref x) name a) Q E s:=by let#[l,J,j]:=I.look;exact PySem.W.get_value X J (Dg c).1 (PySem.W.findObj_own d f rfl (by rw[j,g])) b h
def ziQ{pl}{Q:AH×Hx AH->AJ->Prop}(X:K.In s.heap)(I:ycz s.heap x dx C mA)(a:Cn K C name=AD)
  (hf:Ah K (.ref C) name=AA (AA (.ref f))) (b:Co K (.ref f)=AD) (c:mA name=AF) (h:Q (.ref f,[.ref x]) s):
  A6 (model prog w) A (getMethod (.ref x) name pl) Q E s:=by let#[d,J,g]:=I.look;exact PySem.W.method_fn X J (Dg a).1 (Dg a).2 hf (IV.mp b) (by show (Dv name d).map (·.isSome)=AA AC;rw[g,c];rfl) h
def zki{n}{Q:IZ->AJ->Prop}(X:K.In s.heap)(I:ycz s.heap x dx C mA)
  (o:Ah K (.ref C) "__setattr__"=AA (AA (.builtin "object.__setattr__"))) (p:EK K C=AD) (q:Eo K C name=AA AF) (t:DJ K C=AD)
  (u:Fd mA n) (hsz:n.length<=sizeLine)
  (h:∀f,ycz f x dx C (λy=>if y=name then AA v else mA y)->C6 dx s.heap f->Q IZ.unit {s with heap:=f,toks:=s.toks+2}):
  A6 (model prog w) A (setAttr (.ref x) name v) Q E s:=by let#[H,J,L]:=I.look;refine PySem.W.set_plain X J o (PySem.W.osa_open (s:={s with toks:=s.toks+1}) (r:=AF) X J p q λb=>?_);let#[M,z,g]:=PySem.W.any_some t;have B:s.heap.get? x=AA #[.ref C,AA dx,.plain,(Hx.toArray [])]:=I.obj;refine AI (AX (AI (AI (wpAny_loadPart B (AI (Ho (s:={s with toks:=s.toks+1}) (PySem.W.looks_clsIn X z) ?_))))));rw[g];refine AX (a:=AA dx) (AI (AX (AI ?_)));refine wpAny_nsSet1 (s:={s with toks:=s.toks+1}) I.ns λf c d=>?_;let#[N,D,G,j,l,m]:=c.count (Ht name v u);refine AI (wpAny_lookBehind j (by rw[l];exact pastItsLine_dict (BW m (by rw[AQ];lia))) ?_);exact AX (h _ #[(d.2 _ (BI I.ne)).trans I.obj,c,I.ne] d)
def ziX{R}{vs:Hx AH}{b:Hx (AT×AH)}(X:K.In s.heap)(c:D6 K C=AD)
  (hi:Ah K (.ref C) "__init__"=AA (AA (.ref f))) (hf:PySem.W.typeIn K (.ref f)=AA (.type "function"))
  (h:codeAny (model prog w) (A.under (.builtin "type.__call__" #[.ref C::vs,b])) (.call (.ref f) #[.ref (s.heap.objs.size+1)::vs,b]) (PySem.W.InitBack (s.heap.objs.size+1) R)
   {s with heap:=(s.heap.push BZ).push (Bs C s.heap.objs.size)}):
  codeAny (model prog w) A (.call (.ref C) #[vs,b]) R s:=by let#[j,g,d,t,os]:=s;exact PySem.W.make_core (PySem.W.makes_of X c) (PySem.W.looks_findIn X hi) (λa=>PySem.W.bind_fn X a hf) (.inl rfl) h
end
def yaT(f:AT)(v:V):Hx (AT×V)->Hx (AT×V)
 |[]=>[(f,v)]
 |(g,x)::r=>if g=f then(g,v)::r else(g,x)::yaT f v r
def zb5(f g:AT)(v):∀fs:Hx (AT×V),(yaT f v fs).lookup g=if g=f then AA v else fs.lookup g
 |[]=>by
  show CS g [(f,v)]=_
  by_cases h:g=f
  .have a:(g==f)=true:=IV.mpr h;erw[CS,a,ID h]
  .have a:(g==f)=false:=IH.mpr h;erw[CS,a,IE h]
 |(k,x)::r=>by
  have ih:=zb5 f g v r;rw[show yaT f v ((k,x)::r)=(if k=f then(k,v)::r else(k,x)::yaT f v r)from rfl]
  by_cases b:k=f
  .rw[ID b]
   by_cases h:g=k
   .have a:(g==k)=true:=IV.mpr h;erw[CS,a,ID (h.trans b)]
   .have a:(g==k)=false:=IH.mpr h;erw[CS,a,IE (λe:g=f=>h (e.trans b.symm))]
  .rw[IE b]
   by_cases h:g=k
   .have a:(g==k)=true:=IV.mpr h;erw[CS,a,IE (λe:g=f=>b (h.symm.trans e))]
   .have a:(g==k)=false:=IH.mpr h;erw[CS,a];exact ih
def zck(f:AT)(v):∀fs:Hx (AT×V),f∈(yaT f v fs).map (·.1)/\∀g,g∈fs.map (·.1)->g∈(yaT f v fs).map (·.1)
 |[]=>#[by simp[yaT],λg h=>by simp at h]
 |(k,x)::r=>by
  let#[b,c]:=zck f v r;rw[show yaT f v ((k,x)::r)=(if k=f then(k,v)::r else(k,x)::yaT f v r)from rfl]
  by_cases a:k=f
  .rw[ID a];subst a;exact#[by simp,λg h=>by simpa using h]
  .rw[IE a];refine#[?_,λg h=>?_]
   .rw[AN];exact AM _ b
   .rw[AN]at h ⊢;rcases AV.mp h with e|e
    .exact AV.mpr (.inl e)
    .exact AM _ (c g e)
def zcr(f)(v):∀fs:Hx (AT×V),(yaT f v fs).length<=fs.length+1
 |[]=>by simp[yaT]
 |(k,x)::r=>by
  have ih:=zcr f v r;rw[show yaT f v ((k,x)::r)=(if k=f then(k,v)::r else(k,x)::yaT f v r)from rfl]
  by_cases a:k=f
  .rw[ID a,AQ,AQ];lia
  .rw[IE a,AQ,AQ];lia
theorem ybk.some_of{v:V}{o:Option AH}(r:ybk (AA v) o):∃u,o=AA u/\RelV v u:=by
 cases o with
 |none=>exact(show IK from r).elim
 |some u=>exact#[u,rfl,r]
theorem ybk.none_of{o:Option AH}(r:ybk AF o):o=none:=by
 cases o with
 |none=>rfl
 |some u=>exact(show IK from r).elim
def zf0{v u}(r:RelV v u):GN u=true:=by
 cases v with
 |non=>cases (show u=Br from r);rfl
 |bl b=>cases (show u=Dp b from r);rfl
 |int i=>let#[t,e]:=(show ∃t,u=EU i t from r);cases e;rfl
 |str x=>let#[t,e]:=(show ∃t,u=GI x t from r);cases e;rfl
 |byt b=>let#[t,e]:=(show ∃t,u=Hc b t from r);cases e;rfl
 |flt b=>let#[t,e]:=(show ∃t,u=Hd b t from r);cases e;rfl
 |ref a=>cases (show u=Al a from r);rfl
 |ty n=>cases (show u=F5 n from r);rfl
section
variable {P:A4}{w:Ae}{H H':Hp}{h h':Au}{a C dx:AK}{fs fs':Hx (AT×V)}
def zd6(c:HOk P w H h)(e:H a=AA (.ins C dx fs)):∃b,ycz h a dx C b/\(∀f,ybk (fs.lookup f) (b f))/\Fd b (fs.map (·.1))/\fs.length<=1000/\H dx=AA (.own a):=by let#[d,z,g,j,b,n,r,q]:=(show yN P w H h a (.ins C dx fs)from c a _ e);exact#[b,#[j,n,g],r,q,z,d]
end
structure Cls(K:AG)(C:AK):Prop where
 pg:Cn K C GO=AD
 hd:DJ K C=AD
 po:EK K C=AD
 sa:Ah K (.ref C) "__setattr__"=AA (AA (.builtin "object.__setattr__"))
theorem Cls.get{K:AG}{C:AK}(c:Cls K C)(f:AT):Cn K C f=true:=c.pg
def yam(K:AG)(C:AK)(f:AT):Prop:=Ah K (.ref C) f=AA AF
theorem yam.taker{K:AG}{C:AK}{f:AT}(n:yam K C f):Eo K C f=AA none:=by unfold Eo;rw[show Ah K (.ref C) f=AA AF from n];rfl
structure Con(K:AG)(C:AK)(f:AT)(v:V)(u:AH):Prop where
 at_:Ah K (.ref C) f=AA (AA u)
 rel:RelV v u
 get:PySem.W.specialIn K u "__get__"=AA AF
 cp:PySem.W.copiedNames.contains f=AC
structure Meth(K:AG)(C:AK)(m:AT)(f:AK):Prop where
 at_:Ah K (.ref C) m=AA (AA (.ref f))
 fn:Co K (.ref f)=AD
 kp:An K (.ref f)=AD
section
variable {X:Cx}{D:Hx (AK×Be)}{B:St}{H:Hp}{s:AJ}{a C dx:AK}{fs:Hx (AT×V)}{f:AT}{v:V}{A:Af}{E:AH->AJ->Prop}
def zcX{b}{Q:AH->AJ->Prop}(I:Inv X D B H s)(e:H a=AA (.ins C dx fs))(c:Cls X.K C)(n:yam X.K C f)(l:fs.lookup f=AA v)
  (h:∀u d,Inv X D B H d->RelV v u->Q u d):A6 (model X.prog X.w) A (getAttr (.ref a) f b) Q E s:=by let#[j,O,r,_,_,_]:=zd6 I.hok e;let#[u,m,g]:=ybk.some_of (v:=v) (o:=j f) (by rw[<-l];exact r f);exact zkI I.kIn O (c.get f) c.hd n m (zf0 g) (h u _ (I.tok _) g)
def zcZ{m g pl}{Q:AH×Hx AH->AJ->Prop}(I:Inv X D B H s)(e:H a=AA (.ins C dx fs))(c:Cls X.K C)(k:Meth X.K C m g)(l:fs.lookup m=AF)
  (h:Q (.ref g,[.ref a]) s):A6 (model X.prog X.w) A (getMethod (.ref a) m pl) Q E s:=by let#[b,O,r,_,_,_]:=zd6 I.hok e;have d:b m=none:=ybk.none_of (by rw[<-l];exact r m);exact ziQ I.kIn O (c.get m) k.at_ k.fn d h
def zcG{y u}{Q:IZ->AJ->Prop}(I:Inv X D B H s)(e:H a=AA (.ins C dx fs))(c:Cls X.K C)(n:yam X.K C f)(U:fs.length<1000)(t:RelV y u)
  (h:∀j,Inv X D B (upd H a (.ins C dx (yaT f y fs))) j->Q IZ.unit j):A6 (model X.prog X.w) A (setAttr (.ref a) f u) Q E s:=by
 let#[l,O,r,m,_,p]:=zd6 I.hok e;have w:(fs.map (·.1)).length<=sizeLine:=by rw[Aj,DF];lia
 refine zki I.kIn O c.sa c.po n.taker c.hd m w λG d sb=>h _ ?_;have J:∃o,G.get? dx=AA o:=let #[o,_,_,L,_]:=d.ns;#[o,L]
 refine I.write (x:=a) (e:=dx) (by rw[e];exact C7) (.inr p) (λb q M z=>(sb.2 b M).trans z) J ?_;refine#[by rw[zk O.ne];exact p,?_,O.ne,d.obj,_,d.ns,λg=>?_,λg N=>?_]
 .have:=zcr f y fs;lia
 .show ybk ((yaT f y fs).lookup g) (if g=f then AA u else l g);rw[zb5]
  by_cases q:g=f
  .rw[ID q,ID q];exact t
  .rw[IE q,IE q];exact r g
 .by_cases q:g=f
  .rw[q];exact(zck f y fs).1
  .refine(zck f y fs).2 g (m g λz=>N ?_);show (if g=f then AA u else l g)=AF;rw[IE q];exact z
theorem Inv.made(I:Inv X D B H s):Inv X D B (upd (upd H s.heap.objs.size (.own (s.heap.objs.size+1))) (s.heap.objs.size+1) (.ins C s.heap.objs.size []))
  {s with heap:=(s.heap.push BZ).push (Bs C s.heap.objs.size)}:=by
 have c:(s.heap.push BZ).get? s.heap.objs.size=AA BZ:=A5 s.heap rfl;have f:((s.heap.push BZ).push (Bs C s.heap.objs.size)).get? (s.heap.objs.size+1)=AA (Bs C s.heap.objs.size):=by
  have:=A5 (s.heap.push BZ) (o:=Bs C s.heap.objs.size) rfl
  rwa [Bl]at this
 have g:(s.heap.push BZ).Ns s.heap.objs.size (λ_=>AF):=#[BZ,(Hx.toArray []),_,c,rfl,(λe j=>IG j (by simp)),λ_=>rfl];have l:=I.laid (a:=s.heap.objs.size) (o:=.own (s.heap.objs.size+1)) (h':=s.heap.push BZ) (t':=s.toks) (λb u q=>AU _ q) (AS _) #[_,c];refine l.laid (a:=s.heap.objs.size+1) (o:=.ins C s.heap.objs.size []) (t':=s.toks) (λb u q=>AU _ q) (Fh (Bl _ _)) ?_;have d:s.heap.objs.size≠s.heap.objs.size+1:=Ao (GP _);refine#[by rw[zk d,zo],BP _,d,f,λ_=>AF,(Heap.Ns1.of_empty g).at λo q=>AU _ q,λ_=>C7,λy m=>IG rfl m]
def zkA{prog w env e f pos s Q}(b:attributeBase e f env (eval e env)=eval e env)
  (h:A6 (model prog w) A (eval e env) (λo a=>A6 (model prog w) A (getAttr o f AD) Q E a) E s):A6 (model prog w) A (eval (.Attribute e f pos) env) Q E s:=
 Attribute_any_ h (by rw[arm_eval_Attribute,b])
end
def ygY(K:AG)(c:TE)(f:AT):TE:=λA H Q=>c A H λx b=>∃a C d fs v,x=.ref a/\b a=AA (.ins C d fs)/\Cls K C/\yam K C f/\fs.lookup f=AA v/\Q v b
def ygI(K:AG)(d g:TE)(f:AT):TS:=λD A H=>g A H λy j=>d A j λx b=>∃a C c fs,x=.ref a/\b a=AA (.ins C c fs)/\Cls K C/\yam K C f/\fs.length<1000 /\
 D.nx A (upd b a (.ins C c (yaT f y fs)))
def yfB(X:Cx)(a:DI)(rd:V->V->Hp->VK->Prop):Prop:=
 ∀(C:Hx (AK×Be)) (s:AJ) (B:St) (H:Hp) (x y:V) (u v:AH) (Q:VK),Inv X C B H s->RelV x u->RelV y v->rd x y H Q->A6 (model X.prog X.w) X.A (inplaceOp a u v) (EP X C B Q) X.xe s
def ycC(K:AG)(j l:TE)(rd:V->V->Hp->VK->Prop)(f:AT):TS:=λD A H=>j A H λx d=>∃a C m fs v,x=.ref a/\d a=AA (.ins C m fs)/\Cls K C/\yam K C f/\fs.lookup f=AA v /\
 l A d λy n=>rd v y n λz g=>∃c b,g a=AA (.ins C c b)/\b.length<1000/\D.nx A (upd g a (.ins C c (yaT f z b)))
section
variable {X:Cx}{o e value:AW}{f:AT}{pos pos' tpos:Bf}{ta tv:TE}
def zmD(b:PE X e ta)(d:attributeBase e f X.env (eval e X.env)=eval e X.env):PE X (.Attribute e f pos) (ygY X.K ta f):=by intro B s A H Q I h;refine zkA d (thn (b B s A H _ I h) λu t kq=>?_);let#[x,g,j,m,a,C,w,fs,v,ex,o,c,n,l,q]:=kq;subst ex;obtain rfl:u=Al a:=m;exact zcX j o c n l λy z p r=>#[v,g,p,r,q]
def znw(b:PE X o ta)(d:PE X value tv)(g:swapsWith value (AA (.Attribute o f pos')) pos.line X.env=pure AC):PS X (.Assign [.Attribute o f pos'] value pos) (ygI X.K ta tv f):=by intro B s A H D I h;refine plainObj_wpAny_Assign_Attribute (thn (d B s A H _ I h) λu j kq=>?_) g;let#[y,m,p,r,q]:=kq;refine thn (b B j A m _ p q) λt L kq=>?_;let#[x,M,w,z,a,C,N,fs,ex,E,c,n,l,G]:=kq;subst ex;obtain rfl:t=Al a:=z;exact zcG w E c n l r λO J=>#[A,_,J,G]
def zhA{g rd}(j:PE X o ta)(m:PE X value tv)(b:yfB X g rd):PS X (.AugAssign (.Attribute o f tpos) g value pos) (ycC X.K ta tv rd f):=by intro B s A H D I h;refine wpAny_AugAssign_AttributeAny (thn (j B s A H _ I h) λp s1 kq=>?_);let#[x,r,t,w,a,C,dx,fs,v,ex,E,c,n,l,q]:=kq;subst ex;obtain rfl:p=Al a:=w;refine zcX t E c n l λu G J L=>thn (m B G A r _ J q) λM N kq=>?_;let#[y,O,U,Y,Z]:=kq;refine thn (b B N A O v y u M _ U L Y Z) λw4 s4 kq=>?_;let#[z,H3,I4,rz,dx',fs',d,l',q4]:=kq;exact zcG I4 d c n l' rz λs5 I5=>#[A,_,I5,q4]
def ygQ:V->V->Hp->VK->Prop:=λx y H Q=>∃i j,x=.int i/\y=.int j/\Q (.int (i+j)) H
def zmH:yfB X .Add ygQ:=by
 rintro B s A H x y u v Q I b c ⟨i,j,rfl,rfl,q⟩
 let#[t,rfl]:=(show ∃t,u=EU i t from b);let#[a,rfl]:=(show ∃a,v=EU j a from c);exact Ge #[.int (i+j),H,I.tok _,#[_,rfl],q]
end
section
variable {X:Cx}{C:Hx (AK×Be)}{B:St}{H:Hp}{s:AJ}{A:Af}{E:AH->AJ->Prop}{Q:AH->AJ->Prop}{c:AH}{b:IB}
end
structure yaq(k:Hy)(A:Af):Prop where
 hd:A.handled=AF
 dp:A.depth+3*k+5<recursionLimit
 un:A.units+16*k+200<cLine
theorem yaq.mono{j k:Hy}{A:Af}(r:yaq k A)(h:j<=k):yaq j A:=#[r.hd,by have:=r.dp;lia,by have:=r.un;lia]
theorem yaq.deeper{k:Hy}{A:Af}(r:yaq (k+1) A)(env:Env):yaq k (A.deeper env):=
 #[r.hd,by have:=r.dp;show A.depth+1+3*k+5<_;lia,by have:=r.un;show A.units+3+16*k+200<_;lia]
def zfz{A:Af}{C:AK}{us:Hx AH}{a:Hx (AT×AH)}:(A.under (.builtin "type.__call__" #[.ref C::us,a])).depth=A.depth+1:=by first|rfl|simp[Fi,Code.weight,Code.isCreation,Code.isGuard,Code.isCaller,Hh,Fj,guardIds]
def zfF{A:Af}{C:AK}{us:Hx AH}{a:Hx (AT×AH)}:(A.under (.builtin "type.__call__" #[.ref C::us,a])).units=A.units+1:=by first|rfl|simp[Fi,Code.cUnits,Hh,Fj]
theorem yaq.make{k:Hy}{A:Af}(r:yaq (k+1) A)(C:AK)(us:Hx AH)(a:Hx (AT×AH)):yaq k (A.under (.builtin "type.__call__" #[.ref C::us,a])):=
 #[r.hd,by have:=r.dp;rw[zfz];lia,by have:=r.un;rw[zfF];lia]
theorem yaq.depth{k:Hy}{A:Af}(r:yaq k A):A.depth<recursionLimit:=by have:=r.dp;lia
def yct:TA:=λ_ H Q=>Q [] H
def ybP(a:TE)(tr:TA):TA:=λA H Q=>a A H λx b=>tr A b λc d=>Q (x::c) d
section
variable {X:Cx}{e:AW}{es:Hx AW}{te:TE}{t:TA}{pos:Bf}
def zhz:PA X [] yct:=λ_ _ _ _ H Q I h=>Fk #[[],H,I,.nil,h]
def zJ(a:PE X e te)(b:PA X es t)(c:starEach (e::es) X.env=(AC,eval e X.env)::starEach es X.env:=by rfl):PA X (e::es) (ybP te t):=by intro pos B s A H Q I h;rw[c];show A6 _ _ (spliced ((AC,eval e X.env)::backTo pos (starEach es X.env))) _ _ s;refine Dw (thn (a B s A H _ I h) λu d kq=>?_);let#[x,f,g,j,l]:=kq;exact thn (b pos B d A f _ g l) λr w #[m,n,o,p,q]=>#[x::m,n,o,.cons j p,q]
def ygb(t:TA):TE:=λA H Q=>t A H λa b=>a.length<=sizeLine/\∀p,b p=AF->Q (.ref p) (upd b p (.tup a))
def ygi(t:TA):TE:=λA H Q=>t A H λa b=>a.length<=sizeLine/\∀p,b p=AF->Q (.ref p) (upd b p (.lst a))
def zmw{f}(h:PA X es t):PE X (.Tuple es f pos) (ygb t):=by intro B s A H Q I g;refine wpAny_Tuple_spliced (thn (h pos B s A H _ I g) λj a kq=>?_);let#[l,c,d,r,z,q]:=kq;refine #[by rw[<-r.length];exact z,?_];have hf:c a.heap.objs.size=none:=d.hok.fresh (AS _);refine#[.ref a.heap.objs.size,upd c a.heap.objs.size (.tup l),d.laid (t':=a.toks) (λb u e=>AU _ e) (AS _) ?_,rfl,q _ hf];exact#[z,j,r,A5 _ rfl]
def zjd(h:PA X es t):PE X (.List es pos) (ygi t):=by intro B s A H Q I f;refine wpAny_List_spliced (thn (h pos B s A H _ I f) λg a kq=>?_);let#[j,c,d,r,z,q]:=kq;refine #[by rw[<-r.length];exact z,?_];have hf:c a.heap.objs.size=none:=d.hok.fresh (AS _);refine#[.ref a.heap.objs.size,upd c a.heap.objs.size (.lst j),d.laid (t':=a.toks) (λb u e=>AU _ e) (AS _) ?_,rfl,q _ hf];exact#[z,g,0,r,A5 _ rfl]
end
abbrev Sp:=Hx V->Hp->VK->XK->Prop
abbrev CXT:=Hx Env->Hp->AJ->XK->AH->AJ->Prop
structure yb0(P:A4)(w:Ae)(K:AG)(mg:AT->Option AH)(base:Au)(A:Af)(outer:Hx Env)(s:AJ)(H:Hp):Prop where
 frames:A.frames=AA outer
 mod:Mod K mg base
 bs:∀b o,base.get? b=AA o->s.heap.get? b=AA o/\H b=AF
 bsz:base.objs.size<=s.heap.objs.size
 funs:s.heap.FunFrames base outer
 frf:∀b∈frs outer,H b=AF
 hok:HOk P w H s.heap
 bare:DZ s.gens
def CE(outer:Hx Env)(P:A4)(w:Ae)(H:Hp)(s:AJ)(Q:VK)(u:AH)(a:AJ):Prop:=
 ∃v b,a.os=s.os/\DZ a.gens/\Un (frs outer) [] H b s.heap a.heap/\HOk P w b a.heap/\RelV v u/\Q v b
def CR(CX:CXT)(outer:Hx Env)(P:A4)(w:Ae)(H:Hp)(s:AJ)(Q:VK)(E:XK)(r:Eb)(a:AJ):Prop:=
 match r with
 |.ok (.ret u)=>CE outer P w H s Q u a
 |.ok _=>IK
 |.error e=>CX outer H s E e a
structure yaA(P:A4)(w:Ae)(K:AG)(mg:AT->Option AH)(base:Au)(CX:CXT)(k:Hy)(f:AK)(fd:Av)(ps:Hx AT)(sp:Sp):Prop where
 len:∀vs H Q E,sp vs H Q E->vs.length=ps.length
 run:∀(A:Af) (outer:Hx Env) (s:AJ) (H:Hp) (args:Args) (us:Hx AH) (vs:Hx V) (Q:VK) (E:XK),yaq k A->yb0 P w K mg base A outer s H->Ec s fd args (ps.zip us)->Vals vs us->sp vs H Q E ->
  codeAny (model P w) A (.call (.ref f) args) (CR CX outer P w H s Q E) s
theorem yaA.imp{P:A4}{w:Ae}{K:AG}{g:AT->Option AH}{base:Au}{CX:CXT}{k:Hy}{f:AK}{fd:Av}{ps:Hx AT}{sp c:Sp}(F:yaA P w K g base CX k f fd ps sp)
  (h:∀b H Q E,c b H Q E->sp b H Q E):yaA P w K g base CX k f fd ps c:=
 #[λb H Q E q=>F.len b H Q E (h _ _ _ _ q),λA a s H d j b Q E l m n o p=>F.run A a s H d j b Q E l m n o (h _ _ _ _ p)]
theorem yb0.make{P:A4}{w:Ae}{K:AG}{a:AT->Option AH}{base:Au}{A:Af}{outer:Hx Env}{s:AJ}{H:Hp}(e:yb0 P w K a base A outer s H)(C:AK)(us:Hx AH)(b:Hx (AT×AH)):
  yb0 P w K a base (A.under (.builtin "type.__call__" #[.ref C::us,b])) outer s H:=#[by first|exact e.frames|(simpa [Fi,Code.envs,Fj,pushEnvs] using e.frames),e.mod,e.bs,e.bsz,e.funs,e.frf,e.hok,e.bare]
section
variable {X:Cx}{C:Hx (AK×Be)}{B:St}{H:Hp}{s s':AJ}
theorem Inv.env0(I:Inv X C B H s):yb0 X.prog X.w X.K X.mg X.base X.A X.stack s H:=
 #[I.ok.frames,I.ok.mod,I.bs,BW I.ok.bsz I.sz,I.stack,I.stkFree,I.hok,I.bare]
theorem Inv.after{Q:VK}{u:AH}(I:Inv X C B H s)(h:CE X.stack X.prog X.w H s Q u s'):EP X C B Q u s':=by let#[v,j,os,a,un,c,r,q]:=h;let#[l,g,d,t,f]:=s';obtain rfl:f=s.os:=os;exact#[v,j,I.call (h':=l) (g':=g) (d':=d) (t':=t) (ch:=[]) un c a (λb z=>IG z (by simp)),r,q]
end
def ydB(C:AK)(sp:Sp)(b:Hx V)(E:XK)(t:TA):TE:=λA H Q=>t A H λd c=>∀x a,c x=AF->c a=AF->a≠x ->
 sp (.ref x::(d++b)) (upd (upd c a (.own x)) x (.ins C a [])) (λv f=>v=.non/\Q (.ref x) f) E
def Binds(K:AG)(fd:Av)(ps:Hx AT)(b:Hx AH):Prop:=
 ∀(s:AJ) (a:Hx AH),K.In s.heap->(a++b).length=ps.length->Ec s fd #[a,[]] (ps.zip (a++b))
theorem Binds.all{K:AG}{fd:Av}{ps:Hx AT}(h:∀a:Hx AH,a.length=ps.length->bindArgs fd #[a,[]]=pure (ps.zip a)):Binds K fd ps []:=λs a _ b=>by rw[Bt]at b ⊢;exact .of_eq (h a b)
def yba(CX:CXT)(X:Cx)(E:XK):Prop:=∀(B:Hx (AK×Be)) (A:St) (H:Hp) (s:AJ) (e:AH) (a:AJ),Inv X B A H s->CX X.stack H s E e a->X.xe e a
section
variable {X:Cx}{CX:CXT}{k:Hy}{f C:AK}{fd:Av}{ps:Hx AT}{sp:Sp}{dvs:Hx V}{ds:Hx AH}{E:XK}{x m:AT}{p pos apos:Bf}{e o:AW}{es:Hx AW}{ta:TE}{t:TA}
structure Mk(K:AG)(C f:AK):Prop where
 makes:D6 K C=AD
 init:Ah K (.ref C) "__init__"=AA (AA (.ref f))
 fn:Co K (.ref f)=AD
 kp:An K (.ref C)=AD
def zeT{D B H s}{Q:VK}{us vs}(M:Mk X.K C f)(F:yaA X.prog X.w X.K X.mg X.base CX k f fd ps sp)(j:yaq (k+1) X.A)(l:Binds X.K fd ps ds)(m:Vals dvs ds)
  (n:yba CX X E) (I:Inv X D B H s) (r:Vals vs us)
  (h:∀x b,H x=AF->H b=AF->b≠x->sp (.ref x::(vs++dvs)) (upd (upd H b (.own x)) x (.ins C b [])) (λv o=>v=.non/\Q (.ref x) o) E):
  A6 (model X.prog X.w) X.A (call (.ref C) us) (EP X D B Q) X.xe s:=by
 have d:=h (s.heap.objs.size+1) s.heap.objs.size (I.hok.fresh (C4 _)) (I.hok.fresh (AS _)) (Ao (GP _));have c:=Inv.made (C:=C) I;have g:Vals (V.ref (s.heap.objs.size+1)::(vs++dvs)) (Al (s.heap.objs.size+1)::(us++ds)):=.cons rfl (r.append m);have p:(Al (s.heap.objs.size+1)::us++ds).length=ps.length:=by have e:=g.length;rw[F.len _ _ _ _ d]at e;exact e.symm
 refine Gm (ziX (f:=f) I.kIn M.makes M.init (IV.mp M.fn) (Di (F.run _ X.stack _ _ #[Al (s.heap.objs.size+1)::us,[]] (Al (s.heap.objs.size+1)::(us++ds)) _ _ E (j.make C us [])
  (c.env0.make C us []) (l _ (Al (s.heap.objs.size+1)::us) c.kIn p) g d) λr q a=>?_))
 cases r with
 |error e=>exact n D B _ _ e q c a
 |ok fl=>
  cases fl with
  |ret u=>
   let#[v,t,w,y,ev,z]:=c.after a;subst ev;exact#[y,#[V.ref (s.heap.objs.size+1),t,w,rfl,z]]
  |next=>exact BY a
  |brk=>exact BY a
  |cont=>exact BY a
def zkd(M:Mk X.K C f)(F:yaA X.prog X.w X.K X.mg X.base CX k f fd ps sp)(d:yaq (k+1) X.A)(g:Gl X x)(j:X.mg x=AA (.ref C))(l:Binds X.K fd ps ds)(m:Vals dvs ds)(n:yba CX X E)
  (o:PA X (e::es) t) (a:(x==("__debug__":AT))=false:=by decide) (u:starEach (e::es) X.env=(AC,eval e X.env)::starEach es X.env:=by rfl) (b:(backTo pos (starEach es X.env)).any (·.1)=false:=by rfl):
  PE X (.Call (.Name x p) (e::es) [] pos) (ydB C sp dvs E t):=by intro D s B H Q I h;refine BM (zbv I g j ?_ a);refine DD (h₀:=X.base) I.ok.mod.kin M.kp (thn (o pos D s B H _ I h) λw y kq=>?_) u b;let#[z,A,c,r,q]:=kq;refine #[c.kIn,?_];exact zeT M F d l m n c r q
def zin(M:Mk X.K C f)(F:yaA X.prog X.w X.K X.mg X.base CX k f fd ps sp)(b:yaq (k+1) X.A)(c:Gl X x)(d:X.mg x=AA (.ref C))(g:Binds X.K fd ps ds)(j:Vals dvs ds)(l:yba CX X E)
  (a:(x==("__debug__":AT))=false:=by decide):PE X (.Call (.Name x p) [] [] pos) (ydB C sp dvs E yct):=by intro D s B H Q I h;refine BM (zbv I c d ?_ a);exact Dh I.kIn M.kp (zeT (us:=[]) M F b g j l I .nil h)
end
def PK(X:Cx)(kws:Hx Bo)(t:TA):Prop:=
 ∀(pos:Bf) (C:Hx (AK×Be)) (s:AJ) (B:St) (H:Hp) (Q:Hx V->Hp->Prop),Inv X C B H s->t B H Q->A6 (model X.prog X.w) X.A (evalAll ((backToKw pos (keywordEach kws X.env)).map (·.2))) (AP X C B Q) X.xe s
section
variable {X:Cx}{CX:CXT}{k:Hy}{f C:AK}{fd:Av}{ps ks:Hx AT}{sp:Sp}{E:XK}{x m:AT}{p pos apos kpos:Bf}{e o:AW}{es:Hx AW}{kws:Hx Bo}{te ta:TE}{t tk:TA}{nm:Option AT}
def zoU:PK X [] yct:=λ_ _ _ _ H Q I h=>wpAny_evalAll_nil #[[],H,I,.nil,h]
def zkH(a:PE X e te)(b:PK X kws t):PK X (#[nm,e,kpos] :: kws) (ybP te t):=by intro pos B s A H Q I h;show A6 _ _ (evalAll ((do let v <-eval e X.env;standAt pos;pure v)::(backToKw pos (keywordEach kws X.env)).map (·.2))) _ _ s;refine wpAny_evalAll_cons (AI (thn (a B s A H _ I h) λu c kq=>?_));let#[x,d,f,g,j]:=kq;refine AI (Cz (AX ?_));exact thn (b pos B c A d _ f j) λq r #[l,m,n,o,p]=>#[x::l,m,n,.cons g o,p]
structure ybG(K:AG)(fd:Av)(ps ks:Hx AT)(g:Hx AH->Hx AH->Hx AH)(gV:Hx V->Hx V->Hx V):Prop where
 to:∀(s:AJ) (us ws:Hx AH),K.In s.heap->(g us ws).length=ps.length->Ec s fd #[us,ks.zip ws] (ps.zip (g us ws))
 rel:∀{vs:Hx V} {us:Hx AH} {zs:Hx V} {ws:Hx AH},Vals vs us->Vals zs ws->Vals (gV vs zs) (g us ws)
variable {g:Hx AH->Hx AH->Hx AH}{gV:Hx V->Hx V->Hx V}
end
structure yaC(N P:Hx AT)(sc:BN):Prop where
 kind:sc.kind=.function
 co:sc.isCoroutine=AC
 gen:sc.isGenerator=AC
 nd:N.Nodup
 pre:N.take P.length=P
 par:∀x∈P,sc.names.lookup x=AA .local \/ sc.names.lookup x=AA .cell
 nofree:∀y∈sc.names,y.2 ≠ .free
def zdL{kindOf}{x:AT}:∀{binds:Hx (AT×AH)}{m},(∀v,(x,v)∉binds)->bindL kindOf binds m x=m x
 |[],_,_=>rfl
 |(n,v)::r,m,h=>by
  unfold bindL;rw[zdL λw a=>h w (AM _ a)];split
  .have:x≠n:=by rintro rfl;exact h v AO
   simp[this]
  .rfl
def zdn{kindOf}{x:AT}:∀{binds:Hx (AT×AH)}{m},(∀v,(x,v)∉binds)->bindC kindOf binds m x=m x
 |[],_,_=>rfl
 |(n,v)::r,m,h=>by
  unfold bindC;rw[zdn λw a=>h w (AM _ a)];split
  .rfl
  .have:x≠n:=by rintro rfl;exact h v AO
   simp[this]
def zdw{kindOf:AT->Option DL}{x:AT}{v:AH}:∀{P:Hx AT}{vs:Hx AH}{i:Hy}{m},P.Nodup->P[i]?=AA x->vs[i]?=AA v->kindOf x=AA .local ->
  bindL kindOf (P.zip vs) m x=AA v
 |[],_,_,_,_,h,_,_=>by simp at h
 |_::_,[],_,_,_,_,h,_=>by simp at h
 |p::P,w::vs,0,m,c,a,b,d=>by simp at a b;subst a;subst b;show bindL kindOf ((p,w)::P.zip vs) m p=_;unfold bindL;rw[zdL λv f=>(D7.mp c).1 (D8 f).1,ID d];simp
 |p::P,w::vs,i+1,m,c,a,b,d=>by show bindL kindOf ((p,w)::P.zip vs) m x=_;unfold bindL;exact zdw (i:=i) (D7.mp c).2 (by simpa using a) (by simpa using b) d
def zdG{kindOf:AT->Option DL}{x:AT}{v:AH}:∀{P:Hx AT}{vs:Hx AH}{i:Hy}{m},P.Nodup->P[i]?=AA x->vs[i]?=AA v->kindOf x≠AA .local ->
  bindC kindOf (P.zip vs) m x=AA v
 |[],_,_,_,_,h,_,_=>by simp at h
 |_::_,[],_,_,_,_,h,_=>by simp at h
 |p::P,w::vs,0,m,c,a,b,d=>by simp at a b;subst a;subst b;show bindC kindOf ((p,w)::P.zip vs) m p=_;unfold bindC;rw[zdn λv f=>(D7.mp c).1 (D8 f).1,IE d];simp
 |p::P,w::vs,i+1,m,c,a,b,d=>by show bindC kindOf ((p,w)::P.zip vs) m x=_;unfold bindC;exact zdG (i:=i) (D7.mp c).2 (by simpa using a) (by simpa using b) d
def start(N:Hx AT)(vs:Hx V):St:=vs.map AA++Am (N.length-vs.length) AF
def yaK(CX:CXT)(P:A4)(w:Ae)(K:AG)(mg:AT->Option AH)(base:Au)(N:Hx AT)(b:AT)(a:BN)(f:AK)(d:AH)(A:Af)(outer:Hx Env)(s:AJ)(H:Hp)(E:XK):Cx where
 prog:=P
 w:=w
 K:=K
 mg:=mg
 base:=base
 A:=A.deeper (envOfC b a s.heap.objs.size f d)
 N:=N
 s₀:=s
 H₀:=H
 env:=envOfC b a s.heap.objs.size f d
 outer:=outer
 stack:=envOfC b a s.heap.objs.size f d::outer
 ex:=[]
 calm:=AD
 fn:=λ_=>AD
 pn:=[]
 xe:=λe g=>A6 (model P w) (A.deeper (envOfC b a s.heap.objs.size f d)) («leaving» (envOfC b a s.heap.objs.size f d) e) (λ_ c=>CX outer H s E e c) (λj c=>CX outer H s E j c) g
def ze0{sc:BN}{n:Hy}{x:AT}(h:sc.names.lookup x=AA .cell):∃c,(cellsFrom n sc.names []).lookup x=AA c:=by have q:=DM sc.names n [] (.inl h);exact Ak.mp q
def zdS{CX P w K I base N ps g d f C}{A:Af}{outer s J H E us}{vs:Hx V}
  (S:yaC N ps d) (O:A.handled=AF) (l:yb0 P w K I base A outer s H) (Z:vs.length=ps.length) (r:Vals vs us)
  (x:InCallC s s.heap.objs.size (bindL (envOfC g d s.heap.objs.size f C).kindOf (ps.zip us) λ_=>AF) (cellsFrom (s.heap.objs.size+1) d.names []) (bindC (envOfC g d s.heap.objs.size f C).kindOf (ps.zip us) λ_=>AF) J):
  Inv (yaK CX P w K I base N g d f C A outer s H E) [] (start N vs) H J:=by
 have U:ps.length<=N.length:=by have:=IM C5 S.pre;rw[DV]at this;lia
 let#[D,tk,rfl,L]:=x.done;have m:∀b:AK,b∉(yaK CX P w K I base N g d f C A outer s H E).ex:=λb z=>IG (show b∈([]:Hx AK)from z) (by simp);refine#[#[l.mod,S.kind,rfl,rfl,AS _,λy z c D j=>?_,λy o=>?_,λy c _ h=>?_,λ_=>O,Around.frames_deeper l.frames,.inr #[rfl,rfl],λb z=>IG z (m b),l.bs,l.bsz,λb _ _=>m b,λb z=>IG z (m b),l.funs,l.frf],
  rfl,l.bare,Un.kept L,#[_,x.toInCall.ns,λi y v D j h3=>?_],λy c h=>#[_,x.cell y c h],l.hok.fresh (AS _),λy c h=>?_,λp t=>IG (show p∈([]:Hx (AK×Be))from t) (by simp),l.hok.kept L,?_]
 .exact name_of_addr x.apart (CY D) (CY j)
 .have o:d.names.lookup y=AA .cell \/ d.names.lookup y=AA .free:=o;rcases o with o|o
  .exact ze0 o
  .exact IG rfl (S.nofree _ (CY o))
 .exact Fe (x.above y c (CY h))
 .have G:i<vs.length:=by
   unfold start at j
   by_cases G:i<vs.length
   .exact G
   .rw[Ar (by simpa using G)]at j;rw[EY]at j;split at j<;>cases j
  have X:vs[i]?=AA v:=by
   unfold start at j;rw[Ad (by simpa using G),Bp]at j
   cases e:vs[i]? with
   |none=>rw[e]at j;cases j
   |some a=>rw[e]at j;cases j;rfl
  let#[u,M,Y]:=r.get X;have t:ps[i]?=AA y:=by rw[<-S.pre,Hx.getElem?_take_of_lt ()];exact D
  have B:ps.Nodup:=by rw[<-S.pre];exact S.nd.sublist (Hx.take_sublist _ _)
  refine#[u,Y,?_];rcases S.par y (A3 t)with k|k
  .exact .inl #[k,zdw B t M k]
  .let#[c,e]:=ze0 (n:=s.heap.objs.size+1) k;refine .inr #[.inl k,c,e,?_];have q:=x.cell y c e;rw[zdG B t M (by show d.names.lookup y≠_;rw[k];decide)]at q;exact q
 .exact l.hok.fresh (Fe (x.above y c (CY h)))
 .unfold start;show _=N.length;rw[A8,Aj,Hx.length_replicate];lia
def znI{CX P w}{K:AG}{G base}{k:Hy}{f:AK}{name c d g a}{dV kV doc pm cdv ct oc:AH}{an od:Option AK}
  {M:IP (Option AH)} {N ps} {sp:Sp} (lk:K.lookup f=AA #[oc,od,.func (Ba name c d g a dV kV doc pm an cdv ct),M]) (O:CJ K cdv c=AD) (S:yaC N ps a)
  (len:∀j H Q E,sp j H Q E->j.length=ps.length)
  (m:∀(A:Af)outer(s:AJ)H j Q(E:XK),yaq k (A.deeper (envOfC c a s.heap.objs.size f cdv))->sp j H Q E ->
   ∃t,PSs (yaK CX P w K G base N c a f cdv A outer s H E) g t/\t {nx:=λ_ l=>Q .non l,rt:=Q} (start N j) H):
  yaA P w K G base CX (k+1) f (Ba name c d g a dV kV doc pm an cdv ct) ps sp:=by
 refine#[len,λA outer s H args us j Q E U B hb r C=>?_];have hl:=len _ _ _ _ C;have KX:K.In s.heap:=B.mod.kin.keeps λb o e=>(B.bs b o e).1;have X:s.heap.NoLimit:=B.mod.nolimit.keeps λb o e=>(B.bs b o e).1;have p:∀y∈ps.zip us,a.names.lookup y.1=AA .local \/ (a.names.lookup y.1=AA .cell/\((cellsFrom (s.heap.objs.size+1) a.names []).lookup y.1).isSome=AD):=λ#[n,v] hy=>by
  rcases S.par n (D8 hy).1 with q|q
  .exact .inl q
  .exact .inr #[q,DM _ _ _ (.inl q)]
 refine Eu U.depth (KX _ _ lk) rfl S.co S.gen rfl (F8 KX O) (hb _ _ _ _ ?_);refine Dx S.kind p λenv he s1 x=>?_;subst he;refine#[X.keeps x.toInCall.keep,codeAny_func ?_];let#[t,ht,hq]:=m A outer s H j Q E (U.deeper _) C;have I:Inv (yaK CX P w K G base N c a f cdv A outer s H E) [] (start N j) H s1:=zdS S U.hd B hl r x;refine CG (ht [] s1 (start N j) H _ I hq) (λfl Y z=>?_) λe Y z=>z;have D:∀{L:St} {l:Hp} {v:V} {u:AH},Inv (yaK CX P w K G base N c a f cdv A outer s H E) [] L l Y->RelV v u->Q v l->CE outer P w H s Q u Y:=
  λ{L l v u} J Z q=>#[v,l,J.os,J.bare,J.base,J.hok,Z,q]
 cases fl with
 |ret u=>
  let#[v,L,l,J,Z,q]:=z;exact D J Z q
 |next=>
  let#[L,l,J,q]:=z;exact D (v:=V.non) (u:=Br) J rfl q
 |brk=>
  let#[_,_,_,q]:=z;exact BY q
 |cont=>
  let#[_,_,_,q]:=z;exact BY q
section
variable {X:Cx}{x:AT}{p pos:Bf}{e:AW}{es:Hx AW}{t:TA}{id T:IU}{r:Hx V->Hp->VK->Prop}
def tCB(r:Hx V->Hp->VK->Prop)(t:TA):TE:=λA H Q=>t A H λa b=>r a b Q
def zeE(c:yaa X (.builtin id) r)(d:Gl X x)(f:X.mg x=AF)(g:bootBuiltins x=AA (.builtin id))(j:PA X (e::es) t)(l:x ≠ "__name__":=by decide)(a:(x==("__debug__":AT))=false:=by decide)
  (m:starEach (e::es) X.env=(AC,eval e X.env)::starEach es X.env:=by rfl) (b:(backTo pos (starEach es X.env)).any (·.1)=false:=by rfl):PE X (.Call (.Name x p) (e::es) [] pos) (tCB r t):=by intro B s A H Q I h;refine BM (zbH I d f g ?_ l a);exact GQ (thn (j pos B s A H _ I h) λn o #[q,u,w,y,z]=>c B o A u q n Q w y z) m b
def zgb(c:yaa X (.type T) r)(d:Gl X x)(f:X.mg x=AF)(g:bootBuiltins x=AA (.type T))(j:PA X (e::es) t)(l:x ≠ "__name__":=by decide)(a:(x==("__debug__":AT))=false:=by decide)
  (m:starEach (e::es) X.env=(AC,eval e X.env)::starEach es X.env:=by rfl) (b:(backTo pos (starEach es X.env)).any (·.1)=false:=by rfl):PE X (.Call (.Name x p) (e::es) [] pos) (tCB r t):=by intro B s A H Q I h;refine BM (zbH I d f g ?_ l a);exact BS (thn (j pos B s A H _ I h) λn o #[q,u,w,y,z]=>c B o A u q n Q w y z) m b
end
end L2
namespace HT
open PySem PyProof.Rows
section
open PySem.SeqAt
open PySem.AutoSeq1 (wpAny_loadPart')
open PySem.MeetsSeq PySem.MeetsSeq2 PySem.MeetsSeq3
end
section
variable {prog:A4}{w:Ae}{A:Af}{E:AH->AJ->Prop}{s:AJ}
theorem cat_tup{t b}{vs a:Hx AH}{Q:AH->AJ->Prop}(B:IsTup s.heap t vs.toArray)(C:IsTup s.heap b a.toArray)(p:vs≠[])
  (D:a=[]->Q (.ref t) s) (G:a≠[]->Q (.ref s.heap.objs.size) {s with heap:=s.heap.push {cls:=.type "tuple",data:=.seq (vs++a).toArray} })
  (o:vs.length+a.length<=sizeLine):A6 (model prog w) A (binaryOp .Add (.ref t) (.ref b)) Q E s:=by
 let#[#[cls,q,data,r],l,u,n,x]:=id B;let#[#[y,d,data2,f],c,g,z,j]:=id C;simp only at u x g j;subst u x g j;have e:vs.toArray++a.toArray=(vs++a).toArray:=by simp
 by_cases m:a=[]
 .exact Fm #[_,l,rfl] #[_,c,rfl] EZ FZ DN DG (DA _ _)
   (tuple_addW1 t b vs.toArray a.toArray n z q d r f (by simpa using p) (by simp[m])) #[l,c,D m]
 .refine Fm #[_,l,rfl] #[_,c,rfl] EZ FZ DN DG (DA _ _)
   (tuple_addW2 t b vs.toArray a.toArray n z q d r f (by simpa using p) (by simpa using m) (by rw[A7,A7];exact o)) #[l,c,?_]
  rw[e];exact G m
def sIx(n d:Hy):Option Hz->Hy
 |none=>d
 |some v=>if v<0 then(v+(n:Hz)).toNat else min v.toNat n
theorem sIx_le(n d:Hy)(b:d<=n)(o:Option Hz):sIx n d o<=n:=by
 cases o with
 |none=>exact b
 |some v=>
  show (if v<0 then(v+(n:Hz)).toNat else min v.toNat n)<=n
  by_cases a:v<0
  .rw[ID a];lia
  .rw[IE a];exact Hy.min_le_right _ _
def zfN(v:Hz)(n d:Hy):(if v<0 then max (v+(n:Hz)) 0 else min v (n:Hz))=((sIx n d (AA v):Hy):Hz):=by
 show (if v<0 then max (v+(n:Hz)) 0 else min v (n:Hz))=(((if v<0 then(v+(n:Hz)).toNat else min v.toNat n):Hy):Hz)
 by_cases a:v<0
 .simp only[ID a];lia
 .simp only[IE a];lia
def zfy(lo hi)(n:Hy):Cq lo hi 1 (n:Hz)=(((sIx n 0 lo:Hy):Hz),((sIx n n hi:Hy):Hz)):=by
 have a:¬((1:Hz)<0):=()
 unfold Cq;erw[a,IL];refine Prod.ext ?_ ?_
 .cases lo with
  |none=>rfl
  |some v=>exact zfN v n 0
 .cases hi with
  |none=>rfl
  |some v=>exact zfN v n n
def zfJ(i j:Hy):CO (i:Hz) (j:Hz) 1=j-i:=by
 unfold CO;have a:(1:Hz) > 0:=()
 erw[a,IF,Ed];split<;>lia
def zcP{v o}{Q:Option Hz->AJ->Prop}(p:Ee v o)(h:Q o s):A6 (model prog w) A (G9 v) Q E s:=by
 cases p with
 |none=>exact slicePart_none h
 |int i t=>exact slicePart_int h
theorem sliceApplied_gen{sl c d lo hi}{n:Hy}{Q:Hz×Hz×Hy->AJ->Prop}(f:s.heap.IsSliceOf sl c d .none)(pl:Ee c lo)(g:Ee d hi)
  (h:Q (((sIx n 0 lo:Hy):Hz),1,sIx n n hi-sIx n 0 lo) s):A6 (model prog w) A (Dy (.ref sl) (pure (n:Hz))) Q E s:=by let#[os,a,j,b]:=id f;unfold Dy Gy;refine AI (AI (BQ a b (x:=c) rfl (AI (BQ a b (x:=d) rfl (AI (BQ a b (x:=.none) rfl (AX ?_)))))));refine AI (slicePart_none ?_);show A6 _ _ (if ((1:Hz)==0)=AD then _ else _) _ _ s;rw[IE ⋯];refine AI (zcP pl (AI (zcP g (AI (AX ?_)))));show A6 _ _ (match Cq lo hi 1 (n:Hz)with|(lo,hi)=>pure (lo,(1:Hz),CO lo hi 1)) _ _ s;rw[zfy lo hi n];show A6 _ _ (pure (((sIx n 0 lo:Hy):Hz),(1:Hz),CO ((sIx n 0 lo:Hy):Hz) ((sIx n n hi:Hy):Hz) 1)) _ _ s;rw[zfJ];exact AX h
def zio(xs:IP AH)(i k:Hy):((E7 k).filterMap λ(m:Hy)=>xs[((i:Hz)+(m:Hz)*1).toNat]?).toArray=((xs.toList.drop i).take k).toArray:=by
 have e:(λ(m:Hy)=>xs[((i:Hz)+(m:Hz)*1).toNat]?)=λm=>xs[i+m]?:=by
  funext m
  have:((i:Hz)+(m:Hz)*1).toNat=i+m:=()
  rw[this]
 rw[e];have:=pick_run xs i k;rw[Hx.filterMap_map]at this;have a:((λx=>xs[x]?) ∘ λx=>i+x)=λm=>xs[i+m]?:=rfl;rw[a]at this;rw[this]
theorem getItem_tuple_cut{t sl items j l lo hi}{Q:AH->AJ->Prop}(b:IsTup s.heap t items)(n:s.heap.IsSliceOf sl j l .none)(pl:Ee j lo)(o:Ee l hi)
  (p:¬(sIx items.size 0 lo=0/\sIx items.size items.size hi=items.size))
  (h:Q (.ref s.heap.objs.size) {s with heap:=s.heap.push {cls:=.type "tuple",data:=.seq ((items.toList.drop (sIx items.size 0 lo)).take (sIx items.size items.size hi-sIx items.size 0 lo)).toArray} })
  (r:items.size<=sizeLine):A6 (model prog w) A (getItem (.ref t) (.ref sl)) Q E s:=by
 have a:sizeOk (.seq ((items.toList.drop (sIx items.size 0 lo)).take (sIx items.size items.size hi-sIx items.size 0 lo)).toArray):=by show ((items.toList.drop (sIx items.size 0 lo)).take (sIx items.size items.size hi-sIx items.size 0 lo)).toArray.size<=sizeLine;rw[A7,DV,E1,Bw];lia
 have x:sIx items.size items.size hi<=items.size:=sIx_le _ _ (AS _) hi;let#[os,c,d,u]:=id n;have f:s.TypeIs (.ref sl) "slice":=#[os,c,d];unfold getItem
 try with_reducible refine Cy ?_
 first|refine AI (AX ?_)|skip
 refine AI (Fp b.typeIs ⋯ ?_);refine AI (B5 (name:=AE "__getitem__") b.typeIs BC
  (CZ BC b.typeIs FU ?_ (F9 _ _)))
 show A6 _ _ (Ch (.ref t) >>= _) _ _ s;refine AI (FQ b ?_);refine AI (Fq f ?_);rw[ID ⋯];refine AI (sliceApplied_gen n pl o ?_);have g:¬((((sIx items.size 0 lo:Hy):Hz)==0&&(1:Hz)==1&&(sIx items.size items.size hi-sIx items.size 0 lo)==items.size)=AD):=by intro q;rw[AL,AL]at q;have y:((sIx items.size 0 lo:Hy):Hz)=0:=eq_of_beq q.1.1;have z:sIx items.size items.size hi-sIx items.size 0 lo=items.size:=eq_of_beq q.2;exact p #[(),()]
 show A6 _ _ (if (((sIx items.size 0 lo:Hy):Hz)==0&&(1:Hz)==1&&(sIx items.size items.size hi-sIx items.size 0 lo)==items.size)=AD then _ else _) _ _ s;rw[IE g,zio]
 first
  |exact AI (m:=CU _) (B8 (AX #[_,rfl,AX h]) a)
  |exact AI (m:=CU _) (B8 (AI (AX (AX #[_,rfl,AX h]))) a)
  |exact AI (AI (m:=CU _) (B8 (AX (AX #[_,rfl,AX h])) a))
  |exact AI (AI (m:=CU _) (B8 (AX #[_,rfl,AX h]) a))
end
end HT
namespace L2
open PySem PySem.Spec PyProof.Rows
abbrev TO:=St->Hp->(Option Hz->Hp->Prop)->Prop
def PO(X:Cx)(e:Option AW)(t:TO):Prop:=
 ∀(C:Hx (AK×Be)) (s:AJ) (B:St) (H:Hp) (Q:Option Hz->Hp->Prop),Inv X C B H s->t B H Q ->
  A6 (model X.prog X.w) X.A (evalPart e X.env) (λu b=>∃o a,Inv X C B a b/\Ee u o/\Q o a) X.xe s
def ycJ:TO:=λ_ H Q=>Q AF H
def zcJ{a:Hx Hz}:∀{us:Hx AH},Vals (a.map V.int) us->Ef us a:=by
 induction a with
 |nil=>intro us r;rw[Ay]at r;cases r;exact .nil
 |cons n a ih=>
  intro us r;rw[AN]at r
  cases r with
  |cons b c=>
   let#[t,e]:=b;subst e;exact .cons n t (ih c)
section
variable {X:Cx}{e:AW}{te:TE}{lo hi:Option AW}{tl th:TO}{pos p2:Bf}
def zk9:PO X AF ycJ:=by intro C s B H Q I h;rw[evalPart_none];exact AX #[AF,H,I,.none,h]
def SlR(X:Cx)(r:V->Option Hz->Option Hz->Hp->VK->Prop):Prop:=
 ∀(C:Hx (AK×Be)) (s:AJ) (B:St) (H:Hp) (x:V) (v a b:AH) (lo hi:Option Hz) (c:AK) (Q:VK),Inv X C B H s->RelV x v->s.heap.IsSliceOf c a b .none->Ee a lo->Ee b hi->r x lo hi H Q ->
  ∃T id,typeLookup (.type T) "__getitem__"=pure (AA (.builtin id))/\s.TypeIs v T/\A6 (model X.prog X.w) X.A (getItem v (.ref c)) (EP X C B Q) X.xe s
def tSl(r:V->Option Hz->Option Hz->Hp->VK->Prop)(te:TE)(tl th:TO):TE:=λB H Q=>te B H λx a=>tl B a λl b=>th B b λu c=>r x l u c Q
def zif{r}(g:SlR X r)(j:PE X e te)(m:PO X lo tl)(n:PO X hi th):PE X (.Subscript e (.Slice lo hi AF p2) pos) (tSl r te tl th):=by intro C s B H Q I h;refine Gn (thn (j C s B H _ I h) λv o kq=>?_);let#[x,p,t,w,y]:=kq;refine wpAny_Slice (thn (m C o B p _ t y) λc z kq=>?_);let#[l,A,D,pl,E]:=kq;refine thn (n C z B A _ D E) λd a kq=>?_;let#[u,f,G,J,L]:=kq;rw[evalPart_none];refine AX ?_;have M:Inv X C B f {a with heap:=a.heap.push {cls:=.type "slice",data:=.fields (Hx.toArray [c,d,.none])} }:=G.kept (t':=a.toks) λb Y q=>AU _ q;let#[T,id,N,O,U]:=g C {a with heap:=a.heap.push {cls:=.type "slice",data:=.fields (Hx.toArray [c,d,.none])} } B f x v c d l u a.heap.objs.size Q M w (Hq ..) pl J L;show A6 (model X.prog X.w) X.A (subscriptTail e (.Slice lo hi AF p2) v (.ref a.heap.objs.size)) (EP X C B Q) X.xe {a with heap:=a.heap.push {cls:=.type "slice",data:=.fields (Hx.toArray [c,d,.none])} };exact tail_any (ops:=[.ref a.heap.objs.size,v]) O N U (by ac_rfl)
def ycf(xs:Hx V)(lo hi:Option Hz):Hx V:=(xs.drop (HT.sIx xs.length 0 lo)).take (HT.sIx xs.length xs.length hi-HT.sIx xs.length 0 lo)
def zcw(xs)(lo hi):(ycf xs lo hi).length<=xs.length:=by unfold ycf;rw[DV,E1];lia
def ygu(K:AG):V->Option Hz->Option Hz->Hp->VK->Prop:=λx lo hi H Q=>∃a b,x=.ref a/\SqT K H a b /\
 ¬(HT.sIx b.length 0 lo=0/\HT.sIx b.length b.length hi=b.length)/\∀p,H p=AF->Q (.ref p) (upd H p (.tup (ycf b lo hi)))
def zmc:SlR X (ygu X.K):=by
 intro C s B H x v u w lo hi y Q I l m pl n h;let#[a,d,rfl,p,t,q]:=h
 cases l
 let#[f,r,g,j]:=I.tuple p;have c:f.toArray.size=d.length:=by rw[A7];exact r.length.symm
 refine#["tuple",_,BC.lookup,g.typeIs,?_];refine HT.getItem_tuple_cut g m pl n (by rw[c];exact t) ?_ (by rw[c];exact j);rw[c];refine#[.ref s.heap.objs.size,_,I.laid (t':=s.toks) (o:=.tup (ycf d lo hi)) (λb z q=>AU _ q) (AS _) ?_,rfl,q _ (I.hok.fresh (AS _))];exact#[BW (zcw d lo hi) j,_,(r.drop (HT.sIx d.length 0 lo)).take (HT.sIx d.length d.length hi-HT.sIx d.length 0 lo),A5 _ rfl]
def yeC(K:AG):R2:=λx y H Q=>∃a b d c,x=.ref a/\y=.ref b/\SqT K H a d/\SqT K H b c/\d≠[]/\d.length+c.length<=sizeLine /\
 (c=[]->Q (.ref a) H)/\(c≠[]->∀p,H p=AF->Q (.ref p) (upd H p (.tup (d++c))))
theorem Vals.nil_iff{xs:Hx V}{us:Hx AH}(r:Vals xs us):us=[] ↔ xs=[]:=by
 cases r with
 |nil=>simp
 |cons _ _=>simp
def zkG:OpR X (binaryOp .Add) (yeC X.K):=by
 intro C s B H x y v u Q I j l h;let#[a,b,m,n,rfl,rfl,p,r,t,f,A,D]:=h
 cases j
 cases l
 let#[E,d,G,_]:=I.tuple p;let#[g,c,p2,_]:=I.tuple r;refine HT.cat_tup G p2 (λz=>t (d.nil_iff.mp z)) (λz=>#[.ref a,H,I,rfl,A (c.nil_iff.mp z)]) (λz=>?_) (by rw[<-d.length,<-c.length];exact f);refine#[.ref s.heap.objs.size,_,I.laid (t':=s.toks) (o:=.tup (m++n)) (λb J q=>AU _ q) (AS _) ?_,rfl,D (λw=>z (c.nil_iff.mpr w)) _ (I.hok.fresh (AS _))];exact#[by rw[A8];exact f,_,d.append c,A5 _ rfl]
end
def ixN(n:Hy)(i:Hz):Option Hy:=if 0<=i then(if i<n then AA i.toNat else AF)else if -(n:Hz)<=i then AA (i+n).toNat else AF
def atI{A:Type}(xs:Hx A)(i:Hz):Option A:=(ixN xs.length i).bind λj=>xs[j]?
def zg4{n:Hy}{i:Hz}{j:Hy}(h:ixN n i=AA j):seqIndex? i n=AA j/\j<n/\-(n:Hz)<=i/\i<n:=by
 unfold ixN at h
 by_cases b:0<=i
 .rw[ID b]at h
  by_cases a:i<n
  .rw[ID a]at h;have e:i.toNat=j:=A0 h;exact#[by rw[G4 b a,e],(),(),a]
  .rw[IE a]at h;cases h
 .rw[IE b]at h
  by_cases a:-(n:Hz)<=i
  .rw[ID a]at h;have e:(i+n).toNat=j:=A0 h;exact#[by rw[seqIndex_neg () a,e],(),a,()]
  .rw[IE a]at h;cases h
def zeg{A}{xs:Hx A}{i:Hz}{v:A}(h:atI xs i=AA v):∃j,seqIndex? i xs.length=AA j/\xs[j]?=AA v/\j<xs.length/\-(xs.length:Hz)<=i/\i<xs.length:=by
 unfold atI at h
 cases e:ixN xs.length i with
 |none=>rw[e]at h;cases h
 |some j=>
  rw[e]at h;let#[a,b,c,d]:=zg4 e;exact#[j,a,h,b,c,d]
def ybm(b:AW):Prop:=∀o i,subscripted b AC o i=operate [o,i] (getItem o i)
def IxR(X:Cx)(r:R2):Prop:=
 ∀(b a:AW) (C:Hx (AK×Be)) (s:AJ) (B:St) (H:Hp) (x y:V) (v u:AH) (Q:VK),Inv X C B H s->RelV x v->RelV y u->r x y H Q ->
  subscripted a AC v u=operate [v,u] (getItem v u)->A6 (model X.prog X.w) X.A (subscriptTail b a v u) (EP X C B Q) X.xe s
def MtR(X:Cx)(id:IU)(r:V->Hx V->Hp->VK->Prop):Prop:=
 ∀(C:Hx (AK×Be)) (s:AJ) (B:St) (H:Hp) (x:V) (a:Hx V) (v:AH) (b:Hx AH) (Q:VK),Inv X C B H s->RelV x v->Vals a b->r x a H Q ->
  A6 (model X.prog X.w) X.A (call (.builtin id) (v::b)) (EP X C B Q) X.xe s
section
variable {X:Cx}{a b:AW}{ta tb:TE}{pos:Bf}
theorem IxR.or{r c:R2}(h:IxR X r)(h':IxR X c):IxR X (λx y H Q=>r x y H Q \/ c x y H Q):=by
 intro a b C s B H x y v u Q I d f q g;rcases q with q|q
 .exact h a b C s B H x y v u Q I d f q g
 .exact h' a b C s B H x y v u Q I d f q g
def zoj{r}(c:IxR X r)(d:PE X a ta)(f:PE X b tb)(g:ybm b):PE X (.Subscript a b pos) (tOp r ta tb):=by intro C s B H Q I h;exact Gn (zow d f I h λv u j x y l m n o q=>c a b C j B l x y v u Q m n o q (g _ _))
def yfg(K:AG):R2:=λx y H Q=>∃p a i v,x=.ref p/\y=.int i/\SqL K H p a/\atI a i=AA v/\Q v H
def yfc(K:AG):R2:=λx y H Q=>∃p a i v,x=.ref p/\y=.int i/\SqT K H p a/\atI a i=AA v/\Q v H
def yfz:R2:=λx y H Q=>∃z i c,x=.str z/\y=.int i/\z.length<=sizeLine/\atI z.cps.toList i=AA c/\Q (.str #[(Hx.toArray [c])]) H
def zoV:IxR X (yfg X.K):=by
 intro c d C s B H x y v u Q I A D h m;let#[p,U,i,z,rfl,rfl,E,G,q]:=h
 cases A
 let#[t,rfl]:=D;let#[f,r,pl,Y]:=I.list E;let#[j,b,J,Z,L,M]:=zeg G;let#[w,n,g]:=r.get J;have N:=r.length;have hn:=zol;have a:EP X C B Q w s:=#[z,H,I,g,q]
 by_cases o:0<=i
 .have l:i.toNat=j:=by rw[G4 o M]at b;exact A0 b
  exact item_listR pl.isList o () (by rw[l];simpa using n) a m
 .have l:(i+(f.toArray.size:Hz)).toNat=j:=by rw[seqIndex_neg () L]at b;rw[A7,<-N];exact A0 b
  exact Eg (x:=w) pl.isList.typeIs Ft.lookup
   (wpAny_getItem_list_neg (Q:=λr O=>r=w/\EP X C B Q r O) pl.isList () (by rw[A7]<;>lia) () (by rw[l];simpa using n) #[rfl,a]) m
def zoW:IxR X (yfc X.K):=by
 intro a b C s B H x y v u Q I f g h l;let#[p,L,i,z,rfl,rfl,m,n,q]:=h
 cases f
 let#[t,rfl]:=g;let#[o,r,pl,M]:=I.tuple m;let#[j,A,D,N,O,U]:=zeg n;let#[w,E,c]:=r.get D;have G:=r.length;have Y:=zol;have d:EP X C B Q w s:=#[z,H,I,c,q];exact Eg (x:=w) pl.typeIs BC.lookup
  (getItem_tuple (j:=j) (Q:=λr J=>r=w/\EP X C B Q r J) pl () () (by rw[A7,<-G];exact A) (by simpa using E) #[rfl,d]) l
def zlW:IxR X yfz:=by
 intro a b C s B H x y v u Q I f g h l;let#[z,i,c,rfl,rfl,D,m,q]:=h;let#[t,rfl]:=f;let#[E,rfl]:=g;let#[j,d,n,G,o,p]:=zeg m;have r:z.cps.toList.length=z.length:=by simp[Str.length]
 rw[r]at d o p;have J:=zol;exact tail_any (Go s z t) slot_str_getitem.lookup (getItem_str (c:=c) (by have w:decide (i < -(2^63:Hz))=false:=IJ ();have A:decide (i ≥ 2^63)=false:=IJ ();rw[w,A,HC]) (by rw[d];simpa using n) #[.str #[(Hx.toArray [c])],H,I.tok _,#[_,rfl],q]) l
def rIx(K:AG):R2:=λx y H Q=>yfg K x y H Q \/ yfc K x y H Q \/ yfz x y H Q
def zez:IxR X (rIx X.K):=zoV.or (zoW.or zlW)
def zft(a:Hx AH)(n j:Hy)(u):Eh (·.setIfInBounds j u) {cls:=.type "list",data:=.seq a.toArray n}={cls:=.type "list",data:=.seq (a.set j u).toArray n}:=by simp[Eh]
theorem Inv.lst{C:Hx (AK×Be)}{B:St}{H:Hp}{s:AJ}{p:AK}{xs:Hx V}(I:Inv X C B H s)(h:H p=AA (.lst xs)):
  ∃(a:Hx AH) (n:Hy),Vals xs a/\s.heap.get? p=AA {cls:=.type "list",data:=.seq a.toArray n}/\xs.length<=sizeLine:=by let#[z,a,n,r,e]:=I.hok p _ h;exact#[a,n,r,e,z]
theorem Inv.lstUpd{C:Hx (AK×Be)}{B:St}{H:Hp}{s:AJ}{p:AK}{xs ys:Hx V}{a its':Hx AH}{n c:Hy}{f:Be->Be}(I:Inv X C B H s)(h:H p=AA (.lst xs))
  (d:s.heap.get? p=AA {cls:=.type "list",data:=.seq a.toArray n}) (hf:f {cls:=.type "list",data:=.seq a.toArray n}={cls:=.type "list",data:=.seq its'.toArray c}) (r:Vals ys its') (g:ys.length<=sizeLine) (t:Hy):
  Inv X C B (upd H p (.lst ys)) {s with heap:=s.heap.update p f,toks:=t}:=by
 have e:(s.heap.update p f).get? p=AA {cls:=.type "list",data:=.seq its'.toArray c}:=by rw[Ew f d (by rw[hf]<;>rfl),hf]
 refine I.write (x:=p) (e:=p) (by rw[h];trivial) (.inl rfl) (λb u j q=>(DO _ _ (BI j)).trans q) #[_,e] ?_;exact#[g,its',c,r,e]
def ydq:V->V->V->Hp->(Hp->Prop)->Prop:=λo i v H Q=>∃p a k j,o=.ref p/\i=.int k/\H p=AA (.lst a)/\ixN a.length k=AA j/\Q (upd H p (.lst (a.set j v)))
def zfk:yfr X ydq:=by
 intro C s B H o i v J L u Q I y z A h;let#[p,D,k,j,rfl,rfl,g,E,q]:=h
 cases y
 let#[t,rfl]:=z;let#[a,n,r,c,G]:=I.lst g;let#[b,M,l,m]:=zg4 E;have d:=r.length;have N:=zol;have w:Inv X C B (upd H p (.lst (D.set j v))) {s with heap:=s.heap.update p (Eh (·.setIfInBounds j u))}:=
  I.lstUpd g c (zft a n j u) (r.set A j) (by rw[BV];exact G) s.toks
 by_cases x:0<=k
 .have f:k.toNat=j:=by rw[G4 x m]at b;exact A0 b
  exact PySem.W.ki_setAt c x () (by rw[A7,<-d];exact m) (by rw[f];exact#[_,w,q])
 .have f:(k+(a.toArray.size:Hz)).toNat=j:=by rw[seqIndex_neg () l]at b;rw[A7,<-d];exact A0 b
  exact PySem.W.ki_setBack c () (by rw[A7,<-d];exact l) () (by rw[f];exact#[_,w,q])
def zdZ(lo hi)(n:Hy):(sliceBounds lo hi AF n).1=((HT.sIx n 0 lo:Hy):Hz)/\(sliceBounds lo hi AF n).2.1=((HT.sIx n n hi:Hy):Hz)/\(sliceBounds lo hi AF n).2.2=1:=by
 refine#[?_,?_,rfl]
 .cases lo with
  |none=>simp[sliceBounds,HT.sIx]
  |some i=>
   erw[sliceBounds,HT.sIx,GR,show (1:Hz) > 0 by decide,IF]
   by_cases h:i<0
   .simp only[h,IF]<;>lia
   .simp only[h,IL]<;>lia
 .cases hi with
  |none=>simp[sliceBounds,HT.sIx]
  |some i=>
   erw[sliceBounds,HT.sIx,GR,show (1:Hz) > 0 by decide,IF]
   by_cases h:i<0
   .simp only[h,IF]<;>lia
   .simp only[h,IL]<;>lia
def zdh(a:Hx AH)(lo hi):slicePick a.toArray lo hi AF=((a.drop (HT.sIx a.length 0 lo)).take (HT.sIx a.length a.length hi-HT.sIx a.length 0 lo)).toArray:=by let#[b,c,d]:=zdZ lo hi a.toArray.size;unfold slicePick;rw[b,c,d];erw[sliceRange_one,pick_run,A7]<;>rfl
def yhE(K:AG):V->Option Hz->Option Hz->Hp->VK->Prop:=λx lo c H Q=>∃a b,x=.ref a/\SqL K H a b/\∀p,H p=AF->Q (.ref p) (upd H p (.lst (ycf b lo c)))
def zgr:SlR X (yhE X.K):=by
 intro C s B H x v u w lo f y Q I j l pl m h;let#[a,c,rfl,n,q]:=h
 cases j
 let#[p,r,g,t]:=I.list n;have d:=r.length;refine#["list",_,Ft.lookup,g.isList.typeIs,?_];refine wpAny_getItem_list_slice g.isList l pl m .none (by simp) ?_ (by rw[A7]<;>lia);rw[zdh,<-d];refine#[.ref s.heap.objs.size,_,I.laid (t':=s.toks) (o:=.lst (ycf c lo f)) (λb z q=>AU _ q) (AS _) ?_,rfl,q _ (I.hok.fresh (AS _))];exact#[BW (zcw c lo f) t,_,0,(r.drop (HT.sIx c.length 0 lo)).take (HT.sIx c.length c.length f-HT.sIx c.length 0 lo),A5 _ rfl]
def yaY:V->IB
 |.non=>AD
 |.bl _=>AD
 |.int _=>AD
 |.str _=>AD
 |_=>AC
def eqV:V->V->IB
 |.non,.non=>AD
 |.bl a,.bl b=>a==b
 |.bl a,.int b=>(if a then 1 else 0)==b
 |.int a,.bl b=>a==(if b then 1 else 0)
 |.int a,.int b=>a==b
 |.str a,.str b=>a==b
 |_,_=>AC
def zlF{A s y x u v}(f:RelV y u)(c:RelV x v)(j:yaY y=AD)(g:yaY x=AD):Hr A s u v (eqV y x):=by
 cases y with
 |non=>
  cases f
  cases x with
  |non=>cases c;exact SeqAt.EqAt.same _
  |bl b=>cases c;exact SeqAt.EqAt.none_bool b
  |int b=>let#[t,rfl]:=c;exact SeqAt.EqAt.none_int b t
  |str b=>let#[t,rfl]:=c;exact SeqAt.EqAt.none_str b t
  |_=>exact IG (show AC=AD from g) AR
 |bl a=>
  cases f
  cases x with
  |non=>cases c;exact SeqAt.EqAt.bool_none a
  |bl b=>cases c;exact SeqAt.EqAt.bool_bool a b
  |int b=>let#[t,rfl]:=c;exact SeqAt.EqAt.bool_int a b t
  |str b=>let#[t,rfl]:=c;exact SeqAt.EqAt.bool_str a b t
  |_=>exact IG (show AC=AD from g) AR
 |int a=>
  let#[d,rfl]:=f
  cases x with
  |non=>cases c;exact SeqAt.EqAt.int_none a d
  |bl b=>cases c;exact SeqAt.EqAt.int_bool a d b
  |int b=>let#[t,rfl]:=c;exact SeqAt.EqAt.int_int a d b t
  |str b=>let#[t,rfl]:=c;exact F2 a d b t
  |_=>exact IG (show AC=AD from g) AR
 |str a=>
  let#[d,rfl]:=f
  cases x with
  |non=>cases c;exact SeqAt.EqAt.str_none a d
  |bl b=>cases c;exact SeqAt.EqAt.str_bool a d b
  |int b=>let#[t,rfl]:=c;exact F3 a d b t
  |str b=>let#[t,rfl]:=c;exact SeqAt.EqAt.str_str a d b t
  |_=>exact IG (show AC=AD from g) AR
 |_=>exact IG (show AC=AD from j) AR
def eqU(x:V)(u:AH):IB:=match u with
 |.none=>eqV .non x
 |.bool b=>eqV (.bl b) x
 |.int i _=>eqV (.int i) x
 |.str z _=>eqV (.str z) x
 |_=>AC
def zjy{x y u}(r:RelV y u)(f:yaY y=AD):eqU x u=eqV y x:=by
 cases y with
 |non=>cases r;rfl
 |bl b=>cases r;rfl
 |int i=>let#[t,rfl]:=r;rfl
 |str z=>let#[t,rfl]:=r;rfl
 |_=>exact IG (show AC=AD from f) AR
def zcn{x}:∀{xs}{us:Hx AH},Vals xs us->xs.all yaY=AD->us.any (eqU x)=xs.any λy=>eqV y x
 |_,_,.nil,_=>rfl
 |y::xs,u::us,.cons r t,f=>by rw[Aq,AL]at f;rw[By,By,zjy r f.1,zcn t f.2]
def zbh{A s x v}(b:RelV x v)(c:yaY x=AD):∀{xs}{us:Hx AH},Vals xs us->xs.all yaY=AD->∀u∈us,Hr A s u v (eqU x u)
 |_,_,.nil,_=>λu a=>by cases a
 |y::xs,u::us,.cons r t,f=>λd a=>by
  rw[Aq,AL]at f;rcases AV.mp a with rfl|a
  .rw[zjy r f.1];exact zlF r b f.1 c
  .exact zbh b c t f.2 d a
def inV(x:V)(xs:Hx V):IB:=xs.any λy=>eqV y x
def rIn(K:AG)(b:IB):R2:=λx y H Q=>∃p a,y=.ref p/\(SqL K H p a \/ SqT K H p a)/\yaY x=AD/\a.all yaY=AD/\Q (.bl (if b then !inV x a else inV x a)) H
def zdo:OpR X (compareOp .In) (rIn X.K AC):=by
 intro C s B H x y v u Q I d g h;let#[p,l,rfl,b,f,fs,q]:=h
 cases g
 rcases b with b|b
 .let#[a,r,pl,j]:=I.list b;refine SeqAt.in_listAt (eqU x) pl.isList (λw c=>zbh d f r fs w (by simpa using c)) #[.bl _,H,I,rfl,?_];rw[show a.toArray.any (eqU x)=a.any (eqU x)by simp,zcn r fs];exact q
 .let#[a,r,pl,j]:=I.tuple b;refine SeqAt.in_tupleAt (eqU x) pl (λw c=>zbh d f r fs w (by simpa using c)) #[.bl _,H,I,rfl,?_];rw[show a.toArray.any (eqU x)=a.any (eqU x)by simp,zcn r fs];exact q
def zbE:OpR X (compareOp .NotIn) (rIn X.K AD):=by
 intro C s B H x y v u Q I d g h;let#[p,l,rfl,b,f,fs,q]:=h
 cases g
 rcases b with b|b
 .let#[a,r,pl,j]:=I.list b;refine SeqAt.notIn_listAt (eqU x) pl.isList (λw c=>zbh d f r fs w (by simpa using c)) #[.bl _,H,I,rfl,?_];rw[show a.toArray.any (eqU x)=a.any (eqU x)by simp,zcn r fs];exact q
 .let#[a,r,pl,j]:=I.tuple b;refine SeqAt.notIn_tupleAt (eqU x) pl (λw c=>zbh d f r fs w (by simpa using c)) #[.bl _,H,I,rfl,?_];rw[show a.toArray.any (eqU x)=a.any (eqU x)by simp,zcn r fs];exact q
def zdA:yaa X (.builtin "len") (λg H Q=>∃p b,g=[.ref p]/\(SqL X.K H p b \/ SqT X.K H p b)/\Q (.int b.length) H):=by
 intro C s B H g m Q I r h;let#[p,b,rfl,c,q]:=h;let#[u,rfl,j]:=vals1 r
 cases j
 have n:=zol;rcases c with c|c
 .let#[d,f,pl,l]:=I.list c;have a:=f.length;exact Calls.call_len_list pl.isList (by erw[A7]<;>lia) #[.int b.length,H,I.tok _,#[s.toks+1,by rw[A7,a]],q]
 .let#[d,f,pl,l]:=I.tuple c;have a:=f.length;exact len_tuple pl (by erw[A7]<;>lia) #[.int b.length,H,I.tok _,#[s.toks+1,by rw[A7,a]],q]
def zdu:yaa X (.builtin "len") (λa H Q=>∃z,a=[.str z]/\z.length<=sizeLine/\Q (.int z.length) H):=by intro C s B H a b Q I r h;let#[z,rfl,c,q]:=h;let#[u,rfl,t,rfl]:=vals1 r;have d:=zol;exact len_str () #[.int z.length,H,I.tok _,#[_,rfl],q]
def zbn:yaa X (.type "tuple") (λj H Q=>∃p c,j=[.ref p]/\((SqL X.K H p c/\∀l,H l=AF->Q (.ref l) (upd H l (.tup c))) \/ (SqT X.K H p c/\Q (.ref p) H))):=by
 intro C s B H j z Q I r h;let#[p,c,rfl,h]:=h;let#[u,rfl,w]:=vals1 r
 cases w
 rcases h with⟨f,q⟩|⟨f,q⟩
 .let#[a,g,pl,m]:=I.list f;have n:=g.length;refine call_tuple_list pl.isList (λd x=>?_) (by erw[A7]<;>lia);have t:Inv X C B H {s with heap:=d}:=I.kept (t':=s.toks) x;have y:Inv X C B (upd H d.objs.size (.tup c)) {s with heap:=d.push {cls:=.type "tuple",data:=.seq a.toArray} }:=
   t.laid (t':=s.toks) (λb o e=>AU _ e) (AS _) (show yN X.prog X.w _ _ _ (.tup c)from #[m,a,g,A5 _ rfl])
  exact#[.ref d.objs.size,_,y,rfl,q _ (t.hok.fresh (AS _))]
 .let#[a,g,pl,m]:=I.tuple f;exact call_tuple_same pl #[.ref p,H,I,rfl,q]
def tyV(K:AG)(T:IU)(x:V)(H:Hp):Prop:=match x with
 |.str _=>T="str"
 |.int _=>T="int"
 |.ref p=>(T="list"/\∃b,SqL K H p b) \/ (T="tuple"/\∃o,K.lookup p=AA o/\o.cls=.type "tuple"/\o.dict=AF) \/
   (T="dict"/\((∃a,H p=AA (.dK a)) \/ ∃a,H p=AA (.dT a))) \/ (T="set"/\∃S n,H p=AA (.set S n))
 |_=>IK
def zlB{C B H s T x v}(I:Inv X C B H s)(r:RelV x v)(d:tyV X.K T x H):
  s.TypeIs v T/\∀a,v=.ref a->∃l,s.heap.get? a=AA l/\l.dict=none:=by
 cases x with
 |str z=>
  let#[t,rfl]:=r
  cases (show T="str" from d)
  exact#[Go s z t,λ_ e=>nomatch e]
 |int i=>
  let#[t,rfl]:=r
  cases (show T="int" from d)
  exact#[typeIs_int s i t,λ_ e=>nomatch e]
 |ref p=>
  cases r
  rcases d with⟨rfl,w,m⟩|⟨rfl,o,b,q,f⟩|⟨rfl,b⟩|⟨rfl,S,n,b⟩
  .let#[u,_,pl,_]:=I.list m;refine#[pl.isList.typeIs,λa e=>?_]
   cases e
   let#[o,n,e,c,f,_]:=pl;exact#[o,e,f]
  .refine#[#[o,I.kIn p o b,q],λa e=>?_]
   cases e
   exact#[o,I.kIn _ o b,f]
  .have z:∃o,s.heap.get? p=AA o/\o.ExactDict:=by
    rcases b with⟨g,b⟩|⟨g,b⟩
    .let#[_,_,_,_,o,_,_,e,ex,_]:=I.hok p _ b;exact#[o,e,ex]
    .let#[_,_,_,_,o,_,_,e,ex,_]:=I.hok p _ b;exact#[o,e,ex]
   let#[o,e,ex]:=z;refine#[#[o,e,ex.1],λa j=>?_]
   cases j
   exact#[o,e,ex.2.1]
  .let#[o,_,_,_,e,ex,_]:=I.hok p _ b;refine#[#[o,e,ex.1],λa j=>?_]
   cases j
   exact#[o,e,ex.2.1]
 |_=>exact BY d
def tBM(K:AG)(T:IU)(r:V->Hx V->Hp->VK->Prop)(b:TE)(t:TA):TE:=λB H Q=>b B H λx a=>tyV K T x a/\t B a λc d=>r x c d Q
variable {o e:AW}{es:Hx AW}{to:TE}{t:TA}{name:AT}{apos cpos:Bf}{T id:IU}{r:V->Hx V->Hp->VK->Prop}
def zj3(n:PlainAttrs T)(d:Slot T name id)(g:typeOf (.builtin id)=pure (.type "method_descriptor"))(p:MtR X id r)(q:PE X o to)(u:PA X (e::es) t)
  (b:attributeBase o name X.env (eval o X.env)=eval o X.env:=by rfl)
  (f:((backTo cpos (starEach (e::es) X.env)).all (λx=>!x.1)&&(backToKw cpos (keywordEach [] X.env)).all (λx=>x.1.isSome)
   && decide ((e::es).length+([]:Hx Bo).length+(if ([]:Hx Bo).isEmpty then 0 else 1)<30))=true:=by rfl)
  (c:(apos.endLine==cpos.line)=true:=by rfl) (w:starEach (e::es) X.env=(AC,eval e X.env)::starEach es X.env:=by rfl) (a:(backTo cpos (starEach es X.env)).any (·.1)=false:=by rfl):
  PE X (.Call (.Attribute o name apos) (e::es) [] cpos) (tBM X.K T r to t):=by intro C s B H Q I h;refine wpAny_Call_method_late b f c rfl (thn (q C s B H _ I h) λv y kq=>?_);let#[x,z,j,l,A,D]:=kq;let#[E,G]:=zlB j l A;refine#[T,id,n,d,g,E,G,?_];have m:=u cpos C y B z _ j D;rw[w]at m ⊢;refine Ei (by show (AC || (backTo cpos (starEach es X.env)).any (·.1))=AC;rw[a]<;>rfl) (FH ?_);exact thn m λJ L #[M,N,O,U,Y]=>p C L B N x M v J Q O l U Y
/- xs.append(e),list.index on a module's tuple .. are MtR facts of 06m -/
end
def MtM(X:Cx)(id:IU)(r:V->Hx V->Hp->VK->Prop):Prop:=
 ∀(C:Hx (AK×Be)) (s:AJ) (B:St) (H:Hp) (x:V) (a:Hx V) (v:AH) (b:Hx AH) (Q:VK),Inv X C B H s->RelV x v->Vals a b->r x a H Q ->
  A6 (model X.prog X.w) X.A (call (.builtin id) (v::b)) (EP X C B Q) X.xe s
theorem Vals.one:∀{x:V} {us:Hx AH},Vals [x] us->∃u,us=[u]/\RelV x u
 |_,_,.cons r .nil=>#[_,rfl,r]
theorem Vals.two:∀{x y:V} {us:Hx AH},Vals [x,y] us->∃u v,us=[u,v]/\RelV x u/\RelV y v
 |_,_,_,.cons r (.cons q .nil)=>#[_,_,rfl,r,q]
theorem Vals.dropLast{xs:Hx V}{us:Hx AH}(h:Vals xs us):Vals xs.dropLast us.dropLast:=by
 induction h with
 |nil=>exact .nil
 |cons r t ih=>
  cases t with
  |nil=>exact .nil
  |cons q a=>exact .cons r ih
section
variable {X:Cx}{B:Hx (AK×Be)}{A:St}{H:Hp}{s:AJ}{l b:AK}{xs ys zs:Hx V}
theorem Inv.lset{a its':Hx AH}{n:Hy}{f:IP AH->IP AH}{t':Hy}(I:Inv X B A H s)(b:H l=AA (.lst xs))
  (e:s.heap.get? l=AA {cls:=.type "list",data:=.seq a.toArray n}) (hf:f a.toArray=its'.toArray) (c:Vals ys its') (d:ys.length<=sizeLine):
  Inv X B A (upd H l (.lst ys)) {s with heap:=s.heap.update l (Eh f),toks:=t'}:=by have q:=PySem.IsL.update e f;rw[hf]at q;refine I.write (x:=l) (e:=l) (by rw[b];exact trivial) (.inl rfl) (λm u g j=>(DO s.heap (Eh f) (BI g)).trans j) #[_,q] ?_;exact#[d,its',_,c,q]
theorem Inv.lnew{a:Hx AH}{t':Hy}(I:Inv X B A H s)(b:Vals ys a)(c:ys.length<=sizeLine):
  Inv X B A (upd H s.heap.objs.size (.lst ys)) {s with heap:=s.heap.push {cls:=.type "list",data:=.seq a.toArray},toks:=t'}:=
 I.laid (λ_ _ q=>AU _ q) (AS _) #[c,a,0,b,A5 _ rfl]
theorem Inv.fresh(I:Inv X B A H s):H s.heap.objs.size=none:=I.hok.fresh (AS _)
theorem Inv.lstM(I:Inv X B A H s)(b:H l=AA (.lst xs)):xs.length<=sizeLine/\∃(a:Hx AH) (n:Hy),Vals xs a/\xs.length=a.length/\s.heap.get? l=AA {cls:=.type "list",data:=.seq a.toArray n}:=by let#[z,a,n,r,e]:=I.hok l _ b;exact#[z,a,n,r,r.length,e]
end
section
variable {X:Cx}
def ycr:V->Hx V->Hp->VK->Prop:=λx b H Q=>∃l a y,x=.ref l/\b=[y]/\H l=AA (.lst a)/\a.length<sizeLine/\Q .non (upd H l (.lst (a++[y])))
def zdO:MtM X "list.append" ycr:=by
 intro B s A H x g v j Q I c d h;let#[l,m,y,rfl,rfl,b,o,q]:=h
 cases c
 let#[u,rfl,f]:=d.one;let#[z,a,n,r,p,e]:=I.lstM b;refine call_meets Ex #[_,e,rfl] F.entry_list_append (F.args_list_append_2 _ _) (PySem.list_append l a.toArray n u (by rw[A7];lia)) #[e,?_];refine#[.non,_,I.lset (its':=a++[u]) b e (by simp) (r.append (.cons f .nil)) ?_,rfl,q];rw[A8,Hx.length_singleton];lia
def ygD:R2:=λx y H Q=>∃l b a c,x=.ref l/\y=.ref b/\H l=AA (.lst a)/\H b=AA (.lst c)/\a.length+c.length<=sizeLine/\∀p,H p=AF->Q (.ref p) (upd H p (.lst (a++c)))
def zlR:OpR X (binaryOp .Add) ygD:=by
 intro B s A H x y v u Q I d f h;let#[l,b,w,C,rfl,rfl,g,j,D,q]:=h
 cases d
 cases f
 let#[z,c,n,r,E,e]:=I.lstM g;let#[G,a,J,m,o,p]:=I.lstM j;refine PySem.P.add_list e p ?_ (by rw[A7,A7];lia);have t:c.toArray++a.toArray=(c++a).toArray:=by simp
 rw[t];exact#[.ref _,_,I.lnew (t':=s.toks) (r.append m) (by rw[A8];lia),rfl,q _ I.fresh]
end
section
variable {prog:A4}{w:Ae}{A:Af}{E:AH->AJ->Prop}{s:AJ}
end
section
variable {X:Cx}
end
end L2
namespace Att
open PySem PySem.W PySem.Calls PyProof.Rows
def zb9{P h}:∀(c:Hx Hz)d,WellAll P h d (c.map Hw)->Ef d c:=by
 intro c
 induction c with
 |nil=>
  intro d w;rw[Ay]at w
  cases w
  exact .nil
 |cons n c ih=>
  intro d w;rw[AN]at w
  cases w with
  |cons a b=>
   cases a
   exact .cons _ _ (ih _ b)
def zf8{l:E5}{n:Hy}(x:l.most=AA n){P h}{args:Hx WData}{c}
  (f:l.row.toRowW.claim.pre args=AD) (p:WellAll P h c args):
  ∃a u b,c=[Al a]/\args=[WData.list (b.map Hw)]/\h.get? a=AA {cls:=.type "list",data:=.seq u.toArray}/\Ef u b/\b.length<=n:=by
 have t:WShape.hasAll [] args [.list .int]=true:=(pre_splitW f).1;have w:l.pre.holds [] {args:=args}=true:=(pre_splitW f).2;let#[d,r,rfl,y,z]:=hasAllW_cons t;obtain rfl:=hasAllW_nil z;let#[E,rfl,A]:=hasW_list y;let#[b,rfl]:=items_int A;have g:b.length<=n:=by
  unfold OpenLaw.pre at w;have m:(WTm.not (.lt (.lit (.int (n:Hz))) (.len (.arg 0)))).holds [] {args:=[.list (b.map .int)]}=true:=by have m:=(holds_andW w).1;rw[x]at m;exact m
  have o:=condW_of m (w_not (w_lt w_lit (w_len_list (w_arg rfl))));rw[Aj]at o;refine Hy.le_of_not_lt λq=>?_;have B:(n:Hz)<((b.length:Hy):Hz):=()
  first
   |(rw[IQ B]at o;exact IG o ⋯)
   |(simp at o;lia)
 cases p with
 |cons w1 C=>
  cases C
  cases w1 with
  |list D j=>exact#[_,_,b,rfl,rfl,D,zb9 b _ j,g]
def zhn(l:E5)(args):l.row.toRowW.claim.post args (.bool AD) args=true:=
 postW_of (r:=l.row.toRowW) (X:=(AD==AD))
  (show Hs [] (.bool AD) .bool=AD by first|rfl|decide|simp[Hs,WShape.arms,WShape.armsAll])
  (show (WTm.eq .res (.lit (.bool AD))).value [] {args:=args,res:=AA (.bool AD),after:=args}=AA (.bool (AD==AD))from w_eq_bool (w_res rfl) w_lit) rfl
theorem attach_call{l:E5}{n:Hy}{q c J}{L:Ae->Au->Prop}{d:DefRec}
  (X:l.most=AA n) (B:d.params.defaults=[])
  (call:∀w(g b:AJ)x C(m:AK)(o:Be)D y doc(a:AK)(vs:Hx AH)(z:Hx Hz),
   Ground q c [] J w g x C b.heap->L w b.heap ->
   b.heap.get? m=AA o->o.data=.func (docDef d.name d.params d.body d.scope D y doc)->b.heap.CodeRec y d.name->x d.name=AA (.ref m) ->
   b.heap.get? a=AA {cls:=.type "list",data:=.seq vs.toArray}->Ef vs z->z.length<=n->b.gens=(Hx.toArray []) ->
   codeAny (model l.prog w) callerA (.call (.ref m) #[[.ref a],[]]) (λr A=>r=.ok (.ret (.bool AD))/\OldK b.heap A.heap/\A.os=b.os/\DZ A.gens) b):
  Gf q c J L l.row.toRowW d [] (λf vs=>Gp f vs):=by intro w g b x C G Y m o D y doc Z kV ho hd E M H hg N O as p U hrd I hlo;obtain rfl:Z=.none:=Dflts.none M B;obtain rfl:kV=.none:=Dflts.noKw M;let#[a,vs,z,rfl,rfl,t,j,u]:=zf8 X p I;refine enter_call (Di (call w g b x C m o D y doc a vs z G Y ho (fd_plain hd) E H t j u hg) λr A hq=>?_);let#[rfl,h2,h3,h4]:=hq;exact#[.inl #[.bool AD,.bool AD,[],rfl,λ_=>rfl,.bool AD,zhn l _,λ_=>#[Hu,λ_ hm=>(nomatch hm)]],h2,h3,h4]
section
variable {prog:A4}{w:Ae}{A:Af}{E:AH->AJ->Prop}{s:AJ}{K:AG}
end
end Att
namespace L2
open PySem PySem.Spec PyProof.Rows
def zdy:∀{vs}{a:Hx Hz},Ef vs a->Vals (a.map V.int) vs
 |_,_,.nil=>.nil
 |_,_,.cons n t h=>.cons #[t,rfl] (zdy h)
def Only(H:Hp):Prop:=∀b,H b=AF \/ ∃o a,H b=AA (.frz o (.lst a))
def ziF{P w}{K:AG}{A U CX}{k:Hy}{X a:AK}{fd}{x:AT}{sp}{c:AJ}{vs:Hx AH}{B}
  (KX:K.In c.heap) (C:c.heap.Ns mainGlobals A) (g:c.heap.Ns builtinsNs U) (Y:∀x:AT,x ≠ "__name__"->U x=bootBuiltins x) (D:c.heap.NoLimit) (hg:c.gens=(Hx.toArray []))
  (O:c.heap.get? a=AA {cls:=.type "list",data:=.seq vs.toArray}) (hi:Ef vs B) (hl:B.length<=sizeLine) (hr:yaq k callerA)
  (F:∀j:Au,K.In j->j.Ns mainGlobals A->yaA P w K A j CX k X fd [x] sp) (y:∀s(u:AH),Ec s fd #[[u],[]] [(x,u)])
  (Z:∀H:Hp,Only H->SqL K H a (B.map V.int)->sp [.ref a] H (λv _=>v=.bl AD) λ_ _ _=>IK)
  (hCX:∀H e l,CX [] H c (λ_ _ _=>IK) e l->IK):
  codeAny (model P w) callerA (.call (.ref X) #[[.ref a],[]]) (λr l=>r=.ok (.ret (.bool AD))/\OldK c.heap l.heap/\l.os=c.os/\DZ l.gens) c:=by
 have rv:=zdy hi;have lenV:=hi.length;have t:∀H:Hp,Only H->SqL K H a (B.map V.int)->HOk P w H c.heap->(∀b,H b≠AF->b=a)->(H a≠AF->K.lookup a=AF) ->
   codeAny (model P w) callerA (.call (.ref X) #[[.ref a],[]]) (λr l=>r=.ok (.ret (.bool AD))/\OldK c.heap l.heap/\l.os=c.os/\DZ l.gens) c:=by
  intro H hO hS E hA hK;have f:∀{b:AK} {o:Be},c.heap.get? b=AA o->H b=AF->(ycd c.heap H).get? b=AA o:=λe n=>ziU e n;have noA:∀{b:AK} {o:Be} {G:IP CB} {I:Hy},c.heap.get? b=AA o->o.data=.dict G I->H b=none:=λ{b o G I} e d=>by
   cases q:H b with
   |none=>rfl
   |some u=>
    have e':b=a:=hA b (by rw[q];simp);subst e';rw[O]at e;cases e;have d':Data.seq vs.toArray _=Data.dict G I:=d
    cases d'
  have p:∀{b:AK} {m:AT->Option AH},c.heap.Ns b m->(ycd c.heap H).Ns b m:=λ{b m} #[o,G,I,e,d,r]=>#[o,G,I,f e (noA e d),d,r];have J:K.In (ycd c.heap H):=λb o e=>f (KX b o e) (by
   cases q:H b with
   |none=>rfl
   |some u=>
    have e':b=a:=hA b (by rw[q];simp);subst e';rw[hK (by rw[q];simp)]at e;cases e)
  have hM:Mod K A (ycd c.heap H):=#[J,p C,#[U,p g,Y],let #[mc,h1,h2]:=D;#[mc,p h1,h2]];have e0:yb0 P w K A (ycd c.heap H) callerA [] c H:=#[rfl,hM,λb o e=>zkY e,Fh (zhD _ _),trivial,λb g=>IG (show b∈([]:Hx AK)from g) (by simp),E,.of_eq hg];refine Di ((F _ J (p C)).run callerA [] c H #[[.ref a],[]] [.ref a] [.ref a] _ _ hr e0 (y c (.ref a)) (.cons rfl .nil) (Z H hO hS)) λr l h=>?_
  cases r with
  |error e=>exact(hCX H e l h).elim
  |ok fl=>
   cases fl with
   |next=>exact BY h
   |brk=>exact BY h
   |cont=>exact BY h
   |ret u=>
    let#[v,H',os,L,un,M,r',q]:=h;have q':v=.bl true:=q;subst q';obtain rfl:u=Dp true:=r';refine#[rfl,OldK.of_keep λb o e=>?_,os,L]
    cases q:H b with
    |none=>exact un.keep b o e q (by intro z;exact IG (show b∈([]:Hx AK)from z) (by simp)) (by simp)
    |some u=>
     rcases hO b with z|⟨ob,xs,z⟩
     .rw[q]at z;cases z
     .have z2:=un.frzs b ob _ z;let#[e1,_]:=E b _ z;let#[e2,_]:=M b _ z2;rw[e]at e1;cases e1;exact e2
 cases hk:K.lookup a with
 |some o=>
  have e:=KX a o hk;rw[O]at e
  cases e
  refine t (λ_=>AF) (λ_=>.inl rfl) (.inr #[_,vs.toArray,_,hk,rfl,rfl,rfl,by rw[A7,lenV];exact hl,by simpa using rv]) (λb u z=>by have N:(AF:Option HO)=AA u:=z;cases N) (λb z=>IG rfl z) λz=>IG rfl z
 |none=>
  refine t (λb=>if b=a then AA (.frz {cls:=.type "list",data:=.seq vs.toArray} (.lst (B.map V.int)))else AF) (λb=>?_) (.inl (.inr #[{cls:=.type "list",data:=.seq vs.toArray},ID rfl])) (λb u z=>?_) (λb z=>?_) λ_=>hk
  .by_cases g:b=a
   .exact .inr #[_,_,ID g]
   .exact .inl (IE g)
  .by_cases g:b=a
   .have N:=(ID g).symm.trans z
    cases N
    subst g;exact#[O,by rw[Aj];exact hl,vs,_,rv,O]
   .have N:=(IE g).symm.trans z
    cases N
  .by_cases g:b=a
   .exact g
   .exact IG (IE g) z
theorem walk_of{l:E5}{n k:Hy}{q g N}{I:Ae->Au->Prop}{d:DefRec}{K:Params->AG}{CX:Ae->CXT}{sp:Ae->Sp}{x:AT}
  (O:l.most=AA n) (z:n<=sizeLine) (A:d.params.defaults=[]) (U:yaq k callerA)
  (X:∀w(h:Au),I w h->(K w.params).In h)
  (F:∀(w:Ae)(m:AT->Option AH)t(h:Au),(K w.params).In h->h.Ns mainGlobals m->m d.name=AA (.ref t) ->
   ∃fd:Av,(∀s(u:AH),Ec s fd #[[u],[]] [(x,u)]) /\
    ∀b:Au,(K w.params).In b->b.Ns mainGlobals m->yaA l.prog w (K w.params) m b (CX w) k t fd [x] (sp w))
  (B:∀(w:Ae)(H:Hp)a(y:Hx Hz),y.length<=n->Only H->SqL (K w.params) H a (y.map V.int)->sp w [.ref a] H (λv _=>v=.bl AD) λ_ _ _=>IK)
  (C:∀w H s e(D:AJ),CX w [] H s (λ_ _ _=>IK) e D->IK):
  Gf q g N I l.row.toRowW d [] (λf J=>Gp f J):=by refine Att.attach_call O A λw L p m mb t o pm cd doc a J y G Y ho hd Z E r j c hg=>?_;have M:=X w _ Y;let#[fd,hb,hF]:=F w m t _ M G.T.g E;exact ziF M G.T.g G.T.b G.T.builtins G.T.nolimit hg r j (BW c z) U hF hb (λH hO hS=>B w H a y c hO hS) λH e D=>C w H p e D
def inClass(s:Bg)(j:Hy):Stmt:=match s with
 |.ClassDef _ _ _ a _ _ _ _ _ _ _=>a.getD j (.Pass #[0,0,0,0])
 |_=>.Pass #[0,0,0,0]
def yaf(s:Bg):Arguments:=match s with
 |.FunctionDef _ a _ _ _ _ _ _ _ _=>a
 |_=>{posonlyargs:=[],args:=[],vararg:=AF,kwonlyargs:=[],kw_defaults:=[],kwarg:=AF,defaults:=[]}
def yP(s:Bg):Hx Stmt:=match s with
 |.FunctionDef _ _ b _ _ _ _ _ _ _=>b
 |_=>[]
def yj(s:Bg):Scope:=match s with
 |.FunctionDef _ _ _ _ _ _ a _ _ _=>a
 |_=>{kind:=.function,names:=[],isGenerator:=AC,isCoroutine:=AC}
abbrev CX0:CXT:=λ_ _ _ _ _ _=>IK
abbrev E0:XK:=λ_ _ _=>IK
structure Fun(K:AG)(x qual:AT)(st:Bg)(f:AK)(fd:Av):Prop where
 ex:∃(oc:AH) (od:Option AK) (kV doc pm:AH) (an:Option AK) (cdv ct:AH) (osl:IP (Option AH)),
  fd=Ba x qual (yaf st) (yP st) (yj st) .none kV doc pm an cdv ct/\K.lookup f=AA #[oc,od,.func fd,osl]/\CJ K cdv qual=AD
 kp:An K (.ref f)=AD
section
variable {P:A4}{w:Ae}{K:AG}{mg:AT->Option AH}{base:Au}
theorem Fun.binds{x a:AT}{st:Bg}{f:AK}{fd:Av}{ps:Hx AT}(F:Fun K x a st f fd)
  (h:∀(kV doc b:AH) (an:Option AK) (cdv ct:AH) (us:Hx AH),us.length=ps.length->bindArgs (Ba x a (yaf st) (yP st) (yj st) .none kV doc b an cdv ct) #[us,[]]=pure (ps.zip us)):Binds K fd ps []:=by let#[g,j,kV,doc,b,an,cdv,ct,c,rfl,lk,d]:=F.ex;exact .all (h kV doc b an cdv ct)
end
section
variable {X:Cx}
end
end L2
namespace WE
open PySem PySem.Spec PyProof.Rows
open AutoSeq1 (wpAny_loadPart')
section
variable {pg:A4}{wd:Ae}{A:Af}{Er:AH->AJ->Prop}{s:AJ}
def zbt{a t}{i:Hy}{xs x}{Q:AH->AJ->Prop}(hi:s.heap.IsTupleIter a t i)(f:s.heap.IsTuple t xs)(g:xs[i]?=AA x)
  (k:∀d,d.IsTupleIter a t (i+1)->C6 a s.heap d->Q x {s with heap:=d}):A6 (model pg wd) A (BL (.ref a)) Q Er s:=by let#[n,c,j,b]:=id hi;let#[o,l,_,p,m]:=f;unfold BL;refine AI (B5 (name:=AE "__next__") hi.typeIs CK (CZ CK hi.typeIs Dj ?_ (D9 _)));show A6 _ _ (field (.ref a) 0 >>= _) _ _ _;refine AI (BQ c b (x:=.ref t) rfl ?_);show A6 _ _ (if (Al t==Br)=AD then _ else _) _ _ _;rw[IE (show ¬((Al t==Br)=AD)from λz=>AR z)];show A6 _ _ (field (.ref a) 1 >>= _) _ _ _;refine AI (BQ c b (x:=.int i 0) rfl ?_);show A6 _ _ (seqItems? (.ref t) >>= _) _ _ _;refine AI (CF l m ?_);erw[Bq,g];refine AI (FI c b (by simp) (AX #[x,rfl,AX (k _ ?_ (FV ..))]));refine#[_,Ew _ c (Obj.isFreed_of_fields (Fa b _)),(Obj.cls_mapFields ..).trans j,?_];rw[Fa b];simp[rawInt]
def zdI{b t}{i:Hy}{xs Q}(g:A.handled=AF)(hi:s.heap.IsTupleIter b t i)(j:s.heap.IsTuple t xs)(l:xs[i]?=AF)
  (k:∀c e,Heap.ExtBut b s.heap c->(∃o,c.get? e=AA o/\o.cls=.type "StopIteration")->Er (.ref e) {s with heap:=c}):A6 (model pg wd) A (BL (.ref b)) Q Er s:=by
 let#[q,d,r,f]:=id hi;let#[u,n,_,w,p]:=j;unfold BL;refine AI (B5 (name:=AE "__next__") hi.typeIs CK (CZ CK hi.typeIs Dj ?_ (D9 _)));show A6 _ _ (field (.ref b) 0 >>= _) _ _ _;refine AI (BQ d f (x:=.ref t) rfl ?_);show A6 _ _ (if (Al t==Br)=AD then _ else _) _ _ _;rw[IE (show ¬((Al t==Br)=AD)from λz=>AR z)];show A6 _ _ (field (.ref b) 1 >>= _) _ _ _;refine AI (BQ d f (x:=.int i 0) rfl ?_);show A6 _ _ (seqItems? (.ref t) >>= _) _ _ _;refine AI (CF n p ?_);erw[Bq,l];refine AI (E8 (AI (FI d f (by simp) ?_)));show A6 _ _ (newExc (.type "StopIteration") [] >>= _) _ _ _;refine AI ?_;erw[newExc,newTuple];refine AI (B8 ?_ (by size_fits));refine AI (m:=firstArgMember _ _) (wpAny_of_eq (a:=Br) (by first|rfl|(erw[firstArgMember];rfl)) ?_);refine B8 ?_ (by size_fits);erw[raiseNew];refine AI (wpAny_handled ?_);first|rw[show A.in1.handled=AF from g]|rw[g]
 refine AI (AX (wpAny_throw ?_));exact k _ _ (((FV ..).extBut.push _).push _) #[_,A5 _ rfl,rfl]
end
theorem draws_tuple{pg wd}{A:Af}(l:A.handled=AF)(a t:AK)(d:t≠a)(xs:IP AH):
  Draws pg wd A a [a,t] xs.size (λi v=>xs[i]?=AA v) (λi h=>h.IsTupleIter a t i/\h.IsTuple t xs) where
 live:=λ_ _ st=>let #[o,g,_]:=st.1;#[o,g]
 frame:=λ_ _ _ st f=>#[let #[o,g,r]:=st.1;#[o,f a (by simp) o g,r],let #[o,g,r]:=st.2;#[o,f t (by simp) o g,r]]
 item:=λi s Q E j st m=>zbt st.1 st.2 (x:=xs[i]) (by simp[j]) λn b c=>m _ n s.toks (by simp[j]) #[b,st.2.extBut c.extBut d] c
 done:=λs Q E st p=>zdI l st.1 st.2 (by simp) p
def zd5(l)(xs)(n:Hy)(m:Option AK)(sl:IP (Option AH)):
  Meets (HP.«enumerate.__new__» #[[.type "enumerate",.ref l],[]]) (λ_ R s=>s.heap.get? l=AA {cls:=.type "tuple",dict:=m,data:=.seq xs n,slots:=sl} /\
   R (.ok (.ret (.ref (s.heap.push {cls:=.type "tuple_iterator",data:=.fields (Hx.toArray [.ref l,.int 0 0])}).objs.size)))
    {s with heap:=(s.heap.push {cls:=.type "tuple_iterator",data:=.fields (Hx.toArray [.ref l,.int 0 0])}).push {cls:=.type "enumerate",data:=.fields (Hx.toArray [.none,.bool AC,.ref s.heap.objs.size,rawInt 0,.none,.none])} }):=
 .of_wp λf w A R s h=>by
  let#[o,g,d,p,os]:=s;let#[a,h]:=h;have j:=sub_enumerate;have b:Fu (G5 #[o,g,d,p,os]) l xs:=#[_,a,rfl,n,rfl]
  wp_walk using wpAny_loadPart' a
  refine wpAny_stack_any λst=>AX ?_;split
  .rename_i c _ _ _ _ _
   cases (c==F5 "enumerate")
   .wp_walk using wpAny_loadPart' a,CL b
    exact#[_,rfl,h]
   .wp_walk using wpAny_loadPart' a,CL b
    exact#[_,rfl,h]
  .wp_walk using wpAny_loadPart' a,CL b
   exact#[_,rfl,h]
theorem call_enumT{pg wd A j}{s:AJ}{l xs}{Q:AH->AJ->Prop}(m:s.heap.IsTuple l xs)
  (k:∀a,IsEnum a (s.heap.objs.size+1) s.heap.objs.size 0 .none->a.IsTupleIter s.heap.objs.size l 0->a.objs.size=s.heap.objs.size+2 ->
   (∀b o,s.heap.get? b=AA o->a.get? b=AA o)->Q (.ref (s.heap.objs.size+1)) {s with heap:=a}):A6 (model pg wd) A (call (.type "enumerate") [.ref l]) Q j s:=by
 let#[#[c,dct,p,r],t,u,n,w]:=m
 cases (show c=.type "tuple" from u)
 cases (show p=.seq xs n from w)
 refine callType_new F.called_enumerate ⋯ (F.typeCall_enumerate_1 _) (F.newCall_enumerate_1 _) (λd=>F.args_object_init_2 d _) F.entry_enumerate_new (zd5 l xs n dct r) #[t,?_];have f:(s.heap.push {cls:=.type "tuple_iterator",data:=.fields (Hx.toArray [.ref l,.int 0 0])}).objs.size=s.heap.objs.size+1:=Bl ..;show _/\_;rw[f];have g:IsEnum ((s.heap.push {cls:=.type "tuple_iterator",data:=.fields (Hx.toArray [.ref l,.int 0 0])}).push {cls:=.type "enumerate",data:=.fields (Hx.toArray [.none,.bool AC,.ref s.heap.objs.size,rawInt 0,.none,.none])}) (s.heap.objs.size+1) s.heap.objs.size 0 .none:=by have q:=A5 (s.heap.push {cls:=.type "tuple_iterator",data:=.fields (Hx.toArray [.ref l,.int 0 0])}) (o:={cls:=.type "enumerate",data:=.fields (Hx.toArray [.none,.bool AC,.ref s.heap.objs.size,rawInt 0,.none,.none])}) rfl;rw[f]at q;exact q
 exact#[#[_,g,rfl],k _ g #[_,AU _ (A5 _ rfl),rfl,rfl] (by rw[Bl,f]) λb o y=>AU _ (AU _ y)]
end WE
namespace L2
open PySem PySem.Spec PyProof.Rows
section
variable {X:Cx}
def ydn(i j:Hz):Prop:=0<j/\j<10000000000000000000000000000000000000000000000000000000000000000000000
def zhS:OpR X (binaryOp .FloorDiv) (rI ydn λi j=>.int (i/j)):=opI λi j _ _ _ _ _ a q=>by
 let#[c,d]:=a;refine floordiv_int () (by rw[Du i ()];exact q) (.inl (PyProof.noPylong_of_log2 ?_));have b:j.natAbs≠0:=()
 refine Aa ((Hi b).mpr (?_:j.natAbs<2^250)) ⋯;have e:(10000000000000000000000000000000000000000000000000000000000000000000000:Hy)<2^250:=by decide
 lia
end
section
variable {X:Cx}{B:Hx (AK×Be)}{A:St}{H:Hp}{s:AJ}{h':Au}
theorem Inv.turnLaid{t':Hy}{ch:Hx AK}{T:AK}{o:HO}(I:Inv X B A H s)(hf:∀b∈ch,ybi X B H b)(k:∀b u,b∉ch->s.heap.get? b=AA u->h'.get? b=AA u)
  (l:s.heap.objs.size<=T) (j:yN X.prog X.w (upd H T o) h' T o):Inv X B A (upd H T o) {s with heap:=h',toks:=t'}:=by
 have d:H T=none:=I.hok.fresh l;have f:∀b u,H b=AA u->b∉ch:=λb u e z=>by
  have q:=(hf b z).1;rw[e]at q
  cases q
 refine I.step (g':=s.gens) (d':=s.drawn) (ch:=ch) (λb g=>?_) (λb u _ _ a e _=>k b u a e) (λb u _ _ a e _=>#[u.slots,k b u a e]) (λb u _ e n=>?_) (λb u a e=>#[u,k b u a e]) (λb t e=>?_) (λb u v e=>?_) (λb L e=>#[(Hx.toArray []),?_]) (λm w=>?_) (λb u e=>?_) I.bare
 .let#[M,x,N,y,C,D]:=hf b g;exact#[y,x,C,D]
 .rw[zk (Ao (Aa (A2 e) l))];exact n
 .rw[zk (zm e d)];exact e
 .rw[zk (zm e d)];exact e
 .rw[zk (zm e d),e];simp
 .let#[p,E,G,J,r]:=w;exact#[p,E,G,k _ p (λz=>(hf _ z).2.1 rfl) J,r]
 .by_cases g:b=T
  .subst g;rw[zo]at e
   cases e
   exact j
  .rw[zk g]at e;refine(I.hok b u e).stay (λc v a q=>k c v ?_ q) (λc q=>by rw[zk (zm q d)];exact q) λc t q=>by rw[zk (zm q d)];exact q
   rcases a with z|z
   .rw[z];exact f b u e
   .exact f c _ z
theorem Inv.turnedL{t':Hy}{ch:Hx AK}(I:Inv X B A H s)(hf:∀b∈ch,ybi X B H b)(k:∀b u,b∉ch->s.heap.get? b=AA u->h'.get? b=AA u):Inv X B A H {s with heap:=h',toks:=t'}:=by
 have d:∀b u,H b=AA u->b∉ch:=λb u e z=>by
  have q:=(hf b z).1;rw[e]at q
  cases q
 refine I.step (g':=s.gens) (d':=s.drawn) (ch:=ch) (λb g=>?_) (λb u _ _ a e _=>k b u a e) (λb u _ _ a e _=>#[u.slots,k b u a e]) (λ_ _ _ _ n=>n) (λb u a e=>#[u,k b u a e]) (λ_ _ e=>e) (λ_ _ _ e=>e) (λb C e=>#[(Hx.toArray []),by rw[e];simp]) (λm j=>?_) (λb u e=>?_) I.bare
 .let#[D,l,E,o,p,t]:=hf b g;exact#[o,l,p,t]
 .let#[f,w,x,y,r]:=j;exact#[f,w,x,k _ f (λz=>(hf _ z).2.1 rfl) y,r]
 .refine(I.hok b u e).stay (λc v a q=>k c v ?_ q) (λ_ q=>q) λ_ _ q=>q;rcases a with z|z
  .rw[z];exact d b u e
  .exact d c _ z
end
def Ite(K:AG)(a:AK):It:=
 #[λi H=>∃b x,SqT K H a b/\b[i]?=AA x,λi H x c=>∃T,H T=AF/\x=.ref T/\∀b y,SqT K H a b->b[i]?=AA y->c=upd H T (.tup [.int i,y]),λi H=>∃b,SqT K H a b/\b.length=i]
def zcE{h:Au}{a b:AK}{o u}(x:h.get? a=AA o)(y:h.get? b=AA u)(z:o.cls≠u.cls):a≠b:=λe=>by
 subst e;rw[x]at y
 cases y
 exact z rfl
def zfw{P w K es}{kk:Hy}{pos}(a e c:AK):
  Turn P w K (.Tuple es kk pos) (Ite K a) [e,c] e (λi h=>(∃d,IsEnum h e c i d)/\h.IsTupleIter c a i) where
 mem:=by simp
 obj:=λi h st b l=>by
  let#[#[d,j],L,m,J,di]:=st;rcases AV.mp l with z|z
  .subst z;exact#[_,j,λv y=>nomatch y]
  .have z:b=c:=by simpa using z
   subst z;exact#[L,m,λv y=>by rw[di]at y;cases y]
 keep:=λi h h' st k=>by let#[#[d,j],L,m,r]:=st;exact#[#[d,k e (by simp) _ j],L,k c (by simp) _ m,r]
 item:=by
  intro X hP hw hK hc i C s B H E I hf st hg;subst hP hw hK;let#[xs,x,hq,hx]:=hg;let#[f,rv,p,hz]:=I.tuple hq;let#[#[d,j],M]:=st;let#[L,m,J,di]:=id M;let#[oa,N,O,na,da]:=id p;have n:a≠c:=zcE N m (by rw[O,J];exact λz=>IG (Ci z) ⋯);have g:e≠c:=zcE j m (by rw[J];exact λz=>IG (Ci z) ⋯);have t:e≠a:=zcE j N (by rw[O];exact λz=>IG (Ci z) ⋯);have hl:=rv.length;have hil:i<f.toArray.size:=by have:=(Ax.mp hx).1;simpa using (by lia:i<f.length)
  have W:=Fv (prog:=X.prog) (w:=X.w) (A:=X.A) (WE.draws_tuple (pg:=X.prog) (wd:=X.w) (A:=X.A.in1) (I.ok.hd hc) c a n f.toArray) e g (by simp[g,t]) (by simp);refine wpAny_pyNext_enum_itemD (WE.draws_tuple (pg:=X.prog) (wd:=X.w) (A:=X.A.in1) (I.ok.hd hc) c a n f.toArray) j #[M,p] hil g (by simp[g,t]) λy U Y hy ho hs' hT hsz' kp'=>#[_,rfl,?_];obtain⟨T,eT⟩:∃T,s.heap.objs.size=T:=#[_,rfl];have Z:s.heap.objs.size<=T:=Fh eT;have kp:∀b o,b∉[e,c]->s.heap.get? b=AA o->U.get? b=AA o:=λb o l y=>kp' b o (λe'=>l (by simp[e'])) (λe'=>l (by simp[e'])) y;have D:(∃x,IsEnumOut U e c ((i:Hz)+1) x s.heap.objs.size)/\(U.IsTupleIter c a (i+1)/\U.IsTuple a f.toArray)/\s.heap.objs.size≠e/\s.heap.objs.size≠c:=#[#[_,ho],hs',Cm (A2 j),Cm (A2 m)];rw[eT]at D hT ⊢;refine W.go es kk pos i T _ _ E D λh2 st2 kp2=>?_;let#[u,hu,ru]:=rv.get hx;have ey:y=u:=A0 (hy.symm.trans (by simpa using hu));subst ey;have hch:∀b o,b∉[e,c]->s.heap.get? b=AA o->h2.get? b=AA o:=λb o l q=>kp2 b o l (kp b o l q);have hTw:=W.apart i T U D;have new:yN X.prog X.w (upd H T (.tup [.int i,x])) h2 T (.tup [.int i,x]):=by exact#[by show 2<=sizeLine;decide,[.int i Y,y],.cons #[Y,rfl] (.cons ru .nil),kp2 T _ hTw hT]
  have I2:=I.turnLaid (t':=Y+1) hf hch Z new;refine#[.ref T,_,I2,rfl,#[T,I.hok.fresh Z,rfl,λys z hy' G=>?_],#[st2.1,st2.2.1],λb l=>?_]
  .rw[I.tuple_inj hy' hq]at G;rw[hx]at G
   cases G
   rfl
  .rw[zk (λz:b=T=>hTw (z ▸ l))];exact(hf b l).1
 done:=by
  intro X hP hw hK hc i C s B H E I hf st hg;subst hP hw hK;let#[xs,hq,hx]:=hg;let#[f,rv,p,hz]:=I.tuple hq;let#[#[d,j],M]:=st;let#[L,m,J,di]:=id M;let#[oa,N,O,na,da]:=id p;have n:a≠c:=zcE N m (by rw[O,J];exact λz=>IG (Ci z) ⋯);have g:e≠c:=zcE j m (by rw[J];exact λz=>IG (Ci z) ⋯);have t:e≠a:=zcE j N (by rw[O];exact λz=>IG (Ci z) ⋯);have hl:=rv.length;have W:=Fv (prog:=X.prog) (w:=X.w) (A:=X.A) (WE.draws_tuple (pg:=X.prog) (wd:=X.w) (A:=X.A.in1) (I.ok.hd hc) c a n f.toArray) e g (by simp[g,t]) (by simp);have en:f.toArray.size=i:=by simp;lia
  refine W.done s _ E (by rw[en];exact#[#[d,j],M,p]) λh2 Y kp=>#[rfl,I.turnedL (t':=Y) hf kp]
 self:=λ_ _ _ _ _ st q=>by let#[#[d,j],_]:=st;exact Fw j q
def yhm(K:AG)(c:TA):TI:=λA H R=>c A H λd b=>∃a,d=[.ref a]/\(∃f,SqT K b a f)/\R (Ite K a) b
def ziN{X}{a:AW}{es}{n:Hy}{o j}{p pos:Bf}(r:Gl X "enumerate")(t:X.mg "enumerate"=AF)(w:PA X [a] j)(x:starEach [a] X.env=[(AC,eval a X.env)]:=by rfl):
  PI X (.Tuple es n o) (.Call (.Name "enumerate" p) [a] [] pos) (yhm X.K j):=by
 intro B s A H R I h;refine BM (zbH I r t boot_enumerate ?_);refine BS (thn (w pos B s A H _ I h) λO c kq=>?_) x rfl;let#[U,y,f,C,D]:=kq;let#[l,rfl,#[Y,E],q]:=D;let#[u,rfl,G]:=Vals.one C
 cases (show u=Al l from G)
 let#[g,Z,pt,hz]:=f.tuple E;refine WE.call_enumT (show c.heap.IsTuple l g.toArray from pt) λh1 m J L M=>?_;refine Fw m ?_;refine#[_,[c.heap.objs.size+1,c.heap.objs.size],_,_,y,rfl,f.kept (t':=c.toks) M,zfw l _ c.heap.objs.size,#[#[_,m],J],λb N=>?_,q];have d:c.heap.objs.size<=b:=by
  rcases AV.mp N with z|z
  .subst z;exact C4 _
  .have z:b=c.heap.objs.size:=by simpa using z
   subst z;exact AS _
 exact f.fpOk d (f.hok.fresh d)
abbrev No:AH->AJ->Prop:=λ_ _=>IK
abbrev ydk(a:Hx AW)(env:Env):Gd IB:=forIn a AD λc r=>if r=AD then do let ok <-isTrue c env (eval c env);pure (D4 ok)else pure (D4 r)
section
variable {pg:A4}{wd:Ae}{A:Af}{R:Eb->AJ->Prop}{s:AJ}
def zhg{b g a:AW}{c:Hx AW}{sc:BN}{pos:Bf}{j acc:AH}{env:Env}(I:Hy->AJ->Prop)
  (d:∀n s,I n s->A6 (model pg wd) A (pyNext j) (λr l=>match r with
   |none=>R (.ok .next) l
   |some v=>A6 (model pg wd) A (letOwnedTupleGo g j v) (λ_ p=>A6 (model pg wd) A (assign g env v) (λ_ q=>A6 (model pg wd) A (ydk c env) (λok o=>
     if ok=AD then A6 (model pg wd) A (eval b env) (λx t=>A6 (model pg wd) A (call (.builtin "list.append") [acc,x]) (λ_ u=>∃m,m<n/\I m u) No t) No o
     else ∃m,m<n/\I m o) No q) No p) No l) No s)
  (n:Hy) (h:I n s):codeAny (model pg wd) A (.compLoop (.ListComp b [#[g,a,c,0]] sc pos) 0 j acc env) R s:=by
 refine codeAny_loop rfl I (λn s z=>?_) n h;show A6 _ A ((compTurn (.ListComp b [#[g,a,c,0]] sc pos) 0 j acc env).onRaise (λx=>do noteFrame x env;theTreesLotGoes x)) _ _ s;refine wpAny_noted ?_;rw[compTurn_list];refine AI (Cz (AI (CG (d n s z) (λr l w=>?_) λ_ _ f=>f.elim)))
 cases r with
 |none=>exact AX w
 |some v=>
  refine AI (CG w (λ_ p B=>AI (CG B (λ_ q C=>AI (CG C (λok o y=>?_) λ_ _ f=>f.elim)) λ_ _ f=>f.elim)) λ_ _ f=>f.elim)
  cases ok with
  |false=>exact AX #[rfl,y]
  |true=>exact AI (AI (CG y (λx t D=>AI (CG D (λ_ u E=>AX (AX #[rfl,E])) λ_ _ f=>f.elim)) λ_ _ f=>f.elim))
end
def yad(env:Env)(r:Hx (AT×AK))(x:AT×DL):Hx (AT×AK):=if x.2=.free then(x.1,(env.cells.lookup x.1).getD 0)::r else r
def ycQ(sc:BN)(env:Env):Hx (AT×AK):=sc.names.foldl (yad env) []
def zfD{A B:Type}{l:Hx A}{f:A->B->Gd (ForInStep B)}{g:B->A->B}(h:∀x∈l,∀c,f x c=pure (.yield (g c x))):∀c:B,forIn l c f=pure (l.foldl g c):=by
 induction l with
 |nil=>exact λ_=>rfl
 |cons x l ih=>
  intro c;rw[DB,h x AO,pure_bind,Da];exact ih (λy a=>h y (AM _ a)) (g c x)
def zaN{sc:BN}{env:Env}(hf:∀y∈sc.names,y.2=.free->∃c,env.cells.lookup y.1=AA c):closureFor sc env=pure (ycQ sc env):=by
 erw[closureFor];rw[zfD (g:=yad env) (λx f c=>?_)]
 .rfl
 .let#[n,k]:=x
  by_cases b:k=.free
  .subst b;let#[a,j]:=hf _ f rfl;have d:env.cells.lookup n=AA a:=j;simp[yad,cellOf,d]
  .have l:(k==Cd)=false:=by simpa using b
   simp[yad,b,l]
def zcW{env:Env}:∀(l:Hx (AT×DL)) (r:Hx (AT×AK)),(∀y∈l,y.2=.free->∃c,env.cells.lookup y.1=AA c)->(∀x c,r.lookup x=AA c->env.cells.lookup x=AA c) ->
  ∀x c,(l.foldl (yad env) r).lookup x=AA c->env.cells.lookup x=AA c
 |[],r,_,h=>h
 |y::l,r,hf,h=>by
  refine zcW l (yad env r y) (λz g=>hf z (AM _ g)) λx c e=>?_;unfold yad at e
  by_cases b:y.2=.free
  .let#[a,f]:=hf y AO b;rw[ID b,BX]at e
   cases d:x==y.1 with
   |true=>
    rw[d,f]at e;rw[eq_of_beq d,f];exact e
   |false=>
    rw[d]at e;exact h x c e
  .rw[IE b]at e;exact h x c e
def zcf{env}{x:AT}:∀(l:Hx (AT×DL))(r:Hx (AT×AK)),(∃c,r.lookup x=AA c)->∃c,(l.foldl (yad env) r).lookup x=AA c
 |[],r,h=>h
 |y::l,r,h=>by
  refine zcf l (yad env r y) ?_;unfold yad
  by_cases a:y.2=.free
  .rw[ID a,BX]
   cases b:x==y.1 with
   |true=>exact#[_,rfl]
   |false=>exact h
  .rw[IE a];exact h
def zbq{env}:∀(l:Hx (AT×DL))r,∀y∈l,y.2=.free->∃c,(l.foldl (yad env) r).lookup y.1=AA c
 |[],_,y,a,_=>nomatch a
 |z::l,r,y,a,b=>by
  rcases AV.mp a with e|e
  .subst e;refine zcf l (yad env r y) ?_;unfold yad;rw[ID b,BX,IW];exact#[_,rfl]
  .exact zbq l (yad env r z) y e b
theorem mem_of_lookup{A:Type}{x:AT}{k:A}:∀{l:Hx (AT×A)},l.lookup x=AA k->(x,k)∈l
 |[],h=>nomatch h
 |y::l,h=>by
  rw[BX]at h
  cases a:x==y.1 with
  |true=>
   rw[a]at h
   cases h
   rw[eq_of_beq a];exact AO
  |false=>
   rw[a]at h;exact AM _ (mem_of_lookup h)
def ycT(env:Env)(x:AT)(k:DL):NameKind:=if (k==.free&&env.scope.kind==.function&&env.kindOf x==AA .cell)=AD then .cell else k
def zcV{sc env}(x:AT):(relabel sc env).names.lookup x=(sc.names.lookup x).map (ycT env x):=by
 unfold relabel;show (sc.names.map λ(n,k)=>if (k==Cd&&env.scope.kind==.function&&env.kindOf n==AA .cell)then(n,F0)else(n,k)).lookup x=_
 induction sc.names with
 |nil=>rfl
 |cons y l ih=>
  let#[n,k]:=y;rw[AN];show CS x ((if (k==Cd&&env.scope.kind==.function&&env.kindOf n==AA .cell)=AD then(n,F0)else(n,k))::_)=_
  cases b:x==n with
  |true=>
   have e:=eq_of_beq b;subst e
   by_cases a:(k==Cd&&env.scope.kind==.function&&env.kindOf x==AA .cell)=AD
   .rw[ID a,BX,IW];simp[ycT,a]
   .rw[IE a,BX,IW];simp[ycT,a]
  |false=>
   by_cases a:(k==Cd&&env.scope.kind==.function&&env.kindOf n==AA .cell)=AD
   .rw[ID a];erw[BX,b];exact ih
   .rw[IE a];erw[BX,b];exact ih
structure CI where
 C:AK
 s:AJ
 H:Hp
 fp:Hx AK
def cxC(X:Cx)(sc:BN)(a:Hx AT)(j:CI):Cx where
 prog:=X.prog
 w:=X.w
 K:=X.K
 mg:=X.mg
 base:=X.base
 A:=X.A
 N:=a
 s₀:=j.s
 H₀:=j.H
 env:=compEnvC sc (ycQ sc X.env) j.C X.env
 outer:=X.stack
 stack:=X.stack
 ex:=j.fp
 fn:=λ_=>AC
 calm:=X.calm
 pn:=[]
 xe:=No
def inn(slots:Hx (Option Hy))(A:St):St:=slots.map λo=>o.bind λj=>(A[j]?).join
structure yab(X:Cx)(sc:BN)(NC:Hx AT)(slots:Hx (Option Hy)):Prop where
 kind:sc.kind=.function
 names:∀y∈sc.names,y.2=.local->sc.names.lookup y.1=AA .local
 nocell:∀y∈sc.names,y.2 ≠ .cell
 free:∀y∈sc.names,y.2=.free->X.env.scope.names.lookup y.1=AA .cell
 slot:∀(i:Hy) (x:AT) (j:Hy),NC[i]?=AA x->slots[i]?=AA (AA j)->X.N[j]?=AA x/\sc.names.lookup x=AA .free
 len:slots.length=NC.length
def zoX{X:Cx}{sc:BN}{d:Hx AT}{slots}(N:Hx AT)(f:BN)(g:X.N=N)(l:X.env.scope=f)(kind:sc.kind=.function)
  (names:∀y∈sc.names,y.2=.local->sc.names.lookup y.1=AA .local) (a:∀y∈sc.names,y.2 ≠ .cell) (b:∀y∈sc.names,y.2=.free->f.names.lookup y.1=AA .cell)
  (c:∀p∈d.zip slots,(p.2.all λj=>decide (N[j]?=AA p.1/\sc.names.lookup p.1=AA .free))=AD) (len:slots.length=d.length):yab X sc d slots:=by subst g l;refine#[kind,names,a,b,λi x j m n=>?_,len];have o:(x,AA j)∈d.zip slots:=A3 (i:=i) (by rw[Hx.getElem?_zip_eq_some];exact#[m,n]);have:=c _ o;simpa using this
section
variable {X:Cx}{sc:BN}{NC:Hx AT}{slots:Hx (Option Hy)}{D:Hx (AK×Be)}{A:St}{H:Hp}{s:AJ}
theorem yab.cells(O:yab X sc NC slots)(ok:X.Ok):∀y∈sc.names,y.2=.free->∃c,X.env.cells.lookup y.1=AA c:=λy a b=>ok.has y.1 (.inl (O.free y a b))
theorem yab.sub(O:yab X sc NC slots)(ok:X.Ok):∀x c,(ycQ sc X.env).lookup x=AA c->X.env.cells.lookup x=AA c:=zcW sc.names [] (O.cells ok) λ_ _ e=>nomatch e
theorem yab.rel(O:yab X sc NC slots)(ok:X.Ok){x:AT}(h:sc.names.lookup x=AA .free):(relabel sc X.env).names.lookup x=AA .cell:=by rw[zcV,h];have e:X.env.kindOf x=AA .cell:=O.free _ (mem_of_lookup h) rfl;simp[ycT,ok.kind,e]
def zfu(I:Inv X D A H s)(O:yab X sc NC slots){C:Hx AK}(hf:∀b∈C,ybi X D H b)(E:∀b∈C,∃o,s.heap.get? b=AA o){n:Au}{t':Hy}{m}(G:n.Ns s.heap.objs.size m)
  (g:∀b o,s.heap.get? b=AA o->n.get? b=AA o):Inv (cxC X sc NC #[s.heap.objs.size,s,H,C]) [] (inn slots A) H {s with heap:=n,toks:=t'}:=by
 have sub:=O.sub I.ok;have J:∀b,b≠X.env.locals->b∉X.fs->b∉frs X.stack:=λb n h2 d=>(AV.mp (I.stkSub b d)).elim n h2;have ltC:∀x c,(ycQ sc X.env).lookup x=AA c->c<s.heap.objs.size:=λx c e=>by let#[v,q]:=I.cell x c (sub x c e);exact q.lt
 refine#[#[I.ok.mod,O.kind,I.ok.glob,I.ok.blt,AS _,λx y c L M=>I.ok.inj x y c (sub x c L) (sub y c M),λx hx=>?_,λ_ _ z=>(nomatch z),I.ok.hd,I.ok.frames,.inl rfl,λb d=>#[?_,λx c e=>(hf b d).2.2.2.2.1 x c (sub x c e)],I.bs,BW I.ok.bsz I.sz,λb o e d=>?_,λb d=>J b (hf b d).2.1 (hf b d).2.2.1,I.stack,I.stkFree],
  rfl,I.bare,Un.kept g,#[m,G,λi x v L M e3=>?_],λx c e=>?_,I.hok.fresh (AS _),λx c e=>I.freeC x c (sub x c e),λp hp=>(nomatch hp),I.hok.kept g,?_]
 .have f:(relabel sc X.env).names.lookup x=AA .cell \/ (relabel sc X.env).names.lookup x=AA .free:=hx;rw[zcV]at f
  cases q:sc.names.lookup x with
  |none=>
   rw[q]at f;rcases f with z|z<;>cases z
  |some k=>
   have hm:=mem_of_lookup q;have N:k=.free:=by
    rw[q]at f;have nc:=O.nocell _ hm
    by_cases g:k=.free
    .exact g
    .exfalso;have d:(k==Cd)=false:=by simpa using g
     rcases f with z|z
     .simp[ycT,d]at z;exact nc z
     .simp[ycT,d]at z;exact g z
   subst N;exact zbq sc.names [] _ hm rfl
 .let#[o,e]:=E b d;exact Ao (A2 e)
 .rcases (hf b d).2.2.2.1 with z|z
  .exact I.ok.noex b o e z
  .exact IG (Aa (A2 e) (BW I.ok.bsz z)) (Cw _)
 .obtain⟨j,e4,e5⟩:∃j,slots[i]?=AA (AA j)/\A[j]?=AA (AA v):=by
   have a:(slots.map λo=>o.bind λj=>(A[j]?).join)[i]?=AA (AA v):=M;rw[Bp]at a
   cases q:slots[i]? with
   |none=>
    rw[q]at a
    cases a
   |some o=>
    rw[q]at a
    cases o with
    |none=>cases a
    |some j=>
     refine#[j,rfl,?_];have l:(A[j]?).join=AA v:=A0 a
     cases q2:A[j]? with
     |none=>
      rw[q2]at l
      cases l
     |some w=>
      rw[q2]at l;have t:w=AA v:=l;rw[t]
  let#[l,t]:=O.slot i x j L e4;have kc:X.env.scope.names.lookup x=AA .cell:=O.free _ (mem_of_lookup t) rfl;let#[m0,hn0,hl]:=I.loc;let#[u,r,lk]:=hl j x v l e5 (.inr (.inl kc));refine#[u,r,.inr #[.inl (O.rel I.ok t),?_]];rcases lk with⟨z,_⟩|⟨_,c,hc,o,U,Y⟩
  .rw[show X.env.kindOf x=AA .cell from kc]at z
   cases z
  .let#[Z,B]:=zbq (env:=X.env) sc.names [] _ (mem_of_lookup t) rfl;have e8:Z=c:=A0 ((sub x Z B).symm.trans hc);subst e8;exact#[Z,B,o,g _ _ U,Y]
 .let#[v,o,U,Y]:=I.cell x c (sub x c e);exact#[v,o,g _ _ U,Y]
 .show (slots.map λo=>o.bind λj=>(A[j]?).join).length=NC.length;rw[Aj,O.len]
def zfH(I:Inv X D A H s){f:Hx AK}(hf:∀b∈f,ybi X D H b){C:AK}(t:s.heap.objs.size<=C){pl w g j}(J:Inv (cxC X sc NC #[C,s,H,f]) pl w g j)
  {r} (l:C6 C j.heap r):Inv X D A g {j with heap:=r}:=by
 have p:∀b o,s.heap.get? b=AA o->b≠C:=λb o e=>Ao (Aa (A2 e) t);have B:Un (frs X.stack) f H g s.heap j.heap:=J.base;have m:g C=none:=J.free;refine I.call' (ch:=f) J.os #[λb o e n a d=>(l.2 b (p b o e)).trans (B.keep b o e n a d),λb o e n a d=>?_,B.free,λb o e d=>?_,B.tups,B.frzs,B.tbls] (λb u e=>?_) J.bare λb a=>#[(hf b a).2.2.2.1,(hf b a).2.1,(hf b a).2.2.2.2.1,(hf b a).2.2.2.2.2]
 .let#[x,q]:=B.slot b o e n a d;exact#[x,(l.2 b (p b o e)).trans q]
 .let#[y,q]:=B.there b o e d;exact#[y,(l.2 b (p b o e)).trans q]
 .refine(J.hok b u e).stay (λc v E q=>(l.2 c λz=>?_).trans q) (λ_ q=>q) λ_ _ q=>q;subst z;rcases E with z|z
  .rw[z,e]at m
   cases m
  .rw[z]at m
   cases m
end
def PTs(X:Cx)(a:Hx AW)(t:TT):Prop:=
 ∀(C:Hx (AK×Be)) (s:AJ) (B:St) (H:Hp) (Q:IB->Hp->Prop),Inv X C B H s->t B H Q->A6 (model X.prog X.w) X.A (ydk a X.env) (TP X C B Q) X.xe s
def yhu:TT:=λ_ H Q=>Q AD H
def zkg{X}:PTs X [] yhu:=λ_ _ _ H _ I h=>wpAny_tests_nil #[H,I,h]
def zjZ{X c t}(h:PT X c t):PTs X [c] t:=λB s A H Q I q=>wpAny_tests_one (h B s A H Q I q)
def yb8(J:It)(D:AK)(g:TG)(ti:TT)(q:TE)(W:Hy->Hy->St->Hx V->Hp->Prop)(Q:Hp->Prop):Prop:=
 ∀i m Ac a c,W i m Ac a c->c D=AA (.lst a)/\((J.stop i c/\Q c) \/ (J.go i c/\a.length<sizeLine/\∃N:St->Hx V->Hp->Prop,(∀f d j,N f d j->∃l,l < m/\W (i+1) l f d j) /\
  ∀x n,J.yld i c x n->g x Ac n λA4 r=>ti A4 r λb o=>if b=AD then q A4 o λy p=>p D=AA (.lst a)/\N A4 (a++[y]) (upd p D (.lst (a++[y])))else N A4 a o))
def ycx(slots:Hx (Option Hy))(b:TI)(g:TG)(ti:TT)(c:TE):TE:=λA H Q=>b A H λJ a=>∀D,a D=AF->∃W:Hy->Hy->St->Hx V->Hp->Prop,(∃m,W 0 m (inn slots A) [] (upd a D (.lst [])))/\yb8 J D g ti c W (Q (.ref D))
section
variable {X:Cx}{sc:BN}{NC:Hx AT}{slots:Hx (Option Hy)}{elt tg iter:AW}{ifs:Hx AW}{pos:Bf}{g:TG}{ti:TT}{te:TE}
def ziA(hc:X.calm=AD)(hg:∀j,PG (cxC X sc NC j) tg g)(ht:∀j,PTs (cxC X sc NC j) ifs ti)(he:∀j,PE (cxC X sc NC j) elt te){a:CI}{it D Y J}
  {W:Hy->Hy->St->Hx V->Hp->Prop} {Q} {R:Eb->AJ->Prop} {s} {Ec} {ys} {H} (T:Turn X.prog X.w X.K tg J a.fp it Y)
  (I:Inv (cxC X sc NC a) [] Ec H s) (hf:∀b∈a.fp,ybi (cxC X sc NC a) [] H b) (st:Y 0 s.heap) {m:Hy} (w0:W 0 m Ec ys H) (step:yb8 J D g ti te W Q)
  (fin:∀w c G,Inv (cxC X sc NC a) [] w c G->Q c->R (.ok .next) G):
  codeAny (model X.prog X.w) X.A (.compLoop (.ListComp elt [#[tg,iter,ifs,0]] sc pos) 0 (.ref it) (.ref D) (cxC X sc NC a).env) R s:=by
 have f:∀{c:Hp},(∀b∈a.fp,c b=AF)->∀b∈a.fp,ybi (cxC X sc NC a) [] c b:=λhn b l=>#[hn b l,(hf b l).2];refine zhg (λn G=>∃i w A c,Inv (cxC X sc NC a) [] w c G/\Y i G.heap/\(∀b∈a.fp,c b=AF)/\W i n w A c) ?_ m #[0,Ec,ys,H,I,st,λb l=>(hf b l).1,w0]
 rintro n s3 ⟨i,E3,B,Z,I3,L,M,w3⟩
 let#[hD,q]:=step i n E3 B Z w3;rcases q with⟨stop,qn⟩|⟨go,hz,N,hN,O⟩
 .refine thn (T.done (cxC X sc NC a) rfl rfl rfl hc i [] s3 E3 Z No I3 (f M) L stop) λr s4 kq=>?_;let#[hr,I4]:=kq;subst hr;exact fin E3 Z s4 I4 qn
 .refine thn (T.item (cxC X sc NC a) rfl rfl rfl hc i [] s3 E3 Z No I3 (f M) L go) λr s4 kq=>?_;let#[u,hr,h4]:=kq;subst hr;refine thn h4 λ_ s5 kq=>?_;let#[x,H5,I5,r5,y5,C,fr5]:=kq;have I5':=I5.pinned (f fr5) (T.obj _ _ C);refine thn (hg a _ s5 E3 H5 x u _ I5' r5 (O x H5 y5)) λ_ s6 kq=>?_;let#[E6,H6,I6,q6]:=kq;refine thn (ht a _ s6 E6 H6 _ I6 q6) λok s7 kq=>?_;let#[H7,I7,q7]:=kq;have again:∀{E8:St} {p:Hx V} {t:Hp} {E:AJ},Inv (cxC X sc NC a) ([]++ybf a.fp s5.heap) E8 t E->N E8 p t->∃m,m<n/\∃i w A c,Inv (cxC X sc NC a) [] w c E/\Y i E.heap/\(∀b∈a.fp,c b=AF)/\W i m w A c:=λ{E8 p t E} U n8=>by let#[m',hm,w8]:=hN E8 p t n8;refine#[m',hm,i+1,E8,p,t,U.unpinned,T.keep _ _ _ C λb l o e=>(U.pin (b,o) (Ab _ (Ab _ (zaX l e)))).1,λb l=>?_,w8];let#[o,e,d]:=T.obj _ _ C b l;exact(U.pin (b,o) (Ab _ (Ab _ (zaX l e)))).2.1
  cases ok with
  |false=>
   rw[IE AR]at q7 ⊢;exact again I7 q7
  |true=>
   rw[ID rfl]at q7 ⊢;refine thn (he a _ s7 E6 H7 _ I7 q7) λy E kq=>?_;let#[v,t,U,r8,hD8,q8]:=kq;refine thn (zdO (X:=cxC X sc NC a) _ E E6 t (.ref D) [v] (.ref D) [y] (λz c=>z=.non/\c=upd t D (.lst (B++[v]))) U rfl (.cons r8 .nil) #[D,B,v,rfl,rfl,hD8,hz,rfl,rfl]) λz s9 kq=>?_;let#[zv,H9,I9,r9,e1,e2]:=kq;subst e2;exact again I9 q8
def zcS(hc:X.calm=AD)(O:yab X sc NC slots)(hg:∀j,PG (cxC X sc NC j) tg g)(ht:∀j,PTs (cxC X sc NC j) ifs ti)(he:∀j,PE (cxC X sc NC j) elt te){B s E H}(I:Inv X B E H s)
  {it} {u} {tn} {J} (T:Turn X.prog X.w X.K tg J u it tn) (st:tn 0 s.heap) (hf:∀b∈u,ybi X B H b) {Q:VK}
  (h:∀D,H D=AF->∃W:Hy->Hy->St->Hx V->Hp->Prop,(∃m,W 0 m (inn slots E) [] (upd H D (.lst [])))/\yb8 J D g ti te W (Q (.ref D))) {RR:AH->AK->Eb->AJ->Prop}
  (fin:∀D C w N,Q (.ref D) N->(∃o m,w.heap.get? C=AA o/\w.heap.Ns C m/\∀v,o.data ≠ .cell v)->ybi X B N C->(∀h2,C6 C w.heap h2->Inv X B E N {w with heap:=h2})->RR (.ref D) C (.ok .next) w):
  A6 (model X.prog X.w) X.A (newList []) (λU c=>A6 (model X.prog X.w) X.A (newFunctionEnv sc X.env.globals (ycQ sc X.env) [] X.env.qual AF .none (AA X.env)) (λn s4=>
   codeAny (model X.prog X.w) X.A (.compStart (.ListComp elt [#[tg,iter,ifs,0]] sc pos) 0 (.ref it) U {n with scope:=relabel sc X.env}) (RR U n.locals) s4) X.xe c) X.xe s:=by
 refine B8 (wpAny_newFunctionEnv O.nocell (by intro y hy;simp at hy) (λh1 f l=>?_) O.kind);dsimp only at f l ⊢;have hDn:H s.heap.objs.size=none:=I.hok.fresh (AS _);let#[W,#[m,w0],step]:=h s.heap.objs.size hDn;obtain⟨c,A⟩:∃x:AJ,x=({s with heap:=s.heap.push {cls:=.type "list",dict:=AF,data:=.seq ([]:Hx AH).toArray} }:AJ):=#[_,rfl];have e3:c.heap=s.heap.push {cls:=.type "list",dict:=AF,data:=.seq ([]:Hx AH).toArray}:=by rw[A]
 rw[<-e3]at f l;have Y:∀b o,s.heap.get? b=AA o->c.heap.get? b=AA o:=λb o e=>by rw[e3];exact AU _ e
 have I3:Inv X B E (upd H s.heap.objs.size (.lst [])) c:=by have q:=I.laid (a:=s.heap.objs.size) (o:=.lst []) (h':=c.heap) (t':=s.toks) Y (AS _) #[BP _,[],_,.nil,by rw[e3];exact A5 _ rfl];rw[A]at q ⊢;exact q
 have G:∀b∈u,ybi X B (upd H s.heap.objs.size (.lst [])) b:=λb d=>by let#[o,e,_]:=T.obj _ _ st b d;refine#[?_,(hf b d).2];rw[zk (Ao (A2 e))];exact(hf b d).1
 have L:tn 0 c.heap:=T.keep _ _ _ st λb _ o e=>Y b o e;have hob:∀b∈u,∃o,c.heap.get? b=AA o:=λb d=>by let#[o,e,_]:=T.obj _ _ L b d;exact#[o,e]
 have M:∀b o,c.heap.get? b=AA o->h1.get? b=AA o:=λb o e=>l.extBut b o (Ao (A2 e)) (AU _ e);have J1:=zfu (t':=c.toks+([]:Hx (AT×AH)).length) I3 O G hob f M;have hfc:∀b∈u,ybi (cxC X sc NC #[c.heap.objs.size,c,upd H s.heap.objs.size (.lst []),u]) [] (upd H s.heap.objs.size (.lst [])) b:=λb d=>
  #[(G b d).1,(J1.ok.exf b d).1,J1.ok.exfs b d,.inl d,(J1.ok.exf b d).2,λp hp=>nomatch hp]
 have t:codeAny (model X.prog X.w) X.A (.compLoop (.ListComp elt [#[tg,iter,ifs,0]] sc pos) 0 (.ref it) (.ref s.heap.objs.size) (cxC X sc NC #[c.heap.objs.size,c,upd H s.heap.objs.size (.lst []),u]).env) (RR (.ref s.heap.objs.size) c.heap.objs.size)
   {c with heap:=h1,toks:=c.toks+([]:Hx (AT×AH)).length}:=by refine ziA (D:=s.heap.objs.size) (Q:=Q (.ref s.heap.objs.size)) hc hg ht he T J1 hfc (T.keep _ _ _ L λb _ o e=>M b o e) w0 step λE' N w J' q'=>?_;have fC:N c.heap.objs.size=none:=J'.free;refine fin _ _ w N q' ?_ (I3.fpOk (AS _) fC) λh2 d=>zfH I3 G (AS _) J' d;let#[m',Z,_]:=J'.loc;let#[o,es,ep,ho,hd,r]:=id Z;exact#[o,m',ho,Z,λv z=>by rw[hd]at z;cases z]
 have self:=λ(RQ:AH->AJ->Prop) (EE:AH->AJ->Prop)=>T.self X.A 0 {c with heap:=h1,toks:=c.toks+([]:Hx (AT×AH)).length} RQ EE (T.keep _ _ _ L λb _ o e=>M b o e);subst A;exact codeAny_compStart_list t (self _ _ t)
variable {wi:TI}
def zj8(c:X.calm=AD)(O:yab X sc NC slots)(hi:PI X tg iter wi)(d:∀j,PG (cxC X sc NC j) tg g)(f:∀j,PTs (cxC X sc NC j) ifs ti)(l:∀j,PE (cxC X sc NC j) elt te)
  (n:∀x,foldedSetIterable iter X.env x=pure x:=by intro _;rfl):PE X (.ListComp elt [#[tg,iter,ifs,0]] sc pos) (ycx slots wi g ti te):=by intro B s E H Q I h;rw[eval_ListComp];refine ER (use:=AF) rfl n (zaN (O.cells I.ok)) O.kind O.names (thn (hi B s E H _ I h) λv G p=>thn p λq L a=>?_);let#[M,N,U,J,Y,rfl,r,T,b,t,u]:=a;refine zcS c O d f l r T b t u λD C Z w y #[o,m,ho,z,_] _ out=>#[m,z,λa A=>#[.ref D,w,out a A,rfl,y]]
def zld{i:Hy}{x}{l a:Bf}(Y:X.N.Nodup)(n:X.N[i]?=AA x)(Z:Loc X.env.scope x)(hc:X.calm=AD)(O:yab X sc NC slots)(hi:PI X tg iter wi)(hg:∀j,PG (cxC X sc NC j) tg g)(ht:∀j,PTs (cxC X sc NC j) ifs ti)(he:∀j,PE (cxC X sc NC j) elt te)
  (q:swapsWith (.ListComp elt [#[tg,iter,ifs,0]] sc pos) (AA (.Name x l)) a.line X.env=pure true:=by rfl) (hs:∀x,foldedSetIterable iter X.env x=pure x:=by intro _;rfl)
  (hf:X.fn x=AD \/ X.env.scope.names.lookup x=AA .local:=by first|exact .inl rfl|exact .inr rfl|assumption):PS X (.Assign [.Name x l] (.ListComp elt [#[tg,iter,ifs,0]] sc pos) a) (ydS (ycx slots wi g ti te) (yce i)):=by
 intro B s E H G I h;rw[exec_Assign_Name_used _ _ _ _ q,arm_evalThenUse_ListComp];refine AI (Cz (AI (AI ?_)));refine ER (Q:=λ_ d=>A6 (model X.prog X.w) X.A (pure IZ.unit) (λ_ t=>A6 (model X.prog X.w) X.A (pure HK) (SP X B G) X.xe t) X.xe d) rfl hs (zaN (O.cells I.ok)) O.kind O.names (thn (hi B s E H _ I h) λv s1 h1=>thn h1 λitv s2 L=>?_);let#[it,fp,tn,J,H2,rfl,I2,T,w,f2,q2]:=L;refine zcS (Q:=λx H1=>yce i x E H1 G.nx) hc O hg ht he I2 T w f2 q2 λD C d y q' #[o,m,M,hn,hd] c out=>?_;have N:Inv X B E y d:=out d.heap (Hv ..);have Ip:Inv X (B++[(C,o)]) E y d:=N.pins_of λp hp=>(Aw.mp hp).elim (λz=>N.pin p (Ab _ z)) λz=>by
  have e:p=(C,o):=by simpa using z
  subst e;exact#[M,c.1,c.2.1,c.2.2.1,hd]
 show A6 (model X.prog X.w) X.A (assign (.Name x l) X.env (.ref D)) _ _ d;refine Ff (zaY Ip Y n Z (show RelV (.ref D) (.ref D)from rfl) (λs6 U=>?_) hf);have g6:=(U.pin (C,o) (Ab _ (Ab _ AO))).1;let#[o',es,ep,f,r]:=hn;rw[M]at f
 cases f
 refine#[m,#[o,es,ep,g6,r],λL hb=>AX (AX ?_)];exact#[_,y,U.unpinned.turned (t':=s6.toks) (λb u A e=>(hb.2 b A).trans e) c.1 c.2.1 c.2.2.2.1 c.2.2.2.2.1 c.2.2.2.2.2,q']
end
def zes:∀{bs:Hx IB} {us:Hx AH},Vals (bs.map V.bl) us->LSm.BoolsAre us bs
 |[],_,.nil=>.nil
 |b::bs,_,.cons r q=>by
  cases (show _=Dp b from r)
  exact .cons b (zes q)
section
variable {X:Cx}
def yg6(K:AG):Hx V->Hp->VK->Prop:=λa H Q=>∃(l:AK) (bs:Hx IB),a=[.ref l]/\SqL K H l (bs.map V.bl)/\Q (.bl (bs.all id)) H
def ziT(j:X.calm=AD):yaa X (.builtin "all") (yg6 X.K):=by
 intro C s B H x y Q I r h;let#[l,bs,rfl,m,q]:=h;let#[u,rfl,n]:=Vals.one r
 cases (show u=Al l from n)
 let#[a,o,pl,z]:=I.list m;have f:=zes o;have c:=pl.isList;have d:l<s.heap.objs.size:=by let#[_,e,_]:=c;exact A2 e
 refine call_all_walk (Fx c ?_);refine#[s.heap.objs.size,[s.heap.objs.size,l],[s.heap.objs.size],a.toArray.size,_,_,λi=>(bs[i]?).getD AD,rfl,Walks.list (A:=X.A.in1) (I.ok.hd j) _ l (Ao d) a.toArray,#[#[_,A5 _ rfl,rfl,rfl],c.push _],λi v D E G p g=>?_,λJ t w=>?_]
 .let#[b,e,rfl]:=f.get i v (by simpa using p);erw[e,B6]at g;exact BR g
 .have e:((E7 a.toArray.size).all λi=>(bs[i]?).getD AD)=bs.all id:=by rw[A7,f.length];exact LSm.range_all bs
  rw[e];exact#[.bl _,H,I.kept (t':=t) (LSm.kept_iter w),rfl,q]
end
section
variable {X:Cx}{B:Hx (AK×Be)}{A:St}{H:Hp}{s:AJ}
end
section
variable {X:Cx}{a:AW}{ta:TE}{K:AG}
end
end L2
namespace L2
end L2
namespace L2
open PySem PySem.Spec PyProof.Rows
section
variable {X:Cx}
def yhI(K:AG):Hx V->Hp->VK->Prop:=λb H Q=>∃(l:AK) (a:Hx Hz),b=[.ref l]/\SqL K H l (a.map V.int)/\Q (.int a.sum) H
def zhL(g:X.calm=AD):yaa X (.builtin "sum") (yhI X.K):=by
 intro B s A H w x Q I r h;let#[l,a,rfl,j,q]:=h;let#[u,rfl,m]:=Vals.one r
 cases (show u=Al l from m)
 let#[b,n,pl,y]:=I.list j;have d:Ef b a:=zcJ n;let#[o,e]:=d.allInts.items;have c:a=o.toList.map (·.1):=by rw[<-d.numsOf,<-nums_intItems,<-e]
 have f:=pl.isList;rw[e]at f;refine sum_intListG (I.ok.hd g) f λz p t' t=>#[.int a.sum,H,I.kept (t':=p) t,#[t',?_],q];rw[preSum_eq,Ej (by simp),<-c]
def ygy(K:AG):Hx V->Hp->VK->Prop:=λc H Q=>∃(l:AK) (b:Hx Hz),c=[.ref l]/\SqL K H l (b.map V.int)/\0<b.length/\∀M,M∈b->(∀a,a∈b->a<=M)->Q (.int M) H
def zf3(w:X.calm=AD):yaa X (.builtin "max") (ygy X.K):=by
 intro B s A H L M Q I r h;let#[l,m,rfl,x,c,q]:=h;let#[u,rfl,y]:=Vals.one r
 cases (show u=Al l from y)
 let#[f,z,pl,N]:=I.list x;have n:Ef f m:=zcJ z;let#[d,e]:=n.allInts.items;have b:m=d.toList.map (·.1):=by rw[<-n.numsOf,<-nums_intItems,<-e]
 have g:0<d.size:=by rw[b,Aj,Bw]at c;exact c
 have o:=pl.isList;rw[e]at o;refine max_intList (I.ok.hd w) o g λv O C D E=>?_;let#[t,rfl]:=intItems_at D;let#[U,G]:=argBest_gt (numAt d) (d.size-1);refine#[.int _,H,I.kept (t':=C) E,#[t,rfl],q _ ?_ λa p=>?_]
 .rw[b,numAt_eq];exact getD_mem (by rw[Aj,Bw];lia)
 .rw[b]at p;let#[j,J,rfl]:=mem_getD p;rw[Aj,Bw]at J;rw[<-numAt_eq];exact G j ()
end
def yeM(K:AG)(n:Hy)(t:TGs):TG:=λv A H Q=>∃a b,v=.ref a/\(SqT K H a b \/ SqL K H a b)/\b.length=n/\t b A H Q
def zkB{X:Cx}{es}{k:Hy}{t}{n:Hy}{pos}(g:X.calm=AD)(h:PGs X es t)
  (j:(assignEach es X.env).length=n:=by rfl) (c:(assignEach es X.env).findIdx? (·.1)=none:=by rfl):PG X (.Tuple es k pos) (yeM X.K n t):=by
 intro B s A H v u Q I r #[a,l,m,d,q,w];rcases d with d|d
 .exact zlq g h j c B s A H v u Q I r #[a,l,m,d,q,w]
 .subst m;obtain rfl:u=Al a:=r;let#[f,x,p,_]:=I.list d;rw[assign_Tuple];refine AI (Cz ?_);unfold unpack;rw[c,show (assignEach es X.env).length=f.toArray.size by simp[j,<-q,x.length]];refine AI (Cy (PySem.W.kun_itemsOf (I.ok.hd g) p.isList λy z=>?_));have C:Inv X B A H {s with heap:=y}:=I.kept (t':=s.toks) λb o e=>z b o (Ao (A2 e)) e;exact h B _ A H l _ Q C (by simpa using x) w
def yfJ(i j:Hz):Prop:=0<=j/\j<=1000000/\i.natAbs<2^200
def zhT{a n:Hz}(b:a.natAbs<2^200)(d:n<=1000000):(Cr a:Hz)+n<=2^27:=by
 have f:Cr a<=200:=by
  unfold Cr;split
  .exact BP _
  .rename_i h;have c:a.natAbs≠0:=λz=>h (by simpa using Hz.natAbs_eq_zero.1 z);exact(Hi c).2 b
 lia
section
variable {X:Cx}
def zkc:OpR X (binaryOp .LShift) (rI yfJ λi j=>.int (i*2^j.toNat)):=opI λ_ _ _ _ _ _ _ a q=>lshift_int a.1 (zhT a.2.2 a.2.1) q
end
def CX1(P:A4)(w:Ae):CXT:=λc H s E e d=>∃(a:AK) (f j:AH) (g:Hp) (B:Au),e=.ref a/\d.os=s.os/\DZ d.gens/\HQ B c a f j d.heap/\HOk P w g d.heap/\Un (frs c) [] H g s.heap d.heap /\
 (∀b o,s.heap.get? b=AA o->H b=AF->b∉frs c->B.get? b=AA o)/\(∀b u,g b=AA u->∃o,B.get? b=AA o)/\(∀b o,s.heap.get? b=AA o->b∉frs c->∃l,B.get? b=AA l)/\E f AF g
theorem yN.there{P:A4}{w:Ae}{H:Hp}{h:Au}{a:AK}{o:HO}(x:yN P w H h a o):∃b,h.get? a=AA b:=by
 induction o with
 |lst d=>let#[_,_,_,_,e]:=x;exact#[_,e]
 |tup d=>let#[_,_,_,e]:=x;exact#[_,e]
 |dK c=>let#[_,_,_,_,b,_,_,e,_]:=x;exact#[b,e]
 |dT c=>let#[_,_,_,_,b,_,_,e,_]:=x;exact#[b,e]
 |set S n=>let#[b,_,_,_,e,_]:=x;exact#[b,e]
 |ins C g fs=>let#[_,_,_,e,_]:=x;exact#[_,e]
 |own y=>exact x
 |xd fs=>let#[_,#[b,_,_,e,_],_]:=x;exact#[b,e]
 |rng lo j=>let#[_,_,_,e]:=x;exact#[_,e]
 |frz b u ih=>exact#[b,x.1]
 |tbl l=>exact#[_,x]
 |met f y=>exact#[_,x]
 |ext A=>exact x.2.1
theorem HOk.inB{P:A4}{w:Ae}{H:Hp}{h h' B:Au}(ok:HOk P w H h)(g:B.StaysIn h)(c:B.StaysIn h')(tr:∀b u,H b=AA u->∃o,B.get? b=AA o):HOk P w H h':=λa o e=>
 (ok a o e).stay (λb u j q=>by
  have d:∃o,B.get? b=AA o:=by
   rcases j with z|z
   .rw[z];exact tr a o e
   .exact tr b _ z
  let#[l,f]:=d;have:=g b l f;rw[q]at this
  cases this
  exact c b u f) (λ_ q=>q) λ_ _ q=>q
section
variable {P:A4}{w:Ae}{K:AG}{mg:AT->Option AH}{base:Au}{N:Hx AT}{qual:AT}{scope:BN}{f:AK}{cd:AH}{A:Af}{outer:Hx Env}{s₀:AJ}{H₀:Hp}{E:XK}
 {D:Hx (AK×Be)} {C:St} {H:Hp} {s:AJ}
def zfZ{h' e cls vs}(I:Inv (yaK (CX1 P w) P w K mg base N qual scope f cd A outer s₀ H₀ E) D C H s)(M:Gq s.heap h' e cls vs)(U:E cls AF H):
  (yaK (CX1 P w) P w K mg base N qual scope f cd A outer s₀ H₀ E).xe (.ref e) {s with heap:=h'}:=by
 have g:s.heap.FunFrames base (envOfC qual scope s₀.heap.objs.size f cd::outer):=I.stack;have j:∀b,b∈frs (envOfC qual scope s₀.heap.objs.size f cd::outer)->b=s₀.heap.objs.size \/ b∈frs outer:=λb d=>by have y:b∈s₀.heap.objs.size::frs outer:=d;exact AV.mp y
 have inB:∀b o,s.heap.get? b=AA o->b∉frs (envOfC qual scope s₀.heap.objs.size f cd::outer)->(DC s.heap (frs (envOfC qual scope s₀.heap.objs.size f cd::outer))).get? b=AA o:=λb o q n=>FR _ q n;have O:(DC s.heap (frs (envOfC qual scope s₀.heap.objs.size f cd::outer))).StaysIn s.heap:=λb o q=>F6 _ q;have c:Un (frs outer) [] H₀ H s₀.heap s.heap:=I.base;have lt:∀b o,s₀.heap.get? b=AA o->b≠s₀.heap.objs.size:=λb o q=>Ao (A2 q);have tr:∀b u,H b=AA u->∃o,(DC s.heap (frs (envOfC qual scope s₀.heap.objs.size f cd::outer))).get? b=AA o:=λb u q=>by
  let#[o,X]:=yN.there (I.hok b u q);exact#[o,inB b o X λd=>by
   have:=I.stkFree b d;rw[q]at this
   cases this]
 refine wpAny_leaves_madeW (base:=DC s.heap (frs (envOfC qual scope s₀.heap.objs.size f cd::outer))) (h:=s.heap) I.ok.frames rfl O (PySem.W.funFrames_hide g λB Y a Z=>Dt.mpr #[B,Y,Z]) M λG t fl tu tn up=>?_;have r:s.heap.UpToSlots G:=(HL M.keeps).trans up;refine#[e,cls,_,H,_,rfl,I.os,I.bare,fl,HOk.inB I.hok O fl.1 tr,#[λb o q n d _=>?_,λb o q n d _=>?_,c.free,λb o q _=>?_,c.tups,c.frzs,c.tbls],λb o q n d=>?_,tr,λb o q d=>?_,U]
 .refine fl.1 b o (inB b o (c.keep b o q n d (by simp)) λz=>?_);rcases j b z with z|z
  .exact lt b o q z
  .exact d z
 .let#[sl,l]:=c.slot b o q n d (by simp);let#[_,m,p,J]:=CM g (show b∈DP (λ(z:Env)=>z.frame) _ from AM _ d);let#[x,L]:=r b _ l (by rw[p]at l;cases l;exact J);exact#[x,L]
 .let#[m,l]:=c.there b o q (by simp)
  by_cases d:b∈frs (envOfC qual scope s₀.heap.objs.size f cd::outer)
  .let#[_,o2,p,J]:=CM g d;let#[x,L]:=r b _ p J;exact#[_,L]
  .exact#[m,fl.1 b m (inB b m l d)]
 .refine inB b o (c.keep b o q n d (by simp)) λz=>?_;rcases j b z with z|z
  .exact lt b o q z
  .exact d z
 .let#[m,l]:=c.there b o q (by simp);refine#[m,inB b m l λz=>?_];rcases j b z with z|z
  .exact lt b o q z
  .exact d z
def zoY:yba (CX1 P w) (yaK (CX1 P w) P w K mg base N qual scope f cd A outer s₀ H₀ E) E:=by
 intro D C H s e s' I h;let#[a,y,a0,X,B,rfl,os,p,fl,G,un,hB,tr,hT,hE]:=h;have c:Un (frs outer) [] H₀ H s₀.heap s.heap:=I.base;have lt:∀b o,s₀.heap.get? b=AA o->b≠s₀.heap.objs.size:=λb o q=>Ao (A2 q);have r:∀b,b∈frs (envOfC qual scope s₀.heap.objs.size f cd::outer)->b=s₀.heap.objs.size \/ b∈frs outer:=λb d=>by have J:b∈s₀.heap.objs.size::frs outer:=d;exact AV.mp J
 have g:Un (frs (envOfC qual scope s₀.heap.objs.size f cd::outer)) [] H X s.heap s'.heap:=un;have kB:∀b o,s₀.heap.get? b=AA o->H₀ b=AF->b∉frs outer->B.get? b=AA o:=λb o q n d=>hB b o (c.keep b o q n d (by simp)) (c.free b o q n (by simp)) λz=>by
  rcases r b z with z|z
  .exact lt b o q z
  .exact d z
 have Y:∀b o,s₀.heap.get? b=AA o->b∉frs outer->∃l,B.get? b=AA l:=λb o q d=>by
  let#[l,m]:=c.there b o q (by simp);refine hT b l m λz=>?_;rcases r b z with z|z
  .exact lt b o q z
  .exact d z
 refine wpAny_leaves_onW I.ok.frames rfl fl λh'' j Z=>?_;refine#[a,y,a0,X,B,rfl,os.trans I.os,p,j,HOk.inB G fl.1 j.1 tr,#[λb o q n d _=>j.1 b o (kB b o q n d),λb o q n d _=>?_,λb o q n _=>?_,λb o q _=>?_,λb xs q=>g.tups b xs (c.tups b xs q),λb o u q=>g.frzs b o u (c.frzs b o u q),λb ps q=>?_],kB,tr,Y,hE]
 .let#[sl,m]:=c.slot b o q n d (by simp);have n1:=c.free b o q n (by simp);let#[sl1,x]:=g.slot b _ m n1 (AM _ d) (by simp);let#[_,l,L,M]:=CM fl.2.2.1 (show b∈DP (λ(z:Env)=>z.frame) _ from AM _ d);let#[t,O]:=Z b _ x (by rw[L]at x;cases x;exact M);exact#[t,O]
 .let#[l,m]:=c.there b o q (by simp);exact g.free b l m (c.free b o q n (by simp)) (by simp)
 .let#[l,m]:=c.there b o q (by simp);let#[o2,x]:=g.there b l m (by simp)
  by_cases d:b∈frs outer
  .let#[_,o3,U,M]:=CM fl.2.2.1 (show b∈DP (λ(z:Env)=>z.frame) _ from AM _ d);let#[t,O]:=Z b _ U M;exact#[_,O]
  .let#[o4,q4]:=Y b o q d;exact#[o4,j.1 b o4 q4]
 .let#[m1,e1]:=c.tbls b ps q;let#[m2,e2]:=g.tbls b _ e1;exact#[m1++m2,by rw[e2,Dq]]
end
section
variable {X:Cx}{e:AW}{es:Hx AW}{te:TE}
end
section
variable {X:Cx}{e:AW}{es:Hx AW}{t:TA}{E:XK}
end
structure yfA(K:AG)(C:AK):Prop where
 ga:Ah K (.ref C) "__getattribute__"=AA (AA (.builtin "BaseException.__getattribute__"))
 gh:Ah K (.ref C) "__getattr__"=AA AF
 cl:Ah K (.ref C) "__class__"=AA (AA (.builtin "object.__class__"))
 sb:HD K (.ref C) (.type "BaseException")=AA AD
 mo:HE K C (.type "object")=AA AD
 ct:∃cd,HF K C=AA cd
section
variable {pg:A4}{wd:Ae}{A:Af}{E:AH->AJ->Prop}{h:Au}{g:IP GenState}{d:Drawn}{t:Hy}{os:OsState}{a C:AK}{o:Be}{K:AG}
end
def yfV(a C:AK):Au->Prop:=λh=>∃o,h.get? a=AA o/\o.cls=.ref C
section
variable {X:Cx}
end
section
variable {X:Cx}{B:Hx (AK×Be)}{A:St}{H:Hp}{s:AJ}
end
section
variable {X:Cx}{B:Hx (AK×Be)}{A:St}{H:Hp}{s:AJ}
end
section
variable {X:Cx}{body suite:Hx Bg}{b₀:Bg}{x n:AT}{np hpos pos:Bf}{tb:XK->TS}{ts:TS}{W:AK}{i:Hy}
end
structure yaF(k:Hy)(A:Af):Prop where
 dp:A.depth+3*k+5<recursionLimit
 un:A.units+16*k+200<cLine
theorem yaq.h{k:Hy}{A:Af}(r:yaq k A):yaF k A:=#[r.dp,r.un]
theorem yaF.deeper{k:Hy}{A:Af}(r:yaF (k+1) A)(env:Env):yaF k (A.deeper env):=#[by have:=r.dp;show A.depth+1+3*k+5<_;lia,by have:=r.un;show A.units+3+16*k+200<_;lia]
structure ybH(P:A4)(w:Ae)(K:AG)(mg:AT->Option AH)(base:Au)(k:Hy)(f:AK)(fd:Av)(ps:Hx AT)(sp:Sp):Prop where
 len:∀vs H Q E,sp vs H Q E->vs.length=ps.length
 run:∀(A:Af) (outer:Hx Env) (s:AJ) (H:Hp) (args:Args) (us:Hx AH) (vs:Hx V) (Q:VK),yaF k A->yb0 P w K mg base A outer s H->Ec s fd args (ps.zip us)->Vals vs us->sp vs H Q E0 ->
  codeAny (model P w) A (.call (.ref f) args) (CR CX0 outer P w H s Q E0) s
abbrev ybu(P:A4)(w:Ae)(K:AG)(c:AT->Option AH)(base:Au)(N:Hx AT)(b:AT)(a:BN)(f:AK)(d:AH)(A:Af)(outer:Hx Env)(s:AJ)(H:Hp):Cx:=
 {yaK CX0 P w K c base N b a f d A outer s H E0 with calm:=AC,xe:=No}
theorem Inv.calmless{X:Cx}{C:Hx (AK×Be)}{B:St}{H:Hp}{s:AJ}(I:Inv X C B H s)(A:Af)(E:AH->AJ->Prop)(hf:A.frames=X.A.frames):Inv {X with A:=A,calm:=AC,xe:=E} C B H s:=
 #[#[I.ok.mod,I.ok.kind,I.ok.glob,I.ok.blt,I.ok.above,I.ok.inj,I.ok.has,I.ok.cab,(λz=>nomatch z),hf.trans I.ok.frames,I.ok.stk,I.ok.exf,I.ok.bs,I.ok.bsz,I.ok.noex,I.ok.exfs,I.ok.funs,I.ok.frf],I.os,I.bare,I.base,I.loc,I.cell,I.free,I.freeC,I.pin,I.hok,I.len]
section
variable {P:A4}{w:Ae}{K:AG}{mg:AT->Option AH}{base:Au}
theorem Fun.okH{x a:AT}{st:Bg}{f:AK}{fd:Av}{N ps:Hx AT}{k:Hy}{sp:Sp}(F:Fun K x a st f fd)(S:yaC N ps (yj st))(len:∀vs H Q E,sp vs H Q E->vs.length=ps.length)
  (g:∀(cdv:AH) (A:Af) (outer:Hx Env) (s:AJ) (H:Hp) (vs:Hx V) (Q:VK),yaF k (A.deeper (envOfC a (yj st) s.heap.objs.size f cdv))->sp vs H Q E0 ->
   ∃t,PSs (ybu P w K mg base N a (yj st) f cdv A outer s H) (yP st) t/\t {nx:=λ_ d=>Q .non d,rt:=Q} (start N vs) H):ybH P w K mg base (k+1) f fd ps sp:=by
 let#[oc,od,kV,doc,pm,an,cdv,ct,Z,rfl,lk,C]:=F.ex;refine#[len,λA outer s H U us vs Q X c hb r l=>?_];have hl:=len _ _ _ _ l;have Y:K.In s.heap:=c.mod.kin.keeps λb o e=>(c.bs b o e).1;have D:s.heap.NoLimit:=c.mod.nolimit.keeps λb o e=>(c.bs b o e).1;have j:∀y∈ps.zip us,(yj st).names.lookup y.1=AA .local \/ ((yj st).names.lookup y.1=AA .cell/\((cellsFrom (s.heap.objs.size+1) (yj st).names []).lookup y.1).isSome=AD):=λ#[n,v] hy=>by
  rcases S.par n (D8 hy).1 with q|q
  .exact .inl q
  .exact .inr #[q,DM _ _ _ (.inl q)]
 refine Eu (by have:=X.dp;lia) (Y _ _ lk) rfl S.co S.gen rfl (F8 Y C) (hb _ _ _ _ ?_);refine Dx S.kind j λenv he G x=>?_;subst he;refine#[D.keeps x.toInCall.keep,codeAny_func ?_];let#[t,ht,hq]:=g cdv A outer s H vs Q (X.deeper _) l;have L:yb0 P w K mg base {A with handled:=AF} outer s H:=#[c.frames,c.mod,c.bs,c.bsz,c.funs,c.frf,c.hok,c.bare];have I0:Inv (yaK CX0 P w K mg base N a (yj st) f cdv {A with handled:=AF} outer s H E0) [] (start N vs) H G:=zdS S rfl L hl r x;have I:Inv (ybu P w K mg base N a (yj st) f cdv A outer s H) [] (start N vs) H G:=I0.calmless (A.deeper (envOfC a (yj st) s.heap.objs.size f cdv)) No rfl;refine CG (ht [] G (start N vs) H _ I hq) (λfl M p=>?_) λe M z=>z.elim;have m:∀{B:St} {d:Hp} {v:V} {u:AH},Inv (ybu P w K mg base N a (yj st) f cdv A outer s H) [] B d M->RelV v u->Q v d->CE outer P w H s Q u M:=
  λ{B d v u} J O q=>#[v,d,J.os,J.bare,J.base,J.hok,O,q]
 cases fl with
 |ret u=>
  let#[v,B,d,J,O,q]:=p;exact m J O q
 |next=>
  let#[B,d,J,q]:=p;exact m (v:=V.non) (u:=Br) J rfl q
 |brk=>
  let#[_,_,_,q]:=p;exact BY q
 |cont=>
  let#[_,_,_,q]:=p;exact BY q
end
section
variable {X:Cx}{k:Hy}{f:AK}{fd:Av}{ps:Hx AT}{sp:Sp}{x:AT}{p pos:Bf}{e:AW}{es:Hx AW}{t:TA}
end
section
variable {P:A4}{w:Ae}{K:AG}{mg:AT->Option AH}{base:Au}
theorem own1{N b a f c A outer s H E CX}:
  EX (model (yaK CX P w K mg base N b a f c A outer s H E).prog (yaK CX P w K mg base N b a f c A outer s H E).w) (yaK CX P w K mg base N b a f c A outer s H E).A (yaK CX P w K mg base N b a f c A outer s H E).env (yaK CX P w K mg base N b a f c A outer s H E).xe:=
 PassesOwn.leaving
def yd5(p:ClassData->IB):Data->IB
 |.cls c=>p c
 |_=>AC
abbrev yeH(a:IU)(s:Hx (Option AH))(k:Hy->Option AH):IB:=s == [k 0,k 1,k 2,k 3,AA (.builtin a),k 5]
def ycD(K:AG)(C:AK)(b:Hx AH)(a:IU):IB:=(K.lookup C).any λo=>o.cls==.type "type" && yeH a o.slots.toList (λi=>o.slots.toList.getD i AF)&&yd5 (λc=>c.mro==.ref C::c.mro.tail&&c.hasDel==AC&&PySem.W.tailIn K b c.mro.tail&&PySem.W.nsOkIn K c.ns&&BD K c.ns "__init__" == AA AF) o.data
end
section
variable {X:Cx}
end
section
variable {R:Type}[IX R]
def ya2(a:Hx (R×V))(k:R):Option V:=(a.find? λb=>decide (b.1=k)).map (·.2)
def putK(a:Hx (R×V))(k:R)(v:V):Hx (R×V):=
 if (a.any λb=>decide (b.1=k))=AD then a.map (λb=>if b.1=k then(b.1,v)else b)else a++[(k,v)]
def ydt(a:Hx (R×V))(k:R):Hx (R×V):=a.filter λb=>decide (b.1≠k)
def zaP{p:R×V}{r:Hx (R×V)}{k:R}(e:p.1=k):ya2 (p::r) k=AA p.2:=by simp[ya2,Bu,e]
def zaS{p:R×V}{r:Hx (R×V)}{k:R}(e:¬p.1=k):ya2 (p::r) k=ya2 r k:=by simp[ya2,Bu,e]
def zfh(k:R):∀a:Hx (R×V),(a.any λb=>decide (b.1=k))=(ya2 a k).isSome
 |[]=>rfl
 |p::r=>by
  rw[By]
  by_cases e:p.1=k
  .simp only[zaP e,IQ e,HR,Option.isSome_some]
  .rw[zaS e,IJ e,HG];exact zfh k r
def zb7(a:Hx (R×V))(k:R)(v:V):(putK a k v).length<=a.length+1:=by
 unfold putK;split
 .rw[Aj];lia
 .rw[A8,AQ,Ap];lia
theorem ybk.isSome_eq{o:Option V}{u:Option AH}(r:ybk o u):o.isSome=u.isSome:=by
 cases o with
 |none=>cases u with
  |none=>rfl
  |some _=>exact(show IK from r).elim
 |some _=>cases u with
  |none=>exact(show IK from r).elim
  |some _=>rfl
theorem ybk.getD{o:Option V}{u:Option AH}{d:V}{d':AH}(r:ybk o u)(rd:RelV d d'):RelV (o.getD d) (u.getD d'):=by
 cases o with
 |none=>cases u with
  |none=>exact rd
  |some _=>exact(show IK from r).elim
 |some _=>cases u with
  |none=>exact(show IK from r).elim
  |some _=>exact r
theorem KV.val{a:Hx (R×V)}{vs:Hx (R×AH)}(r:KV a vs)(k:R):ybk (ya2 a k) (valueAt vs k):=by
 unfold KV at r
 induction r with
 |nil=>exact C7
 |@cons p q j c h t ih=>
  let#[f,g]:=h
  by_cases e:p.1=k
  .have d:q.1=k:=f.symm.trans e;have b:valueAt (q::c) k=AA q.2:=by simp[valueAt,Bu,d]
   rw[zaP e,b];exact g
  .have d:¬q.1=k:=λz=>e (f.trans z);have b:valueAt (q::c) k=valueAt c k:=by simp[valueAt,Bu,d]
   rw[zaS e,b];exact ih
theorem KV.any{a:Hx (R×V)}{vs:Hx (R×AH)}(r:KV a vs)(k:R):(a.any λb=>decide (b.1=k))=vs.any λb=>decide (b.1=k):=by
 unfold KV at r
 induction r with
 |nil=>rfl
 |cons h t ih=>rw[By,By,ih,h.1]
theorem KV.repl{b:Hx (R×V)}{vs:Hx (R×AH)}(r:KV b vs)(k:R){y:V}{u:AH}(d:RelV y u):
  KV (b.map λa=>if a.1=k then(a.1,y)else a) (vs.map λa=>if a.1=k then(a.1,u)else a):=by
 unfold KV at r ⊢
 induction r with
 |nil=>exact .nil
 |@cons p q g j h t ih=>
  rw[AN,AN];refine .cons ?_ ih;let#[c,f]:=h
  by_cases e:p.1=k
  .rw[ID e,ID (c.symm.trans e)];exact#[c,d]
  .rw[IE e,IE (λz=>e (c.trans z))];exact#[c,f]
theorem KV.put{a:Hx (R×V)}{vs:Hx (R×AH)}(r:KV a vs)(k:R){y:V}{u:AH}(b:RelV y u):KV (putK a k y) (stored vs k u):=by
 unfold putK stored;rw[r.any k]
 by_cases e:(vs.any λc=>decide (c.1=k))=AD
 .rw[ID e,ID e];exact r.repl k b
 .rw[IE e,IE e];exact Hj r #[rfl,b]
theorem KV.length{a:Hx (R×V)}{vs:Hx (R×AH)}(r:KV a vs):a.length=vs.length:=EQ r
end
def zk2{P w k u}(r:RelV (kV k) u):(yV P w).is k u=true:=by
 cases k with
 |inl i=>let#[t,e]:=(show ∃t,u=EU i t from r);subst e;exact zed P w i t
 |inr x=>let#[t,e]:=(show ∃t,u=GI x t from r);subst e;exact zd7 P w x t
abbrev KT(H:Hp):Hx (Hx NK×V)->Hx (Hx NK×AK×AH)->Prop:=Gh λp q=>p.1=q.1/\KyR H p.1 q.2.1/\RelV p.2 q.2.2
theorem KT.val{H:Hp}{a:Hx (Hx NK×V)}{xs:Hx (Hx NK×AK×AH)}(r:KT H a xs)(k:Hx NK):ybk (ya2 a k) ((atKey xs k).map (·.2)):=by
 induction r with
 |nil=>exact C7
 |@cons p q j c h t ih=>
  let#[f,_,g]:=h
  by_cases e:p.1=k
  .have d:q.1=k:=f.symm.trans e;have b:atKey (q::c) k=AA q.2:=by simp[atKey,Bu,d]
   rw[zaP e,b];exact g
  .have d:¬q.1=k:=λz=>e (f.trans z);have b:atKey (q::c) k=atKey c k:=by simp[atKey,Bu,d]
   rw[zaS e,b];exact ih
theorem KT.repl{H:Hp}{a:Hx (Hx NK×V)}{xs:Hx (Hx NK×AK×AH)}(r:KT H a xs)(k:Hx NK){y:V}{u:AH}(f:RelV y u):
  KT H (a.map λc=>if c.1=k then(c.1,y)else c) (xs.map (putAt k u)):=by
 induction r with
 |nil=>exact .nil
 |@cons p q j l h t ih=>
  rw[AN,AN];refine .cons ?_ ih;let#[b,d,g]:=h;unfold putAt
  by_cases e:p.1=k
  .rw[ID e,ID (b.symm.trans e)];exact#[b,d,f]
  .rw[IE e,IE (λz=>e (b.trans z))];exact#[b,d,g]
theorem KT.put{H:Hp}{a:Hx (Hx NK×V)}{xs:Hx (Hx NK×AK×AH)}(r:KT H a xs)(k:Hx NK){b:AK}{y:V}{u:AH}(d:KyR H k b)(c:RelV y u):
  KT H (putK a k y) (storedH xs k b u):=by
 have e:(a.any λf=>decide (f.1=k))=(atKey xs k).isSome:=by rw[zfh,(r.val k).isSome_eq,Option.isSome_map]
 unfold putK storedH;rw[e]
 by_cases q:(atKey xs k).isSome=AD
 .rw[ID q,ID q];exact r.repl k c
 .rw[IE q,IE q];exact Hj r #[rfl,d,c]
theorem KT.keeps{H c:Hp}{a:Hx (Hx NK×V)}{xs:Hx (Hx NK×AK×AH)}(r:KT H a xs)(f:∀b d,H b=AA (.tup d)->c b=AA (.tup d)):KT c a xs:=
 Paired.mapP r λ_ _ z=>#[z.1,z.2.1.stay f,z.2.2]
section
variable {P:A4}{w:Ae}{H:Hp}{h:Au}{a:AK}
def zls{u}(ok:HOk P w H h)(e:Rd H a u):yN P w H h a u:=e.ok ok
def zjX{b}(ok:HOk P w H h)(e:Rd H a (.dK b)):b.length<=sizeLine/\(a==sysModules)=AC/\∃c,KV b c/\h.DictOf (yV P w) a c:=
 show yN P w H h a (.dK b)from zls ok e
def znE{b}(ok:HOk P w H h)(e:H a=AA (.dK b)):b.length<=sizeLine/\(a==sysModules)=AC/\∃c,KV b c/\h.DictOf (yV P w) a c:=zjX ok (.inl e)
mutual
theorem zmn(ok:HOk P w H h):∀k(v:V)(u:AH),NKr H k v->RelV v u->NI h k u
 |.a k,v,u,x,r=>by cases (show v=kV k from x);exact zk2 (P:=P) (w:=w) r
 |.t l,v,u,x,r=>by
  let#[b,d,rfl,g,f]:=x
  cases (show u=Al b from r)
  let#[_,c,j,m]:=(show yN P w H h b (.tup d)from ok b _ g);exact#[b,c,rfl,m,zi6 ok l d c f j]
theorem zi6(ok:HOk P w H h):∀l(xs:Hx V)(us:Hx AH),NKs H l xs->Vals xs us->NIs h l us
 |[],xs,us,x,r=>by cases (show xs=[]from x);cases r;rfl
 |k::l,xs,us,x,r=>by
  let#[y,a,rfl,b,c]:=x
  cases r with
  |cons r t=>exact#[_,_,rfl,zmn ok k y _ b r,zi6 ok l a _ c t]
end
def zhy{b}(ok:HOk P w H h)(e:KyR H b a):(ya0 P w).is h b a:=#[zmn ok _ _ _ e.1 rfl,e.2]
def zk6{b}(ok:HOk P w H h)(e:Rd H a (.dT b)):b.length<=sizeLine/\(a==sysModules)=AC /\
  ∃d,KT H b d/\h.DictOfH (ya0 P w) a d:=by
 let#[z,y,d,r,o,g,j,n,u,A,B,C]:=(show yN P w H h a (.dT b)from zls ok e);refine#[z,y,d,r,o,g,j,n,u,A,B,λx c=>?_,C];have all:∀{l:Hx (Hx NK×V)} {m:Hx (Hx NK×AK×AH)},KT H l m->∀x∈m,(ya0 P w).is h x.1 x.2.1:=by
  intro l m q
  induction q with
  |nil=>intro x c;exact nomatch c
  |@cons p q D E f t ih=>
   intro x c;rcases AV.mp c with e|c
   .subst e;exact zhy ok (by rw[<-f.1];exact f.2.1)
   .exact ih x c
 exact all r x c
def znN{b}(ok:HOk P w H h)(e:H a=AA (.dT b)):b.length<=sizeLine/\(a==sysModules)=AC /\
  ∃c,KT H b c/\h.DictOfH (ya0 P w) a c:=zk6 ok (.inl e)
end
def yfF(H:Hp)(a:AK)(y:V)(r:Option V):Prop:=
 (∃c k,Rd H a (.dK c)/\y=kV k/\r=ya2 c k) \/ ∃c k b,Rd H a (.dT c)/\y=.ref b/\KyR H k b/\r=ya2 c k
def yfP(H:Hp)(a:AK)(y v:V)(d:Hp):Prop:=
 (∃c k,H a=AA (.dK c)/\y=kV k/\c.length<sizeLine/\d=upd H a (.dK (putK c k v))) \/
 ∃c k b,H a=AA (.dT c)/\y=.ref b/\KyR H k b/\c.length<sizeLine/\d=upd H a (.dT (putK c k v))
section
variable {X:Cx}{C:Hx (AK×Be)}{B:St}{H:Hp}{s:AJ}{a:AK}{y v:V}{u r:AH}{o:Option V}{A:Af}{E:AH->AJ->Prop}
theorem Inv.big(I:Inv X C B H s):sysModules<s.heap.objs.size:=by have h:mainGlobals<s.heap.objs.size:=(I.mod.glob.keeps I.bk).lt;exact HS ⋯ h
def zhr{h'}{t':Hy}{c}(I:Inv X C B H s)(f:Mut (H a))(g:C6 a s.heap h')(j:∃q,h'.get? a=AA q)(d:yN X.prog X.w (upd H a c) h' a c):
  Inv X C B (upd H a c) {s with heap:=h',toks:=t'}:=
 I.write (x:=a) (e:=a) f (.inl rfl) (λb q l z=>(g.2 b l).trans z) j d
def zmv{P w c}{h':Au}{b:Hx (Key×V)}{vs}(z:b.length<=sizeLine)(d:(a==sysModules)=AC)(rel:KV b vs)(f:h'.DictOf (yV P w) a vs):
  yN P w c h' a (.dK b):=#[z,d,vs,rel,f]
def zgj{D}{Q:IZ->AJ->Prop}(hu:A.units+16<cLine)(I:Inv X C B H s)(g:yfP H a y v D)(G:RelV y u)(J:RelV v r)(h:∀L,Inv X C B D L->Q IZ.unit L):
  A6 (model X.prog X.w) A (setItem (.ref a) u r) Q E s:=by
 rcases g with⟨d,k,e,m,l,n⟩|⟨d,k,b,e,m,M,l,n⟩
 .subst m n;let#[z,o,U,rel,p]:=znE I.hok e;have t:U.length<=sizeLine:=by rw[<-rel.length];exact z
  have w:(putK d k v).length<=sizeLine:=by have:=zb7 d k v;lia
  refine wpAny_setItem_pairs (hsz:=t) (zk2 G) p λN f x=>h _ ?_;have Y:∃q,N.get? a=AA q:=let #[q,_,_,j,_]:=f;#[q,j]
  exact zhr I (by rw[e];exact C7) x Y (zmv w o (rel.put k J) f)
 .subst m n
  cases (show u=Al b from G)
  let#[z,o,Z,rel,p]:=znN I.hok e;have t:Z.length<=sizeLine:=by rw[<-EQ rel];exact z
  have w:(putK d k v).length<=sizeLine:=by have:=zb7 d k v;lia
  refine wpAny_setItem_heap (hsz:=t) ((show A.in1.units+8<cLine by erw[EW];lia)) (zhy I.hok M) p λN f x=>h _ ?_;let#[q,es,ep,j,h2,h3,h4,_,h5]:=f;refine zhr I (by rw[e];exact C7) x #[q,j] #[w,o,_,(rel.put k M J).keeps λc ys O=>?_,q,es,ep,j,h2,h3,h4,h5];rw[zk (zn2 O e (λz=>nomatch z))];exact O
end
section
variable {X:Cx}{C:Hx (AK×Be)}{B:St}{H:Hp}{s:AJ}{a:AK}{kvs:Hx (Key×V)}{k:Key}{u:AH}{A:Af}{E:AH->AJ->Prop}
end
def ycO(i:AW):Prop:=∀a b,subscripted i AC a b=operate [a,b] (getItem a b)
def zfR{prog w A E s env b a pos T id Q}
  (p:typeLookup (.type T) "__getitem__"=pure (AA (.builtin id))) (q:ycO a)
  (h:A6 (model prog w) A (eval b env) (λo f=>A6 (model prog w) A (eval a env) (λi c=>c.TypeIs o T/\A6 (model prog w) A (getItem o i) Q E c) E f) E s):
  A6 (model prog w) A (eval (.Subscript b a pos) env) Q E s:=by
 refine Gn (CG h (λo f l=>CG l (λi c d=>?_) λ_ _ x=>x) λ_ _ x=>x);let#[n,d]:=d;unfold subscriptTail;refine AI ?_;rw[getitemInPython_of_ne n.not_modules];refine AI (G7 n p ?_);have j:A6 (model prog w) A (subscripted a AC o i) (λr g=>A6 (model prog w) A (letTemporaryGo b o r >>= λ_=>pure r) Q E g) E c:=by rw[q o i];exact wpAny_operating (CG d (λr g m=>AI (wpAny_letTemporaryGo (AX m))) λ_ _ x=>x)
 first
  |exact AX (AI j)
  |exact AI (AX (AI j))
  |exact AI j
def yd2(c d f:TE):TS:=λD A H=>f A H λv g=>c A g λx j=>d A j λy l=>∃a b,x=.ref a/\yfP l a y v b/\D.nx A b
section
variable {X:Cx}{o i e value:AW}{pos pos' tpos:Bf}{td ty tv:TE}
def zk3(b:X.A.units+16<cLine)(c:PE X o td)(hi:PE X i ty)(d:PE X value tv)(f:swapsWith value (AA (.Subscript o i pos')) pos.line X.env=pure AC):
  PS X (.Assign [.Subscript o i pos'] value pos) (yd2 td ty tv):=by intro C s B H D I h;refine wpAny_Assign_Subscript (thn (d C s B H _ I h) λr j kq=>?_) f;let#[v,l,m,n,p]:=kq;refine thn (c C j B l _ m p) λu q kq=>?_;let#[x,t,w,z,A]:=kq;refine thn (hi C q B t _ w A) λN O kq=>?_;let#[y,U,E,G,a,J,ex,g,L]:=kq;subst ex;obtain rfl:u=Al a:=z;exact zgj b E g G n λY M=>#[B,J,M,L]
end
def ziJ{P w H}(h:Au)(a:sysModules<h.objs.size):yN P w H (h.push {cls:=.type "dict",data:=.dict (Hx.toArray [])}) h.objs.size (.dK []):=
 #[BP _,IH.mpr (BI (Ao a)),[],.nil,Heap.DictOf.new h]
def zh0{P w H}(h:Au)(a:sysModules<h.objs.size):yN P w H (h.push {cls:=.type "dict",data:=.dict (Hx.toArray [])}) h.objs.size (.dT []):=
 #[BP _,IH.mpr (BI (Ao a)),[],.nil,_,(Hx.toArray []),0,A5 _ rfl,#[rfl,rfl,rfl],rfl,rfl,Hx.nodup_nil]
def yc2:TE:=λ_ H Q=>∀p,H p=AF->Q (.ref p) (upd H p (.dK []))
def ydy:TE:=λ_ H Q=>∀p,H p=AF->Q (.ref p) (upd H p (.dT []))
section
variable {X:Cx}{pos:Bf}
def zoZ:PE X (.Dict [] [] pos) yc2:=λB s A H Q I h=>
 GS #[.ref s.heap.objs.size,_,I.laid (a:=s.heap.objs.size) (o:=.dK []) (t':=s.toks) (λ_ _ q=>AU _ q) (AS _) (ziJ s.heap I.big),rfl,h _ (I.hok.fresh (AS _))]
def zo0:PE X (.Dict [] [] pos) ydy:=λB s A H Q I h=>
 GS #[.ref s.heap.objs.size,_,I.laid (a:=s.heap.objs.size) (o:=.dT []) (t':=s.toks) (λ_ _ q=>AU _ q) (AS _) (zh0 s.heap I.big),rfl,h _ (I.hok.fresh (AS _))]
end
structure M2(X:Cx)(o:AW)(m:AT)(apos:Bf)(e f:AW)(cpos:Bf):Prop where
 base:attributeBase o m X.env (eval o X.env)=eval o X.env
 few:((backTo cpos (starEach [e,f] X.env)).all (λx=>!x.1)&&(backToKw cpos (keywordEach [] X.env)).all (λx=>x.1.isSome)
  && decide (([e,f]:Hx AW).length+([]:Hx Bo).length+(if ([]:Hx Bo).isEmpty then 0 else 1)<30))=AD
 line:(apos.endLine==cpos.line)=AD
 trees:backTo cpos (starEach [e,f] X.env)=[(AC,eval e X.env),(AC,eval f X.env)]
def IsD(H:Hp)(a:AK):Prop:=(∃b,Rd H a (.dK b)) \/ ∃b,Rd H a (.dT b)
def znr{X B A H s a}(I:Inv X B A H s)(d:IsD H a):
  s.TypeIs (.ref a) "dict"/\(∀b,Al a=.ref b->∃c,s.heap.get? b=AA c/\c.dict=AF)/\(a==sysModules)=false:=by
 rcases d with⟨g,e⟩|⟨g,e⟩
 .let#[_,j,n,_,f]:=zjX I.hok e;refine#[f.typeIs,λb q=>?_,j]
  cases q
  let#[c,_,_,l,m,_]:=f;exact#[c,l,m.2.1]
 .let#[_,j,o,_,f]:=zk6 I.hok e;refine#[f.typeIs,λb q=>?_,j]
  cases q
  let#[c,_,_,l,m,_]:=f;exact#[c,l,m.2.1]
section
variable {X:Cx}{C:Hx (AK×Be)}{B:St}{H:Hp}{s:AJ}{a:AK}{y d:V}{u r:AH}{o:Option V}{A:Af}{E:AH->AJ->Prop}
def zl7{Q:AH->AJ->Prop}(x:A.units+16<cLine)(I:Inv X C B H s)(g:yfF H a y o)(n:RelV y u)(rd:RelV d r)(h:∀p q,Inv X C B H q->RelV (o.getD d) p->Q p q):
  A6 (model X.prog X.w) A (call (.builtin "dict.get") [.ref a,u,r]) Q E s:=by
 rcases g with⟨f,k,e,j,l⟩|⟨f,k,b,e,j,t,l⟩
 .subst j;let#[z,m,D,rel,c]:=zjX I.hok e;refine call_meetsIn DS c.typeIs Ek (E2 _ _ _) (meets_dict_get_default (yV X.prog X.w) a (zk2 n) m r) #[_,c.mapOf,h _ _ (I.tok _) ?_];rw[l];exact(rel.val k).getD rd
 .subst j
  cases (show u=Al b from n)
  let#[z,m,w,rel,c]:=zk6 I.hok e;refine call_meetsIn DS c.typeIs Ek (E2 _ _ _) (meetsH_dict_get_default (ya0 X.prog X.w) a b m r) #[(show A.in1.units+8<cLine by erw[EW];lia),k,w,zhy I.hok t,c,h _ _ (I.tok _) ?_];rw[l];exact(rel.val k).getD rd
end
def ydc(d f g:TE):TE:=λA H Q=>d A H λx b=>∃a,x=.ref a/\IsD b a/\f A b λy j=>g A j λz c=>∃o,yfF c a y o/\Q (o.getD z) c
section
variable {X:Cx}{o e f:AW}{apos cpos:Bf}{td ty tx:TE}
def ziM(j:X.A.units+16<cLine)(l:PE X o td)(n:PE X e ty)(hf:PE X f tx)(m:M2 X o "get" apos e f cpos):PE X (.Call (.Attribute o "get" apos) [e,f] [] cpos) (ydc td ty tx):=by
 intro C s B H Q I h;refine wpAny_Call_method m.base m.few m.line PySem.F.plainAttrs_dict DS PySem.F.type_dict_get (thn (l C s B H _ I h) λu p kq=>?_);let#[x,q,c,r,a,ex,d,t]:=kq;subst ex;obtain rfl:u=Al a:=r;let#[w,A,_]:=znr c d;refine#[w,A,?_];rw[m.trees];refine Ei rfl (FH (Dw (thn (n C p B q _ c t) λZ D #[y,E,G,J,L]=>
  Dw (thn (hf C D B E _ G L) λfv s3 #[z,M,N,O,ov,g,U]=>Fk ?_))))
 exact zl7 j N g J O λw' s4 Y b=>#[_,M,Y,b,U]
end
section
variable {X:Cx}{C:Hx (AK×Be)}{B:St}{H:Hp}{s:AJ}{a:AK}{kvs:Hx (Key×V)}{A:Af}{E:AH->AJ->Prop}
end
section
variable {X:Cx}{C:Hx (AK×Be)}{B:St}{H:Hp}{s:AJ}{a:AK}{y:V}{u:AH}{A:Af}{E:AH->AJ->Prop}
end
end L2
namespace PySem.W
open PySem PySem.Calls PyProof.Rows
def ltS(a b:AT):IB:=decide (a.cps.toList<b.cps.toList)
end PySem.W
namespace IC
open PySem
inductive PV where
 |non|bl (b:IB)|int (i:Hz)|str (x:AT)|tp (k:IB) (xs:Hx PV)|lst (xs:Hx PV)|loc (n:Hy)|exn (c:Hy)|scr (xs:Hx PV)|fnc (j:Hy)
deriving Inhabited
abbrev PV.tup(xs:Hx PV):PV:=.tp AC xs
mutual
noncomputable def nL:PV->IB
 |.loc _=>AC
 |.exn _=>AC
 |.fnc _=>AD
 |.tp _ a=>nLs a
 |.lst a=>nLs a
 |.scr a=>nLs a
 |_=>AD
noncomputable def nLs:Hx PV->IB
 |[]=>AD
 |x::a=>nL x&&nLs a
end
mutual
noncomputable def shd(n:Hy):PV->IB
 |.non=>AD
 |.bl _=>AD
 |.int _=>AD
 |.str x=>x.cps.all (· < 0x110000)
 |.tp _ a=>decide (0<n)&&ybA (n-1) a
 |.lst a=>decide (0<n)&&ybA (n-1) a
 |_=>AC
noncomputable def ybA(n:Hy):Hx PV->IB
 |[]=>AD
 |x::a=>shd n x&&ybA n a
end
abbrev shp(v:PV):IB:=shd 60 v
def flat:PV->IB
 |.non=>AD
 |.bl _=>AD
 |.int _=>AD
 |.str _=>AD
 |_=>AC
def bi(b:IB):Hz:=if b then 1 else 0
mutual
noncomputable def peq:PV->PV->IB
 |.non,.non=>AD
 |.bl a,.bl b=>a==b
 |.bl a,.int j=>bi a==j
 |.int i,.bl b=>i==bi b
 |.int i,.int j=>i==j
 |.str x,.str y=>x==y
 |.tp _ c,.tp _ d=>ybV c d
 |.lst c,.lst d=>ybV c d
 |_,_=>AC
noncomputable def ybV:Hx PV->Hx PV->IB
 |[],[]=>AD
 |x::a,y::b=>peq x y&&ybV a b
 |_,_=>AC
end
inductive Ob where
 |lst (xs:Hx PV)|dct (t:IB) (kvs:Hx (PV×PV))|dead|ins (c:Hy) (fs:Hx (AT×PV))
abbrev Env:=Hx (Option PV)
abbrev SO:=Hx Ob
inductive R(A:Type) where
 |ok (a:A) (st:SO)|exc (c:Hy) (st:SO)|bad
def R.bind{A B:Type}(r:R A)(k:A->SO->R B):R B:=
 match r with
 |.ok a st=>k a st
 |.exc c st=>.exc c st
 |.bad=>.bad
inductive BOp where
 |add|sub|mul|fdiv|mod|pow|shl|shr|band|bor|bxor
inductive COp where
 |eq|ne|lt|le|gt|ge|is|isnot|isin|notin
inductive Ty where
 |int|bool|str|tuple|list|cls (c:Hy)|val
inductive Blt where
 |maxt|len|int|abs|min|max|tuple|list|all|sum|dict|rev|str|any
inductive Mth where
 |rmp|append|extend|get|bits|upper|insert|count|index|join|split|sidx|clear
inductive Tg where
 |n (i:Hy)|t (l:Hx Hy)
set_option genInjectivity false
mutual
inductive Ce where
 |cst (v:PV)
 |var (i:Hy)
 |bin (o:BOp) (a b:Ce)
 |neg (a:Ce)
 |not (a:Ce)
 |and (a b:Ce)
 |or (a b:Ce)
 |cmp (o:COp) (a b:Ce)
 |chain (o p:COp) (a b c:Ce)
 |ite (c a b:Ce)
 |tup (es:Ces)
 |lst (es:Ces)
 |newl (es:Ces)
 |dict0 (t:IB)
 |idx (a i:Ce)
 |slc (a:Ce) (lo hi:Ce)
 |call (f:Hy) (args:Ces)
 |blt (b:Blt) (args:Ces)
 |mth (m:Mth) (o:Ce) (args:Ces)
 |isi (a:Ce) (t:Hx Ty)
 |comp (sl:Hx (Option Hy)) (tg:Tg) (it:Cit) (c:Ce) (e:Ce)
 |frz (a:Ce)
 |nope
 |dix (D:Hx (AT×PV)) (a:Ce)
 |din (a:Ce) (D:Hx (AT×PV))
 |fld (c:Hy) (a:Ce) (f:AT)
 |new (c i:Hy) (es:Ces)
 |mcl (c i:Hy) (m:AT) (o:Ce) (es:Ces)
inductive Ces where
 |nil
 |cons (e:Ce) (es:Ces)
inductive Cit where
 |seq (e:Ce)
 |range1 (a:Ce)
 |range2 (a b:Ce)
 |rangeD (a b:Ce)
 |enum (e:Ce)
 |zip (a b:Ce)
 |zipl (a b:Ce)
 |revl (e:Ce)
 |revr (a:Ce)
 |chars (e:Ce)
end
set_option genInjectivity true
abbrev Ce.i(n:Hz):Ce:=.cst (.int n)
abbrev Ce.s(x:AT):Ce:=.cst (.str x)
abbrev Ce.v:=Ce.var
abbrev Ces.k:=Ces.cons
abbrev Ces.e:=Ces.nil
mutual
inductive Cs where
 |expr (e:Ce)
 |asg (t:Tg) (e:Ce)
 |six (o i e:Ce)
 |dput (o i e:Ce)
 |aug (i:Hy) (o:BOp) (e:Ce)
 |ret (e:Ce)
 |ite (c:Ce) (a b:Css)
 |for (t:Tg) (it:Cit) (b:Css)
 |while (c:Ce) (b:Css)
 |nope
 |sfl (c:Hy) (o:Ce) (f:AT) (e:Ce)
 |mkr (i:Hy) (D:Hx (AT×Hy)) (n:Ce) (es:Ces)
inductive Css where
 |nil
 |cons (s:Cs) (ss:Css)
end
abbrev Css.k:=Css.cons
abbrev Css.e:=Css.nil
def yap(i j:Hz):IB:=(decide (i.natAbs<18446744073709551616)) || (decide (j.natAbs<18446744073709551616))
def binI(o:BOp)(i j:Hz):Option PV:=
 match o with
 |.add=>AA (.int (i+j))
 |.sub=>AA (.int (i-j))
 |.mul=>if yap i j then AA (.int (i*j))else AF
 |.fdiv=>if 0<j/\j<10000000000000000000000000000000000000000000000000000000000000000000000 then AA (.int (i/j))else AF
 |.mod=>if 0<j then AA (.int (i%j))else AF
 |.pow=>if 0<=j/\j<=1000000/\i.natAbs<18446744073709551616 then AA (.int (i^j.toNat))else AF
 |.shl=>if 0<=j/\j<=1000000/\i.natAbs<1606938044258990275541962092341162602522202993782792835301376 then AA (.int (i*2^j.toNat))else AF
 |.shr=>if 0<=j then AA (.int (i/2^j.toNat))else AF
 |.band=>AA (.int (Bk i j))
 |.bor=>AA (.int (FY i j))
 |.bxor=>AA (.int (FG i j))
def sizeMax:Hy:=16777216
def yfk(k:IB)(a:Hx PV)(j:IB)(b:Hx PV):PV:=if a.isEmpty then .tp j b else if b.isEmpty then .tp k a else .tup (a++b)
def yw(o:BOp)(x y:PV):Option PV:=
 match x,y with
 |.int i,.int j=>binI o i j
 |.int i,.bl b=>match o with
  |.add=>AA (.int (i+bi b))
  |_=>AF
 |.str a,.str b=>match o with
  |.add=>if a.length+b.length<=sizeMax then AA (.str (a++b))else AF
  |_=>AF
 |.tp k a,.tp j b=>match o with
  |.add=>if a.length+b.length<=sizeMax then AA (yfk k a j b)else AF
  |_=>AF
 |.lst a,.lst b=>match o with
  |.add=>if a.length+b.length<=sizeMax then AA (.lst (a++b))else AF
  |_=>AF
 |_,_=>AF
def ybb(o:BOp)(x y:PV):Option PV:=
 match x,y with
 |.int i,.int j=>binI o i j
 |_,_=>AF
def isNon:PV->IB
 |.non=>AD
 |_=>AC
def inL(x:PV):Hx PV->IB
 |[]=>AC
 |y::a=>peq y x || inL x a
def inS(a b:AT):IB:=(E7 (b.length+1)).any λi=>decide (i+a.length<=b.length)&&(b.cps.extract i (i+a.length)==a.cps)
def ybB(o:COp)(i j:Hz):Option PV:=
 match o with
 |.lt=>AA (.bl (decide (i<j)))
 |.le=>AA (.bl (decide (i<=j)))
 |.gt=>AA (.bl (decide (j<i)))
 |.ge=>AA (.bl (decide (j<=i)))
 |_=>AF
def yeT(o:COp)(a b:AT):Option PV:=
 match o with
 |.lt=>AA (.bl (decide (a.cps.toList<b.cps.toList)))
 |.le=>AA (.bl (!decide (b.cps.toList<a.cps.toList)))
 |_=>AF
def yH(o:COp)(x y:PV):Option PV:=
 match o with
 |.eq=>if shp x&&shp y then AA (.bl (peq x y))else AF
 |.ne=>if shp x&&shp y then AA (.bl (!peq x y))else AF
 |.is=>match y with
  |.non=>AA (.bl (isNon x))
  |.bl b=>match x with
   |.bl a=>AA (.bl (a==b))
   |_=>AF
  |_=>AF
 |.isnot=>match y with
  |.non=>AA (.bl (!isNon x))
  |.bl b=>match x with
   |.bl a=>AA (.bl (!(a==b)))
   |_=>AF
  |_=>AF
 |.isin=>match x,y with
  |.str a,.str b=>AA (.bl (inS a b))
  |x,.tp _ l=>if flat x&&l.all flat then AA (.bl (inL x l))else AF
  |x,.lst l=>if flat x&&l.all flat then AA (.bl (inL x l))else AF
  |_,_=>AF
 |.notin=>match x,y with
  |.str a,.str b=>AA (.bl (!inS a b))
  |x,.tp _ l=>if flat x&&l.all flat then AA (.bl (!inL x l))else AF
  |x,.lst l=>if flat x&&l.all flat then AA (.bl (!inL x l))else AF
  |_,_=>AF
 |o=>match x,y with
  |.int i,.int j=>ybB o i j
  |.str a,.str b=>yeT o a b
  |_,_=>AF
def yay(st:SO)(x:PV):Option IB:=
 match x with
 |.non=>AA AC
 |.bl b=>AA b
 |.int i=>AA (i != 0)
 |.str y=>if y.length<=sizeMax then AA ((y.length:Hz) != 0)else AF
 |.tp _ a=>AA (!a.isEmpty)
 |.lst a=>AA (!a.isEmpty)
 |.loc n=>match st[n]? with
  |some (.lst a)=>AA (!a.isEmpty)
  |_=>AF
 |_=>AF
def ixI(n:Hy)(i:Hz):Option Hy:=if 0<=i then(if i<n then AA i.toNat else AF)else if -(n:Hz)<=i then AA (i+n).toNat else AF
def at?{A:Type}(xs:Hx A)(i:Hz):Option A:=(ixI xs.length i).bind λj=>xs[j]?
def look(k:PV):Hx (PV×PV)->Option PV
 |[]=>AF
 |(a,b)::r=>if peq a k then AA b else look k r
def put(k v:PV)(a:Hx (PV×PV)):Hx (PV×PV):=
 if (a.any λp=>peq p.1 k)=AD then a.map (λp=>if peq p.1 k=AD then(p.1,v)else p)else a++[(k,v)]
def ybC:PV->IB
 |.int _=>AD
 |.str _=>AD
 |_=>AC
mutual
noncomputable def yeB(n:Hy):PV->IB
 |.int _=>AD
 |.str x=>x.cps.all (· < 0x110000)
 |.tp k a=>!k&&decide (0<n)&&ybK (n-1) a
 |_=>AC
noncomputable def ybK(n:Hy):Hx PV->IB
 |[]=>AD
 |x::a=>yeB n x&&ybK n a
end
def isKey(t:IB)(k:PV):IB:=
 match t with
 |false=>ybC k
 |true=>match k with
  |.tp AC a=>ybK 5 a
  |_=>AC
def yaS{A:Type}(xs:Hx A)(i:PV):Option A:=
 match i with
 |.int k=>at? xs k
 |_=>AF
def idxV(st:SO)(x i:PV):Option PV:=
 match x with
 |.tp _ a=>yaS a i
 |.lst a=>yaS a i
 |.str s=>if s.length<=sizeMax then(yaS s.cps.toList i).map λc=>.str #[(Hx.toArray [c])]else AF
 |.loc n=>match st[n]? with
  |some (.lst a)=>yaS a i
  |_=>AF
 |_=>AF
def ybI(n:Hy)(v:Hz):Hy:=if v<0 then(v+(n:Hz)).toNat else min v.toNat n
def ycU(n:Hy)(lo:Option Hz):Hy:=
 match lo with
 |none=>0
 |some i=>ybI n i
def yc5(n:Hy)(hi:Option Hz):Hy:=
 match hi with
 |none=>n
 |some i=>ybI n i
def cut{A:Type}(xs:Hx A)(lo hi:Option Hz):Hx A:=(xs.drop (ycU xs.length lo)).take (yc5 xs.length hi-ycU xs.length lo)
def ybQ:PV->Option (Option Hz)
 |.non=>AA AF
 |.int i=>AA (AA i)
 |_=>AF
def ycg(x:PV)(a b:Option Hz):Option PV:=
 match x with
 |.tp k c=>if ycU c.length a=0/\yc5 c.length b=c.length then AA (.tp k c)else AA (.tup (cut c a b))
 |.str s=>if s.length<=sizeMax then AA (.str #[(cut s.cps.toList a b).toArray])else AF
 |.lst c=>AA (.lst (cut c a b))
 |.scr c=>AA (.lst (cut c a b))
 |_=>AF
def ycI(x:PV)(a:Option Hz)(hi:PV):Option PV:=
 match ybQ hi with
 |some b=>ycg x a b
 |none=>AF
def ybg(x:PV)(t:Ty):IB:=
 match x,t with
 |.int _,.int=>AD
 |.bl _,.int=>AD
 |.bl _,.bool=>AD
 |.str _,.str=>AD
 |.tp _ _,.tuple=>AD
 |.lst _,.list=>AD
 |.exn c,.cls d=>c==d
 |.exn _,.val=>AD
 |_,_=>AC
def yc3:Ty->IB
 |.cls _=>AC
 |.val=>AC
 |_=>AD
def ybe(x:PV)(a:Hx Ty):Option PV:=
 match x with
 |.loc _=>AF
 |.scr _=>AF
 |.fnc _=>AF
 |.exn c=>if a.all yc3 then AF else AA (.bl (a.any (ybg (.exn c))))
 |x=>match a with
  |[t]=>if yc3 t then AA (.bl (ybg x t))else AF
  |_=>AF
def allB:Hx PV->Option IB
 |[]=>AA AD
 |.bl b::r=>match allB r with
  |some c=>AA (b&&c)
  |none=>AF
 |_::_=>AF
def ybU:Hx PV->Option Hz
 |[]=>AA 0
 |.int i::r=>match ybU r with
  |some c=>AA (i+c)
  |none=>AF
 |_::_=>AF
def ycS:Hx PV->Option Hz
 |[]=>AF
 |[.int i]=>AA i
 |.int i::r=>match ycS r with
  |some c=>AA (if i<c then c else i)
  |none=>AF
 |_::_=>AF
def seqOf(st:SO):PV->Option (Hx PV)
 |.tp _ a=>AA a
 |.lst a=>AA a
 |.loc n=>match st[n]? with
  |some (.lst a)=>AA a
  |_=>AF
 |_=>AF
def yJ(st:SO):PV->Option (Hx PV)
 |.lst a=>AA a
 |.loc n=>match st[n]? with
  |some (.lst a)=>AA a
  |_=>AF
 |_=>AF
def lenV(st:SO)(x:PV):Option PV:=
 match x with
 |.str s=>if s.length<=sizeMax then AA (.int s.length)else AF
 |x=>(seqOf st x).map λa=>.int a.length
def ydJ(c:Hy):IB:=decide (48<=c/\c<=57)
def yfb(b:Hx Hy):Hy:=b.foldl (λa c=>a*10+(c-48)) 0
def yeF(x:AT):Option Hz:=
 if x.length<=640 then match x.cps.toList with
  |[]=>AF
  |c::a=>if c=45 then(if a.all ydJ&&!a.isEmpty then AA (-(yfb a:Hz))else AF)else if (c::a).all ydJ then AA (yfb (c::a):Hz)else AF
 else AF
def yfn(x:PV):Option PV:=
 match x with
 |.str y=>(yeF y).map .int
 |.int i=>AA (.int i)
 |.bl k=>AA (.int (bi k))
 |_=>AF
def yeQ(x:PV):Option PV:=
 match x with
 |.int i=>AA (.int (if i<0 then -i else i))
 |_=>AF
def yfG(x y:PV):Option PV:=
 match x,y with
 |.int i,.int j=>AA (.int (if j<i then j else i))
 |_,_=>AF
def maxV(x y:PV):Option PV:=
 match x,y with
 |.int i,.int j=>AA (.int (if i<j then j else i))
 |_,_=>AF
def yeK(st:SO)(x:PV):Option PV:=
 match x with
 |.tp k a=>AA (.tp k a)
 |x=>(yJ st x).map .tup
def ygd:PV->Option PV
 |.tp _ a=>AA (.tup a.reverse)
 |.lst a=>AA (.lst a.reverse)
 |_=>AF
def anyB:Hx PV->Option IB
 |[]=>AA AC
 |.bl b::r=>match anyB r with
  |some c=>AA (b || c)
  |none=>AF
 |_=>AF
def anyI:Hx PV->Option IB
 |[]=>AA AC
 |.int i::r=>match anyI r with
  |some c=>AA ((i != 0) || c)
  |none=>AF
 |_=>AF
def yfZ:PV->Option PV
 |.int i=>if i.natAbs.log2<1920 then AA (.str (AE (toString i)))else AF
 |_=>AF
def yah(b:Blt)(st:SO)(vs:Hx PV):Option PV:=
 match vs with
 |[x]=>match b with
  |.len=>lenV st x
  |.int=>yfn x
  |.abs=>yeQ x
  |.max=>(yJ st x).bind λa=>(ycS a).map .int
  |.maxt=>match x with
   |.tp _ a=>(ycS a).map .int
   |_=>AF
  |.tuple=>yeK st x
  |.list=>(seqOf st x).map .lst
  |.all=>(yJ st x).bind λa=>(allB a).map .bl
  |.sum=>(yJ st x).bind λa=>(ybU a).map .int
  |.rev=>ygd x
  |.str=>yfZ x
  |.any=>match x with
   |.tp _ a=>(anyI a).map .bl
   |x=>(yJ st x).bind λa=>(anyB a).map .bl
  |_=>AF
 |[x,y]=>match b with
  |.min=>yfG x y
  |.max=>maxV x y
  |_=>AF
 |_=>AF
def yac(st:SO):PV->Option (IB×Hx (PV×PV))
 |.loc n=>match st[n]? with
  |some (.dct t a)=>AA (t,a)
  |_=>AF
 |_=>AF
def yL(m:Mth)(st:SO)(x:PV):Option IB:=
 match m with
 |.append=>(yJ st x).map λ_=>AD
 |.extend=>(yJ st x).map λ_=>AD
 |.insert=>(yJ st x).map λ_=>AD
 |.count=>(yJ st x).map λ_=>AD
 |.index=>(yJ st x).map λ_=>AD
 |.get=>(yac st x).map λ_=>AD
 |.bits=>match x with
  |.int _=>AA AD
  |_=>AF
 |.upper=>match x with
  |.str _=>AA AD
  |_=>AF
 |.join=>match x with
  |.str _=>AA AD
  |_=>AF
 |.split=>match x with
  |.str _=>AA AD
  |_=>AF
 |.sidx=>match x with
  |.str _=>AA AD
  |_=>AF
 |.rmp=>match x with
  |.str _=>AA AD
  |_=>AF
 |.clear=>match x with
  |.loc n=>(yJ st (.loc n)).map λ_=>AD
  |_=>AF
def ycN(st:SO)(o v:PV):R PV:=
 match o with
 |.loc n=>match st[n]? with
  |some (.lst a)=>if a.length<1000000 then .ok .non (st.set n (.lst (a++[v])))else .bad
  |_=>.bad
 |_=>.bad
def ygr(st:SO)(o v:PV):R PV:=
 match o with
 |.loc n=>match st[n]? with
  |some (.lst a)=>match v with
   |.lst b=>if a.length+b.length<=1000000 then .ok .non (st.set n (.lst (a++b)))else .bad
   |_=>.bad
  |_=>.bad
 |_=>.bad
def yeR(st:SO)(o i v:PV):R PV:=
 match o with
 |.loc n=>match st[n]? with
  |some (.lst a)=>match i with
   |.int k=>if 0<=k/\k<=a.length/\a.length<1000000 then .ok .non (st.set n (.lst (a.take k.toNat++v::a.drop k.toNat)))else .bad
   |_=>.bad
  |_=>.bad
 |_=>.bad
def ycq(st:SO)(o k d:PV):R PV:=
 match yac st o with
 |some (t,a)=>if isKey t k then .ok ((look k a).getD d) st else .bad
 |none=>.bad
def ygG(st:SO)(o v:PV):R PV:=
 match yJ st o with
 |some a=>if flat v&&a.all flat then .ok (.int (a.countP λy=>peq y v)) st else .bad
 |none=>.bad
def ydj(v:PV):Hx PV->Option Hy
 |[]=>AF
 |y::a=>if peq y v then AA 0 else(ydj v a).map (·+1)
def ygB(st:SO)(o v:PV):R PV:=
 match yJ st o with
 |some a=>if flat v&&a.all flat then(match ydj v a with
  |some j=>.ok (.int j) st
  |none=>.bad)else .bad
 |none=>.bad
def upC(c:Hy):Hy:=if 97<=c/\c<=122 then c-32 else c
def upS(s:AT):Str:=#[(s.cps.toList.map upC).toArray]
def ybM(c:Hy):Hx Hy->Hx (Hx Hy)
 |[]=>[[]]
 |x::a=>if x=c then []::ybM c a else match ybM c a with
  |[]=>[[x]]
  |p::b=>(x::p)::b
def strsOf:Hx PV->Option (Hx AT)
 |[]=>AA []
 |.str s::r=>(strsOf r).map (s :: ·)
 |_=>AF
def yex(st:SO)(o v:PV):R PV:=
 match o,yJ st v with
 |.str s,AA a=>match strsOf a with
  |some b=>if s.length<=10/\a.length<=1000/\(b.all λy=>decide (y.length<=1000))=AD then .ok (.str (Str.join s b)) st else .bad
  |none=>.bad
 |_,_=>.bad
def ygK(st:SO)(o:PV):R PV:=
 match o with
 |.loc n=>match st[n]? with
  |some (.lst _)=>.ok .non (st.set n (.lst []))
  |_=>.bad
 |_=>.bad
def yeD(st:SO)(o v:PV):R PV:=
 match o,v with
 |.str s,.str y=>if s=AE "01" then(if y=AE "0" then .ok (.int 0) st else if y=AE "1" then .ok (.int 1) st else .bad)else .bad
 |_,_=>.bad
def yc6(st:SO)(o v:PV):R PV:=
 match o,v with
 |.str s,.str y=>match y.cps.toList with
  |[c]=>if s.length<=100000 then .ok (.lst ((ybM c s.cps.toList).map λl=>.str #[l.toArray])) st else .bad
  |_=>.bad
 |_,_=>.bad
def ydP(x y:AT):Str:=if Fy x y 0 then(if x.length-y.length==x.length then x else Builtin.Str.strSub x y.length x.length)else x
def yfi(st:SO)(o v:PV):R PV:=
 match o,v with
 |.str x,.str y=>if x.length<=16777216 then .ok (.str (ydP x y)) st else .bad
 |_,_=>.bad
def yaL(m:Mth)(st:SO)(o:PV)(vs:Hx PV):R PV:=
 match m,vs with
 |.append,[v]=>ycN st o v
 |.extend,[v]=>ygr st o v
 |.insert,[i,v]=>yeR st o i v
 |.get,[k,d]=>ycq st o k d
 |.count,[v]=>ygG st o v
 |.index,[v]=>ygB st o v
 |.join,[v]=>yex st o v
 |.split,[v]=>yc6 st o v
 |.rmp,[v]=>yfi st o v
 |.sidx,[v]=>yeD st o v
 |.clear,[]=>ygK st o
 |.bits,[]=>match o with
  |.int i=>.ok (.int (Cr i)) st
  |_=>.bad
 |.upper,[]=>match o with
  |.str s=>if s.cps.toList.all (· < 128)/\s.length<=1000000 then .ok (.str (upS s)) st else .bad
  |_=>.bad
 |_,_=>.bad
def toR(o:Option PV)(st:SO):R PV:=
 match o with
 |some v=>.ok v st
 |none=>.bad
def yC(t:Tg)(v:PV)(U:Env):Option Env:=
 match t,v with
 |.n i,v=>AA (U.set i (AA v))
 |.t l,.tp _ a=>if l.length=a.length then AA ((l.zip a).foldl (λU p=>U.set p.1 (AA p.2)) U)else AF
 |.t l,.lst a=>if l.length=a.length then AA ((l.zip a).foldl (λU p=>U.set p.1 (AA p.2)) U)else AF
 |_,_=>AF
def yK:Hy->Hx PV->Hx PV
 |_,[]=>[]
 |k,x::a=>.tup [.int k,x]::yK (k+1) a
def yaW:Hx PV->Hx PV->Hx PV
 |x::a,y::b=>.tup [x,y]::yaW a b
 |_,_=>[]
def ygm:PV->Option (Hx PV)
 |.tp _ a=>AA a.reverse
 |.lst a=>AA a.reverse
 |_=>AF
def yde:PV->Option (Hx PV)
 |.str s=>if s.length<=1000000 then AA (s.cps.toList.map λc=>.str #[(Hx.toArray [c])])else AF
 |_=>AF
def ye1(x y:PV):Option (Hx PV):=
 match x,y with
 |.tp _ a,.tp _ b=>if a.length<=b.length then AA (yaW a b)else AF
 |_,_=>AF
def yaG(s:AT):Hx (AT×PV)->Option PV
 |[]=>AF
 |(a,b)::r=>if decide (a=s)then AA b else yaG s r
def yfx(D:Hx (AT×PV))(x:PV):Option PV:=
 match x with
 |.str s=>yaG s D
 |_=>AF
def ye2(D:Hx (AT×PV))(x:PV):Option PV:=
 match x with
 |.str s=>AA (.bl (yaG s D).isSome)
 |_=>AF
def ye:Hy->Hz->Hz->Hx PV
 |0,_,_=>[]
 |n+1,a,d=>.int a::ye n (a+d) d
def ya9(x:PV):Option (Hx PV):=
 match x with
 |.int j=>if j.natAbs<1000000000 then AA (ye j.toNat 0 1)else AF
 |_=>AF
def ygU(x:PV):Option (Hx PV):=
 match x with
 |.int j=>if 0<=j/\j<1000000000 then AA (ye j.toNat (j-1) (-1))else AF
 |_=>AF
def ydD(x y:PV):Option (Hx PV):=
 match x,y with
 |.int i,.int j=>if i.natAbs<1000000000/\j.natAbs<1000000000 then AA (ye (j-i).toNat i 1)else AF
 |_,_=>AF
def yc9(x y:PV):Option (Hx PV):=
 match x,y with
 |.int i,.int j=>if i.natAbs<1000000000/\j.natAbs<1000000000 then AA (ye (i-j).toNat i (-1))else AF
 |_,_=>AF
def toL(o:Option (Hx PV))(st:SO):R (Hx PV):=
 match o with
 |some v=>.ok v st
 |none=>.bad
def ycH(v:PV)(st:SO):R PV:=
 match v with
 |.loc n=>match st[n]? with
  |some (.lst a)=>.ok (.lst a) (st.set n .dead)
  |_=>.bad
 |v=>.ok v st
def ycE(k:PV)(a:Hx (PV×PV)):Hx (PV×PV):=a.filter λp=>!peq p.1 k
def ycY(x y:PV):Option (Hx PV):=
 match x,y with
 |.tp _ a,.lst b=>if a.length<=b.length then AA (yaW a b)else AF
 |_,_=>AF
def mkV(D:Hx (AT×Hy))(b:IB)(x:PV):Option Hy:=
 match x with
 |.str s=>if b then D.lookup s else AF
 |_=>AF
def yax(c:Hy)(st:SO)(x:PV)(f:AT):Option PV:=
 match x with
 |.loc n=>match st[n]? with
  |some (.ins d fs)=>if d=c then fs.lookup f else AF
  |_=>AF
 |_=>AF
def ybD(f:AT)(v:PV):Hx (AT×PV)->Hx (AT×PV)
 |[]=>[(f,v)]
 |(g,x)::r=>if g=f then(g,v)::r else(g,x)::ybD f v r
def yaX(c:Hy)(st:SO)(x:PV)(f:AT)(v:PV):Option SO:=
 match x with
 |.loc n=>match st[n]? with
  |some (.ins d fs)=>if d=c/\fs.length<1000 then AA (st.set n (.ins c (ybD f v fs)))else AF
  |_=>AF
 |_=>AF
def ybS(c:Hy)(m:AT)(st:SO)(x:PV):Option IB:=
 match x with
 |.loc n=>match st[n]? with
  |some (.ins d fs)=>if d=c/\fs.lookup m=AF then AA AD else AF
  |_=>AF
 |_=>AF
def newV(n:Hy)(v:PV)(st:SO):R PV:=
 match v with
 |.non=>.ok (.loc n) st
 |_=>.bad
def ya7(r:R PV):R PV:=
 match r with
 |.ok v st=>.ok v st
 |_=>.bad
inductive Fl where
 |nx (U:Env) (st:SO)|rt (v:PV) (st:SO)|bk (U:Env) (st:SO)|ct (U:Env) (st:SO)|exc (c:Hy) (U:Env) (st:SO)|bad
def onBl{A:Type}(x:PV)(k:IB->R A):R A:=
 match x with
 |.bl b=>k b
 |_=>.bad
def onO{A:Type}(o:Option IB)(k:IB->R A):R A:=
 match o with
 |some b=>k b
 |none=>.bad
def onF(o:Option IB)(k:IB->Fl):Fl:=
 match o with
 |some b=>k b
 |none=>.bad
def onP{A:Type}(o:Option (Option Hz))(k:Option Hz->R A):R A:=
 match o with
 |some b=>k b
 |none=>.bad
def blO(o:Option PV):Option IB:=
 match o with
 |some (.bl b)=>AA b
 |_=>AF
def ycA(o:Option PV)(ys:Hx PV):Hx PV:=
 match o with
 |some y=>y::ys
 |none=>ys
def compL(one:PV->SO->R (Option PV)):Hx PV->SO->R (Hx PV)
 |[],st=>.ok [] st
 |x::c,st=>(one x st).bind λo a=>(compL one c a).bind λd b=>.ok (ycA o d) b
def ybO(r:R (Hx PV)):R PV:=
 match r with
 |.ok a st=>if a.length<=1000000 then .ok (.lst a) st else .bad
 |_=>.bad
def ltS(a b:AT×Hz×Hz):IB:=if a.1=b.1 then(if a.2.1==b.2.1 then(if a.2.2==b.2.2 then AC else decide (a.2.2<b.2.2))else decide (a.2.1<b.2.1))else decide (a.1.cps.toList<b.1.cps.toList)
def yby:PV×PV->IB
 |(_,.int _)=>AD
 |_=>AC
def ivP:PV->Hz
 |.int i=>i
 |_=>0
def emR(r:R PV):R (Hx PV):=
 match r with
 |.ok (.tp AC a) st=>.ok a st
 |_=>.bad
def tupR(r:R (Hx PV)):R PV:=
 match r with
 |.ok a st=>.ok (.tp AC a) st
 |_=>.bad
def dctR(r:R (Hx (PV×PV))):R PV:=
 match r with
 |.ok a st=>.ok (.loc st.length) (st++[.dct AD a])
 |_=>.bad
def ycG(a b:Hx (PV×PV)):IB:=a.length==b.length&&a.all λp=>match look p.1 b with
 |some v=>ivP p.2==ivP v
 |none=>AC
mutual
noncomputable def ev(call:Hy->Hx PV->SO->R PV)(U:Env)(st:SO):Ce->R PV
 |.cst v=>.ok v st
 |.var i=>match U[i]? with
  |some (AA v)=>.ok v st
  |_=>.bad
 |.bin o a b=>(ev call U st a).bind λx d=>(ev call U d b).bind λy g=>toR (yw o x y) g
 |.neg a=>(ev call U st a).bind λx d=>match x with
  |.int i=>.ok (.int (-i)) d
  |_=>.bad
 |.not a=>(ev call U st a).bind λx d=>onBl x λk=>.ok (.bl (!k)) d
 |.and a b=>(ev call U st a).bind λx d=>onBl x λk=>cond k (ev call U d b) (.ok (.bl AC) d)
 |.or a b=>(ev call U st a).bind λx d=>onBl x λk=>cond k (.ok (.bl AD) d) (ev call U d b)
 |.cmp o a b=>(ev call U st a).bind λx d=>(ev call U d b).bind λy g=>toR (yH o x y) g
 |.chain o p a b c=>(ev call U st a).bind λx d=>(ev call U d b).bind λy g=>onO (blO (yH o x y)) λk=>cond k ((ev call U g c).bind λz q=>toR (yH p y z) q) (.ok (.bl AC) g)
 |.ite c a b=>(ev call U st c).bind λx d=>onO (yay d x) λk=>cond k (ev call U d a) (ev call U d b)
 |.tup r=>(evs call U st r).bind λn d=>if n.length<=sizeMax then .ok (.tup n) d else .bad
 |.lst r=>(evs call U st r).bind λn d=>if n.length<=sizeMax then .ok (.lst n) d else .bad
 |.newl r=>(evs call U st r).bind λn d=>if n.length<=sizeMax then .ok (.loc d.length) (d++[.lst n])else .bad
 |.dict0 t=>.ok (.loc st.length) (st++[.dct t []])
 |.idx a i=>(ev call U st a).bind λx d=>(ev call U d i).bind λy g=>toR (idxV g x y) g
 |.slc a l h=>(ev call U st a).bind λx d=>(ev call U d l).bind λy g=>onP (ybQ y) λo=>(ev call U g h).bind λz q=>toR (ycI x o z) q
 |.call f r=>(evs call U st r).bind λn d=>call f n d
 |.blt b r=>(evs call U st r).bind λn d=>toR (yah b d n) d
 |.mth m o r=>(ev call U st o).bind λx d=>onO (yL m d x) λ_=>(evs call U d r).bind λn g=>yaL m g x n
 |.isi a A=>(ev call U st a).bind λx d=>toR (ybe x A) d
 |.comp B C E c e=>(evi call U st E).bind λG d=>
  let H:Env:=B.map λo=>o.bind λj=>(U[j]?).join
  ybO (compL (λx g=>match yC C x H with
   |none=>.bad
   |some w=>(ev call w g c).bind λb q=>onO (yay q b) λk=>cond k ((ev call w q e).bind λy u=>.ok (AA y) u) (.ok AF q)) G d)
 |.nope=>.bad
 |.frz a=>(ev call U st a).bind λx d=>ycH x d
 |.dix D a=>(ev call U st a).bind λx d=>toR (yfx D x) d
 |.din a D=>(ev call U st a).bind λx d=>toR (ye2 D x) d
 |.fld c a f=>(ev call U st a).bind λx d=>toR (yax c d x f) d
 |.new c i r=>(evs call U st r).bind λn d=>(ya7 (call i (.loc d.length::n) (d++[.ins c []]))).bind λv g=>newV d.length v g
 |.mcl c i m o r=>(ev call U st o).bind λx d=>onO (ybS c m d x) λ_=>(evs call U d r).bind λn g=>call i (x::n) g
noncomputable def evs(call:Hy->Hx PV->SO->R PV)(U:Env)(st:SO):Ces->R (Hx PV)
 |.nil=>.ok [] st
 |.cons e c=>(ev call U st e).bind λv a=>(evs call U a c).bind λd b=>.ok (v::d) b
noncomputable def evi(call:Hy->Hx PV->SO->R PV)(U:Env)(st:SO):Cit->R (Hx PV)
 |.seq e=>(ev call U st e).bind λv c=>match v with
  |.tp _ f=>.ok f c
  |.lst f=>.ok f c
  |_=>.bad
 |.range1 a=>(ev call U st a).bind λx c=>toL (ya9 x) c
 |.range2 a b=>(ev call U st a).bind λx c=>(ev call U c b).bind λy d=>toL (ydD x y) d
 |.rangeD a b=>(ev call U st a).bind λx c=>(ev call U c b).bind λy d=>toL (yc9 x y) d
 |.enum e=>(ev call U st e).bind λv c=>match v with
  |.tp _ f=>.ok (yK 0 f) c
  |_=>.bad
 |.zipl a b=>(ev call U st a).bind λx c=>(ev call U c b).bind λy d=>toL (ycY x y) d
 |.zip a b=>(ev call U st a).bind λx c=>(ev call U c b).bind λy d=>toL (ye1 x y) d
 |.revl e=>(ev call U st e).bind λv c=>toL (ygm v) c
 |.revr a=>(ev call U st a).bind λx c=>toL (ygU x) c
 |.chars e=>(ev call U st e).bind λv c=>toL (yde v) c
end
def R.fl{A:Type}(r:R A)(U:Env)(k:A->SO->Fl):Fl:=
 match r with
 |.ok a st=>k a st
 |.exc c st=>.exc c U st
 |.bad=>.bad
def yS(f:Fl)(k:Env->SO->Fl):Fl:=
 match f with
 |.nx U st=>k U st
 |.ct U st=>k U st
 |.bk U st=>.nx U st
 |f=>f
def forL(t:Tg)(a:Env->SO->Fl):Hx PV->Env->SO->Fl
 |[],U,st=>.nx U st
 |x::c,U,st=>match yC t x U with
  |none=>.bad
  |some d=>yS (a d st) λf b=>forL t a c f b
def yan(a:Env->SO->R PV)(b:Env->SO->Fl):Hy->Env->SO->Fl
 |0,_,_=>.bad
 |n+1,U,st=>(a U st).fl U λx c=>onF (yay c x) λk=>cond k (yS (b U c) λf d=>yan a b n f d) (.nx U c)
def ya6(st:SO)(o i v:PV):Option SO:=
 match o with
 |.loc n=>match st[n]? with
  |some (.lst a)=>match i with
   |.int k=>match ixI a.length k with
    |some j=>AA (st.set n (.lst (a.set j v)))
    |none=>AF
   |_=>AF
  |_=>AF
 |_=>AF
def ybc(st:SO)(o i v:PV):Option SO:=
 match o with
 |.loc n=>match st[n]? with
  |some (.dct t a)=>if isKey t i/\a.length<1000000 then AA (st.set n (.dct t (put i v a)))else AF
  |_=>AF
 |_=>AF
mutual
noncomputable def ex(call:Hy->Hx PV->SO->R PV)(U:Env)(st:SO):Cs->Fl
 |.expr e=>(ev call U st e).fl U λ_ d=>.nx U d
 |.asg t e=>(ev call U st e).fl U λv d=>match yC t v U with
  |some q=>.nx q d
  |none=>.bad
 |.six o i e=>(ev call U st e).fl U λv d=>(ev call U d o).fl U λx g=>(ev call U g i).fl U λy l=>match ya6 l x y v with
  |some m=>.nx U m
  |none=>.bad
 |.dput o i e=>(ev call U st e).fl U λv d=>(ev call U d o).fl U λx g=>(ev call U g i).fl U λy l=>match ybc l x y v with
  |some m=>.nx U m
  |none=>.bad
 |.aug i o e=>match U[i]? with
  |some (AA x)=>(ev call U st e).fl U λy d=>match ybb o x y with
   |some z=>.nx (U.set i (AA z)) d
   |none=>.bad
  |_=>.bad
 |.ret e=>(ev call U st e).fl U λv d=>.rt v d
 |.ite c a b=>(ev call U st c).fl U λx d=>onF (yay d x) λk=>cond k (exs call U d a) (exs call U d b)
 |.for t r b=>(evi call U st r).fl U λu d=>forL t (λp g=>exs call p g b) u U d
 |.while c b=>yan (λp g=>ev call p g c) (λp g=>exs call p g b) 100000 U st
 |.nope=>.bad
 |.mkr i D n w=>(ev call U st n).fl U λx d=>match mkV D (decide (i<U.length)) x with
  |some j=>((evs call (U.set i AF) d w).bind λA g=>call j A g).fl (U.set i AF) λv l=>.rt v l
  |none=>.bad
 |.sfl c o f e=>(ev call U st e).fl U λv d=>(ev call U d o).fl U λx g=>match yaX c g x f v with
  |some l=>.nx U l
  |none=>.bad
noncomputable def exs(call:Hy->Hx PV->SO->R PV)(U:Env)(st:SO):Css->Fl
 |.nil=>.nx U st
 |.cons s b=>match ex call U st s with
  |.nx c a=>exs call c a b
  |f=>f
end
section
variable {call:Hy->Hx PV->SO->R PV}{U:Env}{st:SO}
theorem ve1{v}:ev call U st (.cst v)=.ok v st:=rfl
theorem ve2{i}:ev call U st (.var i)=(match U[i]? with
    |some (AA v)=>.ok v st
    |_=>.bad):=rfl
theorem ve3{o a b}:ev call U st (.bin o a b)=(ev call U st a).bind λx c=>(ev call U c b).bind λy d=>toR (yw o x y) d:=rfl
theorem ve4{a}:ev call U st (.neg a)=((ev call U st a).bind λx b=>match x with
    |.int i=>.ok (.int (-i)) b
    |_=>.bad):=rfl
theorem ve5{a}:ev call U st (.not a)=(ev call U st a).bind λx b=>onBl x λk=>.ok (.bl (!k)) b:=rfl
theorem ve6{a b}:ev call U st (.and a b)=(ev call U st a).bind λx c=>onBl x λk=>cond k (ev call U c b) (.ok (.bl AC) c):=rfl
theorem ve7{a b}:ev call U st (.or a b)=(ev call U st a).bind λx c=>onBl x λk=>cond k (.ok (.bl AD) c) (ev call U c b):=rfl
theorem ve8{o a b}:ev call U st (.cmp o a b)=(ev call U st a).bind λx c=>(ev call U c b).bind λy d=>toR (yH o x y) d:=rfl
theorem ve9{o p a b c}:ev call U st (.chain o p a b c)=(ev call U st a).bind λx f=>(ev call U f b).bind λy d=>onO (blO (yH o x y)) λk=>cond k ((ev call U d c).bind λz g=>toR (yH p y z) g) (.ok (.bl AC) d):=rfl
theorem vxq9{c a b}:ev call U st (.ite c a b)=(ev call U st c).bind λx d=>onO (yay d x) λk=>cond k (ev call U d a) (ev call U d b):=rfl
theorem ve11{es}:ev call U st (.tup es)=((evs call U st es).bind λb a=>if b.length<=sizeMax then .ok (.tup b) a else .bad):=rfl
theorem ve12{es}:ev call U st (.lst es)=((evs call U st es).bind λb a=>if b.length<=sizeMax then .ok (.lst b) a else .bad):=rfl
theorem ve13{es}:ev call U st (.newl es)=((evs call U st es).bind λb a=>if b.length<=sizeMax then .ok (.loc a.length) (a++[.lst b])else .bad):=rfl
theorem ve15{t}:ev call U st (.dict0 t)=.ok (.loc st.length) (st++[.dct t []]):=rfl
theorem ve16{a i}:ev call U st (.idx a i)=(ev call U st a).bind λx c=>(ev call U c i).bind λy b=>toR (idxV b x y) b:=rfl
theorem ve17{a l h}:ev call U st (.slc a l h)=(ev call U st a).bind λx b=>(ev call U b l).bind λy c=>onP (ybQ y) λo=>(ev call U c h).bind λz d=>toR (ycI x o z) d:=rfl
theorem ve18{f es}:ev call U st (.call f es)=(evs call U st es).bind λb a=>call f b a:=rfl
theorem ve19{b es}:ev call U st (.blt b es)=(evs call U st es).bind λvs a=>toR (yah b a vs) a:=rfl
theorem ve20{m o es}:ev call U st (.mth m o es)=(ev call U st o).bind λx a=>onO (yL m a x) λ_=>(evs call U a es).bind λc b=>yaL m b x c:=rfl
theorem ve21{a c}:ev call U st (.isi a c)=(ev call U st a).bind λx b=>toR (ybe x c) b:=rfl
theorem vxq20{sl l m c e}:ev call U st (.comp sl l m c e)=((evi call U st m).bind λp d=>
    let q:Env:=sl.map λo=>o.bind λj=>(U[j]?).join
    ybO (compL (λx f=>match yC l x q with
     |none=>.bad
     |some n=>(ev call n f c).bind λb a=>onO (yay a b) λk=>cond k ((ev call n a e).bind λy g=>.ok (AA y) g) (.ok AF a)) p d)):=rfl
theorem ve24:ev call U st .nope=.bad:=rfl
theorem ve25{a}:ev call U st (.frz a)=(ev call U st a).bind λx b=>ycH x b:=rfl
theorem ve28{D a}:ev call U st (.dix D a)=(ev call U st a).bind λx b=>toR (yfx D x) b:=rfl
theorem ve29{a D}:ev call U st (.din a D)=(ev call U st a).bind λx b=>toR (ye2 D x) b:=rfl
theorem ve32{c a f}:ev call U st (.fld c a f)=(ev call U st a).bind λx b=>toR (yax c b x f) b:=rfl
theorem ve33{c i es}:ev call U st (.new c i es)=(evs call U st es).bind λd a=>(ya7 (call i (.loc a.length::d) (a++[.ins c []]))).bind λv b=>newV a.length v b:=rfl
theorem ve37{c i m o es}:ev call U st (.mcl c i m o es)=(ev call U st o).bind λx a=>onO (ybS c m a x) λ_=>(evs call U a es).bind λd b=>call i (x::d) b:=rfl
theorem vsq0:evs call U st .nil=.ok [] st:=rfl
theorem vsq1{e es}:evs call U st (.cons e es)=(ev call U st e).bind λv a=>(evs call U a es).bind λc b=>.ok (v::c) b:=rfl
theorem vjq0{e}:evi call U st (.seq e)=((ev call U st e).bind λv a=>match v with
    |.tp _ b=>.ok b a
    |.lst b=>.ok b a
    |_=>.bad):=rfl
theorem vjq1{a}:evi call U st (.range1 a)=(ev call U st a).bind λx b=>toL (ya9 x) b:=rfl
theorem vjq2{a b}:evi call U st (.range2 a b)=(ev call U st a).bind λx c=>(ev call U c b).bind λy d=>toL (ydD x y) d:=rfl
theorem vjq3{a b}:evi call U st (.rangeD a b)=(ev call U st a).bind λx c=>(ev call U c b).bind λy d=>toL (yc9 x y) d:=rfl
theorem vjq4{e}:evi call U st (.enum e)=((ev call U st e).bind λv a=>match v with
    |.tp _ b=>.ok (yK 0 b) a
    |_=>.bad):=rfl
theorem vjq5{a b}:evi call U st (.zipl a b)=(ev call U st a).bind λx c=>(ev call U c b).bind λy d=>toL (ycY x y) d:=rfl
theorem vjq6{a b}:evi call U st (.zip a b)=(ev call U st a).bind λx c=>(ev call U c b).bind λy d=>toL (ye1 x y) d:=rfl
theorem vjq7{e}:evi call U st (.revl e)=(ev call U st e).bind λv a=>toL (ygm v) a:=rfl
theorem vjq8{a}:evi call U st (.revr a)=(ev call U st a).bind λx b=>toL (ygU x) b:=rfl
theorem vjq9{e}:evi call U st (.chars e)=(ev call U st e).bind λv a=>toL (yde v) a:=rfl
theorem xrq0{e}:ex call U st (.expr e)=(ev call U st e).fl U λ_ a=>.nx U a:=rfl
theorem xrq1{t e}:ex call U st (.asg t e)=((ev call U st e).fl U λv a=>match yC t v U with
    |some b=>.nx b a
    |none=>.bad):=rfl
theorem xrq2{o i e}:ex call U st (.six o i e)=((ev call U st e).fl U λv a=>(ev call U a o).fl U λx b=>(ev call U b i).fl U λy c=>match ya6 c x y v with
    |some d=>.nx U d
    |none=>.bad):=rfl
theorem xrq3{o i e}:ex call U st (.dput o i e)=((ev call U st e).fl U λv a=>(ev call U a o).fl U λx b=>(ev call U b i).fl U λy c=>match ybc c x y v with
    |some d=>.nx U d
    |none=>.bad):=rfl
theorem xrq4{i o e}:ex call U st (.aug i o e)=(match U[i]? with
    |some (AA x)=>(ev call U st e).fl U λy a=>match ybb o x y with
     |some z=>.nx (U.set i (AA z)) a
     |none=>.bad
    |_=>.bad):=rfl
theorem xrq5{e}:ex call U st (.ret e)=(ev call U st e).fl U λv a=>.rt v a:=rfl
theorem xrq6{c a b}:ex call U st (.ite c a b)=(ev call U st c).fl U λx d=>onF (yay d x) λk=>cond k (exs call U d a) (exs call U d b):=rfl
theorem xrq7{t d b}:ex call U st (.for t d b)=(evi call U st d).fl U λf a=>forL t (λg c=>exs call g c b) f U a:=rfl
theorem xrq8{c b}:ex call U st (.while c b)=yan (λd a=>ev call d a c) (λd a=>exs call d a b) 100000 U st:=rfl
theorem xrq9:ex call U st .nope=.bad:=rfl
theorem xrq10{i D n es}:ex call U st (.mkr i D n es)=((ev call U st n).fl U λx a=>match mkV D (decide (i<U.length)) x with
    |some j=>((evs call (U.set i AF) a es).bind λd b=>call j d b).fl (U.set i AF) λv c=>.rt v c
    |none=>.bad):=rfl
theorem xrq11{c o f e}:ex call U st (.sfl c o f e)=((ev call U st e).fl U λv a=>(ev call U a o).fl U λx b=>match yaX c b x f v with
    |some d=>.nx U d
    |none=>.bad):=rfl
theorem xqq0:exs call U st .nil=.nx U st:=rfl
theorem xqq1{s b}:exs call U st (.cons s b)=(match ex call U st s with
    |.nx c a=>exs call c a b
    |f=>f):=rfl
end
structure Fn where
 np:Hy
 ns:Hy
 pure:IB
 body:Css
def yc(T:Hy->Option Fn):Hy->Hy->Hx PV->SO->R PV
 |0,_,_,_=>.bad
 |k+1,f,a,st=>match T f with
  |none=>.bad
  |some fn=>if a.length=fn.np then
    if fn.pure then
     if nLs a then match exs (yc T k) (a.map AA++Am (fn.ns-fn.np) AF) [] fn.body with
      |.rt v _=>if nL v then .ok v st else .bad
      |.nx _ _=>.ok .non st
      |.exc c _ _=>.exc c st
      |_=>.bad
     else .bad
    else match exs (yc T k) (a.map AA++Am (fn.ns-fn.np) AF) st fn.body with
     |.rt v b=>.ok v b
     |.nx _ b=>.ok .non b
     |.exc c _ b=>.exc c b
     |_=>.bad
   else .bad
def yar:Hx (Sum Ce Hz)->Ces
 |[]=>.nil
 |.inl c::r=>.cons c (yar r)
 |.inr i::r=>.cons (.cst (.int i)) (yar r)
def yco:Ces->Ces->Ces
 |.nil,b=>b
 |.cons e r,b=>.cons e (yco r b)
end IC
namespace L2
open PySem PySem.Spec PyProof.Rows IC
abbrev Ph:=Hx (Option AK)
section
variable (K:AG)(cl:Hy->AK)(B:AK->Prop)(A:Ph)(H:Hp)
def ybv(k:IB)(a:AK)(xs:Hx V):Prop:=(H a=AA (.tup xs)/\¬B a/\AA a∉A) \/
 k=AD/\∃(o:Be) (b:IP AH) (n:Hy),K.lookup a=AA o/\o.cls=.type "tuple"/\o.data=.seq b n/\b.size<=sizeLine/\Vals xs b.toList
def ybR(a:AK)(xs:Hx V):Prop:=H a=AA (.lst xs)/\¬B a/\AA a∉A
def ydQ(a:AK)(xs:Hx V):Prop:=(Rd H a (.lst xs)/\¬B a/\AA a∉A) \/
 ∃(o:Be) (b:IP AH) (n:Hy),K.lookup a=AA o/\o.cls=.type "list"/\o.dict=AF/\o.data=.seq b n/\b.size<=sizeLine/\Vals xs b.toList
mutual
noncomputable def yd:PV->V->Prop
 |.non,x=>x=.non
 |.bl b,x=>x=.bl b
 |.int i,x=>x=.int i
 |.str s,x=>x=.str s
 |.tp k f,x=>∃a d,x=.ref a/\ybv K B A H k a d/\yg f d
 |.lst f,x=>∃a d,x=.ref a/\ybR B A H a d/\yg f d
 |.loc n,x=>n<A.length/\∃a,x=.ref a/\∀b,A[n]?=AA (AA b)->b=a
 |.exn c,x=>∃a,x=.ref a/\H a=AA (.ext (yfV a (cl c)))/\¬B a/\AA a∉A
 |.scr f,x=>∃a d,x=.ref a/\ydQ K B A H a d/\yg f d
 |.fnc j,x=>x=.ref (cl (1000+j))
noncomputable def yg:Hx PV->Hx V->Prop
 |[],a=>a=[]
 |v::c,a=>∃y b,a=y::b/\yd v y/\yg c b
end
def ybl:Key->PV
 |.inl i=>.int i
 |.inr y=>.str y
mutual
noncomputable def nkP:NK->PV
 |.a k=>ybl k
 |.t l=>.tup (yaH l)
noncomputable def yaH:Hx NK->Hx PV
 |[]=>[]
 |k::l=>nkP k::yaH l
end
def DK:Hx (PV×PV)->Hx (Key×V)->Prop
 |[],a=>a=[]
 |(k,v)::r,a=>∃q x s,a=(q,x)::s/\k=ybl q/\yd K cl B A H v x/\DK r s
def DT:Hx (PV×PV)->Hx (Hx NK×V)->Prop
 |[],a=>a=[]
 |(k,v)::r,a=>∃q x s,a=(q,x)::s/\k=.tup (yaH q)/\yd K cl B A H v x/\DT r s
def FS:Hx (AT×PV)->Hx (AT×V)->Prop
 |[],a=>a=[]
 |(k,v)::r,a=>∃x s,a=(k,x)::s/\yd K cl B A H v x/\FS r s
def ycc:Ob->AK->Prop
 |.lst g,a=>∃f,H a=AA (.lst f)/\yg K cl B A H g f
 |.dct AC d,a=>∃b,H a=AA (.dK b)/\DK K cl B A H d b
 |.dct AD d,a=>∃b,H a=AA (.dT b)/\DT K cl B A H d b
 |.dead,_=>IK
 |.ins c fs,a=>∃b,(∃j,H a=AA (.ins (cl c) j b))/\FS K cl B A H fs b
structure yr(st:SO):Prop where
 len:A.length=st.length
 inj:∀(m n:Hy) (a:AK),A[m]?=AA (AA a)->A[n]?=AA (AA a)->m=n
 obj:∀(n:Hy) (a:AK),A[n]?=AA (AA a)->∃o,st[n]?=AA o/\ycc K cl B A H o a
 liv:∀(n:Hy) (o:Ob),st[n]?=AA o->o ≠ .dead->∃a,A[n]?=AA (AA a)
 nb:∀a,AA a∈A->¬B a
 dom:∀a,B a->∃o,H a=AA o
 nt:∀a,B a->∀xs,H a≠AA (.tup xs)
structure yF(U:IC.Env)(C:St):Prop where
 len:U.length=C.length
 get:∀(i:Hy) (v:PV),U[i]?=AA (AA v)->∃x,C[i]?=AA (AA x)/\yd K cl B A H v x
end
structure Step(A:Ph)(H:Hp)(A':Ph)(H':Hp):Prop where
 keep:∀b o,AA b∉A->H b=AA o->H' b=AA o
 len:A.length<=A'.length
 pre:∀(n:Hy) (a:AK),n<A.length->A'[n]?=AA (AA a)->A[n]?=AA (AA a)
 new:∀b,AA b∈A'->AA b∈A \/ H b=AF
theorem Step.rfl{A:Ph}{H:Hp}:Step A H A H:=#[λ_ _ _ e=>e,AS _,λ_ _ _ e=>e,λ_ h=>.inl h]
theorem Step.trans{A A1 A2:Ph}{H c d:Hp}(s:Step A H A1 c)(t:Step A1 c A2 d):Step A H A2 d:=by
 refine#[λb o n e=>?_,BW s.len t.len,λn a f e=>s.pre n a f (t.pre n a (Aa f s.len) e),λb g=>?_]
 .refine t.keep b o (λh=>?_) (s.keep b o n e);rcases s.new b h with q|q
  .exact n q
  .rw[e]at q;cases q
 .rcases t.new b g with q|q
  .exact s.new b q
  .by_cases h:AA b∈A
   .exact .inl h
   .refine .inr ?_
    cases e:H b with
    |none=>exact Cf _
    |some o=>rw[s.keep b o h e]at q;cases q
section
variable {K:AG}{cl:Hy->AK}{B:AK->Prop}{A A':Ph}{H H':Hp}{st:SO}{U:IC.Env}{C:St}
theorem Rd.step(s:Step A H A' H'){a:AK}{u:HO}(n:AA a∉A)(r:Rd H a u):Rd H' a u/\AA a∉A':=by
 have h:∃o,H a=AA o:=by rcases r with r|⟨o,r⟩<;>exact#[_,r]
 refine#[?_,λz=>?_]
 .rcases r with r|⟨o,r⟩
  .exact .inl (s.keep _ _ n r)
  .exact .inr #[o,s.keep _ _ n r]
 .let#[o,e]:=h;rcases s.new a z with q|q
  .exact n q
  .rw[e]at q;cases q
theorem ybv.step(s:Step A H A' H'){k:IB}{a:AK}{xs:Hx V}(r:ybv K B A H k a xs):ybv K B A' H' k a xs:=by
 rcases r with⟨r,b,n⟩|r
 .let#[_,c]:=(Rd.of r).step s n;exact .inl #[s.keep _ _ n r,b,c]
 .exact .inr r
theorem ybR.step(s:Step A H A' H'){a:AK}{xs:Hx V}(r:ybR B A H a xs):ybR B A' H' a xs:=by let#[r,b,n]:=r;let#[_,c]:=(Rd.of r).step s n;exact#[s.keep _ _ n r,b,c]
theorem ydQ.step(s:Step A H A' H'){a:AK}{xs:Hx V}(r:ydQ K B A H a xs):ydQ K B A' H' a xs:=by
 rcases r with⟨r,b,n⟩|r
 .let#[c,d]:=r.step s n;exact .inl #[c,b,d]
 .exact .inr r
mutual
theorem yd.step(s:Step A H A' H'):∀(v:PV) (x:V),yd K cl B A H v x->yd K cl B A' H' v x
 |.non,x,h=>by erw[yd]at h ⊢;exact h
 |.bl b,x,h=>by erw[yd]at h ⊢;exact h
 |.int i,x,h=>by erw[yd]at h ⊢;exact h
 |.str y,x,h=>by erw[yd]at h ⊢;exact h
 |.tp k f,x,h=>by erw[yd]at h ⊢;let#[a,d,e,r,l]:=h;exact#[a,d,e,r.step s,yg.step s f d l]
 |.lst f,x,h=>by erw[yd]at h ⊢;let#[a,d,e,r,l]:=h;exact#[a,d,e,r.step s,yg.step s f d l]
 |.loc n,x,h=>by erw[yd]at h ⊢;let#[g,a,e,m]:=h;exact#[Aa g s.len,a,e,λb q=>m b (s.pre n b g q)]
 |.fnc j,x,h=>by erw[yd]at h ⊢;exact h
 |.exn c,x,h=>by erw[yd]at h ⊢;let#[a,e,r,b,n]:=h;let#[_,o]:=(Rd.of r).step s n;exact#[a,e,s.keep _ _ n r,b,o]
 |.scr f,x,h=>by erw[yd]at h ⊢;let#[a,d,e,r,l]:=h;exact#[a,d,e,r.step s,yg.step s f d l]
theorem yg.step(s:Step A H A' H'):∀(v:Hx PV) (x:Hx V),yg K cl B A H v x->yg K cl B A' H' v x
 |[],x,h=>by erw[yg]at h ⊢;exact h
 |v::b,x,h=>by erw[yg]at h ⊢;let#[y,a,e,r,l]:=h;exact#[y,a,e,yd.step s v y r,yg.step s b a l]
end
theorem yF.step(s:Step A H A' H')(r:yF K cl B A H U C):yF K cl B A' H' U C:=#[r.len,λi v e=>by let#[x,h,q]:=r.get i v e;exact#[x,h,q.step s]]
mutual
theorem yd.inn(g:∀a,AA a∈A->¬B a):∀(v:PV) (x:V),nL v=AD->yd K cl B A H v x->yd K cl (λa=>B a \/ AA a∈A) [] H v x
 |.non,x,_,h=>by erw[yd]at h ⊢;exact h
 |.bl b,x,_,h=>by erw[yd]at h ⊢;exact h
 |.int i,x,_,h=>by erw[yd]at h ⊢;exact h
 |.str y,x,_,h=>by erw[yd]at h ⊢;exact h
 |.tp k f,x,q,h=>by
  erw[yd]at h ⊢;let#[a,d,e,r,l]:=h;refine#[a,d,e,?_,yg.inn g f d (by simpa only[nL] using q) l];rcases r with⟨r,b,n⟩|r
  .exact .inl #[r,λz=>z.elim b n,by simp]
  .exact .inr r
 |.lst f,x,q,h=>by erw[yd]at h ⊢;let#[a,d,e,#[r,b,n],l]:=h;exact#[a,d,e,#[r,λz=>z.elim b n,by simp],yg.inn g f d (by simpa only[nL] using q) l]
 |.loc n,x,q,h=>by simp[nL]at q
 |.fnc j,x,q,h=>by erw[yd]at h ⊢;exact h
 |.exn c,x,q,h=>by simp[nL]at q
 |.scr f,x,q,h=>by
  erw[yd]at h ⊢;let#[a,d,e,r,l]:=h;refine#[a,d,e,?_,yg.inn g f d (by simpa only[nL] using q) l];rcases r with⟨r,b,n⟩|r
  .exact .inl #[r,λz=>z.elim b n,by simp]
  .exact .inr r
theorem yg.inn(b:∀a,AA a∈A->¬B a):∀(v:Hx PV) (x:Hx V),nLs v=AD->yg K cl B A H v x->yg K cl (λa=>B a \/ AA a∈A) [] H v x
 |[],x,_,h=>by erw[yg]at h ⊢;exact h
 |v::d,x,q,h=>by erw[yg]at h ⊢;erw[nLs,AL]at q;let#[y,c,e,r,l]:=h;exact#[y,c,e,yd.inn b v y q.1 r,yg.inn b d c q.2 l]
end
mutual
theorem yd.out{D:Ph}:∀(v:PV) (x:V),nL v=AD->yd K cl (λa=>B a \/ AA a∈A) D H v x->yd K cl B A H v x
 |.non,x,_,h=>by erw[yd]at h ⊢;exact h
 |.bl b,x,_,h=>by erw[yd]at h ⊢;exact h
 |.int i,x,_,h=>by erw[yd]at h ⊢;exact h
 |.str y,x,_,h=>by erw[yd]at h ⊢;exact h
 |.tp k f,x,q,h=>by
  erw[yd]at h ⊢;let#[a,d,e,r,l]:=h;refine#[a,d,e,?_,yg.out f d (by simpa only[nL] using q) l];rcases r with⟨r,b,n⟩|r
  .exact .inl #[r,λz=>b (.inl z),λz=>b (.inr z)]
  .exact .inr r
 |.lst f,x,q,h=>by erw[yd]at h ⊢;let#[a,d,e,#[r,b,n],l]:=h;exact#[a,d,e,#[r,λz=>b (.inl z),λz=>b (.inr z)],yg.out f d (by simpa only[nL] using q) l]
 |.loc n,x,q,h=>by simp[nL]at q
 |.fnc j,x,q,h=>by erw[yd]at h ⊢;exact h
 |.exn c,x,q,h=>by simp[nL]at q
 |.scr f,x,q,h=>by
  erw[yd]at h ⊢;let#[a,d,e,r,l]:=h;refine#[a,d,e,?_,yg.out f d (by simpa only[nL] using q) l];rcases r with⟨r,b,n⟩|r
  .exact .inl #[r,λz=>b (.inl z),λz=>b (.inr z)]
  .exact .inr r
theorem yg.out{D:Ph}:∀(v:Hx PV) (x:Hx V),nLs v=AD->yg K cl (λa=>B a \/ AA a∈A) D H v x->yg K cl B A H v x
 |[],x,_,h=>by erw[yg]at h ⊢;exact h
 |v::c,x,q,h=>by erw[yg]at h ⊢;erw[nLs,AL]at q;let#[y,b,e,r,l]:=h;exact#[y,b,e,yd.out v y q.1 r,yg.out c b q.2 l]
end
theorem yg.length:∀{v:Hx PV} {x:Hx V},yg K cl B A H v x->v.length=x.length
 |[],x,h=>by erw[yg]at h;subst h;rfl
 |v::a,x,h=>by erw[yg]at h;let#[y,b,rfl,_,l]:=h;simp[yg.length l]
theorem DK.step(s:Step A H A' H'):∀{a:Hx (PV×PV)} {b:Hx (Key×V)},DK K cl B A H a b->DK K cl B A' H' a b
 |[],b,h=>h
 |(k,v)::r,b,h=>by let#[q,x,t,e,m,c,l]:=h;exact#[q,x,t,e,m,c.step s,DK.step s l]
theorem DT.step(s:Step A H A' H'):∀{a:Hx (PV×PV)} {b:Hx (Hx NK×V)},DT K cl B A H a b->DT K cl B A' H' a b
 |[],b,h=>h
 |(k,v)::r,b,h=>by let#[q,x,t,e,m,c,l]:=h;exact#[q,x,t,e,m,c.step s,DT.step s l]
theorem FS.step(s:Step A H A' H'):∀{a:Hx (AT×PV)} {b:Hx (AT×V)},FS K cl B A H a b->FS K cl B A' H' a b
 |[],b,h=>h
 |(k,v)::r,b,h=>by let#[x,t,e,c,l]:=h;exact#[x,t,e,c.step s,FS.step s l]
theorem ycc.step(s:Step A H A' H'){o:Ob}{a:AK}(e:H' a=H a)(r:ycc K cl B A H o a):ycc K cl B A' H' o a:=by
 cases o with
 |lst j=>
  let#[d,q,l]:=r;exact#[d,e.trans q,l.step s]
 |dct t f=>
  cases t with
  |false=>let#[b,q,l]:=r;exact#[b,e.trans q,l.step s]
  |true=>let#[b,q,l]:=r;exact#[b,e.trans q,l.step s]
 |dead=>exact r
 |ins c fs=>let#[b,#[g,q],l]:=r;exact#[b,#[g,e.trans q],l.step s]
theorem ycc.there{o:Ob}{a:AK}(r:ycc K cl B A H o a):∃u,H a=AA u:=by
 cases o with
 |lst f=>let#[g,q,l]:=r;exact#[_,q]
 |dct t b=>cases t<;>(let#[d,q,l]:=r;exact#[_,q])
 |dead=>exact r.elim
 |ins c fs=>let#[d,#[j,q],l]:=r;exact#[_,q]
theorem yr.there(S:yr K cl B A H st){a:AK}(h:AA a∈A):∃u,H a=AA u:=by let#[n,e]:=DU.mp h;let#[o,_,r]:=S.obj n a e;exact r.there
theorem Step.upd{p:AK}{o:HO}(a:H p=AF):Step A H A (upd H p o):=
 #[λb u n e=>by rw[zk (zm e a)];exact e,AS _,λ_ _ _ e=>e,λ_ h=>.inl h]
theorem yr.same(S:yr K cl B A H st)(k:∀b o,H b=AA o->H' b=AA o):yr K cl B A H' st:=by
 have s:Step A H A H':=#[λb o _ e=>k b o e,AS _,λ_ _ _ e=>e,λ_ h=>.inl h];refine#[S.len,S.inj,λn a e=>?_,S.liv,S.nb,λa h=>?_,λa h c e=>?_]
 .let#[o,q,r]:=S.obj n a e;let#[u,z]:=r.there;exact#[o,q,r.step s ((k a u z).trans z.symm)]
 .let#[o,q]:=S.dom a h;exact#[o,k a o q]
 .let#[o,q]:=S.dom a h;have z:=k a o q;rw[e]at z
  cases z
  exact S.nt a h c q
theorem yr.upd{p:AK}{o:HO}(S:yr K cl B A H st)(a:H p=AF):yr K cl B A (upd H p o) st:=S.same λb u e=>by rw[zk (zm e a)];exact e
mutual
theorem yd.moreB{g:AK->Prop}(d:∀y,g y->B y \/ H y=AF):∀(v:PV) (x:V),yd K cl B A H v x->yd K cl g A H v x
 |.non,x,h=>by erw[yd]at h ⊢;exact h
 |.bl b,x,h=>by erw[yd]at h ⊢;exact h
 |.int i,x,h=>by erw[yd]at h ⊢;exact h
 |.str y,x,h=>by erw[yd]at h ⊢;exact h
 |.tp k f,x,h=>by
  erw[yd]at h ⊢;let#[y,a,e,r,l]:=h;refine#[y,a,e,?_,yg.moreB d f a l];rcases r with⟨r,b,n⟩|r
  .exact .inl #[r,λz=>(d y z).elim b λq=>(by rw[q]at r;cases r),n]
  .exact .inr r
 |.lst f,x,h=>by erw[yd]at h ⊢;let#[y,a,e,#[r,b,n],l]:=h;exact#[y,a,e,#[r,λz=>(d y z).elim b λq=>(by rw[q]at r;cases r),n],yg.moreB d f a l]
 |.loc n,x,h=>by erw[yd]at h ⊢;exact h
 |.fnc j,x,h=>by erw[yd]at h ⊢;exact h
 |.exn c,x,h=>by erw[yd]at h ⊢;let#[y,e,r,b,n]:=h;exact#[y,e,r,λz=>(d y z).elim b λq=>(by rw[q]at r;cases r),n]
 |.scr f,x,h=>by
  erw[yd]at h ⊢;let#[y,a,e,r,l]:=h;refine#[y,a,e,?_,yg.moreB d f a l];rcases r with⟨r,b,n⟩|r
  .refine .inl #[r,λz=>(d y z).elim b λq=>?_,n];rcases r with r|⟨o,r⟩<;>(rw[q]at r;cases r)
  .exact .inr r
theorem yg.moreB{a:AK->Prop}(b:∀y,a y->B y \/ H y=AF):∀(v:Hx PV) (x:Hx V),yg K cl B A H v x->yg K cl a A H v x
 |[],x,h=>by erw[yg]at h ⊢;exact h
 |v::d,x,h=>by erw[yg]at h ⊢;let#[y,c,e,r,l]:=h;exact#[y,c,e,yd.moreB b v y r,yg.moreB b d c l]
end
end
end L2
namespace L2
open PySem PySem.Spec PyProof.Rows
def CXH(X:Cx)(H:Hp)(s:AJ)(E:XK)(e:AH)(c:AJ):Prop:=
 ∃(C a:AK) (d g fl:AH) (f:Hp) (B:Au),X.s₀.heap.objs.size<=C/\e=.ref a/\c.os=s.os/\DZ c.gens /\
  (B.StaysIn c.heap/\B.get? a=AF/\c.heap.FunFrames B X.stack/\c.heap.TracedAtW B a d g fl)/\HOk X.prog X.w f c.heap/\Un (frs X.stack) [C] H f s.heap c.heap /\
  (∀b o,s.heap.get? b=AA o->H b=AF->b∉frs X.stack->b≠C->B.get? b=AA o)/\(∀b u,f b=AA u->∃o,B.get? b=AA o)/\(∀b o,s.heap.get? b=AA o->b∉frs X.stack->b≠C->∃j,B.get? b=AA j)/\E d AF f
theorem CXH.mono{X:Cx}{H:Hp}{s:AJ}{E g:XK}{e:AH}{j:AJ}(h:CXH X H s E e j)(n:∀b c,E b AF c->g b AF c):CXH X H s g e j:=by let#[C,a,b,l,fl,c,B,m,o,p,q,r,t,u,w,r9,d,f]:=h;exact#[C,a,b,l,fl,c,B,m,o,p,q,r,t,u,w,r9,d,n _ _ f]
section
variable {M:Model}{A:Af}{E:AH->AJ->Prop}{s:AJ}
def zd2{base:Au}{env:Env}{outer:Hx Env}{L e:AK}{cls a0 fl}{Q:IZ->AJ->Prop}
  (p:A.frames=AA (env::outer)) (hf:env.frame=AA L) (y:base.StaysIn s.heap) (r:base.get? e=AF) (B:s.heap.FunFrames base (env::outer)) (t:s.heap.TracedAtW base e cls a0 fl)
  (C:∀j,HQ base outer e cls a0 j->s.heap.UpToSlots j->Q IZ.unit {s with heap:=j}):A6 M A («leaving» env (.ref e)) Q E s:=by
 by_cases g:fl=rawInt L
 .subst g;unfold «leaving»;refine AI (wpAny_noteFrame_againW hf t ?_);refine wpAny_landsW #[y,r,B,t] λj g N=>?_;let#[O,U,#[_,_,X],Y]:=g;exact C j #[O,U,X,Y] N
 .let#[oe,D,T,oT,Z,G,#[n,h0],H,I,u,w,x,l,J]:=t;subst n;unfold «leaving» noteFrame;erw[hf];refine AI (AI (BQ G H I ?_));rw[ID (show (Al T != Br)=AD from by simp)];refine AI (BQ x l J ?_);rw[IE (show ¬((fl==rawInt L)=AD)from λz=>g (eq_of_beq z))];refine AI (FI x l (Dz.mp J).1 ?_);have c:∀b,b≠T->(s.heap.update T (Obj.mapFields (·.setIfInBounds 3 Br))).get? b=s.heap.get? b:=λb f=>DO _ _ (BI f);have a:∀b o,s.heap.get? b=AA o->(∀D,o.data ≠ .fields D)->b≠T:=λb o f d q=>by rw[q,x]at f;injection f with f;subst f;exact d Z l
  refine wpAny_newEntryW p (B.of_keeps λb o f d=>#[o,(c b (a b o f d)).trans f,rfl]) hf ((c e (BI w)).trans G)
   (λb o m=>(c b λq=>by rw[q,u]at m;cases m).trans (y b o m)) r H (Dz.mp I).1 h0
   λj #[x1,#[_,_,x2],x3,x4]=>C j #[x1,r,x2,x3] λb o f d=>x4 b o ((c b (a b o f d)).trans f) d
end
section
variable {P:A4}{w:Ae}{K:AG}{mg:AT->Option AH}{base:Au}{N:Hx AT}{qual:AT}{scope:BN}{f:AK}{cd:AH}{A:Af}{outer:Hx Env}{s₀:AJ}{H₀:Hp}{E:XK}
def zo1{F D H s e J}(I:Inv (yaK (CX1 P w) P w K mg base N qual scope f cd A outer s₀ H₀ E) F D H s)(h:CXH (yaK (CX1 P w) P w K mg base N qual scope f cd A outer s₀ H₀ E) H s E e J):
  (yaK (CX1 P w) P w K mg base N qual scope f cd A outer s₀ H₀ E).xe e J:=by
 let#[C,a,L,a0,fl,H',B,hC,rfl,os,t,#[f1,f2,M,f4],O,un,hB,tr,hT,hE]:=h;have c:Un (frs outer) [] H₀ H s₀.heap s.heap:=I.base;have lt:∀b o,s₀.heap.get? b=AA o->b≠s₀.heap.objs.size:=λb o q=>Ao (A2 q);have m:∀b o,s₀.heap.get? b=AA o->b≠C:=λb o q=>Ao (Aa (A2 q) hC);have p:∀b o,s₀.heap.get? b=AA o->b∉[C]:=λb o q z=>m b o q (by simpa using z);have x:∀b,b∈frs (envOfC qual scope s₀.heap.objs.size f cd::outer)->b=s₀.heap.objs.size \/ b∈frs outer:=λb d=>by have U:b∈s₀.heap.objs.size::frs outer:=d;exact AV.mp U
 have g:Un (frs (envOfC qual scope s₀.heap.objs.size f cd::outer)) [C] H H' s.heap J.heap:=un;have kB:∀b o,s₀.heap.get? b=AA o->H₀ b=AF->b∉frs outer->B.get? b=AA o:=λb o q n d=>hB b o (c.keep b o q n d (by simp)) (c.free b o q n (by simp)) (λz=>by
  rcases x b z with z|z
  .exact lt b o q z
  .exact d z) (m b o q)
 have kT:∀b o,s₀.heap.get? b=AA o->b∉frs outer->∃l,B.get? b=AA l:=λb o q d=>by
  let#[l,r]:=c.there b o q (by simp);refine hT b l r (λz=>?_) (m b o q);rcases x b z with z|z
  .exact lt b o q z
  .exact d z
 refine zd2 I.ok.frames rfl f1 f2 M f4 λh'' j up=>?_;refine#[a,L,a0,H',B,rfl,os.trans I.os,t,j,HOk.inB O f1 j.1 tr,#[λb o q n d _=>j.1 b o (kB b o q n d),λb o q n d _=>?_,λb o q n _=>?_,λb o q _=>?_,λb xs q=>g.tups b xs (c.tups b xs q),λb o u q=>g.frzs b o u (c.frzs b o u q),λb ps q=>?_],kB,tr,kT,hE]
 .let#[sl,r]:=c.slot b o q n d (by simp);have n1:=c.free b o q n (by simp);let#[sl1,G]:=g.slot b _ r n1 (AM _ d) (p b o q);let#[_,l,X,Y]:=CM M (show b∈DP (λ(z:Env)=>z.frame) _ from AM _ d);let#[y,Z]:=up b _ G (by rw[X]at G;cases G;exact Y);exact#[y,Z]
 .let#[l,r]:=c.there b o q (by simp);exact g.free b l r (c.free b o q n (by simp)) (p b o q)
 .let#[l,r]:=c.there b o q (by simp);let#[o2,G]:=g.there b l r (p b o q)
  by_cases d:b∈frs outer
  .let#[_,o3,ho3,Y]:=CM M (show b∈DP (λ(z:Env)=>z.frame) _ from AM _ d);let#[y,Z]:=up b _ ho3 Y;exact#[_,Z]
  .let#[o4,q4]:=kT b o q d;exact#[o4,j.1 b o4 q4]
 .let#[m1,e1]:=c.tbls b ps q;let#[m2,e2]:=g.tbls b _ e1;exact#[m1++m2,by rw[e2,Dq]]
end
section
variable {pg:A4}{wd:Ae}{A:Af}{R:Eb->AJ->Prop}{s:AJ}
end
section
variable {X:Cx}{sc:BN}{NC:Hx AT}{slots:Hx (Option Hy)}{elt tg iter:AW}{ifs:Hx AW}{pos:Bf}{g:TG}{ti:TT}{te:CI->TE}{E:XK}
end
end L2
namespace L2
open PySem PySem.Spec PyProof.Rows IC
structure Se where
 cl:Hy->AK
 call:Hy->Hx PV->SO->R PV
 may:IB
section
variable (S:Se)(X:Cx)
def ExcAt(C:St)(B:AK->Prop)(A:Ph)(H:Hp)(k:Hy)(b:SO)(e:AH)(g:AJ):Prop:=
 (∃D a s A1,Inv X D C a s/\Step A H A1 a/\CX1 X.prog X.w X.stack a s (λc _ d=>c=.ref (S.cl k)/\∃f,Step A1 a f d/\yr X.K S.cl B f d b) e g) \/
 (S.may=AD/\∃D a s A1 j l m,Inv X D C a s/\Step A H A1 a/\yr X.K S.cl B A1 a b/\Gq s.heap j l (.ref (S.cl k)) m/\e=.ref l/\g={s with heap:=j}) \/
 (S.may=AD/\∃D a s,Inv X D C a s/\CXH X a s (λc _ d=>c=.ref (S.cl k)/\∃f,Step A H f d/\yr X.K S.cl B f d b) e g)
def Run{E F:Type}(C:St)(B:AK->Prop)(A:Ph)(H:Hp)(Rel:Ph->Hp->E->F->Prop)(r:R E)(Q:F->Hp->Prop):Prop:=
 match r with
 |.ok v a=>∀x b c,Step A H c b->yr X.K S.cl B c b a->Rel c b v x->Q x b
 |.exc k a=>∀e d,ExcAt S X C B A H k a e d->X.xe e d
 |.bad=>IK
abbrev RV(B:AK->Prop):Ph->Hp->PV->V->Prop:=λA H=>yd X.K S.cl B A H
abbrev RL(B:AK->Prop):Ph->Hp->Hx PV->Hx V->Prop:=λA H=>yg X.K S.cl B A H
abbrev RB:Ph->Hp->IB->IB->Prop:=λ_ _ b c=>b=c
def tE(c:Ce):TE:=λC H Q=>∃B A st U,yr X.K S.cl B A H st/\yF X.K S.cl B A H U C/\Run S X C B A H (RV S X B) (ev S.call U st c) Q
def tAs(c:Ces):TA:=λC H Q=>∃B A st U,yr X.K S.cl B A H st/\yF X.K S.cl B A H U C/\Run S X C B A H (RL S X B) (evs S.call U st c) Q
def ya1(r:R PV):R IB:=r.bind λx st=>onO (yay st x) λb=>.ok b st
def tTs(c:Ce):TT:=λC H Q=>∃B A st U,yr X.K S.cl B A H st/\yF X.K S.cl B A H U C/\Run S X C B A H RB (ya1 (ev S.call U st c)) Q
end
section
variable {S:Se}{X:Cx}{C:St}{B:AK->Prop}{A A1:Ph}{H H1:Hp}
theorem ExcAt.back{k:Hy}{a:SO}{e:AH}{d:AJ}(s:Step A H A1 H1)(h:ExcAt S X C B A1 H1 k a e d):ExcAt S X C B A H k a e d:=by
 rcases h with⟨D,b,t,A2,I,q,c⟩|⟨m,D,b,t,A2,f,g,j,I,q,c⟩|⟨m,D,b,t,I,c⟩
 .exact .inl #[D,b,t,A2,I,s.trans q,c]
 .exact .inr (.inl #[m,D,b,t,A2,f,g,j,I,s.trans q,c])
 .exact .inr (.inr #[m,D,b,t,I,c.mono λl u #[n,o,p,r]=>#[n,o,s.trans p,r]])
variable {E F J G:Type}{Rel:Ph->Hp->E->F->Prop}{HU:Ph->Hp->J->G->Prop}
theorem Run.on{r:R E}{Q:F->Hp->Prop}(s:Step A H A1 H1)(h:Run S X C B A H Rel r Q):Run S X C B A1 H1 Rel r Q:=by
 cases r with
 |ok v a=>exact λx b c t=>h x b c (s.trans t)
 |exc k a=>exact λe d x=>h e d (x.back s)
 |bad=>exact h
theorem Run.mono{r:R E}{Q d:F->Hp->Prop}(h:Run S X C B A H Rel r Q)(k:∀x a,Q x a->d x a):Run S X C B A H Rel r d:=by
 cases r with
 |ok v b=>exact λx a f t g j=>k x a (h x a f t g j)
 |exc c b=>exact h
 |bad=>exact h
theorem Run.bind{r:R E}{k:E->SO->R J}{Q:G->Hp->Prop}(h:Run S X C B A H HU (r.bind k) Q):
  Run S X C B A H Rel r λx H1=>∃v a A1,Step A H A1 H1/\yr X.K S.cl B A1 H1 a/\Rel A1 H1 v x/\Run S X C B A1 H1 HU (k v a) Q:=by
 cases r with
 |ok v b=>exact λx j d t f g=>#[v,b,d,t,f,g,Run.on t h]
 |exc c b=>exact h
 |bad=>exact h
theorem Run.ok{v:E}{st:SO}{Q:F->Hp->Prop}(h:Run S X C B A H Rel (.ok v st) Q)(rs:yr X.K S.cl B A H st){x:F}(a:Rel A H v x):Q x H:=h x H A .rfl rs a
theorem PE.imp{e:AW}{t t':TE}(h:PE X e t')(k:∀C H Q,t C H Q->t' C H Q):PE X e t:=λD s C H Q I q=>h D s C H Q I (k C H Q q)
theorem PT.imp{e:AW}{t t':TT}(h:PT X e t')(k:∀C H Q,t C H Q->t' C H Q):PT X e t:=λD s C H Q I q=>h D s C H Q I (k C H Q q)
theorem PW.imp{e:AW}{t t':TT}(h:PW X e t')(k:∀C H Q,t C H Q->t' C H Q):PW X e t:=λa D s C H Q I q=>h a D s C H Q I (k C H Q q)
theorem PA.imp{e:Hx AW}{t t':TA}(h:PA X e t')(k:∀C H Q,t C H Q->t' C H Q):PA X e t:=λpos D s C H Q I q=>h pos D s C H Q I (k C H Q q)
theorem tE.bind{c:Ce}{U:IC.Env}{st:SO}{k:PV->SO->R J}{Q:G->Hp->Prop}{P:V->Hp->Prop}(rs:yr X.K S.cl B A H st)(d:yF X.K S.cl B A H U C)(h:Run S X C B A H HU ((ev S.call U st c).bind k) Q)
  (n:∀x H1 v a A1,Step A H A1 H1->yr X.K S.cl B A1 H1 a->yF X.K S.cl B A1 H1 U C->yd X.K S.cl B A1 H1 v x->Run S X C B A1 H1 HU (k v a) Q->P x H1):tE S X c C H P:=
 #[B,A,st,U,rs,d,(Run.bind h).mono λx H1 #[v,a,A1,s,b,f,g]=>n x H1 v a A1 s b (d.step s) f g]
theorem tAs.bind{c:Ces}{U:IC.Env}{st:SO}{k:Hx PV->SO->R J}{Q:G->Hp->Prop}{P:Hx V->Hp->Prop}(rs:yr X.K S.cl B A H st)(d:yF X.K S.cl B A H U C)(h:Run S X C B A H HU ((evs S.call U st c).bind k) Q)
  (n:∀x H1 v a A1,Step A H A1 H1->yr X.K S.cl B A1 H1 a->yF X.K S.cl B A1 H1 U C->yg X.K S.cl B A1 H1 v x->Run S X C B A1 H1 HU (k v a) Q->P x H1):tAs S X c C H P:=
 #[B,A,st,U,rs,d,(Run.bind h).mono λx H1 #[v,a,A1,s,b,f,g]=>n x H1 v a A1 s b (d.step s) f g]
variable {i:Hz}{b:IB}{x:AT}{j:Hy}{pos:Bf}{e a a':AW}{c ca cb cc:Ce}
def zlH:PE X (.Constant (.int i) j pos) (tE S X (.cst (.int i))):=zoE.imp λC H Q #[B,A,st,U,a,b,h]=>by erw[ev]at h;exact h.ok a (by erw[yd])
def znR:PE X (.Constant (.bool b) j pos) (tE S X (.cst (.bl b))):=zoO.imp λC H Q #[B,A,st,U,a,c,h]=>by erw[ev]at h;exact h.ok a (by erw[yd])
def zlE:PE X (.Constant .none j pos) (tE S X (.cst .non)):=zoP.imp λC H Q #[B,A,st,U,a,b,h]=>by erw[ev]at h;exact h.ok a (by erw[yd])
def zlX:PE X (.Constant (.str x) j pos) (tE S X (.cst (.str x))):=zoQ.imp λC H Q #[B,A,st,U,a,b,h]=>by erw[ev]at h;exact h.ok a (by erw[yd])
def zmZ{i:Hy}(b:X.N[i]?=AA x)(c:Vis X.env.scope x)(d:(x==("__debug__":AT))=false:=by decide)(a:(x==("__classdict__":AT))=false:=by decide):PE X (.Name x pos) (tE S X (.var i)):=
 (zjm b c d a).imp λC H Q #[B,A,st,U,f,g,h]=>by
  erw[ev]at h
  cases q:U[i]? with
  |none=>rw[q]at h;exact h.elim
  |some o=>
   cases o with
   |none=>rw[q]at h;exact h.elim
   |some v=>
    rw[q]at h;let#[y,j,l]:=g.get i v q;exact#[y,j,h.ok f l]
def zkl{v y}(a:Gl X x)(b:X.mg x=AA (.ref y))(c:∀B A H,yd X.K S.cl B A H v (.ref y))(d:(x==("__debug__":AT))=false:=by decide):PE X (.Name x pos) (tE S X (.cst v)):=
 (zca a b (show RelV (.ref y) (.ref y)from rfl) d).imp λC H Q #[B,A,st,U,f,g,h]=>by erw[ev]at h;exact h.ok f (c B A H)
def zac{o st Q}(h:Run S X C B A H (RV S X B) (toR o st) Q)(rs:yr X.K S.cl B A H st):∃z,o=AA z/\∀c a b,Step A H b a->yr X.K S.cl B b a st->yd X.K S.cl B b a z c->Q c a:=by
 cases o with
 |none=>exact h.elim
 |some z=>exact#[z,rfl,h]
def rT2(S:Se)(X:Cx)(f:PV->PV->Option PV):R2:=λx y H Q=>∃B A st v w z,yr X.K S.cl B A H st/\yd X.K S.cl B A H v x/\yd X.K S.cl B A H w y/\f v w=AA z /\
 ∀c a b,Step A H b a->yr X.K S.cl B b a st->yd X.K S.cl B b a z c->Q c a
def zl3{g o}(j:OpR X (binaryOp g) (rT2 S X (yw o)))(l:PE X a (tE S X ca))(m:PE X a' (tE S X cb)):PE X (.BinOp a g a' pos) (tE S X (.bin o ca cb)):=
 (znV j l m).imp λC H Q #[B,A,st,U,n,p,h]=>by erw[ev]at h;refine tE.bind n p h λx H1 v r A1 I c d t u=>tE.bind c d u λy J w f A2 D b E rw G=>?_;let#[z,e,q]:=zac G b;exact#[B,A2,f,v,w,z,b,t.step D,rw,e,q]
def znn{c o}(j:OpR X (compareOp c) (rT2 S X (yH o)))(l:PE X a (tE S X ca))(m:PE X a' (tE S X cb))(n:behindInMarks c a'=AC):PE X (.Compare a [c] [a'] pos) (tE S X (.cmp o ca cb)):=
 (zks j l m n).imp λC H Q #[B,A,st,U,p,r,h]=>by erw[ev]at h;refine tE.bind p r h λx H1 v t A1 J d f u D=>tE.bind d f D λy L w g A2 E b G rw I=>?_;let#[z,e,q]:=zac I b;exact#[B,A2,g,v,w,z,b,u.step E,rw,e,q]
end
section
variable {S:Se}{X:Cx}{D:St}{B:AK->Prop}{A A1:Ph}{H H1:Hp}{K:AG}{cl:Hy->AK}{st:SO}
theorem ybv.sq{k:IB}{a:AK}{xs:Hx V}(r:ybv K B A H k a xs):SqT K H a xs:=by
 rcases r with⟨r,_⟩|r
 .exact .inl (.inl r)
 .exact .inr r.2
theorem ybR.sq{a:AK}{xs:Hx V}(r:ybR B A H a xs):SqL K H a xs:=.inl (.inl r.1)
theorem yd.tup_new{vs:Hx PV}{xs:Hx V}{p:AK}(a:H p=AF)(rs:yr K cl B A H st)(r:yg K cl B A H vs xs):yd K cl B A (upd H p (.tup xs)) (.tup vs) (.ref p):=by
 erw[yd];refine#[p,xs,rfl,.inl #[zo,λz=>?_,λz=>?_],r.step (.upd a)]
 .let#[o,e]:=rs.dom p z;rw[a]at e;cases e
 .let#[o,e]:=rs.there z;rw[a]at e;cases e
theorem yd.lst_new{vs:Hx PV}{xs:Hx V}{p:AK}(a:H p=AF)(rs:yr K cl B A H st)(r:yg K cl B A H vs xs):yd K cl B A (upd H p (.lst xs)) (.lst vs) (.ref p):=by
 erw[yd];refine#[p,xs,rfl,#[zo,λz=>?_,λz=>?_],r.step (.upd a)]
 .let#[o,e]:=rs.dom p z;rw[a]at e;cases e
 .let#[o,e]:=rs.there z;rw[a]at e;cases e
theorem yg.append:∀{vs a:Hx PV} {xs ys:Hx V},yg K cl B A H vs xs->yg K cl B A H a ys->yg K cl B A H (vs++a) (xs++ys)
 |[],a,xs,ys,h,q=>by erw[yg]at h;subst h;exact q
 |v::vs,a,xs,ys,h,q=>by erw[yg]at h;let#[y,b,rfl,r,l]:=h;show yg K cl B A H (v::(vs++a)) (y::(b++ys));erw[yg];exact#[y,b++ys,rfl,r,yg.append l q]
theorem yg.get:∀{vs:Hx PV} {xs:Hx V} (j:Hy) {v:PV},yg K cl B A H vs xs->vs[j]?=AA v->∃x,xs[j]?=AA x/\yd K cl B A H v x
 |[],xs,j,v,h,e=>by simp at e
 |w::vs,xs,0,v,h,e=>by erw[yg]at h;let#[y,a,rfl,r,l]:=h;simp at e;subst e;exact#[y,rfl,r]
 |w::vs,xs,j+1,v,h,e=>by erw[yg]at h;let#[y,a,rfl,r,l]:=h;let#[x,b,c]:=yg.get j l (by simpa using e);exact#[x,by simpa using b,c]
theorem yg.drop:∀{vs:Hx PV} {xs:Hx V} (n:Hy),yg K cl B A H vs xs->yg K cl B A H (vs.drop n) (xs.drop n)
 |vs,xs,0,h=>by simpa using h
 |[],xs,n+1,h=>by erw[yg]at h;subst h;simp[yg]
 |v::vs,xs,n+1,h=>by erw[yg]at h;let#[y,a,rfl,_,l]:=h;simpa using yg.drop n l
theorem yg.take:∀{vs:Hx PV} {xs:Hx V} (n:Hy),yg K cl B A H vs xs->yg K cl B A H (vs.take n) (xs.take n)
 |vs,xs,0,h=>by simp[yg]
 |[],xs,n+1,h=>by erw[yg]at h;subst h;simp[yg]
 |v::vs,xs,n+1,h=>by erw[yg]at h;let#[y,a,rfl,r,l]:=h;erw[Hx.take_succ_cons,yg];exact#[y,a.take n,rfl,r,yg.take n l]
def zbx{f o C}{g:Hz->Hz->Hz}(h:OpR X f (rI C λi j=>.int (g i j)))
  (l:∀v w z,yw o v w=AA z->∃i j,v=.int i/\w=.int j/\C i j/\z=.int (g i j)):OpR X f (rT2 S X (yw o)):=by
 rintro E s D H x y v u Q I m n ⟨B,A,st,a,b,z,p,c,d,e,q⟩
 let#[i,j,rfl,rfl,r,rfl]:=l a b z e;erw[yd]at c d;subst c d;exact h E s D H _ _ v u Q I m n #[i,j,rfl,rfl,r,q _ H A .rfl p (by erw[yd])]
def zbP{f o}{g:Hz->Hz->Hz}(h:OpR X f (rI0 λi j=>.int (g i j)))
  (l:∀v w z,yw o v w=AA z->∃i j,v=.int i/\w=.int j/\z=.int (g i j)):OpR X f (rT2 S X (yw o)):=by
 rintro E s D H x y v u Q I m n ⟨B,A,st,a,b,z,p,c,d,e,q⟩
 let#[i,j,rfl,rfl,rfl]:=l a b z e;erw[yd]at c d;subst c d;exact h E s D H _ _ v u Q I m n #[i,j,rfl,rfl,q _ H A .rfl p (by erw[yd])]
def zkt(v w z:PV)(h:yw .sub v w=AA z):∃i j,v=.int i/\w=.int j/\z=.int (i-j):=by
 unfold yw at h;split at h<;>first|(cases h;done)|skip
 exact#[_,_,rfl,rfl,(A0 h).symm]
def zkU(v w z:PV)(h:yw .mul v w=AA z):∃i j,v=.int i/\w=.int j/\ycs i j/\z=.int (i*j):=by
 unfold yw at h;split at h<;>first|(cases h;done)|skip
 rename_i i j;erw[IC.binI]at h;split at h
 .rename_i c;refine#[i,j,rfl,rfl,?_,(A0 h).symm];erw[yap,Bc,IA]at c;unfold ycs;rcases c with c|c
  .left;constructor<;>lia
  .right;constructor<;>lia
 .cases h
def ziy(v w z:PV)(h:yw .fdiv v w=AA z):∃i j,v=.int i/\w=.int j/\ydn i j/\z=.int (i/j):=by
 unfold yw at h;split at h<;>first|(cases h;done)|skip
 rename_i i j;erw[IC.binI]at h;split at h
 .rename_i c;exact#[i,j,rfl,rfl,c,(A0 h).symm]
 .cases h
def zkC(v w z:PV)(h:yw .mod v w=AA z):∃i j,v=.int i/\w=.int j/\0<j/\z=.int (i%j):=by
 unfold yw at h;split at h<;>first|(cases h;done)|skip
 rename_i i j;erw[IC.binI]at h;split at h
 .rename_i c;exact#[i,j,rfl,rfl,c,(A0 h).symm]
 .cases h
def zla(v w z:PV)(h:yw .pow v w=AA z):∃i j,v=.int i/\w=.int j/\yfL i j/\z=.int (i^j.toNat):=by
 unfold yw at h;split at h<;>first|(cases h;done)|skip
 rename_i i j;erw[IC.binI]at h;split at h
 .rename_i c;exact#[i,j,rfl,rfl,#[c.1,c.2.1,by have:=c.2.2;lia],(A0 h).symm]
 .cases h
def zkW(v w z:PV)(h:yw .shl v w=AA z):∃i j,v=.int i/\w=.int j/\yfJ i j/\z=.int (i*2^j.toNat):=by
 unfold yw at h;split at h<;>first|(cases h;done)|skip
 rename_i i j;erw[IC.binI]at h;split at h
 .rename_i c;exact#[i,j,rfl,rfl,#[c.1,c.2.1,by have:=c.2.2;lia],(A0 h).symm]
 .cases h
def zjG(v w z:PV)(h:yw .shr v w=AA z):∃i j,v=.int i/\w=.int j/\0<=j/\z=.int (i/2^j.toNat):=by
 unfold yw at h;split at h<;>first|(cases h;done)|skip
 rename_i i j;erw[IC.binI]at h;split at h
 .rename_i c;exact#[i,j,rfl,rfl,c,(A0 h).symm]
 .cases h
def zig(v w z:PV)(h:yw .band v w=AA z):∃i j,v=.int i/\w=.int j/\z=.int (Bk i j):=by
 unfold yw at h;split at h<;>first|(cases h;done)|skip
 exact#[_,_,rfl,rfl,(A0 h).symm]
def zkV(v w z:PV)(h:yw .bor v w=AA z):∃i j,v=.int i/\w=.int j/\z=.int (FY i j):=by
 unfold yw at h;split at h<;>first|(cases h;done)|skip
 exact#[_,_,rfl,rfl,(A0 h).symm]
def ziv(v w z:PV)(h:yw .bxor v w=AA z):∃i j,v=.int i/\w=.int j/\z=.int (FG i j):=by
 unfold yw at h;split at h<;>first|(cases h;done)|skip
 exact#[_,_,rfl,rfl,(A0 h).symm]
def zne:OpR X (binaryOp .Sub) (rT2 S X (yw .sub)):=zbP znc zkt
def znu:OpR X (binaryOp .Mult) (rT2 S X (yw .mul)):=zbx zmp zkU
def zk0:OpR X (binaryOp .FloorDiv) (rT2 S X (yw .fdiv)):=zbx zhS ziy
def zmj:OpR X (binaryOp .Mod) (rT2 S X (yw .mod)):=zbx zm1 zkC
def zlu:OpR X (binaryOp .Pow) (rT2 S X (yw .pow)):=zbx zlt zla
def znt:OpR X (binaryOp .LShift) (rT2 S X (yw .shl)):=zbx zkc zkW
def zmK:OpR X (binaryOp .RShift) (rT2 S X (yw .shr)):=zbx zm6 zjG
def zkX:OpR X (binaryOp .BitAnd) (rT2 S X (yw .band)):=zbP znB zig
def zlD:OpR X (binaryOp .BitOr) (rT2 S X (yw .bor)):=zbP zn4 zkV
def zkn:OpR X (binaryOp .BitXor) (rT2 S X (yw .bxor)):=zbP zmW ziv
def zz:sizeMax=sizeLine:=by rw[DF];rfl
def zjL:OpR X (binaryOp .Add) (λx y H Q=>∃a b o,x=.ref a/\y=.ref b/\SqT X.K H a []/\SqT X.K H b o/\Q (.ref b) H):=by
 intro E s D H x y v u Q I A B h;let#[a,b,o,rfl,rfl,C,G,q]:=h
 cases A
 cases B
 let#[j,J,L,_]:=I.tuple C;let#[c,Z,M,_]:=I.tuple G;have:j=[]:=J.nil_iff.mpr rfl;subst this;let#[#[N,O,p,U],r,t,n,w]:=id L;let#[#[z,l,data2,m],d,f,Y,g]:=id M;simp only at t w f g;subst t w f g;exact Fm #[_,r,rfl] #[_,d,rfl] EZ FZ DN DG (DA _ _)
   (tuple_addW0 a b [].toArray c.toArray n Y O l U m (by simp)) #[r,d,#[.ref b,H,I,rfl,q]]
def znv:OpR X (binaryOp .Add) (rT2 S X (yw .add)):=by
 rintro E s D H x y v u Q I m n ⟨B,A,st,a,b,z,g,d,f,e,q⟩
 unfold yw at e;split at e
 .rename_i i j;erw[yd]at d f;subst d f
  cases e
  exact znb E s D H _ _ v u Q I m n #[i,j,rfl,rfl,q _ H A .rfl g (by erw[yd])]
 .rename_i i k;erw[yd]at d f;subst d f
  cases e
  exact zgM E s D H _ _ v u Q I m n #[i,k,rfl,rfl,q _ H A .rfl g (by erw[yd];cases k<;>rfl)]
 .rename_i i j;erw[yd]at d f;subst d f;dsimp only at e;split at e
  .rename_i c
   cases e
   exact zfq E s D H _ _ v u Q I m n #[i,j,rfl,rfl,by rw[<-zz];exact c,q _ H A .rfl g (by erw[yd])]
  .cases e
 .rename_i Y U Z M;erw[yd]at d f;let#[p,o,rfl,C,r]:=d;let#[G,J,rfl,L,w]:=f;dsimp only at e;split at e
  .rename_i c
   cases e
   have N:=r.length;have O:=w.length;unfold yfk at q
   cases U with
   |nil=>
    have:o=[]:=by cases o with|nil=>rfl|cons _ _=>simp at N
    subst this;refine zjL E s D H _ _ v u Q I m n #[p,G,J,rfl,rfl,C.sq,L.sq,q _ H A .rfl g ?_];erw[GT,IF,yd];exact#[G,J,rfl,L,w]
   |cons v1 vr=>
    erw[Fz,CD,IL]at q;refine zkG E s D H _ _ v u Q I m n #[p,G,o,J,rfl,rfl,C.sq,L.sq,?_,by rw[<-zz];lia,λz=>?_,λz t l=>?_]
    .rintro rfl
     simp at N
    .subst z;have:M=[]:=by cases M with|nil=>rfl|cons _ _=>simp at O
     subst this;erw[GT,IF]at q;refine q _ H A .rfl g ?_;erw[yd];exact#[p,o,rfl,C,r]
    .cases M with
     |nil=>exact IG (Hx.length_eq_zero_iff.mp O.symm) z
     |cons w1 wr=>
      erw[Fz,CD,IL]at q;exact q _ _ A (.upd l) (g.upd l) (.tup_new l g (r.append w))
  .cases e
 .rename_i U M;erw[yd]at d f;let#[p,o,rfl,C,r]:=d;let#[G,J,rfl,L,w]:=f;dsimp only at e;split at e
  .rename_i c
   cases e
   have N:=r.length;have O:=w.length;exact zlR E s D H _ _ v u Q I m n #[p,G,o,J,rfl,rfl,C.1,L.1,by rw[<-zz];lia,λt l=>q _ _ A (.upd l) (g.upd l) (.lst_new l g (r.append w))]
  .cases e
 .cases e
end
mutual
noncomputable def toD:PV->PyData
 |.non=>.none
 |.bl b=>.bool b
 |.int i=>.int i
 |.str x=>.str x
 |.tp _ a=>.tuple (ybx a)
 |.lst a=>.list (ybx a)
 |_=>.none
noncomputable def ybx:Hx PV->Hx PyData
 |[]=>[]
 |x::a=>toD x::ybx a
end
mutual
theorem zhI:∀(v:PV) (n:Hy),shd n v=AD->(toD v).canLay0=AD/\(toD v).depth<=n
 |.non,n,h=>by simp[toD,Bj,B7]
 |.bl b,n,h=>by simp[toD,Bj,B7]
 |.int i,n,h=>by simp[toD,Bj,B7]
 |.str x,n,h=>by erw[shd]at h;erw[toD,Bj,B7,BP,and_true];exact h
 |.tp _ a,n,h=>by erw[shd,AL,IA]at h;let#[c,d]:=zc5 a (n-1) h.2;erw[toD,Bj,B7];exact#[c,()]
 |.lst a,n,h=>by erw[shd,AL,IA]at h;let#[c,d]:=zc5 a (n-1) h.2;erw[toD,Bj,B7];exact#[c,()]
 |.loc k,n,h=>by simp[shd]at h
 |.fnc k,n,h=>by simp[shd]at h
 |.exn k,n,h=>by simp[shd]at h
 |.scr a,n,h=>by simp[shd]at h
theorem zc5:∀(v:Hx PV) (n:Hy),ybA n v=AD->CQ (ybx v)=AD/\B1 (ybx v)<=n
 |[],n,h=>by simp[ybx,CQ,B1]
 |v::a,n,h=>by erw[ybA,AL]at h;let#[b,d]:=zhI v n h.1;let#[c,q4]:=zc5 a n h.2;erw[ybx,CQ,B1,AL];exact#[#[b,c],()]
end
def zaV{v:PV}(h:shp v=AD):HV (toD v)=true:=by let#[a,b]:=zhI v 60 h;unfold HV;rw[a,Az,IA];lia
mutual
theorem zel:∀(v w:PV) (n m:Hy),shd n v=AD->shd m w=AD->CC (toD v) (toD w)=peq v w
 |.non,w,n,m,h,q=>by cases w<;>first|rfl|exact IG q AR
 |.bl b,w,n,m,h,q=>by cases w<;>first|rfl|exact IG q AR
 |.int i,w,n,m,h,q=>by cases w<;>first|rfl|exact IG q AR
 |.str x,w,n,m,h,q=>by cases w<;>first|rfl|exact IG q AR
 |.tp _ a,.tp _ c,n,m,h,q=>by have h:=BU.1 h;have q:=BU.1 q;exact zc8 a c (n-1) (m-1) h.2 q.2
 |.lst a,.lst c,n,m,h,q=>by have h:=BU.1 h;have q:=BU.1 q;exact zc8 a c (n-1) (m-1) h.2 q.2
 |.tp _ a,.non,n,m,h,q=>rfl
 |.tp _ a,.bl _,n,m,h,q=>rfl
 |.tp _ a,.int _,n,m,h,q=>rfl
 |.tp _ a,.str _,n,m,h,q=>rfl
 |.tp _ a,.lst _,n,m,h,q=>rfl
 |.lst a,.non,n,m,h,q=>rfl
 |.lst a,.bl _,n,m,h,q=>rfl
 |.lst a,.int _,n,m,h,q=>rfl
 |.lst a,.str _,n,m,h,q=>rfl
 |.lst a,.tp _ _,n,m,h,q=>rfl
 |.loc k,w,n,m,h,q=>IG h AR
 |.fnc k,w,n,m,h,q=>IG h AR
 |.exn k,w,n,m,h,q=>IG h AR
 |.scr k,w,n,m,h,q=>IG h AR
 |v,.loc k,n,m,h,q=>IG q AR
 |v,.fnc k,n,m,h,q=>IG q AR
 |v,.exn k,n,m,h,q=>IG q AR
 |v,.scr k,n,m,h,q=>IG q AR
theorem zc8:∀(v w:Hx PV) (n m:Hy),ybA n v=AD->ybA m w=AD->Cc (ybx v) (ybx w)=ybV v w
 |[],[],n,m,h,q=>rfl
 |[],y::a,n,m,h,q=>rfl
 |x::b,[],n,m,h,q=>rfl
 |x::b,y::a,n,m,h,q=>by have h:=BU.1 h;have q:=BU.1 q;show (CC (toD x) (toD y)&&Cc (ybx b) (ybx a))=(peq x y&&ybV b a);rw[zel x y n m h.1 q.1,zc8 b a n m h.2 q.2]
end
section
variable {S:Se}{X:Cx}{D:St}{B:AK->Prop}{C C1:Ph}{H H1:Hp}{st:SO}{E:Hx (AK×Be)}{s:AJ}
mutual
theorem zbk(I:Inv X E D H s):∀(v:PV) (n:Hy) (x:V) (u:AH),shd n v=AD->yd X.K S.cl B C H v x->RelV x u->∃j,Reads s.heap u (toD v) j
 |.non,n,x,u,h,r,q=>by erw[yd]at r;subst r;cases (show u=Br from q);exact#[_,.none]
 |.bl b,n,x,u,h,r,q=>by erw[yd]at r;subst r;cases (show u=Dp b from q);exact#[_,.bool b]
 |.int i,n,x,u,h,r,q=>by erw[yd]at r;subst r;let#[t,rfl]:=q;exact#[_,.int i t]
 |.str y,n,x,u,h,r,q=>by erw[yd]at r;subst r;let#[t,rfl]:=q;exact#[_,.str y t]
 |.tp _ m,n,x,u,h,r,q=>by
  erw[yd]at r;let#[a,p,rfl,w,l]:=r
  cases (show u=Al a from q)
  erw[shd,AL]at h;let#[f,A,#[o,g,c,k,d],_]:=I.tuple w.sq;let#[j,z]:=zb3 I m (n-1) p f h.2 l A;exact#[j,.tuple g c d (by simpa using z)]
 |.lst m,n,x,u,h,r,q=>by
  erw[yd]at r;let#[a,p,rfl,w,l]:=r
  cases (show u=Al a from q)
  erw[shd,AL]at h;let#[f,A,#[o,k,g,c,_,d],_]:=I.list (w.sq (K:=X.K));let#[j,z]:=zb3 I m (n-1) p f h.2 l A;exact#[_,.list g c d (by simpa using z)]
 |.loc k,n,x,u,h,r,q=>by simp[shd]at h
 |.fnc k,n,x,u,h,r,q=>by simp[shd]at h
 |.exn k,n,x,u,h,r,q=>by simp[shd]at h
 |.scr k,n,x,u,h,r,q=>by simp[shd]at h
theorem zb3(I:Inv X E D H s):∀(v:Hx PV) (n:Hy) (x:Hx V) (u:Hx AH),ybA n v=AD->yg X.K S.cl B C H v x->Vals x u->∃a,ReadsAll s.heap u (ybx v) a
 |[],n,x,u,h,r,q=>by erw[yg]at r;subst r;cases q;exact#[_,.nil]
 |v::b,n,x,u,h,r,q=>by
  erw[yg]at r;let#[y,c,rfl,d,l]:=r;erw[ybA,AL]at h
  cases q with
  |cons f g=>
   let#[a,j]:=zbk I v n y _ h.1 d f;let#[bs,m]:=zb3 I b n c _ h.2 l g;exact#[_,.cons j m]
end
def zn7(d:X.A.units+64<cLine):OpR X (compareOp .Eq) (rT2 S X (yH .eq)):=by
 rintro E s D H x y v u Q I f g ⟨B,C,st,a,b,z,j,l,m,e,q⟩
 erw[yH]at e;split at e
 .rename_i c;rw[AL]at c
  cases e
  let#[p,n]:=zbk (S:=S) I a 60 x v c.1 l f;let#[bs,o]:=zbk (S:=S) I b 60 y u c.2 m g;refine eq_dataH n o (zaV c.1) (zaV c.2) d #[.bl _,H,I,rfl,?_];rw[zel a b 60 60 c.1 c.2];exact q _ H C .rfl j (by erw[yd])
 .cases e
def zob(d:X.A.units+64<cLine):OpR X (compareOp .NotEq) (rT2 S X (yH .ne)):=by
 rintro E s D H x y v u Q I f g ⟨B,C,st,a,b,z,j,l,m,e,q⟩
 erw[yH]at e;split at e
 .rename_i c;rw[AL]at c
  cases e
  let#[p,n]:=zbk (S:=S) I a 60 x v c.1 l f;let#[bs,o]:=zbk (S:=S) I b 60 y u c.2 m g;refine ne_dataH n o (zaV c.1) (zaV c.2) d #[.bl _,H,I,rfl,?_];rw[zel a b 60 60 c.1 c.2];exact q _ H C .rfl j (by erw[yd])
 .cases e
def zgi{f o}{g:Hz->Hz->IB}(h:OpR X f (rI0 λi j=>.bl (g i j)))
  (l:∀v w z,yH o v w=AA z->∃i j,v=.int i/\w=.int j/\z=.bl (g i j)):OpR X f (rT2 S X (yH o)):=by
 rintro E s D H x y v u Q I m n ⟨B,C,st,a,b,z,p,c,d,e,q⟩
 let#[i,j,rfl,rfl,rfl]:=l a b z e;erw[yd]at c d;subst c d;exact h E s D H _ _ v u Q I m n #[i,j,rfl,rfl,q _ H C .rfl p (by erw[yd])]
def zgK:OpR X (compareOp .LtE) (λx y H Q=>∃i j,x=.str i/\y=.str j/\Q (.bl (!decide (j.cps.toList<i.cps.toList))) H):=by intro E s D H x y v u Q I a b h;let#[i,j,rfl,rfl,q]:=h;let#[t,rfl]:=a;let#[c,rfl]:=b;exact PySem.P.le_str (ze6 I q rfl)
def zoi:OpR X (compareOp .Lt) (rT2 S X (yH .lt)):=by
 rintro E s D H x y v u Q I f g ⟨B,C,st,a,b,z,l,c,d,e,q⟩
 erw[yH]at e;split at e
 .rename_i i j;erw[yd]at c d;subst c d
  cases e
  exact zof E s D H _ _ v u Q I f g #[i,j,rfl,rfl,q _ H C .rfl l (by erw[yd])]
 .rename_i i j;erw[yd]at c d;subst c d
  cases e
  exact zgk E s D H _ _ v u Q I f g #[i,j,rfl,rfl,q _ H C .rfl l (by erw[yd])]
 .cases e
def znH:OpR X (compareOp .LtE) (rT2 S X (yH .le)):=by
 rintro E s D H x y v u Q I f g ⟨B,C,st,a,b,z,l,c,d,e,q⟩
 erw[yH]at e;split at e
 .rename_i i j;erw[yd]at c d;subst c d
  cases e
  exact znQ E s D H _ _ v u Q I f g #[i,j,rfl,rfl,q _ H C .rfl l (by erw[yd])]
 .rename_i i j;erw[yd]at c d;subst c d
  cases e
  exact zgK E s D H _ _ v u Q I f g #[i,j,rfl,rfl,q _ H C .rfl l (by erw[yd])]
 .cases e
def zfl{o}{g:Hz->Hz->IB}(c:∀v w,yH o v w=match v,w with
   |.int i,.int j=>ybB o i j
   |.str a,.str b=>yeT o a b
   |_,_=>AF) (d:∀a b,yeT o a b=AF) (f:∀i j,ybB o i j=AA (.bl (g i j))) (v w z:PV) (h:yH o v w=AA z):∃i j,v=.int i/\w=.int j/\z=.bl (g i j):=by
 rw[c]at h;split at h
 .rename_i i j;rw[f]at h;exact#[i,j,rfl,rfl,(A0 h).symm]
 .rw[d]at h;cases h
 .cases h
def zn5:OpR X (compareOp .Gt) (rT2 S X (yH .gt)):=zgi znF (zfl (λ_ _=>rfl) (λ_ _=>rfl) λ_ _=>rfl)
def znY:OpR X (compareOp .GtE) (rT2 S X (yH .ge)):=zgi znJ (zfl (λ_ _=>rfl) (λ_ _=>rfl) λ_ _=>rfl)
theorem yd.isNon{K:AG}{f:Hy->AK}{v:PV}{x:V}(r:yd K f B C H v x):decide (x=.non)=IC.isNon v:=by
 cases v with
 |loc n=>erw[yd]at r;let#[_,a,rfl,_]:=r;rfl
 |non=>erw[yd]at r;subst r;rfl
 |bl b=>erw[yd]at r;subst r;rfl
 |int b=>erw[yd]at r;subst r;rfl
 |str b=>erw[yd]at r;subst r;rfl
 |tp k c=>erw[yd]at r;let#[a,d,rfl,_]:=r;rfl
 |lst c=>erw[yd]at r;let#[a,d,rfl,_]:=r;rfl
 |fnc j=>erw[yd]at r;subst r;rfl
 |exn c=>erw[yd]at r;let#[a,rfl,_]:=r;rfl
 |scr c=>erw[yd]at r;let#[a,d,rfl,_]:=r;rfl
theorem yd.flat{K:AG}{c:Hy->AK}{v:PV}{x:V}(r:yd K c B C H v x)(h:IC.flat v=AD):yaY x=AD/\∀(w:PV) (y:V),IC.flat w=AD->yd K c B C H w y->eqV x y=peq v w:=by
 cases v with
 |non=>
  erw[yd]at r;subst r;refine#[rfl,λw y a rw=>?_]
  cases w<;>first|(simp[IC.flat]at a;done)|(erw[yd]at rw;subst rw;rfl)
 |bl b=>
  erw[yd]at r;subst r;refine#[rfl,λw y a rw=>?_]
  cases w<;>first|(simp[IC.flat]at a;done)|(erw[yd]at rw;subst rw;rfl)
 |int b=>
  erw[yd]at r;subst r;refine#[rfl,λw y a rw=>?_]
  cases w<;>first|(simp[IC.flat]at a;done)|(erw[yd]at rw;subst rw;rfl)
 |str b=>
  erw[yd]at r;subst r;refine#[rfl,λw y a rw=>?_]
  cases w<;>first|(simp[IC.flat]at a;done)|(erw[yd]at rw;subst rw;rfl)
 |_=>simp[IC.flat]at h
def zcl{K a v x}(r:yd K a B C H v x)(h:IC.flat v=AD):∀{vs}{xs:Hx V},yg K a B C H vs xs->vs.all IC.flat=AD->xs.all yaY=AD/\inV x xs=inL v vs
 |[],xs,l,_=>by erw[yg]at l;subst l;exact#[rfl,rfl]
 |w::vs,xs,l,f=>by erw[yg]at l;let#[y,g,rfl,rw,l]:=l;rw[Aq,AL]at f;let#[c,b]:=zcl r h l f.2;let#[d,q4]:=rw.flat f.1;refine#[by rw[Aq,d,c];rfl,?_];unfold inV at b ⊢;rw[By,b,q4 v x h r];rfl
end
def zhx(a b):(!(DE b a 0 b.length 1).isEmpty)=inS a b:=by
 rw[Ga,StrLaws.found_iff];unfold inS;rw[DW];constructor
 .rintro⟨i,c,d⟩
  exact#[i,by rw[Gi];lia,by rw[AL,IA];exact#[c,d]]
 .rintro⟨i,_,h⟩
  rw[AL,IA]at h;exact#[i,h.1,h.2]
section
variable {S:Se}{X:Cx}{C:St}{B:AK->Prop}{A A1:Ph}{H H1:Hp}{st:SO}
def znT:OpR X (compareOp .In) (rT2 S X (yH .isin)):=by
 rintro D s C H x y v u Q I g m ⟨B,A,st,a,b,z,n,d,f,e,q⟩
 erw[yH]at e;split at e
 .rename_i i j;erw[yd]at d f;subst d f
  cases e
  exact zf4 D s C H _ _ v u Q I g m #[i,j,rfl,rfl,by rw[zhx];exact q _ H A .rfl n (by erw[yd])]
 .rename_i l;split at e
  .rename_i c;rw[AL]at c
   cases e
   erw[yd]at f;let#[p,o,rfl,r,t]:=f;let#[w,E]:=zcl d c.1 t c.2;exact zdo D s C H _ _ v u Q I g m #[p,o,rfl,.inr r.sq,(d.flat c.1).1,w,q _ H A .rfl n (by erw[yd];rw[<-E];rfl)]
  .cases e
 .rename_i l;split at e
  .rename_i c;rw[AL]at c
   cases e
   erw[yd]at f;let#[p,o,rfl,r,t]:=f;let#[w,E]:=zcl d c.1 t c.2;exact zdo D s C H _ _ v u Q I g m #[p,o,rfl,.inl r.sq,(d.flat c.1).1,w,q _ H A .rfl n (by erw[yd];rw[<-E];rfl)]
  .cases e
 .cases e
def zhP:OpR X (compareOp .NotIn) (rT2 S X (yH .notin)):=by
 rintro D s C H x y v u Q I g m ⟨B,A,st,a,b,z,n,d,f,e,q⟩
 erw[yH]at e;split at e
 .rename_i i j;erw[yd]at d f;subst d f
  cases e
  exact zdH D s C H _ _ v u Q I g m #[i,j,rfl,rfl,by rw[zhx];exact q _ H A .rfl n (by erw[yd])]
 .rename_i l;split at e
  .rename_i c;rw[AL]at c
   cases e
   erw[yd]at f;let#[p,o,rfl,r,t]:=f;let#[w,E]:=zcl d c.1 t c.2;exact zbE D s C H _ _ v u Q I g m #[p,o,rfl,.inr r.sq,(d.flat c.1).1,w,q _ H A .rfl n (by erw[yd];rw[<-E];rfl)]
  .cases e
 .rename_i l;split at e
  .rename_i c;rw[AL]at c
   cases e
   erw[yd]at f;let#[p,o,rfl,r,t]:=f;let#[w,E]:=zcl d c.1 t c.2;exact zbE D s C H _ _ v u Q I g m #[p,o,rfl,.inl r.sq,(d.flat c.1).1,w,q _ H A .rfl n (by erw[yd];rw[<-E];rfl)]
  .cases e
 .cases e
theorem yg.empty{K:AG}{a:Hy->AK}{vs:Hx PV}{xs:Hx V}(l:yg K a B A H vs xs):vs.isEmpty=xs.isEmpty:=by
 have:=l.length
 cases vs<;>cases xs<;>simp_all
def zkO{K g v x k}(rs:yr K g B A H st)(r:yd K g B A H v x)(h:yay st v=AA k):yd4 K x H k:=by
 cases v with
 |non=>erw[yd]at r;subst r;cases h;rfl
 |bl b=>erw[yd]at r;subst r;cases h;rfl
 |int b=>erw[yd]at r;subst r;cases h;rfl
 |str b=>
  erw[yd]at r;subst r;erw[yay]at h;split at h
  .rename_i c
   cases h
   exact#[by rw[<-zz];exact c,rfl]
  .cases h
 |tp k j=>
  erw[yd]at r;let#[a,d,rfl,f,l]:=r
  cases h
  exact .inr (.inl #[d,f.sq,by rw[l.empty]])
 |lst j=>
  erw[yd]at r;let#[a,d,rfl,f,l]:=r
  cases h
  exact .inl #[d,f.sq,by rw[l.empty]]
 |loc n=>
  erw[yd]at r;let#[y,a,rfl,t]:=r;erw[yay]at h;split at h
  .rename_i j m
   cases h
   let#[b,p]:=rs.liv n _ m (by intro z;cases z);obtain rfl:=t b p;let#[o,q,u]:=rs.obj n b p;rw[m]at q;cases q;let#[d,w,l]:=u;exact .inl #[d,.of w,by rw[l.empty]]
  .cases h
 |fnc c=>cases h
 |exn c=>cases h
 |scr c=>cases h
end
theorem R.bind_assoc{A B J:Type}{r:R A}{k:A->SO->R B}{l:B->SO->R J}:(r.bind k).bind l=r.bind λa s=>(k a s).bind l:=by cases r<;>rfl
section
variable {S:Se}{X:Cx}{C:St}{B:AK->Prop}{A A1:Ph}{H H1:Hp}{st:SO}{U:IC.Env}{pos:Bf}{a b c d:AW}{ca cb cc:Ce}{es:Hx AW}{ces:Ces}
def zc6{o}{v w z:PV}(h:yH o v w=AA z):∃k,z=.bl k:=by
 cases o<;>erw[yH]at h
 all_goals (repeat' split at h)<;>first|(cases h;done)|(cases h;exact#[_,rfl])|skip
 all_goals (erw[ybB]at h;cases h;exact#[_,rfl])
def znd{d o}(p:OpR X (compareOp d) (rT2 S X (yH o)))(q:PE X a (tE S X ca))(r:PE X b (tE S X cb))(t:behindInMarks d b=AC):PT X (.Compare a [d] [b] pos) (tTs S X (.cmp o ca cb)):=
 (zjE p q r t).imp λC H Q #[B,A,st,U,u,D,h]=>by
  erw[ev,ya1,R.bind_assoc]at h;refine tE.bind u D h λx H1 v E A1 Y f g G I=>tE.bind f g I λy Z w j A2 J l L rw c=>?_
  cases e:yH o v w with
  |none=>rw[e]at c;exact c.elim
  |some z=>
   let#[k,rfl]:=zc6 e;rw[e]at c;refine#[B,A2,j,v,w,.bl k,l,G.step J,rw,e,λz' M N O m n=>?_];erw[yd]at n;exact#[k,n,c k M N O m rfl]
def zmS(f:PE X a (tE S X ca))(g:∀whole,isTrue a X.env whole=(do let v <-whole;standAt a.pos;holding [v] (truthy v)):=by intro _;rfl):PT X a (tTs S X ca):=
 (ziO f g).imp λC H Q #[B,A,st,U,j,l,h]=>by
  erw[ya1]at h;refine tE.bind j l h λx H1 v d A1 o b m n c=>?_
  cases e:yay d v with
  |none=>rw[e]at c;exact c.elim
  |some k=>
   rw[e]at c;exact#[k,zkO b n e,c.ok b rfl]
theorem tTs.bind{J D:Type}{HU:Ph->Hp->J->D->Prop}{k:IB->SO->R J}{Q:D->Hp->Prop}{P:IB->Hp->Prop}(rs:yr X.K S.cl B A H st)(d:yF X.K S.cl B A H U C)(h:Run S X C B A H HU ((ya1 (ev S.call U st ca)).bind k) Q)
  (n:∀b H1 a A1,Step A H A1 H1->yr X.K S.cl B A1 H1 a->yF X.K S.cl B A1 H1 U C->Run S X C B A1 H1 HU (k b a) Q->P b H1):tTs S X ca C H P:=
 #[B,A,st,U,rs,d,(Run.bind h).mono λx H1 #[v,a,A1,s,c,f,g]=>by subst f;exact n v H1 a A1 s c (d.step s) g]
def zec(r:R PV)(f:IB->SO->R PV):ya1 (r.bind λx a=>onBl x λb=>f b a)=r.bind λx a=>onBl x λb=>ya1 (f b a):=by
 unfold ya1;rw[R.bind_assoc]
 congr 1
 funext x a
 cases x<;>rfl
theorem Run.bl_tru{r:R PV}{k:IB->SO->R IB}{Q:IB->Hp->Prop}(h:Run S X C B A H RB (r.bind λx a=>onBl x λb=>k b a) Q):Run S X C B A H RB ((ya1 r).bind k) Q:=by
 cases r with
 |bad=>exact h
 |exc c s=>exact h
 |ok v s=>
  cases v with
  |bl b=>exact h
  |_=>exact h.elim
def zl1(f:PT X a (tTs S X ca)):PT X (.UnaryOp .Not a pos) (tTs S X (.not ca)):=
 (zlY f).imp λC H Q #[B,A,st,U,g,j,h]=>by erw[ev]at h;rw[zec _ λk c=>.ok (.bl (!k)) c]at h;exact tTs.bind g j (Run.bl_tru (k:=λb c=>.ok (!b) c) h) λb H1 c A1 n d l m=>m.ok d rfl
variable {rest:Hx AW}
def zkM(b:PT X a (tTs S X ca)):PW X (.BoolOp .And [a] pos) (tTs S X ca):=zku b
def zll(b:PT X a (tTs S X ca)):PW X (.BoolOp .Or [a] pos) (tTs S X ca):=zlT b
def zmP(j:PT X a (tTs S X ca))(l:PW X (.BoolOp .And (b::rest) pos) (tTs S X cb)):PW X (.BoolOp .And (a::b::rest) pos) (tTs S X (.and ca cb)):=
 (zlh j l).imp λC H Q #[B,A,st,U,m,n,h]=>by
  erw[ev]at h;rw[zec _ λk c=>cond k (ev S.call U c cb) (.ok (.bl AC) c)]at h;refine tTs.bind m n (Run.bl_tru h) λk H1 c A1 o d f g=>?_
  cases k with
  |false=>exact g.ok d rfl
  |true=>exact#[B,A1,c,U,d,f,g]
def zn6(j:PT X a (tTs S X ca))(l:PW X (.BoolOp .Or (b::rest) pos) (tTs S X cb)):PW X (.BoolOp .Or (a::b::rest) pos) (tTs S X (.or ca cb)):=
 (znW j l).imp λC H Q #[B,A,st,U,m,n,h]=>by
  erw[ev]at h;rw[zec _ λk c=>cond k (.ok (.bl AD) c) (ev S.call U c cb)]at h;refine tTs.bind m n (Run.bl_tru h) λk H1 c A1 o d f g=>?_
  cases k with
  |true=>exact g.ok d rfl
  |false=>exact#[B,A1,c,U,d,f,g]
def zjk{b}(h:PE X a (tE S X ca)):PE X (.BoolOp b [a] pos) (tE S X ca):=zmk h
def zi7(l:PE X a (tE S X ca))(m:PE X (.BoolOp .And (b::rest) pos) (tE S X cb)):PE X (.BoolOp .And (a::b::rest) pos) (tE S X (.and ca cb)):=
 (zlC l m).imp λC H Q #[B,A,st,U,n,o,h]=>by
  erw[ev]at h;refine tE.bind n o h λx H1 v d A1 p c f j g=>?_
  cases v with
  |bl k=>
   erw[yd]at j;refine#[k,j,?_]
   cases k with
   |true=>exact#[B,A1,d,U,c,f,g]
   |false=>exact g.ok c (by erw[yd])
  |_=>exact g.elim
def znA(l:PE X a (tE S X ca))(m:PE X (.BoolOp .Or (b::rest) pos) (tE S X cb)):PE X (.BoolOp .Or (a::b::rest) pos) (tE S X (.or ca cb)):=
 (zoc l m).imp λC H Q #[B,A,st,U,n,o,h]=>by
  erw[ev]at h;refine tE.bind n o h λx H1 v d A1 p c f j g=>?_
  cases v with
  |bl k=>
   erw[yd]at j;refine#[k,j,?_]
   cases k with
   |false=>exact#[B,A1,d,U,c,f,g]
   |true=>exact g.ok c (by erw[yd])
  |_=>exact g.elim
def zng(f:PE X a (tE S X ca)):PE X (.UnaryOp .Not a pos) (tE S X (.not ca)):=
 (zlP f).imp λC H Q #[B,A,st,U,g,j,h]=>by
  erw[ev]at h;refine tE.bind g j h λx H1 v l A1 n b m c d=>?_
  cases v with
  |bl k=>
   erw[yd]at c;exact#[k,c,d.ok b (by erw[yd])]
  |_=>exact d.elim
def zl4(f:PE X a (tE S X ca)):PE X (.UnaryOp .USub a pos) (tE S X (.neg ca)):=
 (zlI zi9 f).imp λC H Q #[B,A,st,U,g,j,h]=>by
  erw[ev]at h;refine tE.bind g j h λx H1 v l A1 n b m d c=>?_;split at c
  .simp only[yd]at d;exact#[_,d,c.ok b (by erw[yd])]
  .exact c.elim
def znz(l:PT X c (tTs S X cc))(m:PE X a (tE S X ca))(n:PE X b (tE S X cb)):PE X (.IfExp c a b pos) (tE S X (.ite cc ca cb)):=
 (zhN l m n).imp λC H Q #[B,A,st,U,o,p,h]=>by
  erw[ev]at h;have e:((ev S.call U st cc).bind λx d=>onO (yay d x) λk=>cond k (ev S.call U d ca) (ev S.call U d cb))=(ya1 (ev S.call U st cc)).bind λk d=>cond k (ev S.call U d ca) (ev S.call U d cb):=by
   unfold ya1;rw[R.bind_assoc]
   congr 1
   funext x d
   cases yay d x<;>rfl
  rw[e]at h;refine tTs.bind o p h λk H1 d A1 q f g j=>?_
  cases k with
  |true=>exact#[B,A1,d,U,f,g,j]
  |false=>exact#[B,A1,d,U,f,g,j]
def zdV:PA X [] (tAs S X .nil):=zhz.imp λC H Q #[B,A,st,U,a,b,h]=>by erw[IC.vsq0,IC.vsq1]at h;exact h.ok a (by erw[yg])
def za8(g:PE X a (tE S X ca))(j:PA X es (tAs S X ces))(l:starEach (a::es) X.env=(AC,eval a X.env)::starEach es X.env:=by rfl):PA X (a::es) (tAs S X (.cons ca ces)):=
 (zJ g j l).imp λC H Q #[B,A,st,U,m,n,h]=>by erw[IC.vsq0,IC.vsq1]at h;refine tE.bind m n h λx H1 v o A1 z b c p q=>tAs.bind b c q λr D E t A2 u d w f y=>?_;refine y.ok d ?_;erw[yg];exact#[x,r,rfl,p.step u,f]
def zlL{k:Hy}(h:PA X es (tAs S X ces)):PE X (.Tuple es k pos) (tE S X (.tup ces)):=
 (zmw h).imp λC H Q #[B,A,st,U,g,j,h]=>by
  erw[ev]at h;refine tAs.bind g j h λn H1 o l A1 q a m f b=>?_;split at b
  .rename_i c;refine#[by rw[<-zz,<-f.length];exact c,λp d=>b _ _ A1 (.upd d) (a.upd d) (.tup_new d a f)]
  .exact b.elim
def zni(h:PA X es (tAs S X ces)):PE X (.List es pos) (tE S X (.lst ces)):=
 (zjd h).imp λC H Q #[B,A,st,U,g,j,h]=>by
  erw[ev]at h;refine tAs.bind g j h λn H1 o l A1 q a m f b=>?_;split at b
  .rename_i c;refine#[by rw[<-zz,<-f.length];exact c,λp d=>b _ _ A1 (.upd d) (a.upd d) (.lst_new d a f)]
  .exact b.elim
theorem Step.push{p:AK}{o:HO}(c:H p=AF):Step A H (A++[AA p]) (L2.upd H p o):=by
 refine#[λb u n e=>by rw[zk (zm e c)];exact e,by simp,λn a d e=>?_,λb h=>?_]
 .rw[Ad d]at e;exact e
 .rw[Aw]at h;rcases h with h|h
  .exact .inl h
  .have:b=p:=by simpa using h
   subst this;exact .inr c
theorem yr.push{K:AG}{g:Hy->AK}{p:AK}{u:HO}{o:Ob}(rs:yr K g B A H st)(f:H p=AF)(x:¬B p)(y:ycc K g B (A++[AA p]) (L2.upd H p u) o p):yr K g B (A++[AA p]) (L2.upd H p u) (st++[o]):=by
 have s:Step A H (A++[AA p]) (L2.upd H p u):=.push f;have j:AA p∉A:=λz=>by let#[w,e]:=rs.there z;rw[f]at e;cases e
 have C:A.length=st.length:=rs.len;refine#[by simp[C],λm n a c b=>?_,λn a e=>?_,λn l e t=>?_,λa h=>?_,λa h=>?_,λa h D e=>?_]
 .by_cases E:m<A.length
  .rw[Ad E]at c
   by_cases d:n<A.length
   .rw[Ad d]at b;exact rs.inj m n a c b
   .rw[Ar ()]at b;have:a=p:=by
     cases q:n-A.length with
     |zero=>rw[q]at b;simpa using b.symm
     |succ k=>rw[q]at b;simp at b
    subst this;exact IG (A3 c) j
  .rw[Ar ()]at c;have:m-A.length=0/\a=p:=by
    cases q:m-A.length with
    |zero=>rw[q]at c;exact#[rfl,by simpa using c.symm]
    |succ k=>rw[q]at c;simp at c
   let#[G,rfl]:=this
   by_cases d:n<A.length
   .rw[Ad d]at b;exact IG (A3 b) j
   .rw[Ar ()]at b;have:n-A.length=0:=by
     cases q:n-A.length with
     |zero=>rfl
     |succ k=>rw[q]at b;simp at b
    lia
 .by_cases d:n<A.length
  .rw[Ad d]at e;let#[l,q,r]:=rs.obj n a e;refine#[l,by rw[Ad ()];exact q,r.step s ?_];rw[zk]
   rintro rfl
   exact j (A3 e)
  .rw[Ar ()]at e;have:n-A.length=0/\a=p:=by
    cases q:n-A.length with
    |zero=>rw[q]at e;exact#[rfl,by simpa using e.symm]
    |succ k=>rw[q]at e;simp at e
   let#[G,rfl]:=this;refine#[o,?_,y];rw[Ar ()];have:n-st.length=0:=()
   rw[this];rfl
 .by_cases d:n<A.length
  .rw[Ad ()]at e;let#[a,q]:=rs.liv n l e t;exact#[a,by rw[Ad d];exact q]
  .rw[Ar ()]at e;have:n-st.length=0:=by
    cases q:n-st.length with
    |zero=>rfl
    |succ k=>rw[q]at e;simp at e
   refine#[p,?_];rw[Ar ()];have:n-A.length=0:=()
   rw[this];rfl
 .rw[Aw]at h;rcases h with h|h
  .exact rs.nb a h
  .have:a=p:=by simpa using h
   subst this;exact x
 .let#[w,e]:=rs.dom a h;exact#[w,by rw[zk (zm e f)];exact e]
 .let#[w,q]:=rs.dom a h;rw[zk (zm q f)]at e;exact rs.nt a h D e
theorem yr.untup{K:AG}{d:Hy->AK}{a:AK}{xs:Hx V}(rs:yr K d B A H st)(h:AA a∈A)(e:H a=AA (.tup xs)):IK:=by
 let#[n,f]:=Hx.getElem?_of_mem h;let#[o,q,r]:=rs.obj n a f
 cases o with
 |lst m=>let#[g,b,l]:=r;rw[e]at b;cases b
 |dct t j=>cases t<;>(let#[g,b,l]:=r;rw[e]at b;cases b)
 |ins c fs=>let#[p,#[u,b],l]:=r;rw[e]at b;cases b
 |dead=>exact r.elim
theorem yr.nB{K:AG}{a:Hy->AK}{p:AK}(rs:yr K a B A H st)(b:H p=AF):¬B p:=λz=>by let#[o,e]:=rs.dom p z;rw[b]at e;cases e
theorem yd.loc_new{K:AG}{a:Hy->AK}{p:AK}(rs:yr K a B A H st):yd K a B (A++[AA p]) H1 (.loc st.length) (.ref p):=by
 erw[yd];have c:=rs.len;refine#[by simp[c],p,rfl,λb e=>?_];rw[Ar ()]at e;have:st.length-A.length=0:=()
 rw[this]at e;simpa using e.symm
def zkE(h:PA X es (tAs S X ces)):PE X (.List es pos) (tE S X (.newl ces)):=
 (zjd h).imp λC H Q #[B,A,st,U,g,j,h]=>by
  erw[ev]at h;refine tAs.bind g j h λl H1 o m A1 q a n f d=>?_;split at d
  .rename_i c;refine#[by rw[<-zz,<-f.length];exact c,λp b=>d _ _ (A1++[AA p]) (.push b) (a.push b (a.nB b) #[l,zo,f.step (.push b)]) (.loc_new a)]
  .exact d.elim
end
section
variable {S:Se}{X:Cx}{D:St}{B:AK->Prop}{C C1:Ph}{H H1:Hp}{st:SO}{U:IC.Env}{pos p2:Bf}{a b c d:AW}{ca cb cc:Ce}{es:Hx AW}{ces:Ces}{K:AG}{cl:Hy->AK}
def zgH{o:COp}{v w:PV}{J L:Type}{Rel:Ph->Hp->J->L->Prop}{k:IB->R J}{Q:L->Hp->Prop}(h:Run S X D B C H Rel (onO (blO (yH o v w)) k) Q):∃b,yH o v w=AA (.bl b)/\Run S X D B C H Rel (k b) Q:=by
 cases e:yH o v w with
 |none=>rw[e]at h;exact h.elim
 |some z=>
  let#[b,rfl]:=zc6 e;rw[e]at h;exact#[b,rfl,h]
def zij{m d o p}(L:OpR X (compareOp m) (rT2 S X (yH o)))(n:OpR X (compareOp d) (rT2 S X (yH p)))(M:PE X a (tE S X ca))(N:PE X b (tE S X cb))(O:PE X c (tE S X cc))
  (Y:lastMarks [m,d] [b,c]=false:=by ac_rfl):PE X (.Compare a [m,d] [b,c] pos) (tE S X (.chain o p ca cb cc)):=
 (ziz L n M N O Y).imp λD H Q #[B,C,st,U,Z,re,h]=>by
  erw[ev]at h;refine tE.bind Z re h λx H1 v st1 C1 s1 r t rv h1=>tE.bind r t h1 λy H2 w u C2 s2 A E rw j=>?_;let#[k,e,j]:=zgH j;refine#[B,C2,u,v,w,.bl k,A,rv.step s2,rw,e,λz' H' C' l f J=>?_];erw[yd]at J;refine#[k,J,?_]
  cases k with
  |false=>exact j _ H' C' l f (by erw[yd])
  |true=>
   refine tE.bind f (E.step l) (Run.on l j) λz H3 v3 G C3 s3 g re3 I h3=>?_;let#[q,eq,hq]:=zac h3 g;exact#[B,C3,G,w,v3,q,g,(rw.step l).step s3,I,eq,hq]
def zim{u f o p}(ho:OpR X (compareOp u) (rT2 S X (yH o)))(A:OpR X (compareOp f) (rT2 S X (yH p)))(ha:PE X a (tE S X ca))(hb:PE X b (tE S X cb))(hc:PE X c (tE S X cc))
  (hm:lastMarks [u,f] [b,c]=false:=by ac_rfl):PT X (.Compare a [u,f] [b,c] pos) (tTs S X (.chain o p ca cb cc)):=
 (zie ho A ha hb hc hm).imp λD H Q #[B,C,st,U,rs,re,h]=>by
  erw[ev,ya1,R.bind_assoc]at h;refine tE.bind rs re h λx H1 v st1 C1 s1 E G rv h1=>tE.bind E G h1 λy H2 w g C2 s2 I J rw d=>?_;have L:Run S X D B C2 H2 RB (onO (blO (yH o v w)) λk=>cond k ((ev S.call U g cc).bind λz j=>(toR (yH p w z) j).bind λx st=>onO (yay st x) λb=>.ok b st) (.ok AC g)) Q:=by
   cases e:yH o v w with
   |none=>rw[e]at d;exact d
   |some z=>
    let#[b,rfl]:=zc6 e;rw[e]at d
    cases b with
    |false=>exact d
    |true=>
     erw[blO,onO,Ia,R.bind_assoc]at d ⊢;exact d
  let#[k,e,d]:=zgH L;refine#[B,C2,g,v,w,.bl k,I,rv.step s2,rw,e,λz' H' C' n l Y=>?_];erw[yd]at Y;refine#[k,Y,?_]
  cases k with
  |false=>exact#[AC,rfl,d _ H' C' n l rfl]
  |true=>
   refine tE.bind l (J.step n) (Run.on n d) λz H3 Z j C3 s3 M re3 N r=>?_
   cases t:yH p w Z with
   |none=>rw[t]at r;exact r.elim
   |some q=>
    let#[b,rfl]:=zc6 t;rw[t]at r;refine#[B,C3,j,w,Z,.bl b,M,(rw.step n).step s3,N,t,λz2 H4 C4 s4 O m=>?_];erw[yd]at m;exact#[b,m,r b H4 C4 s4 O rfl]
theorem yg.at{vs:Hx PV}{xs:Hx V}{i:Hz}{v:PV}(l:yg K cl B C H vs xs)(h:at? vs i=AA v):∃x,atI xs i=AA x/\yd K cl B C H v x:=by
 unfold at? at h;rw[l.length]at h;unfold atI
 cases e:ixI xs.length i with
 |none=>rw[e]at h;cases h
 |some j=>
  rw[e]at h;have a:ixN xs.length i=AA j:=e;rw[a];exact l.get j h
theorem yr.list{n:Hy}{vs:Hx PV}{x:V}(rs:yr K cl B C H st)(r:yd K cl B C H (.loc n) x)(h:st[n]?=AA (.lst vs)):∃a c,x=.ref a/\C[n]?=AA (AA a)/\H a=AA (.lst c)/\yg K cl B C H vs c:=by erw[yd]at r;let#[p,a,rfl,g]:=r;let#[b,d]:=rs.liv n _ h (by intro z;cases z);obtain rfl:=g b d;let#[o,f,j]:=rs.obj n b d;rw[h]at f;cases f;let#[c,m,l]:=j;exact#[b,c,rfl,d,m,l]
def rTS(S:Se)(X:Cx)(f:SO->PV->PV->Option PV):R2:=λx y H Q=>∃B C st v w z,yr X.K S.cl B C H st/\yd X.K S.cl B C H v x/\yd X.K S.cl B C H w y/\f st v w=AA z /\
 ∀c a b,Step C H b a->yr X.K S.cl B b a st->yd X.K S.cl B b a z c->Q c a
def zbZ{J}{xs:Hx J}{i:PV}{z:J}(h:yaS xs i=AA z):∃k,i=.int k/\at? xs k=AA z:=by
 cases i with
 |int k=>exact#[k,rfl,h]
 |_=>cases h
def zkr:IxR X (rTS S X idxV):=by
 rintro b d G s D H x y v u Q I r A ⟨B,C,st,a,i,z,m,j,g,e,q⟩ E
 cases a with
 |tp k L=>
  let#[k,rfl,e]:=zbZ e;erw[yd]at j g;subst g;let#[p,o,rfl,J,l]:=j;let#[w,f,rw]:=l.at e;exact zez b d G s D H _ _ v u Q I r A (.inr (.inl #[p,o,k,w,rfl,rfl,J.sq,f,q w H C .rfl m rw])) E
 |lst L=>
  let#[k,rfl,e]:=zbZ e;erw[yd]at j g;subst g;let#[p,o,rfl,J,l]:=j;let#[w,f,rw]:=l.at e;exact zez b d G s D H _ _ v u Q I r A (.inl #[p,o,k,w,rfl,rfl,J.sq,f,q w H C .rfl m rw]) E
 |loc n=>
  erw[idxV]at e;split at e
  .rename_i L M;let#[k,rfl,e]:=zbZ e;erw[yd]at g;subst g;let#[p,o,rfl,_,N,l]:=m.list j M;let#[w,f,rw]:=l.at e;exact zez b d G s D H _ _ v u Q I r A (.inl #[p,o,k,w,rfl,rfl,.of N,f,q w H C .rfl m rw]) E
  .cases e
 |str t=>
  erw[idxV]at e;split at e
  .rename_i O
   cases f:yaS t.cps.toList i with
   |none=>rw[f]at e;cases e
   |some c=>
    rw[f]at e
    cases e
    let#[k,rfl,f]:=zbZ f;erw[yd]at j g;subst j g;exact zez b d G s D H _ _ v u Q I r A (.inr (.inr #[t,k,c,rfl,rfl,by rw[<-zz];exact O,f,q _ H C .rfl m (by erw[yd])])) E
  .cases e
 |_=>cases e
def znj(j:PE X a (tE S X ca))(l:PE X b (tE S X cb))(m:ybm b:=by exact λ_ _=>rfl):PE X (.Subscript a b pos) (tE S X (.idx ca cb)):=
 (zoj zkr j l m).imp λD H Q #[B,C,st,U,n,o,h]=>by erw[ev]at h;refine tE.bind n o h λx H1 v p C1 G d f r t=>tE.bind d f t λy I w g C2 u c A rw E=>?_;let#[z,e,q]:=zac E c;exact#[B,C2,g,v,w,z,c,r.step u,rw,e,q]
theorem yg.cut{vs:Hx PV}{xs:Hx V}(lo hi:Option Hz)(l:yg K cl B C H vs xs):yg K cl B C H (IC.cut vs lo hi) (ycf xs lo hi):=by
 have a:∀n o,ycU n o=HT.sIx n 0 o:=λn o=>by cases o<;>rfl
 have b:∀n o,yc5 n o=HT.sIx n n o:=λn o=>by cases o<;>rfl
 unfold IC.cut ycf;rw[l.length,a,b];exact(l.drop _).take _
def tO(S:Se)(X:Cx)(c:Ce):TO:=λD H Q=>tE S X c D H λx H1=>(x=.non/\Q AF H1) \/ ∃i,x=.int i/\Q (AA i) H1
def zk4:PO X AF (tO S X (.cst .non)):=λG s D H Q I h=>by
 refine zk9 G s D H Q I ?_;let#[B,C,st,U,a,b,h]:=h;erw[ev]at h;rcases h.ok a (x:=V.non) (by erw[yd])with q|⟨i,z,_⟩
 .exact q.2
 .cases z
def zkp(d:PE X a (tE S X ca)):PO X (AA a) (tO S X ca):=by
 intro G s D H Q I f;rw[evalPart_some];refine thn (d G s D H _ I f) λu j kq=>?_;let#[x,H1,b,c,g]:=kq;rcases g with⟨rfl,q⟩|⟨i,rfl,q⟩
 .cases c
  exact#[AF,H1,b,.none,q]
 .let#[t,rfl]:=c;exact#[AA i,H1,b,.int i t,q]
def rSl(S:Se)(X:Cx):V->Option Hz->Option Hz->Hp->VK->Prop:=λx lo d H Q=>∃B C st v z,yr X.K S.cl B C H st/\yd X.K S.cl B C H v x/\ycg v lo d=AA z /\
 ∀c a b,Step C H b a->yr X.K S.cl B b a st->yd X.K S.cl B b a z c->Q c a
def za6{prog w A E}{s:AJ}{t sl items g j lo hi}{Q:AH->AJ->Prop}(a:IsTup s.heap t items)(l:s.heap.IsSliceOf sl g j .none)(pl:Ee g lo)(n:Ee j hi)
  (m:HT.sIx items.size 0 lo=0/\HT.sIx items.size items.size hi=items.size)
  (h:Q (.ref t) s):A6 (model prog w) A (getItem (.ref t) (.ref sl)) Q E s:=by
 let#[os,c,d,o]:=id l;have f:s.TypeIs (.ref sl) "slice":=#[os,c,d];unfold getItem
 try with_reducible refine Cy ?_
 first|refine AI (AX ?_)|skip
 refine AI (Fp a.typeIs ⋯ ?_);refine AI (B5 (name:=AE "__getitem__") a.typeIs BC
  (CZ BC a.typeIs FU ?_ (F9 _ _)))
 show A6 _ _ (Ch (.ref t) >>= _) _ _ s;refine AI (FQ a ?_);refine AI (Fq f ?_);rw[ID ⋯];refine AI (HT.sliceApplied_gen l pl n ?_);have b:(((HT.sIx items.size 0 lo:Hy):Hz)==0&&(1:Hz)==1&&(HT.sIx items.size items.size hi-HT.sIx items.size 0 lo)==items.size)=true:=by rw[m.1,m.2];simp
 show A6 _ _ (if (((HT.sIx items.size 0 lo:Hy):Hz)==0&&(1:Hz)==1&&(HT.sIx items.size items.size hi-HT.sIx items.size 0 lo)==items.size)=AD then _ else _) _ _ s;rw[ID b];refine AI (AI (Fq a.typeIs (AX ?_)));rw[ID ⋯]
 first
  |exact AI (AX (AX #[_,rfl,AX h]))
  |exact AI (E8 (AX #[_,rfl,AX h]))
  |(wp_step;wp_step;exact#[_,rfl,AX h])
def yhL(K:AG):V->Option Hz->Option Hz->Hp->VK->Prop:=λx lo c H Q=>∃a b,x=.ref a/\SqT K H a b /\
 (HT.sIx b.length 0 lo=0/\HT.sIx b.length b.length c=b.length)/\Q (.ref a) H
def zii:SlR X (yhL X.K):=by
 intro G s D H x v o p lo t u Q I f g pl j h;let#[a,l,rfl,m,n,q]:=h
 cases f
 let#[c,r,d,w]:=I.tuple m;have b:c.toArray.size=l.length:=by rw[A7];exact r.length.symm
 refine#["tuple",_,BC.lookup,d.typeIs,?_];exact za6 d g pl j (by rw[b];exact n) #[.ref a,H,I,rfl,q]
def yf1:V->Option Hz->Option Hz->Hp->VK->Prop:=λx lo a H Q=>∃y:AT,x=.str y/\y.length<=sizeLine/\Q (.str #[((y.cps.toList.drop (HT.sIx y.cps.toList.length 0 lo)).take (HT.sIx y.cps.toList.length y.cps.toList.length a-HT.sIx y.cps.toList.length 0 lo)).toArray]) H
def zo2(lo hi)(n:Hy):Dl lo hi 1 n=sliceRange ((HT.sIx n 0 lo:Hy):Hz) ((HT.sIx n n hi:Hy):Hz) 1:=by
 unfold Dl;erw[show (1:Hz) > 0 by decide,IF]
 congr 1
 .cases lo with
  |none=>simp[HT.sIx]
  |some i=>
   erw[HT.sIx]
   by_cases h:i<0
   .simp only[h,IF]<;>lia
   .simp only[h,IL]<;>lia
 .cases hi with
  |none=>simp[HT.sIx]
  |some i=>
   erw[HT.sIx]
   by_cases h:i<0
   .simp only[h,IF]<;>lia
   .simp only[h,IL]<;>lia
def zhw(y)(lo hi:Option Hz):Txt.slice y lo hi=#[((y.cps.toList.drop (HT.sIx y.cps.toList.length 0 lo)).take (HT.sIx y.cps.toList.length y.cps.toList.length hi-HT.sIx y.cps.toList.length 0 lo)).toArray]:=by
 have d:y.length=y.cps.toList.length:=by simp[Str.length]
 unfold Txt.slice;rw[zo2,d,sliceRange_one];have f:=HT.sIx_le y.cps.toList.length 0 (BP _) lo;have g:=HT.sIx_le y.cps.toList.length y.cps.toList.length (AS _) hi;generalize HT.sIx y.cps.toList.length 0 lo=a,HT.sIx y.cps.toList.length y.cps.toList.length hi=b at *;split
 .rename_i c;erw[Aj,Hx.length_range,AL,IV]at c;obtain⟨rfl,rfl⟩:a=0/\b=y.cps.toList.length:=()
  rw[Hx.drop_zero,Hy.sub_zero,GU]
 .rw[pick_run]
def zjF:SlR X yf1:=by
 intro G s D H x v c d lo f g Q I m n pl a h;let#[y,rfl,o,q]:=h;let#[t,rfl]:=m;rw[<-zhw]at q;refine#["str",_,PySem.F.slot_str_getitem.lookup,Go _ _ _,?_];have go:∀l u:Option (Hz×Hn),c=partValue l->d=partValue u->lo=l.map (·.1)->f=u.map (·.1)->A6 (model X.prog X.w) X.A (getItem (.str y t) (.ref g)) (EP X G D Q) X.xe s:=by
  rintro l u rfl rfl rfl rfl
  refine wpAny_getItem_str_slice (l:=l) (u:=u) (st:=AF) n rfl ?_;exact post_val_or_str #[BW (Txt.slice_le y _ _) o,λp k=>#[.str _,H,I.tok k,#[_,rfl],q]]
 cases pl with
 |none=>
  cases a with
  |none=>exact go AF AF rfl rfl rfl rfl
  |int j u=>exact go AF (AA (j,u)) rfl rfl rfl rfl
 |int i b=>
  cases a with
  |none=>exact go (AA (i,b)) AF rfl rfl rfl rfl
  |int j u=>exact go (AA (i,b)) (AA (j,u)) rfl rfl rfl rfl
def zkj:SlR X (rSl S X):=by
 rintro G s D H x v g j lo b m Q I r u pl A ⟨B,C,st,w,z,d,rw,e,q⟩
 have E:∀n o,ycU n o=HT.sIx n 0 o:=λn o=>by cases o<;>rfl
 have J:∀n o,yc5 n o=HT.sIx n n o:=λn o=>by cases o<;>rfl
 cases w with
 |tp k M=>
  erw[ycg]at e;split at e
  .rename_i c
   cases e
   have L:=rw;erw[yd]at rw;let#[p,f,rfl,rt,l]:=rw;refine zii G s D H _ v g j lo b m Q I r u pl A #[p,f,rfl,rt.sq,?_,q _ H C .rfl d L];rw[l.length,E,J]at c;exact c
  .rename_i c
   cases e
   erw[yd]at rw;let#[p,f,rfl,rt,l]:=rw;refine zmc G s D H _ v g j lo b m Q I r u pl A #[p,f,rfl,rt.sq,?_,λt a=>q _ _ C (.upd a) (d.upd a) (.tup_new a d (l.cut lo b))];rw[l.length,E,J]at c;exact c
 |str y=>
  erw[ycg]at e;split at e
  .rename_i c
   cases e
   erw[yd]at rw;subst rw;refine zjF G s D H _ v g j lo b m Q I r u pl A #[y,rfl,by rw[<-zz];exact c,?_];have:=q (.str #[(cut y.cps.toList lo b).toArray]) H C .rfl d (by erw[yd]);rw[cut,E,J]at this;exact this
  .cases e
 |lst M=>
  erw[ycg]at e
  cases e
  erw[yd]at rw;let#[p,f,rfl,rt,l]:=rw;exact zgr G s D H _ v g j lo b m Q I r u pl A #[p,f,rfl,rt.sq,λt a=>q _ _ C (.upd a) (d.upd a) (.lst_new a d (l.cut lo b))]
 |scr M=>
  erw[ycg]at e
  cases e
  erw[yd]at rw;let#[p,f,rfl,rt,l]:=rw;exact zgr G s D H _ v g j lo b m Q I r u pl A #[p,f,rfl,(by rcases rt with rt|rt;exact .inl rt.1;exact .inr rt),λt a=>q _ _ C (.upd a) (d.upd a) (.lst_new a d (l.cut lo b))]
 |_=>cases e
def zm0{lo hi}(J:PE X a (tE S X ca))(L:PO X lo (tO S X cb))(M:PO X hi (tO S X cc)):PE X (.Subscript a (.Slice lo hi AF p2) pos) (tE S X (.slc ca cb cc)):=
 (zif zkj J L M).imp λD H Q #[B,C,st,U,N,O,h]=>by
  erw[ev]at h;have G:∀{v:PV} {x:V} {o:Option Hz} {B C H},yd X.K S.cl B C H v x->ybQ v=AA o->(x=.non/\o=AF) \/ ∃i,x=.int i/\o=AA i:=λ{v x o B C H} r e=>by
   cases v with
   |non=>erw[yd]at r;cases e;exact .inl #[r,rfl]
   |int i=>erw[yd]at r;cases e;exact .inr #[i,r,rfl]
   |_=>cases e
  refine tE.bind N O h λx H1 v Y C1 s1 j l Z h1=>tE.bind j l h1 λy H2 w st2 C2 s2 m n rw g=>?_
  cases p:ybQ w with
  |none=>rw[p]at g;exact g.elim
  |some I=>
   rw[p]at g;have c:tO S X cc D H2 λu t=>rSl S X x I u t Q:=by
    refine tE.bind m n g λy' t w' A C3 s3 d re3 E h3=>?_;let#[z,e,q]:=zac h3 d;unfold ycI at e
    cases b:ybQ w' with
    |none=>rw[b]at e;cases e
    |some o2=>
     rw[b]at e;have f:rSl S X x I o2 t Q:=#[B,C3,A,v,z,d,(Z.step s2).step s3,e,q];rcases G E b with⟨rfl,rfl⟩|⟨i,rfl,rfl⟩
     .exact .inl #[rfl,f]
     .exact .inr #[i,rfl,f]
   rcases G rw p with⟨rfl,rfl⟩|⟨i,rfl,rfl⟩
   .exact .inl #[rfl,c]
   .exact .inr #[i,rfl,c]
end
section
variable {S:Se}{X:Cx}{C:St}{B:AK->Prop}{A A1:Ph}{H H1:Hp}{st:SO}{U:IC.Env}{p pos p2:Bf}{a b c d:AW}{ca cb cc:Ce}{es:Hx AW}{ces:Ces}{K:AG}{cl:Hy->AK}
def rB(S:Se)(X:Cx)(k:Blt):Hx V->Hp->VK->Prop:=λf H Q=>∃B A st c z,yr X.K S.cl B A H st/\yg X.K S.cl B A H c f/\yah k st c=AA z /\
 ∀d a b,Step A H b a->yr X.K S.cl B b a st->yd X.K S.cl B b a z d->Q d a
theorem yg.one{v:PV}{xs:Hx V}(l:yg K cl B A H [v] xs):∃x,xs=[x]/\yd K cl B A H v x:=by erw[yg]at l;let#[y,a,rfl,r,rfl]:=l;exact#[y,rfl,r]
theorem yg.two{v w:PV}{xs:Hx V}(l:yg K cl B A H [v,w] xs):∃x y,xs=[x,y]/\yd K cl B A H v x/\yd K cl B A H w y:=by erw[yg]at l;let#[y,b,rfl,r,z,c,rfl,a,rfl]:=l;exact#[y,z,rfl,r,a]
def zb1{k st}{vs:Hx PV}{z}(h:yah k st vs=AA z)(a:∀x y,yah k st [x,y]=AF):∃x,vs=[x]:=by
 match vs,h with
 |[x],_=>exact#[x,rfl]
 |[x,y],h=>rw[a]at h;cases h
def zbA{v x vs}(rs:yr K cl B A H st)(r:yd K cl B A H v x)(h:yJ st v=AA vs):∃a b,x=.ref a/\SqL K H a b/\yg K cl B A H vs b:=by
 cases v with
 |lst c=>
  cases h
  erw[yd]at r;let#[a,b,rfl,d,l]:=r;exact#[a,b,rfl,d.sq,l]
 |loc n=>
  erw[yJ]at h;split at h
  .rename_i c f
   cases h
   let#[a,b,rfl,_,g,l]:=rs.list r f;exact#[a,b,rfl,.of g,l]
  .cases h
 |_=>cases h
def znq{v x vs}(rs:yr K cl B A H st)(r:yd K cl B A H v x)(h:seqOf st v=AA vs):∃a b,x=.ref a/\(SqL K H a b \/ SqT K H a b)/\yg K cl B A H vs b:=by
 cases v with
 |tp k c=>
  cases h
  erw[yd]at r;let#[a,b,rfl,d,l]:=r;exact#[a,b,rfl,.inr d.sq,l]
 |lst c=>
  let#[a,b,e,q,l]:=zbA rs r (vs:=vs) h;exact#[a,b,e,.inl q,l]
 |loc n=>
  let#[a,b,e,q,l]:=zbA rs r (vs:=vs) h;exact#[a,b,e,.inl q,l]
 |_=>cases h
def znp:yaa X (.builtin "len") (rB S X .len):=by
 rintro D s C H m g Q I r ⟨B,A,st,n,z,b,l,e,q⟩
 let#[v,rfl]:=zb1 e λ_ _=>rfl;let#[x,rfl,d]:=l.one;erw[yah,lenV]at e;split at e
 .rename_i t;split at e
  .rename_i c
   cases e
   erw[yd]at d;subst d;exact zdu D s C H _ g Q I r #[t,rfl,by rw[<-zz];exact c,q _ H A .rfl b (by erw[yd])]
  .cases e
 .cases f:seqOf st v with
  |none=>rw[f]at e;cases e
  |some o=>
   rw[f]at e
   cases e
   let#[a,j,rfl,h,l]:=znq b d f;refine zdA D s C H _ g Q I r #[a,j,rfl,?_,q _ H A .rfl b (by erw[yd];rw[l.length])];exact h
def zgF{x:AT}{n:Hz}(h:yeF x=AA n):x.length<=640/\PySem.intText? x=AA n:=by
 unfold yeF at h;split at h
 .rename_i j;refine#[j,?_];have g:∀{b:Hx Hy},b.all ydJ=AD->HM b:=λ{b} h c f=>by have:=BA.1 h c f;simpa [ydJ] using this
  split at h
  .cases h
  .rename_i c b d;split at h
   .rename_i f;subst f;split at h
    .rename_i a;rw[AL,Bb]at a
     cases h
     exact PySem.intText_neg d (g a.1) (λz=>by rw[z]at a;exact IG a.2 (by simp)) ()
    .cases h
   .split at h
    .rename_i a
     cases h
     have:=PySem.intText_digits (x:=x) (by rw[d];exact g a) (by rw[d];simp) ();rw[this,d];rfl
    .cases h
 .cases h
def zmx:yaa X (.type "int") (rB S X .int):=by
 rintro D s C H m c Q I r ⟨B,A,st,o,z,b,l,e,q⟩
 let#[v,rfl]:=zb1 e λ_ _=>rfl;let#[x,rfl,a]:=l.one;erw[yah]at e
 cases v with
 |int i=>
  cases e
  erw[yd]at a;subst a;exact zdN D s C H _ c Q I r (.inl #[i,rfl,q _ H A .rfl b (by erw[yd])])
 |bl k=>
  cases e
  erw[yd]at a;subst a;exact zdN D s C H _ c Q I r (.inr #[k,rfl,q _ H A .rfl b (by erw[yd,bi])])
 |str y=>
  let#[u,rfl,d]:=vals1 r;erw[yd]at a;subst a;let#[t,rfl]:=d;erw[yfn]at e;let#[n,f,e]:=Option.map_eq_some_iff.1 e;subst e;let#[g,j]:=zgF f;exact PySem.W.KIN.call_text j g #[.int n,H,I.tok _,#[_,rfl],q _ H A .rfl b (by erw[yd])]
 |_=>cases e
def zjJ{k st}{vs:Hx PV}{z}(h:yah k st vs=AA z)(a:∀x,yah k st [x]=AF):∃x y,vs=[x,y]:=by
 match vs,h with
 |[x,y],_=>exact#[x,y,rfl]
 |[x],h=>rw[a]at h;cases h
def zmI(b:X.calm=AD):yaa X (.builtin "min") (rB S X .min):=by
 rintro D s C H f c Q I r ⟨B,A,st,g,z,d,l,e,q⟩
 let#[v,w,rfl]:=zjJ e λ_=>rfl;let#[x,y,rfl,a,rw]:=l.two;erw[yah,yfG]at e;split at e
 .cases e
  erw[yd]at a rw;subst a rw;exact zhe b D s C H _ c Q I r #[_,_,rfl,q _ H A .rfl d (by erw[yd])]
 .cases e
def zji:∀{vs:Hx PV} {m:Hz},ycS vs=AA m->∃b:Hx Hz,vs=b.map .int/\m∈b/\∀a∈b,a<=m
 |[],m,h=>by cases h
 |[.int i],m,h=>by cases h;exact#[[i],rfl,by simp,by simp]
 |.int i::w::r,m,h=>by
  erw[ycS]at h;split at h
  .rename_i c e
   cases h
   let#[b,f,g,j]:=zji e;refine#[i::b,by rw[f];rfl,?_,λa d=>?_]
   .split
    .exact AM _ g
    .exact AO
   .rcases AV.mp d with rfl|d
    .split<;>lia
    .have:=j a d;split<;>lia
  .cases h
 |.non::r,m,h=>by cases r<;>cases h
 |.bl _::r,m,h=>by cases r<;>cases h
 |.str _::r,m,h=>by cases r<;>cases h
 |.tp _ _::r,m,h=>by cases r<;>cases h
 |.lst _::r,m,h=>by cases r<;>cases h
 |.loc _::r,m,h=>by cases r<;>cases h
 |.fnc _::r,m,h=>by cases r<;>cases h
 |.exn _::r,m,h=>by cases r<;>cases h
 |.scr _::r,m,h=>by cases r<;>cases h
theorem yg.ints:∀{a:Hx Hz} {xs:Hx V},yg K cl B A H (a.map .int) xs->xs=a.map V.int
 |[],xs,h=>by simpa only[Ay,yg] using h
 |n::a,xs,h=>by erw[AN,yg]at h;let#[y,b,rfl,r,l]:=h;erw[yd]at r;rw[r,yg.ints l];rfl
theorem yg.bls:∀{a:Hx IB} {xs:Hx V},yg K cl B A H (a.map .bl) xs->xs=a.map V.bl
 |[],xs,h=>by simpa only[Ay,yg] using h
 |n::a,xs,h=>by erw[AN,yg]at h;let#[y,b,rfl,r,l]:=h;erw[yd]at r;rw[r,yg.bls l];rfl
def zkQ{v w z:PV}(e:maxV v w=AA z):∃i j,v=.int i/\w=.int j/\z=.int (if i<j then j else i):=by
 unfold maxV at e;split at e
 .exact#[_,_,rfl,rfl,(A0 e).symm]
 .cases e
def znh(g:X.calm=AD):yaa X (.builtin "max") (rB S X .max):=by
 rintro D s C H N n Q I r ⟨B,A,st,p,z,c,l,e,q⟩
 rcases p with _|⟨v,_|⟨w,_|⟨O,t⟩⟩⟩
 .simp[yah]at e
 .let#[x,rfl,b]:=l.one;erw[yah]at e
  cases d:yJ st v with
  |none=>rw[d]at e;cases e
  |some u=>
   rw[d]at e;erw[BO]at e
   cases f:ycS u with
   |none=>rw[f]at e;cases e
   |some m=>
    rw[f]at e;obtain rfl:=A0 e;let#[E,rfl,o,G]:=zji f;let#[a,U,rfl,h,l]:=zbA c b d;rw[l.ints]at h;refine zf3 g D s C H _ n Q I r #[a,E,rfl,h,Hx.length_pos_of_mem o,λM J L=>?_];have:M=m:=by have:=G M J;have:=L m o;lia
    subst this;exact q _ H A .rfl c (by erw[yd])
 .let#[x,y,rfl,b,rw]:=l.two;have e:maxV v w=AA z:=e;let#[i,j,rfl,rfl,rfl]:=zkQ e;erw[yd]at b rw;subst b rw;exact zfX g D s C H _ n Q I r #[i,j,rfl,q (.int (if i<j then j else i)) H A .rfl c (by erw[yd])]
 .simp[yah]at e
def ziP:yaa X (.type "tuple") (rB S X .tuple):=by
 rintro D s C H n j Q I r ⟨B,A,st,o,z,b,l,e,q⟩
 let#[v,rfl]:=zb1 e λ_ _=>rfl;let#[x,rfl,d]:=l.one;erw[yah,yeK]at e;split at e
 .cases e
  erw[yd]at d;let#[a,c,rfl,m,l]:=d;exact zbn D s C H _ j Q I r #[a,c,rfl,.inr #[m.sq,q _ H A .rfl b (by erw[yd];exact#[a,c,rfl,m,l])]]
 .cases f:yJ st v with
  |none=>rw[f]at e;cases e
  |some p=>
   rw[f]at e
   cases e
   let#[a,c,rfl,h,l]:=zbA b d f;exact zbn D s C H _ j Q I r #[a,c,rfl,.inl #[h,λt g=>q _ _ A (.upd g) (b.upd g) (.tup_new g b l)]]
def zi2:∀{vs:Hx PV} {m:IB},IC.allB vs=AA m->∃a:Hx IB,vs=a.map .bl/\m=a.all id
 |[],m,h=>by cases h;exact#[[],rfl,rfl]
 |.bl i::r,m,h=>by
  erw[IC.allB]at h;split at h
  .rename_i c e
   cases h
   let#[a,b,d]:=zi2 e;exact#[i::a,by rw[b];rfl,by rw[d];rfl]
  .cases h
 |.non::r,m,h=>by cases h
 |.int _::r,m,h=>by cases h
 |.str _::r,m,h=>by cases h
 |.tp _ _::r,m,h=>by cases h
 |.lst _::r,m,h=>by cases h
 |.loc _::r,m,h=>by cases h
 |.fnc _::r,m,h=>by cases h
 |.exn _::r,m,h=>by cases h
 |.scr _::r,m,h=>by cases h
def zjh:∀{vs:Hx PV} {m:Hz},ybU vs=AA m->∃a:Hx Hz,vs=a.map .int/\m=a.sum
 |[],m,h=>by cases h;exact#[[],rfl,rfl]
 |.int i::r,m,h=>by
  erw[ybU]at h;split at h
  .rename_i c e
   cases h
   let#[a,b,d]:=zjh e;exact#[i::a,by rw[b];rfl,by rw[d,D0]]
  .cases h
 |.non::r,m,h=>by cases h
 |.bl _::r,m,h=>by cases h
 |.str _::r,m,h=>by cases h
 |.tp _ _::r,m,h=>by cases h
 |.lst _::r,m,h=>by cases h
 |.loc _::r,m,h=>by cases h
 |.fnc _::r,m,h=>by cases h
 |.exn _::r,m,h=>by cases h
 |.scr _::r,m,h=>by cases h
def zlz(f:X.calm=AD):yaa X (.builtin "all") (rB S X .all):=by
 rintro D s C H p g Q I r ⟨B,A,st,t,z,d,l,e,q⟩
 let#[v,rfl]:=zb1 e λ_ _=>rfl;let#[x,rfl,j]:=l.one;erw[yah]at e
 cases b:yJ st v with
 |none=>rw[b]at e;cases e
 |some n=>
  rw[b]at e;erw[BO]at e
  cases c:IC.allB n with
  |none=>rw[c]at e;cases e
  |some m=>
   rw[c]at e
   cases e
   let#[o,rfl,rfl]:=zi2 c;let#[a,u,rfl,h,l]:=zbA d j b;rw[l.bls]at h;exact ziT f D s C H _ g Q I r #[a,o,rfl,h,q _ H A .rfl d (by erw[yd])]
def znC(f:X.calm=AD):yaa X (.builtin "sum") (rB S X .sum):=by
 rintro D s C H p g Q I r ⟨B,A,st,t,z,d,l,e,q⟩
 let#[v,rfl]:=zb1 e λ_ _=>rfl;let#[x,rfl,j]:=l.one;erw[yah]at e
 cases b:yJ st v with
 |none=>rw[b]at e;cases e
 |some n=>
  rw[b]at e;erw[BO]at e
  cases c:ybU n with
  |none=>rw[c]at e;cases e
  |some m=>
   rw[c]at e
   cases e
   let#[o,rfl,rfl]:=zjh c;let#[a,u,rfl,h,l]:=zbA d j b;rw[l.ints]at h;exact zhL f D s C H _ g Q I r #[a,o,rfl,h,q _ H A .rfl d (by erw[yd])]
variable {x:AT}{id T:IU}{k:Blt}
def zns(g:yaa X (.builtin id) (rB S X k))(j:Gl X x)(l:X.mg x=AF)(m:bootBuiltins x=AA (.builtin id))(n:PA X (a::es) (tAs S X ces))(o:x ≠ "__name__":=by decide)(c:(x==("__debug__":AT))=false:=by decide)
  (r:starEach (a::es) X.env=(AC,eval a X.env)::starEach es X.env:=by rfl) (d:(backTo pos (starEach es X.env)).any (·.1)=false:=by rfl):PE X (.Call (.Name x p) (a::es) [] pos) (tE S X (.blt k ces)):=
 (zeE g j l m n o c r d).imp λC H Q #[B,A,st,U,t,u,h]=>by erw[ev]at h;refine tAs.bind t u h λG H1 w f A1 I b y D E=>?_;let#[z,e,q]:=zac E b;exact#[B,A1,f,w,z,b,D,e,q]
def zj5(g:yaa X (.type T) (rB S X k))(j:Gl X x)(l:X.mg x=AF)(m:bootBuiltins x=AA (.type T))(n:PA X (a::es) (tAs S X ces))(o:x ≠ "__name__":=by decide)(c:(x==("__debug__":AT))=false:=by decide)
  (r:starEach (a::es) X.env=(AC,eval a X.env)::starEach es X.env:=by rfl) (d:(backTo pos (starEach es X.env)).any (·.1)=false:=by rfl):PE X (.Call (.Name x p) (a::es) [] pos) (tE S X (.blt k ces)):=
 (zgb g j l m n o c r d).imp λC H Q #[B,A,st,U,t,u,h]=>by erw[ev]at h;refine tAs.bind t u h λG H1 w f A1 I b y D E=>?_;let#[z,e,q]:=zac E b;exact#[B,A1,f,w,z,b,D,e,q]
end
section
variable {S:Se}{X:Cx}{C:St}{B:AK->Prop}{A A1:Ph}{H H1:Hp}{st:SO}{U:IC.Env}{p pos p2 apos:Bf}{a b c d:AW}{ca cb cc:Ce}{es:Hx AW}{ces:Ces}{K:AG}{cl:Hy->AK}
theorem Step.put{l:AK}{u:HO}(a:AA l∈A):Step A H A (L2.upd H l u):=
 #[λb o n e=>by rw[zk (show b≠l from λz=>n (by rw[z];exact a))];exact e,AS _,λ_ _ _ e=>e,λ_ h=>.inl h]
theorem yr.put{n:Hy}{l:AK}{u:HO}{o:Ob}(rs:yr K cl B A H st)(c:A[n]?=AA (AA l))(p:ycc K cl B A (L2.upd H l u) o l):yr K cl B A (L2.upd H l u) (st.set n o):=by
 have j:AA l∈A:=A3 c;have s:Step A H A (L2.upd H l u):=.put j;have d:n<st.length:=by rw[<-rs.len];exact(Ax.mp c).1
 refine#[by rw[BV];exact rs.len,rs.inj,λm a e=>?_,λm f e g=>?_,rs.nb,λa h=>?_,λa h t e=>?_]
 .by_cases b:m=n
  .subst b;rw[c]at e;cases e;exact#[o,by rw[Ac d],p]
  .let#[f,q,r]:=rs.obj m a e;refine#[f,by rw[AZ (BI b)];exact q,r.step s ?_];rw[zk]
   rintro rfl
   exact b (rs.inj m n a e c)
 .by_cases b:m=n
  .subst b;exact#[l,c]
  .rw[AZ (BI b)]at e;exact rs.liv m f e g
 .let#[w,e]:=rs.dom a h
  by_cases z:a=l
  .subst z;exact#[u,zo]
  .exact#[w,by rw[zk z];exact e]
 .have z:a≠l:=λz=>rs.nb l j (z ▸ h);rw[zk z]at e;exact rs.nt a h t e
def zox:1000000<=sizeLine:=by rw[DF];decide
def zc9{m:Mth}{v:PV}{st:SO}{D E:Type}{Rel:Ph->Hp->D->E->Prop}{k:IB->R D}{Q:E->Hp->Prop}(h:Run S X C B A H Rel (onO (yL m st v) k) Q):∃b,yL m st v=AA b/\Run S X C B A H Rel (k b) Q:=by
 cases e:yL m st v with
 |none=>rw[e]at h;exact h.elim
 |some z=>rw[e]at h;exact#[z,rfl,h]
def zgs(Y:PE X a (tE S X ca))(Z:PE X b (tE S X cb))(M:starEach [b] X.env=[(AC,eval b X.env)]:=by rfl)(f:attributeBase a "append" X.env (eval a X.env)=eval a X.env:=by rfl)(g:(apos.endLine==pos.line)=true:=by rfl)
  (j:((backTo pos (starEach [b] X.env)).all (λx=>!x.1)&&(backToKw pos (keywordEach [] X.env)).all (λx=>x.1.isSome)&&decide (([b]:Hx AW).length+([]:Hx Bo).length+(if ([]:Hx Bo).isEmpty then 0 else 1)<30))=true:=by rfl):
  PE X (.Call (.Attribute a "append" apos) [b] [] pos) (tE S X (.mth .append ca (.cons cb .nil))):=
 (zj3 E3 Ex PySem.F.type_list_append zdO Y (za8 (S:=S) Z zdV M) f j g M rfl).imp λC H Q #[B,A,st,U,rs,re,h]=>by
  erw[ev]at h;refine tE.bind rs re h λx H1 v m A1 s1 o u N z=>?_;let#[_,D,z]:=zc9 z;have E:∃r,yJ m v=AA r:=by
   erw[yL]at D
   cases q:yJ m v with
   |none=>rw[q]at D;cases D
   |some r=>exact#[r,rfl]
  let#[r,E]:=E;let#[l,xs,rfl,hl,_]:=zbA o N E;refine#[.inl #[rfl,xs,hl],tAs.bind o u z λys H2 vs st2 A2 s2 p re2 G d=>?_];have I:=N.step s2;rcases vs with _|⟨w,_|⟨w',t⟩⟩
  .exact d.elim
  .let#[y,rfl,rw]:=G.one;unfold yaL at d;erw[ycN]at d;split at d
   .rename_i n;split at d
    .rename_i zs hz;split at d
     .rename_i c;let#[l',J,e,L,hx,O]:=p.list I hz
      cases e
      refine#[l,J,y,rfl,rfl,hx,by have:=zox;have:=O.length;lia,?_];exact d _ _ A2 (.put (A3 L)) (p.put L #[_,zo,(O.append (by erw[yg];exact#[y,[],rfl,rw,rfl])).step (.put (A3 L))]) (by erw[yd])
     .exact d.elim
    .exact d.elim
   .exact d.elim
  .exact d.elim
def zmb(E:PE X a (tE S X ca)):PE X a (tE S X (.frz ca)):=
 E.imp λC H Q #[B,A,st,U,G,I,h]=>by
  erw[ev]at h;refine tE.bind G I h λx H1 v J A1 s1 d L y g=>?_;unfold ycH at g;split at g
  .rename_i n;split at g
   .rename_i vs M;let#[l,N,rfl,w,O,Y]:=d.list y M;have Z:AA l∈A1:=A3 w;have f:n<A1.length:=(Ax.mp w).1;have nl:AA l∉A1.set n none:=λz=>by
     let#[m,e]:=DU.mp z
     by_cases c:m=n
     .subst c;rw[Ac f]at e;cases e
     .rw[AZ (BI c)]at e;exact c (d.inj m n l e w)
    have sb:∀b,AA b∈A1.set n AF->AA b∈A1:=λb z=>by
     let#[m,e]:=DU.mp z
     by_cases c:m=n
     .subst c;rw[Ac f]at e;cases e
     .rw[AZ (BI c)]at e;exact A3 e
    have s:Step A1 H1 (A1.set n AF) H1:=#[λ_ _ _ e=>e,by simp,λm a hm' e=>by
     by_cases c:m=n
     .subst c;rw[Ac f]at e;cases e
     .rw[AZ (BI c)]at e;exact e,λb z=>.inl (sb b z)]
    refine g _ H1 (A1.set n AF) s #[by simp[d.len],λm k a t u=>?_,λm a e=>?_,λm o e D=>?_,λa z=>d.nb a (sb a z),d.dom,d.nt] ?_
    .by_cases j:m=n
     .subst j;rw[Ac f]at t;cases t
     .by_cases p:k=n
      .subst p;rw[Ac f]at u;cases u
      .rw[AZ (BI j)]at t;rw[AZ (BI p)]at u;exact d.inj m k a t u
    .by_cases c:m=n
     .subst c;rw[Ac f]at e;cases e
     .rw[AZ (BI c)]at e;let#[o,q,r]:=d.obj m a e;exact#[o,by rw[AZ (BI c)];exact q,r.step s rfl]
    .by_cases c:m=n
     .subst c;rw[Ac (by rw[<-d.len];exact f)]at e;cases e;exact IG rfl D
     .rw[AZ (BI c)]at e ⊢;exact d.liv m o e D
    .simp only[yd];exact#[l,N,rfl,#[O,d.nb l Z,nl],Y.step s]
   .exact g.elim
  .exact g.ok d y
end
section
variable (S:Se)(X:Cx)
def yaB(B:AK->Prop)(A:Ph)(H:Hp)(f:Fl)(D:Ends):Prop:=
 match f with
 |.nx g a=>∀d b c,Step A H c b->yr X.K S.cl B c b a->yF X.K S.cl B c b g d->D.nx d b
 |.rt v a=>∀x b c,Step A H c b->yr X.K S.cl B c b a->yd X.K S.cl B c b v x->D.rt x b
 |.bk g a=>∀d b c,Step A H c b->yr X.K S.cl B c b a->yF X.K S.cl B c b g d->D.bk d b
 |.ct g a=>∀d b c,Step A H c b->yr X.K S.cl B c b a->yF X.K S.cl B c b g d->D.ct d b
 |.exc k g a=>∀d A1 j e l,Step A H A1 j->yF X.K S.cl B A1 j g d->ExcAt S X d B A1 j k a e l->X.xe e l
 |.bad=>IK
def tS(c:Cs):TS:=λD C H=>∃B A st U,yr X.K S.cl B A H st/\yF X.K S.cl B A H U C/\yaB S X B A H (ex S.call U st c) D
def tSs(c:Css):TS:=λD C H=>∃B A st U,yr X.K S.cl B A H st/\yF X.K S.cl B A H U C/\yaB S X B A H (exs S.call U st c) D
end
section
variable {S:Se}{X:Cx}{C:St}{B:AK->Prop}{A A1:Ph}{H H1:Hp}{st:SO}{U:IC.Env}{D:Ends}{pos p2 px:Bf}{a b c o:AW}{ca cb cc:Ce}{s1:Bg}{ss ss':Hx Bg}{c1:Cs}{cs cs':Css}
theorem yaB.on{f:Fl}(s:Step A H A1 H1)(h:yaB S X B A H f D):yaB S X B A1 H1 f D:=by
 cases f with
 |nx U st=>exact λa b c t=>h a b c (s.trans t)
 |rt U st=>exact λa b c t=>h a b c (s.trans t)
 |bk U st=>exact λa b c t=>h a b c (s.trans t)
 |ct U st=>exact λa b c t=>h a b c (s.trans t)
 |exc k U st=>exact λa A2 d e g t=>h a A2 d e g (s.trans t)
 |bad=>exact h
theorem tE.fl{k:PV->SO->Fl}{P:V->Hp->Prop}(rs:yr X.K S.cl B A H st)(c:yF X.K S.cl B A H U C)(h:yaB S X B A H ((ev S.call U st ca).fl U k) D)
  (n:∀x H1 v a A1,Step A H A1 H1->yr X.K S.cl B A1 H1 a->yF X.K S.cl B A1 H1 U C->yd X.K S.cl B A1 H1 v x->yaB S X B A1 H1 (k v a) D->P x H1):tE S X ca C H P:=by
 refine#[B,A,st,U,rs,c,?_]
 cases e:ev S.call U st ca with
 |ok v b=>
  rw[e]at h;exact λx f g s d j=>n x f v b g s d (c.step s) j (h.on s)
 |exc k b=>
  rw[e]at h;exact λe l x=>h C A H e l .rfl c x
 |bad=>rw[e]at h;exact h
theorem PS.imp{t t':TS}(h:PS X s1 t')(k:∀D C H,t D C H->t' D C H):PS X s1 t:=λE s C H D I q=>h E s C H D I (k D C H q)
theorem PSs.imp{t t':TS}(h:PSs X ss t')(k:∀D C H,t D C H->t' D C H):PSs X ss t:=λE s C H D I q=>h E s C H D I (k D C H q)
theorem yF.set{K:AG}{a:Hy->AK}(r:yF K a B A H U C)(i:Hy){v:PV}{x:V}(c:yd K a B A H v x):yF K a B A H (U.set i (AA v)) (C.set i (AA x)):=by
 refine#[by rw[BV,BV];exact r.len,λj w e=>?_]
 by_cases h:j=i
 .subst h
  by_cases b:j<U.length
  .rw[Ac b]at e
   cases e
   exact#[x,by rw[Ac (by rw[<-r.len];exact b)],c]
  .rw[BE (by rw[BV];lia)]at e
   cases e
 .rw[AZ (BI h)]at e ⊢;exact r.get j w e
def zl9:PSs X [] (tSs S X .nil):=zoR.imp λD C H #[B,A,st,U,a,b,h]=>by erw[IC.xqq0,IC.xqq1]at h;exact h C H A .rfl a b
def zlg(f:PS X s1 (tS S X c1))(g:PSs X ss (tSs S X cs)):PSs X (s1::ss) (tSs S X (.cons c1 cs)):=
 (zfm f g).imp λD C H #[B,A,st,U,j,l,h]=>by
  erw[IC.xqq0,IC.xqq1]at h;refine#[B,A,st,U,j,l,?_]
  cases e:ex S.call U st c1 with
  |nx b a=>
   rw[e]at h;exact λn o m s c d=>#[B,m,a,b,c,d,h.on s]
  |rt v a=>rw[e]at h;exact h
  |bk b a=>rw[e]at h;exact h
  |ct b a=>rw[e]at h;exact h
  |exc k b a=>rw[e]at h;exact h
  |bad=>rw[e]at h;exact h
def zko(d:PE X a (tE S X ca))(f:swapsWith a AF pos.line X.env=pure false:=by rfl):PS X (.Expr a pos) (tS S X (.expr ca)):=
 (zk1 d f).imp λD C H #[B,A,st,U,g,j,h]=>by erw[ex]at h;exact tE.fl g j h λx H1 v l A1 s b c n m=>m C H1 A1 .rfl b c
def zlQ(c:PE X a (tE S X ca)):PS X (.Return (AA a) pos) (tS S X (.ret ca)):=
 (zi0 c).imp λD C H #[B,A,st,U,d,f,h]=>by erw[ex]at h;exact tE.fl d f h λx H1 v g A1 s b j l m=>m x H1 A1 .rfl b l
def zk7:PS X (.Return AF pos) (tS S X (.ret (.cst .non))):=
 zoS.imp λD C H #[B,A,st,U,a,b,h]=>by erw[ex,ev,R.fl]at h;exact h .non H A .rfl a (by erw[yd])
def zmL{i:Hy}{x}(d:X.N.Nodup)(hi:X.N[i]?=AA x)(f:Loc X.env.scope x)(g:PE X a (tE S X ca))(j:swapsWith a (AA (.Name x px)) pos.line X.env=pure false:=by rfl)
  (hf:X.fn x=AD \/ X.env.scope.names.lookup x=AA .local:=by first|exact .inl rfl|exact .inr rfl|assumption):PS X (.Assign [.Name x px] a pos) (tS S X (.asg (.n i) ca)):=
 (ziZ d hi f g j hf).imp λD C H #[B,A,st,U,l,m,h]=>by erw[ex]at h;exact tE.fl l m h λx H1 v o A1 s b c p q=>q _ H1 A1 .rfl b (c.set i p)
theorem flT(r:R PV)(f:IB->SO->Fl):(r.fl U λx a=>onF (yay a x) λk=>f k a)=(ya1 r).fl U f:=by
 cases r with
 |ok v s=>
  erw[R.fl,ya1,R.bind]
  cases yay s v<;>rfl
 |exc c s=>rfl
 |bad=>rfl
theorem tTs.fl{k:IB->SO->Fl}{P:IB->Hp->Prop}(rs:yr X.K S.cl B A H st)(d:yF X.K S.cl B A H U C)(h:yaB S X B A H ((ya1 (ev S.call U st ca)).fl U k) D)
  (n:∀b H1 a A1,Step A H A1 H1->yr X.K S.cl B A1 H1 a->yF X.K S.cl B A1 H1 U C->yaB S X B A1 H1 (k b a) D->P b H1):tTs S X ca C H P:=by
 refine#[B,A,st,U,rs,d,?_]
 cases e:ya1 (ev S.call U st ca)with
 |ok v c=>
  rw[e]at h;exact λx g j s f l=>by subst l;exact n v g c j s f (d.step s) (h.on s)
 |exc k c=>
  rw[e]at h;exact λe m x=>h C A H e m .rfl d x
 |bad=>rw[e]at h;exact h
def znM(g:PT X c (tTs S X cc))(j:PSs X ss (tSs S X cs))(l:PSs X ss' (tSs S X cs')):PS X (.If c ss ss' pos) (tS S X (.ite cc cs cs')):=
 (znS g j l).imp λD C H #[B,A,st,U,m,n,h]=>by
  erw[ex]at h;rw[flT _ λk a=>cond k (exs S.call U a cs) (exs S.call U a cs')]at h;refine tTs.fl m n h λk H1 a A1 s b d f=>?_
  cases k with
  |true=>exact#[B,A1,a,U,b,d,f]
  |false=>exact#[B,A1,a,U,b,d,f]
def zma{i:Hy}{x l c}(o:X.N.Nodup)(hi:X.N[i]?=AA x)(p:Loc X.env.scope x)(r:PE X a (tE S X ca))(t:PIp X l (rT2 S X (ybb c)))
  (hf:X.fn x=AD \/ X.env.scope.names.lookup x=AA .local:=by first|exact .inl rfl|exact .inr rfl|assumption) (O:(x==("__debug__":AT))=false:=by decide) (E:(x==("__classdict__":AT))=false:=by decide):PS X (.AugAssign (.Name x px) l a pos) (tS S X (.aug i c ca)):=
 (zlK o hi p r t hf).imp λD C H #[B,A,st,U,G,m,h]=>by
  erw[ex]at h
  cases q:U[i]? with
  |none=>rw[q]at h;exact h.elim
  |some w=>
   cases w with
   |none=>rw[q]at h;exact h.elim
   |some w=>
    rw[q]at h;let#[y,I,rw]:=m.get i w q;refine#[y,I,tE.fl G m h λz H1 v d A1 s f g J b=>?_]
    cases e:ybb c w v with
    |none=>rw[e]at b;exact b.elim
    |some u=>
     rw[e]at b;exact#[B,A1,d,w,v,u,f,rw.step s,J,e,λY L M n j N=>b _ L M n j ((g.step n).set i N)]
end
section
variable (S:Se)(X:Cx)
structure Drw(B:AK->Prop)(A0:Ph)(H0:Hp)(xs:Hx PV)(J:It):Prop where
 stop:∀A H,Step A0 H0 A H->J.stop xs.length H
 go:∀(i:Hy) A H,Step A0 H0 A H->i<xs.length->J.go i H
 yld:∀(i:Hy) A H st x H' (B':AK->Prop),(∀y,B' y->B y \/ H0 y=AF)->Step A0 H0 A H->yr X.K S.cl B' A H st->i<xs.length->J.yld i H x H'->∃v,xs[i]?=AA v/\yd X.K S.cl B' A H' v x/\∀b o,H b=AA o->H' b=AA o
abbrev RD(B:AK->Prop):Ph->Hp->Hx PV->It->Prop:=λA H=>Drw S X B A H
def tI(c:Cit):TI:=λC H R=>∃B A st U,yr X.K S.cl B A H st/\yF X.K S.cl B A H U C/\Run S X C B A H (RD S X B) (evi S.call U st c) R
end
section
variable {S:Se}{X:Cx}{C:St}{B:AK->Prop}{E E1:Ph}{H H1:Hp}{st:SO}{U:IC.Env}{D:Ends}{pos p p2 px:Bf}{a b c o tg l:AW}{ca cb cc:Ce}{es:Hx AW}{ces:Ces}{ss:Hx Bg}{cs:Css}{ci:Cit}{ct:Tg}
def zlb:PE X a (tE S X .nope):=λF s C H Q I #[B,E,st,U,b,c,h]=>by erw[ev]at h;exact h.elim
def zjY{a}:PS X a (tS S X .nope):=λF s C H D I #[B,E,st,U,b,c,h]=>by erw[ex]at h;exact h.elim
theorem PI.imp{t t':TI}(h:PI X tg l t')(k:∀C H R,t C H R->t' C H R):PI X tg l t:=λF s C H R I q=>h F s C H R I (k C H R q)
def zjo{r}(t:PE X l r):PI X tg l (λC H R=>r C H λx H1=>∃a,x=.ref a/\(((∃f,SqL X.K H1 a f)/\R (Itl X.K a) H1) \/ ((∃f,SqT X.K H1 a f)/\R (Itt X.K a) H1))):=by
 intro F s C H R I h;refine thn (t F s C H _ I h) λv c kq=>?_;let#[x,H1,d,u,j]:=kq;let#[a,e,j]:=j;subst e
 cases u
 rcases j with⟨⟨f,m⟩,q⟩|⟨⟨f,m⟩,q⟩
 .let#[g,w,p,y]:=d.list m;refine Fx p.isList ?_;refine#[c.heap.objs.size,[c.heap.objs.size],_,_,H1,rfl,d.kept (t':=c.toks) λb o e=>AU _ e,zgd a _,#[_,A5 _ rfl,rfl,rfl],λb n=>?_,q];have e:b=c.heap.objs.size:=by simpa using n
  subst e;exact d.fpOk (AS _) (d.hok.fresh (AS _))
 .let#[g,w,p,y]:=d.tuple m;refine CL (show c.heap.IsTuple a g.toArray from p) ?_;refine#[c.heap.objs.size,[c.heap.objs.size],_,_,H1,rfl,d.kept (t':=c.toks) λb o e=>AU _ e,zfn a _,#[_,A5 _ rfl,rfl,rfl],λb n=>?_,q];have e:b=c.heap.objs.size:=by simpa using n
  subst e;exact d.fpOk (AS _) (d.hok.fresh (AS _))
def zgv{k vs xs y}(rt:ybv X.K B E H k y xs)(l:yg X.K S.cl B E H vs xs):Drw S X B E H vs (Itt X.K y):=by
 have m:=l.length;refine#[λb c s=>#[xs,(rt.step s).sq,()],λi b c s d=>#[xs,xs[i]'(),(rt.step s).sq,by simp[show i<xs.length by lia]],λi b c st x n o g s p d q=>?_];let#[rfl,q]:=q;obtain⟨v,f⟩:∃v,vs[i]?=AA v:=#[vs[i],by simp[d]];let#[r,a,j]:=l.get i f;have:=q xs (rt.step s).sq;rw[this]at a
 cases a
 exact#[v,f,(j.moreB g).step s,λ_ _ e=>e]
def zhd{vs xs y}(rt:ybR B E H y xs)(l:yg X.K S.cl B E H vs xs):Drw S X B E H vs (Itl X.K y):=by
 have m:=l.length;refine#[λb c s=>#[xs,(rt.step s).sq,()],λi b c s d=>#[xs,xs[i]'(),(rt.step s).sq,by simp[show i<xs.length by lia]],λi b c st x n o g s p d q=>?_];let#[rfl,q]:=q;obtain⟨v,f⟩:∃v,vs[i]?=AA v:=#[vs[i],by simp[d]];let#[r,a,j]:=l.get i f;have:=q xs (rt.step s).sq;rw[this]at a
 cases a
 exact#[v,f,(j.moreB g).step s,λ_ _ e=>e]
def zmy(g:PE X l (tE S X ca)):PI X tg l (tI S X (.seq ca)):=
 (zjo g).imp λC H R #[B,E,st,U,j,m,h]=>by
  erw[IC.vjq0,IC.vjq1,IC.vjq2,IC.vjq3,IC.vjq4,IC.vjq5,IC.vjq6,IC.vjq7,IC.vjq8,IC.vjq9]at h;refine tE.bind j m h λx H1 v n E1 q a o c d=>?_
  cases v with
  |tp k p=>
   erw[yd]at c;let#[y,f,rfl,b,l]:=c;exact#[y,rfl,.inr #[#[f,b.sq],d.ok a (zgv b l)]]
  |lst p=>
   erw[yd]at c;let#[y,f,rfl,b,l]:=c;exact#[y,rfl,.inl #[#[f,b.sq],d.ok a (zhd b l)]]
  |_=>exact d.elim
def zbu:∀(n:Hy) (lo d:Hz) (i:Hy),(ye n lo d)[i]?=if i<n then AA (.int (lo+i*d))else AF
 |0,lo,d,i=>by simp[ye]
 |n+1,lo,d,0=>by simp[ye]
 |n+1,lo,d,i+1=>by
  erw[ye,AY];rw[zbu n (lo+d) d i]
  by_cases h:i<n
  .rw[ID h,ID (),Hz.natCast_succ,Hz.add_mul,EL,HH,HX d]
  .rw[IE h,IE ()]
def zM:∀(n:Hy) (lo d:Hz),(ye n lo d).length=n
 |0,lo,d=>rfl
 |n+1,lo,d=>by simp[ye,zM n]
def zcs{lo:Hz}{n:Hy}:Drw S X B E H (ye n lo 1) (Itr lo n):=by refine#[λb c s=>by rw[zM];exact AS _,λi b c s a=>by rw[zM]at a;exact a,λi b c st x d f g s j a q=>?_];rw[zM]at a;let#[rfl,rfl]:=q;refine#[.int (lo+i),?_,by erw[yd],λ_ _ e=>e];rw[zbu,ID a,C3]
def zdf{o st Q}(h:Run S X C B E H (RD S X B) (toL o st) Q):∃a,o=AA a/\Run S X C B E H (RD S X B) (.ok a st) Q:=by
 cases o with
 |none=>exact h.elim
 |some z=>exact#[z,rfl,h]
def zhi(g:Gl X "range")(l:X.mg "range"=AF)(m:PE X a (tE S X ca))(d:starEach [a] X.env=[(AC,eval a X.env)]:=by rfl):PI X tg (.Call (.Name "range" p) [a] [] pos) (tI S X (.range1 ca)):=
 (zdX g l (zJ m zhz d) d).imp λC H R #[B,E,st,U,n,o,h]=>by
  erw[IC.vjq0,IC.vjq1,IC.vjq2,IC.vjq3,IC.vjq4,IC.vjq5,IC.vjq6,IC.vjq7,IC.vjq8,IC.vjq9]at h;refine tE.bind n o h λx H1 v q E1 t b r f c=>?_;let#[u,e,c]:=zdf c
  cases v with
  |int j=>
   erw[ya9]at e;split at e
   .cases e
    erw[yd]at f;subst f;exact#[j,rfl,(),(),c.ok b zcs]
   .cases e
  |_=>cases e
def zhZ{x y:PV}{xs}(h:ydD x y=AA xs):∃i j,x=.int i/\y=.int j/\i.natAbs<1000000000/\j.natAbs<1000000000/\xs=ye (j-i).toNat i 1:=by
 unfold ydD at h;split at h
 .split at h
  .rename_i c;exact#[_,_,rfl,rfl,c.1,c.2,(A0 h).symm]
  .cases h
 .cases h
def zhU{x y:PV}{xs}(h:yc9 x y=AA xs):∃i j,x=.int i/\y=.int j/\i.natAbs<1000000000/\j.natAbs<1000000000/\xs=ye (i-j).toNat i (-1):=by
 unfold yc9 at h;split at h
 .split at h
  .rename_i c;exact#[_,_,rfl,rfl,c.1,c.2,(A0 h).symm]
  .cases h
 .cases h
def zhu(o:Gl X "range")(q:X.mg "range"=AF)(r:PE X a (tE S X ca))(t:PE X b (tE S X cb))(m:starEach [a,b] X.env=[(AC,eval a X.env),(AC,eval b X.env)]:=by rfl)(c:starEach [b] X.env=[(AC,eval b X.env)]:=by rfl):
  PI X tg (.Call (.Name "range" p) [a,b] [] pos) (tI S X (.range2 ca cb)):=
 (zgJ o q (zJ r (zJ t zhz c) (by rw[m,c])) m c).imp λC H R #[B,E,st,U,u,z,h]=>by erw[IC.vjq0,IC.vjq1,IC.vjq2,IC.vjq3,IC.vjq4,IC.vjq5,IC.vjq6,IC.vjq7,IC.vjq8,IC.vjq9]at h;refine tE.bind u z h λx H1 v A E1 J d f n D=>tE.bind d f D λy L w G E2 M g I rw l=>?_;let#[N,e,l]:=zdf l;let#[i,j,rfl,rfl,O,Y,rfl]:=zhZ e;erw[yd]at n rw;subst n rw;exact#[i,j,rfl,#[(),(),(),()],l.ok g zcs]
def zcj:∀xs(k i:Hy),(yK k xs)[i]?=(xs[i]?).map λx=>.tup [.int ((k+i:Hy):Hz),x]
 |[],k,i=>by simp[yK]
 |x::xs,k,0=>by simp[yK]
 |x::xs,k,i+1=>by
  erw[yK,AY];rw[zcj xs (k+1) i];have:k+1+i=k+(i+1):=()
  rw[this]
def zcd:∀xs(k:Hy),(yK k xs).length=xs.length
 |[],k=>rfl
 |x::xs,k=>by simp[yK,zcd xs]
def ziR{k vs xs y}(rt:ybv X.K B E H k y xs)(l:yg X.K S.cl B E H vs xs):Drw S X B E H (yK 0 vs) (Ite X.K y):=by
 have t:=l.length;have u:=zcd vs 0;refine#[λc d s=>#[xs,(rt.step s).sq,()],λi c d s m=>#[xs,xs[i]'(),(rt.step s).sq,by simp[show i<xs.length by lia]],λi c d st x w z n s p m q=>?_];let#[T,f,rfl,q]:=q;obtain⟨v,g⟩:∃v,vs[i]?=AA v:=#[vs[i]'(),by simp[show i<vs.length by lia]];let#[j,a,r]:=l.get i g;have e:=q xs j (rt.step s).sq a;subst e;refine#[.tup [.int i,v],?_,.tup_new f p ?_,λb o e=>by rw[zk (zm e f)];exact e]
 .rw[zcj,g];simp
 .simp only[yg,yd];exact#[_,_,rfl,rfl,j,[],rfl,(r.moreB n).step s,rfl]
def zk8{es}{j:Hy}{tp}(m:Gl X "enumerate")(n:X.mg "enumerate"=AF)(o:PE X a (tE S X ca))(c:starEach [a] X.env=[(AC,eval a X.env)]:=by rfl):
  PI X (.Tuple es j tp) (.Call (.Name "enumerate" p) [a] [] pos) (tI S X (.enum ca)):=
 (ziN m n (zJ o zhz c) c).imp λC H R #[B,E,st,U,q,r,h]=>by
  erw[IC.vjq0,IC.vjq1,IC.vjq2,IC.vjq3,IC.vjq4,IC.vjq5,IC.vjq6,IC.vjq7,IC.vjq8,IC.vjq9]at h;refine tE.bind q r h λx H1 v t E1 z b u d f=>?_
  cases v with
  |tp k A=>
   erw[yd]at d;let#[y,w,rfl,g,l]:=d;exact#[y,rfl,#[w,g.sq],f.ok b (ziR g l)]
  |_=>exact f.elim
def tG(S:Se)(X:Cx)(t:Tg):TG:=λv C H Q=>∃B E st U w a,yr X.K S.cl B E H st/\yF X.K S.cl B E H U C/\yd X.K S.cl B E H w v/\yC t w U=AA a/\∀b,yF X.K S.cl B E H a b->Q b H
theorem PG.imp{t t':TG}(h:PG X tg t')(k:∀v C H Q,t v C H Q->t' v C H Q):PG X tg t:=λF s C H v u Q I a q=>h F s C H v u Q I a (k v C H Q q)
def zkF{i:Hy}{x}(a:X.N.Nodup)(hi:X.N[i]?=AA x)(b:Loc X.env.scope x)(hf:X.fn x=AD \/ X.env.scope.names.lookup x=AA .local:=by first|exact .inl rfl|exact .inr rfl|assumption):PG X (.Name x pos) (tG S X (.n i)):=
 (zf1 a hi b hf).imp λv C H Q #[B,E,st,U,w,f,g,c,d,e,q]=>by
  cases e
  exact q _ (c.set i d)
def gNs(l:Hx Hy):TGs:=λa C H Q=>a.length=l.length/\Q ((l.zip a).foldl (λC p=>C.set p.1 (AA p.2)) C) H
theorem PGs.imp{es:Hx AW}{t t':TGs}(h:PGs X es t')(k:∀v C H Q,t v C H Q->t' v C H Q):PGs X es t:=λF s C H a b Q I c q=>h F s C H a b Q I c (k a C H Q q)
def zjU:PGs X [] (gNs []):=zoT.imp λa C H Q #[h,q]=>by
 cases a with
 |nil=>exact#[rfl,q]
 |cons _ _=>cases h
def ziI{es l}{i:Hy}{x}(b:X.N.Nodup)(hi:X.N[i]?=AA x)(c:Loc X.env.scope x)(d:PGs X es (gNs l))(hf:X.fn x=AD \/ X.env.scope.names.lookup x=AA .local:=by first|exact .inl rfl|exact .inr rfl|assumption):PGs X (.Name x pos::es) (gNs (i::l)):=
 (ziL (zf1 b hi c hf) d).imp λa C H Q #[h,q]=>by
  cases a with
  |nil=>cases h
  |cons v a=>exact#[v,a,rfl,by simpa using h,q]
theorem yF.sets{K:AG}{b:Hy->AK}:∀(l:Hx Hy) {vs:Hx PV} {xs:Hx V} {U:IC.Env} {C:St},yF K b B E H U C->yg K b B E H vs xs ->
  yF K b B E H ((l.zip vs).foldl (λU p=>U.set p.1 (AA p.2)) U) ((l.zip xs).foldl (λC p=>C.set p.1 (AA p.2)) C)
 |[],vs,xs,U,C,a,l=>by simpa using a
 |i::c,[],xs,U,C,a,l=>by erw[yg]at l;subst l;simpa using a
 |i::c,v::vs,xs,U,C,a,l=>by erw[yg]at l;let#[y,d,rfl,r,l]:=l;erw[EA,Da];exact yF.sets c (a.set i r) l
def zli{es l}{k:Hy}(m:X.calm=AD)(h:PGs X es (gNs l))(n:(assignEach es X.env).length=l.length:=by rfl)(d:(assignEach es X.env).findIdx? (·.1)=none:=by rfl):PG X (.Tuple es k pos) (tG S X (.t l)):=
 (zkB m h n d).imp λv C H Q #[B,E,st,U,w,r,u,j,b,e,q]=>by
  cases w with
  |tp x o=>
   erw[yC]at e;split at e
   .rename_i c
    cases e
    erw[yd]at b;let#[y,f,rfl,g,a]:=b;have p:=a.length;exact#[y,f,rfl,.inl g.sq,(),(),q _ (yF.sets l j a)]
   .cases e
  |lst o=>
   erw[yC]at e;split at e
   .rename_i c
    cases e
    erw[yd]at b;let#[y,f,rfl,g,a]:=b;have p:=a.length;exact#[y,f,rfl,.inr g.sq,(),(),q _ (yF.sets l j a)]
   .cases e
  |_=>cases e
def zkm{es l}{k:Hy}(j:PE X a (tE S X ca))(m:PG X (.Tuple es k p2) (tG S X (.t l)))(n:swapsWithSole [.Tuple es k p2] a pos.line X.env=pure false:=by rfl)(o:swappedStores [.Tuple es k p2] a X.env=pure none:=by rfl):
  PS X (.Assign [.Tuple es k p2] a pos) (tS S X (.asg (.t l) ca)):=
 (ziY j m n o).imp λD C H #[B,E,st,U,p,q,h]=>by
  erw[ex]at h;refine tE.fl p q h λx H1 v d E1 s b f r c=>?_
  cases e:yC (.t l) v U with
  |none=>rw[e]at c;exact c.elim
  |some u=>
   rw[e]at c;exact#[B,E1,d,U,v,u,b,f,r,e,λw g=>c w H1 E1 .rfl b g]
theorem tI.fl{k:Hx PV->SO->Fl}{P:It->Hp->Prop}(rs:yr X.K S.cl B E H st)(c:yF X.K S.cl B E H U C)(h:yaB S X B E H ((evi S.call U st ci).fl U k) D)
  (n:∀x H1 v a E1,Step E H E1 H1->yr X.K S.cl B E1 H1 a->yF X.K S.cl B E1 H1 U C->Drw S X B E1 H1 v x->yaB S X B E1 H1 (k v a) D->P x H1):tI S X ci C H P:=by
 refine#[B,E,st,U,rs,c,?_]
 cases e:evi S.call U st ci with
 |ok v b=>
  rw[e]at h;exact λx f g s d j=>n x f v b g s d (c.step s) j (h.on s)
 |exc k b=>
  rw[e]at h;exact λe l x=>h C E H e l .rfl c x
 |bad=>rw[e]at h;exact h
def zmQ(hp:EX (model X.prog X.w) X.A X.env X.xe)(hc:X.calm=AD)(hi:PI X tg l (tI S X ci))(hg:PG X tg (tG S X ct))(hb:PSs X ss (tSs S X cs))(hs:∀x,foldedSetIterable l X.env x=pure x:=by intro _;rfl):
  PS X (.For tg l ss [] pos) (tS S X (.for ct ci cs)):=
 (zm9 hp hc hi hg hb hs).imp λD C H #[B,E,st,U,rs,re,h]=>by
  erw[ex]at h;refine tI.fl rs re h λJ H1 f N E1 s1 O Y Z h1=>?_;refine#[λi m C H=>∃E st U,i+m=f.length/\Step E1 H1 E H/\yr X.K S.cl B E H st/\yF X.K S.cl B E H U C/\yaB S X B E H (forL ct (λr a=>exs S.call r a cs) (f.drop i) U st) D,
   #[f.length,E1,N,U,(),.rfl,O,Y,by simpa using h1],?_]
  rintro i m C2 u ⟨E2,a,r,hm,w,g,y,j⟩
  by_cases hi:i<f.length
  .refine .inr #[Z.go i E2 u w hi,λC' A=>∃E st U,Step E1 H1 E A/\yr X.K S.cl B E A st/\yF X.K S.cl B E A U C'/\yaB S X B E A (forL ct (λr a=>exs S.call r a cs) (f.drop (i+1)) U st) D,
    λC' A #[E,st,U,s,q]=>#[m-1,(),E,st,U,(),s,q],λx H3 hy=>?_]
   let#[v,hv,rv,kk]:=Z.yld i E2 u a x H3 B (λ_ z=>.inl z) w g hi hy;have e:f.drop i=v::f.drop (i+1):=by rw[EG hi];rw[ES hi]at hv;rw[A0 hv]
   have M:Step E2 u E2 H3:=#[λb o _ e=>kk b o e,AS _,λ_ _ _ e=>e,λ_ h=>.inl h];have G:yr X.K S.cl B E2 H3 a:=g.same kk;rw[e,forL]at j
   cases eb:yC ct v r with
   |none=>rw[eb]at j;exact j.elim
   |some U3=>
    rw[eb]at j;refine#[B,E2,a,r,v,U3,G,y.step M,rv,eb,λC' re'=>#[B,E2,a,U3,G,re',?_]];have c:=yaB.on M j;dsimp only at c
    cases t:exs S.call U3 a cs with
    |nx I d=>
     rw[t]at c;exact λC4 H4 E4 L n p=>#[E4,d,I,w.trans (M.trans L),n,p,yaB.on L c]
    |ct I d=>
     rw[t]at c;exact λC4 H4 E4 L n p=>#[E4,d,I,w.trans (M.trans L),n,p,yaB.on L c]
    |bk I d=>rw[t]at c;exact c
    |rt v4 d=>rw[t]at c;exact c
    |exc k I d=>rw[t]at c;exact c
    |bad=>rw[t]at c;exact c
  .have e:i=f.length:=()
   subst e;rw[GV,forL]at j;exact .inl #[Z.stop E2 u w,j C2 u E2 .rfl g y]
def zis(G:EX (model X.prog X.w) X.A X.env X.xe)(I:PT X c (tTs S X cc))(J:PSs X ss (tSs S X cs)):PS X (.While c ss [] pos) (tS S X (.while cc cs)):=
 (ziD G I J).imp λD C H #[B,E,st,U,L,M,h]=>by
  erw[ex]at h;refine#[λm C H=>∃E st U,yr X.K S.cl B E H st/\yF X.K S.cl B E H U C/\yaB S X B E H (yan (λb a=>ev S.call b a cc) (λb a=>exs S.call b a cs) m U st) D,#[100000,E,st,U,L,M,h],?_]
  rintro m C2 Y ⟨E2,a,b,x,y,u⟩
  cases m with
  |zero=>exact u.elim
  |succ m=>
   rw[yan]at u;rw[flT _ λk n=>cond k (yS (exs S.call b n cs) λb a=>yan (λb a=>ev S.call b a cc) (λb a=>exs S.call b a cs) m b a) (.nx b n)]at u;refine tTs.fl x y u λk N o E3 Z p r d=>?_
   cases k with
   |false=>exact d C2 N E3 .rfl p r
   |true=>
    refine#[λA w=>∃E st U,yr X.K S.cl B E w st/\yF X.K S.cl B E w U A/\yaB S X B E w (yan (λb a=>ev S.call b a cc) (λb a=>exs S.call b a cs) m U st) D,
     λA w q=>#[m,(),q],B,E3,o,b,p,r,?_]
    erw[Ia]at d
    cases l:exs S.call b o cs with
    |nx t f=>
     rw[l]at d;exact λC4 O E4 z g j=>#[E4,f,t,g,j,yaB.on z d]
    |ct t f=>
     rw[l]at d;exact λC4 O E4 z g j=>#[E4,f,t,g,j,yaB.on z d]
    |bk t f=>rw[l]at d;exact d
    |rt v4 f=>rw[l]at d;exact d
    |exc k t f=>rw[l]at d;exact d
    |bad=>rw[l]at d;exact d
end
end L2
namespace IC
open PySem
def RLe{A:Type}(r q:R A):Prop:=r=.bad \/ r=q
def FLe(f g:Fl):Prop:=f=.bad \/ f=g
abbrev Cl:=Hy->Hx PV->SO->R PV
def CLe(c d:Cl):Prop:=∀f a s,RLe (c f a s) (d f a s)
theorem RLe.rfl{A:Type}{r:R A}:RLe r r:=.inr (Cf _)
theorem FLe.rfl{f:Fl}:FLe f f:=.inr (Cf _)
theorem RLe.bind{A B:Type}{r q:R A}{k l:A->SO->R B}(h:RLe r q)(b:∀a s,RLe (k a s) (l a s)):RLe (r.bind k) (q.bind l):=by
 rcases h with h|h
 .subst h;exact .inl (Cf _)
 .subst h
  cases r with
  |ok a s=>exact b a s
  |exc c s=>exact .rfl
  |bad=>exact .rfl
theorem RLe.fl{A:Type}{r q:R A}{U:Env}{k l:A->SO->Fl}(h:RLe r q)(b:∀a s,FLe (k a s) (l a s)):FLe (r.fl U k) (q.fl U l):=by
 rcases h with h|h
 .subst h;exact .inl (Cf _)
 .subst h
  cases r with
  |ok a s=>exact b a s
  |exc c s=>exact .rfl
  |bad=>exact .rfl
theorem RLe.comp{r q:R (Hx PV)}(h:RLe r q):RLe (ybO r) (ybO q):=by
 rcases h with h|h
 .subst h;exact .inl (Cf _)
 .subst h;exact .rfl
def zhf{A x}{k l:IB->R A}(h:∀b,RLe (k b) (l b)):RLe (onBl x k) (onBl x l):=by
 cases x with
 |bl b=>exact h b
 |_=>exact .rfl
def zcb{A x}{k l:IB->R A}(h:∀b,RLe (k b) (l b)):RLe (onO x k) (onO x l):=by
 cases x with
 |some b=>exact h b
 |none=>exact .rfl
def zjp{x}{k l:IB->Fl}(h:∀b,FLe (k b) (l b)):FLe (onF x k) (onF x l):=by
 cases x with
 |some b=>exact h b
 |none=>exact .rfl
def znf{A x}{k l:Option Hz->R A}(h:∀b,RLe (k b) (l b)):RLe (onP x k) (onP x l):=by
 cases x with
 |some b=>exact h b
 |none=>exact .rfl
def zcv{A b}{r q a c:R A}(h:RLe r q)(h':RLe a c):RLe (cond b r a) (cond b q c):=by
 cases b
 .exact h'
 .exact h
def zfj{b r q a c}(h:FLe r q)(h':FLe a c):FLe (cond b r a) (cond b q c):=by
 cases b
 .exact h'
 .exact h
def zbY{f g:PV->SO->R (Option PV)}(h:∀x s,RLe (f x s) (g x s)):∀xs s,RLe (compL f xs s) (compL g xs s)
 |[],s=>.rfl
 |x::xs,s=>(h x s).bind λo a=>(zbY h xs a).bind λb c=>.rfl
theorem RLe.emR{a b:R PV}(h:RLe a b):RLe (emR a) (emR b):=by
 rcases h with h|h
 .subst h;exact .inl (Cf R.bad)
 .subst h;exact .rfl
theorem RLe.tupR{a b:R (Hx PV)}(h:RLe a b):RLe (tupR a) (tupR b):=by
 rcases h with h|h
 .subst h;exact .inl (Cf R.bad)
 .subst h;exact .rfl
theorem RLe.dctR{a b:R (Hx (PV×PV))}(h:RLe a b):RLe (dctR a) (dctR b):=by
 rcases h with h|h
 .subst h;exact .inl (Cf R.bad)
 .subst h;exact .rfl
def zct{f g}{k l:Env->SO->Fl}(h:FLe f g)(a:∀U s,FLe (k U s) (l U s)):FLe (yS f k) (yS g l):=by
 rcases h with h|h
 .subst h;exact .inl (Cf _)
 .subst h
  cases f with
  |nx U s=>exact a U s
  |ct U s=>exact a U s
  |_=>exact .rfl
def zdg{t}{f g:Env->SO->Fl}(h:∀U s,FLe (f U s) (g U s)):∀xs U s,FLe (forL t f xs U s) (forL t g xs U s)
 |[],U,s=>.rfl
 |x::xs,U,s=>by
  unfold forL
  cases yC t x U with
  |none=>exact .rfl
  |some a=>exact zct (h a s) λb c=>zdg h xs b c
def zdE{t u:Env->SO->R PV}{f g:Env->SO->Fl}(a:∀U s,RLe (t U s) (u U s))(h:∀U s,FLe (f U s) (g U s)):∀n U s,FLe (yan t f n U s) (yan u g n U s)
 |0,U,s=>.rfl
 |n+1,U,s=>by unfold yan;exact(a U s).fl λx c=>zjp λb=>zfj (zct (h U c) λd j=>zdE a h n d j) .rfl
mutual
theorem zc{c d}(h:CLe c d):∀e U s,RLe (ev c U s e) (ev d U s e)
 |.cst v,U,s=>by exact .rfl
 |.var i,U,s=>by exact .rfl
 |.bin o a b,U,s=>by exact(zc h a U s).bind λx j=>(zc h b U j).bind λy r=>.rfl
 |.neg a,U,s=>by exact(zc h a U s).bind λx j=>.rfl
 |.not a,U,s=>by exact(zc h a U s).bind λx j=>.rfl
 |.and a b,U,s=>by refine(zc h a U s).bind λx j=>?_;exact zhf λk=>zcv (zc h b U j) .rfl
 |.or a b,U,s=>by refine(zc h a U s).bind λx j=>?_;exact zhf λk=>zcv .rfl (zc h b U j)
 |.cmp o a b,U,s=>by exact(zc h a U s).bind λx j=>(zc h b U j).bind λy r=>.rfl
 |.chain o p a b k,U,s=>by refine(zc h a U s).bind λx j=>(zc h b U j).bind λy r=>?_;exact zcb λq=>zcv ((zc h k U r).bind λz w=>.rfl) .rfl
 |.ite k a b,U,s=>by exact(zc h k U s).bind λx j=>zcb λq=>zcv (zc h a U j) (zc h b U j)
 |.tup n,U,s=>by exact(zah h n U s).bind λx j=>.rfl
 |.lst n,U,s=>by exact(zah h n U s).bind λx j=>.rfl
 |.newl n,U,s=>by exact(zah h n U s).bind λx j=>.rfl
 |.dict0 t,U,s=>by exact .rfl
 |.idx a i,U,s=>by exact(zc h a U s).bind λx j=>(zc h i U j).bind λy r=>.rfl
 |.slc a l u,U,s=>by exact(zc h a U s).bind λx j=>(zc h l U j).bind λy r=>znf λo=>(zc h u U r).bind λz w=>.rfl
 |.call f n,U,s=>by exact(zah h n U s).bind λx j=>h f x j
 |.blt b n,U,s=>by exact(zah h n U s).bind λx j=>.rfl
 |.mth m o n,U,s=>by exact(zc h o U s).bind λx j=>zcb λ_=>(zah h n U j).bind λy r=>.rfl
 |.isi a H,U,s=>by exact(zc h a U s).bind λx j=>.rfl
 |.comp I E G k e,U,s=>by
  refine(zcR h G U s).bind λB j=>?_;have q:=λ(f g:PV->SO->R (Option PV)) (A:∀x s,RLe (f x s) (g x s))=>zbY A B j;refine RLe.comp (zbY (λx r=>?_) B j)
  cases yC E x _ with
  |none=>exact .rfl
  |some C=>
   dsimp only;exact(zc h k C r).bind λb w=>zcb λq=>zcv ((zc h e C w).bind λy J=>.rfl) .rfl
 |.nope,U,s=>by exact .rfl
 |.frz a,U,s=>by exact(zc h a U s).bind λx j=>.rfl
 |.dix D a,U,s=>by exact(zc h a U s).bind λx j=>.rfl
 |.din a D,U,s=>by exact(zc h a U s).bind λx j=>.rfl
 |.fld q a f,U,s=>by exact(zc h a U s).bind λx j=>.rfl
 |.new q i n,U,s=>by
  refine(zah h n U s).bind λx j=>RLe.bind ?_ λv r=>.rfl;rcases h i (.loc j.length::x) (j++[.ins q []])with e|e
  .rw[e];exact .inl (Cf _)
  .rw[e];exact .rfl
 |.mcl q i m o n,U,s=>by exact(zc h o U s).bind λx j=>zcb λ_=>(zah h n U j).bind λy r=>h i (x::y) r
theorem zah{c d}(h:CLe c d):∀e U s,RLe (evs c U s e) (evs d U s e)
 |.nil,U,s=>by exact .rfl
 |.cons e a,U,s=>by exact(zc h e U s).bind λx b=>(zah h a U b).bind λy f=>.rfl
theorem zcR{c d}(h:CLe c d):∀e U s,RLe (evi c U s e) (evi d U s e)
 |.seq e,U,s=>by exact(zc h e U s).bind λx f=>.rfl
 |.range1 a,U,s=>by exact(zc h a U s).bind λx f=>.rfl
 |.range2 a b,U,s=>by exact(zc h a U s).bind λx f=>(zc h b U f).bind λy g=>.rfl
 |.rangeD a b,U,s=>by exact(zc h a U s).bind λx f=>(zc h b U f).bind λy g=>.rfl
 |.enum e,U,s=>by exact(zc h e U s).bind λx f=>.rfl
 |.zipl a b,U,s=>by exact(zc h a U s).bind λx f=>(zc h b U f).bind λy g=>.rfl
 |.zip a b,U,s=>by exact(zc h a U s).bind λx f=>(zc h b U f).bind λy g=>.rfl
 |.revl e,U,s=>by exact(zc h e U s).bind λx f=>.rfl
 |.revr e,U,s=>by exact(zc h e U s).bind λx f=>.rfl
 |.chars e,U,s=>by exact(zc h e U s).bind λx f=>.rfl
end
mutual
theorem zn9{c d}(h:CLe c d):∀x U s,FLe (ex c U s x) (ex d U s x)
 |.expr e,U,s=>by exact(zc h e U s).fl λx g=>.rfl
 |.asg t e,U,s=>by exact(zc h e U s).fl λx g=>.rfl
 |.six o i e,U,s=>by exact(zc h e U s).fl λx g=>(zc h o U g).fl λy j=>(zc h i U j).fl λz m=>.rfl
 |.dput o i e,U,s=>by exact(zc h e U s).fl λx g=>(zc h o U g).fl λy j=>(zc h i U j).fl λz m=>.rfl
 |.aug i o e,U,s=>by
  first|erw[ev]|erw[ex,IC.xqq0,IC.xqq1]
  split
  .exact(zc h e U s).fl λx g=>.rfl
  .exact .rfl
 |.ret e,U,s=>by exact(zc h e U s).fl λx g=>.rfl
 |.ite k a b,U,s=>by exact(zc h k U s).fl λx g=>zjp λq=>zfj (zaE h a U g) (zaE h b U g)
 |.for t p b,U,s=>by exact(zcR h p U s).fl λr g=>zdg (λl j=>zaE h b l j) r U g
 |.while k b,U,s=>by exact zdE (λl j=>zc h k l j) (λl j=>zaE h b l j) _ U s
 |.nope,U,s=>by exact .rfl
 |.mkr i D n u,U,s=>by
  refine(zc h n U s).fl λx g=>?_;split
  .exact((zah h u _ g).bind λw j=>h _ w j).fl λv m=>.rfl
  .exact .rfl
 |.sfl q o f e,U,s=>by exact(zc h e U s).fl λx g=>(zc h o U g).fl λy j=>.rfl
theorem zaE{c d}(h:CLe c d):∀x U s,FLe (exs c U s x) (exs d U s x)
 |.nil,U,s=>by exact .rfl
 |.cons x a,U,s=>by
  first|erw[ev]|erw[ex,IC.xqq0,IC.xqq1]
  rcases zn9 h x U s with e|e
  .rw[e];exact .inl (Cf _)
  .rw[e]
   cases ex d U s x with
   |nx b f=>exact zaE h a b f
   |_=>exact .rfl
end
def zdB(T):∀k,CLe (yc T k) (yc T (k+1))
 |0,f,a,s=>.inl (Cf _)
 |k+1,f,a,s=>by
  have h:=zdB T k;rw[yc,yc]
  cases T f with
  |none=>exact .rfl
  |some fn=>
   dsimp only;split
   .split
    .split
     .rcases zaE h fn.body (a.map AA++Am (fn.ns-fn.np) AF) []with e|e
      .rw[e];exact .inl (Cf _)
      .rw[e];exact .rfl
     .exact .rfl
    .rcases zaE h fn.body (a.map AA++Am (fn.ns-fn.np) AF) s with e|e
     .rw[e];exact .inl (Cf _)
     .rw[e];exact .rfl
   .exact .rfl
def zc3{T}{k:Hy}{f:Hy}{a}{s b:SO}{v}(h:yc T k f a s=.ok v b):∀j,yc T (k+j) f a s=.ok v b
 |0=>h
 |j+1=>by
  have q:=zc3 h j;rcases zdB T (k+j) f a s with e|e
  .rw[q]at e;cases e
  .rw[HA]at e;rw[<-e];exact q
def yaz(call:Cl)(t:Tg)(b:Css)(xs:Hx PV)(U:Env)(st:SO):Fl:=forL t (λc a=>exs call c a b) xs U st
def yaM(call:Cl)(c:Ce)(b:Css)(n:Hy)(U:Env)(st:SO):Fl:=yan (λd a=>ev call d a c) (λd a=>exs call d a b) n U st
def yaR(call:Cl)(U0:Env)(t:Tg)(c e:Ce)(x:PV)(d:SO):R (Option PV):=match yC t x U0 with
 |none=>.bad
 |some g=>(ev call g d c).bind λb a=>onO (yay a b) λk=>cond k ((ev call g a e).bind λy f=>.ok (AA y) f) (.ok AF a)
def yQ(call:Cl)(U0:Env)(t:Tg)(c e:Ce)(xs:Hx PV)(st:SO):R (Hx PV):=compL (yaR call U0 t c e) xs st
def yat(f:Fl)(k:Env->SO->Fl):Fl:=
 match f with
 |.nx U st=>k U st
 |f=>f
def nxO(o:Option Env)(st:SO):Fl:=
 match o with
 |some U=>.nx U st
 |none=>.bad
def stO(U:Env)(o:Option SO):Fl:=
 match o with
 |some st=>.nx U st
 |none=>.bad
section
variable {call:Cl}{U:Env}{st:SO}
theorem x_for{t c b}:ex call U st (.for t c b)=(evi call U st c).fl U λd a=>yaz call t b d U a:=rfl
def zkZ{c b}:ex call U st (.while c b)=yaM call c b 100000 U st:=rfl
theorem v_comp{sl t b c e}:ev call U st (.comp sl t b c e)=(evi call U st b).bind λd a=>ybO (yQ call (sl.map λo=>o.bind λj=>(U[j]?).join) t c e d a):=rfl
def zw{t b}:yaz call t b [] U st=.nx U st:=rfl
def zl{t b x}{xs:Hx PV}{U1}(h:yC t x U=AA U1):yaz call t b (x::xs) U st=yS (exs call U1 st b) λc a=>yaz call t b xs c a:=by rw[yaz,forL,h];rfl
def zbV{t}{b:Css}(P:Hy->Env->SO->Prop):∀(xs:Hx PV)(i:Hy)U(st:SO),P i U st ->
  (∀(j:Hy)(x:PV)U(st:SO),xs[j]?=AA x->P (i+j) U st->∃g d a,yC t x U=AA g/\exs call g st b=.nx d a/\P (i+j+1) d a) ->
  ∃f c,yaz call t b xs U st=.nx f c/\P (i+xs.length) f c
 |[],i,U,st,h,_=>#[U,st,zw,h]
 |x::xs,i,U,st,h,k=>by
  let#[g,d,a,l,m,n]:=k 0 x U st rfl h;let#[f,c,o,p]:=zbV P xs (i+1) d a n λj y U st q r=>by have:=k (j+1) y U st (by simpa using q) (by rw[show i+(j+1)=i+1+j by lia];exact r);rw[show i+(j+1)+1=i+1+j+1 by lia]at this;exact this
  refine#[f,c,?_,by rw[AQ,show i+(xs.length+1)=i+1+xs.length by lia];exact p];rw[zl l,m];exact o
def zhC{c:Ce}{b:Css}{n:Hy}{x a d f}(h:ev call U st c=.ok x a)(g:yay a x=AA AD)(j:exs call U a b=.nx f d):yaM call c b (n+1) U st=yaM call c b n f d:=by rw[yaM,yan,h];erw[R.fl,g,onF,Ia,j,yS];rfl
def zd3{c:Ce}{b}{n:Hy}{x a}(h:ev call U st c=.ok x a)(d:yay a x=AA AC):yaM call c b (n+1) U st=.nx U a:=by rw[yaM,yan,h];erw[R.fl,d,onF,IY]
def zdU{U0 t c e}:yQ call U0 t c e [] st=.ok [] st:=rfl
def zH{U0 t c e}{x:PV}{xs:Hx PV}:yQ call U0 t c e (x::xs) st=(yaR call U0 t c e x st).bind λo a=>(yQ call U0 t c e xs a).bind λys b=>.ok (ycA o ys) b:=rfl
def zab{U0 t c e}{f:PV->PV}:∀(xs:Hx PV),(∀x∈xs,yaR call U0 t c e x st=.ok (AA (f x)) st)->yQ call U0 t c e xs st=.ok (xs.map f) st
 |[],_=>zdU
 |x::xs,h=>by rw[zH,h x AO];erw[R.bind];rw[zab xs λy a=>h y (AM _ a)];rfl
theorem xs_nil:exs call U st .nil=.nx U st:=rfl
def zq{s b}:exs call U st (.cons s b)=yat (ex call U st s) λc a=>exs call c a b:=rfl
theorem x_asg{t e}:ex call U st (.asg t e)=(ev call U st e).fl U λv a=>nxO (yC t v U) a:=rfl
theorem x_expr{e}:ex call U st (.expr e)=(ev call U st e).fl U λ_ a=>.nx U a:=rfl
theorem x_ret{e}:ex call U st (.ret e)=(ev call U st e).fl U λv a=>.rt v a:=rfl
def zd8{c a b}:ex call U st (.ite c a b)=(ev call U st c).fl U λx d=>onF (yay d x) λk=>cond k (exs call U d a) (exs call U d b):=rfl
theorem x_six{o i e}:ex call U st (.six o i e)=(ev call U st e).fl U λv a=>(ev call U a o).fl U λx b=>(ev call U b i).fl U λy c=>stO U (ya6 c x y v):=rfl
def yfp(o:Option Hy)(k:Hy->Fl):Fl:=match o with
 |some j=>k j
 |none=>.bad
def znU{i:Hy}{D n es}:ex call U st (.mkr i D n es)=(ev call U st n).fl U λx a=>yfp (mkV D (decide (i<U.length)) x) λj=>((evs call (U.set i AF) a es).bind λd b=>call j d b).fl (U.set i AF) λv c=>.rt v c:=rfl
def zg3{c:Hy}{o e f}:ex call U st (.sfl c o f e)=(ev call U st e).fl U λv a=>(ev call U a o).fl U λx b=>stO U (yaX c b x f v):=rfl
def zcO{o i e}:ex call U st (.dput o i e)=(ev call U st e).fl U λv a=>(ev call U a o).fl U λx b=>(ev call U b i).fl U λy c=>stO U (ybc c x y v):=rfl
def zjN{i:Hy}{o e x}(h:U[i]?=AA (AA x)):ex call U st (.aug i o e)=(ev call U st e).fl U λy a=>nxO ((ybb o x y).map λz=>U.set i (AA z)) a:=by
 rw[IC.xrq4,h];show (ev call U st e).fl U _=_;refine IM _ (funext λy=>funext λa=>?_)
 cases ybb o x y<;>rfl
end
theorem vi1(call)(U st a b):
  evi call U st (Cit.zipl a b)=R.bind (ev call U st a) λx c=>R.bind (ev call U c b) λy d=>toL (ycY x y) d:=rfl
def kS(call:Cl)(a:Css)(f:Fl):Fl:=yat f λU st=>exs call U st a
def kJ(call:Cl)(U:Env)(st:SO)(a b:Css)(o:Option IB):Fl:=onF o λk=>cond k (exs call U st a) (exs call U st b)
def kI(call:Cl)(U:Env)(a b:Css)(r:R PV):Fl:=r.fl U λx c=>kJ call U c a b (yay c x)
def kB(v:PV)(r:R (Hx PV)):R (Hx PV):=r.bind λb a=>.ok (v::b) a
def kA(call:Cl)(U:Env)(es:Ces)(r:R PV):R (Hx PV):=r.bind λv a=>kB v (evs call U a es)
def kY(h:PV->SO->R PV)(r:R PV):R PV:=r.bind λy a=>h y a
def kX(call:Cl)(U:Env)(b:Ce)(g:PV->PV->SO->R PV)(r:R PV):R PV:=r.bind λx a=>kY (g x) (ev call U a b)
def kN(call:Cl)(U:Env)(b:Ce)(r:R PV):R PV:=r.bind λx a=>onBl x λk=>cond k (ev call U a b) (.ok (.bl AC) a)
def kO(call:Cl)(U:Env)(b:Ce)(r:R PV):R PV:=r.bind λx a=>onBl x λk=>cond k (.ok (.bl AD) a) (ev call U a b)
def kF(call:Cl)(U:Env)(st:SO)(a b:Ce)(o:Option IB):R PV:=onO o λk=>cond k (ev call U st a) (ev call U st b)
def kE(call:Cl)(U:Env)(a b:Ce)(r:R PV):R PV:=r.bind λx c=>kF call U c a b (yay c x)
def kP(call:Cl)(U:Env)(st:SO)(m:Mth)(es:Ces)(x:PV)(o:Option IB):R PV:=onO o λ_=>(evs call U st es).bind λb a=>yaL m a x b
def kM(call:Cl)(U:Env)(m:Mth)(es:Ces)(r:R PV):R PV:=r.bind λx a=>kP call U a m es x (yL m a x)
section
variable {call:Cl}{U:Env}{st:SO}{s:Cs}{ss a b:Css}{c d e:Ce}{es:Ces}{v x y:PV}{n:Hy}{g:PV->PV->SO->R PV}{h:PV->SO->R PV}
theorem xs_conS:exs call U st (.cons s ss)=kS call ss (ex call U st s):=rfl
theorem kS1:kS call ss (.nx U st)=exs call U st ss:=rfl
theorem kS2:kS call ss (.rt v st)=.rt v st:=rfl
theorem kS3:kS call ss (.exc n U st)=.exc n U st:=rfl
theorem kS4:kS call ss (.bk U st)=.bk U st:=rfl
theorem kS5:kS call ss (.ct U st)=.ct U st:=rfl
theorem x_iteS:ex call U st (.ite c a b)=kI call U a b (ev call U st c):=rfl
theorem kI1:kI call U a b (.ok x st)=kJ call U st a b (yay st x):=rfl
theorem kI2:kI call U a b (.exc n st)=.exc n U st:=rfl
theorem kJ1:kJ call U st a b (AA AD)=exs call U st a:=rfl
theorem kJ2:kJ call U st a b (AA AC)=exs call U st b:=rfl
theorem evs_n:evs call U st .nil=.ok [] st:=rfl
theorem evs_c:evs call U st (.cons e es)=kA call U es (ev call U st e):=rfl
theorem kA1:kA call U es (.ok v st)=kB v (evs call U st es):=rfl
theorem kA2:kA call U es (.exc n st)=.exc n st:=rfl
theorem kB1{vs}:kB v (.ok vs st)=.ok (v::vs) st:=rfl
theorem kB2:kB v (.exc n st)=.exc n st:=rfl
theorem kX1:kX call U e g (.ok x st)=kY (g x) (ev call U st e):=rfl
theorem kX2:kX call U e g (.exc n st)=.exc n st:=rfl
theorem kY1:kY h (.ok y st)=h y st:=rfl
theorem kY2:kY h (.exc n st)=.exc n st:=rfl
theorem ve3S{o}:ev call U st (.bin o c d)=kX call U d (λx y a=>toR (yw o x y) a) (ev call U st c):=rfl
theorem ve8S{o}:ev call U st (.cmp o c d)=kX call U d (λx y a=>toR (yH o x y) a) (ev call U st c):=rfl
theorem ve16S:ev call U st (.idx c d)=kX call U d (λx y a=>toR (idxV a x y) a) (ev call U st c):=rfl
theorem ve6S:ev call U st (.and c d)=kN call U d (ev call U st c):=rfl
theorem kN1:kN call U d (.ok (.bl AD) st)=ev call U st d:=rfl
theorem kN2:kN call U d (.ok (.bl AC) st)=.ok (.bl AC) st:=rfl
theorem ve7S:ev call U st (.or c d)=kO call U d (ev call U st c):=rfl
theorem kO1:kO call U d (.ok (.bl AD) st)=.ok (.bl AD) st:=rfl
theorem kO2:kO call U d (.ok (.bl AC) st)=ev call U st d:=rfl
theorem ve10S:ev call U st (.ite e c d)=kE call U c d (ev call U st e):=rfl
theorem kE1:kE call U c d (.ok x st)=kF call U st c d (yay st x):=rfl
theorem kF1:kF call U st c d (AA AD)=ev call U st c:=rfl
theorem kF2:kF call U st c d (AA AC)=ev call U st d:=rfl
theorem ve20S{m}:ev call U st (.mth m e es)=kM call U m es (ev call U st e):=rfl
theorem kM1{m}:kM call U m es (.ok x st)=kP call U st m es x (yL m st x):=rfl
theorem kP1{m k}:kP call U st m es x (AA k)=(evs call U st es).bind λb a=>yaL m a x b:=rfl
end
end IC
namespace L2
open PySem PySem.Spec PyProof.Rows IC
section
variable (S:Se)(K:AG)
def yfQ{D E:Type}(B:AK->Prop)(A:Ph)(H:Hp)(Rel:Ph->Hp->D->E->Prop)(r:R D)(Q:E->Hp->Prop):Prop:=
 match r with
 |.ok v b=>∀x a c,Step A H c a->yr K S.cl B c a b->Rel c a v x->Q x a
 |_=>IK
def tE0(c:Ce):TE:=λC H Q=>∃B A st U,yr K S.cl B A H st/\yF K S.cl B A H U C/\yfQ S K B A H (λA H=>yd K S.cl B A H) (ev S.call U st c) Q
def tT0(c:Ce):TT:=λC H Q=>∃B A st U,yr K S.cl B A H st/\yF K S.cl B A H U C/\yfQ S K B A H RB (ya1 (ev S.call U st c)) Q
def tG0(t:Tg):TG:=λv C H Q=>∃B A st U w a,yr K S.cl B A H st/\yF K S.cl B A H U C/\yd K S.cl B A H w v/\yC t w U=AA a/\∀b,yF K S.cl B A H a b->Q b H
end
section
variable {S:Se}{X:Cx}{K:AG}{cl:Hy->AK}{C:St}{B:AK->Prop}{A A1:Ph}{H H1:Hp}{st:SO}{U:IC.Env}{pos p p2 px:Bf}{a b c o tg l elt iter:AW}{ca cb cc ce:Ce}{ci:Cit}{ct:Tg}
def zjC(c:X.K=K)(h:PE X a (tE S X ca)):PE X a (tE0 S K ca):=by
 subst c;refine h.imp λC H Q kq=>?_;let#[B,A,st,U,d,f,q]:=kq;refine #[B,A,st,U,d,f,?_]
 cases e:ev S.call U st ca with
 |ok v b=>rw[e]at q;exact q
 |exc k b=>rw[e]at q;exact q.elim
 |bad=>rw[e]at q;exact q
def zjD(c:X.K=K)(h:PT X a (tTs S X ca)):PTs X [a] (tT0 S K ca):=by
 subst c;refine zjZ (h.imp λC H Q kq=>?_);let#[B,A,st,U,d,f,q]:=kq;refine #[B,A,st,U,d,f,?_]
 cases e:ya1 (ev S.call U st ca)with
 |ok v b=>rw[e]at q;exact q
 |exc k b=>rw[e]at q;exact q.elim
 |bad=>rw[e]at q;exact q
def zhX:PTs X [] (tT0 S K (.cst (.bl AD))):=λE s C H Q I #[B,A,st,U,a,b,q]=>by refine zkg E s C H Q I ?_;erw[ev,ya1,R.bind,yay,onO]at q;exact q AD H A .rfl a rfl
def zkh(a:X.K=K)(h:PG X tg (tG S X ct)):PG X tg (tG0 S K ct):=by subst a;exact h
theorem ybv.skip{k:IB}{D y:AK}{u:HO}{xs:Hx V}(a:B D)(r:ybv K B A H k y xs):ybv K B A (L2.upd H D u) k y xs:=by
 rcases r with⟨r,b,n⟩|r
 .exact .inl #[by rw[zk (show y≠D from λz=>b (z ▸ a))];exact r,b,n]
 .exact .inr r
mutual
theorem yd.skip{D:AK}{u:HO}(d:B D):∀(v:PV) (x:V),yd K cl B A H v x->yd K cl B A (L2.upd H D u) v x
 |.non,x,h=>by erw[yd]at h ⊢;exact h
 |.bl b,x,h=>by erw[yd]at h ⊢;exact h
 |.int i,x,h=>by erw[yd]at h ⊢;exact h
 |.str y,x,h=>by erw[yd]at h ⊢;exact h
 |.tp k f,x,h=>by erw[yd]at h ⊢;let#[y,a,e,r,l]:=h;exact#[y,a,e,r.skip d,yg.skip d f a l]
 |.lst f,x,h=>by erw[yd]at h ⊢;let#[y,a,e,#[r,b,n],l]:=h;exact#[y,a,e,#[by rw[zk (show y≠D from λz=>b (z ▸ d))];exact r,b,n],yg.skip d f a l]
 |.loc n,x,h=>by erw[yd]at h ⊢;exact h
 |.fnc j,x,h=>by erw[yd]at h ⊢;exact h
 |.exn c,x,h=>by erw[yd]at h ⊢;let#[y,e,r,b,n]:=h;exact#[y,e,by rw[zk (show y≠D from λz=>b (z ▸ d))];exact r,b,n]
 |.scr f,x,h=>by
  erw[yd]at h ⊢;let#[y,a,e,r,l]:=h;refine#[y,a,e,?_,yg.skip d f a l];rcases r with⟨r,b,n⟩|r
  .refine .inl #[?_,b,n];have g:y≠D:=λz=>b (z ▸ d);rcases r with r|⟨o,r⟩
   .exact .inl (by rw[zk g];exact r)
   .exact .inr #[o,by rw[zk g];exact r]
  .exact .inr r
theorem yg.skip{D:AK}{u:HO}(a:B D):∀(v:Hx PV) (x:Hx V),yg K cl B A H v x->yg K cl B A (L2.upd H D u) v x
 |[],x,h=>by erw[yg]at h ⊢;exact h
 |v::c,x,h=>by erw[yg]at h ⊢;let#[y,b,e,r,l]:=h;exact#[y,b,e,yd.skip a v y r,yg.skip a c b l]
end
theorem DK.skip{D:AK}{u:HO}(c:B D):∀{a:Hx (PV×PV)} {b:Hx (Key×V)},DK K cl B A H a b->DK K cl B A (L2.upd H D u) a b
 |[],b,h=>h
 |(k,v)::r,b,h=>by let#[q,x,t,e,m,d,l]:=h;exact#[q,x,t,e,m,d.skip c,DK.skip c l]
theorem DT.skip{D:AK}{u:HO}(c:B D):∀{a:Hx (PV×PV)} {b:Hx (Hx NK×V)},DT K cl B A H a b->DT K cl B A (L2.upd H D u) a b
 |[],b,h=>h
 |(k,v)::r,b,h=>by let#[q,x,t,e,m,d,l]:=h;exact#[q,x,t,e,m,d.skip c,DT.skip c l]
theorem FS.skip{D:AK}{u:HO}(c:B D):∀{a:Hx (AT×PV)} {b:Hx (AT×V)},FS K cl B A H a b->FS K cl B A (L2.upd H D u) a b
 |[],b,h=>h
 |(k,v)::r,b,h=>by let#[x,t,e,d,l]:=h;exact#[x,t,e,d.skip c,FS.skip c l]
theorem yr.skip{D:AK}{u:HO}(d:B D)(rs:yr K cl B A H st)(g:∀a,u ≠ .tup a:=by intro _ z;cases z):yr K cl B A (L2.upd H D u) st:=by
 refine#[rs.len,rs.inj,λn y e=>?_,rs.liv,rs.nb,λy h=>?_,λy h a e=>?_]
 .let#[o,q,r]:=rs.obj n y e;have f:y≠D:=λz=>rs.nb y (A3 e) (z ▸ d);refine#[o,q,?_]
  cases o with
  |lst x=>
   let#[a,b,l]:=r;exact#[a,by rw[zk f];exact b,l.skip d]
  |dct t j=>
   cases t with
   |false=>
    let#[a,b,l]:=r;exact#[a,by rw[zk f];exact b,l.skip d]
   |true=>
    let#[a,b,l]:=r;exact#[a,by rw[zk f];exact b,l.skip d]
  |ins c fs=>
   let#[m,#[p,b],l]:=r;exact#[m,#[p,by rw[zk f];exact b],l.skip d]
  |dead=>exact r.elim
 .by_cases z:y=D
  .subst z;exact#[u,zo]
  .let#[w,e]:=rs.dom y h;exact#[w,by rw[zk z];exact e]
 .by_cases z:y=D
  .subst z;rw[zo]at e;exact g a (A0 e)
  .rw[zk z]at e;exact rs.nt y h a e
theorem yF.skip{D:AK}{u:HO}(b:B D)(a:yF K cl B A H U C):yF K cl B A (L2.upd H D u) U C:=#[a.len,λi v e=>by let#[x,h,q]:=a.get i v e;exact#[x,h,q.skip b]]
def Bx(B:AK->Prop)(D:AK):AK->Prop:=λy=>B y \/ y=D
def zg0{D:AK}(a:H D=AF):∀y,Bx B D y->B y \/ H y=none:=λy z=>z.elim .inl λq=>.inr (q ▸ a)
theorem yd.more{D:AK}(a:H D=AF){v:PV}{x:V}(h:yd K cl B A H v x):yd K cl (Bx B D) A H v x:=h.moreB (zg0 a)
theorem yg.more{D:AK}(a:H D=AF){v:Hx PV}{x:Hx V}(h:yg K cl B A H v x):yg K cl (Bx B D) A H v x:=h.moreB (zg0 a)
mutual
theorem yd.less{D:AK}:∀(v:PV) (x:V),yd K cl (Bx B D) A H v x->yd K cl B A H v x
 |.non,x,h=>by erw[yd]at h ⊢;exact h
 |.bl b,x,h=>by erw[yd]at h ⊢;exact h
 |.int i,x,h=>by erw[yd]at h ⊢;exact h
 |.str y,x,h=>by erw[yd]at h ⊢;exact h
 |.tp k d,x,h=>by
  erw[yd]at h ⊢;let#[y,a,e,r,l]:=h;refine#[y,a,e,?_,yg.less d a l];rcases r with⟨r,b,n⟩|r
  .exact .inl #[r,λz=>b (.inl z),n]
  .exact .inr r
 |.lst d,x,h=>by erw[yd]at h ⊢;let#[y,a,e,#[r,b,n],l]:=h;exact#[y,a,e,#[r,λz=>b (.inl z),n],yg.less d a l]
 |.loc n,x,h=>by erw[yd]at h ⊢;exact h
 |.fnc j,x,h=>by erw[yd]at h ⊢;exact h
 |.exn c,x,h=>by erw[yd]at h ⊢;let#[y,e,r,b,n]:=h;exact#[y,e,r,λz=>b (.inl z),n]
 |.scr d,x,h=>by
  erw[yd]at h ⊢;let#[y,a,e,r,l]:=h;refine#[y,a,e,?_,yg.less d a l];rcases r with⟨r,b,n⟩|r
  .exact .inl #[r,λz=>b (.inl z),n]
  .exact .inr r
theorem yg.less{D:AK}:∀(v:Hx PV) (x:Hx V),yg K cl (Bx B D) A H v x->yg K cl B A H v x
 |[],x,h=>by erw[yg]at h ⊢;exact h
 |v::b,x,h=>by erw[yg]at h ⊢;let#[y,a,e,r,l]:=h;exact#[y,a,e,yd.less v y r,yg.less b a l]
end
theorem DK.more{D:AK}(c:H D=AF):∀{a:Hx (PV×PV)} {b:Hx (Key×V)},DK K cl B A H a b->DK K cl (Bx B D) A H a b
 |[],b,h=>h
 |(k,v)::r,b,h=>by let#[q,x,t,e,m,d,l]:=h;exact#[q,x,t,e,m,d.more c,DK.more c l]
theorem DT.more{D:AK}(c:H D=AF):∀{a:Hx (PV×PV)} {b:Hx (Hx NK×V)},DT K cl B A H a b->DT K cl (Bx B D) A H a b
 |[],b,h=>h
 |(k,v)::r,b,h=>by let#[q,x,t,e,m,d,l]:=h;exact#[q,x,t,e,m,d.more c,DT.more c l]
theorem FS.more{D:AK}(c:H D=AF):∀{a:Hx (AT×PV)} {b:Hx (AT×V)},FS K cl B A H a b->FS K cl (Bx B D) A H a b
 |[],b,h=>h
 |(k,v)::r,b,h=>by let#[x,t,e,d,l]:=h;exact#[x,t,e,d.more c,FS.more c l]
theorem DK.less{D:AK}:∀{a:Hx (PV×PV)} {b:Hx (Key×V)},DK K cl (Bx B D) A H a b->DK K cl B A H a b
 |[],b,h=>h
 |(k,v)::r,b,h=>by let#[q,x,t,e,m,c,l]:=h;exact#[q,x,t,e,m,c.less,DK.less l]
theorem DT.less{D:AK}:∀{a:Hx (PV×PV)} {b:Hx (Hx NK×V)},DT K cl (Bx B D) A H a b->DT K cl B A H a b
 |[],b,h=>h
 |(k,v)::r,b,h=>by let#[q,x,t,e,m,c,l]:=h;exact#[q,x,t,e,m,c.less,DT.less l]
theorem FS.less{D:AK}:∀{a:Hx (AT×PV)} {b:Hx (AT×V)},FS K cl (Bx B D) A H a b->FS K cl B A H a b
 |[],b,h=>h
 |(k,v)::r,b,h=>by let#[x,t,e,c,l]:=h;exact#[x,t,e,c.less,FS.less l]
theorem yr.less{D:AK}(rs:yr K cl (Bx B D) A H st):yr K cl B A H st:=by
 refine#[rs.len,rs.inj,λn y e=>?_,rs.liv,λy h z=>rs.nb y h (.inl z),λy h=>rs.dom y (.inl h),λy h=>rs.nt y (.inl h)];let#[o,q,r]:=rs.obj n y e;refine#[o,q,?_]
 cases o with
 |lst g=>let#[b,a,l]:=r;exact#[b,a,l.less]
 |dct t d=>cases t<;>(let#[b,a,l]:=r;exact#[b,a,l.less])
 |ins c fs=>let#[f,a,l]:=r;exact#[f,a,l.less]
 |dead=>exact r.elim
theorem yr.more{D:AK}{u:HO}(b:H D=AF)(rs:yr K cl B A H st)(p:∀a,u ≠ .tup a:=by intro _ z;cases z):yr K cl (Bx B D) A (L2.upd H D u) st:=by
 have m:AA D∉A:=λz=>by let#[w,e]:=rs.there z;rw[b]at e;cases e
 have s:Step A H A (L2.upd H D u):=.upd b;have f:=rs.upd (o:=u) b;refine#[rs.len,rs.inj,λn y e=>?_,rs.liv,λy h z=>z.elim (rs.nb y h) λq=>m (q ▸ h),λy h=>?_,λy h a e=>?_]
 .let#[o,q,r]:=rs.obj n y e;have g:y≠D:=λz=>m (z ▸ A3 e);have j:Bx B D D:=.inr rfl;refine#[o,q,?_]
  cases o with
  |lst G=>let#[a,d,l]:=r;exact#[a,by rw[zk g];exact d,(l.more b).skip j]
  |dct t x=>
   cases t with
   |false=>let#[a,d,l]:=r;exact#[a,by rw[zk g];exact d,(l.more b).skip j]
   |true=>let#[a,d,l]:=r;exact#[a,by rw[zk g];exact d,(l.more b).skip j]
  |ins c fs=>let#[C,#[E,d],l]:=r;exact#[C,#[E,by rw[zk g];exact d],(l.more b).skip j]
  |dead=>exact r.elim
 .rcases h with h|h
  .exact f.dom y h
  .subst h;exact#[u,zo]
 .rcases h with h|h
  .exact f.nt y h a e
  .subst h;rw[zo]at e;exact p a (A0 e)
theorem yF.more{D:AK}{u:HO}(b:H D=AF)(a:yF K cl B A H U C):yF K cl (Bx B D) A (L2.upd H D u) U C:=#[a.len,λi v e=>by let#[x,h,q]:=a.get i v e;exact#[x,h,(q.more b).skip (.inr rfl)]]
def yX:Tg->Hx (Option Hy)->IB
 |.n i,a=>decide (a[i]?=AA AF)
 |.t l,a=>l.all λi=>decide (a[i]?=AA AF)
def ze8:∀(l:Hx Hy)a(U:IC.Env)(j:Hy),j∉l->((l.zip a).foldl (λU p=>U.set p.1 (AA p.2)) U)[j]?=U[j]?
 |[],a,U,j,h=>by simp
 |i::b,[],U,j,h=>by simp
 |i::b,v::a,U,j,h=>by
  erw[EA,Da];rw[ze8 b a _ j λz=>h (AM _ z),AZ]
  rintro rfl
  exact h AO
def zeW:∀(l:Hx Hy)a(U:IC.Env),((l.zip a).foldl (λU p=>U.set p.1 (AA p.2)) U).length=U.length
 |[],a,U=>by simp
 |i::b,[],U=>by simp
 |i::b,v::a,U=>by erw[EA,Da];rw[zeW b a,BV]
theorem yF.untgt{sl:Hx (Option Hy)}{U0 U1:IC.Env}{v:PV}(hf:yX ct sl=AD)(d:∀(i:Hy),sl[i]?=AA AF->U0[i]?=AA AF)(a:yC ct v U0=AA U1)(c:yF K cl B A H U1 C):yF K cl B A H U0 C:=by
 cases ct with
 |n i=>
  cases a
  erw[yX,IA]at hf;refine#[by rw[<-c.len,BV],λj w e=>c.get j w ?_];rw[AZ]
  .exact e
  .rintro rfl
   rw[d _ hf]at e;cases e
 |t l=>
  have go:∀{b:Hx PV},(if l.length=b.length then AA ((l.zip b).foldl (λU p=>U.set p.1 (AA p.2)) U0)else AF)=AA U1->yF K cl B A H U0 C:=λ{b} a=>by
   split at a
   .cases a
    erw[yX,BA,IA]at hf;refine#[by rw[<-c.len,zeW],λj w e=>c.get j w ?_];rw[ze8]
    .exact e
    .intro z;rw[d _ (hf j z)]at e;cases e
   .cases a
  cases v with
  |tp k b=>exact go a
  |lst b=>exact go a
  |_=>cases a
theorem yF.inn{sl:Hx (Option Hy)}(b:yF K cl B A H U C):yF K cl B A H (sl.map λo=>o.bind λj=>(U[j]?).join) (L2.inn sl C):=by
 unfold L2.inn;refine#[by simp,λi v e=>?_];rw[Bp]at e ⊢
 cases q:sl[i]? with
 |none=>rw[q]at e;cases e
 |some o=>
  rw[q]at e
  cases o with
  |none=>cases e
  |some j=>
   erw[B3,BO,Option.some.injEq]at e ⊢
   cases a:U[j]? with
   |none=>rw[a]at e;cases e
   |some w=>
    rw[a]at e;erw[Option.join_some]at e;subst e;let#[x,c,d]:=b.get j v a;exact#[x,by rw[c];rfl,d]
def zo3:1000000<sizeLine:=by rw[DF];decide
def znk{F o}{k:IB->R F}{z:F}{s}(h:onO o k=.ok z s):∃b,o=AA b/\k b=.ok z s:=by
 cases o with
 |none=>cases h
 |some b=>exact#[b,rfl,h]
def zaB{F G}{r:R F}{k:F->SO->R G}{z:G}{s}(h:r.bind k=.ok z s):∃a b,r=.ok a b/\k a b=.ok z s:=by
 cases r with
 |ok a b=>exact#[a,b,rfl,h]
 |exc c s=>cases h
 |bad=>cases h
def zhQ{Rel:Ph->Hp->PV->V->Prop}{r:R (Hx PV)}{Q:VK}(h:Run S X C B A H Rel (ybO r) Q):∃b a,r=.ok b a/\b.length<=1000000/\∀x c d,Step A H d c->yr X.K S.cl B d c a->Rel d c (.lst b) x->Q x c:=by
 cases r with
 |ok b a=>
  by_cases f:b.length<=1000000
  .simp only[ybO,ID f]at h;exact#[b,a,rfl,f,h]
  .simp only[ybO,IE f]at h;exact h.elim
 |exc k s=>exact h.elim
 |bad=>exact h.elim
def zfv{call U0}{xs c:Hx PV}{i:Hy}{v}{l f:SO}(p:xs[i]?=AA v)(j:yQ call U0 ct cc ce (xs.drop i) l=.ok c f):
  ∃U1 k d,yC ct v U0=AA U1/\ya1 (ev call U1 l cc)=.ok k d/\((k=AC/\yQ call U0 ct cc ce (xs.drop (i+1)) d=.ok c f) \/
   (k=AD/\∃y g a,ev call U1 d ce=.ok y g/\yQ call U0 ct cc ce (xs.drop (i+1)) g=.ok a f/\c=y::a)):=by
 let#[q,e]:=Ax.1 p;rw[EG q,e,zH]at j;let#[o,r,b,j]:=zaB j;let#[a,t,m,j]:=zaB j;injection j with u w;subst u w;unfold yaR at b
 cases n:yC ct v U0 with
 |none=>rw[n]at b;cases b
 |some U1=>
  rw[n]at b;let#[B,d,x,b]:=zaB b;let#[k,z,b]:=znk b;refine#[U1,k,d,rfl,by rw[x];erw[ya1,R.bind,z,onO],?_]
  cases k with
  |false=>cases b;exact .inl #[rfl,m]
  |true=>
   let#[y,g,A,b]:=zaB b
   cases b
   exact .inr #[rfl,y,_,a,A,m,rfl]
def yck(S:Se)(K:AG)(B:AK->Prop)(D:AK)(A1:Ph)(H1:Hp)(U0:IC.Env)(g:Hx PV->SO->R (Hx PV))(j:Hx PV)(d:SO)(xs:Hx PV)(Cc:St)(ys:Hx V)(b:Hp):Prop:=
 ∃A2 c f a,Step A1 H1 A2 b/\b D=AA (.lst ys)/\AA D∉A2/\yr K S.cl (Bx B D) A2 b c/\yF K S.cl (Bx B D) A2 b U0 Cc/\yg K S.cl (Bx B D) A2 b f ys/\g xs c=.ok a d/\f++a=j
theorem stays{D A5 a u}(s:Step A H A5 a)(n:AA D∉A)(e:H D=AA u):AA D∉A5/\a D=AA u:=by
 refine#[λz=>?_,s.keep D _ n e];rcases s.new D z with q|q
 .exact n q
 .rw[e]at q;cases q
theorem yck.skip{D:AK}{j:Hx PV->SO->R (Hx PV)}{m:Hx PV}{c:SO}{xs:Hx PV}{A2 A5:Ph}{d g:Hp}{U0 U1:IC.Env}{C4:St}{b:SO}{vs a:Hx PV}{ys:Hx V}{v:PV}(p:Step A1 H1 A2 d)(f:Step A2 d A5 g)(n:AA D∉A2)(o:d D=AA (.lst ys))
  (rs:yr K S.cl (Bx B D) A5 g b) (hf:yX ct (sl:Hx (Option Hy))=AD) (q:∀(i:Hy),sl[i]?=AA AF->U0[i]?=AA AF) (r:yC ct v U0=AA U1) (t:yF K S.cl (Bx B D) A2 d U1 C4) (l:yg K S.cl (Bx B D) A2 d vs ys) (u:j xs b=.ok a c) (w:vs++a=m):
  yck S K B D A1 H1 U0 j m c xs C4 ys g:=#[A5,b,vs,a,p.trans f,(stays f n o).2,(stays f n o).1,rs,yF.untgt hf q r (t.step f),l.step f,u,w]
theorem yck.put{D:AK}{t:Hx PV->SO->R (Hx PV)}{u:Hx PV}{g:SO}{xs:Hx PV}{A2 A5:Ph}{j m:Hp}{U0 U1:IC.Env}{C4:St}{d:SO}{vs a:Hx PV}{ys:Hx V}{v y:PV}{p:V}(w:H1 D=AF)(x:Step A1 H1 A2 j)(r:Step A2 j A5 m)(z:AA D∉A2)(A:j D=AA (.lst ys))
  (rs:yr K S.cl (Bx B D) A5 m d) (C:yd K S.cl (Bx B D) A5 m y p) (hf:yX ct (sl:Hx (Option Hy))=AD) (E:∀(i:Hy),sl[i]?=AA AF->U0[i]?=AA AF) (G:yC ct v U0=AA U1) (H:yF K S.cl (Bx B D) A2 j U1 C4) (l:yg K S.cl (Bx B D) A2 j vs ys) (I:t xs d=.ok a g) (J:vs++y::a=u):
  m D=AA (.lst ys)/\yck S K B D A1 H1 U0 t u g xs C4 (ys++[p]) (L2.upd m D (.lst (ys++[p]))):=by
 let#[L,M]:=stays r z A;have f:Bx B D D:=.inr rfl;have c:=x.trans r;exact#[M,A5,d,vs++[y],a,#[λb o n q=>by rw[zk (zm q w)];exact c.keep b o n q,c.len,c.pre,c.new],zo,L,rs.skip f,(yF.untgt hf E G (H.step r)).skip f,
  ((l.step r).append (by erw[yg];exact#[p,[],rfl,C,rfl])).skip f,I,by rw[EM];exact J]
def zhp{sl:Hx (Option Hy)}(i:Hy)(q:sl[i]?=AA AF):(sl.map λo=>o.bind λj=>(U[j]?).join)[i]?=AA none:=by rw[Bp,q];rfl
def zfI{sl:Hx (Option Hy)}(hf:yX ct sl=AD){J xs u l c}{Q:Hp->Prop}(n:yr X.K S.cl B A H l)(re1:yF X.K S.cl B A H U C)(dr:RD S X B A H xs J){D:AK}(p:H D=AF)
  (e:yQ S.call (sl.map λo=>o.bind λj=>(U[j]?).join) ct cc ce xs l=.ok u c) (hz:u.length<=1000000) (fin:∀A2 a E,Step A H A2 a->a D=AA (.lst E)->¬B D->AA D∉A2->yr X.K S.cl (Bx B D) A2 a c->yg X.K S.cl (Bx B D) A2 a u E->Q a):
  ∃W:Hy->Hy->St->Hx V->Hp->Prop,(∃m,W 0 m (inn sl C) [] (L2.upd H D (.lst [])))/\yb8 J D (tG0 S X.K ct) (tT0 S X.K cc) (tE0 S X.K ce) W Q:=by
 have nB:¬B D:=n.nB p;have nD:AA D∉A:=λz=>by let#[w,e]:=n.there z;rw[p]at e;cases e
 have r0:yF X.K S.cl (Bx B D) A (L2.upd H D (.lst [])) (sl.map λo=>o.bind λj=>(U[j]?).join) (inn sl C):=(yF.inn re1).more p;have h0:=zhp (U:=U) (sl:=sl);generalize (sl.map λo=>o.bind λj=>(U[j]?).join)=O at *;refine#[λi m Cc E a=>i+m=xs.length/\yck S X.K B D A H O (yQ S.call O ct cc ce) u c (xs.drop i) Cc E a,
  #[xs.length,(),A,l,[],u,.upd p,zo,nD,n.more p,r0,by erw[yg],by simpa using e,rfl],?_]
 rintro i m Cc E a ⟨hm,A2,r,vs,rest,G,d,t,f,re2,Y,ec,Z⟩
 refine#[d,?_]
 by_cases hi:i<xs.length
 .have hzl:=IM C5 Z;rw[A8,Y.length]at hzl;refine .inr #[dr.go i A2 a G hi,Fb () zo3,λC' I H'=>yck S X.K B D A H O (yQ S.call O ct cc ce) u c (xs.drop (i+1)) C' I H',λC' I H' q=>#[m-1,(),(),q],λx H3 hy=>?_];let#[v,hv,rv,L]:=dr.yld i A2 a r x H3 (Bx B D) (λy z=>z.elim .inl λq=>.inr (q ▸ p)) G f hi hy;have M:Step A2 a A2 H3:=#[λb o _ e=>L b o e,AS _,λ_ _ _ e=>e,λ_ h=>.inl h];let#[U1,k,st6,eb,et,q]:=zfv hv ec;refine#[Bx B D,A2,r,_,v,U1,f.same L,re2.step M,rv,eb,λC4 g=>#[Bx B D,A2,r,U1,f.same L,g,?_]];rw[et]
  rintro k' H5 A5 s5 N rfl
  rcases q with⟨rfl,e2⟩|⟨rfl,y,st7,rest',e5,e2,rfl⟩
  .exact yck.skip (G.trans M) s5 t (L D _ d) N hf h0 eb g (Y.step M) e2 Z
  .refine#[Bx B D,A5,st6,U1,N,g.step s5,?_];rw[e5];intro y' H6 A6 s6 rs6 ry;exact yck.put p (G.trans M) (s5.trans s6) t (L D _ d) rs6 ry hf h0 eb g (Y.step M) e2 Z
 .have ei:i=xs.length:=()
  subst ei;rw[GV]at ec
  cases ec
  exact .inl #[dr.stop A2 a G,fin A2 a E G d nB t f (by rw[<-Z,Bt];exact Y)]
def zdF{sl:Hx (Option Hy)}(hf:yX ct sl=AD){H Q}(h:tE S X (.comp sl ct ci cc ce) C H Q):ycx sl (tI S X ci) (tG0 S X.K ct) (tT0 S X.K cc) (tE0 S X.K ce) C H Q:=by let#[B,A,st,U,f,d,h]:=h;rw[v_comp]at h;refine#[B,A,st,U,f,d,(Run.bind h).mono λJ H1 kq=>?_];let#[x,g,A1,j,a,l,b]:=kq;refine λD m=>?_;let#[y,n,e,o,b]:=zhQ b;exact zfI hf a (d.step j) l m e o λA2 p q r t nB u c w=>b (.ref D) p A2 r c.less (by erw[yd];exact#[D,q,rfl,#[t,nB,u],w.less])
def zjR{sc b sl a}(c:X.calm=AD)(O:yab X sc b sl)(hf:yX ct sl=AD)(hi:PI X tg iter (tI S X ci))(d:∀j,PG (cxC X sc b j) tg (tG0 S X.K ct))
  (f:∀j,PTs (cxC X sc b j) a (tT0 S X.K cc)) (g:∀j,PE (cxC X sc b j) elt (tE0 S X.K ce)) (l:∀x,foldedSetIterable iter X.env x=pure x:=by intro _;rfl):
  PE X (.ListComp elt [#[tg,iter,a,0]] sc pos) (tE S X (.comp sl ct ci cc ce)):=
 (zj8 c O hi d f g l).imp λC H Q h=>zdF hf h
def zkb{sc c sl b}{i:Hy}{x}{a:Bf}(o:X.N.Nodup)(d:X.N[i]?=AA x)(p:Loc X.env.scope x)(q:X.calm=AD)(O:yab X sc c sl)(hf:yX ct sl=AD)(hi:PI X tg iter (tI S X ci))(r:∀j,PG (cxC X sc c j) tg (tG0 S X.K ct))
  (t:∀j,PTs (cxC X sc c j) b (tT0 S X.K cc)) (u:∀j,PE (cxC X sc c j) elt (tE0 S X.K ce))
  (f:swapsWith (.ListComp elt [#[tg,iter,b,0]] sc pos) (AA (.Name x px)) a.line X.env=pure true:=by rfl) (w:∀x,foldedSetIterable iter X.env x=pure x:=by intro _;rfl)
  (g:X.fn x=AD \/ X.env.scope.names.lookup x=AA .local:=by first|exact .inl rfl|exact .inr rfl|assumption):PS X (.Assign [.Name x px] (.ListComp elt [#[tg,iter,b,0]] sc pos) a) (tS S X (.asg (.n i) (.comp sl ct ci cc ce))):=
 (zld o d p q O hi r t u f w g).imp λD C H #[B,A,st,U,y,z,h]=>by refine zdF hf ?_;erw[ex]at h;exact tE.fl y z h λx H1 v E A1 s l m G I=>I _ H1 A1 .rfl l (m.set i G)
end
def spI(K:AG)(g:Hy->AK)(call:Hy->Hx PV->SO->R PV)(f:Hy):Sp:=λl H Q E=>∃B A st a,yr K g B A H st/\yg K g B A H a l/\match call f a st with
 |.ok v d=>∀x b j,Step A H j b->yr K g B j b d->yd K g B j b v x->Q x b
 |.exc c d=>∀b j,Step A H j b->yr K g B j b d->E (.ref (g c)) AF b
 |.bad=>IK
section
variable {S:Se}{X:Cx}{k:Hy}{f:AK}{fd:Av}{ps ks:Hx AT}{sp:Sp}{dvs:Hx V}{ds:Hx AH}{x:AT}{p pos:Bf}{e:AW}{es:Hx AW}{t tk:TA}{CX:CXT}{D:St}{H:Hp}
def zb2{G s Q us vs E}(F:yaA X.prog X.w X.K X.mg X.base CX k f fd ps sp)(d:yaq k X.A)(g:Binds X.K fd ps ds)(j:Vals dvs ds)
  (I:Inv X G D H s) (r:Vals vs us) (h:sp (vs++dvs) H Q E) (l:∀e b,CX X.stack H s E e b->X.xe e b):A6 (model X.prog X.w) X.A (call (.ref f) us) (EP X G D Q) X.xe s:=by
 have c:Vals (vs++dvs) (us++ds):=r.append j;have m:(us++ds).length=ps.length:=by rw[<-c.length];exact F.len _ _ _ _ h
 refine Gm (Di (F.run X.A X.stack s H #[us,[]] (us++ds) (vs++dvs) Q E d I.env0 (g s us I.kIn m) c h) λr b a=>?_)
 cases r with
 |error e=>exact l e b a
 |ok fl=>
  cases fl with
  |ret u=>exact I.after a
  |next=>exact BY a
  |brk=>exact BY a
  |cont=>exact BY a
def ycm(CX:CXT)(X:Cx)(sp:Sp)(dvs:Hx V)(t:TA):TE:=λD H Q=>t D H λc a=>∃E:XK,sp (c++dvs) a Q E/\∀G s e b,Inv X G D a s->CX X.stack a s E e b->X.xe e b
def ziG(F:yaA X.prog X.w X.K X.mg X.base CX k f fd ps sp)(g:yaq k X.A)(j:Gl X x)(l:X.mg x=AA (.ref f))(m:An X.K (.ref f)=AD)(n:Binds X.K fd ps ds)(o:Vals dvs ds)
  (u:PA X (e::es) t) (a:(x==("__debug__":AT))=false:=by decide) (w:starEach (e::es) X.env=(AC,eval e X.env)::starEach es X.env:=by rfl) (b:(backTo pos (starEach es X.env)).any (·.1)=false:=by rfl):
  PE X (.Call (.Name x p) (e::es) [] pos) (ycm CX X sp dvs t):=by intro G s D H Q I h;refine BM (zbv I j l ?_ a);refine DD (h₀:=X.base) I.ok.mod.kin m (thn (u pos G s D H _ I h) λB y kq=>?_) w b;let#[C,J,d,r,E,q,z]:=kq;refine #[d.kIn,?_];exact zb2 F g n o d r q λe A c=>z G y e A d c
def zgX(F:yaA X.prog X.w X.K X.mg X.base CX k f fd ps sp)(b:yaq k X.A)(d:Gl X x)(g:X.mg x=AA (.ref f))(j:An X.K (.ref f)=AD)(l:Binds X.K fd ps ds)(m:Vals dvs ds)
  (a:(x==("__debug__":AT))=false:=by decide):PE X (.Call (.Name x p) [] [] pos) (ycm CX X sp dvs yct):=by intro G s D H Q I h;let#[E,q,n]:=h;refine BM (zbv I d g ?_ a);exact Dh I.kIn j (zb2 F b l m I .nil q λe o c=>n G s e o I c)
variable {B:AK->Prop}{C:Ph}{st:SO}{ces:Ces}{fi:Hy}
def zaH{vs xs Q}(rs:yr X.K S.cl B C H st)(l:yg X.K S.cl B C H vs xs)(h:Run S X D B C H (RV S X B) (S.call fi vs st) Q):
  ∃E:XK,spI X.K S.cl S.call fi xs H Q E/\∀G s e a,Inv X G D H s->CX1 X.prog X.w X.stack H s E e a->X.xe e a:=by
 cases c:S.call fi vs st with
 |ok v b=>
  rw[c]at h;refine#[λ_ _ _=>IK,#[B,C,st,vs,rs,l,by rw[c];exact h],λG s e a _ z=>?_];let#[_,_,_,_,_,_,_,_,_,_,_,_,_,_,z]:=z;exact z.elim
 |exc k b=>
  rw[c]at h;refine#[λf _ g=>f=.ref (S.cl k)/\∃d,Step C H d g/\yr X.K S.cl B d g b,#[B,C,st,vs,rs,l,by rw[c];exact λg d s r=>#[rfl,d,s,r]],λG s e a I z=>h e a (.inl #[G,H,s,C,I,.rfl,z])]
 |bad=>rw[c]at h;exact h.elim
def zkz(F:yaA X.prog X.w X.K X.mg X.base (CX1 X.prog X.w) k f fd ps (spI X.K S.cl S.call fi))(d:yaq k X.A)(g:Gl X x)(j:X.mg x=AA (.ref f))(l:An X.K (.ref f)=AD)(m:Binds X.K fd ps [])
  (n:PA X (e::es) (tAs S X ces)) (a:(x==("__debug__":AT))=false:=by decide) (o:starEach (e::es) X.env=(AC,eval e X.env)::starEach es X.env:=by rfl) (b:(backTo pos (starEach es X.env)).any (·.1)=false:=by rfl):
  PE X (.Call (.Name x p) (e::es) [] pos) (tE S X (.call fi ces)):=
 (ziG F d g j l m .nil n a o b).imp λD H Q #[B,C,st,U,q,r,h]=>by erw[ev]at h;refine tAs.bind q r h λz A E t C1 G c u w y=>?_;rw[Bt];exact zaH c w y
def zhW(F:yaA X.prog X.w X.K X.mg X.base (CX1 X.prog X.w) k f fd ps (spI X.K S.cl S.call fi))(b:yaq k X.A)(c:Gl X x)(d:X.mg x=AA (.ref f))(g:An X.K (.ref f)=AD)(j:Binds X.K fd ps [])
  (a:(x==("__debug__":AT))=false:=by decide):PE X (.Call (.Name x p) [] [] pos) (tE S X (.call fi .nil)):=
 (zgX F b c d g j .nil a).imp λD H Q #[B,C,st,U,l,m,h]=>by erw[ev,IC.vsq0,IC.vsq1,R.bind]at h;exact zaH l (by erw[yg];rfl) h
end
section
variable {P:A4}{w:Ae}{K:AG}{mg:AT->Option AH}{base:Au}{cl:Hy->AK}{T:Hy->Option IC.Fn}{fi:Hy}{fn:IC.Fn}{x qual:AT}{stm:Bg}{f:AK}{fd:Av}{N ps:Hx AT}{k:Hy}
theorem CX1.mono{outer:Hx BG}{H:Hp}{s:AJ}{E f:XK}{e:AH}{g:AJ}(h:CX1 P w outer H s E e g)(n:∀b c,E b AF c->f b AF c):CX1 P w outer H s f e g:=by let#[a,b,j,c,l,m,o,p,q,r,t,u,x,r9,d]:=h;exact#[a,b,j,c,l,m,o,p,q,r,t,u,x,r9,n _ _ d]
theorem yF.start{B:AK->Prop}{C:Ph}{H:Hp}{args:Hx PV}{vs:Hx V}(l:yg K cl B C H args vs)(n:Hy)(a:N.length-vs.length=n):yF K cl B C H (args.map AA++Am n AF) (L2.start N vs):=by
 have b:=l.length;unfold L2.start;refine#[by simp[b,a],λi v e=>?_]
 by_cases c:i<args.length
 .rw[Ad (by simpa using c),Bp]at e
  cases q:args[i]? with
  |none=>rw[q]at e;cases e
  |some g=>
   rw[q]at e
   cases e
   let#[y,d,f]:=l.get i q;exact#[y,by rw[Ad (by simp;lia),Bp,d];rfl,f]
 .rw[Ar (by simp;lia),EY]at e;split at e<;>cases e
theorem leave{N a y A outer b d E}{call:Hy->Hx PV->SO->R PV}{D B C H}{c:Hy}{l e o}
  (h:ExcAt #[cl,call,AD] (yaK (CX1 P w) P w K mg base N qual a f y A outer b d E) D B C H c l e o) (n:∀j g,Step C H j g->yr K cl B j g l->E (.ref (cl c)) AF g):
  (yaK (CX1 P w) P w K mg base N qual a f y A outer b d E).xe e o:=by
 rcases h with⟨F,m,s,C1,I,p,q⟩|⟨_,F,m,s,C1,J,L,M,I,p,z,G,rfl,rfl⟩|⟨_,F,m,s,I,q⟩
 .exact zoY F D m s e o I (q.mono λt g #[u,j,x,r]=>by subst u;exact n j g (p.trans x) r)
 .exact zfZ I G (n C1 m p z)
 .exact zo1 I (q.mono λt g #[u,j,x,r]=>by subst u;exact n j g x r)
def zge(d:T fi=AA fn):∀a(st:SO),yc T (k+1) fi a st ≠ .bad->a.length=fn.np:=λa st b=>by apply Classical.byContradiction;intro c;apply b;rw[yc,d];exact IE c
def zja(c:T fi=AA fn)(b:ps.length=fn.np){vs H Q E}(h:spI K cl (yc T (k+1)) fi vs H Q E):vs.length=ps.length:=by let#[B,C,st,a,d,l,h]:=h;rw[b,<-l.length];refine zge (k:=k) c a st λz=>?_;rw[z]at h;exact h
def zkR(hT:T fi=AA fn)(hns:N.length=fn.ns){u cdv A outer s vs H Q E}(h:spI K cl (yc T (k+1)) fi vs H Q E):
  tSs #[cl,yc T k,AD] (yaK (CX1 P w) P w K mg base N qual u f cdv A outer s H E) fn.body {nx:=λ_ j=>Q .non j,rt:=Q} (L2.start N vs) H:=by
 let#[B,C,st,d,x,l,h]:=h;have hl:d.length=fn.np:=zge (k:=k) hT d st λz=>by rw[z]at h;exact h
 have hlen:=l.length;rw[yc,hT]at h;dsimp only at h;rw[ID hl]at h
 by_cases hp:fn.pure=AD
 .rw[ID hp]at h
  by_cases J:nLs d=AD
  .rw[ID J]at h;have L:yr K cl (λa=>B a \/ AA a∈C) [] H []:=#[rfl,λm n a e=>by simp at e,λn a e=>by simp at e,λn o e=>by simp at e,λa z=>by simp at z,λa z=>z.elim (x.dom a) x.there,λa z xs e=>z.elim (λb=>x.nt a b xs e) λq=>x.untup q e];have back:∀{t:Ph} {j:Hp},Step [] H t j->Step C H C j/\yr K cl B C j st:=λ{t j} p=>
    have kk:∀b o,H b=AA o->j b=AA o:=λb o e=>p.keep b o (by simp) e
    #[#[λb o _ e=>kk b o e,AS _,λ_ _ _ e=>e,λ_ h=>.inl h],x.same kk]
   refine#[_,[],[],_,L,yF.start (yg.inn x.nb d vs J l) (fn.ns-fn.np) (),?_];show yaB _ _ _ _ _ (exs (yc T k) (d.map AA++Am (fn.ns-fn.np) AF) [] fn.body) _
   cases e:exs (yc T k) (d.map AA++Am (fn.ns-fn.np) AF) [] fn.body with
   |nx D g=>
    rw[e]at h;intro M j t p r O;let#[G,I]:=back p;exact h .non j C G I (by erw[yd])
   |rt v g=>
    rw[e]at h;dsimp only at h
    by_cases U:nL v=AD
    .rw[ID U]at h;intro y j t p r X;let#[G,I]:=back p;exact h y j C G I (yd.out v y U X)
    .rw[IE U]at h;exact h.elim
   |exc c D g=>
    rw[e]at h;intro M C1 H1 ev p Y _ ex;refine leave ex λC2 Z G _=>?_;let#[s3,r3]:=back (Y.trans G);exact h Z C s3 r3
   |bk D g=>rw[e]at h;exact h.elim
   |ct D g=>rw[e]at h;exact h.elim
   |bad=>rw[e]at h;exact h.elim
  .rw[IE J]at h;exact h.elim
 .rw[IE hp]at h;refine#[B,C,st,_,x,yF.start l (fn.ns-fn.np) (),?_];show yaB _ _ _ _ _ (exs (yc T k) (d.map AA++Am (fn.ns-fn.np) AF) st fn.body) _
  cases e:exs (yc T k) (d.map AA++Am (fn.ns-fn.np) AF) st fn.body with
  |nx D g=>
   rw[e]at h;intro M j t p r O;exact h .non j t p r (by erw[yd])
  |rt v g=>
   rw[e]at h;intro y j t p r X;exact h y j t p r X
  |exc c D g=>
   rw[e]at h;intro M C1 H1 ev p Y _ ex;exact leave ex λC2 Z G I=>h Z C2 (Y.trans G) I
  |bk D g=>rw[e]at h;exact h.elim
  |ct D g=>rw[e]at h;exact h.elim
  |bad=>rw[e]at h;exact h.elim
end
def tyN:Ty->IU
 |.int=>"int" | .bool=>"bool" | .str=>"str" | .tuple=>"tuple" | .list=>"list" | _=>""
structure yeG(K:AG)(t:Ty):Prop where
 n:BH K (.type "NoneType") (.type (tyN t))=AA (ybg .non t)
 b:BH K (.type "bool") (.type (tyN t))=AA (ybg (.bl AD) t)
 i:BH K (.type "int") (.type (tyN t))=AA (ybg (.int 0) t)
 s:BH K (.type "str") (.type (tyN t))=AA (ybg (.str GO) t)
 p:BH K (.type "tuple") (.type (tyN t))=AA (ybg (.tp AD []) t)
 l:BH K (.type "list") (.type (tyN t))=AA (ybg (.lst []) t)
section
variable {S:Se}{X:Cx}{A:St}{B:AK->Prop}{C:Ph}{H:Hp}{st:SO}{p pos p2 px:Bf}{a b c d o:AW}{ca cb cc:Ce}{t:Ty}
def yhF(S:Se)(X:Cx)(t:Ty):Hx V->Hp->VK->Prop:=λd H Q=>∃B C st v x z,d=[x,.ty (tyN t)]/\yr X.K S.cl B C H st/\yd X.K S.cl B C H v x/\ybe v [t]=AA z/\yc3 t=AD /\
 ∀c a b,Step C H b a->yr X.K S.cl B b a st->yd X.K S.cl B b a z c->Q c a
def zmh(Z:yeG X.K t):yaa X (.builtin "isinstance") (yhF S X t):=by
 rintro E s A H O U Q I r ⟨B,C,st,v,x,z,rfl,w,d,e,f,q⟩
 let#[u,D,rfl,j,G]:=vals2 r
 cases (show D=F5 (tyN t)from G)
 have b:∀(k:IB) (a:Hy),z=.bl k->EP X E A Q (.bool k) {s with toks:=a}:=λk a J=>#[.bl k,H,I.tok a,rfl,q _ H C .rfl w (by subst J;erw[yd])]
 cases v with
 |non=>
  erw[yd]at d;subst d
  cases (show u=Br from j)
  erw[ybe,f,IF]at e;exact Ca PySem.W.kitx_none I.kIn C7 Z.n (λz=>nomatch z) λa=>b _ a (by cases e;cases t<;>rfl)
 |bl k=>
  erw[yd]at d;subst d
  cases (show u=Dp k from j)
  erw[ybe,f,IF]at e;exact Ca PySem.W.kitx_bool I.kIn C7 Z.b (λz=>nomatch z) λa=>b _ a (by cases e;cases t<;>rfl)
 |int k=>
  erw[yd]at d;subst d;let#[a,rfl]:=j;erw[ybe,f,IF]at e;exact Ca PySem.W.kitx_int I.kIn C7 Z.i (λz=>nomatch z) λa=>b _ a (by cases e;cases t<;>rfl)
 |str k=>
  erw[yd]at d;subst d;let#[a,rfl]:=j;erw[ybe,f,IF]at e;exact Ca PySem.W.kitx_str I.kIn C7 Z.s (λz=>nomatch z) λa=>b _ a (by cases e;cases t<;>rfl)
 |tp k L=>
  erw[yd]at d;let#[y,p,rfl,m,l]:=d
  cases (show u=Al y from j)
  erw[ybe,f,IF]at e;let#[M,_,#[o,g,c,_,_],_]:=I.tuple m.sq;exact Ca PySem.W.kitx_tuple I.kIn #[o,g,c] Z.p (λz=>nomatch z) λa=>b _ a (by cases e;cases t<;>rfl)
 |lst L=>
  erw[yd]at d;let#[y,p,rfl,m,l]:=d
  cases (show u=Al y from j)
  erw[ybe,f,IF]at e;let#[_,_,n,_,N]:=(show yN X.prog X.w H s.heap y (.lst p)from I.hok y _ m.1);exact Ca PySem.W.kitx_list I.kIn #[_,N,rfl] Z.l (λz=>nomatch z) λa=>b _ a (by cases e;cases t<;>rfl)
 |loc n=>cases e
 |scr n=>cases e
 |fnc n=>cases e
 |exn n=>erw[ybe,Aq,Hx.all_nil,f,D1,IF]at e;cases e
def zmu{T}(Z:yeG X.K t)(n:yc3 t=AD)(o:Gl X "isinstance")(r:X.mg "isinstance"=AF)(c:Gl X T)(d:X.mg T=AF)(u:bootBuiltins T=AA (.type (tyN t)))(w:PE X a (tE S X ca))(f:T ≠ "__name__":=by decide)(g:(T==("__debug__":AT))=false:=by decide)
  (m:starEach [a,.Name T p2] X.env=(AC,eval a X.env)::starEach [.Name T p2] X.env:=by rfl) (j:(backTo pos (starEach [.Name T p2] X.env)).any (·.1)=false:=by rfl):
  PE X (.Call (.Name "isinstance" p) [a,.Name T p2] [] pos) (tE S X (.isi ca [t])):=
 (zeE (zmh Z) o r Gb (zJ w (zJ (zj0 (v:=.ty (tyN t)) c d u rfl f g) zhz) m) ⋯ ⋯ m j).imp λA H Q #[B,C,st,U,y,D,h]=>by erw[ev]at h;refine tE.bind y D h λx J v l C1 L b E G I=>?_;let#[z,e,q]:=zac I b;exact#[B,C1,l,v,x,z,rfl,b,G,e,n,q]
def ziW{b}{x y v:PV}(h:ya6 st x y v=AA b):∃n a k j,x=.loc n/\st[n]?=AA (.lst a)/\y=.int k/\ixI a.length k=AA j/\b=st.set n (.lst (a.set j v)):=by
 cases x with
 |loc n=>
  erw[ya6]at h
  cases q:st[n]? with
  |none=>rw[q]at h;cases h
  |some o=>
   rw[q]at h
   cases o with
   |lst a=>
    cases y with
    |int k=>
     dsimp only at h
     cases c:ixI a.length k with
     |none=>rw[c]at h;cases h
     |some j=>rw[c]at h;exact#[n,a,k,j,rfl,q,rfl,c,(A0 h).symm]
    |_=>cases h
   |_=>cases h
 |_=>cases h
theorem yg.put{K:AG}{a:Hy->AK}:∀{vs:Hx PV} {xs:Hx V} (j:Hy) {v:PV} {x:V},yg K a B C H vs xs->yd K a B C H v x->yg K a B C H (vs.set j v) (xs.set j x)
 |[],xs,j,v,x,l,r=>by erw[yg]at l;subst l;simp[yg]
 |w::vs,xs,0,v,x,l,r=>by erw[yg]at l;let#[y,b,rfl,_,l]:=l;erw[Ag,yg];exact#[x,b,rfl,r,l]
 |w::vs,xs,j+1,v,x,l,r=>by erw[yg]at l;let#[y,b,rfl,c,l]:=l;erw[Ai,yg];exact#[y,b.set j x,rfl,c,yg.put j l r]
def zmo(J:PE X a (tE S X ca))(ho:PE X b (tE S X cb))(hi:PE X c (tE S X cc))(L:swapsWithSole [.Subscript b c px] a pos.line X.env=pure false:=by rfl)(M:swappedStores [.Subscript b c px] a X.env=pure none:=by rfl)
  (N:PG X (.Subscript b c px) (yfK (tE S X cb) (tE S X cc) ydq):=by exact zjw ‹_› ‹_› zfk):PS X (.Assign [.Subscript b c px] a pos) (tS S X (.six cb cc ca)):=
 (ziY J N L M).imp λD A H #[B,C,st,U,O,Y,h]=>by
  erw[ex]at h;refine tE.fl O Y h λZ H1 v st1 C1 s1 g m rv h1=>tE.fl g m h1 λx' H2 x st2 C2 s2 o p rx h2=>tE.fl o p h2 λy' u y q C3 w d r z f=>?_
  cases e:ya6 q x y v with
  |none=>rw[e]at f;exact f.elim
  |some st4=>
   rw[e]at f;let#[n,xs,k,j,rfl,hn,rfl,hj,rfl]:=ziW e;erw[yd]at z;subst z;let#[l,E,rfl,G,hx,I]:=d.list (rx.step w) hn;refine#[l,E,k,j,rfl,rfl,hx,by rw[<-I.length];exact hj,?_];have t:Step C3 u C3 (L2.upd u l (.lst (E.set j Z))):=.put (A3 G);exact f A _ C3 t (d.put G #[_,zo,(I.put j ((rv.step s2).step w)).step t]) (r.step t)
end
section
variable {S:Se}{X:Cx}{E:St}{B:AK->Prop}{A:Ph}{H:Hp}{st:SO}{p pos p2 px py pt pt2 apos:Bf}{a b c d o:AW}{ca cb cc:Ce}{kt k2:Hy}
def zl2{i j:Hy}{x y}(G:X.calm=AD)(I:X.N.Nodup)(hi:X.N[i]?=AA x)(J:X.N[j]?=AA y)(g:i≠j)(h:PS X (.Assign [.Tuple [.Name x px,.Name y py] kt pt] (.Tuple [a,b] k2 pt2) pos) (ye0 i j (tAs S X (.cons ca (.cons cb .nil))))):
  PS X (.Assign [.Tuple [.Name x px,.Name y py] kt pt] (.Tuple [a,b] k2 pt2) pos) (tS S X (.asg (.t [i,j]) (.tup (.cons ca (.cons cb .nil))))):=
 h.imp λD E H #[B,A,st,U,m,c,h]=>by
  erw[ex,ev]at h;refine#[B,A,st,U,m,c,?_]
  cases e:evs S.call U st (.cons ca (.cons cb .nil))with
  |bad=>rw[e]at h;exact h
  |exc k d=>rw[e]at h;exact λe n x=>h E A H e n .rfl c x
  |ok o d=>
   rw[e]at h;intro L p q s f l;erw[R.bind]at h;split at h
   .rcases o with _|⟨v,_|⟨w,_|⟨u,t⟩⟩⟩
    .exact h.elim
    .exact h.elim
    .let#[r,z,rfl,C,rw]:=l.two;refine#[r,z,rfl,?_];exact h _ p q s f (((c.step s).set i C).set j rw)
    .exact h.elim
   .exact h.elim
def zlA{c d C}{g:Hz->Hz->Hz}(h:OpR X (inplaceOp c) (rI C λi j=>.int (g i j)))(m:∀v w z,ybb d v w=AA z->∃i j,v=.int i/\w=.int j/\C i j/\z=.int (g i j)):PIp X c (rT2 S X (ybb d)):=by
 rintro F s E H x y v u Q I n o ⟨B,A,st,a,b,z,p,f,l,e,q⟩
 let#[i,j,rfl,rfl,r,rfl]:=m a b z e;erw[yd]at f l;subst f l;exact h F s E H _ _ v u Q I n o #[i,j,rfl,rfl,r,q _ H A .rfl p (by erw[yd])]
def zf6{a}{v w z:PV}(h:ybb a v w=AA z):∃i j,v=.int i/\w=.int j/\IC.binI a i j=AA z:=by
 unfold ybb at h;split at h
 .exact#[_,_,rfl,rfl,h]
 .cases h
def zkT:PIp X .Add (rT2 S X (ybb .add)):=by
 rintro F s E H x y v u Q I f g ⟨B,A,st,a,b,z,l,c,d,e,q⟩
 let#[i,j,rfl,rfl,e]:=zf6 e
 cases e
 erw[yd]at c d;subst c d;exact zlo F s E H _ _ v u Q I f g #[i,j,rfl,rfl,q _ H A .rfl l (by erw[yd])]
def zjH:PIp X .Mult (rT2 S X (ybb .mul)):=zlA zj6 λv w z h=>by
 let#[i,j,rfl,rfl,e]:=zf6 h;erw[IC.binI]at e;split at e
 .rename_i c;erw[yap,Bc,IA]at c;refine#[i,j,rfl,rfl,?_,(A0 e).symm];unfold ycs;rcases c with c|c
  .left;constructor<;>lia
  .right;constructor<;>lia
 .cases e
end
end L2
namespace WK
open PySem L2 IC
def GC(K:AG)(a:AT->Option AH)(b:Hy->AK)(x:AT)(v:PV):Prop:=∃(y:V) (u:AH),a x=AA u/\RelV y u/\∀B A H,yd K b B A H v y
def znG{S:Se}{X x v pos}(a:Gl X x)(h:GC X.K X.mg S.cl x v)(b:(x==("__debug__":AT))=false:=by decide):PE X (.Name x pos) (tE S X (.cst v)):=by
 let#[y,u,c,d,f]:=h;exact(zca a c d b).imp λC H Q #[B,A,st,U,g,j,h]=>by erw[ev]at h;exact h.ok g (f B A H)
def zi8:bootBuiltins "int"=AA (.type "int"):=∅
def zkq:bootBuiltins "bool"=AA (.type "bool"):=∅
def zm8:bootBuiltins "str"=AA (.type "str"):=∅
def zeM:bootBuiltins "tuple"=AA (.type "tuple"):=∅
def zmz:bootBuiltins "len"=AA (.builtin "len"):=∅
def zln:bootBuiltins "min"=AA (.builtin "min"):=∅
def zlp:bootBuiltins "max"=AA (.builtin "max"):=∅
def zlU:bootBuiltins "all"=AA (.builtin "all"):=∅
def zmE:bootBuiltins "sum"=AA (.builtin "sum"):=∅
end WK
namespace L2
open PySem PySem.Spec PyProof.Rows IC
def shC:Sum Ce Hz->Option Hz
 |.inl _=>AF
 |.inr i=>AA i
def yaZ:Hx (Option Hz)->Hx V->Hx V
 |[],_=>[]
 |some i::r,a=>.int i::yaZ r a
 |none::r,z::a=>z::yaZ r a
 |none::_,[]=>[]
def pick:Hx (Option Hz)->Hx V->Hx V
 |none::r,v::a=>v::pick r a
 |some _::r,_::a=>pick r a
 |_,_=>[]
def nKw:Hx (Option Hz)->Hy
 |[]=>0
 |none::r=>nKw r+1
 |some _::r=>nKw r
def ycW:Ces->Hy
 |.nil=>0
 |.cons _ r=>ycW r+1
def gK(c:Hy)(a:Hx (Option Hz))(vs b:Hx V):Hx V:=if vs.length=c/\b.length=nKw a then vs++yaZ a b else []
def zgm{call U}:∀(a:Ces){st b:SO}{vs},evs call U st a=.ok vs b->vs.length=ycW a
 |.nil,st,b,vs,h=>by erw[IC.vsq0,IC.vsq1]at h;cases h;rfl
 |.cons e r,st,b,vs,h=>by
  erw[IC.vsq0,IC.vsq1]at h
  cases q:ev call U st e with
  |ok v f=>
   rw[q]at h;erw[R.bind]at h
   cases d:evs call U f r with
   |ok g j=>
    rw[d]at h
    cases h
    simp[ycW,zgm r d]
   |exc c s=>rw[d]at h;cases h
   |bad=>rw[d]at h;cases h
  |exc c s=>rw[q]at h;cases h
  |bad=>rw[q]at h;cases h
def zgu{call U}:∀a b st,evs call U st (yco a b)=(evs call U st a).bind λg d=>(evs call U d b).bind λj f=>.ok (g++j) f
 |.nil,b,st=>by
  erw[yco,IC.vsq0,IC.vsq1,R.bind,BB]
  cases evs call U st b<;>rfl
 |.cons e r,b,st=>by
  erw[yco,IC.vsq0,IC.vsq1]
  cases ev call U st e with
  |ok v d=>
   erw[R.bind];rw[zgu r b d]
   cases evs call U d r with
   |ok g f=>
    erw[R.bind]
    cases evs call U f b<;>rfl
   |exc c s=>rfl
   |bad=>rfl
  |exc c s=>rfl
  |bad=>rfl
section
variable {S:Se}{X:Cx}{k:Hy}{f:AK}{fd:Av}{ps ks:Hx AT}{sp:Sp}{x:AT}{p pos kpos:Bf}{e:AW}{es:Hx AW}{kws:Hx Bo}{nm:Option AT}{t tk:TA}{CX:CXT}{ca:Ce}{ces:Ces}{items:Hx (Sum Ce Hz)}{g:Hx AH->Hx AH->Hx AH}{gV:Hx V->Hx V->Hx V}
def zbw{K j B C H call U}:∀items{st a:SO}{vs}{xs:Hx V},evs call U st (yar items)=.ok vs a->yg K j B C H vs xs->yaZ (items.map shC) (pick (items.map shC) xs)=xs/\(pick (items.map shC) xs).length=nKw (items.map shC)
 |[],st,a,vs,xs,h,l=>by
  erw[yar,IC.vsq0,IC.vsq1]at h
  cases h
  erw[yg]at l;subst l;exact#[rfl,rfl]
 |.inl c::r,st,a,vs,xs,h,l=>by
  erw[yar,IC.vsq0,IC.vsq1]at h;let#[v,m,g,h]:=zaB h;let#[n,o,b,h]:=zaB h
  cases h
  erw[yg]at l;let#[y,p,rfl,_,l]:=l;let#[d,f]:=zbw r b l;erw[AN,shC,pick,yaZ,nKw,AQ,d,f];exact#[trivial,trivial]
 |.inr i::r,st,a,vs,xs,h,l=>by
  erw[yar,IC.vsq0,IC.vsq1,ev]at h;let#[v,m,g,h]:=zaB h;let#[n,o,b,h]:=zaB h
  cases h
  cases g
  erw[yg,yd]at l;let#[y,p,rfl,rfl,l]:=l;let#[d,f]:=zbw r b l;erw[AN,shC,pick,yaZ,nKw,d,f];exact#[trivial,trivial]
def tK(S:Se)(X:Cx)(items:Hx (Sum Ce Hz)):TA:=λD H Q=>∃B C st U,yr X.K S.cl B C H st/\yF X.K S.cl B C H U D/\Run S X D B C H (RL S X B) (evs S.call U st (yar items)) λa b=>Q (pick (items.map shC) a) b
theorem PK.imp{t t':TA}(h:PK X kws t')(k:∀D H Q,t D H Q->t' D H Q):PK X kws t:=λpos G s D H Q I q=>h pos G s D H Q I (k D H Q q)
def zmT:PK X [] (tK S X []):=zoU.imp λD H Q #[B,C,st,U,a,b,h]=>by erw[yar,IC.vsq0,IC.vsq1]at h;exact h.ok a (x:=[]) (by erw[yg])
def zn0{i:Hz}(h:PK X kws (tK S X items)):PK X kws (tK S X (.inr i::items)):=h.imp λD H Q #[B,C,st,U,b,d,h]=>by
 erw[yar,IC.vsq0,IC.vsq1,ev,R.bind]at h;refine#[B,C,st,U,b,d,?_]
 cases e:evs S.call U st (yar items)with
 |ok n f=>
  rw[e]at h;intro g j m s a l;exact h (.int i::g) j m s a (by erw[yg,yd];exact#[_,_,rfl,rfl,l])
 |exc c s=>rw[e]at h;exact h
 |bad=>rw[e]at h;exact h
def znX(g:PE X e (tE S X ca))(h:PK X kws (tK S X items)):PK X (#[nm,e,kpos] :: kws) (tK S X (.inl ca::items)):=(zkH g h).imp λD H Q #[B,C,st,U,j,m,h]=>by erw[yar,IC.vsq0,IC.vsq1]at h;refine tE.bind j m h λx t v a C1 u b c n o=>#[B,C1,a,U,b,c,?_];refine(Run.bind (Rel:=RL S X B) o).mono λf w kq=>?_;let#[y,p,C2,q,d,l,r]:=kq;exact r.ok d (x:=x::f) (by erw[yg];exact#[x,f,rfl,n.step q,l])
def zh9{o:Hy}(F:yaA X.prog X.w X.K X.mg X.base (CX1 X.prog X.w) k f fd ps (spI X.K S.cl S.call o))(hr:yaq k X.A)(hg:Gl X x)(hm:X.mg x=AA (.ref f))(hk:An X.K (.ref f)=AD){l:Hy}(M:∃g,ybG X.K fd ps ks g (gK l (items.map shC)))(Z:ycW ces=l)
  (ha:PA X (e::es) (tAs S X ces)) (hkw:PK X kws (tK S X items)) (t:(backToKw pos (keywordEach kws X.env)).all (·.1.isSome)=true:=by rfl) (hks:(backToKw pos (keywordEach kws X.env)).filterMap (·.1)=ks:=by rfl)
  (hdb:(x==("__debug__":AT))=false:=by decide) (he:starEach (e::es) X.env=(AC,eval e X.env)::starEach es X.env:=by rfl)
  (hpl:((backTo pos (starEach (e::es) X.env)).any (·.1) || (backToKw pos (keywordEach kws X.env)).any (·.1.isNone))=false:=by rfl):
  PE X (.Call (.Name x p) (e::es) kws pos) (tE S X (.call o (yco ces (yar items)))):=by
 intro G s D H Q I #[B,C,st,U,rs,re,h];erw[ev]at h;rw[zgu,R.bind_assoc]at h;refine BM (zbv I hg hm ?_ hdb);have h0:tAs S X ces D H λd w=>tK S X items D w λzs m=>∃E:XK,spI X.K S.cl S.call o (gK l (items.map shC) d zs) m Q E/\∀G s e N,Inv X G D m s->CX1 X.prog X.w X.stack m s E e N->X.xe e N:=by
  have y:∀d z,evs S.call U st ces=.ok d z->d.length=l:=λd z q=>(zgm ces q).trans Z;refine#[B,C,st,U,rs,re,?_]
  cases q:evs S.call U st ces with
  |exc c s=>rw[q]at h;exact h
  |bad=>rw[q]at h;exact h
  |ok d b=>
  rw[q]at h;intro xs w C1 O rs1 rv;have j:=Run.on O h;have re1:=re.step O;have hv:=y d b q;refine#[B,C1,b,U,rs1,re1,?_];have j:Run S X D B C1 w (RV S X B) (((evs S.call U b (yar items)).bind λa st=>(R.ok (d++a) st:R (Hx PV))).bind λd b=>S.call o d b) Q:=j;rw[R.bind_assoc]at j
  cases e:evs S.call U b (yar items)with
  |ok A st2=>
   rw[e]at j;intro ys m C2 n rs2 l2;let#[m1,m2]:=zbw items e l2;have eg:gK l (items.map shC) xs (pick (items.map shC) ys)=xs++ys:=by unfold gK;rw[ID #[by rw[<-rv.length];exact hv,m2],m1]
   show ∃E:XK,spI X.K S.cl S.call o (gK l (items.map shC) xs (pick (items.map shC) ys)) m Q E/\_;rw[eg];exact zaH rs2 ((rv.step n).append l2) (Run.on n j)
  |exc c s=>rw[e]at j;exact j
  |bad=>rw[e]at j;exact j
 refine PySem.W.callWith_KW (h₀:=X.base) I.ok.mod.kin hk t (thn (ha pos G s D H _ I h0) λY O kq=>?_) hpl he;let#[d,w,I1,r,q]:=kq;refine thn (hkw pos G O D w _ I1 q) λA n kq=>?_;let#[zs,m,J,rz,E,q2,hx]:=kq;refine #[J.kIn,?_];rw[hks];let#[g,M]:=M;have r2:=M.rel r rz;have hl:(g Y A).length=ps.length:=by rw[<-r2.length];exact F.len _ _ _ _ q2
 refine Gm (Di (F.run X.A X.stack n m #[Y,ks.zip A] (g Y A) (gK l (items.map shC) d zs) Q E hr J.env0 (M.to n Y A J.kIn hl) r2 q2) λr N L=>?_)
 cases r with
 |error e=>exact hx G n e N J L
 |ok fl=>
  cases fl with
  |ret u=>exact J.after L
  |next=>exact BY L
  |brk=>exact BY L
  |cont=>exact BY L
end
structure FnD(K:AG)(mg:AT->Option AH)(x:AT)(st:Bg)(ps:Hx AT)(ds:Hx Hz)(f:AK)(fd:Av):Prop where
 ex:∃(oc:AH) (od:Option AK) (dT:AK) (kV doc pm:AH) (an:Option AK) (cdv ct:AH) (osl:IP (Option AH)) (o:Be) (its:IP AH) (n:Hy),
  fd=Ba x x (yaf st) (yP st) (yj st) (.ref dT) kV doc pm an cdv ct/\K.lookup f=AA #[oc,od,.func fd,osl]/\CJ K cdv x=AD/\K.lookup dT=AA o/\o.data=.seq its n/\Vals (ds.map V.int) its.toList
 kp:An K (.ref f)=AD
 m:mg x=AA (.ref f)
section
variable {P:A4}{w:Ae}{K:AG}{mg:AT->Option AH}{base:Au}{cl:Hy->AK}{T:Hy->Option IC.Fn}{fi:Hy}{fn:IC.Fn}{x:AT}{stm:Bg}{f:AK}{fd:Av}{N ps:Hx AT}{ds:Hx Hz}{k:Hy}
end
def zcA(a b):peq (ybl a) (ybl b)=decide (a=b):=by
 rw[Ga]
 cases a with
 |inl i=>cases b with
  |inl j=>show (i==j)=AD ↔ _;simp
  |inr y=>show AC=AD ↔ _;simp
 |inr x=>cases b with
  |inl j=>show AC=AD ↔ _;simp
  |inr y=>show (x==y)=AD ↔ _;simp
mutual
theorem zmG:∀a b:NK,peq (nkP a) (nkP b)=decide (a=b)
 |.a k,.a j=>by
  rw[nkP,nkP,zcA]
  by_cases e:k=j<;>simp[e]
 |.a k,.t l=>by rw[nkP,nkP];cases k<;>simp[ybl,peq]
 |.t l,.a k=>by rw[nkP,nkP];cases k<;>simp[ybl,peq]
 |.t l,.t m=>by
  rw[nkP,nkP];erw[peq,zeb l m]
  by_cases e:l=m<;>simp[e]
theorem zeb:∀a b:Hx NK,ybV (yaH a) (yaH b)=decide (a=b)
 |[],[]=>by simp[yaH,ybV]
 |[],y::c=>by simp[yaH,ybV]
 |x::d,[]=>by simp[yaH,ybV]
 |x::d,y::c=>by
  erw[yaH,ybV,zmG x y,zeb d c]
  by_cases e:x=y<;>by_cases f:d=c<;>simp[e,f]
end
def zbR(a b):peq (.tup (yaH a)) (.tup (yaH b))=decide (a=b):=by erw[peq,zeb]
def zk5{k:PV}(h:ybC k=AD):∃q,k=ybl q:=by
 cases k with
 |int i=>exact#[.inl i,rfl]
 |str i=>exact#[.inr i,rfl]
 |_=>cases h
mutual
theorem znK:∀(k:PV) (n:Hy),yeB n k=AD->∃q:NK,k=nkP q/\Bj (nkD q)=AD/\(nkD q).depth<=n
 |.int i,n,_=>#[.a (.inl i),rfl,rfl,BP _]
 |.str x,n,h=>#[.a (.inr x),rfl,h,BP _]
 |.tp k b,n,h=>by erw[yeB,AL,IA,Bb]at h;let#[q,e,c,d]:=zgP b (n-1) h.2;refine#[.t q,by rw[h.1.1,e];rfl,c,?_];erw[nkD,B7];lia
 |.non,n,h=>by cases h
 |.bl _,n,h=>by cases h
 |.lst _,n,h=>by cases h
 |.loc _,n,h=>by cases h
 |.exn _,n,h=>by cases h
 |.scr _,n,h=>by cases h
 |.fnc _,n,h=>by cases h
theorem zgP:∀(b:Hx PV) (n:Hy),ybK n b=AD->∃a:Hx NK,b=yaH a/\CQ (ya3 a)=AD/\B1 (ya3 a)<=n
 |[],n,_=>#[[],rfl,rfl,BP _]
 |k::b,n,h=>by erw[ybK,AL]at h;let#[q,c,d,j]:=znK k n h.1;let#[a,f,g,l]:=zgP b n h.2;refine#[q::a,by rw[c,f];rfl,by erw[ya3,CQ,d,g];rfl,?_];erw[ya3,B1];lia
end
section
variable {S:Se}{X:Cx}{K:AG}{cl:Hy->AK}{E:St}{B:AK->Prop}{C:Ph}{H:Hp}{st:SO}{p pos p2 px apos:Bf}{a b c d o:AW}{ca cb cc:Ce}
def zoy{q x}:yd K cl B C H (ybl q) x ↔ x=kV q:=by cases q<;>simp[ybl,yd,kV]
mutual
theorem zhb:∀q(x:V),yd K cl B C H (nkP q) x->NKr H q x
 |.a k,x,r=>zoy.mp r
 |.t l,x,r=>by
  erw[nkP,yd]at r;let#[y,c,rfl,b,d]:=r;rcases b with⟨b,_⟩|⟨z,_⟩
  .exact#[y,c,rfl,b,zhm l c d]
  .cases z
theorem zhm:∀q(xs:Hx V),yg K cl B C H (yaH q) xs->NKs H q xs
 |[],xs,l=>show xs=[]by simpa only[yaH,yg] using l
 |q::b,xs,l=>by erw[yaH,yg]at l;let#[y,a,rfl,r,l]:=l;exact#[y,a,rfl,zhb q y r,zhm b a l]
end
theorem DK.look{q:Key}:∀{a:Hx (PV×PV)} {b:Hx (Key×V)},DK K cl B C H a b->∀{v:PV} {x:V},yd K cl B C H v x->yd K cl B C H ((IC.look (ybl q) a).getD v) ((ya2 b q).getD x)
 |[],b,h,v,x,r=>by cases h;exact r
 |(k,w)::t,b,h,v,x,r=>by
  let#[c,y,s,rfl,rfl,d,l]:=h;erw[IC.look,zcA]
  by_cases e:c=q
  .rw[zaP (p:=(c,y)) e];simp[e,d]
  .rw[zaS (p:=(c,y)) e];erw[IA,e,IL];exact DK.look l r
theorem DT.look{q:Hx NK}:∀{a:Hx (PV×PV)} {b:Hx (Hx NK×V)},DT K cl B C H a b->∀{v:PV} {x:V},yd K cl B C H v x->yd K cl B C H ((IC.look (.tup (yaH q)) a).getD v) ((ya2 b q).getD x)
 |[],b,h,v,x,r=>by cases h;exact r
 |(k,w)::t,b,h,v,x,r=>by
  let#[c,y,s,rfl,rfl,d,l]:=h;erw[IC.look,zbR]
  by_cases e:c=q
  .rw[zaP (p:=(c,y)) e];simp[e,d]
  .rw[zaS (p:=(c,y)) e];erw[IA,e,IL];exact DT.look l r
theorem DK.any{q:Key}:∀{a:Hx (PV×PV)} {b:Hx (Key×V)},DK K cl B C H a b->(a.any λp=>peq p.1 (ybl q))=b.any λc=>decide (c.1=q)
 |[],b,h=>by cases h;rfl
 |(k,w)::t,b,h=>by let#[d,y,s,rfl,rfl,f,l]:=h;erw[By,zcA,DK.any l]
theorem DT.any{q:Hx NK}:∀{a:Hx (PV×PV)} {b:Hx (Hx NK×V)},DT K cl B C H a b->(a.any λp=>peq p.1 (.tup (yaH q)))=b.any λc=>decide (c.1=q)
 |[],b,h=>by cases h;rfl
 |(k,w)::t,b,h=>by let#[d,y,s,rfl,rfl,f,l]:=h;erw[By,zbR,DT.any l]
theorem DK.map{q:Key}{v:PV}{x:V}(r:yd K cl B C H v x):∀{a:Hx (PV×PV)} {b:Hx (Key×V)},DK K cl B C H a b->DK K cl B C H (a.map λp=>if peq p.1 (ybl q)=AD then(p.1,v)else p) (b.map λc=>if c.1=q then(c.1,x)else c)
 |[],b,h=>by cases h;exact rfl
 |(k,w)::t,b,h=>by
  let#[d,y,s,rfl,rfl,f,l]:=h;erw[AN,zcA,IA]
  by_cases e:d=q
  .simp only[e,IF];exact#[q,x,_,rfl,rfl,r,DK.map r l]
  .simp only[e,IL];exact#[d,y,_,rfl,rfl,f,DK.map r l]
theorem DT.map{q:Hx NK}{v:PV}{x:V}(r:yd K cl B C H v x):∀{a:Hx (PV×PV)} {b:Hx (Hx NK×V)},DT K cl B C H a b->DT K cl B C H (a.map λp=>if peq p.1 (.tup (yaH q))=AD then(p.1,v)else p) (b.map λc=>if c.1=q then(c.1,x)else c)
 |[],b,h=>by cases h;exact rfl
 |(k,w)::t,b,h=>by
  let#[d,y,s,rfl,rfl,f,l]:=h;erw[AN,zbR,IA]
  by_cases e:d=q
  .simp only[e,IF];exact#[q,x,_,rfl,rfl,r,DT.map r l]
  .simp only[e,IL];exact#[d,y,_,rfl,rfl,f,DT.map r l]
theorem DK.snoc{q:Key}{v:PV}{x:V}(r:yd K cl B C H v x):∀{a:Hx (PV×PV)} {b:Hx (Key×V)},DK K cl B C H a b->DK K cl B C H (a++[(ybl q,v)]) (b++[(q,x)])
 |[],b,h=>by cases h;exact#[q,x,[],rfl,rfl,r,rfl]
 |(k,w)::t,b,h=>by let#[c,y,s,rfl,rfl,d,l]:=h;exact#[c,y,_,rfl,rfl,d,DK.snoc r l]
theorem DT.snoc{q:Hx NK}{v:PV}{x:V}(r:yd K cl B C H v x):∀{a:Hx (PV×PV)} {b:Hx (Hx NK×V)},DT K cl B C H a b->DT K cl B C H (a++[(.tup (yaH q),v)]) (b++[(q,x)])
 |[],b,h=>by cases h;exact#[q,x,[],rfl,rfl,r,rfl]
 |(k,w)::t,b,h=>by let#[c,y,s,rfl,rfl,d,l]:=h;exact#[c,y,_,rfl,rfl,d,DT.snoc r l]
theorem DK.put{q:Key}{v:PV}{x:V}{a:Hx (PV×PV)}{b:Hx (Key×V)}(l:DK K cl B C H a b)(r:yd K cl B C H v x):DK K cl B C H (IC.put (ybl q) v a) (putK b q x):=by
 unfold IC.put putK;rw[DK.any l];split
 .exact DK.map r l
 .exact DK.snoc r l
theorem DT.put{q:Hx NK}{v:PV}{x:V}{a:Hx (PV×PV)}{b:Hx (Hx NK×V)}(l:DT K cl B C H a b)(r:yd K cl B C H v x):DT K cl B C H (IC.put (.tup (yaH q)) v a) (putK b q x):=by
 unfold IC.put putK;rw[DT.any l];split
 .exact DT.map r l
 .exact DT.snoc r l
theorem DK.len:∀{a:Hx (PV×PV)} {b:Hx (Key×V)},DK K cl B C H a b->a.length=b.length
 |[],b,h=>by cases h;rfl
 |(k,w)::t,b,h=>by let#[c,y,s,rfl,rfl,d,l]:=h;simp[DK.len l]
theorem DT.len:∀{a:Hx (PV×PV)} {b:Hx (Hx NK×V)},DT K cl B C H a b->a.length=b.length
 |[],b,h=>by cases h;rfl
 |(k,w)::t,b,h=>by let#[c,y,s,rfl,rfl,d,l]:=h;simp[DT.len l]
theorem yr.dct{n:Hy}{t:IB}{a:Hx (PV×PV)}{x:V}(rs:yr K cl B C H st)(r:yd K cl B C H (.loc n) x)(h:st[n]?=AA (.dct t a)):∃y,x=.ref y/\C[n]?=AA (AA y)/\ycc K cl B C H (.dct t a) y:=by erw[yd]at r;let#[g,y,rfl,d]:=r;let#[z,b]:=rs.liv n _ h (by intro z;cases z);obtain rfl:=d z b;let#[o,c,f]:=rs.obj n z b;rw[h]at c;cases c;exact#[z,rfl,b,f]
def zdm{v:PV}{t:IB}{a:Hx (PV×PV)}(h:yac st v=AA (t,a)):∃n,v=.loc n/\st[n]?=AA (.dct t a):=by
 cases v with
 |loc n=>
  erw[yac]at h;split at h
  .rename_i b c q
   cases h
   exact#[n,rfl,q]
  .cases h
 |_=>cases h
def zg2{k:PV}(h:isKey AC k=AD):∃q,k=ybl q:=zk5 h
def zgN{k:PV}(h:isKey AD k=AD):∃q:Hx NK,k=.tup (yaH q)/\ydI q:=by
 cases k with
 |tp b a=>
  cases b with
  |false=>
   let#[f,rfl,c,d]:=zgP a 5 h;exact#[f,rfl,c,GA d]
  |true=>cases h
 |_=>cases h
def zgz{q x}(a:ydI q)(r:yd K cl B C H (.tup (yaH q)) x):∃y,x=.ref y/\KyR H q y:=by have c:yd K cl B C H (nkP (.t q)) x:=r;let#[b,d,rfl,g,f]:=zhb (.t q) x c;exact#[b,rfl,#[b,d,rfl,g,f],a]
def zfU:PE X (.Dict [] [] pos) (tE S X (.dict0 AD)):=zo0.imp λE H Q #[B,C,st,U,a,c,h]=>by erw[ev]at h;exact λp b=>h _ _ (C++[AA p]) (.push b) (a.push b (a.nB b) #[[],zo,rfl]) (.loc_new a)
def zlv(hu:X.A.units+16<cLine)(ha:PE X a (tE S X ca))(hb:PE X b (tE S X cb))(hc:PE X c (tE S X cc))(m:M2 X a "get" apos b c pos:=by exact#[rfl,rfl,rfl,rfl]):PE X (.Call (.Attribute a "get" apos) [b,c] [] pos) (tE S X (.mth .get ca (.cons cb (.cons cc .nil)))):=
 (ziM hu ha hb hc m).imp λE H Q #[B,C,st,U,rs,re,h]=>by
  erw[ev]at h;refine tE.bind rs re h λx H1 v z C1 s1 p A Y w=>?_;let#[_,D,w]:=zc9 w;erw[yL]at D
  cases q:yac z v with
  |none=>rw[q]at D;cases D
  |some tk=>
   let#[t,kvs]:=tk;let#[n,rfl,hn]:=zdm q;let#[y,rfl,hy,Z]:=p.dct Y hn;refine#[y,rfl,?_,?_]
   .cases t with
    |false=>let#[f,o,_]:=Z;exact .inl #[f,.inl o]
    |true=>let#[f,o,_]:=Z;exact .inr #[f,.inl o]
   .simp only[evs,R.bind_assoc]at w;refine tE.bind p A w λkx H2 kv st2 C2 s2 G I rk h2=>tE.bind G I h2 λdx H3 dv J C3 s3 g re3 rd d=>?_;erw[R.bind]at d;unfold yaL at d;erw[ycq]at d
    cases L:yac J (.loc n)with
    |none=>rw[L]at d;exact d.elim
    |some M=>
     let#[t3,kvs3]:=M;rw[L]at d;dsimp only at d;split at d
     .rename_i o;let#[n',e',N]:=zdm L
      cases e'
      let#[y3,ey,hy3,r]:=g.dct ((Y.step s2).step s3) N
      cases ey
      have u:=rk.step s3
      cases t3 with
      |false=>
       let#[q,rfl]:=zg2 o;let#[f,j,l]:=r;refine#[ya2 f q,.inl #[f,q,.inl j,zoy.mp u,rfl],d.ok g (DK.look l rd)]
      |true=>
       let#[q,rfl,hq]:=zgN o;let#[f,j,l]:=r;let#[b',rfl,O]:=zgz hq u;exact#[ya2 f q,.inr #[f,q,b',.inl j,rfl,O,rfl],d.ok g (DT.look l rd)]
     .exact d.elim
def zg9{b}{x y v:PV}(h:ybc st x y v=AA b):∃n t a,x=.loc n/\st[n]?=AA (.dct t a)/\isKey t y=AD/\a.length<1000000/\b=st.set n (.dct t (IC.put y v a)):=by
 cases x with
 |loc n=>
  erw[ybc]at h;split at h
  .rename_i t a q;split at h
   .rename_i c;exact#[n,t,a,rfl,q,c.1,c.2,(A0 h).symm]
   .cases h
  .cases h
 |_=>cases h
def zkw(Z:X.A.units+16<cLine)(ho:PE X b (tE S X cb))(hi:PE X c (tE S X cc))(hv:PE X a (tE S X ca))(hs:swapsWith a (AA (.Subscript b c px)) pos.line X.env=pure false:=by rfl):PS X (.Assign [.Subscript b c px] a pos) (tS S X (.dput cb cc ca)):=
 (zk3 Z ho hi hv hs).imp λD E H #[B,C,st,U,rs,re,h]=>by
  erw[ex]at h;refine tE.fl rs re h λL H1 v st1 C1 s1 w z rv h1=>tE.fl w z h1 λx' H2 x st2 C2 s2 A G rx h2=>tE.fl A G h2 λy' r y I C3 M d j N m=>?_
  cases e:ybc I x y v with
  |none=>rw[e]at m;exact m.elim
  |some st4=>
   rw[e]at m;let#[n,t,kvs,rfl,hn,O,hl,rfl]:=zg9 e;let#[l,rfl,u,Y]:=d.dct (rx.step M) hn;have o:=(rv.step s2).step M;have hm:=zox
   cases t with
   |false=>
    let#[q,rfl]:=zg2 O;let#[p,f,ld]:=Y;have g:Step C3 r C3 (L2.upd r l (.dK (putK p q L))):=.put (A3 u);refine#[l,_,rfl,.inl #[p,q,f,zoy.mp N,by have:=ld.len;lia,rfl],m E _ C3 g (d.put u #[_,zo,(ld.put o).step g]) (j.step g)]
   |true=>
    let#[q,rfl,hq]:=zgN O;let#[p,f,ld]:=Y;let#[b',rfl,J]:=zgz hq N;have g:Step C3 r C3 (L2.upd r l (.dT (putK p q L))):=.put (A3 u);refine#[l,_,rfl,.inr #[p,q,b',f,rfl,J,by have:=ld.len;lia,rfl],m E _ C3 g (d.put u #[_,zo,(ld.put o).step g]) (j.step g)]
end
def Itd(lo:Hz)(n:Hy):It:=#[λi _=>i<n,λi H x a=>a=H/\x=.int (lo+i*(-1)),λi _=>n<=i]
def zef{P w K D}(a:AK)(lo:Hz)(n:Hy):Turn P w K D (Itd lo n) [a] a (λi h=>FF h a (lo+(i:Hy)*(-1)) ((n:Hz)-(i:Hy)) (-1)) where
 mem:=by simp
 obj:=λi h st b c=>by
  have e:b=a:=by simpa using c
  subst e;exact#[_,st,λv z=>by
   have G:He _=Data.cell v:=z
   cases G]
 keep:=λi h f st k=>k a (by simp) _ st
 item:=by intro X g j l m i B s A H E I hf st p;subst g j l;let#[q,r,J,u,x,y]:=hf a (by simp);have W:=Hf (prog:=X.prog) (w:=X.w) (I.ok.hd m) a lo (-1) n;refine W.item i s _ _ p st λv f C L d M=>?_;let#[t,rfl]:=L;have N:Inv X B A H {s with heap:=f,toks:=C}:=I.turned (λb o c e=>M b o (by simpa using c) e) q r u x y;exact#[_,rfl,zit (s:={s with heap:=f,toks:=C}) (n:="range_iterator") d rfl rfl ⋯ #[.int (lo+i*(-1)),H,N,#[t,rfl],#[rfl,rfl],d,λb c=>(hf b c).1]]
 done:=by intro X g j l m i B s A H E I hf st p;subst g j l;let#[q,r,J,u,x,y]:=hf a (by simp);exact E9 (I.ok.hd m) st (by have:n<=i:=p;lia) λf O=>#[rfl,I.turned (t':=s.toks) (λb o c e=>O b o c e) q r u x y]
 self:=λ_ _ _ _ _ st h=>Ea st h
section
variable {S:Se}{X:Cx}{D:St}{B:AK->Prop}{C:Ph}{H:Hp}{p pos p3 p4:Bf}{a b tg:AW}{ca cb:Ce}
def zgg{F D H s}{R:It->Hp->Prop}{E}{lo hi:Hz}{t u v}{a:Hy}(I:Inv X F D H s)(j:lo.natAbs<1000000000)(l:hi.natAbs<1000000000)
  (q:R (Itd lo (lo-hi).toNat) H):A6 (model X.prog X.w) X.A (pyIter (.ref s.heap.objs.size)) (PIE X F D tg R) E {s with heap:=s.heap.push {cls:=.type "range",data:=.fields (Hx.toArray [.int lo t,.int hi u,.int (-1) v])},toks:=a}:=by
 refine F7 (Hg ..) ?_ ?_
 .unfold Hm;have c:Bn lo hi (-1)=((lo-hi).toNat:Hz):=by
   unfold Bn;rw[IE ⋯];split
   .rw[show -(-1:Hz)=1 by decide,Ed];lia
   .lia
  rw[c];erw[Gg,AL,Bc,IA,IV,show ¬(-1:Hz) > 0 by decide,IL];lia
 have d:Inv X F D H {s with heap:=s.heap.push {cls:=.type "range",data:=.fields (Hx.toArray [.int lo t,.int hi u,.int (-1) v])},toks:=a}:=I.kept λb o e=>AU _ e;refine#[(s.heap.push {cls:=.type "range",data:=.fields (Hx.toArray [.int lo t,.int hi u,.int (-1) v])}).objs.size,[(s.heap.push {cls:=.type "range",data:=.fields (Hx.toArray [.int lo t,.int hi u,.int (-1) v])}).objs.size],_,_,H,rfl,
  d.kept (t':=a) λb o e=>AU _ e,zef _ lo (lo-hi).toNat,?_,λb f=>?_,q]
 .have g:lo+((0:Hy):Hz)*(-1)=lo:=by simp
  have c:(((lo-hi).toNat:Hy):Hz)-((0:Hy):Hz)=Bn lo hi (-1):=by
   unfold Bn;rw[IE ⋯];split
   .rw[show -(-1:Hz)=1 by decide,Ed];lia
   .lia
  show FF _ _ (lo+((0:Hy):Hz)*(-1)) ((((lo-hi).toNat:Hy):Hz)-((0:Hy):Hz)) (-1);rw[g,c];exact A5 _ rfl
 .have e:b=(s.heap.push {cls:=.type "range",data:=.fields (Hx.toArray [.int lo t,.int hi u,.int (-1) v])}).objs.size:=by simpa using f
  subst e;exact d.fpOk (AS _) (d.hok.fresh (AS _))
def zfx{lo:Hz}{n:Hy}:Drw S X B C H (ye n lo (-1)) (Itd lo n):=by refine#[λb c s=>by rw[zM];exact AS _,λi b c s a=>by rw[zM]at a;exact a,λi b c st x d f g s j a q=>?_];rw[zM]at a;let#[rfl,rfl]:=q;refine#[.int (lo+i*(-1)),?_,by erw[yd],λ_ _ e=>e];rw[zbu,ID a]
def zgn{j:Hy}(L:Gl X "range")(M:X.mg "range"=AF)(N:PE X a (tE S X ca))(O:PE X b (tE S X cb))(E:starEach [a,b,.UnaryOp .USub (.Constant (.int 1) j p3) p4] X.env=[(AC,eval a X.env),(AC,eval b X.env),(AC,eval (.UnaryOp .USub (.Constant (.int 1) j p3) p4) X.env)]:=by rfl)
  (c:starEach [b,.UnaryOp .USub (.Constant (.int 1) j p3) p4] X.env=[(AC,eval b X.env),(AC,eval (.UnaryOp .USub (.Constant (.int 1) j p3) p4) X.env)]:=by rfl) (d:starEach [.UnaryOp .USub (.Constant (.int 1) j p3) p4] X.env=[(AC,eval (.UnaryOp .USub (.Constant (.int 1) j p3) p4) X.env)]:=by rfl):
  PI X tg (.Call (.Name "range" p) [a,b,.UnaryOp .USub (.Constant (.int 1) j p3) p4] [] pos) (tI S X (.rangeD ca cb)):=by
 intro F s D H R I #[B,C,st,U,Y,Z,h];erw[IC.vjq0,IC.vjq1,IC.vjq2,IC.vjq3,IC.vjq4,IC.vjq5,IC.vjq6,IC.vjq7,IC.vjq8,IC.vjq9]at h;have h0:(ybP (tE S X ca) (ybP (tE S X cb) (ybP (tUn (rU λi=>.int (-i)) (tC (.int 1))) yct))) D H λG g=>∃i j:Hz,G=[.int i,.int j,.int (-1)]/\i.natAbs<1000000000/\j.natAbs<1000000000/\R (Itd i (i-j).toNat) g:=by refine tE.bind Y Z h λx g v st1 C1 s1 l m J h1=>tE.bind l m h1 λy H2 w st2 C2 s2 n re2 rw o=>?_;let#[xs,e,o]:=zdf o;let#[i,j,rfl,rfl,u,z,rfl]:=zhU e;erw[yd]at J rw;subst J rw;exact#[1,rfl,i,j,rfl,u,z,o.ok n zfx]
 refine Call_ (zbH I L M Gk (BS (thn (zJ N (zJ O (zJ (zlI zi9 zoE) zhz d) (by rw[c,d])) (by rw[E,c]) pos F s D H _ I h0) λus s1 kq=>?_) (by rw[E,c]) (by rw[c];rfl)));let#[G,g,I1,r1,q1]:=kq;let#[i,j,e,u,z,q]:=q1;subst e
 cases r1 with
 |cons r f=>
  cases f with
  |cons r' f=>
   cases f with
   |cons A f=>
    cases f
    let#[t,rfl]:=r;let#[t',rfl]:=r';let#[t'',rfl]:=A;exact call_range_3 ⋯ (zgg I1 u z q) (.inl (PyProof.noPylong_small ⋯))
end
end L2
namespace WK
open PySem L2 IC
section
variable {K:AG}{cl:Hy->AK}{B:AK->Prop}{A:Ph}{H:Hp}
def zjv:yg K cl B A H [] []:=by erw[yg]
def zhc{v x vs xs}(h:yd K cl B A H v x)(l:yg K cl B A H vs xs):yg K cl B A H (v::vs) (x::xs):=by erw[yg];exact#[x,xs,rfl,h,l]
end
def zlV{P w outer H s e a}(h:CX1 P w outer H s (λ_ _ _=>IK) e a):IK:=by let#[_,_,_,_,_,_,_,_,_,_,_,_,_,_,z]:=h;exact z
def zgx{K b B A H}:∀a:Hx Hz,yg K b B A H (a.map .int) (a.map V.int)
 |[]=>zjv
 |n::a=>zhc (by erw[yd]) (zgx a)
def spX(K:AG)(call:Hy->Hx PV->SO->R PV)(a:Hy):Sp:=λb H Q E=>∀c,spI K c call a b H Q E
def zgt{K}{call:Hy->Hx PV->SO->R PV}{d:Hy}{H a}{b:Hx Hz}(f:∀b:Hx Hz,b.length<=63->call d [.scr (b.map .int)] []=.ok (.bl AD) [])(g:b.length<=63)(c:SqL K H a (b.map V.int)):
  spX K call d [.ref a] H (λv _=>v=.bl AD) λ_ _ _=>IK:=by
 intro j;refine#[λ_=>IK,[],[],[.scr (b.map .int)],#[rfl,λm n a e=>by simp at e,λn a e=>by simp at e,λn o e=>by simp at e,λa z=>by simp at z,λa z=>z.elim,λa z=>z.elim],zhc ?_ zjv,?_]
 .simp only[yd];refine#[a,_,rfl,?_,zgx b];rcases c with c|c
  .exact .inl #[c,λz=>z,by simp]
  .exact .inr c
 .rw[f b g];intro x l p _ _ r;simpa only[yd] using r
end WK
namespace L2
open PySem PySem.Spec PyProof.Rows IC
def zgp{l:Hx AT}(h:l.Nodup){i j:Hy}(hi:i<l.length)(a:j<l.length)(e:l[i]=l[j]):i=j:=by
 rcases Hy.lt_trichotomy i j with q|q|q
 .exact IG e (EH.mp h i j hi a q)
 .exact q
 .exact IG e.symm (EH.mp h j i a hi q)
section
variable {X:Cx}{B:Hx (AK×Be)}{A:St}{H:Hp}{s:AJ}
theorem Inv.drop{h':Au}{m:AT->Option AH}{v:Option AH}{i:Hy}{n:AT}(I:Inv X B A H s)(E:X.N.Nodup)(hi:X.N[i]?=AA n)(hm:s.heap.Ns X.env.locals m)(look:∀(i:Hy) (x:AT) (v:V),X.N[i]?=AA x->A[i]?=AA (AA v)->Vis X.env.scope x->∃u,RelV v u/\Look X.env s.heap m x u)(G:C6 X.env.locals s.heap h')(J:h'.Ns X.env.locals (λx=>if x=n then v else m x)):Inv X B (A.set i AF) H {s with heap:=h'}:=by
 have k:∀b u,b≠X.env.locals->s.heap.get? b=AA u->h'.get? b=AA u:=λb u l q=>(G.2 b l).trans q;have w:∀b o,X.s₀.heap.get? b=AA o->b≠X.env.locals:=λb o e=>Ao (Aa (A2 e) I.ok.above);refine#[I.ok,I.os,I.bare,#[λb o q n l d=>k b o (w b o q) (I.base.keep b o q n l d),λb o q n l d=>?_,I.base.free,λb o q d=>?_,I.base.tups,I.base.frzs,I.base.tbls],#[_,J,λj x v y f L=>?_],λx c e=>?_,I.free,I.freeC,λp M=>?_,λb u e=>?_,?_]
 .let#[N,a]:=I.base.slot b o q n l d;exact#[N,k b _ (w b o q) a]
 .let#[C,a]:=I.base.there b o q d;exact#[C,k b C (w b o q) a]
 .have D:j≠i:=λz=>by subst z;rw[Cg]at f;erw[IF]at f;split at f<;>cases f
  rw[AZ (BI D)]at f;have d:x≠n:=λz=>by subst z;let#[O,U]:=Ax.mp y;let#[Y,Z]:=Ax.mp hi;exact D (zgp E O Y (U.trans Z.symm))
  let#[u,r,lk]:=look j x v y f L;refine#[u,r,?_];rcases lk with⟨a,g⟩|⟨a,c,g,o,t,q4⟩
  .exact .inl #[a,by dsimp only;rw[IE d];exact g]
  .exact .inr #[a,c,g,o,k c o (I.cne x c g) t,q4]
 .let#[v,o,ho,hd]:=I.cell x c e;exact#[v,o,k c o (I.cne x c e) ho,hd]
 .let#[a,g,t,q4]:=I.pin p M;exact#[k _ _ t a,g,t,q4]
 .refine(I.hok b u e).stay (λc v hc q=>k c v (λz=>?_) q) (λ_ q=>q) λ_ _ q=>q;have fr:=I.free;subst z;rcases hc with z|z
  .rw[z,e]at fr
   cases fr
  .rw[z]at fr
   cases fr
 .rw[BV];exact I.len
end
section
variable {X:Cx}{body suite:Hx Bg}{b₀:Bg}{x n:AT}{np hpos pos:Bf}{W:AK}{i:Hy}
end
section
variable {S:Se}{X:Cx}{E:St}{B:AK->Prop}{A A1:Ph}{H H1:Hp}{st:SO}{U:IC.Env}{D:Ends}{body suite:Hx Bg}{b₀:Bg}{x n:AT}{p p2 np hpos pos cpos:Bf}{W:AK}{i:Hy}{cb ch:Css}{a e:AW}{es:Hx AW}{ca ce:Ce}{ces:Ces}
theorem yF.drop{K:AG}{a:Hy->AK}(r:yF K a B A H U E)(i:Hy):yF K a B A H (U.set i AF) (E.set i AF):=by
 refine#[by rw[BV,BV];exact r.len,λj w e=>?_]
 by_cases h:j=i
 .subst h;rw[Cg]at e;erw[IF]at e;split at e<;>cases e
 .rw[AZ (BI h)]at e ⊢;exact r.get j w e
abbrev Se.quiet(S:Se):Se:={S with may:=AC}
theorem all_nil{P:Hy->Prop}:∀c∈([]:Hx Hy),P c:=λ_ h=>by cases h
theorem all_cons{P:Hy->Prop}{c:Hy}{a:Hx Hy}(h:P c)(t:∀d∈a,P d):∀d∈c::a,P d:=λd b=>by
 rcases AV.mp b with e|e
 .exact e ▸ h
 .exact t d e
structure yda(K:AG)(mg:AT->Option AH)(C:AK)(x:AT):Prop where
 m:mg x=AA (.ref C)
 q:ycD K C [.type "ValueError",.type "Exception",.type "BaseException",.type "object"] "ValueError.__new__"=AD
def tyZ(a:Hy->AK):Ty->AH
 |.cls d=>.ref (a d)
 |_=>.type "ValueError"
def ygc(K:AG)(a:Hy->AK)(c:Hy)(t:Ty):Prop:=BH K (.ref (a c)) (tyZ a t)=AA (ybg (.exn c) t)
end
section
variable {S:Se}{X:Cx}{p pos p2 px apos:Bf}{a b:AW}{ca cb:Ce}
end
end L2
namespace WE
open PySem PySem.Spec PyProof.Rows
section
variable {prog:A4}{w:Ae}{A:Af}{E:AH->AJ->Prop}{s:AJ}
def ydr(h:Au)(a t:AK)(i:Hz):Prop:=∃o,h.get? a=AA o/\o.cls=.type "reversed"/\o.data=.fields (Hx.toArray [.ref t,rawInt i])
theorem ydr.typeIs{a t:AK}{i:Hz}(x:ydr s.heap a t i):s.TypeIs (.ref a) "reversed":=let #[o,b,c,_]:=x;#[o,b,c]
end
end WE
namespace L2
open PySem PySem.Spec PyProof.Rows
end L2
namespace L2
open PySem PySem.Spec PyProof.Rows IC
open Classical in
section
variable {S:Se}{X:Cx}{C:St}{B:AK->Prop}{A A1:Ph}{H H1:Hp}{st:SO}{U:IC.Env}{p pos p2 px py pt pt2:Bf}{a b c d o a' b' c' d':AW}{ca cb cc cd ce cf:Ce}{D:Hx (AK×Be)}{s:AJ}{kt k2:Hy}{es:Hx AW}{ces:Ces}{x:AT}
end
end L2
namespace IC
open PySem
end IC
namespace L2
open PySem PySem.Spec PyProof.Rows IC
section
variable {S:Se}{X:Cx}{C:St}{B:AK->Prop}{A:Ph}{H:Hp}{p p2 pos pos2 apos:Bf}{a b tg:AW}{ca cb:Ce}
def yhH:V->Hx V->Hp->VK->Prop:=λx a H Q=>∃s y,x=.str s/\a=[.str y]/\s.length<=16777216/\Q (.str (ydP s y)) H
def zl0:MtR X "str.removeprefix" yhH:=by
 intro D s C H x d v f Q I a b h;let#[x,y,rfl,rfl,c,q]:=h;let#[t,rfl]:=a;let#[w,rfl,rw]:=vals1 b;let#[u,rfl]:=rw;refine PySem.SC.removeprefix (λg k=>?_) (by rw[DF];exact c);have e:GW x y=ydP x y:=by
  unfold GW ydP Txt.affix
  cases Fy x y 0<;>rfl
 rw[e];exact#[.str _,H,I.tok _,#[_,rfl],q]
def zlM(D:PE X a (tE S X ca))(E:PE X b (tE S X cb))(r:starEach [b] X.env=(AC,eval b X.env)::starEach [] X.env:=by rfl)(d:attributeBase a "removeprefix" X.env (eval a X.env)=eval a X.env:=by rfl)(f:(apos.endLine==pos.line)=true:=by rfl)
  (g:((backTo pos (starEach [b] X.env)).all (λx=>!x.1)&&(backToKw pos (keywordEach [] X.env)).all (λx=>x.1.isSome)&&decide (([b]:Hx AW).length+([]:Hx Bo).length+(if ([]:Hx Bo).isEmpty then 0 else 1)<30))=true:=by rfl) (j:(backTo pos (starEach [] X.env)).any (·.1)=false:=by rfl):
  PE X (.Call (.Attribute a "removeprefix" apos) [b] [] pos) (tE S X (.mth .rmp ca (.cons cb .nil))):=
 (zj3 PySem.F.plainAttrs_str PySem.F.slot_str_removeprefix PySem.F.type_str_removeprefix zl0 D (za8 (S:=S) E zdV r) d g f r j).imp λC H Q #[B,A,st,U,G,I,h]=>by
  erw[ev]at h;refine tE.bind G I h λx Z v J A1 s1 l m u n=>?_;let#[_,L,n]:=zc9 n
  cases v with
  |str y=>
   erw[yd]at u;subst u;refine#[rfl,tAs.bind l m n λys H2 M N A2 s2 o O p c=>?_];rcases M with _|⟨w,_|⟨w',t⟩⟩
   .exact c.elim
   .let#[z,rfl,rw]:=p.one;erw[yaL]at c
    cases w with
    |str q=>
     erw[yd]at rw;subst rw;erw[yfi]at c;split at c
     .rename_i Y;exact#[y,q,rfl,rfl,Y,c.ok o (by erw[yd])]
     .exact c.elim
    |_=>exact c.elim
   .exact c.elim
  |_=>cases L
end
end L2
namespace WE
open PySem PySem.Spec PyProof.Rows
section
variable {pg:A4}{wd:Ae}{A:Af}{Er:AH->AJ->Prop}{s:AJ}
theorem tit_keep{h h':Au}{i t}{j:Hy}(u:h.IsTupleIter i t j)(k:∀o,h.get? i=AA o->h'.get? i=AA o):h'.IsTupleIter i t j:=let #[o,g,r]:=u;#[o,k o g,r]
def zbW{h h':Au}{t xs}(u:h.IsTuple t xs)(k:∀o,h.get? t=AA o->h'.get? t=AA o):h'.IsTuple t xs:=let #[o,g,r]:=u;#[o,k o g,r]
def Kz(z TO a b:AK)(h h':Au):Prop:=∀c o,c≠z->c≠TO->c≠a->c≠b->h.get? c=AA o->h'.get? c=AA o
def zfQ{z TI TO g l q r}{j:Hy}{xs ys x y a b}{Q:AH->AJ->Prop}(D:GB z TI TO g l q r)
  (t:EN s.heap z TI TO .none) (gI:CV s.heap TI (.ref g) (.ref l)) (gO:CV s.heap TO a b) (u1:s.heap.IsTupleIter g q j) (u2:s.heap.IsTupleIter l r j) (t1:s.heap.IsTuple q xs) (t2:s.heap.IsTuple r ys) (ex:xs[j]?=AA x) (ey:ys[j]?=AA y)
  (k:∀m,EN m z TI TO (rawInt s.heap.objs.size)->CV m TO x y->m.IsTupleIter g q (j+1)->m.IsTupleIter l r (j+1)->CV m s.heap.objs.size x y->m.objs.size=s.heap.objs.size+1->Kz z TO g l s.heap m->Q (.ref s.heap.objs.size) {s with heap:=m}):
  A6 (model pg wd) A (HP.«zip.__next__» #[[.ref z],[]]) (λf s'=>∃v,f=.done (.ret v)/\Q v s') Er s:=by
 show A6 _ _ (field (.ref z) 2 >>= _) _ _ _;refine AI (BQ t rfl (x:=.bool AC) rfl ?_);show A6 _ _ (field (.ref z) 3 >>= _) _ _ _;refine AI (BQ t rfl (x:=.ref TI) rfl ?_);refine AI (CF gI rfl ?_);show A6 _ _ (B0 (.ref z) >>= _) _ _ _;refine AI ?_;unfold B0;refine AI (BQ t rfl (x:=.none) rfl (AX ?_));erw[IF];refine AI (E8 ?_);refine AI (BQ t rfl (x:=.ref TO) rfl ?_);refine AI (C8 t (by simp) λha J sa=>?_)
 replace J:EN ha z TI TO .ellipsis:=J
 refine AI ?_;erw[GX,Gc,DB,Gr];refine AI (AI (F1 ?_));show A6 _ _ (BL (.ref g) >>= _) _ _ _;refine AI (zbt (tit_keep u1 λo e=>sa.extBut _ _ D.i1z e) (zbW t1 λo e=>sa.extBut _ _ D.l1z e) ex λhb ub sb=>AX ?_);have Y:CV hb TO a b:=sb.extBut _ _ D.TOi1 (sa.extBut _ _ D.TOz gO);refine AI (CF Y rfl ?_);refine AI (FJ Y λhc L n=>?_)
 replace L:CV hc TO x b:=L
 refine AI (wpAny_letGo (AX ?_));refine AI (AI (F1 ?_));show A6 _ _ (BL (.ref l) >>= _) _ _ _;refine AI (zbt (tit_keep u2 λo e=>n.extBut _ _ D.TOi2.symm (sb.extBut _ _ D.i12.symm (sa.extBut _ _ D.i2z e))) (zbW t2 λo e=>n.extBut _ _ D.l2TO (sb.extBut _ _ D.l2i1 (sa.extBut _ _ D.l2z e))) ey λhd ud sd=>AX ?_);have Z:CV hd TO x b:=sd.extBut _ _ D.TOi2 L;refine AI (CF Z rfl ?_);refine AI (FJ Z λd C u=>?_)
 replace C:CV d TO x y:=C
 refine AI (wpAny_letGo (AX (AX ?_)));refine AI (CF C rfl ?_);refine AI (wpAny_newTuple ?_);have sz:d.objs.size=s.heap.objs.size:=by rw[u.1,sd.1,n.1,sb.1,sa.1]
 have ze:EN d z TI TO .ellipsis:=u.extBut _ _ D.TOz.symm (sd.extBut _ _ D.i2z.symm (n.extBut _ _ D.TOz.symm (sb.extBut _ _ D.i1z.symm J)));have ke:Kz z TO g l s.heap d:=λc o E G M N e=>u.extBut _ _ G (sd.extBut _ _ N (n.extBut _ _ G (sb.extBut _ _ M (sa.extBut _ _ E e))));have v1:d.IsTupleIter g q (j+1):=tit_keep ub λo e=>u.extBut _ _ D.TOi1.symm (sd.extBut _ _ D.i12 (n.extBut _ _ D.TOi1.symm e));have v2:d.IsTupleIter l r (j+1):=tit_keep ud λo e=>u.extBut _ _ D.TOi2.symm e;have lz:z<d.objs.size:=A2 ze;show A6 _ _ (Ct (.ref z) (.ref d.objs.size) >>= _) _ _ _;refine AI ?_;unfold Ct;have zf:EN (d.push {cls:=.type "tuple",data:=.seq (Hx.toArray [x,y])}) z TI TO .ellipsis:=AU _ ze;refine AI (C8 zf (by simp) λhg O U=>?_)
 replace O:EN hg z TI TO (rawInt d.objs.size):=O
 refine C8 O (by simp) λw H X=>?_
 replace H:EN w z TI TO (rawInt d.objs.size):=H
 have I:∀c o,c≠z->d.get? c=AA o->w.get? c=AA o:=λc o p e=>X.extBut _ _ p (U.extBut _ _ p (AU _ e));have pn:CV w d.objs.size x y:=X.extBut _ _ (Cm lz) (U.extBut _ _ (Cm lz) (A5 _ rfl));have B:w.objs.size=d.objs.size+1:=by rw[X.1,U.1,Bl]
 rw[sz]at H pn B;refine AX #[_,rfl,?_];show Q (.ref d.objs.size) _;rw[sz];exact k w H (I _ _ D.TOz C) (tit_keep v1 λo e=>I _ o D.i1z e) (tit_keep v2 λo e=>I _ o D.i2z e) pn B λc o E G M N e=>I c o E (ke c o E G M N e)
def zhV{z TI TO d g l y}{j:Hy}{xs a b Q}(B:A.handled=AF)(D:GB z TI TO d g l y)
  (f:EN s.heap z TI TO .none) (C:CV s.heap TI (.ref d) (.ref g)) (U:CV s.heap TO a b) (E:s.heap.IsTupleIter d l j) (G:s.heap.IsTuple l xs) (ex:xs[j]?=AF)
  (k:∀m e,Kz z TO d g s.heap m->(∃o,m.get? e=AA o/\o.cls=.type "StopIteration")->Er (.ref e) {s with heap:=m}):
  A6 (model pg wd) A (HP.«zip.__next__» #[[.ref z],[]]) Q Er s:=by
 show A6 _ _ (field (.ref z) 2 >>= _) _ _ _;refine AI (BQ f rfl (x:=.bool AC) rfl ?_);show A6 _ _ (field (.ref z) 3 >>= _) _ _ _;refine AI (BQ f rfl (x:=.ref TI) rfl ?_);refine AI (CF C rfl ?_);show A6 _ _ (B0 (.ref z) >>= _) _ _ _;refine AI ?_;unfold B0;refine AI (BQ f rfl (x:=.none) rfl (AX ?_));erw[IF];refine AI (E8 ?_);refine AI (BQ f rfl (x:=.ref TO) rfl ?_);refine AI (C8 f (by simp) λH n sa=>?_)
 replace n:EN H z TI TO .ellipsis:=n
 refine AI ?_;erw[GX,Gc,DB,Gr];refine AI (AI (F1 ?_));show A6 _ _ (BL (.ref d) >>= _) _ _ _;refine AI (zdI B (tit_keep E λo e=>sa.extBut _ _ D.i1z e) (zbW G λo e=>sa.extBut _ _ D.l1z e) ex λI e sb J=>?_);let#[L,p,r]:=J;have t:EN I z TI TO .ellipsis:=sb _ _ D.i1z.symm n;have M:e≠z:=λq=>by subst q;rw[t]at p;cases p;simp at r
 exact C8 t (by simp) λN _ u=>k N e (λc o w _ O _ q=>u.extBut _ _ w (sb _ _ O (sa.extBut _ _ w q))) #[L,u.extBut _ _ M p,r]
theorem pyNext_zipT{z TI TO d f g l}{j:Hy}{xs ys x y a b}{Q:Option AH->AJ->Prop}(D:GB z TI TO d f g l)
  (m:EN s.heap z TI TO .none) (o:CV s.heap TI (.ref d) (.ref f)) (p:CV s.heap TO a b) (q:s.heap.IsTupleIter d g j) (r:s.heap.IsTupleIter f l j) (t:s.heap.IsTuple g xs) (u:s.heap.IsTuple l ys) (ex:xs[j]?=AA x) (w:ys[j]?=AA y)
  (k:∀c,EN c z TI TO (rawInt s.heap.objs.size)->CV c TO x y->c.IsTupleIter d g (j+1)->c.IsTupleIter f l (j+1)->CV c s.heap.objs.size x y->c.objs.size=s.heap.objs.size+1->Kz z TO d f s.heap c->Q (AA (.ref s.heap.objs.size)) {s with heap:=c}):
  A6 (model pg wd) A (pyNext (.ref z)) Q Er s:=by have n:s.TypeIs (.ref z) "zip":=#[_,m,rfl];unfold pyNext;exact AI (wpAny_attempt (B5 (name:=AE "__next__") n Db (CZ Db n GY (zfQ D m o p q r t u ex w λc B C E G H I J=>AX (k c B C E G H I J)) (GE _))))
theorem pyNext_zipE{z TI TO c d f n}{j:Hy}{xs a b}{Q:Option AH->AJ->Prop}(p:A.handled=AF)(D:GB z TI TO c d f n)
  (l:EN s.heap z TI TO .none) (q:CV s.heap TI (.ref c) (.ref d)) (r:CV s.heap TO a b) (t:s.heap.IsTupleIter c f j) (u:s.heap.IsTuple f xs) (ex:xs[j]?=AF)
  (k:∀g,Kz z TO c d s.heap g->Q AF {s with heap:=g}):A6 (model pg wd) A (pyNext (.ref z)) Q Er s:=by have m:s.TypeIs (.ref z) "zip":=#[_,l,rfl];unfold pyNext;refine AI (wpAny_attempt (B5 (name:=AE "__next__") m Db (CZ Db m GY (zhV p D l q r t u ex λg e w x=>?_) (GE _))));let#[o,y,B]:=x;exact AI (GL (T:="StopIteration") (b:=AD) #[o,y,B] isSubtype_stop (AX (k _ w)))
end
abbrev ti(l:AK):Obj:={cls:=.type "tuple_iterator",data:=.fields (Hx.toArray [.ref l,.int 0 0])}
abbrev yet(h:Au)(a:AK):Heap:=h.push (ti a)
abbrev yew(h:Au)(a b:AK):Heap:=(yet h a).push (ti b)
abbrev yeL(h:Au)(a b:AK):Heap:=(yew h a b).push {cls:=.type "tuple",data:=.seq (Hx.toArray [.ref h.objs.size,.ref (yet h a).objs.size])}
abbrev yeY(h:Au)(a b:AK):Heap:=(yeL h a b).push {cls:=.type "tuple",data:=.seq (Hx.toArray [.none,.none])}
abbrev yb2(h:Au)(a b:AK):Heap:=(yeY h a b).push {cls:=.type "zip",data:=.fields (Hx.toArray [.none,.bool AC,.bool AC,.ref (yew h a b).objs.size,.ref (yeL h a b).objs.size])}
def zfo(a b)(xs ys:IP AH):
  Meets (HP.«zip.__new__» #[[.type "zip",.ref a,.ref b],[]]) (λ_ R s=>s.heap.IsTuple a xs/\s.heap.IsTuple b ys/\R (.ok (.ret (.ref (yeY s.heap a b).objs.size))) {s with heap:=yb2 s.heap a b}):=
 .of_wp λc w A R s h=>by
  let#[f,g,d,j,os]:=s;let#[m,n,h]:=h;have l:=sub_zip;have p:Fu (G5 #[f,g,d,j,os]) a xs:=m;have q:Fu (G5 #[f.push (ti a),g,d,j,os]) b ys:=zbW n λo e=>AU _ e
  wp_walk using CL p,CL q
  exact#[_,rfl,h]
theorem call_zipT{pg wd A w}{s:AJ}{a c xs ys}{Q:AH->AJ->Prop}(x:s.heap.IsTuple a xs)(y:s.heap.IsTuple c ys)
  (k:∀f,EN f (s.heap.objs.size+4) (s.heap.objs.size+2) (s.heap.objs.size+3) .none->CV f (s.heap.objs.size+2) (.ref s.heap.objs.size) (.ref (s.heap.objs.size+1))->CV f (s.heap.objs.size+3) .none .none->f.IsTupleIter s.heap.objs.size a 0->f.IsTupleIter (s.heap.objs.size+1) c 0 ->
   (∀b o,s.heap.get? b=AA o->f.get? b=AA o)->Q (.ref (s.heap.objs.size+4)) {s with heap:=f}):A6 (model pg wd) A (call (.type "zip") [.ref a,.ref c]) Q w s:=by
 refine callType_new F.called_zip ⋯ (F.typeCall_zip_2 _ _) (F.newCall_zip_2 _ _) (λg=>F.args_object_init_3 g _ _) F.entry_zip_new (zfo a c xs ys) #[x,y,?_];have j:(yet s.heap a).objs.size=s.heap.objs.size+1:=Bl ..;have l:(yew s.heap a c).objs.size=s.heap.objs.size+2:=by rw[Bl,j]
 have m:(yeL s.heap a c).objs.size=s.heap.objs.size+3:=by rw[Bl,l]
 have p:(yeY s.heap a c).objs.size=s.heap.objs.size+4:=by rw[Bl,m]
 have d:∀{h:Au} {o:Be} {b:AK} {u:Be},h.get? b=AA u->(h.push o).get? b=AA u:=λe=>AU _ e;have n:(yb2 s.heap a c).get? (yeY s.heap a c).objs.size=AA _:=A5 _ rfl;have q:(yb2 s.heap a c).get? (yeL s.heap a c).objs.size=AA _:=d (A5 _ rfl);have r:(yb2 s.heap a c).get? (yew s.heap a c).objs.size=AA _:=d (d (A5 _ rfl));have t:(yb2 s.heap a c).get? (yet s.heap a).objs.size=AA _:=d (d (d (A5 _ rfl)));have z:(yb2 s.heap a c).get? s.heap.objs.size=AA _:=d (d (d (d (A5 _ rfl))));rw[l,m,p]at n;rw[j,l]at r;rw[m]at q;rw[j]at t;show _/\_;rw[p];exact#[#[_,n,rfl],k _ n r q #[_,z,rfl,rfl] #[_,t,rfl,rfl] λb o e=>d (d (d (d (d e))))]
end WE
namespace L2
open PySem PySem.Spec PyProof.Rows
def Itz(K:AG)(a b:AK):It:=
 #[λi H=>∃c d x y,SqT K H a c/\SqT K H b d/\c[i]?=AA x/\d[i]?=AA y,λi H v f=>∃T,H T=AF/\v=.ref T/\∀c d x y,SqT K H a c->SqT K H b d->c[i]?=AA x->d[i]?=AA y->f=upd H T (.tup [x,y]),λi H=>∃c,SqT K H a c/\c.length=i]
def zhE{P w K es}{kk:Hy}{pos}(z TI TO t C a b)(D:GB z TI TO t C a b):
  Turn P w K (.Tuple es kk pos) (Itz K a b) [z,TI,TO,t,C] z (λi h=>EN h z TI TO .none/\CV h TI (.ref t) (.ref C)/\(∃p q,CV h TO p q)/\h.IsTupleIter t a i/\h.IsTupleIter C b i) where
 mem:=by simp
 obj:=λi h st c g=>by
  let#[j,l,#[p,q,n],#[o3,r,_,d3],#[o4,G,_,d4]]:=st;erw[AV,A9,II]at g;rcases g with rfl|rfl|rfl|rfl|rfl
  .exact#[_,j,λv y=>nomatch y]
  .exact#[_,l,λv y=>nomatch y]
  .exact#[_,n,λv y=>nomatch y]
  .exact#[o3,r,λv y=>by rw[d3]at y;cases y]
  .exact#[o4,G,λv y=>by rw[d4]at y;cases y]
 keep:=λi h h' st k=>by let#[j,l,#[p,q,n],r,G]:=st;exact#[k z (by simp) _ j,k TI (by simp) _ l,#[p,q,k TO (by simp) _ n],WE.tit_keep r λo e=>k t (by simp) o e,WE.tit_keep G λo e=>k C (by simp) o e]
 item:=by
  intro X O U Y g i B s A H E I hf st Z;subst O U Y;let#[xs,ys,x,y,m,L,hx,hy]:=Z;let#[its,rv,p1,_]:=I.tuple m;let#[jts,rw',p2,_]:=I.tuple L;let#[j,l,#[p,q,n],r,G]:=st;let#[u,hu,ru]:=rv.get hx;let#[v,hv,rv2]:=rw'.get hy;refine WE.pyNext_zipT D j l n r G p1 p2 (by simpa using hu) (by simpa using hv) λh1 a1 a2 a3 a4 a5 a6 a7=>#[_,rfl,?_];refine wpAny_letOwnedTupleGo_zip a1 λh2 b1 J=>?_;have lt:∀{c o},s.heap.get? c=AA o->s.heap.objs.size≠c:=λe=>Cm (A2 e);have hTz:s.heap.objs.size≠z:=lt j;have hch:∀c o,c∉[z,TI,TO,t,C]->s.heap.get? c=AA o->h2.get? c=AA o:=λc o f e=>J.extBut _ _ (λd=>f (by simp[d])) (a7 c o (λd=>f (by simp[d])) (λd=>f (by simp[d])) (λd=>f (by simp[d])) (λd=>f (by simp[d])) e);have new:yN X.prog X.w (upd H s.heap.objs.size (.tup [x,y])) h2 s.heap.objs.size (.tup [x,y]):=#[by show 2<=sizeLine;decide,[u,v],.cons ru (.cons rv2 .nil),J.extBut _ _ hTz a5];have I2:=I.turnLaid (t':=s.toks) hf hch (AS _) new;have gI:CV h1 TI (.ref t) (.ref C):=a7 _ _ D.TIz D.TITO D.TIi1 D.TIi2 l;refine#[.ref s.heap.objs.size,_,I2,rfl,#[s.heap.objs.size,I.hok.fresh (AS _),rfl,λxs' ys' x' y' hx1 hy1 M N=>?_],#[b1,J.extBut _ _ D.TIz gI,#[_,_,J.extBut _ _ D.TOz a2],WE.tit_keep a3 λo e=>J.extBut _ _ D.i1z e,WE.tit_keep a4 λo e=>J.extBut _ _ D.i2z e],λc g=>?_]
  .rw[I.tuple_inj hx1 m,hx]at M;rw[I.tuple_inj hy1 L,hy]at N
   cases M
   cases N
   rfl
  .have hne:c≠s.heap.objs.size:=λd=>by
    subst d;let#[o3,e3,_]:=r;let#[o4,e4,_]:=G;erw[AV,A9,II]at g;rcases g with d | d | d | d | d
    .exact lt j d
    .exact lt l d
    .exact lt n d
    .exact lt e3 d
    .exact lt e4 d
   rw[zk hne];exact(hf c g).1
 done:=by intro X O U Y g i B s A H E I hf st Z;subst O U Y;let#[xs,m,hx]:=Z;let#[its,rv,p1,_]:=I.tuple m;let#[j,l,#[p,q,n],r,G]:=st;have hl:=rv.length;refine WE.pyNext_zipE (I.ok.hd g) D j l n r p1 (by simp;lia) λh' kz=>#[rfl,I.turnedL (t':=s.toks) hf λc o f e=>kz c o (λd=>f (by simp[d])) (λd=>f (by simp[d])) (λd=>f (by simp[d])) (λd=>f (by simp[d])) e]
 self:=λ_ _ _ _ _ st q=>GZ st.1 q
def yf3(K:AG)(d:TA):TI:=λA H R=>d A H λf c=>∃a b,f=[.ref a,.ref b]/\(∃g,SqT K c a g)/\(∃j,SqT K c b j)/\R (Itz K a b) c
def zj9{X}{a b:AW}{es}{C:Hy}{D x}{p pos:Bf}(E:Gl X "zip")(G:X.mg "zip"=AF)(J:PA X [a,b] x)(L:starEach [a,b] X.env=[(AC,eval a X.env),(AC,eval b X.env)]:=by rfl)(f:starEach [b] X.env=[(AC,eval b X.env)]:=by rfl):
  PI X (.Tuple es C D) (.Call (.Name "zip" p) [a,b] [] pos) (yf3 X.K x):=by
 intro B s A H R I h;refine BM (zbH I E G boot_zip ?_);refine BS (thn (J pos B s A H _ I h) λus d kq=>?_) (by rw[L,f]) (by rw[f];rfl);let#[vs,M,g,N,O]:=kq;let#[o,t,rfl,#[xs,u],#[ys,w],q]:=O
 cases N with
 |cons r U=>
  cases U with
  |cons Y Z=>
   cases Z
   cases (show _=Al o from r)
   cases (show _=Al t from Y)
   let#[its,rv,j,_]:=g.tuple u;let#[jts,rv2,l,_]:=g.tuple w;have b1:o<d.heap.objs.size:=by let#[_,e,_]:=j;exact A2 e
   have b2:t<d.heap.objs.size:=by let#[_,e,_]:=l;exact A2 e
   refine WE.call_zipT j l λh1 y g1 g2 g3 g4 kp=>?_;refine GZ y ?_;refine#[_,[d.heap.objs.size+4,d.heap.objs.size+2,d.heap.objs.size+3,d.heap.objs.size,d.heap.objs.size+1],_,_,M,rfl,g.kept (t':=d.toks) kp,zhE _ _ _ _ _ o t (zipApart_new b1 b2),#[y,g1,#[_,_,g2],g3,g4],λc z=>?_,q];have m:d.heap.objs.size<=c:=by
    erw[AV,A9,II]at z;rcases z with n | n | n | n | n<;>subst n
    .exact Cp _ 4
    .exact Cp _ 2
    .exact Cp _ 3
    .exact AS _
    .exact Cp _ 1
   exact g.fpOk m (g.hok.fresh m)
end L2
namespace L2
open PySem PySem.Spec PyProof.Rows IC
inductive yb5(K:AG)(cl:Hy->AK)(w:Ae):Hx (AT×PV)->Hx CB->Prop
 |nil:yb5 K cl w [] []
 |cons {k:AT} {v:PV} {t:Hn} {u:AH} {x:V} {D:Hx (AT×PV)} {es:Hx CB} (hr:RelV x u) (hv:∀B A H,yd K cl B A H v x) (h:yb5 K cl w D es):yb5 K cl w ((k,v)::D) (#[EB w.params k,.str k t,u] :: es)
def GD(K:AG)(w:Ae)(b:AT->Option AH)(c:Hy->AK)(x:AT)(D:Hx (AT×PV)):Prop:=
 ∃(y:AK) (a:IP CB) (d:Hy),b x=AA (.ref y)/\K.lookup y=AA #[.type "dict",AF,.dict a d,(Hx.toArray [])]/\(y==sysModules)=AC/\yb5 K c w D a.toList/\(D.map (·.1)).Nodup
theorem yb5.pairs{K:AG}{c:Hy->AK}{P:A4}{w:Ae}{D:Hx (AT×PV)}{es:Hx CB}(h:yb5 K c w D es):
  ∃vs:Hx (AT×AH),Pairs (strKind P w) es vs/\(∀e∈es,∃k,(strKind P w).is k e.key=AD/\e.hash=(strKind P w).hash k)/\vs.map (·.1)=D.map (·.1) /\
   (∀s,(valueAt vs s).isSome=(yaG s D).isSome)/\∀s v,yaG s D=AA v->∃u x,valueAt vs s=AA u/\RelV x u/\∀B A H,yd K c B A H v x:=by
 induction h with
 |nil=>exact#[[],.nil,λe a=>(by cases a),rfl,λs=>rfl,λs v e=>by cases e]
 |@cons k v t u x D es d f h ih=>
  let#[vs,g,j,l,m,n]:=ih;have b:∀s,valueAt ((k,u)::vs) s=if k=s then AA u else valueAt vs s:=λs=>by
   unfold valueAt;rw[Bu]
   by_cases e:k=s
   .simp[e]
   .simp[e]
  refine#[(k,u)::vs,.cons (DX P w k t) rfl g,λe a=>?_,by rw[AN,AN,l],λs=>?_,λs o e=>?_]
  .rcases AV.1 a with rfl|a
   .exact#[k,DX P w k t,rfl]
   .exact j e a
  .rw[b,yaG]
   by_cases e:k=s
   .rw[ID e,ID (by simpa using e)];rfl
   .rw[IE e,IE (by simpa using e),m]
  .rw[yaG]at e;rw[b]
   by_cases q:k=s
   .rw[ID (by simpa using q)]at e
    cases e
    exact#[u,x,by rw[ID q],d,f]
   .rw[IE (by simpa using q)]at e;let#[p,r,y,z,C]:=n s o e;exact#[p,r,by rw[IE q];exact y,z,C]
section
variable {S:Se}{X:Cx}{C:St}{B:AK->Prop}{A:Ph}{H:Hp}{st:SO}{pos p:Bf}{a b i:AW}{ca cb:Ce}{x:AT}{D:Hx (AT×PV)}{ty:TE}
def zgR{y:AK}{es}{a:Hy}{E s}(I:Inv X E C H s)(b:X.K.lookup y=AA #[.type "dict",AF,.dict es a,(Hx.toArray [])])(c:(D.map (·.1)).Nodup){vs}(d:Pairs (strKind X.prog X.w) es.toList vs)
  (f:∀e∈es.toList,∃k,(strKind X.prog X.w).is k e.key=AD/\e.hash=(strKind X.prog X.w).hash k) (g:vs.map (·.1)=D.map (·.1)):s.heap.DictOf (strKind X.prog X.w) y vs:=
 #[_,es,a,I.kIn y _ b,#[rfl,rfl,rfl],rfl,λe j=>f e (by simpa using j),d,by rw[g];exact c]
def ydY(S:Se)(X:Cx)(D:Hx (AT×PV))(ty:TE):TE:=λC H Q=>ty C H λz b=>∃s v,z=.str s/\yaG s D=AA v/\∀a,(∀B A H,yd X.K S.cl B A H v a)->Q a b
def zkN(m:Gl X x)(h:GD X.K X.w X.mg S.cl x D)(hi:PE X i ty)(n:ycO i)(o:(x==("__debug__":AT))=false:=by decide):PE X (.Subscript (.Name x p) i pos) (ydY S X D ty):=by let#[y,es,ep,q,r,w,G,J]:=h;let#[vs,L,M,N,h4,O]:=G.pairs (P:=X.prog);intro E s C H Q I U;refine zfR EI.lookup n (thn (zca (v:=.ref y) m q rfl o E s C H (λz b=>z=.ref y/\ty C b λz c=>∃s v,z=.str s/\yaG s D=AA v/\∀a,(∀B A H,yd X.K S.cl B A H v a)->Q a c) I #[rfl,U]) λu Y kq=>?_);let#[z,b,Z,rz,ez,q1]:=kq;refine thn (hi E Y C b _ Z q1) λiv s2 kq=>?_;let#[z2,c,g,d,j,v,f,e,q2]:=kq;subst ez;subst f;obtain rfl:u=Al y:=rz;let#[t,rfl]:=d;have l:=zgR g r J L M N;let#[u',a,e1,e2,e3]:=O j v e;exact#[l.typeIs,G0 (DX X.prog X.w j t) l.mapOf e1 #[a,c,g.tok _,e2,q2 a e3]]
def zmi(d:Gl X x)(h:GD X.K X.w X.mg S.cl x D)(f:PE X b (tE S X cb))(g:ycO b:=by exact λ_ _=>rfl)(j:(x==("__debug__":AT))=false:=by decide):PE X (.Subscript (.Name x p) b pos) (tE S X (.dix D cb)):=
 (zkN d h f g j).imp λC H Q #[B,A,st,U,l,m,h]=>by
  erw[ev]at h;refine tE.bind l m h λz n v o A1 G a r c t=>?_;let#[w,e,q]:=zac t a
  cases v with
  |str u=>
   erw[yd]at c;exact#[u,w,c,e,λy E=>q y n A1 .rfl a (E _ _ _)]
  |_=>cases e
def yf9(y:AK)(D:Hx (AT×PV)):R2:=λx z H Q=>z=.ref y/\∃s,x=.str s/\Q (.bl (yaG s D).isSome) H
theorem PC.imp{c:De}{a b:AW}{t t':TE}(h:PC X c a b t)(k:∀C H Q,t' C H Q->t C H Q):PC X c a b t':=λE s C H Q I q=>h E s C H Q I (k C H Q q)
def zo4{c r a b d f}(g:OpR X (compareOp c) r)(j:PE X a d)(l:PE X b f):PC X c a b (tOp r d f):=λE s C H Q I h=>
 thn (j E s C H _ I h) λv m #[x,n,o,p,q]=>thn (l E m C n _ o q) λu t #[y,w,z,A,B]=>g E t C w x y v u _ z p A B
def zn1{d a b c}(h:PC X d a b (tE S X c))(l:behindInMarks d b=AC)(m:∀U st v f,ev S.call U st c=.ok v f->∃k,v=.bl k):PT X (.Compare a [d] [b] pos) (tTs S X c):=
 (zm5 h l).imp λC H Q #[B,A,st,U,n,o,h]=>#[B,A,st,U,n,o,by
  cases e:ev S.call U st c with
  |bad=>rw[e]at h;exact h.elim
  |exc k s=>rw[e]at h;exact h
  |ok v s=>
   let#[k,rfl]:=m _ _ _ _ e;rw[e]at h;exact λx p q g j r=>#[k,by simpa only[yd] using r,h k p q g j rfl]]
def zmM{o}{st:SO}{v a}(e:toR o st=.ok v a)(h:∀v,o=AA v->∃k,v=.bl k):∃k,v=.bl k:=by
 cases o with
 |none=>cases e
 |some w=>cases e;exact h _ rfl
def zhj(l:Gl X x)(h:GD X.K X.w X.mg S.cl x D)(m:PE X a (tE S X ca))(n:(x==("__debug__":AT))=false:=by decide):PC X .In a (.Name x p) (tE S X (.din ca D)):=by
 let#[y,es,ep,d,o,f,r,G]:=h;let#[vs,g,J,L,M,h5]:=r.pairs (P:=X.prog);have N:OpR X (compareOp .In) (yf9 y D):=by intro E s C H z1 z2 v u Q I O Y #[Z,c,ex,q];subst Z;subst ex;obtain rfl:u=Al y:=Y;let#[t,rfl]:=O;have dd:=zgR I o G g J L;refine wpAny_in_of (DX X.prog X.w c t) f dd.mapOf #[.bl (yaG c D).isSome,H,I.tok _,?_,q];rw[M];rfl
 refine(zo4 N m (zca (v:=.ref y) l d rfl n)).imp λC H Q kq=>?_;let#[B,A,st,U,rs,re,h]:=kq;erw[ev]at h;refine tE.bind rs re h λz H1 v st1 A1 s1 b re1 j g=>?_;let#[w,e,q]:=zac g b
 cases v with
 |str c=>
  erw[yd]at j
  cases e
  exact#[rfl,c,j,q _ H1 A1 .rfl b (by erw[yd])]
 |_=>cases e
def zmt(b:Gl X x)(h:GD X.K X.w X.mg S.cl x D)(c:PE X a (tE S X ca))(d:behindInMarks .In (.Name x p)=false:=by ac_rfl)(f:(x==("__debug__":AT))=false:=by decide):PE X (.Compare a [.In] [.Name x p] pos) (tE S X (.din ca D)):=zme (zhj b h c f) d
def zl5(b:Gl X x)(h:GD X.K X.w X.mg S.cl x D)(c:PE X a (tE S X ca))(d:behindInMarks .In (.Name x p)=false:=by ac_rfl)(f:(x==("__debug__":AT))=false:=by decide):PT X (.Compare a [.In] [.Name x p] pos) (tTs S X (.din ca D)):=
 zn1 (zhj b h c f) d λU st v g e=>by
  erw[ev]at e;let#[y,s,_,e]:=zaB e;refine zmM e λw e=>?_
  cases y<;>first|(cases e;exact#[_,rfl])|cases e
def zdK:∀(xs ys:Hx PV) (i:Hy) {x y:PV},xs[i]?=AA x->ys[i]?=AA y->(yaW xs ys)[i]?=AA (.tup [x,y])
 |[],_,i,_,_,h,_=>by simp at h
 |_::_,[],i,_,_,_,h=>by simp at h
 |x::xs,y::ys,0,_,_,a,b=>by simp at a b;simp[yaW,a,b]
 |x::xs,y::ys,i+1,_,_,a,b=>by erw[AY]at a b;erw[yaW,AY];exact zdK xs ys i a b
def zdt:∀(xs ys:Hx PV),xs.length<=ys.length->(yaW xs ys).length=xs.length
 |[],_,_=>by simp[yaW]
 |_::_,[],h=>by simp at h
 |x::xs,y::ys,h=>by erw[yaW,AQ,zdt xs ys (by simpa using h)]
def zkK{k j vs a xs ys y z}(rt:ybv X.K B A H k y xs)(l:yg X.K S.cl B A H vs xs)(c:ybv X.K B A H j z ys)(p:yg X.K S.cl B A H a ys)(d:vs.length<=a.length):Drw S X B A H (yaW vs a) (Itz X.K y z):=by have N:=l.length;have I:=p.length;have O:=zdt vs a d;refine#[λr t s=>#[xs,(rt.step s).sq,()],λi r t s J=>#[xs,ys,xs[i]'(),ys[i]'(),(rt.step s).sq,(c.step s).sq,by simp[show i<xs.length by lia],by simp[show i<ys.length by lia]],λi r t st x U Y u s L J q=>?_];let#[T,C,rfl,q]:=q;obtain⟨v,D⟩:∃v,vs[i]?=AA v:=#[vs[i]'(),by simp[show i<vs.length by lia]];obtain⟨w,E⟩:∃w,a[i]?=AA w:=#[a[i]'(),by simp[show i<a.length by lia]];let#[G,f,M]:=l.get i D;let#[g,m,n]:=p.get i E;have e:=q xs ys G g (rt.step s).sq (c.step s).sq f m;subst e;refine#[.tup [v,w],zdK vs a i D E,.tup_new C L ?_,λb o e=>by rw[zk (zm e C)];exact e];erw[yg];exact#[G,[g],rfl,(M.moreB u).step s,g,[],rfl,(n.moreB u).step s,rfl]
def zlN{es}{z:Hy}{tp}(D:Gl X "zip")(E:X.mg "zip"=AF)(G:PE X a (tE S X ca))(I:PE X b (tE S X cb))(r:starEach [a,b] X.env=[(AC,eval a X.env),(AC,eval b X.env)]:=by rfl)(c:starEach [b] X.env=[(AC,eval b X.env)]:=by rfl):
  PI X (.Tuple es z tp) (.Call (.Name "zip" p) [a,b] [] pos) (tI S X (.zip ca cb)):=
 (zj9 D E (zJ G (zJ I zhz c) (by rw[r,c])) r c).imp λC H R #[B,A,st,U,J,L,h]=>by
  erw[IC.vjq0,IC.vjq1,IC.vjq2,IC.vjq3,IC.vjq4,IC.vjq5,IC.vjq6,IC.vjq7,IC.vjq8,IC.vjq9]at h;refine tE.bind J L h λx H1 v M A1 s1 g m t N=>tE.bind g m N λy H2 w O A2 n o Y rw q=>?_;let#[zs,e,q]:=zdf q
  cases v with
  |tp k Z=>
   cases w with
   |tp j ws=>
    erw[ye1]at e
    by_cases d:Z.length<=ws.length
    .rw[ID d]at e
     cases e
     erw[yd]at t rw;let#[a1,xs,rfl,u,l]:=t;let#[a2,ys,rfl,f,l2]:=rw;exact#[a1,a2,rfl,#[xs,(u.step n).sq],#[ys,f.sq],q.ok o (zkK (u.step n) (l.step n) f l2 d)]
    .rw[IE d]at e
     cases e
   |_=>cases e
  |_=>cases e
end
section
variable {K:AG}{cl:Hy->AK}{B:AK->Prop}{A:Ph}{H:Hp}{st:SO}
end
section
variable {S:Se}{X:Cx}{K:AG}{cl:Hy->AK}{C:St}{B:AK->Prop}{A A1:Ph}{H H1:Hp}{st:SO}{U:IC.Env}{pos p p2 px:Bf}{a b c o tg l elt iter:AW}{ca cb cc ce:Ce}{ci:Cit}{ct:Tg}
end
section
variable {K:AG}{cl:Hy->AK}{B:AK->Prop}{A:Ph}{H:Hp}{st:SO}
theorem FS.lookup{f:AT}:∀{fs:Hx (AT×PV)} {a:Hx (AT×V)},FS K cl B A H fs a->(∀v,fs.lookup f=AA v->∃x,a.lookup f=AA x/\yd K cl B A H v x)/\(fs.lookup f=AF->a.lookup f=AF)
 |[],a,h=>by
  cases (show a=[]from h)
  exact#[nofun,λ_=>rfl]
 |(k,v)::r,a,h=>by
  let#[x,s,rfl,b,l]:=h;let#[c,d]:=FS.lookup (f:=f) l;erw[CS]
  cases e:f==k with
  |true=>exact#[λw z=>by cases z;exact#[x,rfl,b],λz=>by cases z]
  |false=>exact#[c,d]
theorem FS.put{f:AT}{v:PV}{x:V}(r:yd K cl B A H v x):∀{fs:Hx (AT×PV)} {a:Hx (AT×V)},FS K cl B A H fs a->FS K cl B A H (ybD f v fs) (yaT f x a)
 |[],a,h=>by
  cases (show a=[]from h)
  exact#[x,[],rfl,r,rfl]
 |(k,w)::q,a,h=>by
  let#[y,s,rfl,b,l]:=h;erw[ybD,yaT]
  by_cases c:k=f
  .rw[ID c,ID c];exact#[x,s,rfl,r,l]
  .rw[IE c,IE c];exact#[y,_,rfl,b,FS.put r l]
theorem FS.len:∀{fs:Hx (AT×PV)} {a:Hx (AT×V)},FS K cl B A H fs a->fs.length=a.length
 |[],a,h=>by cases (show a=[]from h);rfl
 |(k,w)::q,a,h=>by let#[y,s,rfl,b,l]:=h;simp[FS.len l]
theorem yr.ins{n c:Hy}{fs:Hx (AT×PV)}{x:V}(rs:yr K cl B A H st)(r:yd K cl B A H (.loc n) x)(h:st[n]?=AA (.ins c fs)):∃y b d,x=.ref y/\A[n]?=AA (AA y)/\H y=AA (.ins (cl c) d b)/\FS K cl B A H fs b:=by
 erw[yd]at r;let#[p,y,rfl,j]:=r;let#[a,f]:=rs.liv n _ h (by intro z;cases z);let#[o,g,m]:=rs.obj n a f;have e:=j a f;subst e;rw[h]at g
 cases g
 let#[b,#[d,q],l]:=m;exact#[a,b,d,rfl,f,q,l]
end
section
variable {S:Se}{X:Cx}{J:St}{B:AK->Prop}{G G1:Ph}{H H1:Hp}{st:SO}{U:IC.Env}{p pos pos' p2 apos:Bf}{a b d o e:AW}{ca cb cc:Ce}{es:Hx AW}{ces:Ces}{c i k:Hy}{f m x:AT}{fa:AK}{fd:Av}{ps:Hx AT}
def zev{st x v}(h:yax c st x f=AA v):∃n fs,x=.loc n/\st[n]?=AA (.ins c fs)/\fs.lookup f=AA v:=by
 cases x with
 |loc n=>
  erw[yax]at h;split at h
  .rename_i a fs e;split at h
   .rename_i q;subst q;exact#[n,fs,rfl,e,h]
   .cases h
  .cases h
 |_=>cases h
def zeC{st a}{x v:PV}(h:yaX c st x f v=AA a):∃n fs,x=.loc n/\st[n]?=AA (.ins c fs)/\fs.length<1000/\a=st.set n (.ins c (ybD f v fs)):=by
 cases x with
 |loc n=>
  erw[yaX]at h;split at h
  .rename_i d fs e;split at h
   .rename_i q;let#[q,b]:=q;subst q
    cases h
    exact#[n,fs,rfl,e,b,rfl]
   .cases h
  .cases h
 |_=>cases h
def zhO{st}{x:PV}{t}(h:ybS c m st x=AA t):∃n fs,x=.loc n/\st[n]?=AA (.ins c fs)/\fs.lookup m=none:=by
 cases x with
 |loc n=>
  erw[ybS]at h;split at h
  .rename_i b fs e;split at h
   .rename_i q;let#[q,a]:=q;subst q;exact#[n,fs,rfl,e,a]
   .cases h
  .cases h
 |_=>cases h
def zmC(g:Cls X.K (S.cl c))(j:yam X.K (S.cl c) f)(m:PE X a (tE S X ca))(o:attributeBase a f X.env (eval a X.env)=eval a X.env:=by rfl):PE X (.Attribute a f pos) (tE S X (.fld c ca f)):=
 (zmD m o).imp λJ H Q #[B,G,st,U,p,r,h]=>by erw[ev]at h;refine tE.bind p r h λx H1 v t G1 N b u w A=>?_;let#[z,e,q]:=zac A b;let#[n,fs,rfl,d,l]:=zev e;let#[y,C,D,rfl,_,E,I]:=b.ins w d;let#[x,L,M]:=I.lookup.1 z l;exact#[y,S.cl c,D,C,x,rfl,E,g,j,L,q x H1 G1 .rfl b M]
def zlG(C:Cls X.K (S.cl c))(E:yam X.K (S.cl c) f)(I:PE X a (tE S X ca))(L:PE X b (tE S X cb))(M:swapsWith b (AA (.Attribute a f pos')) pos.line X.env=pure false:=by rfl):PS X (.Assign [.Attribute a f pos'] b pos) (tS S X (.sfl c ca f cb)):=
 (znw I L M).imp λD J H #[B,G,st,U,N,O,h]=>by
  erw[ex]at h;refine tE.fl N O h λY H1 v Z G1 s1 j l rv h1=>tE.fl j l h1 λx' u x m G2 s2 d p rx g=>?_
  cases e:yaX c m x f v with
  |none=>rw[e]at g;exact g.elim
  |some st4=>
   rw[e]at g;let#[n,fs,rfl,q,hl,rfl]:=zeC e;let#[y,w,r,rfl,z,hy,A]:=d.ins rx q;refine#[y,S.cl c,r,w,rfl,hy,C,E,by rw[<-A.len];exact hl,?_];have t:Step G2 u G2 (L2.upd u y (.ins (S.cl c) r (yaT f Y w))):=.put (A3 z);exact g J _ G2 t (d.put (o:=.ins c (ybD f v fs)) z #[_,#[r,zo],(FS.put (rv.step s2) A).step t]) (p.step t)
theorem noX:yba (CX1 X.prog X.w) X (λ_ _ _=>IK):=λL J H s e a _ z=>by let#[_,_,_,_,_,_,_,_,_,_,_,_,_,_,z]:=z;exact z.elim
def zdQ{vs xs Q}{rs:yr X.K S.cl B G H st}(l:yg X.K S.cl B G H vs xs)(h:Run S X J B G H (RV S X B) ((ya7 (S.call i (.loc st.length::vs) (st++[.ins c []]))).bind λv g=>newV st.length v g) Q):
  ∀x a,H x=AF->H a=AF->a≠x->spI X.K S.cl S.call i (.ref x::xs) (L2.upd (L2.upd H a (.own x)) x (.ins (S.cl c) a [])) (λv t=>v=.non/\Q (.ref x) t) (λ_ _ _=>IK):=by
 intro x a u f w;have b:L2.upd H a (.own x) x=none:=by rw[zk (BI w)];exact u
 have n:Step G H G (L2.upd H a (.own x)):=.upd f;have d:=rs.upd (o:=.own x) f;have p:Step G (L2.upd H a (.own x)) (G++[AA x]) (L2.upd (L2.upd H a (.own x)) x (.ins (S.cl c) a [])):=.push b;have j:=d.push b (d.nB b) (o:=.ins c []) #[[],#[a,zo],rfl];have q:yd X.K S.cl B (G++[AA x]) (L2.upd (L2.upd H a (.own x)) x (.ins (S.cl c) a [])) (.loc st.length) (.ref x):=.loc_new d;refine#[B,G++[AA x],st++[.ins c []],.loc st.length::vs,j,?_,?_]
 .simp only[yg];exact#[.ref x,xs,rfl,q,(l.step n).step p]
 .cases e:S.call i (.loc st.length::vs) (st++[.ins c []])with
  |ok v y=>
   rw[e]at h;erw[ya7,R.bind]at h
   cases v with
   |non=>
    intro z A C s m r;erw[yd]at r;exact#[r,h (.ref x) A C ((n.trans p).trans s) m (q.step s)]
   |_=>exact h.elim
  |exc k s=>rw[e]at h;exact h.elim
  |bad=>rw[e]at h;exact h.elim
def znD(M:Mk X.K (S.cl c) fa)(F:yaA X.prog X.w X.K X.mg X.base (CX1 X.prog X.w) k fa fd ps (spI X.K S.cl S.call i))(f:yaq (k+1) X.A)(g:Gl X x)(j:X.mg x=AA (.ref (S.cl c)))(l:Binds X.K fd ps [])
  (m:PA X (e::es) (tAs S X ces)) (a:(x==("__debug__":AT))=false:=by decide) (n:starEach (e::es) X.env=(AC,eval e X.env)::starEach es X.env:=by rfl) (b:(backTo pos (starEach es X.env)).any (·.1)=false:=by rfl):
  PE X (.Call (.Name x p) (e::es) [] pos) (tE S X (.new c i ces)):=
 (zkd M F f g j l .nil noX m a n b).imp λJ H Q #[B,G,st,U,rs,o,h]=>by erw[ev]at h;refine tAs.bind rs o h λw H1 y q G1 z d r t u=>?_;rw[Bt];exact zdQ (rs:=d) t u
def ybL(CX:CXT)(X:Cx)(C:AK)(m:AT)(sp:Sp)(c:TE)(t:TA):TE:=λJ H Q=>c J H λx H1=>∃y d fs,x=.ref y/\H1 y=AA (.ins C d fs)/\fs.lookup m=AF/\t J H1 λf a=>∃E:XK,sp (.ref y::f) a Q E/\∀L s e b,Inv X L J a s->CX X.stack a s E e b->X.xe e b
def ziK{CX sp C g t pl}(w:PE X o g)(c:Cls X.K C)(j:Meth X.K C m fa)(F:yaA X.prog X.w X.K X.mg X.base CX k fa fd ps sp)(A:yaq k X.A)(B:Binds X.K fd ps [])(D:PA X (e::es) t)
  (a:starEach (e::es) X.env=(AC,eval e X.env)::starEach es X.env:=by rfl) (b:(backTo pos (starEach es X.env)).any (·.1)=false:=by rfl)
  (G:eval (.Call (.Attribute o m apos) (e::es) [] pos) X.env=(do
   let n <-eval o X.env
   standAt apos.atName
   let (f,first) <-holding [n] (getMethod n m pl)
   callWith pos f first (backTo pos (starEach (e::es) X.env)) (backToKw pos (keywordEach [] X.env))):=by rfl):
  PE X (.Call (.Attribute o m apos) (e::es) [] pos) (ybL CX X C m sp g t):=by intro L s J H Q I h;refine Ey (pl:=pl) (thn (w L s J H _ I h) λu M kq=>?_) G;let#[x,H1,p,N,y,dx,fs,ex,O,l,q]:=kq;subst ex;obtain rfl:u=Al y:=N;refine zcZ p O c j l ?_;refine DD (first:=[.ref y]) (h₀:=X.base) I.ok.mod.kin j.kp (thn (D pos L M J H1 _ p q) λus U kq=>?_) a b;let#[vs,H2,d,r,E,Y,Z]:=kq;refine #[d.kIn,?_];exact zb2 (us:=.ref y::us) (vs:=.ref y::vs) F A B .nil d (.cons rfl r) (by rw[Bt];exact Y) λe s' z=>Z L U e s' d z
def zgy{CX sp C b pl}(j:PE X o b)(c:Cls X.K C)(d:Meth X.K C m fa)(F:yaA X.prog X.w X.K X.mg X.base CX k fa fd ps sp)(n:yaq k X.A)(p:Binds X.K fd ps [])
  (q:eval (.Call (.Attribute o m apos) [] [] pos) X.env=(do
   let g <-eval o X.env
   standAt apos.atName
   let (f,first) <-holding [g] (getMethod g m pl)
   callWith pos f first (backTo pos (starEach [] X.env)) (backToKw pos (keywordEach [] X.env))):=by rfl):
  PE X (.Call (.Attribute o m apos) [] [] pos) (ybL CX X C m sp b yct):=by intro L s J H Q I h;refine Ey (pl:=pl) (thn (j L s J H _ I h) λu r kq=>?_) q;let#[x,H1,a,t,y,G,fs,ex,w,l,E,A,B]:=kq;subst ex;obtain rfl:u=Al y:=t;refine zcZ a w c d l ?_;exact Dh (first:=[.ref y]) a.kIn d.kp (zb2 (us:=[.ref y]) (vs:=[.ref y]) F n p .nil a (.cons rfl .nil) A λe D z=>B L r e D a z)
def zds{Q:VK}{t:TA}(w:∀{H1 G1}{a:SO}{P:Hx V->Hp->Prop}{r},yr X.K S.cl B G1 H1 a->yF X.K S.cl B G1 H1 U J->Run S X J B G1 H1 (RV S X B) ((evs S.call U a ces).bind r) Q ->
   (∀l f vs d G2,Step G1 H1 G2 f->yr X.K S.cl B G2 f d->yF X.K S.cl B G2 f U J->yg X.K S.cl B G2 f vs l->Run S X J B G2 f (RV S X B) (r vs d) Q->P l f)->t J H1 P)
  (rs:yr X.K S.cl B G H st) (z:yF X.K S.cl B G H U J) (h:Run S X J B G H (RV S X B) ((ev S.call U st ca).bind λx a=>onO (ybS c m a x) λ_=>(evs S.call U a ces).bind λvs d=>S.call i (x::vs) d) Q):
  ybL (CX1 X.prog X.w) X (S.cl c) m (spI X.K S.cl S.call i) (tE S X ca) t J H Q:=by
 refine tE.bind rs z h λx H1 v a G1 Z g o u j=>?_
 cases q:ybS c m a v with
 |none=>rw[q]at j;exact j.elim
 |some b=>
  rw[q]at j;erw[onO]at j;let#[n,fs,rfl,A,C]:=zhO q;let#[y,D,E,rfl,_,I,L]:=g.ins u A;refine#[y,E,D,rfl,I,L.lookup.2 C,w g o j λl f vs d G2 M p N O Y=>?_];exact zaH p (by erw[yg];exact#[.ref y,l,rfl,u.step M,O]) Y
def zno{pl}(l:Cls X.K (S.cl c))(p:Meth X.K (S.cl c) m fa)(F:yaA X.prog X.w X.K X.mg X.base (CX1 X.prog X.w) k fa fd ps (spI X.K S.cl S.call i))(q:yaq k X.A)(r:Binds X.K fd ps [])
  (t:PE X o (tE S X ca)) (u:PA X (e::es) (tAs S X ces))
  (a:starEach (e::es) X.env=(AC,eval e X.env)::starEach es X.env:=by rfl) (b:(backTo pos (starEach es X.env)).any (·.1)=false:=by rfl)
  (w:eval (.Call (.Attribute o m apos) (e::es) [] pos) X.env=(do
   let j <-eval o X.env
   standAt apos.atName
   let (f,first) <-holding [j] (getMethod j m pl)
   callWith pos f first (backTo pos (starEach (e::es) X.env)) (backToKw pos (keywordEach [] X.env))):=by rfl):
  PE X (.Call (.Attribute o m apos) (e::es) [] pos) (tE S X (.mcl c i m ca ces)):=
 (ziK t l p F q r u a b w).imp λJ H Q #[B,G,st,U,x,y,h]=>by erw[ev]at h;exact zds (λd g z n=>tAs.bind d g z n) x y h
def zkJ{pl}(l:Cls X.K (S.cl c))(p:Meth X.K (S.cl c) m fa)(F:yaA X.prog X.w X.K X.mg X.base (CX1 X.prog X.w) k fa fd ps (spI X.K S.cl S.call i))(q:yaq k X.A)(r:Binds X.K fd ps [])
  (u:PE X o (tE S X ca))
  (w:eval (.Call (.Attribute o m apos) [] [] pos) X.env=(do
   let g <-eval o X.env
   standAt apos.atName
   let (f,first) <-holding [g] (getMethod g m pl)
   callWith pos f first (backTo pos (starEach [] X.env)) (backToKw pos (keywordEach [] X.env))):=by rfl):
  PE X (.Call (.Attribute o m apos) [] [] pos) (tE S X (.mcl c i m ca .nil)):=
 (zgy u l p F q r w).imp λJ H Q #[B,G,st,U,x,y,h]=>by erw[ev]at h;refine zds (t:=yct) (λ{H1 G1 a P z} b d j n=>?_) x y h;erw[IC.vsq0,IC.vsq1,R.bind]at j;exact n [] H1 [] a G1 .rfl b d (by erw[yg]) j
end
inductive yb1(w:Ae)(fa:Hy->AK):Hx (AT×Hy)->Hx CB->Prop
 |nil:yb1 w fa [] []
 |cons {k:AT} {i:Hy} {t:Hn} {D:Hx (AT×Hy)} {es:Hx CB} (h:yb1 w fa D es):yb1 w fa ((k,i)::D) (#[EB w.params k,.str k t,.ref (fa i)] :: es)
def GDF(K:AG)(w:Ae)(b:AT->Option AH)(c:Hy->AK)(x:AT)(D:Hx (AT×Hy)):Prop:=
 ∃(y:AK) (a:IP CB) (d:Hy),b x=AA (.ref y)/\K.lookup y=AA #[.type "dict",AF,.dict a d,(Hx.toArray [])]/\yb1 w c D a.toList/\(D.map (·.1)).Nodup
theorem yb1.pairs{P:A4}{w:Ae}{b:Hy->AK}{D:Hx (AT×Hy)}{es:Hx CB}(h:yb1 w b D es):
  ∃a:Hx (AT×AH),Pairs (strKind P w) es a/\(∀e∈es,∃k,(strKind P w).is k e.key=AD/\e.hash=(strKind P w).hash k)/\a.map (·.1)=D.map (·.1) /\
   ∀s i,D.lookup s=AA i->valueAt a s=AA (.ref (b i)):=by
 induction h with
 |nil=>exact#[[],.nil,λe c=>(by cases c),rfl,λs v e=>by cases e]
 |@cons k i t D es h ih=>
  let#[a,f,g,l,m]:=ih;have d:∀s,valueAt ((k,Al (b i))::a) s=if k=s then AA (.ref (b i))else valueAt a s:=λs=>by
   unfold valueAt;rw[Bu]
   by_cases e:k=s
   .simp[e]
   .simp[e]
  refine#[(k,.ref (b i))::a,.cons (DX P w k t) rfl f,λe c=>?_,by rw[AN,AN,l],λs j e=>?_]
  .rcases AV.1 c with rfl|c
   .exact#[k,DX P w k t,rfl]
   .exact g e c
  .rw[d];erw[CS]at e
   by_cases q:k=s
   .subst q;rw[IW]at e
    cases e
    rw[ID rfl]
   .rw[IH.2 (BI q)]at e;rw[IE q];exact m s j e
section
variable {S:Se}{X:Cx}{G:St}{B:AK->Prop}{C:Ph}{H:Hp}{st:SO}{U:IC.Env}{pos p p1 p2 p3 p4 p5 p6 p7:Bf}{a b i e n:AW}{es:Hx AW}{ca cn:Ce}{ces:Ces}{x y:AT}{D:Hx (AT×Hy)}{ty:TE}{t:TA}{fa:Hy->AK}{fdd:Hy->Av}{ps:Hy->Hx AT}{k ix:Hy}
def ydw(D:Hx (AT×Hy))(fa:Hy->AK)(ty:TE):TE:=λG H Q=>ty G H λz a=>∃s j,z=.str s/\D.lookup s=AA j/\Q (.ref (fa j)) a
def ziC(m:Gl X x)(h:GDF X.K X.w X.mg fa x D)(hi:PE X i ty)(n:ycO i)(o:(x==("__debug__":AT))=false:=by decide):PE X (.Subscript (.Name x p) i pos) (ydw D fa ty):=by let#[y,es,q,r,w,A,B]:=h;let#[C,E,L,M,N]:=A.pairs (P:=X.prog);intro J s G H Q I O;refine zfR EI.lookup n (thn (zca (v:=.ref y) m r rfl o J s G H (λz a=>z=.ref y/\ty G a λz b=>∃s j,z=.str s/\D.lookup s=AA j/\Q (.ref (fa j)) b) I #[rfl,O]) λu U kq=>?_);let#[z,a,Y,Z,ez,q1]:=kq;refine thn (hi J U G a _ Y q1) λiv s2 kq=>?_;let#[z2,b,f,c,g,j,d,e,q2]:=kq;subst ez;subst d;obtain rfl:u=Al y:=Z;let#[t,rfl]:=c;have l:s2.heap.DictOf (strKind X.prog X.w) y C:=#[_,es,q,f.kIn y _ w,#[rfl,rfl,rfl],rfl,λe he=>L e (by simpa using he),E,by rw[M];exact B];exact#[l.typeIs,G0 (DX X.prog X.w g t) l.mapOf (N g j e) #[.ref (fa j),b,f.tok _,rfl,q2]]
structure Makers(S:Se)(X:Cx)(k:Hy)(D:Hx (AT×Hy))(fa:Hy->AK)(fdd:Hy->Av)(ps:Hy->Hx AT):Prop where
 F:∀s j,D.lookup s=AA j->yaA X.prog X.w X.K X.mg X.base (CX1 X.prog X.w) k (fa j) (fdd j) (ps j) (spI X.K S.cl S.call j)
 kp:∀s j,D.lookup s=AA j->An X.K (.ref (fa j))=AD
 b:∀s j,D.lookup s=AA j->Binds X.K (fdd j) (ps j) []
def ydz(S:Se)(X:Cx)(D:Hx (AT×Hy))(fa:Hy->AK)(ix:Hy)(t:TA):TE:=λG H Q=>∃s j,D.lookup s=AA j/\G[ix]?=AA (AA (.ref (fa j)))/\t G H λc a=>∃E:XK,spI X.K S.cl S.call j c a Q E/\∀J s e b,Inv X J G a s->CX1 X.prog X.w X.stack a s E e b->X.xe e b
def zh8(M:Makers S X k D fa fdd ps)(o:yaq k X.A)(w:X.N[ix]?=AA x)(y:Vis X.env.scope x)(A:PA X (e::es) t)
  (B:(x==("__debug__":AT))=false:=by decide) (d:(x==("__classdict__":AT))=false:=by decide) (C:starEach (e::es) X.env=(AC,eval e X.env)::starEach es X.env:=by rfl) (f:(backTo pos (starEach es X.env)).any (·.1)=false:=by rfl):
  PE X (.Call (.Name x p) (e::es) [] pos) (ydz S X D fa ix t):=by intro J s G H Q I #[g,j,l,L,h];refine BM (thn (zjm w y B d J s G H (λz a=>z=.ref (fa j)/\t G a λn a=>∃E:XK,spI X.K S.cl S.call j n a Q E/\∀J s e b,Inv X J G a s->CX1 X.prog X.w X.stack a s E e b->X.xe e b) I #[_,L,rfl,h]) λu N kq=>?_);let#[z,a,O,U,Y,Z]:=kq;subst Y;obtain rfl:u=Al (fa j):=U;refine DD (h₀:=X.base) I.ok.mod.kin (M.kp g j l) (thn (A pos J N G a _ O Z) λus s2 kq=>?_) C f;let#[n,H2,m,r,E,q,hx]:=kq;refine #[m.kIn,?_];exact zb2 (M.F g j l) o (M.b g j l) .nil m r (by rw[Bt];exact q) λe b c=>hx J s2 e b m c
theorem yF.hole{K:AG}{a:Hy->AK}{v:V}(b:yF K a B C H U G):yF K a B C H (U.set ix AF) (G.set ix (AA v)):=by
 refine#[by simp[b.len],λj w e=>?_]
 by_cases q:ix=j
 .subst q
  by_cases c:ix<U.length
  .rw[Ac c]at e;cases e
  .rw[BE (by simp;lia)]at e;cases e
 .rw[AZ q]at e ⊢;exact b.get j w e
def ziB{v:PV}{j:Hy}{b}(h:mkV D b v=AA j):∃s,v=.str s/\D.lookup s=AA j/\b=true:=by
 cases v with
 |str s=>
  cases b with
  |true=>exact#[s,rfl,h,rfl]
  |false=>cases h
 |_=>cases h
def zm2(M:Makers S X k D fa fdd ps)(hr:yaq k X.A)(hN:X.N.Nodup)(hi:X.N[ix]?=AA x)(hx:Loc X.env.scope x)(hv:Vis X.env.scope x)(hg:Gl X y)(hd:GDF X.K X.w X.mg fa y D)(hn:PE X n (tE S X cn))(ha:PA X (e::es) (tAs S X ces))
  (hs:ycO n:=by exact λ_ _=>rfl) (w:swapsWith (.Subscript (.Name y p2) n p3) (AA (.Name x p1)) p4.line X.env=pure false:=by rfl) (hf:X.fn x=AD \/ X.env.scope.names.lookup x=AA .local:=by first|exact .inl rfl|exact .inr rfl|assumption)
  (A:(y==("__debug__":AT))=false:=by decide) (E:(x==("__debug__":AT))=false:=by decide) (I:(x==("__classdict__":AT))=false:=by decide) (he:starEach (e::es) X.env=(AC,eval e X.env)::starEach es X.env:=by rfl) (J:(backTo p6 (starEach es X.env)).any (·.1)=false:=by rfl):
  PSs X [.Assign [.Name x p1] (.Subscript (.Name y p2) n p3) p4,.Return (AA (.Call (.Name x p5) (e::es) [] p6)) p7] (tSs S X (.cons (.mkr ix D cn ces) .nil)):=
 (zfm (ziZ hN hi hx (ziC hg hd hn hs A) w hf) (zj1 (zi0 (zh8 M hr hi hv ha E I he J)))).imp λD' G H #[B,C,st,U,rs,re,h]=>by
  have h:yaB S X B C H (ex S.call U st (.mkr ix D cn ces)) D':=by
   erw[IC.xqq0,IC.xqq1]at h
   cases q:ex S.call U st (.mkr ix D cn ces)with
   |nx L a=>
    exfalso;erw[ex]at q
    cases N:ev S.call U st cn with
    |ok v1 O=>
     rw[N]at q;erw[R.fl]at q;split at q
     .rename_i j _
      cases g:(evs S.call (U.set ix AF) O ces).bind λt d=>S.call j t d with
      |ok v2 m=>rw[g]at q;cases q
      |exc c m=>rw[g]at q;cases q
      |bad=>rw[g]at q;cases q
     .cases q
    |exc c O=>rw[N]at q;cases q
    |bad=>rw[N]at q;cases q
   |rt v a=>rw[q]at h;exact h
   |bk L a=>rw[q]at h;exact h
   |ct L a=>rw[q]at h;exact h
   |exc c L a=>rw[q]at h;exact h
   |bad=>rw[q]at h;exact h
  erw[ex]at h;refine tE.fl rs re h λx' H1 v p C1 O Y f u b=>?_
  cases q:mkV D (decide (ix<U.length)) v with
  |none=>rw[q]at b;exact b.elim
  |some j=>
   rw[q]at b;let#[sx,rfl,hl,hb]:=ziB q;erw[yd]at u;subst u;have r:ix<G.length:=by rw[<-f.len];exact IT hb
   refine#[sx,j,rfl,hl,sx,j,hl,by rw[Ac r],B,C1,p,U.set ix AF,Y,f.hole,?_];dsimp only at b
   cases g:evs S.call (U.set ix AF) p ces with
   |bad=>rw[g]at b;exact b
   |exc c m=>rw[g]at b;exact λe a z=>b _ C1 H1 e a .rfl f.hole z
   |ok t d=>
    rw[g]at b;intro xs H2 C2 m Z rl;have o:yaB S X B C1 H1 ((S.call j t d).fl (U.set ix AF) λv l=>.rt v l) D':=b;refine zaH Z rl ?_
    cases q3:S.call j t d with
    |bad=>rw[q3]at o;exact o
    |ok v l=>rw[q3]at o;exact λx H' C' a rs' u=>o x H' C' (m.trans a) rs' u
    |exc c l=>rw[q3]at o;exact λe a z=>o _ C2 H2 e a m (f.hole.step m) z
end
section
variable {P:A4}{w:Ae}{K:AG}{mg:AT->Option AH}{base:Au}{cl:Hy->AK}{T:Hy->Option IC.Fn}{fi:Hy}{fn:IC.Fn}{x qual:AT}{stm:Bg}{f:AK}{fd:Av}{N ps:Hx AT}{k m:Hy}
def zhY:yaA P w K mg base (CX1 P w) m f fd ps (spI K cl (yc T 0) fi):=
 #[λc H Q E #[_,_,_,_,_,_,h]=>by rw[yc]at h;exact h.elim,λA a s H b d c Q E _ _ _ _ #[_,_,_,_,_,_,h]=>by rw[yc]at h;exact h.elim]
end
theorem yaF.units{k:Hy}{A:Af}(r:yaF k A):A.units+64<cLine:=by have:=r.un;lia
section
variable {P:A4}{w:Ae}{K:AG}{mg:AT->Option AH}{base:Au}{cl:Hy->AK}{T:Hy->Option IC.Fn}{fi:Hy}{fn:IC.Fn}{x qual:AT}{stm:Bg}{f:AK}{fd:Av}{N ps:Hx AT}{k m:Hy}
def zir(u:T fi=AA fn)(E:N.length=fn.ns)(o:fn.pure=AC){d cdv A outer s vs H Q}(h:spI K cl (yc T (k+1)) fi vs H Q E0):
  tSs #[cl,yc T k,AC] (ybu P w K mg base N qual d f cdv A outer s H) fn.body {nx:=λ_ g=>Q .non g,rt:=Q} (L2.start N vs) H:=by
 let#[B,C,st,a,G,l,h]:=h;have J:a.length=fn.np:=zge (k:=k) u a st λz=>by rw[z]at h;exact h
 have x:=l.length;rw[yc,u]at h;dsimp only at h;rw[ID J,o,IE (by simp)]at h;refine#[B,C,st,_,G,yF.start l (fn.ns-fn.np) (),?_];show yaB _ _ _ _ _ (exs (yc T k) (a.map AA++Am (fn.ns-fn.np) AF) st fn.body) _
 cases e:exs (yc T k) (a.map AA++Am (fn.ns-fn.np) AF) st fn.body with
 |nx p b=>
  rw[e]at h;intro L g m n j M;exact h .non g m n j (by erw[yd])
 |rt v b=>
  rw[e]at h;intro y g m n j O;exact h y g m n j O
 |exc c p b=>
  rw[e]at h;intro L C1 H1 ev n U _ ex;rcases ex with⟨D,H2,s2,C2,I,X,q⟩|⟨t,_⟩|⟨t,_⟩
  .let#[_,Y,_,g,_,_,_,_,_,_,_,_,_,_,e1,m,Z,r]:=q;exact(h g m (U.trans (X.trans Z)) r).elim
  .cases t
  .cases t
 |bk p b=>rw[e]at h;exact h.elim
 |ct p b=>rw[e]at h;exact h.elim
 |bad=>rw[e]at h;exact h.elim
def zmV(l:T fi=AA fn)(F:Fun K x qual stm f fd)(n:yaC N ps (yj stm))(d:ps.length=fn.np)(g:N.length=fn.ns)(j:fn.pure=AC)
  (c:∀b(A:Af)a(s:AJ)H,yaF m (A.deeper (envOfC qual (yj stm) s.heap.objs.size f b)) ->
   PSs (ybu P w K mg base N qual (yj stm) f b A a s H) (yP stm) (tSs #[cl,yc T k,AC] (ybu P w K mg base N qual (yj stm) f b A a s H) fn.body)):
  ybH P w K mg base (m+1) f fd ps (spI K cl (yc T (k+1)) fi):=
 F.okH n (λo H Q E h=>zja l d h) λb A a s H o Q p h=>#[_,c b A a s H p,zir l g j h]
def ziw:ybH P w K mg base m f fd ps (spI K cl (yc T 0) fi):=
 #[λc H Q E #[_,_,_,_,_,_,h]=>by rw[yc]at h;exact h.elim,λA a s H b d c Q _ _ _ _ #[_,_,_,_,_,_,h]=>by rw[yc]at h;exact h.elim]
end
section
variable {S:Se}{X:Cx}{C:St}{B:AK->Prop}{A:Ph}{H:Hp}{st:SO}{U:IC.Env}{p pos:Bf}{e:AW}{es:Hx AW}{ces:Ces}{fi k:Hy}{x:AT}{f:AK}{fd:Av}{ps:Hx AT}
end
end L2
namespace L2
open PySem IC
section
variable {S:Se}{X:Cx}{C:St}{B:AK->Prop}{A A1:Ph}{H H1:Hp}{st:SO}{U:IC.Env}{p pos p2 px py pt pt2:Bf}{a b c d o a' b' c' d':AW}{ca cb cc cd ce cf:Ce}{D:Hx (AK×Be)}{s:AJ}{kt k2:Hy}{es:Hx AW}{ces:Ces}{x:AT}
end
end L2
namespace L2
open PySem PySem.Spec PyProof.Rows
section
variable {X:Cx}
def ziS{i:Hz}(a:0<=i)(b:i<=sizeLine):(!Builtin.List.listFitsIndex i)=false:=by
 unfold Gu;have:sizeLine<=9000000000000000000:=by decide
 simp;lia
def ycF:V->Hx V->Hp->VK->Prop:=λx b H Q=>∃l i a y,x=.ref l/\b=[.int i,y]/\H l=AA (.lst a)/\0<=i/\i<=a.length/\a.length<sizeLine/\Q .non (upd H l (.lst (a.take i.toNat++y::a.drop i.toNat)))
def zgL:MtM X "list.insert" ycF:=by
 intro B s A H x m v o Q I c d h;let#[l,i,p,y,rfl,rfl,b,f,t,C,q]:=h
 cases c
 let#[u,w,rfl,g,rw]:=d.two;let#[j,rfl]:=g;let#[z,a,n,r,D,e]:=I.lstM b;refine call_meets Ez #[_,e,rfl] F.entry_list_insert (F.args_list_insert_3 _ _ _) (AutoSeq1.list_insert_list_int_val_1 l a.toArray n i j w (by rw[ziS f ()];exact AR) (by rw[A7];lia)) #[e,?_];refine#[.non,_,I.lset (its':=a.take i.toNat++w::a.drop i.toNat) b e ?_ ((r.take i.toNat).append (.cons rw (r.drop i.toNat))) ?_,rfl,q]
 .show (a.toArray.extract 0 (if i<0 then(i+(a.toArray.size:Hz)).toNat else min i.toNat a.toArray.size)).push w++a.toArray.extract (if i<0 then(i+(a.toArray.size:Hz)).toNat else min i.toNat a.toArray.size)=_;rw[IE (),A7,Hy.min_eq_left ()];apply IP.toList_inj.mp;simp;exact Ej (by simp)
 .rw[A8,AQ,DV,E1];lia
end
end L2
namespace L2
open PySem PySem.Spec PyProof.Rows IC
section
variable {S:Se}{X:Cx}{C:St}{B:AK->Prop}{A A1:Ph}{H H1:Hp}{st:SO}{U:IC.Env}{p pos p2 apos:Bf}{a b c d:AW}{ca cb cc:Ce}{es:Hx AW}{ces:Ces}{K:AG}{cl:Hy->AK}
def zg6(ha:PE X a (tE S X ca))(hb:PE X b (tE S X cb))(hc:PE X c (tE S X cc))(hs:starEach [b,c] X.env=[(AC,eval b X.env),(AC,eval c X.env)]:=by rfl)(f:starEach [c] X.env=[(AC,eval c X.env)]:=by rfl)(g:attributeBase a "insert" X.env (eval a X.env)=eval a X.env:=by rfl)(j:(apos.endLine==pos.line)=true:=by rfl)(m:((backTo pos (starEach [c] X.env)).any λx=>x.1)=false:=by rfl)
  (o:((backTo pos (starEach [b,c] X.env)).all (λx=>!x.1)&&(backToKw pos (keywordEach [] X.env)).all (λx=>x.1.isSome)&&decide (([b,c]:Hx AW).length+([]:Hx Bo).length+(if ([]:Hx Bo).isEmpty then 0 else 1)<30))=true:=by rfl):
  PE X (.Call (.Attribute a "insert" apos) [b,c] [] pos) (tE S X (.mth .insert ca (.cons cb (.cons cc .nil)))):=
 (zj3 E3 Ez PySem.F.type_list_insert zgL ha (za8 (S:=S) hb (za8 (S:=S) hc zdV f) (by rw[hs,f])) g o j (by rw[hs,f]) m).imp λC H Q #[B,A,st,U,rs,re,h]=>by
  erw[ev]at h;refine tE.bind rs re h λx H1 v p A1 s1 r E rv G=>?_;let#[_,I,G]:=zc9 G;have J:∃D,yJ p v=AA D:=by
   erw[yL]at I
   cases q:yJ p v with
   |none=>rw[q]at I;cases I
   |some D=>exact#[D,rfl]
  let#[D,J]:=J;let#[l,xs,rfl,hl,_]:=zbA r rv J;refine#[.inl #[rfl,xs,hl],tAs.bind r E G λys H2 vs st2 A2 s2 u re2 L d=>?_];have M:=rv.step s2;rcases vs with _|⟨w,_|⟨w',_|⟨w'',t⟩⟩⟩
  .exact d.elim
  .exact d.elim
  .let#[y,N,rfl,rw,O]:=L.two;unfold yaL at d;erw[yeR]at d;split at d
   .rename_i n;split at d
    .rename_i zs hz;split at d
     .rename_i k;split at d
      .rename_i c;let#[l',z,e,Y,hx,Z]:=u.list M hz
       cases e
       erw[yd]at rw;subst rw;have hln:=Z.length;refine#[l,k,z,N,rfl,rfl,hx,c.1,(),by have:=zox;lia,?_];exact d _ _ A2 (.put (A3 Y)) (u.put Y #[_,zo,((Z.take k.toNat).append (show yg _ _ _ _ _ (w'::zs.drop k.toNat) (N::z.drop k.toNat)by erw[yg];exact#[N,_,rfl,O,Z.drop k.toNat])).step (.put (A3 Y))]) (by erw[yd])
      .exact d.elim
     .exact d.elim
    .exact d.elim
   .exact d.elim
  .exact d.elim
end
section
variable {S:Se}{X:Cx}{a b:AW}{c i:Hy}{j:Hz}{f:AT}{pos tpos:Bf}
def znl(hc:Cls X.K (S.cl c))(hn:yam X.K (S.cl c) f)(ha:PE X a (tE S X (.var i)))(hv:PE X b (tE S X (.cst (.int j)))):
  PS X (.AugAssign (.Attribute a f tpos) .Add b pos) (tS S X (.sfl c (.var i) f (.bin .add (.fld c (.var i) f) (.cst (.int j))))):=
 (zhA ha hv zmH).imp λD C H #[B,A,st,U,rs,Y,h]=>by
  erw[ex,ev]at h
  cases q:U[i]? with
  |none=>rw[q]at h;exact h.elim
  |some o=>
   cases o with
   |none=>rw[q]at h;exact h.elim
   |some x=>
    rw[q]at h;dsimp only[R.bind]at h;refine#[B,A,st,U,rs,Y,?_];erw[ev,q];intro x' H1 A1 Z m rx;have p:=Y.step Z;have h:=yaB.on Z h
    cases e:yax c st x f with
    |none=>rw[e]at h;exact h.elim
    |some v=>
     rw[e]at h;let#[n,fs,rfl,d,l]:=zev e;let#[y,ks,dx,rfl,hp,hy,lr]:=m.ins rx d;let#[x,hx,r]:=lr.lookup.1 v l;refine#[y,S.cl c,dx,ks,x,rfl,hy,hc,hn,hx,#[B,A1,st,U,m,p,?_]];erw[ev];intro y' H2 A2 I t ry;erw[yd]at ry;subst ry
     cases v with
     |int k=>
      erw[yd]at r;subst r;refine#[k,j,rfl,rfl,?_];have h:yaB S X B A1 H1 (match yaX c st (.loc n) f (.int (k+j))with|some J=>Fl.nx U J|none=>Fl.bad) D:=h;have h:=yaB.on I h;have L:=rx.step I;let#[y2,u,g,e2,w,M,E]:=t.ins L d
      cases e2
      cases N:yaX c st (.loc n) f (.int (k+j))with
      |none=>rw[N]at h;exact h.elim
      |some st4=>
       rw[N]at h;let#[n',fs',z,G,hl,rfl]:=zeC N
       cases z
       rw[d]at G
       cases G
       refine#[g,u,M,by rw[<-E.len];exact hl,?_];have O:Step A2 H2 A2 (L2.upd H2 y (.ins (S.cl c) g (yaT f (.int (k+j)) u))):=.put (A3 w);exact h C _ A2 O (t.put (o:=.ins c (ybD f (.int (k+j)) fs)) w #[_,#[g,zo],(FS.put (by erw[yd]) E).step O]) ((p.step I).step O)
     |_=>exact h.elim
end
end L2
namespace HT
open PySem PySem.Spec PyProof.Rows
section
variable {prog:A4}{w:Ae}{A:Af}{E:AH->AJ->Prop}{s:AJ}
end
end HT
namespace L2
open PySem PySem.Spec PyProof.Rows IC
section
variable {S:Se}{X:Cx}{pos p2:Bf}{e e3:AW}{te t3:TE}{a:AW}{ca c3:Ce}
theorem yg.reverse{K:AG}{a:Hy->AK}{B:AK->Prop}{A:Ph}{H:Hp}:∀{vs:Hx PV} {xs:Hx V},yg K a B A H vs xs->yg K a B A H vs.reverse xs.reverse
 |[],xs,h=>by erw[yg]at h;subst h;erw[Hx.reverse_nil,yg]
 |v::vs,xs,h=>by erw[yg]at h;let#[y,b,rfl,r,l]:=h;rw[GF,GF];exact(yg.reverse l).append (by erw[yg];exact#[y,[],rfl,r,rfl])
end
section
variable {X:Cx}{prog:A4}{w:Ae}{A:Af}{E:AH->AJ->Prop}{s:AJ}
end
section
variable {S:Se}{X:Cx}{pos px:Bf}{a:AW}{ca:Ce}
end
end L2
namespace PySem
open Sem (wp)
section
variable {prog:A4}{w:Ae}{K:Type}[IX K]{A:Af}{R:Eb->AJ->Prop}
end
end PySem
namespace L2
open PySem PySem.Spec PyProof.Rows
section
variable {X:Cx}
end
end L2
namespace L2
open PySem PySem.Spec PyProof.Rows IC
section
variable {K:AG}{cl:Hy->AK}{B:AK->Prop}{A:Ph}{H:Hp}
end
section
variable {S:Se}{X:Cx}{a:AW}{ca:Ce}{p pos:Bf}
end
end L2
namespace PySem
open Sem (wp)
section
variable {prog:A4}{w:Ae}{K:Type}[IX K]{A:Af}{R:Eb->AJ->Prop}
end
end PySem
namespace L2
open PySem PySem.Spec PyProof.Rows
section
variable {X:Cx}
end
end L2
namespace PySem
open Sem (wp)
section
variable {prog:A4}{w:Ae}{A:Af}{E:AH->AJ->Prop}{s:AJ}
end
end PySem
namespace L2
open PySem PySem.Spec PyProof.Rows
section
variable {X:Cx}{B:Hx (AK×Be)}{A:St}{H:Hp}{s:AJ}{a:AK}{o:Be}{u:HO}
end
section
variable {X:Cx}{tg:AW}
end
end L2
namespace PySem.W
open PySem PySem.Calls PyProof.Rows
section
variable {prog:A4}{w:Ae}{A:Af}{E:AH->AJ->Prop}{s:AJ}{a:AK}{x y:AH}
def ydl(prog:A4)(w:Ae)(A:Af)(s:AJ)(x y:AH)(f:IB):Prop:=
 (∀Q:SortKind->AJ->Prop,Q (tuples' AD) s->A6 (model prog w) A (keyKind' (Hx.toArray [x,y])) Q (λ_ _=>IK) s) /\
 ∀Q:IB->AJ->Prop,Q f s->A6 (model prog w) A (keyLt' (tuples' AD) y x) Q (λ_ _=>IK) s
def ltT(a b:AT×Hz×Hz):IB:=if a.1=b.1 then(if a.2.1==b.2.1 then(if a.2.2==b.2.2 then AC else decide (a.2.2<b.2.2))else decide (a.2.1<b.2.1))else decide (a.1.cps.toList<b.1.cps.toList)
def zcx{b c:AK}{p q:AT×Hz×Hz}{d o r f u y}(g:s.heap.get? b=AA {cls:=.type "tuple",data:=.seq (Hx.toArray [.str p.1 d,.int p.2.1 o,.int p.2.2 r])})(j:s.heap.get? c=AA {cls:=.type "tuple",data:=.seq (Hx.toArray [.str q.1 f,.int q.2.1 u,.int q.2.2 y])}):
  ydl prog w A s (.ref b) (.ref c) (ltT q p):=by
 refine#[λQ h=>?_,λQ h=>?_]
 .refine kat_kind (vs:=[.ref b,.ref c]) (fs:=[.str p.1 d,.str q.1 f]) (T:=.type "str") (.cons g rfl rfl rfl (.cons j rfl rfl rfl .nil)) (show 0<2 by decide) (λv l=>?_) ⋯ h;have:∃x t,v=.str x t:=by erw[AV,A9,II]at l;rcases l with rfl|rfl<;>exact#[_,_,rfl]
  let#[x,t,rfl]:=this;exact .now
 .refine kat_lt j rfl g rfl (kat_cons (GJ ?_));unfold ltT at h
  by_cases a:q.1=p.1
  .rw[ID a]at h;rw[show decide (q.1=p.1)=AD from by simp[a]];refine kat_yes (kat_cons (EV ?_))
   cases m:(q.2.1==p.2.1)with
   |true=>
    rw[m,ID rfl]at h;refine kat_yes (kat_cons (EV ?_))
    cases n:(q.2.2==p.2.2)with
    |true=>
     rw[n,ID rfl]at h;exact kat_yes (kat_nil h)
    |false=>
     rw[n,IE ⋯]at h;exact kat_no (kat_one _ _ (lt_int h))
   |false=>
    rw[m,IE ⋯]at h;exact kat_no (kat_one _ _ (lt_int h))
  .rw[IE a]at h;rw[show decide (q.1=p.1)=AC from by simp[a]];exact kat_no (oneLt_str h)
end
end PySem.W
namespace PySem
open Sem (wp)
section
variable {prog:A4}{w:Ae}{K:Type}[IX K]{knd:HeapKind prog w K}{A:Af}{E:AH->AJ->Prop}{s:AJ}
end
end PySem
namespace L2
open PySem PySem.Spec PyProof.Rows
def ydT(a:Hx (Hx NK×V)):Prop:=∀p∈a,∃i,p.2=.int i
def vI:V->Hz
 |.int i=>i
 |_=>0
def ydA(a b:Hx (Hx NK×V)):IB:=a.length==b.length&&a.all λp=>match ya2 b p.1 with
 |some v=>vI p.2==vI v
 |none=>AC
section
variable {X:Cx}
end
section
variable {X:Cx}
end
end L2
namespace L2
open PySem PySem.Spec PyProof.Rows IC
section
variable {K:AG}{cl:Hy->AK}{B:AK->Prop}{A:Ph}{H:Hp}
theorem DT.ints:∀{b:Hx (PV×PV)} {c:Hx (Hx NK×V)},DT K cl B A H b c->b.all yby=AD->ydT c
 |[],c,h,_=>by cases (show c=[]from h);intro p d;cases d
 |(k,v)::r,c,h,a=>by
  let#[q,x,s,rfl,rfl,f,l]:=h;erw[Aq,AL]at a;intro p d;rcases AV.1 d with rfl|d
  .cases v with
   |int i=>erw[yd]at f;exact#[i,f]
   |_=>exact IG a.1 AR
  .exact DT.ints l a.2 p d
def zgZ{v:PV}{x}(a:yby ((.non:PV),v)=AD)(r:yd K cl B A H v x):vI x=ivP v/\x=.int (ivP v):=by
 cases v with
 |int i=>erw[yd]at r;subst r;exact#[rfl,rfl]
 |_=>exact IG a AR
def zeG{p:PV×PV}(h:yby p=AD):yby ((.non:PV),p.2)=true:=by
 let#[a,b]:=p
 cases b<;>first|rfl|exact h
theorem DT.find{q:Hx NK}:∀{b:Hx (PV×PV)} {c:Hx (Hx NK×V)},DT K cl B A H b c->b.all yby=AD ->
  (match IC.look (.tup (yaH q)) b with|some v=>AA (ivP v)|none=>AF)=(ya2 c q).map vI
 |[],c,h,_=>by cases (show c=[]from h);rfl
 |(k,v)::r,c,h,a=>by
  let#[f,x,s,rfl,rfl,g,l]:=h;erw[Aq,AL]at a;have e:=(zgZ (zeG a.1) g).1;erw[IC.look,zbR]
  by_cases d:f=q
  .rw[zaP (p:=(f,x)) d];erw[d,IN,IF,B3];exact IM AA e.symm
  .rw[zaS (p:=(f,x)) d];erw[IA,d,IL];exact DT.find l a.2
theorem DT.all{g:Hx (PV×PV)}{sb:Hx (Hx NK×V)}(b:DT K cl B A H g sb)(m:g.all yby=AD):∀{c:Hx (PV×PV)} {d:Hx (Hx NK×V)},DT K cl B A H c d->c.all yby=AD ->
  (d.all λp=>match ya2 sb p.1 with|some v=>vI p.2==vI v|none=>AC)=c.all λp=>match IC.look p.1 g with|some v=>ivP p.2==ivP v|none=>AC
 |[],d,h,_=>by cases (show d=[]from h);rfl
 |(k,v)::r,d,h,a=>by
  let#[q,x,s,rfl,rfl,o,l]:=h;erw[Aq,AL]at a;have e:=(zgZ (zeG a.1) o).1;rw[Aq,Aq,DT.all b m l a.2]
  congr 1
  have f:=b.find m (q:=q);dsimp only
  cases n:IC.look (.tup (yaH q)) g with
  |none=>
   rw[n]at f
   cases j:ya2 sb q with
   |none=>rfl
   |some y=>rw[j]at f;cases f
  |some w=>
   rw[n]at f
   cases j:ya2 sb q with
   |none=>rw[j]at f;cases f
   |some y=>
    rw[j]at f;have f:ivP w=vI y:=A0 f;have e:vI x=ivP v:=e;erw[f,e]
theorem DT.same{c d:Hx (PV×PV)}{sa sb:Hx (Hx NK×V)}(a:DT K cl B A H c sa)(b:DT K cl B A H d sb)(f:c.all yby=AD)(g:d.all yby=AD):ydA sa sb=ycG c d:=by unfold ydA ycG;rw[<-a.len,<-b.len];exact IM (λz=>c.length==d.length&&z) (DT.all b g a f)
end
section
variable {S:Se}{X:Cx}{A:St}{a b:AW}{ca cb:Ce}{p pos:Bf}
end
end L2
namespace PySem
open Sem (wp)
section
variable {prog:A4}{w:Ae}{A:Af}{E:AH->AJ->Prop}{s:AJ}
end
end PySem
namespace L2
open PySem PySem.Spec PyProof.Rows
section
variable {X:Cx}{el:Hx AW}{kk:Hy}{tp apos cpos:Bf}
end
end L2
namespace L2
open PySem PySem.Spec PyProof.Rows IC
section
variable {K:AG}{cl:Hy->AK}{B:AK->Prop}{A:Ph}{H:Hp}{st:SO}
end
section
variable {S:Se}{X:Cx}
end
end L2
namespace L2
open PySem PySem.Spec PyProof.Rows
section
variable {X:Cx}
end
end L2
namespace L2
open PySem PySem.Spec PyProof.Rows IC
section
variable {S:Se}{X:Cx}{a:AW}{ca:Ce}{p pos:Bf}
end
end L2
namespace PySem
open Sem (wp)
section
variable {prog:A4}{w:Ae}{A:Af}{E:AH->AJ->Prop}{s:AJ}
end
end PySem
namespace L2
open PySem PySem.Spec PyProof.Rows
section
variable {X:Cx}
end
end L2
namespace L2
open PySem PySem.Spec PyProof.Rows IC
theorem DT.size{K:AG}{c:Hy->AK}{B:AK->Prop}{A:Ph}{H:Hp}:∀{a:Hx (PV×PV)} {b:Hx (Hx NK×V)},DT K c B A H a b->a.length=b.length
 |[],b,t=>by cases (show b=[]from t);rfl
 |(k,v)::r,b,t=>by let#[q,x,s,rfl,rfl,f,d]:=t;rw[AQ,AQ,d.size]
section
variable {S:Se}{X:Cx}{a:AW}{ca:Ce}{p pos:Bf}
end
end L2
namespace L2
open PySem PySem.Spec PyProof.Rows
section
variable {prog:A4}{w:Ae}{A:Af}{E:AH->AJ->Prop}{s:AJ}{env:Env}
end
end L2
namespace L2
open PySem PySem.Spec PyProof.Rows IC
section
variable {S:Se}{X:Cx}{C:St}{B:AK->Prop}{A A1:Ph}{H H1:Hp}{st:SO}{U:IC.Env}{pos:Bf}{a b:AW}{ca cb:Ce}
end
end L2
namespace PySem.W
open PySem PySem.Calls PyProof.Rows
section
variable {prog:A4}{w:Ae}{A:Af}{E:AH->AJ->Prop}{s:AJ}{a:AK}
end
end PySem.W
namespace L2
open PySem PySem.Spec PyProof.Rows PySem.W
section
variable {X:Cx}
end
end L2
namespace WE
open PySem PySem.Spec PyProof.Rows
section
variable {pg:A4}{wd:Ae}{A:Af}{Er:AH->AJ->Prop}{s:AJ}
end
end WE
namespace L2
open PySem PySem.Spec PyProof.Rows
end L2
namespace L2
open PySem PySem.Spec PyProof.Rows IC
section
variable {S:Se}{X:Cx}{D:St}{B:AK->Prop}{C C1:Ph}{H H1:Hp}{st:SO}{U:IC.Env}{pos p:Bf}{a b:AW}{ca cb:Ce}
def zky{c i k:Hy}{x b fd ps}(M:Mk X.K (S.cl c) b)(F:yaA X.prog X.w X.K X.mg X.base (CX1 X.prog X.w) k b fd ps (spI X.K S.cl S.call i))(d:yaq (k+1) X.A)(f:Gl X x)(g:X.mg x=AA (.ref (S.cl c)))(j:Binds X.K fd ps [])
  (a:(x==("__debug__":AT))=false:=by decide):PE X (.Call (.Name x p) [] [] pos) (tE S X (.new c i .nil)):=
 (zin M F d f g j .nil noX a).imp λD H Q #[B,C,st,U,rs,l,h]=>by erw[ev,IC.vsq0,IC.vsq1,R.bind]at h;exact zdQ (vs:=[]) (xs:=[]) (rs:=rs) (by erw[yg]) h
def zgc:PE X (.Dict [] [] pos) (tE S X (.dict0 AC)):=zoZ.imp λD H Q #[B,C,st,U,a,c,h]=>by erw[ev]at h;exact λp b=>h _ _ (C++[AA p]) (.push b) (a.push b (a.nB b) #[[],zo,rfl]) (.loc_new a)
end
section
variable {S:Se}{X:Cx}{C:St}{B:AK->Prop}{A:Ph}{H:Hp}{st:SO}{U:IC.Env}{p pos tpos apos:Bf}{a b o i:AW}{ca cb:Ce}{K:AG}{cl:Hy->AK}
theorem yg.dropLast:∀{vs:Hx PV} {xs:Hx V},yg K cl B A H vs xs->yg K cl B A H vs.dropLast xs.dropLast
 |[],_,r=>by erw[yg]at r;subst r;erw[HI,yg]
 |[v],xs,r=>by erw[yg]at r;let#[x,c,rfl,b,rfl]:=r;erw[HI,yg]
 |v::w::vs,xs,r=>by rw[yg]at r;let#[x,c,rfl,b,a]:=r;have q:=yg.dropLast a;erw[yg]at a;let#[z,d,rfl,_,_]:=a;erw[Hx.dropLast_cons_of_ne_nil (Hx.cons_ne_nil _ _)];rw[yg];exact#[x,_,rfl,b,q]
theorem DK.drop{q:Key}:∀{a:Hx (PV×PV)} {b:Hx (Key×V)},DK K cl B A H a b->DK K cl B A H (ycE (ybl q) a) (ydt b q)
 |[],b,h=>by cases h;exact rfl
 |(k,w)::t,b,h=>by
  let#[c,y,s,rfl,rfl,d,l]:=h;unfold ycE ydt;erw[Hx.filter_cons,zcA]
  by_cases e:c=q
  .simp only[e,IN,Cv,CD,IL,ne_eq,not_true,IR];exact DK.drop l
  .simp only[e,IR,IB.not_false,IF,ne_eq,not_false_iff,IN];exact#[c,y,_,rfl,rfl,d,DK.drop l]
end
end L2
namespace L2
open PySem PySem.Spec PyProof.Rows
section
variable {X:Cx}{sc:BN}{NC:Hx AT}{slots:Hx (Option Hy)}{x0:AT}{B:Hx (AK×Be)}{A:St}{H:Hp}{s:AJ}
end
section
variable {X:Cx}{sc:BN}{NC:Hx AT}{slots:Hx (Option Hy)}{x0:AT}{elt tg iter:AW}{ifs:Hx AW}{pos:Bf}{g:TG}{ti:TT}{te:TE}
variable {wi:TI}
end
section
variable {pg:A4}{wd:Ae}{A:Af}{R:Eb->AJ->Prop}{s:AJ}{e:AW}{d:Hy}{tg iter:AW}{ifs:Hx AW}{acc it:AH}{env:Env}{em:Gd IZ}
end
section
variable {Y:Cx}{e:AW}{d:Hy}{tg iter:AW}{ifs:Hx AW}{acc:AH}{em:Gd IZ}{g:TG}{ti:TT}{tm:TM}{B:Hx (AK×Be)}{A:St}{H:Hp}{s:AJ}{R:Eb->AJ->Prop}
end
section
variable {Y:Cx}{B:Hx (AK×Be)}{A:St}{H:Hp}{s:AJ}
end
def cxL(X:Cx)(sc:BN)(b:Hx AT)(a:AK->Hx (AT×AK))(fn:AT->IB)(j:CI):Cx where
 prog:=X.prog
 w:=X.w
 K:=X.K
 mg:=X.mg
 base:=X.base
 A:=X.A
 N:=b
 s₀:=j.s
 H₀:=j.H
 env:=compEnvC sc (a j.C++ycQ sc X.env) j.C X.env
 outer:=X.stack
 stack:=X.stack
 ex:=j.fp
 fn:=fn
 calm:=X.calm
 pn:=[]
 xe:=No
section
variable {X:Cx}{sc:BN}{NC:Hx AT}{slots:Hx (Option Hy)}{own:AK->Hx (AT×AK)}{fn:AT->IB}{e tg iter:AW}{ifs:Hx AW}{g:TG}{ti:TT}{tm:AK->TM}{em:AK->Env->Gd IZ}{u0:HO}{ob:Be}{acc:Gd AH}
variable {wi:TI}
end
end L2
namespace L2
open PySem PySem.Spec PyProof.Rows IC
section
variable {S:Se}{X Y:Cx}{K:AG}{cl:Hy->AK}{C:St}{B:AK->Prop}{A A' A1:Ph}{H H' H1:Hp}{st:SO}{U:IC.Env}{D:AK}{elt tg iter l:AW}{ca ce m:Ce}{ci:Cit}{ct:Tg}{Q':St->Hp->Prop}
theorem Step.ext(k:∀b o,H b=AA o->H' b=AA o):Step A H A H':=#[λb o _ e=>k b o e,AS _,λ_ _ _ e=>e,λ_ h=>.inl h]
theorem ybR.skip{a:AK}{xs:Hx V}{u:HO}(b:B D)(r:ybR B A H a xs):ybR B A (L2.upd H D u) a xs:=#[by rw[zk (show a≠D from λz=>r.2.1 (z ▸ b))];exact r.1,r.2]
def tID(S:Se)(X:Cx)(c:Cit)(D:AK):TI:=λC H R=>∃B A st U,B D/\yr X.K S.cl B A H st/\yF X.K S.cl B A H U C/\Run S X C B A H (λA H a J=>∀u,Drw S X B A (L2.upd H D u) a J) (evi S.call U st c) R
def zke(j:PE X l (tE S X ca)):PI X tg l (tID S X (.seq ca) D):=
 (zjo j).imp λC H R #[B,A,st,U,c,m,n,h]=>by
  erw[IC.vjq0,IC.vjq1,IC.vjq2,IC.vjq3,IC.vjq4,IC.vjq5,IC.vjq6,IC.vjq7,IC.vjq8,IC.vjq9]at h;refine tE.bind m n h λx H1 v o A1 r a p d f=>?_
  cases v with
  |tp k q=>
   erw[yd]at d;let#[y,g,rfl,b,l]:=d;exact#[y,rfl,.inr #[#[g,b.sq],f.ok a λu=>zgv (b.skip c) (l.skip c)]]
  |lst q=>
   erw[yd]at d;let#[y,g,rfl,b,l]:=d;exact#[y,rfl,.inl #[#[g,b.sq],f.ok a λu=>zhd (b.skip c) (l.skip c)]]
  |_=>exact f.elim
def zfp{a}{p pos:Bf}(g:Gl X "range")(l:X.mg "range"=AF)(m:PE X a (tE S X ca))(d:starEach [a] X.env=[(AC,eval a X.env)]:=by rfl):PI X tg (.Call (.Name "range" p) [a] [] pos) (tID S X (.range1 ca) D):=
 (zdX g l (zJ m zhz d) d).imp λC H R #[B,A,st,U,t,n,o,h]=>by
  erw[IC.vjq0,IC.vjq1,IC.vjq2,IC.vjq3,IC.vjq4,IC.vjq5,IC.vjq6,IC.vjq7,IC.vjq8,IC.vjq9]at h;refine tE.bind n o h λx H1 v q A1 w c r f b=>?_
  cases v with
  |int j=>
   erw[ya9]at b;split at b
   .simp only[yd]at f;subst f;exact#[j,rfl,(),(),b.ok c λu=>zcs]
   .exact b.elim
  |_=>exact b.elim
end
section
variable {X:Cx}
end
section
variable {S:Se}{X:Cx}{C:St}{B:AK->Prop}{A A1:Ph}{H H1:Hp}{st:SO}{U:IC.Env}{p pos p2 apos:Bf}{a b:AW}{ca cb:Ce}{K:AG}{cl:Hy->AK}
end
section
variable {S:Se}{X:Cx}{C:St}{B:AK->Prop}{A:Ph}{H:Hp}{st:SO}{p pos p2 px apos:Bf}{a b c d o tg l:AW}{ca cb cc:Ce}{ct:Tg}{ss:Hx Bg}{cs:Css}
end
section
variable {S:Se}{X:Cx}{C:St}{B:AK->Prop}{A A1:Ph}{H H1:Hp}{st:SO}{U:IC.Env}{pos:Bf}{a b tg elt iter:AW}{ca cb ce:Ce}{ct:Tg}
end
end L2
namespace L2
open PySem PySem.Spec PyProof.Rows IC WK
inductive GK where
 |fn (i:Hy)|fnD (i:Hy)|cst (v:PV)|dct (D:Hx (AT×PV))|exc (c:Hy)|cls (c i:Hy)
structure Gs where
 g:AT->Option GK
 b:AT->IB
 t:Ty->IB
 fl:Hy->AT->IB
 me:Hy->AT->Option Hy
 kb:Hy->Hy->Hx AT->Option (Hx (Option Hz))
 mr:AT->Option (Hx (AT×Hy))
 fv:AT->Hy->IB
 xk:Hy->Ty->IB
 xc:Hy->AT->IB
 xm:Hy->AT->IB
 qf:Hy->IB
structure Kx where
 N:Hx AT
 sc:BN
 own:IB
 h:IB
def Fo(m:Hy)(S:Se)(X:Cx)(i:Hy)(f:AK)(fd:Av)(ps:Hx AT):Prop:=yaA X.prog X.w X.K X.mg X.base (CX1 X.prog X.w) m f fd ps (spI X.K S.cl S.call i)
def zoF{A:Type}{x:AT}{k:A}:∀{l:Hx (AT×A)},l.lookup x=AA k->(x,k)∈l
 |[],h=>nomatch h
 |y::l,h=>by
  rw[BX]at h
  cases a:x==y.1 with
  |true=>rw[a]at h;cases h;rw[eq_of_beq a];exact AO
  |false=>rw[a]at h;exact AM _ (zoF h)
structure Glo(J:Gs)(m:Hy)(S:Se)(X:Cx):Prop where
 F:∀x i,J.g x=AA (.fn i)->∃f fd ps,Fo m S X i f fd ps/\X.mg x=AA (.ref f)/\An X.K (.ref f)=AD/\Binds X.K fd ps []
 Q:∀x i np ks sh,J.g x=AA (.fnD i)->J.kb i np ks=AA sh->∃f fd ps,Fo m S X i f fd ps/\X.mg x=AA (.ref f)/\An X.K (.ref f)=AD/\∃g,ybG X.K fd ps ks g (gK np sh)
 C:∀x v,J.g x=AA (.cst v)->GC X.K X.mg S.cl x v
 D:∀x d,J.g x=AA (.dct d)->GD X.K X.w X.mg S.cl x d
 E:∀x c,J.g x=AA (.exc c)->yda X.K X.mg (S.cl c) x
 N:∀x c i,J.g x=AA (.cls c i)->X.mg x=AA (.ref (S.cl c))/\∃f fd ps,Mk X.K (S.cl c) f/\Fo m S X i f fd ps/\Binds X.K fd ps []
 B:∀x,J.b x=AD->X.mg x=AF
 T:∀t,J.t t=AD->yeG X.K t
 A:∀c f,J.fl c f=AD->Cls X.K (S.cl c)/\yam X.K (S.cl c) f
 M:∀c n i,J.me c n=AA i->Cls X.K (S.cl c)/\∃f fd ps,Meth X.K (S.cl c) n f/\Fo m S X i f fd ps/\Binds X.K fd ps []
 K:∀y D,J.mr y=AA D->∃fa fdd ps,Makers S X m D fa fdd ps/\GDF X.K X.w X.mg fa y D
 V:∀x i,J.g x=AA (.fn i)->J.fv x i=AD->X.mg x=AA (.ref (S.cl (1000+i)))
 I:∀c t,J.xk c t=AD->yfA X.K (S.cl c)/\ygc X.K S.cl c t
 L:∀d x,J.xc d x=AD->X.mg x=AA (.ref (S.cl d))
 H:∀c x,J.xm c x=AD->∃W,X.mg x=AA (.ref W)/\Gv X.K (.ref (S.cl c)) (.ref W)=AA AD
 Z:∀x i,J.g x=AA (.fn i)->J.qf i=AD->∃f fd ps,ybH X.prog X.w X.K X.mg X.base m f fd ps (spI X.K S.cl S.call i)/\X.mg x=AA (.ref f)/\An X.K (.ref f)=AD/\Binds X.K fd ps []
theorem Glo.mkr{J:Gs}{m:Hy}{S:Se}{X:Cx}(G:Glo J m S X){p:AT×Hy}{L:Hx (AT×Hy)}(h:∀q∈p::L,J.g q.1=AA (.fn q.2)/\J.fv q.1 q.2=AD):∃a b,Makers S X m (p::L) (λj=>S.cl (1000+j)) a b:=by
 have one:∀q∈p::L,∃z:Av×Hx AT,Fo m S X q.2 (S.cl (1000+q.2)) z.1 z.2/\An X.K (.ref (S.cl (1000+q.2)))=AD/\Binds X.K z.1 z.2 []:=λq c=>by
  let#[f,fd,b,g,l,n,o]:=G.F q.1 q.2 (h q c).1;have e:=G.V q.1 q.2 (h q c).1 (h q c).2;rw[l]at e
  cases e
  exact#[(fd,b),g,n,o]
 have all:∀j,∃z:Av×Hx AT,(∃s,(p::L).lookup s=AA j)->Fo m S X j (S.cl (1000+j)) z.1 z.2/\An X.K (.ref (S.cl (1000+j)))=AD/\Binds X.K z.1 z.2 []:=λj=>by
  by_cases d:∃s,(p::L).lookup s=AA j
  .let#[s,r]:=d;let#[z,t]:=one (s,j) (zoF r);exact#[z,λ_=>t]
  .let#[z,_]:=one p AO;exact#[z,λq=>IG q d]
 let#[f,hf]:=Classical.skolem.1 all;exact#[λj=>(f j).1,λj=>(f j).2,#[λs j e=>(hf j #[s,e]).1,λs j e=>(hf j #[s,e]).2.1,λs j e=>(hf j #[s,e]).2.2]]
structure Good(J:Gs)(R:Kx)(m:Hy)(S:Se)(X:Cx):Prop where
 n:X.N=R.N
 sc:X.env.scope=R.sc
 calm:R.h=AC->X.calm=AD
 room:yaF (m+1) X.A
 hd:R.h=AC->X.A.handled=AF
 own:R.own=AD->EX (model X.prog X.w) X.A X.env X.xe/\(∀x,X.fn x=AD)/\S.may=AD
 top:R.own=AD->(∃outer,X.stack=X.env::outer)/\X.ex=[]/\X.env.frame=AA X.env.locals
 glo:Glo J m S X
theorem Good.rm{J:Gs}{R:Kx}{m:Hy}{S:Se}{X:Cx}(G:Good J R m S X)(h:R.h=AC):yaq (m+1) X.A:=#[G.hd h,G.room.dp,G.room.un]
def zjl{k:Hy}{A}(r:yaF k A):A.units+16<cLine:=by have:=r.units;lia
abbrev Pr(P:Prop):Type:=Option (PLift P)
abbrev YE(J:Gs)(R:Kx)(e:AW)(c:Ce):Prop:=∀m S X,Good J R m S X->PE X e (tE S X c)
abbrev YT(J:Gs)(R:Kx)(e:AW)(c:Ce):Prop:=∀m S X,Good J R m S X->PT X e (tTs S X c)
abbrev YW(J:Gs)(R:Kx)(e:AW)(c:Ce):Prop:=∀m S X,Good J R m S X->PW X e (tTs S X c)
abbrev YA(J:Gs)(R:Kx)(e:Hx AW)(c:Ces):Prop:=∀m S X,Good J R m S X->PA X e (tAs S X c)
abbrev YO(J:Gs)(R:Kx)(e:Option AW)(c:Ce):Prop:=∀m S X,Good J R m S X->PO X e (tO S X c)
abbrev YS(J:Gs)(R:Kx)(s:Bg)(c:Cs):Prop:=∀m S X,Good J R m S X->PS X s (tS S X c)
abbrev YSs(J:Gs)(R:Kx)(s:Hx Bg)(c:Css):Prop:=∀m S X,Good J R m S X->PSs X s (tSs S X c)
def an{P Q:Prop}(a:Pr P)(k:P->Pr Q):Pr Q:=match a with
 |some h=>k h.down
 |none=>AF
def ok{P:Prop}(h:P):Pr P:=AA #[h]
def ask(p:Prop)[Decidable p]:Pr p:=if h:p then AA #[h]else AF
def nst:AW->IB
 |.Starred _ _=>AC
 |_=>AD
def zdk{a:AW}{es:Hx AW}{env:BG}(h:nst a=AD):starEach (a::es) env=(AC,eval a env)::starEach es env:=by cases a<;>first|rfl|cases h
def ybw(es:Hx AW):IB:=es.all nst
theorem stars{pos env}:∀{es:Hx AW},ybw es=AD->(backTo pos (starEach es env)).any (·.1)=AC
 |[],_=>rfl
 |a::es,h=>by erw[ybw,Aq,AL]at h;rw[zdk h.1];have:=stars (pos:=pos) (env:=env) (es:=es) h.2;simpa [backTo] using this
def nco:AW->IB
 |.ListComp ..=>AC
 |.SetComp ..=>AC
 |.DictComp ..=>AC
 |_=>AD
theorem swp{a:AW}{t}{l:Hy}{env:BG}(h:nco a=AD):swapsWith a t l env=pure false:=by cases a<;>first|rfl|cases h
def nse:AW->IB
 |.Set ..=>AC
 |_=>AD
theorem fse{a:AW}{env}(h:nse a=AD):∀x,foldedSetIterable a env x=pure x:=by cases a<;>first|exact λ_=>rfl|cases h
theorem nmk{b}{a:AW}(h:nse a=AD):behindInMarks b a=false:=by cases a<;>first|rfl|cases h
def nsl:AW->IB
 |.Slice ..=>AC
 |_=>AD
theorem pix{a:AW}(h:nsl a=AD):ybm a:=by cases a<;>first|exact λ_ _=>rfl|cases h
theorem nos{a:AW}(h:nsl a=AD):ycO a:=pix h
def ntu:AW->IB
 |.Tuple ..=>AC
 |_=>AD
def nte:AW->IB
 |.UnaryOp ..=>AC
 |.BoolOp ..=>AC
 |.IfExp ..=>AC
 |.Compare ..=>AC
 |_=>AD
theorem itr{a:AW}{env}(h:nte a=AD):∀whole,isTrue a env whole=(do let v <-whole;standAt a.pos;holding [v] (truthy v)):=by cases a<;>first|exact λ_=>rfl|cases h
def nca:AW->IB
 |.Call ..=>AC
 |_=>AD
def zom{a:AW}{f env}{w:Gd AH}(h:nca a=AD):attributeBase a f env w=w:=by cases a<;>first|rfl|cases h
def mOp(a:DI)(o:BOp):Pr (∀S X,OpR X (binaryOp a) (rT2 S X (yw o))):=
 match a,o with
 |.Add,.add=>ok (λ_ _=>znv)
 |.Sub,.sub=>ok (λ_ _=>zne)
 |.Mult,.mul=>ok (λ_ _=>znu)
 |.FloorDiv,.fdiv=>ok (λ_ _=>zk0)
 |.Mod,.mod=>ok (λ_ _=>zmj)
 |.Pow,.pow=>ok (λ_ _=>zlu)
 |.LShift,.shl=>ok (λ_ _=>znt)
 |.RShift,.shr=>ok (λ_ _=>zmK)
 |.BitAnd,.band=>ok (λ_ _=>zkX)
 |.BitOr,.bor=>ok (λ_ _=>zlD)
 |.BitXor,.bxor=>ok (λ_ _=>zkn)
 |_,_=>AF
def mCm(a:De)(o:COp):Pr (∀m S X,yaF m X.A->OpR X (compareOp a) (rT2 S X (yH o))):=
 match a,o with
 |.Eq,.eq=>ok (λ_ _ _ r=>zn7 r.units)
 |.NotEq,.ne=>ok (λ_ _ _ r=>zob r.units)
 |.Lt,.lt=>ok (λ_ _ _ _=>zoi)
 |.LtE,.le=>ok (λ_ _ _ _=>znH)
 |.Gt,.gt=>ok (λ_ _ _ _=>zn5)
 |.GtE,.ge=>ok (λ_ _ _ _=>znY)
 |.In,.isin=>ok (λ_ _ _ _=>znT)
 |.NotIn,.notin=>ok (λ_ _ _ _=>zhP)
 |_,_=>AF
def ydG(sc:BN)(x:AT):IB:=match sc.names.lookup x with
 |some .local=>AD
 |some .cell=>AD
 |some .free=>AD
 |_=>AC
def zhh{sc}{x:AT}(h:ydG sc x=AD):Vis sc x:=by
 unfold ydG at h;split at h
 .exact .inl ‹_›
 .exact .inr (.inl ‹_›)
 .exact .inr (.inr ‹_›)
 .cases h
def ydR(sc:BN)(x:AT):IB:=match sc.names.lookup x with
 |some .local=>AD
 |some .cell=>AD
 |_=>AC
def zg7{sc}{x:AT}(h:ydR sc x=AD):Loc sc x:=by
 unfold ydR at h;split at h
 .exact .inl ‹_›
 .exact .inr ‹_›
 .cases h
def pln(x:AT):IB:=!(x==("__debug__":AT))&&!(x==("__classdict__":AT))&&!(x==("__name__":AT))
def ze5{x:AT}(h:pln x=AD):(x==("__debug__":AT))=false:=by erw[pln,AL,Bb]at h;exact h.1.1
def zoz{x:AT}(h:pln x=AD):(x==("__classdict__":AT))=false:=by erw[pln,AL,Bb]at h;exact h.1.2
def zoA{x:AT}(h:pln x=AD):x ≠ "__name__":=by erw[pln,AL,Bb]at h;intro e;rw[e]at h;exact IG h.2 ⋯
def hf(R:Kx){P:Prop}(f:R.h=AC->Pr P):Pr P:=if h:R.h=AC then f h else AF
def glB(R:Kx)(x:AT):IB:=decide (R.sc.names.lookup x=AA .globalImplicit)&&pln x
def zF{J R}{m:Hy}{S X}(G:Good J R m S X){x:AT}(h:glB R x=AD):Gl X x:=by erw[glB,AL,IA]at h;show X.env.scope.names.lookup x=_;rw[G.sc];exact h.1
def zaL{R}{x:AT}(h:glB R x=AD):pln x=true:=by erw[glB,AL]at h;exact h.2
def setB(R:Kx)(i:Hy)(x:AT):IB:=decide (R.N[i]?=AA x)&&decide R.N.Nodup&&ydR R.sc x&&(R.own || decide (R.sc.names.lookup x=AA .local))&&pln x
structure yei(X:Cx)(i:Hy)(x:AT):Prop where
 d:X.N.Nodup
 i:X.N[i]?=AA x
 l:Loc X.env.scope x
 f:X.fn x=AD \/ X.env.scope.names.lookup x=AA .local
 p:pln x=AD
def zaK{J R}{m:Hy}{S X}(G:Good J R m S X){i:Hy}{x:AT}(h:setB R i x=AD):yei X i x:=by
 erw[setB,AL,Bc,IA]at h;let#[#[#[#[b,c],d],a],f]:=h;refine#[by rw[G.n];exact c,by rw[G.n];exact b,by rw[G.sc];exact zg7 d,?_,f];rcases a with a|a
 .exact .inl ((G.own a).2.1 x)
 .exact .inr (by rw[G.sc];exact a)
def gFn(J:Gs)(x:AT)(i:Hy):Pr (J.g x=AA (.fn i)):=match h:J.g x with
 |some (.fn j)=>if e:j=i then AA #[by subst e;rfl]else AF
 |_=>AF
section
variable {J:Gs}{R:Kx}{ca cb cc:Ce}{ces:Ces}
def yfs(v:PV)(e:AW):Pr (YE J R e (.cst v)):=
 match e with
 |.Constant (.int i) _ _=>match v with
  |.int j=>an (ask (i=j)) λh=>ok (λ_ _ _ _=>by cases h;exact zlH)
  |_=>AF
 |.Constant (.bool i) _ _=>match v with
  |.bl j=>an (ask (i=j)) λh=>ok (λ_ _ _ _=>by cases h;exact znR)
  |_=>AF
 |.Constant .none _ _=>match v with
  |.non=>ok (λ_ _ _ _=>zlE)
  |_=>AF
 |.Constant (.str i) _ _=>match v with
  |.str j=>an (ask (i=j)) λh=>ok (λ_ _ _ _=>by cases h;exact zlX)
  |_=>AF
 |_=>AF
def yfl(i:Hy)(e:AW):Pr (YE J R e (.var i)):=
 match e with
 |.Name x _=>an (ask (R.N[i]?=AA x/\ydG R.sc x=AD/\pln x=AD)) λh=>ok (λ_ _ _ G=>zmZ (by rw[G.n];exact h.1) (by rw[G.sc];exact zhh h.2.1) (ze5 h.2.2) (zoz h.2.2))
 |_=>AF
def ygE(o:BOp)(e:AW)(c:∀x,Pr (YE J R x ca))(d:∀x,Pr (YE J R x cb)):Pr (YE J R e (.bin o ca cb)):=
 match e with
 |.BinOp a f b _=>
  an (mOp f o) λg=>an (c a) λj=>an (d b) λl=>ok (λm S X G=>zl3 (g S X) (j m S X G) (l m S X G))
 |_=>AF
def yhc(e:AW)(b:∀x,Pr (YE J R x ca)):Pr (YE J R e (.neg ca)):=
 match e with
 |.UnaryOp .USub a _=>
  an (b a) λc=>ok (λm S X G=>zl4 (c m S X G))
 |_=>AF
def ygs(e:AW)(b:∀x,Pr (YE J R x ca)):Pr (YE J R e (.not ca)):=
 match e with
 |.UnaryOp .Not a _=>
  an (b a) λc=>ok (λm S X G=>zng (c m S X G))
 |_=>AF
def yg1(o:COp)(e:AW)(c:∀x,Pr (YE J R x ca))(d:∀x,Pr (YE J R x cb)):Pr (YE J R e (.cmp o ca cb)):=
 match e with
 |.Compare a [f] [b] _=>
  an (mCm f o) λg=>an (ask (nse b=AD)) λj=>an (c a) λl=>an (d b) λn=>ok (λm S X G=>znn (g _ S X G.room) (l m S X G) (n m S X G) (nmk j))
 |_=>AF
def yeV(o:COp)(e:AW)(c:∀x,Pr (YE J R x ca))(d:∀x,Pr (YE J R x cb)):Pr (YT J R e (.cmp o ca cb)):=
 match e with
 |.Compare a [f] [b] _=>
  an (mCm f o) λg=>an (ask (nse b=AD)) λj=>an (c a) λl=>an (d b) λn=>ok (λm S X G=>znd (g _ S X G.room) (l m S X G) (n m S X G) (nmk j))
 |_=>AF
theorem lmk{d a:De}{b c:AW}(h:nse c=AD):lastMarks [d,a] [b,c]=false:=nmk h
def yhi(o p:COp)(e:AW)(f:∀x,Pr (YE J R x ca))(g:∀x,Pr (YE J R x cb))(j:∀x,Pr (YE J R x cc)):Pr (YE J R e (.chain o p ca cb cc)):=
 match e with
 |.Compare a [l,d] [b,c] _=>
  an (mCm l o) λn=>an (mCm d p) λq=>an (ask (nse c=AD)) λr=>an (f a) λt=>an (g b) λu=>an (j c) λw=>ok (λm S X G=>zij (n _ S X G.room) (q _ S X G.room) (t m S X G) (u m S X G) (w m S X G) (lmk r))
 |_=>AF
def yeu(o p:COp)(e:AW)(f:∀x,Pr (YE J R x ca))(g:∀x,Pr (YE J R x cb))(j:∀x,Pr (YE J R x cc)):Pr (YT J R e (.chain o p ca cb cc)):=
 match e with
 |.Compare a [l,d] [b,c] _=>
  an (mCm l o) λn=>an (mCm d p) λq=>an (ask (nse c=AD)) λr=>an (f a) λt=>an (g b) λu=>an (j c) λw=>ok (λm S X G=>zim (n _ S X G.room) (q _ S X G.room) (t m S X G) (u m S X G) (w m S X G) (lmk r))
 |_=>AF
def ygz(e:AW)(d:∀x,Pr (YT J R x cc))(f:∀x,Pr (YE J R x ca))(g:∀x,Pr (YE J R x cb)):Pr (YE J R e (.ite cc ca cb)):=
 match e with
 |.IfExp c a b _=>
  an (d c) λj=>an (f a) λl=>an (g b) λn=>ok (λm S X G=>znz (j m S X G) (l m S X G) (n m S X G))
 |_=>AF
def yf0(e:AW)(a:∀x,Pr (YA J R x ces)):Pr (YE J R e (.tup ces)):=
 match e with
 |.Tuple b _ _=>
  an (a b) λc=>ok (λm S X G=>zlL (c m S X G))
 |_=>AF
def yhK(e:AW)(a:∀x,Pr (YA J R x ces)):Pr (YE J R e (.lst ces)):=
 match e with
 |.List b _=>
  an (a b) λc=>ok (λm S X G=>zni (c m S X G))
 |_=>AF
def yeO(e:AW)(a:∀x,Pr (YA J R x ces)):Pr (YE J R e (.newl ces)):=
 match e with
 |.List b _=>
  an (a b) λc=>ok (λm S X G=>zkE (c m S X G))
 |_=>AF
def yeW(t:IB)(e:AW):Pr (YE J R e (.dict0 t)):=
 match t,e with
 |true,.Dict [] [] _=>ok (λ_ _ _ _=>zfU)
 |false,.Dict [] [] _=>ok (λ_ _ _ _=>zgc)
 |_,_=>AF
def mIdx(e:AW)(c:∀x,Pr (YE J R x ca))(d:∀x,Pr (YE J R x cb)):Pr (YE J R e (.idx ca cb)):=
 match e with
 |.Subscript a b _=>
  an (ask (nsl b=AD)) λf=>an (c a) λg=>an (d b) λj=>ok (λm S X G=>znj (g m S X G) (j m S X G) (pix f))
 |_=>AF
def yhd(e:AW)(b:∀x,Pr (YE J R x ca))(c:∀x,Pr (YO J R x cb))(d:∀x,Pr (YO J R x cc)):Pr (YE J R e (.slc ca cb cc)):=
 match e with
 |.Subscript a (.Slice l h AF _) _=>
  an (b a) λf=>an (c l) λg=>an (d h) λj=>ok (λm S X G=>zm0 (f m S X G) (g m S X G) (j m S X G))
 |_=>AF
def yfw(c:Ce)(e:Option AW)(b:∀x,Pr (YE J R x c)):Pr (YO J R e c):=
 match e with
 |none=>match c with
  |.cst .non=>ok (λ_ _ _ _=>zk4)
  |_=>AF
 |some a=>
  an (b a) λd=>ok (λm S X G=>zkp (d m S X G))
inductive Fs(J:Gs)(R:Kx):Ces->Type where
 |nil:Fs J R .nil
 |cons {c:Ce} {cs:Ces} (f:∀x,Pr (YE J R x c)) (r:Fs J R cs):Fs J R (.cons c cs)
def yaV:{ces:Ces}->Fs J R ces->(es:Hx AW)->Pr (YA J R es ces)
 |_,.nil,[]=>ok λ_ _ _ _=>zdV
 |_,.cons f r,a::es=>an (ask (nst a=AD)) λb=>an (f a) λc=>an (yaV r es) λd=>ok λm S X G=>za8 (c m S X G) (d m S X G) (zdk b)
 |_,_,_=>AF
structure Sp2(J:Gs)(R:Kx)(ces:Ces)(np:Hy) where
 c1:Ces
 c2:Ces
 f1:Fs J R c1
 f2:Fs J R c2
 h:yco c1 c2=ces
 l:ycW c1=np
def ycj:(a:Hy)->{ces:Ces}->Fs J R ces->Option (Sp2 J R ces a)
 |0,ces,F=>AA #[.nil,ces,.nil,F,rfl,rfl]
 |n+1,_,.cons f r=>match ycj n r with
  |some s=>AA #[.cons _ s.c1,s.c2,.cons f s.f1,s.f2,by rw[yco,s.h],by rw[ycW,s.l]]
  |none=>AF
 |_,_,_=>AF
structure It2(J:Gs)(R:Kx)(ces:Ces)(sh:Hx (Option Hz))(kws:Hx Bo) where
 it:Hx (Sum Ce Hz)
 h:yar it=ces
 s:it.map shC=sh
 k:∀m S X,Good J R m S X->PK X kws (tK S X it)
def ybN:(a:Hx (Option Hz))->{ces:Ces}->Fs J R ces->(kws:Hx Bo)->Option (It2 J R ces a kws)
 |[],_,.nil,[]=>AA #[[],rfl,rfl,λ_ _ _ _=>zmT]
 |none::a,.cons c _,.cons f r,#[_,e,_] :: kws=>match f e,ybN a r kws with
  |some h,AA q=>AA #[.inl c::q.it,by rw[yar,q.h],by rw[AN,q.s];rfl,λm S X G=>znX (h.down m S X G) (q.k m S X G)]
  |_,_=>AF
 |some i::a,.cons (.cst (.int j)) _,.cons _ r,kws=>if e:i=j then match ybN a r kws with
  |some q=>AA #[.inr i::q.it,by rw[yar,q.h,e],by rw[AN,q.s];rfl,λm S X G=>zn0 (q.k m S X G)]
  |none=>AF
  else AF
 |_,_,_,_=>AF
def kwN:Hx Bo->Hx AT
 |[]=>[]
 |#[AA x,_,_] :: r=>x::kwN r
 |_::r=>kwN r
def kwB:Hx Bo->IB
 |[]=>AD
 |#[AA _,_,_] :: r=>kwB r
 |_=>AC
def zmf{pos env}:∀{kws:Hx Bo},kwB kws=AD->(backToKw pos (keywordEach kws env)).all (·.1.isSome)=AD/\(backToKw pos (keywordEach kws env)).filterMap (·.1)=kwN kws/\(backToKw pos (keywordEach kws env)).any (·.1.isNone)=AC
 |[],_=>#[rfl,rfl,rfl]
 |#[AA x,e,_] :: r,h=>by let#[a,b,c]:=zmf (pos:=pos) (env:=env) (kws:=r) h;erw[backToKw]at a b c ⊢;erw[keywordEach,AN,Aq,CW,By,a,b,c,kwN];simp
def ygq(c:R.h=AC)(i:Hy)(F:Fs J R ces)(e:AW):Pr (YE J R e (.call i ces)):=
 match e with
 |.Call (.Name x _) [] [] _=>match F with
  |.nil=>an (ask (glB R x=AD)) λb=>an (gFn J x i) λhf=>ok λm S X G=>by let#[f,fd,r,g,l,n,d]:=G.glo.F x i hf;exact zhW g ((G.rm c).mono (C4 m)) (zF G b) l n d (ze5 (zaL b))
  |_=>AF
 |.Call (.Name x _) (a::es) kws _=>an (ask (glB R x=AD/\nst a=AD/\ybw es=AD)) λb=>
  match t:J.g x with
  |some (.fn j)=>match kws with
   |[]=>an (ask (j=i)) λy=>an (yaV F (a::es)) λo=>ok λm S X G=>by subst y;let#[f,fd,r,g,l,n,d]:=G.glo.F x j t;exact zkz g ((G.rm c).mono (C4 m)) (zF G b.1) l n d (o m S X G) (ze5 (zaL b.1)) (zdk b.2.1) (stars b.2.2)
   |_=>AF
  |some (.fnD j)=>match z:J.kb j (es.length+1) (kwN kws)with
   |none=>AF
   |some u=>match ycj (es.length+1) F with
    |none=>AF
    |some s=>match ybN u s.f2 kws with
     |none=>AF
     |some q=>an (ask (kwB kws=AD/\j=i)) λp=>an (yaV s.f1 (a::es)) λo=>ok λm S X G=>by
      let#[p,rfl]:=p;let#[f,fd,r,g,l,n,d]:=G.glo.Q x j _ _ u t z;rw[<-s.h,<-q.h];rw[<-q.s]at d;have w:=λ{pos}=>zmf (pos:=pos) (env:=X.env) p;exact zh9 g ((G.rm c).mono (C4 m)) (zF G b.1) l n d s.l (o m S X G) (q.k m S X G) w.1 w.2.1 (ze5 (zaL b.1)) (zdk b.2.1) (by rw[w.2.2,HC];exact stars (es:=a::es) (by erw[ybw,Aq,b.2.1,Az];exact b.2.2))
  |_=>AF
 |_=>AF
abbrev yep(b:Blt)(x:AT):Prop:=∀S X,X.calm=AD->(∃id,yaa X (.builtin id) (rB S X b)/\bootBuiltins x=AA (.builtin id)) \/ ∃T,yaa X (.type T) (rB S X b)/\bootBuiltins x=AA (.type T)
def yhx(b:Blt)(x:AT):Pr (yep b x):=
 match b with
 |.len=>an (ask (x="len")) λh=>ok λ_ _ _=>.inl #[_,znp,h ▸ zmz]
 |.int=>an (ask (x="int")) λh=>ok λ_ _ _=>.inr #[_,zmx,h ▸ zi8]
 |.min=>an (ask (x="min")) λh=>ok λ_ _ c=>.inl #[_,zmI c,h ▸ zln]
 |.max=>an (ask (x="max")) λh=>ok λ_ _ c=>.inl #[_,znh c,h ▸ zlp]
 |.tuple=>an (ask (x="tuple")) λh=>ok λ_ _ _=>.inr #[_,ziP,h ▸ zeM]
 |.all=>an (ask (x="all")) λh=>ok λ_ _ c=>.inl #[_,zlz c,h ▸ zlU]
 |.sum=>an (ask (x="sum")) λh=>ok λ_ _ c=>.inl #[_,znC c,h ▸ zmE]
 |_=>AF
def ygC(b:Blt)(F:Fs J R ces)(e:AW):Pr (YE J R e (.blt b ces)):=
 match e with
 |.Call (.Name x _) (a::j) [] _=>hf R λd=>an (ask (glB R x=AD/\nst a=AD/\ybw j=AD/\J.b x=AD)) λc=>an (yhx b x) λn=>an (yaV F (a::j)) λl=>ok λm S X G=>by
  rcases n S X (G.calm d)with⟨id,f,g⟩|⟨T,f,g⟩
  .exact zns f (zF G c.1) (G.glo.B x c.2.2.2) g (l m S X G) (zoA (zaL c.1)) (ze5 (zaL c.1)) (zdk c.2.1) (stars c.2.2.1)
  .exact zj5 f (zF G c.1) (G.glo.B x c.2.2.2) g (l m S X G) (zoA (zaL c.1)) (ze5 (zaL c.1)) (zdk c.2.1) (stars c.2.2.1)
 |_=>AF
def ygH(b:Blt)(F:Fs J R ces)(e:AW):Pr (YE J R e (.blt b ces)):=
 match b with
 |b=>ygC b F e
def zoG{pos env}{b:AW}(h:nst b=AD):((backTo pos (starEach [b] env)).all (λx=>!x.1)&&(backToKw pos (keywordEach [] env)).all (λx=>x.1.isSome)&&decide (([b]:Hx AW).length+([]:Hx Bo).length+(if ([]:Hx Bo).isEmpty then 0 else 1)<30))=true:=by rw[zdk h];rfl
def tyB(t:Ty)(x:AT):Pr (yc3 t=AD/\bootBuiltins x=AA (.type (tyN t))):=
 match t with
 |.int=>an (ask (x="int")) λh=>ok #[rfl,h ▸ zi8]
 |.bool=>an (ask (x="bool")) λh=>ok #[rfl,h ▸ zkq]
 |.str=>an (ask (x="str")) λh=>ok #[rfl,h ▸ zm8]
 |.tuple=>an (ask (x="tuple")) λh=>ok #[rfl,h ▸ zeM]
 |_=>AF
def ygP(c:Hx Ty)(e:AW)(f:∀x,Pr (YE J R x ca)):Pr (YE J R e (.isi ca c)):=
 match c,e with
 |[t],.Call (.Name n _) [a,.Name x _] [] _=>an (ask (n="isinstance"/\glB R n=AD/\J.b n=AD/\glB R x=AD/\J.b x=AD/\J.t t=AD/\nst a=AD)) λh=>an (tyB t x) λd=>an (f a) λg=>ok λm S X G=>by let#[rfl,j,l,b,o,p,q]:=h;exact zmu (G.glo.T t p) d.1 (zF G j) (G.glo.B _ l) (zF G b) (G.glo.B _ o) d.2 (g m S X G) (zoA (zaL b)) (ze5 (zaL b)) (zdk q) rfl
 |_,_=>AF
mutual
noncomputable def yeX:(a b:PV)->Pr (a=b)
 |.non,.non=>ok rfl
 |.bl a,.bl b=>an (ask (a=b)) λh=>ok (by rw[h])
 |.int a,.int b=>an (ask (a=b)) λh=>ok (by rw[h])
 |.str a,.str b=>an (ask (a=b)) λh=>ok (by rw[h])
 |.tp k a,.tp j b=>an (ask (k=j)) λh=>an (ycK a b) λg=>ok (by rw[h,g])
 |.lst a,.lst b=>an (ycK a b) λg=>ok (by rw[g])
 |_,_=>AF
noncomputable def ycK:(a b:Hx PV)->Pr (a=b)
 |[],[]=>ok rfl
 |a::x,b::y=>an (yeX a b) λh=>an (ycK x y) λg=>ok (by rw[h,g])
 |_,_=>AF
end
def eqD:(a b:Hx (AT×PV))->Pr (a=b)
 |[],[]=>ok rfl
 |(k,a)::x,(j,b)::y=>an (ask (k=j)) λe=>an (yeX a b) λh=>an (eqD x y) λg=>ok (by rw[e,h,g])
 |_,_=>AF
def ygg(v:PV)(e:AW):Pr (YE J R e (.cst v)):=
 match e with
 |.Name x _=>match h:J.g x with
  |some (.cst u)=>an (ask (glB R x=AD)) λa=>an (yeX u v) λc=>ok λm S X G=>by subst c;exact znG (zF G a) (G.glo.C x u h) (ze5 (zaL a))
  |some (.fn i)=>match v with
   |.fnc j=>an (ask (glB R x=AD/\J.fv x i=AD/\i=j)) λa=>ok λm S X G=>by let#[b,d,rfl]:=a;exact zkl (zF G b) (G.glo.V x i h d) (λB I H=>by erw[yd]) (ze5 (zaL b))
   |_=>AF
  |_=>AF
 |e=>yfs v e
def yg4(D:Hx (AT×PV))(e:AW)(c:∀x,Pr (YE J R x cb)):Pr (YE J R e (.dix D cb)):=
 match e with
 |.Subscript (.Name x _) b _=>match h:J.g x with
  |some (.dct E)=>an (ask (glB R x=AD/\nsl b=AD)) λa=>an (eqD E D) λd=>an (c b) λf=>ok λm S X G=>by subst d;exact zmi (zF G a.1) (G.glo.D x E h) (f m S X G) (nos a.2) (ze5 (zaL a.1))
  |_=>AF
 |_=>AF
def yg7(D:Hx (AT×PV))(e:AW)(c:∀x,Pr (YE J R x ca)):Pr (YE J R e (.din ca D)):=
 match e with
 |.Compare a [.In] [.Name x _] _=>match h:J.g x with
  |some (.dct E)=>an (ask (glB R x=AD)) λb=>an (eqD E D) λd=>an (c a) λf=>ok λm S X G=>by subst d;exact zmt (zF G b) (G.glo.D x E h) (f m S X G) rfl (ze5 (zaL b))
  |_=>AF
 |_=>AF
def yey(D:Hx (AT×PV))(e:AW)(c:∀x,Pr (YE J R x ca)):Pr (YT J R e (.din ca D)):=
 match e with
 |.Compare a [.In] [.Name x _] _=>match h:J.g x with
  |some (.dct E)=>an (ask (glB R x=AD)) λb=>an (eqD E D) λd=>an (c a) λf=>ok λm S X G=>by subst d;exact zl5 (zF G b) (G.glo.D x E h) (f m S X G) rfl (ze5 (zaL b))
  |_=>AF
 |_=>AF
def zoH{pos env}:∀{es:Hx AW},ybw es=AD->((backTo pos (starEach es env)).all λx=>!x.1)=AD
 |[],_=>rfl
 |a::es,h=>by erw[ybw,Aq,AL]at h;have:=zoH (pos:=pos) (env:=env) (es:=es) h.2;erw[backTo]at this ⊢;rw[zdk h.1,AN,Aq,this];rfl
def zjj{o:AW}{n}{ap pos:Bf}{es:Hx AW}{env:BG}(b:nca o=AD)(c:ybw es=AD)(d:es.length<30)(g:(ap.endLine==pos.line)=AD):
  eval (.Call (.Attribute o n ap) es [] pos) env=(do
   let a <-eval o env
   standAt ap.atName
   let (f,first) <-holding [a] (getMethod a n (do return (<-importBound o env).getD AD))
   callWith pos f first (backTo pos (starEach es env)) (backToKw pos (keywordEach [] env))):=by
 have hf:methodCallForm (es.length+([]:Hx Bo).length) (backTo pos (starEach es env)) (backToKw pos (keywordEach [] env))=true:=by erw[methodCallForm,zoH c,Az];simp[backToKw,keywordEach,d]
 rw[arm_eval_Call,zom b];erw[methodCall,calleeOf,methodCallPos,hf,g,IF,Cv,IB.or_true,pure_bind]
def ygJ(c:Hy)(f:AT)(e:AW)(d:∀x,Pr (YE J R x ca)):Pr (YE J R e (.fld c ca f)):=
 match e with
 |.Attribute a g _=>an (ask (g=f/\J.fl c f=AD/\nca a=AD)) λh=>an (d a) λj=>ok λm S X G=>by let#[rfl,b,l]:=h;exact zmC (G.glo.A c g b).1 (G.glo.A c g b).2 (j m S X G) (zom l)
 |_=>AF
def yf8(b:R.h=AC)(c i:Hy)(F:Fs J R ces)(e:AW):Pr (YE J R e (.new c i ces)):=
 match e with
 |.Call (.Name x _) [] [] _=>match F with
  |.nil=>match h:J.g x with
   |some (.cls d g)=>an (ask (d=c/\g=i/\glB R x=AD)) λl=>ok λm S X G=>by let#[rfl,rfl,j]:=l;let#[q,f,fd,t,n,o,p]:=G.glo.N x d g h;exact zky n o (G.rm b) (zF G j) q p (ze5 (zaL j))
   |_=>AF
  |_=>AF
 |.Call (.Name x _) (a::r) [] _=>match h:J.g x with
  |some (.cls d g)=>an (ask (d=c/\g=i/\glB R x=AD/\nst a=AD/\ybw r=AD)) λl=>an (yaV F (a::r)) λu=>ok λm S X G=>by let#[rfl,rfl,j,w,y]:=l;let#[q,f,fd,t,n,o,p]:=G.glo.N x d g h;exact znD n o (G.rm b) (zF G j) q p (u m S X G) (ze5 (zaL j)) (zdk w) (stars y)
  |_=>AF
 |_=>AF
def yf6(b:R.h=AC)(c i:Hy)(n:AT)(F:Fs J R ces)(e:AW)(w:∀x,Pr (YE J R x ca)):Pr (YE J R e (.mcl c i n ca ces)):=
 match e with
 |.Call (.Attribute (.Name x p) d ap) [] [] pos=>match F with
  |.nil=>an (ask (d=n/\J.me c n=AA i/\(ap.endLine==pos.line)=AD)) λh=>an (w (.Name x p)) λg=>ok λm S X G=>by let#[rfl,j,l]:=h;let#[q,f,fd,A,o,r,t]:=G.glo.M c d i j;exact zkJ q o r ((G.rm b).mono (C4 m)) t (g m S X G) (zjj rfl rfl (Hy.zero_lt_succ _) l)
  |_=>AF
 |.Call (.Attribute (.Name x p) d ap) (a::u) [] pos=>an (ask (d=n/\J.me c n=AA i/\nst a=AD/\ybw u=AD/\(ap.endLine==pos.line)=AD/\(a::u).length<30)) λh=>an (w (.Name x p)) λg=>an (yaV F (a::u)) λB=>ok λm S X G=>by let#[rfl,j,y,z,l,C]:=h;let#[q,f,fd,A,o,r,t]:=G.glo.M c d i j;exact zno q o r ((G.rm b).mono (C4 m)) t (g m S X G) (B m S X G) (zdk y) (stars z) (zjj rfl (by erw[ybw,Aq,y,Az];exact z) C l)
 |_=>AF
def yhB(k:Mth)(F:Fs J R ces)(e:AW)(q:∀x,Pr (YE J R x ca)):Pr (YE J R e (.mth k ca ces)):=
 match k,e,F with
 |.append,.Call (.Attribute a n ap) [b] [] pos,.cons f .nil=>an (ask (n="append"/\nca a=AD/\nst b=AD/\(ap.endLine==pos.line)=AD)) λh=>an (q a) λg=>an (f b) λj=>ok λm S X G=>by let#[rfl,l,d,o]:=h;exact zgs (g m S X G) (j m S X G) (zdk d) (zom l) o (zoG d)
 |.get,.Call (.Attribute a n ap) [b,c] [] pos,.cons f (.cons r .nil)=>an (ask (n="get"/\nca a=AD/\nst b=AD/\nst c=AD/\(ap.endLine==pos.line)=AD)) λh=>an (q a) λg=>an (f b) λj=>an (r c) λt=>ok λm S X G=>by let#[rfl,l,d,p,o]:=h;exact zlv (zjl G.room) (g m S X G) (j m S X G) (t m S X G) #[zom l,by rw[zdk d,zdk p];rfl,o,by rw[zdk d,zdk p];rfl]
 |.insert,.Call (.Attribute a n ap) [b,c] [] pos,.cons f (.cons r .nil)=>an (ask (n="insert"/\nca a=AD/\nst b=AD/\nst c=AD/\(ap.endLine==pos.line)=AD)) λh=>an (q a) λg=>an (f b) λj=>an (r c) λt=>ok λm S X G=>by let#[rfl,l,d,p,o]:=h;exact zg6 (g m S X G) (j m S X G) (t m S X G) (by rw[zdk d,zdk p];rfl) (by rw[zdk p];rfl) (zom l) o (by rw[zdk p];rfl) (by rw[zdk d,zdk p];rfl)
 |.rmp,.Call (.Attribute a n ap) [b] [] pos,.cons f .nil=>an (ask (n="removeprefix"/\nca a=AD/\nst b=AD/\(ap.endLine==pos.line)=AD)) λh=>an (q a) λg=>an (f b) λj=>ok λm S X G=>by let#[rfl,l,d,o]:=h;exact zlM (g m S X G) (j m S X G) (zdk d) (zom l) o (zoG d) rfl
 |_,_,_=>AF
end
structure Ev(J:Gs)(c:Ce) where
 e:∀R x,Pr (YE J R x c)
 t:∀R x,Pr (YT J R x c)
 w:∀R op l pos,Pr (YW J R (.BoolOp op l pos) c)
section
variable {J:Gs}{ca cb cc:Ce}
def w1{c:Ce}(t:∀R x,Pr (YT J R x c))(R:Kx)(b:HW)(l:Hx AW)(pos:Bf):Pr (YW J R (.BoolOp b l pos) c):=
 match b,l with
 |.And,[a]=>an (t R a) λh=>ok λm S X G=>zkM (h m S X G)
 |.Or,[a]=>an (t R a) λh=>ok λm S X G=>zll (h m S X G)
 |_,_=>AF
def plT{c:Ce}(e:∀R x,Pr (YE J R x c))(R:Kx)(x:AW):Pr (YT J R x c):=an (ask (nte x=AD)) λh=>an (e R x) λa=>ok λm S X G=>zmS (a m S X G) (itr h)
def plain{c:Ce}(e:∀R x,Pr (YE J R x c)):Ev J c:=#[e,plT e,w1 (plT e)]
def ycb{c:Ce}(e:∀R x,Pr (YE J R x c))(t:∀R x,Pr (YT J R x c)):Ev J c:=#[e,t,w1 t]
def ygW(A:Ev J ca)(R:Kx)(e:AW):Pr (YT J R e (.not ca)):=
 match e with
 |.UnaryOp .Not a _=>an (A.t R a) λh=>ok λm S X G=>zl1 (h m S X G)
 |_=>AF
def yhn(A:Ev J ca)(B:Ev J cb)(R:Kx)(e:AW):Pr (YE J R e (.and ca cb)):=
 match e with
 |.BoolOp .And (a::b::[]) _=>an (A.e R a) λd=>an (B.e R b) λf=>ok λm S X G=>zi7 (d m S X G) (zjk (f m S X G))
 |.BoolOp .And (a::b::c::r) p=>an (A.e R a) λd=>an (B.e R (.BoolOp .And (b::c::r) p)) λf=>ok λm S X G=>zi7 (d m S X G) (f m S X G)
 |_=>AF
def orE(A:Ev J ca)(B:Ev J cb)(R:Kx)(e:AW):Pr (YE J R e (.or ca cb)):=
 match e with
 |.BoolOp .Or (a::b::[]) _=>an (A.e R a) λd=>an (B.e R b) λf=>ok λm S X G=>znA (d m S X G) (zjk (f m S X G))
 |.BoolOp .Or (a::b::c::r) p=>an (A.e R a) λd=>an (B.e R (.BoolOp .Or (b::c::r) p)) λf=>ok λm S X G=>znA (d m S X G) (f m S X G)
 |_=>AF
def yel(A:Ev J ca)(B:Ev J cb)(R:Kx)(c:HW)(l:Hx AW)(pos:Bf):Pr (YW J R (.BoolOp c l pos) (.and ca cb)):=
 match c,l with
 |.And,a::b::r=>an (A.t R a) λd=>an (B.w R .And (b::r) pos) λf=>ok λm S X G=>zmP (d m S X G) (f m S X G)
 |_,_=>AF
def orW(A:Ev J ca)(B:Ev J cb)(R:Kx)(c:HW)(l:Hx AW)(pos:Bf):Pr (YW J R (.BoolOp c l pos) (.or ca cb)):=
 match c,l with
 |.Or,a::b::r=>an (A.t R a) λd=>an (B.w R .Or (b::r) pos) λf=>ok λm S X G=>zn6 (d m S X G) (f m S X G)
 |_,_=>AF
def ptW{c:Ce}(w:∀R a l pos,Pr (YW J R (.BoolOp a l pos) c))(R:Kx)(e:AW):Pr (YT J R e c):=
 match e with
 |.BoolOp a l p=>an (w R a l p) λh=>ok λm S X G=>PW.pt (h m S X G)
 |_=>AF
def yff{c:Ce}(t:∀R x,Pr (YT J R x c))(w:∀R b l pos,Pr (YW J R (.BoolOp b l pos) c))(R:Kx)(b:HW)(l:Hx AW)(pos:Bf):Pr (YW J R (.BoolOp b l pos) c):=
 match l with
 |[a]=>w1 t R b [a] pos
 |l=>w R b l pos
def yeA(A:Ev J ca)(B:Ev J cb):Ev J (.and ca cb):=#[yhn A B,ptW (yel A B),yff (ptW (yel A B)) (yel A B)]
def ygO(A:Ev J ca)(B:Ev J cb):Ev J (.or ca cb):=#[orE A B,ptW (orW A B),yff (ptW (orW A B)) (orW A B)]
end
abbrev YI(J:Gs)(R:Kx)(a l:AW)(c:Cit):Prop:=∀m S X,Good J R m S X->PI X a l (tI S X c)
abbrev YG(J:Gs)(R:Kx)(a:AW)(c:Tg):Prop:=∀m S X,Good J R m S X->PG X a (tG S X c)
section
variable {J:Gs}{R:Kx}{ca cb cc ce:Ce}{ci:Cit}
def ygM(e:∀x,Pr (YE J R x ca))(a l:AW):Pr (YI J R a l (.seq ca)):=an (e l) λh=>ok λm S X G=>zmy (h m S X G)
def iR1(b:∀x,Pr (YE J R x ca))(c l:AW):Pr (YI J R c l (.range1 ca)):=
 match l with
 |.Call (.Name x _) [a] [] _=>an (ask (x="range"/\glB R x=AD/\J.b x=AD/\nst a=AD)) λh=>an (b a) λd=>ok λm S X G=>by let#[rfl,f,g,j]:=h;exact zhi (zF G f) (G.glo.B _ g) (d m S X G) (zdk j)
 |_=>AF
def iR2(d:∀x,Pr (YE J R x ca))(f:∀x,Pr (YE J R x cb))(g l:AW):Pr (YI J R g l (.range2 ca cb)):=
 match l with
 |.Call (.Name x _) [a,b] [] _=>an (ask (x="range"/\glB R x=AD/\J.b x=AD/\nst a=AD/\nst b=AD)) λh=>an (d a) λj=>an (f b) λn=>ok λm S X G=>by let#[rfl,o,p,q,c]:=h;exact zhu (zF G o) (G.glo.B _ p) (j m S X G) (n m S X G) (by rw[zdk q,zdk c];rfl) (zdk c)
 |_=>AF
def yee(c:∀x,Pr (YE J R x ca))(b l:AW):Pr (YI J R b l (.enum ca)):=
 match b,l with
 |.Tuple _ _ _,.Call (.Name x _) [a] [] _=>an (ask (x="enumerate"/\glB R x=AD/\J.b x=AD/\nst a=AD)) λh=>an (c a) λd=>ok λm S X G=>by let#[rfl,f,g,j]:=h;exact zk8 (zF G f) (G.glo.B _ g) (d m S X G) (zdk j)
 |_,_=>AF
def yfU(f:∀x,Pr (YE J R x ca))(g:∀x,Pr (YE J R x cb))(c l:AW):Pr (YI J R c l (.zip ca cb)):=
 match c,l with
 |.Tuple _ _ _,.Call (.Name x _) [a,b] [] _=>an (ask (x="zip"/\glB R x=AD/\J.b x=AD/\nst a=AD/\nst b=AD)) λh=>an (f a) λj=>an (g b) λn=>ok λm S X G=>by let#[rfl,o,p,q,d]:=h;exact zlN (zF G o) (G.glo.B _ p) (j m S X G) (n m S X G) (by rw[zdk q,zdk d];rfl) (zdk d)
 |_,_=>AF
def iRD(d:∀x,Pr (YE J R x ca))(f:∀x,Pr (YE J R x cb))(g l:AW):Pr (YI J R g l (.rangeD ca cb)):=
 match l with
 |.Call (.Name x _) [a,b,.UnaryOp .USub (.Constant (.int i) _ _) _] [] _=>an (ask (x="range"/\glB R x=AD/\J.b x=AD/\nst a=AD/\nst b=AD/\i=1)) λh=>an (d a) λj=>an (f b) λn=>ok λm S X G=>by let#[rfl,o,p,q,c,rfl]:=h;exact zgn (zF G o) (G.glo.B _ p) (j m S X G) (n m S X G) (by rw[zdk q,zdk c];rfl) (by rw[zdk c];rfl) rfl
 |_=>AF
def gNm(R:Kx):(l:Hx Hy)->(es:Hx AW)->Pr (∀m S X,Good J R m S X->PGs X es (gNs l)/\(assignEach es X.env).length=l.length/\(assignEach es X.env).findIdx? (·.1)=AF)
 |[],[]=>ok λ_ _ _ _=>#[zjU,rfl,rfl]
 |i::l,.Name x _::es=>an (ask (setB R i x=AD)) λh=>an (gNm R l es) λa=>ok λm S X G=>by
  have s:=zaK G h;let#[b,c,d]:=a m S X G;refine#[ziI s.d s.i s.l b s.f,?_,?_]
  .simp only[assignEach,AQ,c]
  .simp only[assignEach,Hx.findIdx?_cons,d];rfl
 |_,_=>AF
def mTg(ct:Tg)(b:AW):Pr (YG J R b ct):=
 match ct,b with
 |.n i,.Name x _=>an (ask (setB R i x=AD)) λh=>ok λm S X G=>let s:=zaK G h;zkF s.d s.i s.l s.f
 |.t l,.Tuple c _ _=>hf R λa=>an (gNm R l c) λh=>ok λm S X G=>zli (G.calm a) (h m S X G).1 (h m S X G).2.1 (h m S X G).2.2
 |_,_=>AF
def tgN:AW->Hx AT
 |.Name x _=>[x]
 |.Tuple a _ _=>a.filterMap fun
  |.Name x _=>AA x
  |_=>AF
 |_=>[]
def yc1(N:Hx AT)(sl:Hx (Option Hy))(a:AW):Hx Str:=tgN a++(sl.drop (tgN a).length).filterMap λo=>o.bind λj=>N[j]?
def ybE(sc a:BN):Scope:={sc with names:=sc.names.map λ(n,k)=>if (k==Cd&&a.kind==.function&&a.names.lookup n==AA .cell)then(n,F0)else(n,k)}
def yQ(N:Hx AT)(b sc:BN)(a:Hx AT)(sl:Hx (Option Hy)):IB:=
 decide (sc.kind=.function)&&(sc.names.all λy=>y.2 != .local || decide (sc.names.lookup y.1=AA .local))&&(sc.names.all λy=>y.2 != .cell)&&(sc.names.all λy=>y.2 != .free || decide (b.names.lookup y.1=AA .cell)) &&
  ((a.zip sl).all λp=>p.2.all λj=>decide (N[j]?=AA p.1/\sc.names.lookup p.1=AA .free))&&decide (sl.length=a.length)
def zhJ{X:Cx}{sc b}{sl:Hx (Option Hy)}(h:yQ X.N X.env.scope sc b sl=AD):yab X sc b sl:=by erw[yQ,AL,IA,BA,Bc,Ib,ne_eq]at h;let#[#[#[#[#[c,d],f],g],j],l]:=h;exact zoX _ _ rfl rfl c (λy a e=>(d y a).resolve_left λz=>z e) f (λy a e=>(g y a).resolve_left λz=>z e) (λp m=>by simpa using j p m) l
theorem Good.comp{m:Hy}{S:Se}{X:Cx}(G:Good J R m S X)(sc:BN)(b:Hx AT)(j:CI):Good J #[b,ybE sc R.sc,AC,R.h] m S (cxC X sc b j):=by refine#[rfl,?_,G.calm,G.room,G.hd,(λh=>nomatch h),(λh=>nomatch h),#[G.glo.F,G.glo.Q,G.glo.C,G.glo.D,G.glo.E,G.glo.N,G.glo.B,G.glo.T,G.glo.A,G.glo.M,λy D h=>let #[c,a,f,M,d]:=G.glo.K y D h;#[c,a,f,#[M.F,M.kp,M.b],d],G.glo.V,G.glo.I,G.glo.L,G.glo.H,G.glo.Z]];show relabel sc X.env=_;rw[<-G.sc];rfl
def yfW(c:Ce)(f:∀x,Pr (YT J R x c))(b:Hx AW):Pr (∀m S X,Good J R m S X->PTs X b (tT0 S X.K c)):=
 match b with
 |[]=>match c with
  |.cst (.bl AD)=>ok λ_ _ _ _=>zhX
  |_=>AF
 |[a]=>an (f a) λh=>ok λm S X G=>zjD rfl (h m S X G)
 |_=>AF
structure ycM(J:Gs)(R:Kx)(sl:Hx (Option Hy))(ct:Tg)(ci:Cit)(cc ce:Ce)(elt tg it:AW)(ifs:Hx AW)(sc:BN):Prop where
 q:∀m S X,Good J R m S X->∃NC,yab X sc NC sl/\PI X tg it (tI S X ci)/\(∀j,PG (cxC X sc NC j) tg (tG0 S X.K ct))/\(∀j,PTs (cxC X sc NC j) ifs (tT0 S X.K cc))/\∀j,PE (cxC X sc NC j) elt (tE0 S X.K ce)
 f:yX ct sl=AD
 s:nse it=AD
def mCo(sl:Hx (Option Hy))(ct:Tg)(f:∀a l,Pr (YI J R a l ci))(C:Ev J cc)(E:Ev J ce)(b a d:AW)(c:Hx AW)(sc:BN):Pr (ycM J R sl ct ci cc ce b a d c sc):=
 an (ask (yQ R.N R.sc sc (yc1 R.N sl a) sl=AD/\yX ct sl=AD/\nse d=AD)) λh=>an (f a d) λg=>an (mTg (J:=J) (R:=#[yc1 R.N sl a,ybE sc R.sc,AC,R.h]) ct a) λn=>
  an (yfW (J:=J) (R:=#[yc1 R.N sl a,ybE sc R.sc,AC,R.h]) cc (C.t _) c) λo=>an (E.e #[yc1 R.N sl a,ybE sc R.sc,AC,R.h] b) λp=>ok #[λm S X G=>#[yc1 R.N sl a,by rw[<-G.n,<-G.sc]at h;rw[<-G.n];exact zhJ h.1,g m S X G,λj=>zkh rfl (n m S _ (G.comp sc _ j)),λj=>o m S _ (G.comp sc _ j),λj=>zjC rfl (p m S _ (G.comp sc _ j))],h.2.1,h.2.2]
def yeJ(sl:Hx (Option Hy))(ct:Tg)(f:∀a l,Pr (YI J R a l ci))(C:Ev J cc)(E:Ev J ce)(e:AW):Pr (YE J R e (.comp sl ct ci cc ce)):=
 match e with
 |.ListComp b [#[a,g,c,0]] j _=>hf R λd=>an (mCo sl ct f C E b a g c j) λh=>ok λm S X G=>by let#[t,n,o,p,q,r]:=h.q m S X G;exact zjR (G.calm d) n h.f o p q r (fse h.s)
 |_=>AF
end
section
variable {J:Gs}{R:Kx}{ca ce ck cv m:Ce}{ci:Cit}{ct:Tg}
theorem Good.compL{n:Hy}{S:Se}{X:Cx}(G:Good J R n S X)(sc:BN)(c:Hx AT)(a:AK->Hx (AT×AK))(fn:AT->IB)(j:CI):Good J #[c,ybE sc R.sc,AC,R.h] n S (cxL X sc c a fn j):=by refine#[rfl,?_,G.calm,G.room,G.hd,(λh=>nomatch h),(λh=>nomatch h),#[G.glo.F,G.glo.Q,G.glo.C,G.glo.D,G.glo.E,G.glo.N,G.glo.B,G.glo.T,G.glo.A,G.glo.M,λy D h=>let #[f,b,g,M,d]:=G.glo.K y D h;#[f,b,g,#[M.F,M.kp,M.b],d],G.glo.V,G.glo.I,G.glo.L,G.glo.H,G.glo.Z]];show relabel sc X.env=_;rw[<-G.sc];rfl
abbrev YID(J:Gs)(R:Kx)(a l:AW)(c:Cit):Prop:=∀n S X,Good J R n S X->∀D,PI X a l (tID S X c D)
def yeU(e:∀x,Pr (YE J R x ca))(a l:AW):Pr (YID J R a l (.seq ca)):=an (e l) λh=>ok λn S X G D=>zke (h n S X G)
def yhy(b:∀x,Pr (YE J R x ca))(c l:AW):Pr (YID J R c l (.range1 ca)):=
 match l with
 |.Call (.Name x _) [a] [] _=>an (ask (x="range"/\glB R x=AD/\J.b x=AD/\nst a=AD)) λh=>an (b a) λd=>ok λn S X G D=>by let#[rfl,f,g,j]:=h;exact zfp (zF G f) (G.glo.B _ g) (d n S X G) (zdk j)
 |_=>AF
end
section
variable {J:Gs}{R:Kx}
end
section
variable {J:Gs}{R:Kx}
end
mutual
noncomputable def ch(J:Gs):(c:Ce)->Ev J c
 |.cst v=>plain λR x=>ygg v x
 |.var i=>plain λR x=>yfl i x
 |.bin o a b=>plain λR x=>ygE o x ((ch J a).e R) ((ch J b).e R)
 |.neg a=>plain λR x=>yhc x ((ch J a).e R)
 |.not a=>ycb (λR x=>ygs x ((ch J a).e R)) (ygW (ch J a))
 |.and a b=>yeA (ch J a) (ch J b)
 |.or a b=>ygO (ch J a) (ch J b)
 |.cmp o a b=>ycb (λR x=>yg1 o x ((ch J a).e R) ((ch J b).e R)) (λR x=>yeV o x ((ch J a).e R) ((ch J b).e R))
 |.chain o p a b c=>ycb (λR x=>yhi o p x ((ch J a).e R) ((ch J b).e R) ((ch J c).e R)) (λR x=>yeu o p x ((ch J a).e R) ((ch J b).e R) ((ch J c).e R))
 |.ite c a b=>plain λR x=>ygz x ((ch J c).t R) ((ch J a).e R) ((ch J b).e R)
 |.tup d=>plain λR x=>yf0 x (yaV (chs J d R))
 |.lst d=>plain λR x=>yhK x (yaV (chs J d R))
 |.newl d=>plain λR x=>yeO x (yaV (chs J d R))
 |.dict0 t=>plain λR x=>yeW t x
 |.idx a i=>plain λR x=>mIdx x ((ch J a).e R) ((ch J i).e R)
 |.slc a l h=>plain λR x=>yhd x ((ch J a).e R) (λo=>yfw l o ((ch J l).e R)) (λo=>yfw h o ((ch J h).e R))
 |.call f d=>plain λR x=>hf R λh=>ygq h f (chs J d R) x
 |.blt b d=>plain λR x=>ygH b (chs J d R) x
 |.mth k o d=>plain λR x=>yhB k (chs J d R) x ((ch J o).e R)
 |.isi a g=>plain λR x=>ygP g x ((ch J a).e R)
 |.comp j q r c e=>plain λR x=>yeJ j q (chi J r R) (ch J c) (ch J e) x
 |.frz a=>plain λR x=>an ((ch J a).e R x) λh=>ok λm S X G=>zmb (h m S X G)
 |.nope=>plain λR x=>ok λ_ _ _ _=>zlb
 |.dix D a=>plain λR x=>yg4 D x ((ch J a).e R)
 |.din a D=>ycb (λR x=>yg7 D x ((ch J a).e R)) (λR x=>yey D x ((ch J a).e R))
 |.fld c a f=>plain λR x=>ygJ c f x ((ch J a).e R)
 |.new c i d=>plain λR x=>hf R λh=>yf8 h c i (chs J d R) x
 |.mcl c i n o d=>plain λR x=>hf R λh=>yf6 h c i n (chs J d R) x ((ch J o).e R)
noncomputable def chs(J:Gs):(a:Ces)->(R:Kx)->Fs J R a
 |.nil,_=>.nil
 |.cons c a,R=>.cons (λx=>(ch J c).e R x) (chs J a R)
noncomputable def chd(J:Gs):(c:Cit)->(R:Kx)->∀b l,Pr (YID J R b l c)
 |.seq a,R=>yeU ((ch J a).e R)
 |.range1 a,R=>yhy ((ch J a).e R)
 |_,_=>λ_ _=>AF
noncomputable def chi(J:Gs):(c:Cit)->(R:Kx)->∀d l,Pr (YI J R d l c)
 |.seq a,R=>ygM ((ch J a).e R)
 |.range1 a,R=>iR1 ((ch J a).e R)
 |.range2 a b,R=>iR2 ((ch J a).e R) ((ch J b).e R)
 |.enum a,R=>yee ((ch J a).e R)
 |.zip a b,R=>yfU ((ch J a).e R) ((ch J b).e R)
 |.rangeD a b,R=>iRD ((ch J a).e R) ((ch J b).e R)
 |_,_=>λ_ _=>AF
end
section
variable {J:Gs}{R:Kx}{ca cb cc ce:Ce}{ci:Cit}{ct:Tg}{cs cs':Css}{ces:Ces}
def swB(a:BN)(x:AT)(b pos:Bf)(sc:BN):IB:=(if a.kind.isAnnotationScope then EC else a.kind)==.function&&a.names.lookup x==AA .local&&b.line==pos.line&&!(sc.names.any λ(n,k)=>n==x&&(k==.local || k==.cell))
def zo5{a gs sc pos b x}{l:Hy}{env:BG}:swapsWith (.ListComp a gs sc pos) (AA (.Name x b)) l env=pure (swB env.scope x b pos sc):=rfl
def yd1(f:∀x,Pr (YE J R x ca))(s:Bg):Pr (YS J R s (.expr ca)):=
 match s with
 |.Expr a _=>an (ask (nco a=AD)) λb=>an (f a) λh=>ok λm S X G=>zko (h m S X G) (swp b)
 |_=>AF
def ygT(i:Hy)(f:∀x,Pr (YE J R x ca))(s:Bg):Pr (YS J R s (.asg (.n i) ca)):=
 match s with
 |.Assign [.Name x _] a _=>an (ask (nco a=AD/\setB R i x=AD)) λb=>an (f a) λh=>ok λm S X G=>let q:=zaK G b.2;zmL q.d q.i q.l (h m S X G) (swp b.1) q.f
 |_=>AF
def yef(i:Hy)(sl:Hx (Option Hy))(ct:Tg)(j:∀a l,Pr (YI J R a l ci))(C:Ev J cc)(E:Ev J ce)(s:Bg):Pr (YS J R s (.asg (.n i) (.comp sl ct ci cc ce))):=
 match s with
 |.Assign [.Name x o] (.ListComp b [#[a,r,c,0]] f p) _=>hf R λd=>an (ask (setB R i x=AD/\swB R.sc x o p f=AD)) λg=>an (mCo sl ct j C E b a r c f) λh=>ok λm S X G=>by let#[A,t,u,w,y,z]:=h.q m S X G;have q:=zaK G g.1;exact zkb q.d q.i q.l (G.calm d) t h.f u w y z (by rw[zo5,G.sc,g.2]) (fse h.s) q.f
 |_=>AF
def zoI{a:AW}(h:nst a=AD):(match (generalizing:=false) a with | .Starred _ _=>AD|_=>AC)=false:=by revert h;cases a<;>intro h<;>first|rfl|cases h
def swD(c:BN)(x y:AT)(d f:Bf)(a b:AW):IB:=(if c.kind.isAnnotationScope then EC else c.kind)==.function&&c.names.lookup x==AA .local&&c.names.lookup y==AA .local&&f.line==d.line&&nst a&&nst b&&!(x==y)&&!(foldedForSure 8 a&&foldedForSure 8 b)&&!(constantsAlone 8 a&&constantsAlone 8 b)
def zo6{x y c d pt f}{o g:Hy}{a b:AW}{env:BG}(h:swD env.scope x y c d a b=AD):
  swappedStores [.Tuple [.Name x c,.Name y d] o pt] (.Tuple [a,b] g f) env=pure (AA [x,y]):=by
 erw[swD,AL,Bb]at h;let#[#[#[#[#[#[#[#[p,q],r],t],u],w],A],j],l]:=h;have B:(env.blockKind != .function)=false:=by show (!((if env.scope.kind.isAnnotationScope then EC else env.scope.kind)==.function))=AC;rw[p];rfl
 have g:env.kindOf x=AA .local:=eq_of_beq q;have C:env.kindOf y=AA .local:=eq_of_beq r;have D:d.line=c.line:=eq_of_beq t;have E:¬y=x:=λz=>by subst z;simp at A
 have m:=zoI u;have n:=zoI w;have G:¬(foldedForSure 8 a=AD/\foldedForSure 8 b=AD):=λz=>by rw[z.1,z.2]at j;cases j
 have c9:¬(constantsAlone 8 a=AD/\constantsAlone 8 b=AD):=λz=>by rw[z.1,z.2]at l;cases l
 have H:(Expr.Name x c).pos=c:=rfl;have I:(Expr.Name y d).pos=d:=rfl;unfold swappedStores;simp[B,m,n,g,C,D,Hx.eraseDups_cons,E,H,I,G,c9,CW];intro z;exfalso;rcases z with z|z
 .exact AR (m.symm.trans z)
 .exact AR (n.symm.trans z)
def yf4(i j:Hy)(l:∀x,Pr (YE J R x ca))(n:∀x,Pr (YE J R x cb))(s:Bg):Pr (YS J R s (.asg (.t [i,j]) (.tup (.cons ca (.cons cb .nil))))):=
 match s with
 |.Assign [.Tuple [.Name x o,.Name y p] _ _] (.Tuple [a,b] _ _) _=>hf R λc=>an (ask (setB R i x=AD/\setB R j y=AD/\i≠j/\swD R.sc x y o p a b=AD)) λh=>an (l a) λu=>an (n b) λw=>ok λm S X G=>by
  let#[z,A,f,g]:=h;have q:=zaK G z;have r:=zaK G A;have d:=g;erw[swD,AL]at d;have B:X.env.scope.names.lookup x=AA .local:=by rw[G.sc];exact eq_of_beq d.1.1.1.1.1.1.1.2
  have C:X.env.scope.names.lookup y=AA .local:=by rw[G.sc];exact eq_of_beq d.1.1.1.1.1.1.2
  exact zl2 (G.calm c) q.d q.i r.i f (zmd (G.calm c) q.d q.i r.i f B C (za8 (u m S X G) (za8 (w m S X G) zdV (zdk d.1.1.1.2)) (zdk d.1.1.1.1.2)) (zo6 (by rw[G.sc];exact g)))
 |_=>AF
theorem sw0{es}{k:Hy}{p}{a:AW}{env:BG}(h:ntu a=AD):swappedStores [.Tuple es k p] a env=pure none:=by cases a<;>first|rfl|cases h
theorem sw1{b c p a}{env:BG}:swappedStores [.Subscript b c p] a env=pure none:=by cases a<;>rfl
def zo7{t a:AW}{l:Hy}{env:BG}(h:nco a=AD):swapsWithSole [t] a l env=pure false:=by show swapsWith a (AA t) l env=_;exact swp h
theorem asS{b c:AW}{pos env}(h:nsl c=AD):∀v,assign (.Subscript b c pos) env v=(do
   let a <-holding [v] (eval b env)
   let d <-holding [v,a] (eval c env)
   standAt pos
   holding [v,a,d] (setItem a d v)
   release [v,a,d] []):=by cases c<;>first|exact λ_=>rfl|cases h
def zo8{es}{k:Hy}{p a}{l:Hy}{env:BG}:swapsWithSole [.Tuple es k p] a l env=pure false:=by cases a<;>rfl
def yge(l:Hx Hy)(f:∀x,Pr (YE J R x ca))(s:Bg):Pr (YS J R s (.asg (.t l) ca)):=
 match s with
 |.Assign [.Tuple b k p] a _=>an (ask (ntu a=AD)) λc=>an (mTg (J:=J) (R:=R) (.t l) (.Tuple b k p)) λd=>an (f a) λh=>ok λm S X G=>zkm (h m S X G) (d m S X G) zo8 (sw0 c)
 |_=>AF
def ygn(f:∀x,Pr (YE J R x cc))(l:∀x,Pr (YE J R x ca))(n:∀x,Pr (YE J R x cb))(s:Bg):Pr (YS J R s (.six ca cb cc)):=
 match s with
 |.Assign [.Subscript b c _] a _=>an (ask (nco a=AD/\nsl c=AD)) λd=>an (f a) λh=>an (l b) λg=>an (n c) λj=>ok λm S X G=>zmo (h m S X G) (g m S X G) (j m S X G) (zo7 d.1) sw1 (zjw (g m S X G) (j m S X G) zfk (asS d.2))
 |_=>AF
def ydV(f:∀x,Pr (YE J R x cc))(d:∀x,Pr (YE J R x ca))(g:∀x,Pr (YE J R x cb))(s:Bg):Pr (YS J R s (.dput ca cb cc)):=
 match s with
 |.Assign [.Subscript b c _] a _=>an (ask (nco a=AD)) λj=>an (f a) λh=>an (d b) λl=>an (g c) λn=>ok λm S X G=>zkw (zjl G.room) (l m S X G) (n m S X G) (h m S X G) (swp j)
 |_=>AF
def yhq(a:DI)(o:BOp):Pr (∀S X,PIp X a (rT2 S X (ybb o))):=
 match a,o with
 |.Add,.add=>ok λ_ _=>zkT
 |.Mult,.mul=>ok λ_ _=>zjH
 |_,_=>AF
def ygA(i:Hy)(o:BOp)(f:∀x,Pr (YE J R x ca))(s:Bg):Pr (YS J R s (.aug i o ca)):=
 match s with
 |.AugAssign (.Name x _) b a _=>an (ask (setB R i x=AD)) λh=>an (yhq b o) λc=>an (f a) λd=>ok λm S X G=>let q:=zaK G h;zma q.d q.i q.l (d m S X G) (c S X) q.f (ze5 q.p) (zoz q.p)
 |_=>AF
def yf2(c:Ce)(f:∀x,Pr (YE J R x c))(s:Bg):Pr (YS J R s (.ret c)):=
 match s with
 |.Return (AA a) _=>an (f a) λh=>ok λm S X G=>zlQ (h m S X G)
 |.Return AF _=>match c with
  |.cst .non=>ok λ_ _ _ _=>zk7
  |_=>AF
 |_=>AF
def sIf(d:∀x,Pr (YT J R x cc))(f:∀x,Pr (YSs J R x cs))(g:∀x,Pr (YSs J R x cs'))(s:Bg):Pr (YS J R s (.ite cc cs cs')):=
 match s with
 |.If c a b _=>an (d c) λj=>an (f a) λl=>an (g b) λn=>ok λm S X G=>znM (j m S X G) (l m S X G) (n m S X G)
 |_=>AF
def ygV(ct:Tg)(f:∀a l,Pr (YI J R a l ci))(g:∀x,Pr (YSs J R x cs))(s:Bg):Pr (YS J R s (.for ct ci cs)):=
 match s with
 |.For a l b [] _=>hf R λc=>an (ask (R.own=AD/\nse l=AD)) λd=>an (f a l) λj=>an (mTg (J:=J) (R:=R) ct a) λn=>an (g b) λo=>ok λm S X G=>zmQ (G.own d.1).1 (G.calm c) (j m S X G) (n m S X G) (o m S X G) (fse d.2)
 |_=>AF
def sWh(a:∀x,Pr (YT J R x cc))(d:∀x,Pr (YSs J R x cs))(s:Bg):Pr (YS J R s (.while cc cs)):=
 match s with
 |.While c b [] _=>an (ask (R.own=AD)) λf=>an (a c) λg=>an (d b) λj=>ok λm S X G=>zis (G.own f).1 (g m S X G) (j m S X G)
 |_=>AF
def ygS(c:Hy)(f:AT)(j:∀x,Pr (YE J R x ca))(l:∀x,Pr (YE J R x cb))(s:Bg):Pr (YS J R s (.sfl c ca f cb)):=
 match s with
 |.Assign [.Attribute a g _] b _=>an (ask (g=f/\J.fl c f=AD/\nco b=AD)) λh=>an (j a) λn=>an (l b) λo=>ok λm S X G=>by let#[rfl,d,p]:=h;exact zlG (G.glo.A c g d).1 (G.glo.A c g d).2 (n m S X G) (o m S X G) (swp p)
 |_=>AF
def yhh(c i:Hy)(f:AT)(j:Hz)(l:∀x,Pr (YE J R x (.var i)))(n:∀x,Pr (YE J R x (.cst (.int j))))(s:Bg):Pr (YS J R s (.sfl c (.var i) f (.bin .add (.fld c (.var i) f) (.cst (.int j))))):=
 match s with
 |.AugAssign (.Attribute a g _) .Add b _=>an (ask (g=f/\J.fl c f=AD)) λh=>an (l a) λo=>an (n b) λp=>ok λm S X G=>by let#[rfl,d]:=h;exact znl (G.glo.A c g d).1 (G.glo.A c g d).2 (o m S X G) (p m S X G)
 |_=>AF
def ygo(c:Hy)(o:Ce)(f:AT)(e:Ce)(O:Ev J o)(E:Ev J e)(s:Bg):Pr (YS J R s (.sfl c o f e)):=
 match s with
 |.AugAssign t a b p=>match o,e with
  | .var i,.bin .add (.fld d (.var g) l) (.cst (.int j))=>an (ask (d=c/\g=i/\l=f)) λh=>an (yhh (J:=J) (R:=R) c i f j (λx=>yfl i x) (λx=>yfs (.int j) x) (.AugAssign t a b p)) λq=>ok (by let#[rfl,rfl,rfl]:=h;exact q)
  |_,_=>AF
 |s=>ygS c f (O.e R) (E.e R) s
def yga(a:R.h=AC)(b:Hy)(D:Hx (AT×Hy)){cn:Ce}{ces:Ces}(fn:∀x,Pr (YE J R x cn))(F:Fs J R ces)(c:Hx Bg):Pr (YSs J R c (.cons (.mkr b D cn ces) .nil)):=
 match c with
 |[.Assign [.Name x _] (.Subscript (.Name y _) n _) _,.Return (AA (.Call (.Name j _) (e::f) [] _)) _]=>match l:J.mr y with
  |some E=>an (ask (E=D/\j=x/\setB R b x=AD/\ydG R.sc x=AD/\glB R y=AD/\nsl n=AD/\nst e=AD/\ybw f=AD)) λh=>an (fn n) λo=>an (yaV F (e::f)) λp=>ok λm S X G=>by let#[rfl,rfl,r,t,g,u,w,z]:=h;have q:=zaK G r;let#[B,A,C,M,d]:=G.glo.K y E l;exact zm2 M ((G.rm a).mono (C4 m)) q.d q.i q.l (by rw[G.sc];exact zhh t) (zF G g) d (o m S X G) (p m S X G) (nos u) (swp rfl) q.f (ze5 (zaL g)) (ze5 q.p) (zoz q.p) (zdk w) (stars z)
  |none=>AF
 |_=>AF
end
mutual
noncomputable def chS(J:Gs):(c:Cs)->(R:Kx)->∀s,Pr (YS J R s c)
 |.expr e,R=>yd1 ((ch J e).e R)
 |.asg (.n i) (.comp d g m p q),R=>yef i d g (chi J m R) (ch J p) (ch J q)
 |.asg (.n i) c,R=>ygT i ((ch J c).e R)
 |.asg (.t [i,j]) (.tup (.cons a (.cons b .nil))),R=>yf4 i j ((ch J a).e R) ((ch J b).e R)
 |.asg (.t l) c,R=>yge l ((ch J c).e R)
 |.six o i e,R=>ygn ((ch J e).e R) ((ch J o).e R) ((ch J i).e R)
 |.dput o i e,R=>ydV ((ch J e).e R) ((ch J o).e R) ((ch J i).e R)
 |.aug i o e,R=>ygA i o ((ch J e).e R)
 |.ret e,R=>yf2 e ((ch J e).e R)
 |.ite c a b,R=>sIf ((ch J c).t R) (ycB J a R) (ycB J b R)
 |.for t r b,R=>ygV t (chi J r R) (ycB J b R)
 |.while c b,R=>sWh ((ch J c).t R) (ycB J b R)
 |.nope,_=>λ_=>ok λ_ _ _ _=>zjY
 |.sfl c o f e,R=>ygo c o f e (ch J o) (ch J e)
 |_,_=>λ_=>AF
noncomputable def ycB(J:Gs):(c:Css)->(R:Kx)->∀s,Pr (YSs J R s c)
 |.nil,_,[]=>ok λ_ _ _ _=>zl9
 |.cons (.mkr d D f a) .nil,R,b=>hf R λh=>yga h d D ((ch J f).e R) (chs J a R) b
 |.cons c g,R,s::b=>an (chS J c R s) λh=>an (ycB J g R b) λj=>ok λm S X G=>zlg (h m S X G) (j m S X G)
 |_,_,_=>AF
end
inductive Dk where
 |fn|fd (ds:Hx Hz)|me (c:Hy)|ini (c:Hy)
structure Df where
 gn:AT
 nm:AT
 q:AT
 st:Bg
 N:Hx AT
 ps:Hx AT
 fn:IC.Fn
 k:Dk
def scB(N P:Hx AT)(sc:BN):IB:=decide (sc.kind=.function)&&!sc.isCoroutine&&!sc.isGenerator&&decide N.Nodup&&decide (N.take P.length=P)&&P.all (ydR sc)&&sc.names.all λy=>y.2 != .free
def zjr{N P}{sc:BN}(h:scB N P sc=AD):yaC N P sc:=by erw[scB,AL,IA,Bb,BA,Ib,ne_eq]at h;let#[#[#[#[#[#[a,b],c],d],f],g],j]:=h;exact#[a,b,c,d,f,λx l=>zg7 (g x l),j]
def okD(J:Gs)(d:Df):IB:=scB d.N d.ps (yj d.st)&&decide (d.ps.length=d.fn.np)&&decide (d.N.length=d.fn.ns)&&(ycB J d.fn.body #[d.N,yj d.st,AD,AC] (yP d.st)).isSome
def ybz{A:Type}(P:A->Prop):Hx A->Prop
 |[]=>True
 |d::r=>P d/\ybz P r
theorem ybz.get{A:Type}{P:A->Prop}:∀{l:Hx A},ybz P l->∀d∈l,P d
 |_::_,h,d,hd=>by
  rcases AV.1 hd with rfl|hd
  .exact h.1
  .exact h.2.get d hd
def ybq:Hx AT->(Hx AH->Prop)->Prop
 |[],P=>P []
 |_::r,P=>∀a,ybq r λb=>P (a::b)
theorem ybq.get:∀{ps:Hx AT} {P:Hx AH->Prop},ybq ps P->∀b,b.length=ps.length->P b
 |[],P,h,[],_=>h
 |_::r,P,h,a::b,e=>(h a).get b (by simpa using e)
def yaU(d:Df):Prop:=∀(kV doc c:AH) (an:Option AK) (a f:AH),ybq d.ps λb=>bindArgs (Ba d.nm d.q (yaf d.st) (yP d.st) (yj d.st) .none kV doc c an a f) #[b,[]]=pure (d.ps.zip b)
structure ybW(K:AG)(d:Df)(dv:AH)(f:AK)(fd:Av):Prop where
 ex:∃(oc:AH) (od:Option AK) (kV doc pm:AH) (an:Option AK) (cdv ct:AH) (osl:IP (Option AH)),
  fd=Ba d.nm d.q (yaf d.st) (yP d.st) (yj d.st) dv kV doc pm an cdv ct/\K.lookup f=AA #[oc,od,.func fd,osl]/\CJ K cdv d.q=AD
 kp:An K (.ref f)=AD
def At(K:AG)(cn:Hy->AT)(d:Df)(f:AK):Prop:=
 match d.k with
 |.fn=>BD K mainGlobals d.gn=AA (AA (.ref f))/\yaU d
 |.fd _=>BD K mainGlobals d.gn=AA (AA (.ref f))
 |.me c=>yaU d/\∃q,BD K mainGlobals (cn c)=AA (AA (.ref q))/\Ah K (.ref q) d.nm=AA (AA (.ref f))/\Co K (.ref f)=AD
 |.ini c=>yaU d/\∃q,BD K mainGlobals (cn c)=AA (AA (.ref q))/\Ah K (.ref q) d.nm=AA (AA (.ref f))/\Co K (.ref f)=AD/\D6 K q=AD/\An K (.ref q)=AD
def DvP(K:AG)(d:Df)(b:AH):Prop:=
 match d.k with
 |.fd f=>∃c o a n,b=.ref c/\K.lookup c=AA o/\o.data=.seq a n/\Vals (f.map V.int) a.toList
 |_=>b=.none
def ycV(K:AG)(cn:Hy->AT)(d:Df):Prop:=∃a f fd,ybW K d a f fd/\At K cn d f/\DvP K d a
section
variable {K:AG}{cn:Hy->AT}{gn nm:AT}{st:Bg}{N ps:Hx AT}{fn:IC.Fn}{f:AK}{oc:AH}{od:Option AK}{kV doc pm:AH}{an:Option AK}{cdv ct:AH}{osl:IP (Option AH)}
theorem rowFn(a:BD K mainGlobals gn=AA (AA (.ref f)))(l:K.lookup f=AA #[oc,od,.func (Ba nm nm (yaf st) (yP st) (yj st) .none kV doc pm an cdv ct),osl])
  (c:CJ K cdv nm=AD) (p:An K (.ref f)=AD) (b:yaU #[gn,nm,nm,st,N,ps,fn,.fn]):ycV K cn #[gn,nm,nm,st,N,ps,fn,.fn]:=
 #[.none,f,_,#[#[oc,od,kV,doc,pm,an,cdv,ct,osl,rfl,l,c],p],#[a,b],rfl]
theorem rowFd{j:Hx Hz}{g o b}{n:Hy}(a:BD K mainGlobals gn=AA (AA (.ref f)))(l:K.lookup f=AA #[oc,od,.func (Ba nm nm (yaf st) (yP st) (yj st) (.ref g) kV doc pm an cdv ct),osl])
  (c:CJ K cdv nm=AD) (p:An K (.ref f)=AD) (d:K.lookup g=AA o) (e:o.data=.seq b n) (v:Vals (j.map V.int) b.toList):ycV K cn #[gn,nm,nm,st,N,ps,fn,.fd j]:=
 #[.ref g,f,_,#[#[oc,od,kV,doc,pm,an,cdv,ct,osl,rfl,l,c],p],a,g,o,b,n,rfl,d,e,v]
theorem rowMe{d}{g:Hy}{q}(z:BD K mainGlobals (cn g)=AA (AA (.ref q)))(a:Ah K (.ref q) nm=AA (AA (.ref f)))(i:Co K (.ref f)=AD)(l:K.lookup f=AA #[oc,od,.func (Ba nm d (yaf st) (yP st) (yj st) .none kV doc pm an cdv ct),osl])
  (c:CJ K cdv d=AD) (p:An K (.ref f)=AD) (b:yaU #[gn,nm,d,st,N,ps,fn,.me g]):ycV K cn #[gn,nm,d,st,N,ps,fn,.me g]:=
 #[.none,f,_,#[#[oc,od,kV,doc,pm,an,cdv,ct,osl,rfl,l,c],p],#[b,q,z,a,i],rfl]
theorem rowIni{d}{g:Hy}{q}(z:BD K mainGlobals (cn g)=AA (AA (.ref q)))(a:Ah K (.ref q) nm=AA (AA (.ref f)))(i:Co K (.ref f)=AD)(l:K.lookup f=AA #[oc,od,.func (Ba nm d (yaf st) (yP st) (yj st) .none kV doc pm an cdv ct),osl])
  (c:CJ K cdv d=AD) (p:An K (.ref f)=AD) (b:yaU #[gn,nm,d,st,N,ps,fn,.ini g]) (mk:D6 K q=AD) (kq:An K (.ref q)=AD):ycV K cn #[gn,nm,d,st,N,ps,fn,.ini g]:=
 #[.none,f,_,#[#[oc,od,kV,doc,pm,an,cdv,ct,osl,rfl,l,c],p],#[b,q,z,a,i,mk,kq],rfl]
theorem gdf_mk{w h b}{x:AT}{D c y es}{d:Hy}(X:K.In h)(G:h.Ns mainGlobals b)(a:BD K mainGlobals x=AA (AA (.ref y)))(l:K.lookup y=AA #[.type "dict",AF,.dict es d,(Hx.toArray [])])
  (r:yb1 w c D es.toList) (n:(D.map (·.1)).Nodup):GDF K w b c x D:=#[y,es,d,ET X G a,l,r,n]
theorem gd_mk{w h b}{x:AT}{D c y es}{d:Hy}(X:K.In h)(G:h.Ns mainGlobals b)(a:BD K mainGlobals x=AA (AA (.ref y)))(l:K.lookup y=AA #[.type "dict",AF,.dict es d,(Hx.toArray [])])
  (s:(y==sysModules)=AC) (r:yb5 K c w D es.toList) (n:(D.map (·.1)).Nodup):GD K w b c x D:=#[y,es,d,ET X G a,l,s,r,n]
end
abbrev KoV(K:AG)(v:PV)(u:AH):Prop:=∃x:V,RelV x u/\∀a B A H,yd K a B A H v x
abbrev KoL(K:AG)(vs:Hx PV)(us:Hx AH):Prop:=∃a:Hx V,Vals a us/\∀b B A H,yg K b B A H vs a
mutual
noncomputable def yd9(K:AG):(v:PV)->(u:AH)->Pr (KoV K v u)
 |.int i,.int j t=>an (ask (i=j)) λh=>ok #[.int i,#[t,by rw[h]],λ_ _ _ _=>by erw[yd]]
 |.str i,.str j t=>an (ask (i=j)) λh=>ok #[.str i,#[t,by rw[h]],λ_ _ _ _=>by erw[yd]]
 |.tp AD d,.ref a=>match h:K.lookup a with
  |some #[c,_,.seq b n,_]=>an (ask (c=.type "tuple"/\b.size<=sizeLine)) λq=>an (ydu K d b.toList) λr=>ok (by let#[f,g,l]:=r;refine#[.ref a,rfl,λm B A H=>?_];erw[yd];exact#[a,f,rfl,.inr #[rfl,_,b,n,h,q.1,rfl,q.2,g],l m B A H])
  |_=>AF
 |_,_=>AF
noncomputable def ydu(K:AG):(vs:Hx PV)->(us:Hx AH)->Pr (KoL K vs us)
 |[],[]=>ok #[[],.nil,λ_ _ _ _=>by erw[yg]]
 |v::vs,u::us=>an (yd9 K v u) λh=>an (ydu K vs us) λr=>ok (by let#[x,c,d]:=h;let#[a,f,g]:=r;refine#[x::a,.cons c f,λb B A H=>?_];erw[yg];exact#[x,a,rfl,d b B A H,g b B A H])
 |_,_=>AF
end
theorem con_row{K a w}{k:AT}{v b u D es}(c:(yd9 K v u).isSome=AD)(h:yb5 K a w D es):yb5 K a w ((k,v)::D) (#[EB w.params k,.str k b,u] :: es):=by let#[#[x,r,q],_]:=Ak.1 c;exact .cons r (q a) h
theorem frow_cons{w}{b:Hy->AK}{k:AT}{i:Hy}{c}{a:AK}{D es}(e:b i=a)(h:yb1 w b D es):yb1 w b ((k,i)::D) (#[EB w.params k,.str k c,.ref a] :: es):=by subst e;exact .cons h
structure Tb where
 tbl:Hx Df
 al:Hx (AT×GK)
 bs:Hx AT
 ts:Hx Ty
 fl:Hx (Hy×AT)
 me:Hx ((Hy×AT)×Hy)
 kb:Hx ((Hy×Hy×Hx AT)×Hx (Option Hz))
 cn:Hx (Hy×AT)
 dd:Hx (AT×Hx (AT×PV))
 ml:Hx (AT×Hx (AT×Hy))
 xs:Hx (Hy×Ty)
 xc:Hx (Hy×AT)
 xm:Hx (Hy×AT)
 qh:Hx AT
abbrev eF(x:AT)(i:Hy):AT×GK:=(x,.fn i)
abbrev eC(x:AT)(v:PV):AT×GK:=(x,.cst v)
abbrev eG(x:AT)(g:GK):AT×GK:=(x,g)
abbrev eN(c:Hy)(x:AT):Hy×Str:=(c,x)
abbrev eM(c:Hy)(x:AT)(i:Hy):(Hy×AT)×Hy:=((c,x),i)
abbrev eL(x:AT)(d:Hx (AT×Hy)):AT×Hx (AT×Hy):=(x,d)
abbrev eB(x:AT)(d:Hx (AT×PV)):AT×Hx (AT×PV):=(x,d)
def tyE:Ty->Ty->IB
 |.int,.int=>AD
 |.bool,.bool=>AD
 |.str,.str=>AD
 |.tuple,.tuple=>AD
 |.list,.list=>AD
 |_,_=>AC
def zm4{a b:Ty}(h:tyE a b=AD):a=b:=by cases a<;>cases b<;>first|rfl|cases h
def tyX:Ty->Ty->IB
 |.cls a,.cls b=>a==b
 |.val,.val=>AD
 |_,_=>AC
def zm7{a b:Ty}(h:tyX a b=AD):a=b:=by cases a<;>cases b<;>first|rfl|(cases h;done)|(rw[eq_of_beq (show _=AD from h)])
def Tb.gs(t:Tb):Gs:=#[λx=>t.al.lookup x,λx=>t.bs.contains x,λy=>t.ts.any (tyE y),λc f=>t.fl.contains (c,f),λc n=>t.me.lookup (c,n),λi n a=>t.kb.lookup (i,n,a),λx=>t.ml.lookup x,λx i=>decide (t.cn.lookup (1000+i)=AA x),λc y=>t.xs.any λp=>p.1==c&&tyX p.2 y,λd x=>t.xc.contains (d,x),λc x=>t.xm.contains (c,x),λi=>match t.tbl[i]? with
 |some d=>t.qh.contains d.gn
 |none=>AC]
def nmA(K:AG)(x:AT):Option Addr:=match BD K mainGlobals x with
 |some (AA (.ref q))=>AA q
 |_=>AF
def clA(K:AG)(t:Tb)(c:Hy):Addr:=((t.cn.lookup c).bind (nmA K)).getD 0
def cnm(t:Tb)(c:Hy):Str:=(t.cn.lookup c).getD ""
def faA(K:AG)(t:Tb)(i:Hy):Addr:=match t.tbl[i]? with
 |some d=>match d.k with
  |.fn=>(nmA K d.gn).getD 0
  |.fd _=>(nmA K d.gn).getD 0
  |.me c=>match Ah K (.ref (clA K t c)) d.nm with
   |some (AA (.ref f))=>f
   |_=>0
  |.ini c=>match Ah K (.ref (clA K t c)) d.nm with
   |some (AA (.ref f))=>f
   |_=>0
 |none=>0
def yb7:Dk->IB
 |.fn=>AD
 |_=>AC
def yeh:Dk->IB
 |.fd _=>AD
 |_=>AC
def alB(K:AG)(t:Tb):AT×GK->IB
 |(x,.fn i)=>match t.tbl[i]? with
  |some d=>yb7 d.k&&(decide (x=d.gn) || decide (nmA K x=nmA K d.gn))
  |none=>AC
 |(x,.fnD i)=>match t.tbl[i]? with
  |some d=>yeh d.k&&(decide (x=d.gn) || decide (nmA K x=nmA K d.gn))
  |none=>AC
 |(x,.cst v)=>match BD K mainGlobals x with
  |some (AA u)=>(yd9 K v u).isSome
  |_=>AC
 |(x,.dct d)=>t.dd.any λp=>decide (p.1=x)&&(eqD p.2 d).isSome
 |(x,.exc c)=>decide (t.cn.lookup c=AA x)&&(nmA K x).any λq=>ycD K q [.type "ValueError",.type "Exception",.type "BaseException",.type "object"] "ValueError.__new__"
 |(x,.cls c i)=>decide (t.cn.lookup c=AA x)&&(nmA K x).isSome&&match t.tbl[i]? with
  |some d=>match d.k with
   |.ini a=>decide (a=c)&&decide (d.nm="__init__")
   |_=>AC
  |none=>AC
def yfE(K:AG)(t:Ty):IB:=
 decide (BH K (.type "NoneType") (.type (tyN t))=AA (ybg .non t))&&decide (BH K (.type "bool") (.type (tyN t))=AA (ybg (.bl AD) t))&&decide (BH K (.type "int") (.type (tyN t))=AA (ybg (.int 0) t))&&decide (BH K (.type "str") (.type (tyN t))=AA (ybg (.str GO) t))&&decide (BH K (.type "tuple") (.type (tyN t))=AA (ybg (.tp AD []) t))&&decide (BH K (.type "list") (.type (tyN t))=AA (ybg (.lst []) t))
def ydE(K:AG)(q:AK):IB:=Cn K q GO&&DJ K q&&EK K q&&decide (Ah K (.ref q) "__setattr__"=AA (AA (.builtin "object.__setattr__")))
def zgA{K}{q:AK}(h:ydE K q=AD):Cls K q:=by erw[ydE,AL,IA]at h;exact#[h.1.1.1,h.1.1.2,h.1.2,h.2]
def ydU(K:AG)(q:AK):IB:=decide (Ah K (.ref q) "__getattribute__"=AA (AA (.builtin "BaseException.__getattribute__")))&&decide (Ah K (.ref q) "__getattr__"=AA AF)&&decide (Ah K (.ref q) "__class__"=AA (AA (.builtin "object.__class__")))&&decide (HD K (.ref q) (.type "BaseException")=AA AD)&&decide (HE K q (.type "object")=AA AD)&&(HF K q).isSome
def zj2{K}{q:AK}(h:ydU K q=AD):yfA K q:=by erw[ydU,AL,IA]at h;let#[#[#[#[#[a,b],c],d],f],g]:=h;exact#[a,b,c,d,f,Ak.1 g]
def yfM(K:AG)(t:Tb):IB:=
 t.xs.all (λp=>ydU K (clA K t p.1)&&decide (BH K (.ref (clA K t p.1)) (tyZ (clA K t) p.2)=AA (ybg (.exn p.1) p.2))) &&
  t.xc.all (λp=>decide (t.cn.lookup p.1=AA p.2)&&(nmA K p.2).isSome) &&
  t.xm.all λp=>(nmA K p.2).any λW=>decide (Gv K (.ref (clA K t p.1)) (.ref W)=AA AD)
def ydh(K:AG)(t:Tb):IB:=
 t.al.all (alB K t)&&t.bs.all (λx=>decide (BD K mainGlobals x=AA AF))&&t.ts.all (yfE K) &&
  t.fl.all (λp=>(t.cn.lookup p.1).isSome&&(nmA K (cnm t p.1)).any λq=>ydE K q&&decide (Ah K (.ref q) p.2=AA AF)) &&
  t.me.all (λp=>(t.cn.lookup p.1.1).isSome&&(nmA K (cnm t p.1.1)).any λq=>ydE K q&&match t.tbl[p.2]? with
   |some d=>(match d.k with
    |.me c=>decide (c=p.1.1)
    |_=>AC)&&decide (d.nm=p.1.2)
   |none=>AC) &&
  t.ml.all λp=>p.2.all λq=>match t.tbl[q.2]? with
   |some d=>yb7 d.k
   |none=>AC
def yek(K:AG)(t:Tb):IB:=ydh K t&&yfM K t
def fd0:FuncData:=Ba "" "" (yaf (.Pass #[0,0,0,0])) [] (yj (.Pass #[0,0,0,0])) .none .none .none .none AF .none .none
def fdA(K:AG)(t:Tb)(i:Hy):FuncData:=match K.lookup (faA K t i)with
 |some #[_,_,.func fd,_]=>fd
 |_=>fd0
def psA(t:Tb)(i:Hy):Hx Str:=match t.tbl[i]? with
 |some d=>d.ps
 |none=>[]
theorem lkm{A B:Type}[BEq A][LawfulBEq A]{x:A}{k:B}:∀{l:Hx (A×B)},l.lookup x=AA k->(x,k)∈l
 |[],h=>nomatch h
 |y::l,h=>by
  rw[BX]at h
  cases a:x==y.1 with
  |true=>rw[a]at h;cases h;rw[eq_of_beq a];exact AO
  |false=>rw[a]at h;exact AM _ (lkm h)
def KbP(t:Tb)(p:(Hy×Hy×Hx AT)×Hx (Option Hz)):Prop:=∀d a,t.tbl[p.1.1]?=AA d->d.k=.fd a->∀(K:AG) (b:AT->Option AH) (f:AK) (fd:Av),FnD K b d.nm d.st d.ps a f fd->∃g,ybG K fd d.ps p.1.2.2 g (gK p.1.2.1 p.2)
structure Fact(t:Tb)(w:Ae)(K:AG)(mg:AT->Option AH):Prop where
 X:∀x u,BD K mainGlobals x=AA u->mg x=u
 R:ybz (ycV K (cnm t)) t.tbl
 B:yek K t=AD
 D:ybz (λp=>∀cl,GD K w mg cl p.1 p.2) t.dd
 Kb:ybz (KbP t) t.kb
 Ml:ybz (λp=>GDF K w mg (faA K t) p.1 p.2) t.ml
def zlm{K}{x:AT}{q}(h:nmA K x=AA q):BD K mainGlobals x=AA (AA (.ref q)):=by
 unfold nmA at h;split at h
 .cases h;assumption
 .cases h
def zbm{K}{x:AT}{q}(h:BD K mainGlobals x=AA (AA (.ref q))):nmA K x=AA q:=by erw[nmA,h]
def zfa{K t}{c:Hy}{q}(h:nmA K (cnm t c)=AA q)(a:(t.cn.lookup c).isSome=AD):clA K t c=q:=by let#[x,e]:=Ak.1 a;erw[clA,e,BO];erw[cnm,e,B6]at h;rw[h];rfl
def okH(t:Tb)(d:Df):IB:=(ycB t.gs d.fn.body #[d.N,yj d.st,AC,AD] (yP d.st)).isSome&&!d.fn.pure&&yb7 d.k
def okT(t:Tb)(d:Df):IB:=okD t.gs d&&(!t.qh.contains d.gn || okH t d)&&match d.k with
 |.fn=>AD
 |.fd _=>decide (d.q=d.nm)
 |.me c=>(t.cn.lookup c).isSome
 |.ini c=>(t.cn.lookup c).isSome&&decide (d.nm="__init__")
section
variable {t:Tb}{w:Ae}{K:AG}{mg:AT->Option AH}{T:Hy->Option IC.Fn}{P:A4}{base:Au}{k:Hy}
def zcH(F:Fact t w K mg)(O:∀d∈t.tbl,okT t d=AD){i:Hy}{d}(h:t.tbl[i]?=AA d):∃b fd,ybW K d b (faA K t i) fd/\At K (cnm t) d (faA K t i)/\DvP K d b:=by
 have l:=A3 h;let#[b,f,fd,m,a,n]:=F.R.get d l;have e:f=faA K t i:=by
  have o:=O d l;erw[okT,AL]at o;have o:=o.2;erw[faA,h];unfold At at a
  cases q:d.k with
  |fn=>
   rw[q]at a;erw[zbm a.1,B6]
  |fd r=>
   rw[q]at a;have a:BD K mainGlobals d.gn=AA (AA (.ref f)):=a;erw[zbm a,B6]
  |me c=>
   rw[q]at a o;let#[_,p,g,j,_]:=a;erw[zfa (zbm g) o,j]
  |ini c=>
   rw[q]at a o;let#[_,p,g,j,_]:=a;erw[AL]at o;erw[zfa (zbm g) o.1,j]
 subst e;exact#[b,fd,m,a,n]
theorem ybW.binds{d:Df}{f:AK}{fd:Av}(R:ybW K d .none f fd)(b:yaU d):Binds K fd d.ps []:=
 Fun.binds #[R.ex,R.kp] λkV doc c an a g j l=>(b kV doc c an a g).get j l
theorem ybW.ok{d:Df}{o:AH}{f:AK}{fd:Av}{j m:Hy}{l:Hy->AK}(R:ybW K d o f fd)(n:T j=AA d.fn)(p:yaC d.N d.ps (yj d.st))(b:d.ps.length=d.fn.np)(c:d.N.length=d.fn.ns)
  (a:∀(cdv:AH) (A:Af) (outer:Hx BG) (s:AJ) (H:Hp) (E:XK),yaq m (A.deeper (envOfC d.q (yj d.st) s.heap.objs.size f cdv)) ->
   PSs (yaK (CX1 P w) P w K mg base d.N d.q (yj d.st) f cdv A outer s H E) (yP d.st) (tSs #[l,yc T k,AD] (yaK (CX1 P w) P w K mg base d.N d.q (yj d.st) f cdv A outer s H E) d.fn.body)):
  yaA P w K mg base (CX1 P w) (m+1) f fd d.ps (spI K l (yc T (k+1)) j):=by let#[u,x,kV,doc,y,an,cdv,z,q,rfl,lk,g]:=R.ex;exact znI lk g p (λr H Q E h=>zja n b h) λA outer s H r Q E t h=>#[_,a cdv A outer s H E t,zkR n c h]
def Fn2(t:Tb)(P:A4)(w:Ae)(K:AG)(mg:AT->Option AH)(base:Au)(T:Hy->Option IC.Fn)(k:Hy):Prop:=
 ∀i d a fd,t.tbl[i]?=AA d->ybW K d a (faA K t i) fd->yaA P w K mg base (CX1 P w) (2*k) (faA K t i) fd d.ps (spI K (clA K t) (yc T k) i)
def FnH(t:Tb)(P:A4)(w:Ae)(K:AG)(mg:AT->Option AH)(base:Au)(T:Hy->Option IC.Fn)(k:Hy):Prop:=
 ∀i d fd,t.tbl[i]?=AA d->t.qh.contains d.gn=AD->ybW K d .none (faA K t i) fd->ybH P w K mg base (2*k) (faA K t i) fd d.ps (spI K (clA K t) (yc T k) i)
def zjO(F:Fact t w K mg)(O:∀d∈t.tbl,okT t d=AD){x:AT}{i:Hy}(q:alB K t (x,.fn i)=AD):∃d fd,t.tbl[i]?=AA d/\ybW K d .none (faA K t i) fd/\nmA K x=AA (faA K t i)/\yaU d:=by
 have q:(match t.tbl[i]? with
  |some d=>yb7 d.k&&(decide (x=d.gn) || decide (nmA K x=nmA K d.gn))
  |none=>AC)=true:=q
 cases b:t.tbl[i]? with
 |none=>rw[b]at q;cases q
 |some d=>
  rw[b]at q;have q:=BU.1 q;let#[m,fd,l,a,c]:=zcH F O b;have f:d.k=.fn:=by
   have g:=q.1
   cases e:d.k<;>rw[e]at g<;>first|rfl|cases g
  erw[At,f]at a;erw[DvP,f]at c;subst c;refine#[d,fd,rfl,l,?_,a.2];have j:=q.2;erw[Bc,IA]at j;rcases j with h|h
  .rw[h];exact zbm a.1
  .rw[h];exact zbm a.1
def zeP(F:Fact t w K mg)(O:∀d∈t.tbl,okT t d=AD)(C:Fn2 t P w K mg base T k)(CH:FnH t P w K mg base T k){N q sc f cdv A outer s H E}:
  Glo t.gs (2*k) #[clA K t,yc T k,AD] (yaK (CX1 P w) P w K mg base N q sc f cdv A outer s H E):=by
 have B:=F.B;erw[yek,AL]at B;let#[B,B2]:=B;erw[ydh,AL,BA]at B;erw[yfM,AL,BA]at B2;let#[#[#[#[#[b1,b2],b3],b4],b5],b6]:=B;let#[#[b7,b8],b9]:=B2;have I:∀{x:AT} {a:AK},nmA K x=AA a->mg x=AA (.ref a):=λh=>F.X _ _ (zlm h);have same:∀{x y:AT} {a:AK},(decide (x=y) || decide (nmA K x=nmA K y))=AD->nmA K y=AA a->nmA K x=AA a:=λ{x y a} h e=>by
  erw[Bc,IA]at h;rcases h with rfl|h
  .exact e
  .rw[h];exact e
 refine#[λx i h=>?_,λx i np ks sh h M=>?_,λx v h=>?_,λx d h=>?_,λx c h=>?_,λx c i h=>?_,λx h=>?_,λy h=>?_,λc n h=>?_,λc n i h=>?_,λy D h=>?_,λx i h hv=>?_,λc y h=>?_,λd x h=>?_,λc x h=>?_,λx i h hq=>?_]
 .let#[d,fd,G,l,Z,bp]:=zjO F O (b1 _ (lkm h));exact#[_,fd,d.ps,C i d _ fd G l,I Z,l.kp,l.binds bp]
 .have q:=b1 _ (lkm h);erw[alB]at q;split at q
  .rename_i d G;erw[AL]at q;let#[U,fd,l,X,Y]:=zcH F O G;obtain⟨ds,hk'⟩:∃ds,d.k=.fd ds:=by cases e:d.k<;>rw[e]at q<;>first|exact#[_,rfl]|cases q.1
   erw[At,hk']at X;erw[DvP,hk']at Y;let#[dT,o,its,n,rfl,e1,e2,e3]:=Y;have oo:=O d (A3 G);erw[okT,hk',AL,IA]at oo;have D:FnD K (λ_=>AA (.ref (faA K t i))) d.nm d.st d.ps ds (faA K t i) fd:=by let#[oc,od,kV,doc,pm,an,cdv,ct,osl,z1,z2,z3]:=l.ex;rw[oo.2]at z1 z3;exact#[#[oc,od,dT,kV,doc,pm,an,cdv,ct,osl,o,its,n,z1,z2,z3,e1,e2,e3],l.kp,rfl]
   exact#[_,fd,d.ps,C i d _ fd G l,I (same q.2 (zbm X)),l.kp,F.Kb.get _ (lkm M) d ds G hk' K _ _ _ D]
  .cases q
 .have q:=b1 _ (lkm h);erw[alB]at q;split at q
  .rename_i u hu;let#[#[y,r,z],_]:=Ak.1 q;exact#[y,u,F.X _ _ hu,r,λB J H=>z _ B J H]
  .cases q
 .have q:=b1 _ (lkm h);erw[alB,DW,AL,IA]at q;let#[p,hp,rfl,q]:=q;let#[#[e],_]:=Ak.1 q;rw[<-e];exact F.D.get p hp _
 .have q:=b1 _ (lkm h);erw[alB,AL,IA,Cj]at q;let#[q1,q2,L]:=q;let#[a,m]:=Ak.1 q2;have e:clA K t c=a:=by erw[clA,q1,BO,m,B6]
  erw[m,Ep]at L;exact#[by show mg x=AA (.ref (clA K t c));rw[e];exact I m,by show ycD K (clA K t c) _ _=AD;rw[e];exact L]
 .have q:=b1 _ (lkm h);erw[alB,AL,IA]at q;let#[#[q1,q2],L]:=q;let#[a,m]:=Ak.1 q2;have e:clA K t c=a:=by erw[clA,q1,BO,m,B6]
  split at L
  .rename_i d G
   cases M:d.k with
   |ini c'=>
    rw[M]at L;erw[AL,IA]at L;let#[rfl,Z]:=L;let#[U,fd,l,X,Y]:=zcH F O G;erw[At,M]at X;erw[DvP,M]at Y;subst Y;let#[r0,q',r4,r5,r6,r7,r8]:=X;have e2:q'=a:=by have:nmA K (cnm t c')=AA q':=zbm r4;erw[cnm,q1,B6,m]at this;exact(A0 this).symm
    subst e2;rw[Z]at r5;refine#[by show mg x=AA (.ref (clA K t c'));rw[e];exact I m,_,fd,d.ps,?_,C i d _ fd G l,l.binds r0];show Mk K (clA K t c') _;rw[e];exact#[r7,r5,r6,r8]
   |_=>rw[M]at L;cases L
  .cases L
 .have q:x∈t.bs:=by simpa [Tb.gs] using h
  have:=b2 x q;erw[IA]at this;exact F.X _ _ this
 .simp only[Tb.gs,DW]at h;let#[y',hy,e]:=h;have:=zm4 e;subst this;have q:=b3 y hy;erw[yfE,AL,IA]at q;exact#[q.1.1.1.1.1,q.1.1.1.1.2,q.1.1.1.2,q.1.1.2,q.1.2,q.2]
 .have q:(c,n)∈t.fl:=by simpa [Tb.gs] using h
  have q:=b4 _ q;erw[AL,Cj,IA]at q;let#[q1,q2,L]:=q;let#[a,m]:=Ak.1 q2;erw[m,Ep]at L;have e:clA K t c=a:=zfa m q1;show Cls K (clA K t c)/\yam K (clA K t c) n;rw[e];exact#[zgA L.1,L.2]
 .have q:=b5 _ (lkm h);erw[AL,Cj,IA]at q;let#[q1,q2,L,q4]:=q;let#[a,m]:=Ak.1 q2;erw[m,Ep]at L;have e:clA K t c=a:=zfa m q1;split at q4
  .rename_i d G;erw[AL,IA]at q4;let#[q4,Z]:=q4
   cases M:d.k with
   |me c'=>
    rw[M]at q4;have q4:c'=c:=by simpa using q4
    subst q4;let#[U,fd,l,X,Y]:=zcH F O G;erw[At,M]at X;erw[DvP,M]at Y;subst Y;let#[r0,q',r4,r5,r6]:=X;have e2:q'=a:=A0 ((zbm r4).symm.trans m);subst e2;refine#[by show Cls K (clA K t c');rw[e];exact zgA L,_,fd,d.ps,?_,C i d _ fd G l,l.binds r0];show Meth K (clA K t c') n _;rw[e,<-Z];exact#[r5,r6,l.kp]
   |_=>rw[M]at q4;cases q4
  .cases q4
 .have q:=b6 _ (lkm h);have g:∀s j,D.lookup s=AA j->∃d U fd,t.tbl[j]?=AA d/\ybW K d U (faA K t j) fd/\U=.none/\yaU d/\fd=fdA K t j/\d.ps=psA t j:=λs j hj=>by
   have q:=q _ (lkm hj);split at q
   .rename_i d G;let#[U,fd,l,X,Y]:=zcH F O G;have M:d.k=.fn:=by cases e:d.k<;>rw[e]at q<;>first|rfl|cases q
    erw[At,M]at X;erw[DvP,M]at Y;let#[oc,od,kV,doc,pm,an,cdv,ct,osl,_,lk,_]:=l.ex;exact#[d,U,fd,G,l,Y,X.2,by erw[fdA,lk],by erw[psA,G]]
   .cases q
  refine#[faA K t,fdA K t,psA t,#[λs j hj=>?_,λs j hj=>?_,λs j hj=>?_],F.Ml.get _ (lkm h)]
  .let#[d,U,fd,h1,h2,h3,h4,h5,h6]:=g s j hj;rw[<-h5,<-h6];exact C j d U fd h1 h2
  .let#[d,U,fd,h1,h2,h3,h4,h5,h6]:=g s j hj;exact h2.kp
  .let#[d,U,fd,h1,h2,h3,h4,h5,h6]:=g s j hj;subst h3;rw[<-h5,<-h6];exact h2.binds h4
 .let#[d,fd,G,l,Z,bp]:=zjO F O (b1 _ (lkm h));have e:t.cn.lookup (1000+i)=AA x:=IT hv;have z:clA K t (1000+i)=faA K t i:=by erw[clA,e,BO,Z,B6]
  show mg x=AA (.ref (clA K t (1000+i)));rw[z];exact I Z
 .let#[p,hp,q]:=DW.1 h;erw[AL,IV]at q;let#[rfl,q]:=q;have:=zm7 q;subst this;have b:=b7 p hp;erw[IA]at b;exact#[zj2 b.1,b.2]
 .have b:=b8 _ (FA.1 h);erw[IA]at b;let#[a,m]:=Ak.1 b.2;have e:clA K t d=a:=by erw[clA,b.1,BO,m,B6]
  show mg x=AA (.ref (clA K t d));rw[e];exact I m
 .have b:=b9 _ (FA.1 h)
  cases m:nmA K x with
  |none=>rw[m]at b;cases b
  |some W=>
   rw[m]at b;exact#[W,I m,IT b]
 .let#[d,fd,G,l,Z,bp]:=zjO F O (b1 _ (lkm h));exact#[_,fd,d.ps,CH i d fd G (by simpa only[Tb.gs,G] using hq) l,I Z,l.kp,l.binds bp]
def zfO(F:Fact t w K mg)(O:∀d∈t.tbl,okT t d=AD)(b:∀i d,t.tbl[i]?=AA d->T i=AA d.fn):∀k,Fn2 t P w K mg base T k/\FnH t P w K mg base T k
 |0=>#[λi d r fd _ _=>zhY,λi d fd _ _ _=>ziw]
 |k+1=>by
  have ih:=zfO F O b k;refine#[λi d r fd h R=>?_,λi d fd h u R=>?_]
  .have o:=O d (A3 h);erw[okT,okD,AL,IA]at o;let#[#[#[#[#[c,g],j],x],_],_]:=o;let#[#[y],_]:=Ak.1 x;exact R.ok (m:=2*k+1) (b i d h) (zjr c) g j λ_ _ _ _ _ _ a=>y (2*k) _ _ #[rfl,rfl,λ_=>rfl,a.h,λ_=>a.hd,λ_=>#[own1,λ_=>rfl,rfl],λ_=>#[#[_,rfl],rfl,rfl],zeP F O ih.1 ih.2]
  .have o:=O d (A3 h);erw[okT,okD,AL,IA]at o;let#[#[#[#[#[c,g],j],_],p],_]:=o;have l:okH t d=true:=by rw[u]at p;simpa using p
   erw[okH,AL,Bb]at l;let#[#[y],_]:=Ak.1 l.1.1;refine zmV (m:=2*k+1) (b i d h) #[R.ex,R.kp] (zjr c) g j l.1.2 λcdv A outer s H a=>y (2*k) _ _ #[rfl,rfl,(λh=>nomatch h),a,(λh=>nomatch h),(λh=>nomatch h),(λh=>nomatch h),?_];have G:=zeP (N:=d.N) (q:=d.q) (sc:=yj d.st) (f:=faA K t i) (cdv:=cdv) (A:=A) (outer:=outer) (s:=s) (H:=H) (E:=E0) F O ih.1 ih.2;exact#[G.F,G.Q,G.C,G.D,G.E,G.N,G.B,G.T,G.A,G.M,λy D h=>let #[z,n,B,M,d]:=G.K y D h;#[z,n,B,#[M.F,M.kp,M.b],d],G.V,G.I,G.L,G.H,G.Z]
def zlf(F:Fact t w K mg)(O:∀d∈t.tbl,okT t d=AD)(a:∀i d,t.tbl[i]?=AA d->T i=AA d.fn)(k:Hy):Fn2 t P w K mg base T k:=(zfO F O a k).1
def yeq:Hy->(Hx AH->Prop)->Prop
 |0,P=>P []
 |n+1,P=>∀a,yeq n λb=>P (a::b)
theorem yeq.get:∀{n:Hy} {P:Hx AH->Prop},yeq n P->∀b,b.length=n->P b
 |0,P,h,[],_=>h
 |n+1,P,h,a::b,e=>(h a).get b (by simpa using e)
theorem all_mk2{h j}(X:K.In h)(G:h.Ns mainGlobals mg)(c:mg "law"=AA (.ref j))(R:ybz (ycV K (cnm t)) t.tbl)(B:yek K t=AD)(D:ybz (λp=>∀o,GD K w mg o p.1 p.2) t.dd)(q:ybz (KbP t) t.kb)(Ml:ybz (λp=>GDF K w mg (faA K t) p.1 p.2) t.ml)
  (O:t.tbl.all (okT t)=AD) (r:∀i d,t.tbl[i]?=AA d->T i=AA d.fn) {L:Hy} {st:Bg} {N:Hx AT} {fn:IC.Fn} (l:t.tbl[L]?=AA #["law","law","law",st,N,["_law_script"],fn,.fn]) (a:Hy):
  ∃fd:Av,(∀s(v:AH),Ec s fd #[[v],[]] [("_law_script",v)])/\∀base:Au,K.In base->base.Ns mainGlobals mg->yaA P w K mg base (CX1 P w) (2*a) j fd ["_law_script"] (spX K (yc T a) L):=by
 have F:Fact t w K mg:=#[λx u e=>by
  cases u with
  |none=>exact PySem.W.mg_none_of X G e
  |some v=>exact ET X G e,R,B,D,q,Ml]
 have m:=BA.1 O;let#[y,fd,n,b,f]:=zcH F m l;have f:y=.none:=f;subst f;have b:BD K mainGlobals "law"=AA (AA (.ref (faA K t L)))/\yaU _:=b;have e:=Value.ref.inj (A0 (c.symm.trans (ET X G b.1)));subst e;refine#[fd,λs v=>?_,λbase _ _=>(zlf F m r a L _ _ fd l n).imp λ_ _ _ _ h=>h _];let#[E,H,kV,doc,z,an,g,A,C,rfl,_]:=n.ex;exact .of_eq (b.2 kV doc z an g A v)
end
end L2
namespace IC
open PySem
def ye3:Hx (AT×Hy):=[(AE "move",36),(AE "bare",37),(AE "sum",38),(AE "less",39),(AE "both",40),(AE "any",41),(AE "odd",42),(AE "twice",43),(AE "half",44)]
def yhr:PV:=(.int 10000000000000000000000000000000000000000)
def yi7:PV:=(.int 2000)
def yh3:PV:=(.int 2)
def yh4:PV:=(.int 100)
def yh5:PV:=(.int 4000)
def yh6:PV:=(.int 4000)
def yh7:PV:=(.int 20)
def yh8:PV:=(.int 2)
def yf:PV:=(.int 200)
def ydi:Hx (AT×PV):=[(AE "set",(.tp AD [(.str "cell"),(.str "figure")])),(AE "move",(.tp AD [(.str "cell"),(.str "cell")])),(AE "bare",(.tp AD [(.str "cell"),(.str "cell")])),(AE "sum",(.tp AD [(.str "cell"),(.str "cell"),(.str "cell")])),(AE "less",(.tp AD [(.str "cell"),(.str "cell"),(.str "cell")])),(AE "both",(.tp AD [(.str "cell"),(.str "cell"),(.str "cell")])),(AE "any",(.tp AD [(.str "cell"),(.str "cell"),(.str "cell")])),(AE "odd",(.tp AD [(.str "cell"),(.str "cell"),(.str "cell")])),(AE "twice",(.tp AD [(.str "cell"),(.str "cell")])),(AE "half",(.tp AD [(.str "cell"),(.str "cell")])),(AE "times",(.tp AD [(.str "cell"),(.str "cell"),(.str "cell"),(.str "cell")])),(AE "mark",(.tp AD [(.str "figure")])),(AE "ask",(.tp AD [(.str "cell")]))]
section zq
local macro_rules|`(#[$x,*])=>do
 let mut a←`(.e)
 for y in x.getElems.reverse do a←`(.k $y $a)
 pure a
def ye4:Fn:=⟨3,3,AD,#[.ret (.and (.isi (.v 0) [.int]) (.and (.not (.isi (.v 0) [.bool])) (.chain .le .le (.v 1) (.v 0) (.v 2))))]⟩
def yhs:Fn:=⟨1,1,AD,#[.ret (.and (.isi (.v 0) [.str]) (.and (.cmp .eq (.blt .len #[.v 0]) (.i 1)) (.chain .le .le (.s "a") (.v 0) (.s "z"))))]⟩
def ye5:Fn:=⟨2,2,AD,#[.ite (.or (.not (.isi (.v 0) [.tuple])) (.cmp .ne (.blt .len #[.v 0]) (.v 1))) #[.nope] .e,.ret (.blt .all #[.comp [AF] (.n 0) (.seq (.v 0)) (.cst (.bl AD)) (.call 0 #[.v 0,.neg (.cst yf),.cst yf])])]⟩
def yhM:Fn:=⟨1,1,AD,#[.ret (.call 5 #[.v 0,.cst (.bl AC)])]⟩
def yhN:Fn:=⟨1,1,AD,#[.ret (.call 5 #[.v 0,.cst (.bl AD)])]⟩
def yh9:Fn:=⟨2,4,AD,#[.ite (.or (.not (.call 6 #[.v 0])) (.cmp .ne (.blt .len #[.v 0]) (.bin .add (.blt .len #[.dix ydi (.idx (.v 0) (.i 0))]) (.i 1)))) #[.ret (.cst (.bl AC))] .e,.for (.t [2,3]) (.zip (.dix ydi (.idx (.v 0) (.i 0))) (.slc (.v 0) (.i 1) (.cst .non))) #[.ite (.not (.call 7 #[.v 2,.v 3,.v 1])) #[.ret (.cst (.bl AC))] .e],.ret (.or (.cmp .ne (.idx (.v 0) (.i 0)) (.s "times")) (.cmp .ne (.idx (.v 0) (.i 1)) (.idx (.v 0) (.i 2))))]⟩
def yia:Fn:=⟨1,1,AD,#[.ret (.and (.isi (.v 0) [.tuple]) (.and (.cmp .gt (.blt .len #[.v 0]) (.i 0)) (.and (.isi (.idx (.v 0) (.i 0)) [.str]) (.din (.idx (.v 0) (.i 0)) ydi))))]⟩
def yib:Fn:=⟨3,3,AD,#[.ite (.cmp .eq (.v 0) (.s "figure")) #[.ret (.call 0 #[.v 1,.i 0,.i 1])] .e,.ret (.ite (.v 2) (.call 9 #[.v 1]) (.call 8 #[.v 1]))]⟩
def yic:Fn:=⟨1,1,AD,#[.ret (.and (.call 10 #[.v 0]) (.call 0 #[.idx (.v 0) (.i 1),.i 0,.i 99]))]⟩
def yid:Fn:=⟨1,1,AD,#[.ret (.and (.call 10 #[.v 0]) (.call 2 #[.idx (.v 0) (.i 1),.i 4]))]⟩
def yie:Fn:=⟨1,1,AD,#[.ret (.and (.isi (.v 0) [.tuple]) (.and (.cmp .eq (.blt .len #[.v 0]) (.i 2)) (.call 1 #[.idx (.v 0) (.i 0)])))]⟩
def yk:Fn:=⟨7,7,AC,#[.sfl 20 (.v 0) (AE "w") (.v 1),.sfl 20 (.v 0) (AE "n") (.v 2),.sfl 20 (.v 0) (AE "i") (.v 3),.sfl 20 (.v 0) (AE "j") (.v 4),.sfl 20 (.v 0) (AE "words") (.v 5),.sfl 20 (.v 0) (AE "marked") (.v 6)]⟩
def yl:Fn:=⟨1,1,AD,#[.ret (.and (.isi (.v 0) [.tuple]) (.and (.cmp .le (.blt .len #[.v 0]) (.cst yh7)) (.blt .all #[.comp [AF] (.n 0) (.seq (.v 0)) (.cst (.bl AD)) (.call 15 #[.v 0])])))]⟩
def ydv:Fn:=⟨2,3,AC,#[.asg (.n 2) (.comp [AF,AA 1] (.n 0) (.seq (.v 0)) (.cst (.bl AD)) (.call 18 #[.v 0,.v 1])),.ret (.and (.cmp .notin (.cst .non) (.v 2)) (.cmp .eq (.blt .sum #[.v 2]) (.i 0)))]⟩
def ye6:Fn:=⟨4,4,AD,#[.ret (.bin .add (.bin .add (.bin .add (.idx (.v 0) (.i 0)) (.bin .mul (.idx (.v 0) (.i 1)) (.v 2))) (.bin .mul (.idx (.v 0) (.i 2)) (.v 3))) (.bin .mul (.idx (.v 0) (.i 3)) (.v 1)))]⟩
def ye8:Fn:=⟨1,4,AD,#[.ite (.or (.not (.isi (.v 0) [.tuple])) (.cmp .ne (.blt .len #[.v 0]) (.i 3))) #[.ret (.cst (.bl AC))] .e,.asg (.t [1,2,3]) (.v 0),.ret (.and (.call 0 #[.v 1,.bin .sub (.i 1) (.cst yhr),.bin .sub (.cst yhr) (.i 1)]) (.and (.call 2 #[.v 2,.i 6]) (.call 16 #[.v 3])))]⟩
def ye9:Fn:=⟨1,1,AD,#[.ret (.and (.isi (.v 0) [.tuple]) (.and (.cmp .le (.blt .len #[.v 0]) (.cst yh8)) (.blt .all #[.comp [AF] (.n 0) (.seq (.v 0)) (.cst (.bl AD)) (.call 17 #[.v 0])])))]⟩
def yfa:Fn:=⟨1,1,AD,#[.ite (.or (.not (.isi (.v 0) [.tuple])) (.cmp .eq (.blt .len #[.v 0]) (.i 0))) #[.ret (.cst (.bl AC))] .e,.ite (.cmp .eq (.idx (.v 0) (.i 0)) (.s "mark")) #[.ret (.cmp .eq (.blt .len #[.v 0]) (.i 1))] .e,.ite (.or (.cmp .ne (.idx (.v 0) (.i 0)) (.s "slice")) (.or (.cmp .ne (.blt .len #[.v 0]) (.i 4)) (.not (.call 1 #[.idx (.v 0) (.i 1)])))) #[.ret (.cst (.bl AC))] .e,.ret (.and (.call 2 #[.idx (.v 0) (.i 2),.i 4]) (.call 2 #[.idx (.v 0) (.i 3),.i 4]))]⟩
def yM:Fn:=⟨2,9,AC,#[.asg (.t [2,3,4]) (.v 0),.asg (.n 5) (.call 19 #[.v 3,.v 1]),.asg (.n 6) (.comp [AF,AA 1] (.n 0) (.seq (.v 4)) (.cst (.bl AD)) (.call 20 #[.v 0,.v 1])),.ite (.or (.not (.chain .le .le (.i 0) (.v 5) (.cst yi7))) (.cmp .isin (.cst .non) (.v 6))) #[.ret (.cst .non)] .e,.asg (.n 7) (.bin .shl (.v 2) (.v 5)),.for (.n 8) (.seq (.v 6)) #[.aug 7 .mul (.v 8)],.ret (.v 7)]⟩
def ym:Fn:=⟨2,9,AC,#[.asg (.t [2,3,4,5,6,7]) (.v 0),.asg (.n 8) (.bin .add (.bin .add (.bin .mul (.v 5) (.fld 20 (.v 1) (AE "i"))) (.bin .mul (.v 6) (.fld 20 (.v 1) (AE "j")))) (.bin .mul (.v 7) (.fld 20 (.v 1) (AE "n")))),.ret (.bin .add (.bin .add (.bin .add (.v 2) (.bin .mul (.v 3) (.fld 20 (.v 1) (AE "i")))) (.bin .mul (.v 4) (.fld 20 (.v 1) (AE "j")))) (.bin .mul (.fld 20 (.v 1) (AE "w")) (.v 8)))]⟩
def yx:Fn:=⟨2,4,AC,#[.ite (.cmp .eq (.idx (.v 0) (.i 0)) (.s "mark")) #[.nope] .e,.asg (.n 2) (.call 14 #[.idx (.v 0) (.i 2),.fld 20 (.v 1) (AE "n"),.fld 20 (.v 1) (AE "i"),.fld 20 (.v 1) (AE "j")]),.asg (.n 3) (.call 14 #[.idx (.v 0) (.i 3),.fld 20 (.v 1) (AE "n"),.fld 20 (.v 1) (AE "i"),.fld 20 (.v 1) (AE "j")]),.ite (.or (.not (.chain .le .le (.i 0) (.v 2) (.cst yh4))) (.not (.chain .le .le (.i 0) (.v 3) (.cst yh4)))) #[.nope] .e,.ret (.blt .sum #[.comp [AF,AA 1,AA 2,AA 0] (.n 0) (.range2 (.v 2) (.v 3)) (.cst (.bl AD)) (.bin .shl (.mth .get (.fld 20 (.v 1) (AE "words")) #[.tup #[.idx (.v 3) (.i 1),.v 0],.i 0]) (.bin .mul (.fld 20 (.v 1) (AE "w")) (.bin .sub (.v 0) (.v 2))))])]⟩
def y8:Fn:=⟨3,3,AC,#[.sfl 21 (.v 0) (AE "w") (.v 1),.sfl 21 (.v 0) (AE "n") (.v 2),.sfl 21 (.v 0) (AE "steps") (.newl .e),.sfl 21 (.v 0) (AE "rows") (.i 0),.sfl 21 (.v 0) (AE "rounds") (.i 0)]⟩
def yh:Fn:=⟨3,4,AC,#[.for (.n 3) (.seq (.v 1)) #[.ite (.cmp .eq (.idx (.v 3) (.i 0)) (.s "row")) #[.expr (.mcl 21 25 (AE "add_row") (.v 0) #[.idx (.v 3) (.i 1),.v 2])] #[.expr (.mcl 21 23 (AE "go_rounds") (.v 0) #[.v 3,.v 2])]]]⟩
def yo:Fn:=⟨3,5,AC,#[.asg (.n 3) (.blt .max #[.i 0,.mcl 21 24 (AE "count_of") (.v 0) #[.idx (.v 1) (.i 1)]]),.for (.n 4) (.range1 (.v 3)) #[.expr (.mcl 21 27 (AE "add_asked") (.v 0) #[.idx (.v 1) (.i 2),.bin .add (.v 2) (.tup #[.v 4])]),.expr (.mcl 21 26 (AE "add_round") (.v 0) .e),.expr (.mcl 21 22 (AE "go_parts") (.v 0) #[.idx (.v 1) (.i 3),.bin .add (.v 2) (.tup #[.v 4])])],.expr (.mcl 21 27 (AE "add_asked") (.v 0) #[.idx (.v 1) (.i 2),.bin .add (.v 2) (.tup #[.v 3])])]⟩
def yn:Fn:=⟨2,5,AC,#[.asg (.t [2,3,4]) (.v 1),.ret (.bin .add (.bin .add (.v 2) (.bin .mul (.v 3) (.fld 21 (.v 0) (AE "n")))) (.bin .mul (.bin .mul (.v 4) (.fld 21 (.v 0) (AE "w"))) (.fld 21 (.v 0) (AE "n"))))]⟩
def yv:Fn:=⟨3,6,AC,#[.asg (.t [3,4]) (.call 32 #[.v 2]),.asg (.n 5) (.blt .tuple #[.comp [AF,AA 3,AA 4,AA 0] (.n 0) (.seq (.v 1)) (.cst (.bl AD)) (.call 33 #[.v 0,.fld 21 (.v 3) (AE "n"),.v 1,.v 2])]),.sfl 21 (.v 0) (AE "rows") (.bin .add (.fld 21 (.v 0) (AE "rows")) (.i 1)),.ite (.or (.not (.call 3 #[.v 5])) (.cmp .gt (.fld 21 (.v 0) (AE "rows")) (.cst yh6))) #[.nope] .e,.expr (.mth .append (.fld 21 (.v 0) (AE "steps")) #[.tup #[.s "row",.v 5]])]⟩
def yy:Fn:=⟨1,1,AC,#[.sfl 21 (.v 0) (AE "rounds") (.bin .add (.fld 21 (.v 0) (AE "rounds")) (.i 1)),.ite (.cmp .gt (.fld 21 (.v 0) (AE "rounds")) (.cst yh5)) #[.nope] .e]⟩
def yz:Fn:=⟨3,5,AC,#[.asg (.t [3,4]) (.call 32 #[.v 2]),.expr (.mth .append (.fld 21 (.v 0) (AE "steps")) #[.tup #[.s "asked",.v 1,.v 3,.v 4]])]⟩
def yfd:Fn:=⟨1,1,AD,#[.ret (.call 30 #[.v 0,.cst yh3])]⟩
def yfm:Fn:=⟨3,4,AD,#[.ite (.not (.call 28 #[.v 0])) #[.nope] .e,.asg (.n 3) (.new 21 21 #[.v 1,.v 2]),.expr (.mcl 21 22 (AE "go_parts") (.v 3) #[.v 0,.tup .e]),.ret (.frz (.fld 21 (.v 3) (AE "steps")))]⟩
def yft:Fn:=⟨2,2,AD,#[.ret (.and (.isi (.v 0) [.tuple]) (.blt .all #[.comp [AF,AA 1] (.n 0) (.seq (.v 0)) (.cst (.bl AD)) (.call 31 #[.v 0,.v 1])]))]⟩
def yc4:Fn:=⟨2,2,AD,#[.ite (.or (.not (.isi (.v 0) [.tuple])) (.cmp .eq (.blt .len #[.v 0]) (.i 0))) #[.ret (.cst (.bl AC))] .e,.ite (.cmp .eq (.idx (.v 0) (.i 0)) (.s "row")) #[.ret (.and (.cmp .eq (.blt .len #[.v 0]) (.i 2)) (.call 4 #[.idx (.v 0) (.i 1)]))] .e,.ite (.or (.cmp .ne (.idx (.v 0) (.i 0)) (.s "rounds")) (.or (.cmp .ne (.blt .len #[.v 0]) (.i 4)) (.cmp .eq (.v 1) (.i 0)))) #[.ret (.cst (.bl AC))] .e,.ret (.and (.call 2 #[.idx (.v 0) (.i 1),.i 3]) (.and (.call 12 #[.idx (.v 0) (.i 2)]) (.call 30 #[.idx (.v 0) (.i 3),.bin .sub (.v 1) (.i 1)])))]⟩
def ydK:Fn:=⟨1,1,AD,#[.ret (.slc (.bin .add (.v 0) (.tup #[.i 0,.i 0])) (.cst .non) (.i 2))]⟩
def ybt:Fn:=⟨4,4,AD,#[.ite (.not (.isi (.v 0) [.tuple])) #[.ret (.v 0)] .e,.ret (.tup #[.idx (.v 0) (.i 0),.call 14 #[.idx (.v 0) (.i 1),.v 1,.v 2,.v 3]])]⟩
def yfu:Fn:=⟨5,6,AD,#[.mkr 5 ye3 (.v 0) #[.v 1,.v 2,.v 3,.v 4]]⟩
def yfv:Fn:=⟨1,1,AD,#[.ret (.bin .sub (.bin .shl (.i 1) (.v 0)) (.i 1))]⟩
def yif:Fn:=⟨4,4,AD,#[.ret (.tup #[.v 1,.v 3])]⟩
def yig:Fn:=⟨4,4,AD,#[.ret (.tup #[.bin .sub (.call 35 #[.v 0]) (.v 1),.v 3])]⟩
def yfy:Fn:=⟨4,5,AD,#[.asg (.n 4) (.bin .add (.bin .add (.v 1) (.v 2)) (.v 3)),.ret (.tup #[.bin .band (.v 4) (.call 35 #[.v 0]),.bin .shr (.v 4) (.v 0)])]⟩
def yih:Fn:=⟨4,5,AD,#[.asg (.n 4) (.bin .sub (.bin .sub (.v 1) (.v 2)) (.v 3)),.ret (.tup #[.bin .band (.v 4) (.call 35 #[.v 0]),.ite (.cmp .lt (.v 4) (.i 0)) (.i 1) (.i 0)])]⟩
def yii:Fn:=⟨4,4,AD,#[.ret (.tup #[.bin .band (.v 1) (.v 2),.v 3])]⟩
def yij:Fn:=⟨4,4,AD,#[.ret (.tup #[.bin .bor (.v 1) (.v 2),.v 3])]⟩
def yik:Fn:=⟨4,4,AD,#[.ret (.tup #[.bin .bxor (.v 1) (.v 2),.v 3])]⟩
def yfD:Fn:=⟨4,4,AD,#[.ret (.call 38 #[.v 0,.v 1,.v 1,.v 3])]⟩
def yil:Fn:=⟨4,4,AD,#[.ret (.tup #[.bin .bor (.bin .shr (.v 1) (.i 1)) (.bin .shl (.v 3) (.bin .sub (.v 0) (.i 1))),.bin .band (.v 1) (.i 1)])]⟩
def y9:Fn:=⟨2,2,AC,#[.sfl 22 (.v 0) (AE "w") (.v 1),.sfl 22 (.v 0) (AE "words") (.dict0 AD),.sfl 22 (.v 0) (AE "marked") (.i 0)]⟩
def yA:Fn:=⟨4,5,AC,#[.asg (.n 4) (.call 52 #[.v 1,.v 2]),.ite (.not (.call 0 #[.v 3,.i 0,.call 35 #[.fld 22 (.v 0) (AE "w")]])) #[.nope] .e,.dput (.fld 22 (.v 0) (AE "words")) (.v 4) (.v 3)]⟩
def yB:Fn:=⟨1,1,AC,#[.ret (.fld 22 (.v 0) (AE "marked"))]⟩
def yfH:Fn:=⟨2,2,AC,#[.expr (.call 53 #[.v 1]),.expr (.mcl 22 50 (AE "go_row") (.v 0) #[.v 1])]⟩
def yT:Fn:=⟨2,2,AC,#[.ret (.mth .get (.fld 22 (.v 0) (AE "words")) #[.v 1,.i 0])]⟩
def ya:Fn:=⟨2,2,AC,#[.ite (.cmp .eq (.idx (.v 1) (.i 0)) (.s "mark")) #[.sfl 22 (.v 0) (AE "marked") (.idx (.v 1) (.i 1))] #[.ite (.cmp .eq (.idx (.v 1) (.i 0)) (.s "ask")) #[.nope] #[.ite (.cmp .eq (.idx (.v 1) (.i 0)) (.s "set")) #[.dput (.fld 22 (.v 0) (AE "words")) (.idx (.v 1) (.i 1)) (.idx (.v 1) (.i 2))] #[.ite (.cmp .eq (.idx (.v 1) (.i 0)) (.s "times")) #[.nope] #[.expr (.mcl 22 51 (AE "go_made") (.v 0) #[.v 1])]]]]]⟩
def yY:Fn:=⟨2,6,AC,#[.asg (.t [2,3]) (.tup #[.mcl 22 49 (AE "held_in") (.v 0) #[.idx (.v 1) (.i 2)],.mcl 22 49 (AE "held_in") (.v 0) #[.idx (.v 1) (.neg (.i 1))]]),.asg (.t [4,5]) (.call 34 #[.idx (.v 1) (.i 0),.fld 22 (.v 0) (AE "w"),.v 2,.v 3,.fld 22 (.v 0) (AE "marked")]),.dput (.fld 22 (.v 0) (AE "words")) (.idx (.v 1) (.i 1)) (.v 4),.sfl 22 (.v 0) (AE "marked") (.v 5)]⟩
def yhO:Fn:=⟨2,2,AD,#[.ite (.not (.call 8 #[.tup #[.v 0,.v 1]])) #[.nope] .e,.ret (.tup #[.v 0,.v 1])]⟩
def yfI:Fn:=⟨1,1,AD,#[.ite (.not (.call 3 #[.v 0])) #[.nope] .e]⟩
def y4:Fn:=⟨3,4,AD,#[.asg (.n 3) (.bin .sub (.bin .shl (.i 1) (.v 1)) (.i 1)),.ret (.blt .tuple #[.comp [AF,AA 3,AA 0,AA 1] (.n 0) (.range1 (.v 2)) (.cst (.bl AD)) (.bin .band (.bin .shr (.v 2) (.bin .mul (.v 3) (.v 0))) (.v 1))])]⟩
def yau:Fn:=⟨5,8,AD,#[.asg (.n 5) (.call 29 #[.v 0,.v 1,.v 2]),.asg (.n 6) (.call 56 #[.v 1,.v 2,.v 3,.v 4]),.for (.n 7) (.seq (.v 5)) #[.ite (.cmp .eq (.idx (.v 7) (.i 0)) (.s "row")) #[.expr (.mcl 22 48 (AE "do") (.v 6) #[.idx (.v 7) (.i 1)])] #[.ite (.not (.call 13 #[.idx (.v 7) (.i 1),.new 20 11 #[.v 1,.v 2,.idx (.v 7) (.i 2),.idx (.v 7) (.i 3),.fld 22 (.v 6) (AE "words"),.mcl 22 47 (AE "mark") (.v 6) .e]])) #[.ret (.cst (.bl AC))] .e]],.ret (.cst (.bl AD))]⟩
def yp:Fn:=⟨4,9,AC,#[.asg (.n 4) (.new 22 45 #[.v 0]),.for (.t [5,6]) (.seq (.tup #[.tup #[.s "a",.v 2],.tup #[.s "b",.v 3]])) #[.for (.t [7,8]) (.enum (.call 54 #[.v 6,.v 0,.v 1])) #[.expr (.mcl 22 46 (AE "put") (.v 4) #[.v 5,.v 7,.v 8])]],.ret (.v 4)]⟩
def yfN:Fn:=⟨1,1,AC,#[.ret (.newl #[.slc (.v 0) (.cst .non) (.i 63),.i 0,.i 0,.cst (.bl AC)])]⟩
def yav:Fn:=⟨1,8,AD,#[.asg (.n 1) (.tup #[.i 2147483647,.i 2147483629,.i 2147483587,.i 2147483579,.i 2147483563]),.asg (.n 2) (.i 0),.for (.t [3,4]) (.enum (.v 1)) #[.asg (.n 5) (.bin .add (.v 0) (.idx (.tup #[.i 11,.i 101,.i 1009,.i 10007,.i 100003]) (.v 3))),.asg (.n 5) (.bin .mod (.bin .mul (.v 5) (.bin .add (.i 48271) (.bin .mul (.i 2) (.v 3)))) (.v 4)),.asg (.n 6) (.bin .mod (.bin .mul (.v 5) (.v 5)) (.v 4)),.asg (.n 7) (.bin .mod (.bin .mul (.bin .mod (.bin .mul (.v 6) (.v 6)) (.v 4)) (.v 5)) (.v 4)),.asg (.n 2) (.bin .add (.bin .mul (.v 2) (.v 4)) (.v 7))],.ret (.v 2)]⟩
def yZ:Fn:=⟨1,4,AC,#[.asg (.t [1,2]) (.tup #[.idx (.v 0) (.i 0),.idx (.v 0) (.i 1)]),.asg (.n 3) (.bin .add (.bin .mul (.i 31) (.v 2)) (.i 7)),.ite (.cmp .gt (.blt .len #[.v 1]) (.i 0)) #[.asg (.n 3) (.bin .mul (.i 104729) (.bin .fdiv (.v 2) (.blt .len #[.v 1]))),.asg (.n 3) (.bin .add (.v 3) (.idx (.v 1) (.bin .mod (.v 2) (.blt .len #[.v 1]))))] .e,.six (.v 0) (.i 1) (.bin .add (.v 2) (.i 1)),.six (.v 0) (.i 3) (.or (.cmp .ge (.v 2) (.blt .len #[.v 1])) (.cmp .lt (.v 3) (.bin .pow (.i 10) (.i 18)))),.ite (.idx (.v 0) (.i 3)) #[.six (.v 0) (.i 2) (.call 58 #[.v 3])] #[.six (.v 0) (.i 2) (.bin .sub (.v 3) (.bin .pow (.i 10) (.i 18)))]]⟩
def yR:Fn:=⟨2,4,AC,#[.asg (.n 2) (.i 0),.while (.and (.cmp .lt (.v 2) (.i 64)) (.or (.cmp .eq (.idx (.v 0) (.i 2)) (.i 0)) (.and (.idx (.v 0) (.i 3)) (.cmp .lt (.idx (.v 0) (.i 2)) (.bin .mul (.v 1) (.i 4096)))))) #[.expr (.call 59 #[.v 0]),.aug 2 .add (.i 1),.ite (.and (.idx (.v 0) (.i 3)) (.cmp .lt (.idx (.v 0) (.i 2)) (.bin .mul (.v 1) (.i 4096)))) #[.six (.v 0) (.i 2) (.bin .add (.idx (.v 0) (.i 2)) (.bin .mul (.bin .mul (.v 1) (.i 4096)) (.bin .add (.i 1) (.bin .mod (.idx (.v 0) (.i 2)) (.i 4093)))))] .e],.asg (.n 3) (.bin .mod (.idx (.v 0) (.i 2)) (.v 1)),.six (.v 0) (.i 2) (.bin .fdiv (.idx (.v 0) (.i 2)) (.v 1)),.ret (.v 3)]⟩
def yfO:Fn:=⟨2,2,AC,#[.ret (.tup #[.bin .add (.i 4) (.call 60 #[.v 0,.i 13]),.bin .add (.i 1) (.call 60 #[.v 0,.v 1])])]⟩
def yO:Fn:=⟨3,13,AC,#[.asg (.n 3) (.call 60 #[.v 0,.i 12]),.asg (.n 4) (.i 1),.for (.n 5) (.range1 (.bin .mul (.v 1) (.v 2))) #[.asg (.n 4) (.bin .mul (.i 2) (.v 4))],.asg (.n 6) (.tup #[.i 0,.i 1,.bin .sub (.v 4) (.i 1),.bin .fdiv (.v 4) (.i 2),.bin .sub (.bin .fdiv (.v 4) (.i 2)) (.i 1),.bin .sub (.v 4) (.i 2)]),.ite (.cmp .lt (.v 3) (.i 6)) #[.ret (.idx (.v 6) (.v 3))] .e,.asg (.n 7) (.call 60 #[.v 0,.v 4]),.ite (.cmp .eq (.v 3) (.i 6)) #[.asg (.n 8) (.i 1),.for (.n 5) (.range1 (.call 60 #[.v 0,.bin .mul (.v 1) (.v 2)])) #[.asg (.n 8) (.bin .mul (.i 2) (.v 8))],.ret (.bin .mul (.bin .fdiv (.v 7) (.v 8)) (.v 8))] .e,.ite (.cmp .eq (.v 3) (.i 7)) #[.asg (.n 8) (.i 1),.for (.n 5) (.range1 (.call 60 #[.v 0,.bin .mul (.v 1) (.v 2)])) #[.asg (.n 8) (.bin .mul (.i 2) (.v 8))],.ret (.bin .sub (.v 4) (.v 8))] .e,.ite (.cmp .gt (.v 3) (.i 9)) #[.ret (.v 7)] .e,.asg (.n 9) (.i 1),.for (.n 5) (.range1 (.v 1)) #[.asg (.n 9) (.bin .mul (.i 2) (.v 9))],.asg (.n 10) (.i 0),.for (.n 5) (.range1 (.v 2)) #[.asg (.n 11) (.bin .mod (.bin .fdiv (.v 7) (.bin .add (.v 5) (.i 1))) (.v 9)),.asg (.n 12) (.tup #[.i 0,.i 1,.bin .sub (.v 9) (.i 1),.bin .fdiv (.v 9) (.i 2),.v 11]),.asg (.n 10) (.bin .add (.bin .mul (.v 10) (.v 9)) (.idx (.v 12) (.call 60 #[.v 0,.i 5])))],.ret (.v 10)]⟩
def yfR:Fn:=⟨1,3,AD,#[.asg (.n 1) (.i 1),.for (.n 2) (.range1 (.v 0)) #[.asg (.n 1) (.bin .mul (.i 2) (.v 1))],.ret (.v 1)]⟩
def ygk:Fn:=⟨3,6,AD,#[.asg (.n 3) (.call 63 #[.v 1]),.asg (.n 4) (.newl .e),.for (.n 5) (.range1 (.v 2)) #[.expr (.mth .append (.v 4) #[.bin .mod (.v 0) (.v 3)]),.asg (.n 0) (.bin .fdiv (.v 0) (.v 3))],.ret (.blt .tuple #[.v 4])]⟩
def ygl:Fn:=⟨4,4,AD,#[.ret (.bin .add (.bin .add (.bin .add (.idx (.v 0) (.i 0)) (.bin .mul (.idx (.v 0) (.i 1)) (.v 1))) (.bin .mul (.idx (.v 0) (.i 2)) (.v 2))) (.bin .mul (.idx (.v 0) (.i 3)) (.v 3)))]⟩
def yt:Fn:=⟨4,6,AD,#[.asg (.n 4) (.newl #[.idx (.v 0) (.i 0)]),.for (.n 5) (.seq (.slc (.v 0) (.i 1) (.cst .non))) #[.ite (.isi (.v 5) [.tuple]) #[.expr (.mth .append (.v 4) #[.tup #[.idx (.v 5) (.i 0),.call 65 #[.idx (.v 5) (.i 1),.v 1,.v 2,.v 3]]])] #[.expr (.mth .append (.v 4) #[.v 5])]],.ret (.blt .tuple #[.v 4])]⟩
def ygw:Fn:=⟨4,5,AC,#[.asg (.n 4) (.mth .get (.v 0) #[.idx (.v 2) (.i 2),.i 0]),.ite (.cmp .eq (.idx (.v 2) (.i 0)) (.s "move")) #[.dput (.v 0) (.idx (.v 2) (.i 1)) (.v 4)] .e,.ite (.cmp .eq (.idx (.v 2) (.i 0)) (.s "bare")) #[.dput (.v 0) (.idx (.v 2) (.i 1)) (.bin .sub (.bin .sub (.v 3) (.i 1)) (.v 4))] .e,.ite (.cmp .eq (.idx (.v 2) (.i 0)) (.s "twice")) #[.dput (.v 0) (.idx (.v 2) (.i 1)) (.bin .mod (.bin .add (.bin .mul (.i 2) (.v 4)) (.v 1)) (.v 3)),.ret (.bin .fdiv (.bin .add (.bin .mul (.i 2) (.v 4)) (.v 1)) (.v 3))] .e,.ite (.cmp .eq (.idx (.v 2) (.i 0)) (.s "half")) #[.dput (.v 0) (.idx (.v 2) (.i 1)) (.bin .add (.bin .fdiv (.v 4) (.i 2)) (.bin .mul (.v 1) (.bin .fdiv (.v 3) (.i 2)))),.ret (.bin .mod (.v 4) (.i 2))] .e,.ret (.v 1)]⟩
def ydf:Fn:=⟨4,7,AC,#[.ite (.cmp .eq (.idx (.v 2) (.i 0)) (.s "mark")) #[.ret (.idx (.v 2) (.i 1))] .e,.ite (.cmp .eq (.idx (.v 2) (.i 0)) (.s "ask")) #[.ret (.blt .int #[.cmp .ne (.mth .get (.v 0) #[.idx (.v 2) (.i 1),.i 0]) (.i 0)])] .e,.ite (.cmp .eq (.idx (.v 2) (.i 0)) (.s "set")) #[.dput (.v 0) (.idx (.v 2) (.i 1)) (.idx (.v 2) (.i 2)),.ret (.v 1)] .e,.ite (.cmp .eq (.blt .len #[.v 2]) (.i 3)) #[.ret (.call 67 #[.v 0,.v 1,.v 2,.v 3])] .e,.ite (.cmp .eq (.idx (.v 2) (.i 0)) (.s "times")) #[.asg (.n 4) (.bin .mul (.mth .get (.v 0) #[.idx (.v 2) (.i 3),.i 0]) (.mth .get (.v 0) #[.idx (.v 2) (.i 4),.i 0])),.dput (.v 0) (.idx (.v 2) (.i 1)) (.bin .mod (.v 4) (.v 3)),.dput (.v 0) (.idx (.v 2) (.i 2)) (.bin .fdiv (.v 4) (.v 3)),.ret (.v 1)] .e,.asg (.n 5) (.mth .get (.v 0) #[.idx (.v 2) (.i 2),.i 0]),.asg (.n 6) (.mth .get (.v 0) #[.idx (.v 2) (.i 3),.i 0]),.ite (.cmp .eq (.idx (.v 2) (.i 0)) (.s "sum")) #[.dput (.v 0) (.idx (.v 2) (.i 1)) (.bin .mod (.bin .add (.bin .add (.v 5) (.v 6)) (.v 1)) (.v 3)),.ret (.bin .fdiv (.bin .add (.bin .add (.v 5) (.v 6)) (.v 1)) (.v 3))] .e,.ite (.cmp .eq (.idx (.v 2) (.i 0)) (.s "less")) #[.dput (.v 0) (.idx (.v 2) (.i 1)) (.bin .mod (.bin .sub (.bin .sub (.v 5) (.v 6)) (.v 1)) (.v 3)),.ret (.blt .int #[.cmp .lt (.bin .sub (.bin .sub (.v 5) (.v 6)) (.v 1)) (.i 0)])] .e,.ite (.cmp .eq (.idx (.v 2) (.i 0)) (.s "both")) #[.dput (.v 0) (.idx (.v 2) (.i 1)) (.bin .band (.v 5) (.v 6))] .e,.ite (.cmp .eq (.idx (.v 2) (.i 0)) (.s "any")) #[.dput (.v 0) (.idx (.v 2) (.i 1)) (.bin .bor (.v 5) (.v 6))] .e,.ite (.cmp .eq (.idx (.v 2) (.i 0)) (.s "odd")) #[.dput (.v 0) (.idx (.v 2) (.i 1)) (.bin .bxor (.v 5) (.v 6))] .e,.ret (.v 1)]⟩
def ygL:Fn:=⟨3,3,AD,#[.ret (.bin .add (.bin .add (.idx (.v 0) (.i 0)) (.bin .mul (.idx (.v 0) (.i 1)) (.v 2))) (.bin .mul (.bin .mul (.idx (.v 0) (.i 2)) (.v 1)) (.v 2)))]⟩
def yaI:Fn:=⟨4,7,AC,#[.asg (.n 4) (.dict0 AD),.for (.t [5,6]) (.enum (.call 64 #[.v 2,.v 0,.v 1])) #[.dput (.v 4) (.tup #[.s "a",.v 5]) (.v 6)],.for (.t [5,6]) (.enum (.call 64 #[.v 3,.v 0,.v 1])) #[.dput (.v 4) (.tup #[.s "b",.v 5]) (.v 6)],.ret (.v 4)]⟩
def yW:Fn:=⟨5,9,AD,#[.for (.t [5,6,7]) (.seq (.v 0)) #[.ite (.not (.chain .le .le (.i 0) (.call 78 #[.v 6,.tup #[.v 1,.v 2],.v 3,.v 4]) (.i 2000))) #[.ret (.cst (.bl AC))] .e,.for (.n 8) (.seq (.v 7)) #[.ite (.not (.blt .all #[.comp [AF,AA 3,AA 4,AA 2] (.n 0) (.seq (.slc (.v 8) (.i 2) (.cst .non))) (.cst (.bl AD)) (.chain .le .le (.i 0) (.call 65 #[.v 0,.v 1,.v 2,.v 3]) (.i 100))])) #[.nope] .e]],.ret (.cst (.bl AD))]⟩
def yal:Fn:=⟨5,7,AC,#[.asg (.n 5) (.i 0),.for (.n 6) (.rangeD (.bin .sub (.v 3) (.i 1)) (.bin .sub (.v 2) (.i 1))) #[.asg (.n 5) (.bin .add (.bin .mul (.v 5) (.v 4)) (.mth .get (.v 0) #[.tup #[.v 1,.v 6],.i 0]))],.ret (.v 5)]⟩
def yaj:Fn:=⟨6,15,AC,#[.asg (.n 6) (.call 63 #[.idx (.v 1) (.i 0)]),.asg (.n 7) (.i 0),.for (.t [8,9,10]) (.seq (.v 0)) #[.asg (.n 11) (.call 78 #[.v 9,.v 1,.v 2,.v 3]),.asg (.n 12) (.bin .mul (.v 8) (.bin .shl (.i 1) (.v 11))),.for (.n 13) (.seq (.v 10)) #[.ite (.cmp .eq (.idx (.v 13) (.i 0)) (.s "mark")) #[.nope] #[.asg (.n 14) (.call 65 #[.idx (.v 13) (.i 2),.v 2,.v 3,.idx (.v 1) (.i 1)]),.asg (.n 11) (.call 65 #[.idx (.v 13) (.i 3),.v 2,.v 3,.idx (.v 1) (.i 1)]),.asg (.n 12) (.bin .mul (.v 12) (.call 72 #[.v 4,.idx (.v 13) (.i 1),.v 14,.v 11,.v 6]))]],.aug 7 .add (.v 12)],.ret (.v 7)]⟩
def yU:Fn:=⟨6,6,AC,#[.ite (.not (.call 71 #[.v 0,.idx (.v 1) (.i 0),.idx (.v 1) (.i 1),.v 2,.v 3])) #[.ret (.cst (.bl AC))] .e,.ret (.cmp .eq (.call 73 #[.v 0,.v 1,.v 2,.v 3,.v 4,.v 5]) (.i 0))]⟩
def yu:Fn:=⟨4,8,AC,#[.asg (.n 4) (.call 63 #[.idx (.v 2) (.i 0)]),.ite (.cmp .eq (.idx (.v 0) (.i 0)) (.s "row")) #[.six (.v 3) (.i 1) (.call 68 #[.idx (.v 3) (.i 0),.idx (.v 3) (.i 1),.call 66 #[.idx (.v 0) (.i 1),.v 1,.i 0,.idx (.v 2) (.i 1)],.v 4])] #[.asg (.n 5) (.blt .max #[.i 0,.call 69 #[.idx (.v 0) (.i 1),.idx (.v 2) (.i 0),.idx (.v 2) (.i 1)]]),.for (.n 6) (.range1 (.v 5)) #[.six (.v 3) (.i 2) (.and (.idx (.v 3) (.i 2)) (.call 74 #[.idx (.v 0) (.i 2),.v 2,.v 1,.v 6,.idx (.v 3) (.i 0),.idx (.v 3) (.i 1)])),.for (.n 7) (.seq (.idx (.v 0) (.i 3))) #[.six (.v 3) (.i 1) (.call 68 #[.idx (.v 3) (.i 0),.idx (.v 3) (.i 1),.call 66 #[.idx (.v 7) (.i 1),.v 1,.v 6,.idx (.v 2) (.i 1)],.v 4])]],.six (.v 3) (.i 2) (.and (.idx (.v 3) (.i 2)) (.call 74 #[.idx (.v 0) (.i 2),.v 2,.v 1,.v 5,.idx (.v 3) (.i 0),.idx (.v 3) (.i 1)]))]]⟩
def yae:Fn:=⟨5,10,AD,#[.asg (.n 5) (.newl #[.call 70 #[.v 1,.v 2,.v 3,.v 4],.i 0,.cst (.bl AD)]),.for (.n 6) (.seq (.v 0)) #[.ite (.cmp .eq (.idx (.v 6) (.i 0)) (.s "row")) #[.expr (.call 75 #[.v 6,.i 0,.tup #[.v 1,.v 2],.v 5])] #[.asg (.n 7) (.blt .max #[.i 0,.call 69 #[.idx (.v 6) (.i 1),.v 1,.v 2]]),.for (.n 8) (.range1 (.v 7)) #[.six (.v 5) (.i 2) (.and (.idx (.v 5) (.i 2)) (.call 74 #[.idx (.v 6) (.i 2),.tup #[.v 1,.v 2],.v 8,.i 0,.idx (.v 5) (.i 0),.idx (.v 5) (.i 1)])),.for (.n 9) (.seq (.idx (.v 6) (.i 3))) #[.expr (.call 75 #[.v 9,.v 8,.tup #[.v 1,.v 2],.v 5])]],.six (.v 5) (.i 2) (.and (.idx (.v 5) (.i 2)) (.call 74 #[.idx (.v 6) (.i 2),.tup #[.v 1,.v 2],.v 7,.i 0,.idx (.v 5) (.i 0),.idx (.v 5) (.i 1)]))]],.ret (.idx (.v 5) (.i 2))]⟩
def yq:Fn:=⟨2,16,AC,#[.asg (.n 2) (.comp [AF,AA 0] (.n 0) (.range1 (.i 6)) (.cst (.bl AD)) (.call 60 #[.v 1,.i 9])),.asg (.n 3) (.tup #[.i 0,.i 0,.i 0,.i 0,.i 0,.i 0]),.asg (.t [4,5,6]) (.comp [AF,AF] (.t [0,1]) (.seq (.tup #[.tup #[.s "c",.i 0],.tup #[.s "c",.i 1],.tup #[.s "d",.i 0]])) (.cst (.bl AD)) (.tup #[.v 0,.tup #[.v 1,.i 0,.i 0,.i 0]])),.asg (.n 7) (.tup #[.s "slice",.s "c",.tup #[.i 0,.i 0,.i 0,.i 0],.tup #[.i 2,.i 0,.i 0,.i 0]]),.asg (.n 8) (.tup #[.tup #[.i 1,.v 3,.tup #[.v 7]],.tup #[.neg (.i 1),.tup #[.bin .fdiv (.idx (.v 2) (.i 0)) (.i 8),.i 1,.i 0,.i 0,.i 0,.i 0],.tup .e]]),.asg (.n 9) (.tup #[.s "slice",.s "d",.tup #[.i 0,.i 0,.i 0,.i 0],.tup #[.i 1,.i 0,.i 0,.i 0]]),.asg (.n 10) (.tup #[.tup #[.i 1,.v 3,.tup #[.v 9]],.tup #[.neg (.i 1),.tup #[.i 0,.i 0,.i 1,.i 0,.i 0,.i 0],.tup .e]]),.asg (.n 11) (.lst #[.tup #[.s "row",.tup #[.s "mark",.bin .fdiv (.idx (.v 2) (.i 1)) (.i 8)]],.tup #[.s "row",.tup #[.s "twice",.v 4,.v 4]],.tup #[.s "row",.tup #[.s "twice",.v 5,.v 5]]]),.ite (.cmp .eq (.call 60 #[.v 0,.i 2]) (.i 1)) #[.asg (.n 12) (.tup #[.tup #[.s "row",.tup #[.s "mark",.i 0]],.tup #[.s "row",.tup #[.s "twice",.v 6,.v 6]]]),.asg (.n 11) (.bin .add (.v 11) (.lst #[.tup #[.s "row",.tup #[.s "set",.v 6,.i 1]],.tup #[.s "rounds",.tup #[.bin .sub (.call 60 #[.v 0,.i 8]) (.i 5),.i 1,.i 0],.v 10,.v 12]]))] .e,.asg (.n 13) (.tup #[.s "slice",.s "a",.tup #[.i 0,.i 0,.i 0,.i 0],.tup #[.i 0,.i 0,.i 0,.i 1]]),.asg (.n 14) (.tup #[.tup #[.i 1,.v 3,.tup #[.v 13]],.tup #[.bin .sub (.bin .sub (.i 0) (.v 1)) (.bin .fdiv (.idx (.v 2) (.i 2)) (.i 8)),.v 3,.tup .e]]),.asg (.n 15) (.newl #[.tup #[.s "row",.tup #[.s "set",.v 4,.bin .sub (.i 1) (.bin .fdiv (.idx (.v 2) (.i 3)) (.i 8))]],.tup #[.s "rounds",.tup #[.bin .sub (.call 60 #[.v 0,.i 14]) (.i 3),.i 0,.i 0],.v 8,.blt .tuple #[.v 11]]]),.expr (.mth .insert (.v 15) #[.call 60 #[.v 0,.i 3],.tup #[.s "rounds",.tup #[.bin .sub (.call 60 #[.v 0,.i 3]) (.i 1),.i 0,.i 0],.v 14,.tup .e]]),.ite (.cmp .eq (.idx (.v 2) (.i 4)) (.i 8)) #[.expr (.mth .append (.v 15) #[.call 79 #[.s "f"]])] .e,.ite (.cmp .eq (.idx (.v 2) (.i 5)) (.i 8)) #[.expr (.mth .append (.v 15) #[.tup #[.s "rounds",.tup #[.i 1,.i 0,.i 0],.tup .e,.tup #[.call 79 #[.s "g"]]]])] .e,.ret (.frz (.v 15))]⟩
def ygR:Fn:=⟨4,5,AD,#[.asg (.n 4) (.bin .add (.bin .add (.bin .mul (.idx (.v 0) (.i 3)) (.v 2)) (.bin .mul (.idx (.v 0) (.i 4)) (.v 3))) (.bin .mul (.idx (.v 0) (.i 5)) (.idx (.v 1) (.i 1)))),.ret (.bin .add (.bin .add (.bin .add (.idx (.v 0) (.i 0)) (.bin .mul (.idx (.v 0) (.i 1)) (.v 2))) (.bin .mul (.idx (.v 0) (.i 2)) (.v 3))) (.bin .mul (.idx (.v 1) (.i 0)) (.v 4)))]⟩
def ygX:Fn:=⟨1,4,AD,#[.asg (.n 1) (.tup #[.i 0,.i 0,.i 0,.i 0,.i 0,.i 0]),.asg (.n 2) (.tup #[.s "slice",.v 0,.tup #[.i 0,.i 0,.i 0,.i 0],.tup #[.i 1,.i 0,.i 0,.i 0]]),.asg (.n 3) (.tup #[.tup #[.i 1,.v 1,.tup #[.v 2]],.tup #[.neg (.i 1),.v 1,.tup .e]]),.ret (.tup #[.s "rounds",.tup #[.i 1,.i 0,.i 0],.v 3,.tup #[.tup #[.s "row",.tup #[.s "set",.tup #[.v 0,.tup #[.i 0,.i 0,.i 0,.i 0]],.i 1]]]])]⟩
def y6:Fn:=⟨2,6,AC,#[.asg (.n 2) (.bin .add (.i 7) (.call 60 #[.v 0,.i 3])),.asg (.n 3) (.call 60 #[.v 0,.i 201]),.asg (.n 4) (.bin .add (.bin .fdiv (.bin .sub (.i 2000) (.v 3)) (.v 2)) (.call 60 #[.v 0,.i 2])),.asg (.n 5) (.blt .min #[.i 200,.bin .fdiv (.v 4) (.v 1)]),.ret (.tup #[.s "rounds",.tup #[.bin .sub (.v 4) (.bin .mul (.v 5) (.v 1)),.v 5,.i 0],.tup #[.tup #[.i 0,.tup #[.v 3,.v 2,.i 0,.i 0,.i 0,.i 0],.tup .e]],.tup .e])]⟩
def yeg:Fn:=⟨1,10,AD,#[.asg (.n 1) (.call 57 #[.v 0]),.asg (.t [2,3]) (.call 61 #[.v 1,.i 4]),.asg (.n 4) (.call 62 #[.v 1,.v 2,.v 3]),.asg (.n 5) (.call 62 #[.v 1,.v 2,.v 3]),.asg (.n 6) (.call 60 #[.v 1,.i 3]),.asg (.n 7) (.blt .tuple #[.call 77 #[.v 1,.v 4]]),.ite (.cmp .eq (.v 6) (.i 1)) #[.asg (.n 7) (.bin .add (.v 7) (.tup #[.call 80 #[.v 1,.v 3]]))] .e,.asg (.n 8) (.call 76 #[.v 7,.v 2,.v 3,.v 4,.v 5]),.asg (.n 9) (.call 55 #[.v 7,.v 2,.v 3,.v 4,.v 5]),.ret (.and (.isi (.v 9) [.bool]) (.and (.cmp .eq (.v 9) (.v 8)) (.cmp .eq (.call 55 #[.v 7,.v 2,.v 3,.v 4,.v 5]) (.v 8))))]⟩
end zq
def Tl:Hx Fn:=[ye4,yhs,ye5,yhM,yhN,yh9,yia,yib,yic,yid,yie,yk,yl,ydv,ye6,ye8,ye9,yfa,yM,ym,yx,y8,yh,yo,yn,yv,yy,yz,yfd,yfm,yft,yc4,ydK,ybt,yfu,yfv,yif,yig,yfy,yih,yii,yij,yik,yfD,yil,y9,yA,yB,yfH,yT,ya,yY,yhO,yfI,y4,yau,yp,yfN,yav,yZ,yR,yfO,yO,yfR,ygk,ygl,yt,ygw,ydf,ygL,yaI,yW,yal,yaj,yU,yu,yae,yq,ygR,ygX,y6,yeg]
def T(i:Hy):Option Fn:=Tl[i]?
abbrev yhP:Hy:=0
abbrev yi:Hy:=1
abbrev yg8:Hy:=2
abbrev yhQ:Hy:=3
abbrev yhR:Hy:=4
abbrev yim:Hy:=11
abbrev yin:Hy:=12
abbrev yio:Hy:=13
abbrev yip:Hy:=14
abbrev yiq:Hy:=15
abbrev yir:Hy:=16
abbrev yis:Hy:=17
abbrev yit:Hy:=18
abbrev yiu:Hy:=19
abbrev yhS:Hy:=20
abbrev yiv:Hy:=21
abbrev yiw:Hy:=22
abbrev yix:Hy:=23
abbrev yiy:Hy:=24
abbrev yiz:Hy:=25
abbrev yiA:Hy:=26
abbrev yiB:Hy:=27
abbrev yiC:Hy:=28
abbrev yiD:Hy:=29
abbrev yiE:Hy:=30
abbrev yes:Hy:=31
abbrev yhk:Hy:=32
abbrev ybF:Hy:=33
abbrev yiF:Hy:=34
abbrev yhT:Hy:=35
abbrev yiG:Hy:=38
abbrev yhU:Hy:=43
abbrev yiH:Hy:=45
abbrev yiI:Hy:=46
abbrev yiJ:Hy:=47
abbrev yiK:Hy:=48
abbrev yhV:Hy:=49
abbrev y7:Hy:=50
abbrev yiL:Hy:=51
abbrev yhW:Hy:=52
abbrev yiM:Hy:=53
abbrev yiN:Hy:=54
abbrev yhX:Hy:=55
abbrev yiO:Hy:=56
abbrev yhY:Hy:=57
abbrev yhZ:Hy:=58
abbrev yiP:Hy:=59
abbrev yh0:Hy:=60
abbrev yiQ:Hy:=61
abbrev yiR:Hy:=62
abbrev yiS:Hy:=63
abbrev yiT:Hy:=64
abbrev yiU:Hy:=65
abbrev yiV:Hy:=66
abbrev yiW:Hy:=67
abbrev yiX:Hy:=68
abbrev yiY:Hy:=69
abbrev yiZ:Hy:=70
abbrev yi0:Hy:=71
abbrev yi1:Hy:=72
abbrev yi2:Hy:=73
abbrev yh1:Hy:=74
abbrev yho:Hy:=75
abbrev yh2:Hy:=76
abbrev yi3:Hy:=77
abbrev yi4:Hy:=78
abbrev yi5:Hy:=79
abbrev yi6:Hy:=80
abbrev yhp:Hy:=81
end IC
namespace WK
open PySem L2 IC
def top(i:Hy):Stmt:=D2.main.body.getD i (.Pass #[0,0,0,0])
def tbQ:Tb where
 tbl:=[#["is_whole","is_whole","is_whole",top 9,["thing","low","high"],["thing","low","high"],ye4,.fn],#["is_letter","is_letter","is_letter",top 10,["thing"],["thing"],yhs,.fn],#["are_told","are_told","are_told",top 11,["thing","many"],["thing","many"],ye5,.fn],#["is_row","is_row","is_row",top 14,["thing"],["thing"],yhM,.fn],#["is_told_row","is_told_row","is_told_row",top 15,["thing"],["thing"],yhN,.fn],#["has_form","has_form","has_form",top 16,["thing","told","kind","operand"],["thing","told"],yh9,.fn],#["is_named","is_named","is_named",top 17,["thing"],["thing"],yia,.fn],#["is_operand","is_operand","is_operand",top 18,["kind","thing","told"],["kind","thing","told"],yib,.fn],#["is_cell","is_cell","is_cell",top 19,["thing"],["thing"],yic,.fn],#["is_told_cell","is_told_cell","is_told_cell",top 20,["thing"],["thing"],yid,.fn],#["is_lettered","is_lettered","is_lettered",top 21,["thing"],["thing"],yie,.fn],#["","__init__","Moment.__init__",inClass (top 28) 0,["self","w","n","i","j","words","marked"],["self","w","n","i","j","words","marked"],yk,.ini 20],#["is_sentence","is_sentence","is_sentence",top 29,["thing"],["thing"],yl,.fn],#["holds_at","holds_at","holds_at",top 30,["sentence","moment","worths"],["sentence","moment"],ydv,.fn],#["place_of","place_of","place_of",top 31,["told","n","i","j"],["told","n","i","j"],ye6,.fn],#["is_term","is_term","is_term",top 32,["thing","f","exponent","things"],["thing"],ye8,.fn],#["are_things","are_things","are_things",top 33,["thing"],["thing"],ye9,.fn],#["is_thing","is_thing","is_thing",top 34,["thing"],["thing"],yfa,.fn],#["term_worth","term_worth","term_worth",top 35,["term","moment","f","told","things","exponent","worths","worth","each"],["term","moment"],yM,.fn],#["exponent_of","exponent_of","exponent_of",top 36,["told","moment","c","i","j","p","q","r","words"],["told","moment"],ym,.fn],#["thing_worth","thing_worth","thing_worth",top 37,["thing","moment","start","end"],["thing","moment"],yx,.fn],#["","__init__","Unrolling.__init__",inClass (top 42) 0,["self","w","n"],["self","w","n"],y8,.ini 21],#["","go_parts","Unrolling.go_parts",inClass (top 42) 1,["self","parts","gone","part"],["self","parts","gone"],yh,.me 21],#["","go_rounds","Unrolling.go_rounds",inClass (top 42) 2,["self","part","gone","count","at"],["self","part","gone"],yo,.me 21],#["","count_of","Unrolling.count_of",inClass (top 42) 3,["self","told","c","m","t"],["self","told"],yn,.me 21],#["","add_row","Unrolling.add_row",inClass (top 42) 4,["self","told","gone","i","j","row"],["self","told","gone"],yv,.me 21],#["","add_round","Unrolling.add_round",inClass (top 42) 5,["self"],["self"],yy,.me 21],#["","add_asked","Unrolling.add_asked",inClass (top 42) 6,["self","sentence","gone","i","j"],["self","sentence","gone"],yz,.me 21],#["is_telling","is_telling","is_telling",top 43,["thing"],["thing"],yfd,.fn],#["steps_of","steps_of","steps_of",top 44,["telling","w","n","unrolling"],["telling","w","n"],yfm,.fn],#["are_parts","are_parts","are_parts",top 45,["thing","nests"],["thing","nests"],yft,.fn],#["is_part","is_part","is_part",top 46,["thing","nests"],["thing","nests"],yc4,.fn],#["both_gone","both_gone","both_gone",top 47,["gone"],["gone"],ydK,.fn],#["placed","placed","placed",top 48,["thing","n","i","j"],["thing","n","i","j"],ybt,.fn],#["made","made","made",top 50,["name","w","x","y","k","make"],["name","w","x","y","k"],yfu,.fn],#["highest","highest","highest",top 51,["w"],["w"],yfv,.fn],#["moved","moved","moved",top 52,["w","x","y","k"],["w","x","y","k"],yif,.fn],#["bared","bared","bared",top 53,["w","x","y","k"],["w","x","y","k"],yig,.fn],#["summed","summed","summed",top 54,["w","x","y","k","total"],["w","x","y","k"],yfy,.fn],#["taken_away","taken_away","taken_away",top 55,["w","x","y","k","total"],["w","x","y","k"],yih,.fn],#["in_both","in_both","in_both",top 56,["w","x","y","k"],["w","x","y","k"],yii,.fn],#["in_any","in_any","in_any",top 57,["w","x","y","k"],["w","x","y","k"],yij,.fn],#["in_one","in_one","in_one",top 58,["w","x","y","k"],["w","x","y","k"],yik,.fn],#["doubled","doubled","doubled",top 59,["w","x","y","k"],["w","x","y","k"],yfD,.fn],#["halved","halved","halved",top 60,["w","x","y","k"],["w","x","y","k"],yil,.fn],#["","__init__","Machine.__init__",inClass (top 63) 0,["self","w"],["self","w"],y9,.ini 22],#["","put","Machine.put",inClass (top 63) 1,["self","letter","at","word","cell"],["self","letter","at","word"],yA,.me 22],#["","mark","Machine.mark",inClass (top 63) 3,["self"],["self"],yB,.me 22],#["","do","Machine.do",inClass (top 63) 4,["self","row"],["self","row"],yfH,.me 22],#["","held_in","Machine.held_in",inClass (top 63) 6,["self","cell"],["self","cell"],yT,.me 22],#["","go_row","Machine.go_row",inClass (top 63) 7,["self","row"],["self","row"],ya,.me 22],#["","go_made","Machine.go_made",inClass (top 63) 9,["self","row","x","y","word","mark"],["self","row"],yY,.me 22],#["known_cell","known_cell","known_cell",top 64,["letter","at"],["letter","at"],yhO,.fn],#["refuse_row","refuse_row","refuse_row",top 65,["thing"],["thing"],yfI,.fn],#["lowest_words","lowest_words","lowest_words",top 67,["worth","w","n","highest"],["worth","w","n"],y4,.fn],#["held","held","held",top 69,["telling","w","n","x","y","steps","machine","step"],["telling","w","n","x","y"],yau,.fn],#["machine_with","machine_with","machine_with",top 70,["w","n","x","y","machine","letter","worth","at","word"],["w","n","x","y"],yp,.fn],#["_law_fresh","_law_fresh","_law_fresh",top 72,["_law_script"],["_law_script"],yfN,.fn],#["_law_mixed","_law_mixed","_law_mixed",top 73,["_law_seed","_law_primes","_law_number","_law_k","_law_prime","_law_far","_law_square","_law_power"],["_law_seed"],yav,.fn],#["_law_fill","_law_fill","_law_fill",top 74,["_law_state","_law_cells","_law_at_here","_law_seed"],["_law_state"],yZ,.fn],#["_law_take","_law_take","_law_take",top 75,["_law_state","_law_many","_law_turns","_law_digit"],["_law_state","_law_many"],yR,.fn],#["_law_sizes","_law_sizes","_law_sizes",top 76,["_law_state","_law_most"],["_law_state","_law_most"],yfO,.fn],#["_law_worth","_law_worth","_law_worth",top 77,["_law_state","_law_w","_law_n","_law_way","_law_top","_law_k","_law_edges","_law_any_one","_law_low","_law_wide","_law_worth_here","_law_some","_law_words_here"],["_law_state","_law_w","_law_n"],yO,.fn],#["_law_two_to","_law_two_to","_law_two_to",top 78,["_law_many","_law_found","_law_k"],["_law_many"],yfR,.fn],#["_law_words","_law_words","_law_words",top 79,["_law_worth_here","_law_w","_law_n","_law_wide","_law_words_here","_law_k"],["_law_worth_here","_law_w","_law_n"],ygk,.fn],#["_law_at","_law_at","_law_at",top 80,["_law_index","_law_i","_law_j","_law_n"],["_law_index","_law_i","_law_j","_law_n"],ygl,.fn],#["_law_plain_row","_law_plain_row","_law_plain_row",top 81,["_law_row","_law_i","_law_j","_law_n","_law_told","_law_part"],["_law_row","_law_i","_law_j","_law_n"],yt,.fn],#["_law_one_done","_law_one_done","_law_one_done",top 82,["_law_cells","_law_mark","_law_row","_law_wide","_law_x"],["_law_cells","_law_mark","_law_row","_law_wide"],ygw,.fn],#["_law_done","_law_done","_law_done",top 83,["_law_cells","_law_mark","_law_row","_law_wide","_law_both","_law_x","_law_y"],["_law_cells","_law_mark","_law_row","_law_wide"],ydf,.fn],#["_law_count","_law_count","_law_count",top 84,["_law_count_here","_law_w","_law_n"],["_law_count_here","_law_w","_law_n"],ygL,.fn],#["_law_begun","_law_begun","_law_begun",top 85,["_law_w","_law_n","_law_x","_law_y","_law_cells","_law_k","_law_word"],["_law_w","_law_n","_law_x","_law_y"],yaI,.fn],#["_law_stands","_law_stands","_law_stands",top 86,["_law_sentence","_law_w","_law_n","_law_i","_law_j","_law_f","_law_numbers","_law_things","_law_thing"],["_law_sentence","_law_w","_law_n","_law_i","_law_j"],yW,.fn],#["_law_slice","_law_slice","_law_slice",top 87,["_law_cells","_law_letter","_law_low","_law_high","_law_wide","_law_worth_here","_law_at_here"],["_law_cells","_law_letter","_law_low","_law_high","_law_wide"],yal,.fn],#["_law_total","_law_total","_law_total",top 88,["_law_sentence","_law_sizes_here","_law_i","_law_j","_law_cells","_law_mark","_law_wide","_law_total_here","_law_f","_law_numbers","_law_things","_law_high","_law_far","_law_thing","_law_low"],["_law_sentence","_law_sizes_here","_law_i","_law_j","_law_cells","_law_mark"],yaj,.fn],#["_law_holding","_law_holding","_law_holding",top 89,["_law_sentence","_law_sizes_here","_law_i","_law_j","_law_cells","_law_mark"],["_law_sentence","_law_sizes_here","_law_i","_law_j","_law_cells","_law_mark"],yU,.fn],#["_law_walk_part","_law_walk_part","_law_walk_part",top 90,["_law_part","_law_i","_law_sizes_here","_law_box","_law_wide","_law_many","_law_j","_law_deep"],["_law_part","_law_i","_law_sizes_here","_law_box"],yu,.fn],#["_law_held","_law_held","_law_held",top 91,["_law_told","_law_w","_law_n","_law_x","_law_y","_law_box","_law_part","_law_many","_law_i","_law_inner"],["_law_told","_law_w","_law_n","_law_x","_law_y"],yae,.fn],#["_law_doubled","_law_doubled","_law_doubled",top 92,["_law_state","_law_x","_law_spoils","_law_zeros","_law_c0","_law_c1","_law_d0","_law_two_words","_law_outer","_law_one_word","_law_inner","_law_rows","_law_deep","_law_all_a","_law_kept","_law_told"],["_law_state","_law_x"],yq,.fn],#["_law_exponent","_law_exponent","_law_exponent",top 93,["_law_numbers","_law_sizes_here","_law_i","_law_j","_law_by_words"],["_law_numbers","_law_sizes_here","_law_i","_law_j"],ygR,.fn],#["_law_once_set","_law_once_set","_law_once_set",top 94,["_law_letter","_law_zeros","_law_here","_law_sentence"],["_law_letter"],ygX,.fn],#["_law_long_rounds","_law_long_rounds","_law_long_rounds",top 95,["_law_state","_law_n","_law_by_i","_law_c","_law_many","_law_by_words"],["_law_state","_law_n"],y6,.fn],#["law","law","law",top 96,["_law_script","_law_state","_law_w","_law_n","_law_x","_law_y","_law_far","_law_told","_law_due","_law_found"],["_law_script"],yeg,.fn]]
 al:=[eF "is_whole" 0,eF "is_letter" 1,eF "are_told" 2,eF "is_row" 3,eF "is_told_row" 4,eF "has_form" 5,eF "is_named" 6,eF "is_operand" 7,eF "is_cell" 8,eF "is_told_cell" 9,eF "is_lettered" 10,eF "is_sentence" 12,eF "holds_at" 13,eF "place_of" 14,eF "is_term" 15,eF "are_things" 16,eF "is_thing" 17,eF "term_worth" 18,eF "exponent_of" 19,eF "thing_worth" 20,eF "is_telling" 28,eF "steps_of" 29,eF "are_parts" 30,eF "is_part" 31,eF "both_gone" 32,eF "placed" 33,eF "made" 34,eF "highest" 35,eF "moved" 36,eF "bared" 37,eF "summed" 38,eF "taken_away" 39,eF "in_both" 40,eF "in_any" 41,eF "in_one" 42,eF "doubled" 43,eF "halved" 44,eF "known_cell" 52,eF "refuse_row" 53,eF "lowest_words" 54,eF "held" 55,eF "machine_with" 56,eF "_law_fresh" 57,eF "_law_mixed" 58,eF "_law_fill" 59,eF "_law_take" 60,eF "_law_sizes" 61,eF "_law_worth" 62,eF "_law_two_to" 63,eF "_law_words" 64,eF "_law_at" 65,eF "_law_plain_row" 66,eF "_law_one_done" 67,eF "_law_done" 68,eF "_law_count" 69,eF "_law_begun" 70,eF "_law_stands" 71,eF "_law_slice" 72,eF "_law_total" 73,eF "_law_holding" 74,eF "_law_walk_part" 75,eF "_law_held" 76,eF "_law_doubled" 77,eF "_law_exponent" 78,eF "_law_once_set" 79,eF "_law_long_rounds" 80,eF "law" 81,eC "FACTOR_LIMIT" (.int (10000000000000000000000000000000000000000)),eC "MOST_EXPONENT" (.int (2000)),eC "MOST_NESTS" (.int (2)),eC "MOST_PLACE" (.int (100)),eC "MOST_ROUNDS" (.int (4000)),eC "MOST_ROWS" (.int (4000)),eC "MOST_TERMS" (.int (20)),eC "MOST_THINGS" (.int (2)),eC "MOST_TOLD" (.int (200)),eG "ROWS" (.dct ydi),eG "Machine" (.cls 22 45),eG "Moment" (.cls 20 11),eG "Unrolling" (.cls 21 21)]
 bs:=["all","bool","enumerate","int","isinstance","len","max","min","range","str","sum","tuple","zip"]
 ts:=[.bool,.int,.str,.tuple]
 fl:=[eN 20 "i",eN 20 "j",eN 20 "marked",eN 20 "n",eN 20 "w",eN 20 "words",eN 21 "n",eN 21 "rounds",eN 21 "rows",eN 21 "steps",eN 21 "w",eN 22 "marked",eN 22 "w",eN 22 "words"]
 me:=[eM 21 "go_parts" 22,eM 21 "go_rounds" 23,eM 21 "count_of" 24,eM 21 "add_row" 25,eM 21 "add_round" 26,eM 21 "add_asked" 27,eM 22 "put" 46,eM 22 "mark" 47,eM 22 "do" 48,eM 22 "held_in" 49,eM 22 "go_row" 50,eM 22 "go_made" 51]
 kb:=[]
 cn:=[eN 22 "Machine",eN 20 "Moment",eN 21 "Unrolling"]
 dd:=[eB "ROWS" ydi]
 ml:=[eL "MAKERS" ye3]
 xs:=[]
 xc:=[]
 xm:=[]
 qh:=[]
theorem ok_all:tbQ.tbl.all (okT tbQ)=true:=∅
theorem T_ok:∀i d,tbQ.tbl[i]?=AA d->T i=AA d.fn:=λi d h=>by have e:Tl=tbQ.tbl.map (·.fn):=rfl;rw[T,e,Bp,h];rfl
theorem kb_all:ybz (KbP tbQ) tbQ.kb:=trivial
theorem cn_20:cnm tbQ 20="Moment":=rfl
theorem cn_21:cnm tbQ 21="Unrolling":=rfl
theorem cn_22:cnm tbQ 22="Machine":=rfl
mutual
noncomputable def pvq:PV->PV->IB
 |.non,.non=>AD
 |.bl a,.bl b=>a==b
 |.int i,.int j=>decide (i=j)
 |.str x,.str y=>decide (x=y)
 |.tp k c,.tp l d=>(k==l)&&ycL c d
 |.lst c,.lst d=>ycL c d
 |_,_=>AC
noncomputable def ycL:Hx PV->Hx PV->IB
 |[],[]=>AD
 |x::a,y::b=>pvq x y&&ycL a b
 |_,_=>AC
end
mutual
theorem zjz:∀(a b:PV),pvq a b=AD->a=b
 |.non,b,h=>by cases b<;>first|rfl|exact(AR h).elim
 |.bl a,b,h=>by cases b<;>first|exact IM _ (eq_of_beq h)|exact(AR h).elim
 |.int a,b,h=>by cases b<;>first|exact IM _ (IT h)|exact(AR h).elim
 |.str a,b,h=>by cases b<;>first|exact IM _ (IT h)|exact(AR h).elim
 |.tp k c,b,h=>by cases b<;>first|(have h:=BU.mp h;rw[eq_of_beq h.1,zd4 _ _ h.2])|exact(AR h).elim
 |.lst c,b,h=>by cases b<;>first|rw[zd4 _ _ h]|exact(AR h).elim
 |.loc _,b,h=>by cases b<;>exact(AR h).elim
 |.fnc _,b,h=>by cases b<;>exact(AR h).elim
 |.exn _,b,h=>by cases b<;>exact(AR h).elim
 |.scr _,b,h=>by cases b<;>exact(AR h).elim
theorem zd4:∀(a b:Hx PV),ycL a b=AD->a=b
 |[],b,h=>by cases b<;>simp[ycL]at h ⊢
 |x::c,b,h=>by
  cases b with
  |nil=>simp[ycL]at h
  |cons y d=>
   simp[ycL]at h;rw[zjz x y h.1,zd4 c d h.2]
end
def isOk(r:R PV)(v:PV):IB:=match r with
 |.ok w []=>pvq w v
 |_=>AC
def zdc{r}{v:PV}(h:isOk r v=AD):r=.ok v []:=by
 match r with
 |.ok w []=>rw[zjz w v h]
 |.ok w (_::_)=>simp[isOk]at h
 |.exc _ _=>simp[isOk]at h
 |.bad=>simp[isOk]at h
def chS(c:Hy):Str:=#[(Hx.toArray [c])]
def yeo(c:Hy)(i:Hz):PV:=.tup [.str (chS c),.int i]
abbrev Mem:=Hy->Hz->Hz
def upd(M:Mem)(c:Hy)(i v:Hz):Mem:=λd j=>if d=c/\j=i then v else M d j
def Rel(a:Hx (PV×PV))(M:Mem):Prop:=∀c i,(look (yeo c i) a).getD (.int 0)=.int (M c i)
def zjV{k v a}:(put k v a).length<=a.length+1:=by
 unfold put;split
 .simp
 .simp
abbrev Cel:=Hy×Hz
inductive Rw where
 |mark (d:Hz)|ask (x:Cel)|set (t:Cel) (d:Hz)|move (t x:Cel)|bare (t x:Cel)|twice (t x:Cel)|half (t x:Cel)
 |sum (t x y:Cel)|less (t x y:Cel)|both (t x y:Cel)|any (t x y:Cel)|odd (t x y:Cel)
def zeI{st:SO}{n:Hy}{o}(h:st[n]?=AA o):st=st.set n o:=by
 refine EO λi=>?_;rw[Cg];split
 .rename_i e;subst e;split
  .exact h
  .rename_i z;rw[BE ()]at h
   cases h
 .rfl
def zep(i:Hz):shp (.int i)=true:=rfl
section
variable {st:SO}{k:IB}{a b c d e:PV}{r:Hx PV}{i j:Hz}
theorem ix0:idxV st (.tp k (a::r)) (.int 0)=AA a:=by simp[idxV,yaS,at?,ixI]
theorem ix1:idxV st (.tp k (a::b::r)) (.int 1)=AA b:=by
 have:(1:Hz)<(r.length:Hz)+1+1:=()
 simp[idxV,yaS,at?,ixI,this]
theorem ix2:idxV st (.tp k (a::b::c::r)) (.int 2)=AA c:=by
 have:(2:Hz)<(r.length:Hz)+1+1+1:=()
 simp[idxV,yaS,at?,ixI,this]
theorem ix3:idxV st (.tp k (a::b::c::d::r)) (.int 3)=AA d:=by
 have:(3:Hz)<(r.length:Hz)+1+1+1+1:=()
 simp[idxV,yaS,at?,ixI,this]
theorem ix4:idxV st (.tp k (a::b::c::d::e::r)) (.int 4)=AA e:=by
 have:(4:Hz)<(r.length:Hz)+1+1+1+1+1:=()
 simp[idxV,yaS,at?,ixI,this]
theorem b_add:yw .add (.int i) (.int j)=AA (.int (i+j)):=rfl
theorem b_sub:yw .sub (.int i) (.int j)=AA (.int (i-j)):=rfl
def zjK(h:i.natAbs<18446744073709551616 \/ j.natAbs<18446744073709551616):yw .mul (.int i) (.int j)=AA (.int (i*j)):=by
 have:yap i j=true:=by simpa [yap] using h
 simp[yw,binI,this]
def zaF(h:i.natAbs<18446744073709551616):yw .mul (.int i) (.int j)=AA (.int (i*j)):=zjK (.inl h)
def zA(h:j.natAbs<18446744073709551616):yw .mul (.int i) (.int j)=AA (.int (i*j)):=zjK (.inr h)
theorem b_mul2:yw .mul (.int 2) (.int j)=AA (.int (2*j)):=zjK (.inl ⋯)
def zdR(h:0<j)(b:j<18446744073709551616*18446744073709551616):yw .fdiv (.int i) (.int j)=AA (.int (i/j)):=by
 have a:j<10000000000000000000000000000000000000000000000000000000000000000000000:=()
 simp[yw,binI,h,a]
theorem b_div2:yw .fdiv (.int i) (.int 2)=AA (.int (i/2)):=rfl
def zgW(h:0<j):yw .mod (.int i) (.int j)=AA (.int (i%j)):=ID h
theorem toR_some{v}:toR (AA v) st=.ok v st:=rfl
def zkf:peq (.int i) (.int j)=(i==j):=rfl
theorem c_ne:yH .ne (.int i) (.int j)=AA (.bl (!(i==j))):=rfl
theorem c_eq:yH .eq (.int i) (.int j)=AA (.bl (i==j)):=rfl
theorem c_lt:yH .lt (.int i) (.int j)=AA (.bl (decide (i<j))):=rfl
theorem c_le:yH .le (.int i) (.int j)=AA (.bl (decide (i<=j))):=rfl
theorem c_gt:yH .gt (.int i) (.int j)=AA (.bl (decide (j<i))):=rfl
theorem c_ge:yH .ge (.int i) (.int j)=AA (.bl (decide (j<=i))):=rfl
theorem t_bl{b}:yay st (.bl b)=AA b:=rfl
theorem on_t{f:IB->Fl}{b}:onF (AA b) f=f b:=rfl
theorem ono{A}{f:IB->R A}{b}:onO (AA b) f=f b:=rfl
def zx{U}:stO U (AA st)=.nx U st:=rfl
theorem nxO_some{U}:nxO (AA U) st=.nx U st:=rfl
theorem fl_ok{A:Type}{a:A}{U}{k:A->SO->Fl}:(R.ok a st).fl U k=k a st:=rfl
theorem bd_ok{A B:Type}{a:A}{k:A->SO->R B}:(R.ok a st).bind k=k a st:=rfl
theorem th_nx{U}{k:IC.Env->SO->Fl}:yat (.nx U st) k=k U st:=rfl
theorem th_rt{v}{k:IC.Env->SO->Fl}:yat (.rt v st) k=.rt v st:=rfl
theorem fl_exc{A:Type}{c:Hy}{U}{k:A->SO->Fl}:(R.exc c st:R A).fl U k=.exc c U st:=rfl
theorem bd_exc{A B:Type}{c:Hy}{k:A->SO->R B}:(R.exc c st:R A).bind k=.exc c st:=rfl
theorem th_exc{c:Hy}{U}{k:IC.Env->SO->Fl}:yat (.exc c U st) k=.exc c U st:=rfl
theorem noLocs_ints:∀(l:Hx Hz),nLs (l.map PV.int)=AD
 |[]=>rfl
 |_::l=>by simp[nLs,nL,noLocs_ints l]
def zgB{xs}:yah .len st [.tp k xs]=AA (.int xs.length):=rfl
theorem bT_n{i:Hy}{v}{U:IC.Env}:yC (.n i) v U=AA (U.set i (AA v)):=rfl
end
def zeq(f:PV->IB):∀a:Hx PV,allB (a.map λx=>.bl (f x))=AA (a.all f)
 |[]=>rfl
 |x::a=>by simp[allB,zeq f a]
def zK(ys:Hx PV)(h:ys.length<=1000000)(st):ybO (.ok ys st)=.ok (.lst ys) st:=by simp[ybO,h]
def zjB(f:PV->IB)(xs:Hx PV)(st):yah .all st [.lst (xs.map λx=>.bl (f x))]=AA (.bl (xs.all f)):=by simp[yah,yJ,zeq]
def zbc(n:Hy)(h:n<1000):ya9 (.int (n:Hz))=AA (ye n 0 1):=by simp[ya9];lia
def zfK{z:Hz}(h:0<=z):∃n:Hy,z=n:=#[z.toNat,()]
def ybT(st:SO)(f:Fl):R PV:=
 match f with
 |.rt v _=>if nL v then .ok v st else .bad
 |.nx _ _=>.ok .non st
 |.exc c _ _=>.exc c st
 |_=>.bad
def zh{T:Hy->Option IC.Fn}{k f:Hy}{fn}{args:Hx PV}{st:SO}(a:T f=AA fn)(b:fn.pure=AD)(c:args.length=fn.np)(d:nLs args=AD):
  yc T (k+1) f args st=ybT st (exs (yc T k) (args.map AA++Am (fn.ns-fn.np) AF) [] fn.body):=by rw[yc,a];dsimp only;rw[ID c,ID b,ID d];rfl
def outI(f:Fl):R PV:=
 match f with
 |.rt v a=>.ok v a
 |.nx _ a=>.ok .non a
 |.exc c _ a=>.exc c a
 |_=>.bad
def zj{T:Hy->Option IC.Fn}{k f:Hy}{fn}{args:Hx PV}{st:SO}(a:T f=AA fn)(b:fn.pure=AC)(c:args.length=fn.np):
  yc T (k+1) f args st=outI (exs (yc T k) (args.map AA++Am (fn.ns-fn.np) AF) st fn.body):=by rw[yc,a];dsimp only;rw[ID c,b,IE (by simp)];rfl
def zak{st v}:outI (.rt v st)=.ok v st:=rfl
def zcu{st s}{b:Hz}:ybT st (.rt (.int b) s)=.ok (.int b) st:=rfl
def yas:PV:=.tup [.int 2147483647,.int 2147483629,.int 2147483587,.int 2147483579,.int 2147483563]
def ydo:Css:=match yav.body with
 |.cons _ (.cons _ (.cons (.for _ _ b) _))=>b
 |_=>.nil
def zcm{c}{s num g p:Hz}{i:Hy}{u5 u6 u7:Option PV}(j:∀st,idxV st (.tup [.int 11,.int 101,.int 1009,.int 10007,.int 100003]) (.int i)=AA (.int g))(hi:i<5)(f:0<p)(l:p<18446744073709551616):
  ∃d m n o,exs c [AA (.int s),AA yas,AA (.int num),AA (.int i),AA (.int p),u5,u6,u7] [] ydo=.nx [AA (.int s),AA yas,AA (.int d),AA (.int i),AA (.int p),m,n,o] []:=by
 have q:∀z:Hz,yw .mul (.int z) (.int (48271+2*(i:Hz)))=AA (.int (z*(48271+2*(i:Hz)))):=λz=>zA ();have r:∀z y:Hz,yw .mul (.int z) (.int (y%p))=AA (.int (z*(y%p))):=λz y=>zA (by have a:=Bv y (show p≠0 by lia);have b:=B4 y f;lia)
 have t:∀z:Hz,yw .mul (.int z) (.int p)=AA (.int (z*p)):=λz=>zA ();erw[ydo,yav,AQ,Ap,CT,D3,IF,zq,xs_nil,x_asg,IC.ve1,IC.ve2,IC.ve3,IC.ve11,IC.ve16,IC.vsq0,IC.vsq1,A1,AY,bd_ok,fl_ok,toR_some,bT_n,nxO_some,th_nx,Ag,Ai,sizeMax,E4,b_add,b_mul2,j,q,r,t,zgW f];exact#[_,_,_,_,rfl]
def ziq{c}{s num:Hz}{u5 u6 u7:Option PV}(i:Hy)(p:Hz)(h:(i,p)∈[(0,(2147483647:Hz)),(1,2147483629),(2,2147483587),(3,2147483579),(4,2147483563)]):
  ∃a b d f,exs c [AA (.int s),AA yas,AA (.int num),AA (.int i),AA (.int p),u5,u6,u7] [] ydo=.nx [AA (.int s),AA yas,AA (.int a),AA (.int i),AA (.int p),b,d,f] []:=by
 erw[AV,Prod.mk.injEq,A9,II]at h;rcases h with⟨rfl,rfl⟩|⟨rfl,rfl⟩|⟨rfl,rfl⟩|⟨rfl,rfl⟩|⟨rfl,rfl⟩
 .exact zcm (λ_=>rfl) ⋯ ⋯ ⋯
 .exact zcm (λ_=>rfl) ⋯ ⋯ ⋯
 .exact zcm (λ_=>rfl) ⋯ ⋯ ⋯
 .exact zcm (λ_=>rfl) ⋯ ⋯ ⋯
 .exact zcm (λ_=>rfl) ⋯ ⋯ ⋯
def ydL:Hx PV:=[.tup [.int 0,.int 2147483647],.tup [.int 1,.int 2147483629],.tup [.int 2,.int 2147483587],.tup [.int 3,.int 2147483579],.tup [.int 4,.int 2147483563]]
theorem mixed(k:Hy)(s:Hz)(st:SO):∃num,yc T (k+1) yhZ [.int s] st=.ok (.int num) st:=by
 let#[A,l,h,num,a,b,c,d,e,m,o]:=zbV (call:=yc T k) (t:=.t [3,4]) (b:=ydo) (λ_ U st=>∃num a b c d e,U=[AA (.int s),AA yas,AA (.int num),a,b,c,d,e]/\st=[]) ydL 0 [AA (.int s),AA yas,AA (.int 0),AF,AF,AF,AF,AF] [] #[_,_,_,_,_,_,rfl,rfl] (by
  rintro j x U st f ⟨num,a,b,c,d,e,rfl,rfl⟩
  have f:=A3 f;have f:∃i p,x=.tup [.int ((i:Hy):Hz),.int p]/\(i,p)∈[(0,(2147483647:Hz)),(1,2147483629),(2,2147483587),(3,2147483579),(4,2147483563)]:=by
   erw[ydL,AV,A9,II]at f;rcases f with rfl|rfl|rfl|rfl|rfl
   .exact#[0,_,rfl,by simp]
   .exact#[1,_,rfl,by simp]
   .exact#[2,_,rfl,by simp]
   .exact#[3,_,rfl,by simp]
   .exact#[4,_,rfl,by simp]
  let#[i,p,rfl,q]:=f;let#[g,B,C,D,r]:=ziq (c:=yc T k) (s:=s) (num:=num) (u5:=c) (u6:=d) (u7:=e) i p q;exact#[_,_,_,rfl,r,_,_,_,_,_,_,rfl,rfl])
 subst m o;refine#[num,?_];rw[yc];have u:yav.body=.cons (.asg (.n 1) (.tup (.cons (.cst (.int 2147483647)) (.cons (.cst (.int 2147483629)) (.cons (.cst (.int 2147483587)) (.cons (.cst (.int 2147483579)) (.cons (.cst (.int 2147483563)) .nil))))))) (.cons (.asg (.n 2) (.cst (.int 0))) (.cons (.for (.t [3,4]) (.enum (.var 1)) ydo) (.cons (.ret (.var 2)) .nil))):=rfl;have w:T yhZ=AA #[1,8,AD,yav.body]:=rfl;have E:PV.tup [.int 2147483647,.int 2147483629,.int 2147483587,.int 2147483579,.int 2147483563]=yas:=rfl;rw[w,u];have y:ev (yc T k) [AA (.int s),AF,AF,AF,AF,AF,AF,AF] [] (.tup (.cons (.cst (.int 2147483647)) (.cons (.cst (.int 2147483629)) (.cons (.cst (.int 2147483587)) (.cons (.cst (.int 2147483579)) (.cons (.cst (.int 2147483563)) .nil))))))=.ok yas []:=by simp[IC.ve1,IC.ve11,IC.vsq0,IC.vsq1,R.bind,sizeMax,yas]
 have z:evi (yc T k) [AA (.int s),AA yas,AA (.int 0),AF,AF,AF,AF,AF] [] (.enum (.var 1))=.ok ydL []:=by simp[IC.vjq0,IC.vjq1,IC.vjq2,IC.vjq3,IC.vjq4,IC.vjq5,IC.vjq6,IC.vjq7,IC.vjq8,IC.vjq9,IC.ve2,R.bind,yas,yK,ydL]
 erw[AQ,Ap,IF,nLs,nL,D1,AN,Ay,Bz,Am,BF,BB,zq,xs_nil,x_asg,x_for,x_ret,y,R.fl,yC,nxO,yat,Ag,Ai,IC.ve1,z,h,IC.ve2,A1,AY]
set_option backward.eqns.nonrecursive true
local macro_rules | `(tactic| simp! [$xs,*])=>do
 let l<-("IC.xs_conS IC.kS1 IC.kS2 IC.kS3 IC.kS4 IC.kS5 IC.xs_nil IC.x_asg IC.x_iteS IC.kI1 IC.kI2 IC.kJ1 IC.kJ2 IC.x_ret IC.x_expr IC.x_for IC.x_six IC.evs_n IC.evs_c IC.kA1 IC.kA2 IC.kB1 IC.kB2 IC.evi IC.ve1 IC.ve2 IC.ve3S IC.kX1 IC.kX2 IC.kY1 IC.kY2 IC.ve4 IC.ve5 IC.ve6S IC.kN1 IC.kN2 IC.ve7S IC.kO1 IC.kO2 IC.ve8S IC.ve9 IC.ve10S IC.kE1 IC.kF1 IC.kF2 IC.ve11 IC.ve12 IC.ve13 IC.ve15 IC.ve16S IC.ve17 IC.ve18 IC.ve19 IC.ve20S IC.kM1 IC.kP1 IC.ve21 IC.ve24 IC.ve25 IC.ve28 IC.v_comp List.getElem?_cons_zero List.getElem?_cons_succ WK.bd_ok WK.fl_ok WK.bd_exc WK.fl_exc WK.toR_some IC.toL WK.bT_n WK.nxO_some WK.th_nx WK.th_rt WK.th_exc List.set_cons_zero List.set_cons_succ WK.on_t WK.t_bl WK.ono IC.onBl cond_true cond_false List.length_cons List.length_nil Nat.zero_add Nat.reduceAdd Nat.reduceSub Nat.reduceLeDiff if_true IC.nL IC.nLs WK.noLocs_ints Bool.and_self Bool.not_true Bool.not_false List.map_cons List.map_nil List.replicate List.cons_append List.nil_append List.append_nil Option.bind_none Option.bind_some Option.join_some WK.b_add WK.b_sub WK.b_mul2 WK.b_div2 WK.c_lt WK.c_le WK.c_gt WK.c_ge WK.c_eq WK.c_ne IC.PV.tup IC.sizeMax".splitOn " ").toArray.mapM λs=>`(Lean.Parser.Tactic.simpLemma| $(Lean.mkIdent s.toName):term)
 `(tactic| simp only[$l,*,$xs,*])
theorem rdS{st:SO}{n:Hy}{o x}(h:st[n]?=AA o):(st.set n x)[n]?=AA x:=by
 have:n<st.length:=by
  rcases C9 n st.length with a|a
  .exact a
  .rw[BE a]at h;cases h
 rw[Ac this]
def znx(b:Hx Hz)(a:Hz)(h:b≠[]):∃v,yaS (b.map PV.int) (.int (a%(b.length:Hz)))=AA (.int v):=by
 have g:0<b.length:=FW.2 h;have c:=Bv a (show (b.length:Hz)≠0 by lia);have d:=B4 a (show (0:Hz)<b.length by lia);have f:(a%(b.length:Hz)).toNat<b.length:=()
 refine#[b[(a%(b.length:Hz)).toNat],?_];simp[yaS,at?,ixI,c,d,f]
def flT:Css:=match yZ.body with
 |.cons _ (.cons _ (.cons _ t))=>t
 |x=>x
abbrev flS(l:PV)(a p:Hz)(f:IB):Ob:=.lst [l,.int a,.int p,.bl f]
def zoa{st:SO}{n:Hy}{l}{a p v:Hz}{f}(h:st[n]?=AA (flS l a p f)):ya6 st (.loc n) (.int 1) (.int v)=AA (st.set n (flS l v p f)):=by erw[ya6,h];rfl
def znP{st:SO}{n:Hy}{l}{a p v:Hz}{f}(h:st[n]?=AA (flS l a p f)):ya6 st (.loc n) (.int 2) (.int v)=AA (st.set n (flS l a v f)):=by erw[ya6,h];rfl
def zn8{st:SO}{n:Hy}{l}{a p:Hz}{f g}(h:st[n]?=AA (flS l a p f)):ya6 st (.loc n) (.int 3) (.bl g)=AA (st.set n (flS l a p g)):=by erw[ya6,h];rfl
def zo9{st:SO}{n:Hy}{l}{a p:Hz}{f}(h:st[n]?=AA (flS l a p f)):idxV st (.loc n) (.int 0)=AA l:=by erw[idxV,h];rfl
def zpa{st:SO}{n:Hy}{l}{a p:Hz}{f}(h:st[n]?=AA (flS l a p f)):idxV st (.loc n) (.int 1)=AA (.int a):=by erw[idxV,h];rfl
def zpb{st:SO}{n:Hy}{l}{a p:Hz}{f}(h:st[n]?=AA (flS l a p f)):idxV st (.loc n) (.int 3)=AA (.bl f):=by erw[idxV,h];rfl
theorem p18:yw .pow (.int 10) (.int 18)=AA (.int 1000000000000000000):=by ac_rfl
def zeU(k n:Hy){l}{m a v p q:Hz}{f g:IB}{st:SO}(h:st[n]?=AA (flS l a p f))(A:∀st,yah .len st [l]=AA (.int m))(d:(decide (a ≥ m) || decide (v<1000000000000000000))=g)
  (o:g=AD->yc T (k+1) yhZ [.int v] (st.set n (flS l (a+1) p AD))=.ok (.int q) (st.set n (flS l (a+1) p AD))) (t:g=AC->q=v-1000000000000000000):
  exs (yc T (k+1)) [AA (.loc n),AA l,AA (.int a),AA (.int v)] st flT=.nx [AA (.loc n),AA l,AA (.int a),AA (.int v)] (st.set n (flS l (a+1) q g)):=by
 have B:=zoa h (v:=a+1);have C:=rdS h (x:=flS l (a+1) p f);have u:=zn8 C (g:=g);have w:=rdS C (x:=flS l (a+1) p g);have j:=znP w (v:=q);have z:=zpb w;rw[DQ]at u j z w;rw[DQ]at j
 have D:flT=(match flT with
  |.cons a (.cons (.six x y _) r)=>.cons a (.cons (.six x y (.or (.cmp .ge (.var 2) (.blt .len (.cons (.var 1) .nil))) (.cmp .lt (.var 3) (.bin .pow (.cst (.int 10)) (.cst (.int 18)))))) r)
  |x=>x):=rfl
 have b:∀st,ev (yc T (k+1)) [AA (.loc n),AA l,AA (.int a),AA (.int v)] st (.or (.cmp .ge (.var 2) (.blt .len (.cons (.var 1) .nil))) (.cmp .lt (.var 3) (.bin .pow (.cst (.int 10)) (.cst (.int 18)))))=.ok (.bl g) st:=λst=>by
  cases c:decide (a ≥ m)
  .rw[c,HG]at d;simp! [A,c,p18,d]
  .rw[c,HR]at d;subst d;simp! [A,c]
 generalize G:(Ce.or (.cmp .ge (.var 2) (.blt .len (.cons (.var 1) .nil))) (.cmp .lt (.var 3) (.bin .pow (.cst (.int 10)) (.cst (.int 18)))))=E at *
 cases g with
 |true=>
  have o:=o rfl;rw[D];simp! [flT,yZ,stO,B,b,u,z,o,j]
 |false=>
  have t:=t rfl;subst t;rw[D];simp! [flT,yZ,stO,B,b,u,z,p18,j]
theorem fill(k n:Hy)(d:Hx Hz)(B:d.length<=1000)(a p:Hz)(M:0<=a)(f)(st:SO)(h:st[n]?=AA (.lst [.lst (d.map .int),.int a,.int p,.bl f])):
  ∃C D,yc T (k+2) yiP [.loc n] st=.ok .non (st.set n (.lst [.lst (d.map .int),.int (a+1),.int C,.bl D])):=by
 have u:T yiP=AA #[1,4,AC,yZ.body]:=rfl;have l:∀st,yah .len st [.lst (d.map .int)]=AA (.int (d.length:Hz)):=λst=>by show AA (PV.int (((d.map PV.int).length:Hy):Hz))=_;simp
 have w:=zo9 h;have y:=zpa h;have z:∀(a b:PV) (U:IC.Env),yC (.t [1,2]) (.tp AC [a,b]) U=AA ((U.set 1 (AA a)).set 2 (AA b)):=λ_ _ _=>rfl
 have A:yZ.body=(match yZ.body with
  |.cons a (.cons b (.cons c _))=>.cons a (.cons b (.cons c flT))
  |x=>x):=rfl
 have g:yw .mul (.int 31) (.int a)=AA (.int (31*a)):=zaF ⋯;obtain⟨v,m⟩:∃v,exs (yc T (k+1)) [AA (.loc n),AF,AF,AF] st yZ.body=exs (yc T (k+1)) [AA (.loc n),AA (.lst (d.map .int)),AA (.int a),AA (.int v)] st flT:=by
  by_cases o:d=[]
  .have r:decide ((d.length:Hz) > 0)=false:=by subst o;rfl
   refine#[31*a+7,?_];rw[A];generalize flT=F,d.map PV.int=L at *;simp! [yZ,w,y,z,g,l,r]
  .have N:0<d.length:=FW.2 o;let#[v,m]:=znx d a o;have r:decide ((d.length:Hz) > 0)=true:=IQ ();have E:=zdR (i:=a) (j:=(d.length:Hz)) () ();have G:=zgW (i:=a) (j:=(d.length:Hz)) ();have H:yw .mul (.int 104729) (.int (a/(d.length:Hz)))=AA (.int (104729*(a/(d.length:Hz)))):=zaF ⋯;have I:∀st,idxV st (.lst (d.map .int)) (.int (a%(d.length:Hz)))=AA (.int v):=λ_=>m;refine#[104729*(a/(d.length:Hz))+v,?_];rw[A];generalize flT=F,d.map PV.int=L at *;simp! [yZ,w,y,z,g,l,r,E,G,H,I]
 cases c:(decide (a ≥ (d.length:Hz)) || decide (v<1000000000000000000))with
 |true=>
  let#[q,J]:=mixed k v (st.set n (flS (.lst (d.map .int)) (a+1) p AD));refine#[q,AD,?_];rw[zj u rfl rfl];have e:=zeU k n h l c (λ_=>J) (λh=>nomatch h);rw[<-m]at e;exact(IM _ e).trans rfl
 |false=>
  refine#[v-1000000000000000000,AC,?_];rw[zj u rfl rfl];have e:=zeU k n h l c (λh=>nomatch h) (λ_=>rfl);rw[<-m]at e;exact(IM _ e).trans rfl
def ybo:Ce:=match yR.body with
 |.cons _ (.cons (.while c _) _)=>c
 |_=>.nope
def ybs:Css:=match yR.body with
 |.cons _ (.cons (.while _ b) _)=>b
 |_=>.nil
def zgO{c}{n:Hy}{g:Hx Hz}{a p m t:Hz}{f}{u:Option PV}{st:SO}(h:st[n]?=AA (.lst [.lst (g.map .int),.int a,.int p,.bl f])):
  ∃B,ev c [AA (.loc n),AA (.int m),AA (.int t),u] st ybo=.ok (.bl B) st/\(B=AD->t<64):=by
 by_cases b:t<64
 .by_cases d:p=0
  .refine#[AD,?_,λ_=>b];erw[ybo,yR,IC.ve1,IC.ve2,IC.ve3,IC.ve6,IC.ve7,IC.ve8,IC.ve16,R.bind,A1,AY,h,idxV,yaS,at?,ixI,yw,binI,yap,toR,yH,ybB,onBl];simp[b,d,zep,zkf]
  .have d:(p==0)=false:=by simp[d]
   cases f
   .refine#[AC,?_,λ_=>b];erw[ybo,yR,IC.ve1,IC.ve2,IC.ve3,IC.ve6,IC.ve7,IC.ve8,IC.ve16,R.bind,A1,AY,h,idxV,yaS,at?,ixI,yw,binI,yap,toR,yH,ybB,onBl];simp[h,b,d,zep,zkf]
   .refine#[decide (p<m*4096),?_,λ_=>b];erw[ybo,yR,IC.ve1,IC.ve2,IC.ve3,IC.ve6,IC.ve7,IC.ve8,IC.ve16,R.bind,A1,AY,h,idxV,yaS,at?,ixI,yw,binI,yap,toR,yH,ybB,onBl];simp[h,b,d,zep,zkf]
 .refine#[AC,?_,λz=>by cases z];erw[ybo,yR,IC.ve1,IC.ve2,IC.ve3,IC.ve6,IC.ve7,IC.ve8,IC.ve16,R.bind,A1,AY,h,idxV,yaS,at?,ixI,yw,binI,yap,toR,yH,ybB,onBl];simp[b]
def zgS(k:Hy){n:Hy}{c:Hx Hz}(d:c.length<=1000){a p m t:Hz}(o:0<=a){f}{u:Option PV}{st:SO}(h:st[n]?=AA (.lst [.lst (c.map .int),.int a,.int p,.bl f])):
  ∃r w,exs (yc T (k+2)) [AA (.loc n),AA (.int m),AA (.int t),u] st ybs=.nx [AA (.loc n),AA (.int m),AA (.int (t+1)),u] (st.set n (.lst [.lst (c.map .int),.int (a+1),.int r,.bl w])):=by
 let#[q,g,j]:=fill k n c d a p o f st h;have y:(1+q%4093).natAbs<18446744073709551616:=()
 have b:∀st,ex (yc T (k+2)) [AA (.loc n),AA (.int m),AA (.int t),u] st (.aug 2 .add (.cst (.int 1)))=.nx [AA (.loc n),AA (.int m),AA (.int (t+1)),u] st:=λst=>by rw[zjN (x:=.int t) rfl];simp[IC.ve1,R.fl,ybb,yw,binI,nxO]
 cases g
 .refine#[q,AC,?_];erw[ybs,yR,zq,xs_nil,x_expr,zd8,x_six,b,yat,nxO,IC.ve1,IC.ve2,IC.ve3,IC.ve6,IC.ve8,IC.ve16,IC.ve18,IC.vsq0,IC.vsq1,R.fl,R.bind,j,ybb,yw,binI,B3,Ag,Ai,A1,AY,rdS h,idxV,yaS,at?,ixI,yap,toR,yH,ybB,onBl,onF,yay];simp[rdS h]
 .by_cases l:q<m*4096
  .refine#[q+m*4096*(1+q%4093),AD,?_];erw[ybs,yR,zq,xs_nil,x_expr,zd8,x_six,b,yat,nxO,IC.ve1,IC.ve2,IC.ve3,IC.ve6,IC.ve8,IC.ve16,IC.ve18,IC.vsq0,IC.vsq1,R.fl,R.bind,j,ybb,yw,binI,B3,Ag,Ai,A1,AY,rdS h,idxV,yaS,at?,ixI,yap,toR,yH,ybB,onBl,onF,yay,stO,ya6];simp[rdS h,l,y]
  .refine#[q,AD,?_];erw[ybs,yR,zq,xs_nil,x_expr,zd8,x_six,b,yat,nxO,IC.ve1,IC.ve2,IC.ve3,IC.ve6,IC.ve8,IC.ve16,IC.ve18,IC.vsq0,IC.vsq1,R.fl,R.bind,j,ybb,yw,binI,B3,Ag,Ai,A1,AY,rdS h,idxV,yaS,at?,ixI,yap,toR,yH,ybB,onBl,onF,yay];simp[rdS h,l]
def zdP(k:Hy){n:Hy}{d:Hx Hz}(b:d.length<=1000){m:Hz}{u:Option PV}:∀(r N:Hy)(t a p:Hz)f(st:SO),r<=N->64-t<=r->0<=a->st[n]?=AA (.lst [.lst (d.map .int),.int a,.int p,.bl f]) ->
  ∃j g l o,0<=g/\yaM (yc T (k+2)) ybo ybs (N+1) [AA (.loc n),AA (.int m),AA (.int t),u] st=.nx [AA (.loc n),AA (.int m),AA (.int j),u] (st.set n (.lst [.lst (d.map .int),.int g,.int l,.bl o]))
 |r,N,t,a,p,f,st,J,x,q,h=>by
  let#[B,w,y]:=zgO (c:=yc T (k+2)) (m:=m) (t:=t) (u:=u) h;have A:st.set n (.lst [.lst (d.map .int),.int a,.int p,.bl f])=st:=by
   refine EO λi=>?_;rw[Cg];split
   .rename_i e;subst e;split
    .exact h.symm
    .rename_i z;rw[BE ()]at h
     cases h
   .rfl
  cases B with
  |false=>exact#[t,a,p,f,q,by rw[zd3 w rfl,A]]
  |true=>
   have C:=y rfl
   match r,N with
   |0,_=>exact IG x ()
   |r+1,N+1=>
    let#[D,E,G]:=zgS k b (m:=m) (t:=t) q (u:=u) h;let#[j,g,l,o,H,I]:=zdP k b (m:=m) (u:=u) r N (t+1) (a+1) D E _ () () () (rdS h);refine#[j,g,l,o,H,?_];rw[zhC w rfl G,I,DQ]
theorem take(k n:Hy)(j:Hx Hz)(l:j.length<=1000)(a p m:Hz)(r:0<=a)(o:0<m)(b:m<10000000000000000000000000000000000000000000000000000000000000000000000)(f)(st:SO)(h:st[n]?=AA (.lst [.lst (j.map .int),.int a,.int p,.bl f])):
  ∃d c g q,0<=d/\d<m/\0<=c/\yc T (k+3) yh0 [.loc n,.int m] st=.ok (.int d) (st.set n (.lst [.lst (j.map .int),.int c,.int g,.bl q])):=by let#[z,c,g,q,t,w]:=zdP k l (m:=m) (u:=AF) 64 99999 0 a p f st () () r h;refine#[g%m,c,g/m,q,Bv _ (),B4 _ o,t,?_];have x:yR.body=.cons (.asg (.n 2) (.cst (.int 0))) (.cons (.while ybo ybs) (.cons (.asg (.n 3) (.bin .mod (.idx (.var 0) (.cst (.int 2))) (.var 1))) (.cons (.six (.var 0) (.cst (.int 2)) (.bin .fdiv (.idx (.var 0) (.cst (.int 2))) (.var 1))) (.cons (.ret (.var 3)) .nil)))):=rfl;have y:T yh0=AA #[2,4,AC,yR.body]:=rfl;rw[yc,y,x];erw[AQ,Ap,IF,AN,Ay,Bz,Am,BF,BB,zq,xs_nil,x_asg,zkZ,x_six,x_ret,yat,nxO,stO,IC.ve1,IC.ve2,IC.ve3,IC.ve16,R.fl,R.bind,yC,Ag,Ai,A1,AY,w,rdS h,idxV,yaS,at?,ixI,yw,binI,o,b,and_self,toR,ya6];simp[rdS h,o,b]
def Drw(b:Hx Hz)(n:Hy)(st:SO):Prop:=∃a p f,0<=a/\st[n]?=AA (.lst [.lst (b.map .int),.int a,.int p,.bl f])
def Onl(c:Hx Hz)(n:Hy)(st b:SO):Prop:=∃a p f,0<=a/\b=st.set n (.lst [.lst (c.map .int),.int a,.int p,.bl f])
theorem Onl.drw{d:Hx Hz}{n:Hy}{st c:SO}(h:Drw d n st)(o:Onl d n st c):Drw d n c:=by let#[a,p,f,l,h]:=h;let#[b,q,g,j,rfl]:=o;exact#[b,q,g,j,rdS h]
theorem Onl.trans{f:Hx Hz}{n:Hy}{st a d:SO}(o:Onl f n st a)(l:Onl f n a d):Onl f n st d:=by let#[b,q,g,p,rfl]:=o;let#[c,r,j,m,rfl]:=l;exact#[c,r,j,m,by rw[DQ]]
def zeD(k:Hy){n:Hy}{c:Hx Hz}(g:c.length<=1000){m:Hz}(l:0<m)(j:m<10000000000000000000000000000000000000000000000000000000000000000000000){st}(h:Drw c n st):
  ∃d b,0<=d/\d<m/\Onl c n st b/\yc T (k+3) yh0 [.loc n,.int m] st=.ok (.int d) b:=by let#[a,p,f,o,h]:=h;let#[d,w,x,y,q,r,t,u]:=take k n c g a p m o l j f st h;exact#[d,_,q,r,#[_,_,_,t,rfl],u]
theorem sizes(k:Hy){n:Hy}{c:Hx Hz}(a:c.length<=1000){m:Hz}(g:0<m)(j:m<=100){st}(h:Drw c n st):
  ∃w z b,4<=w/\w<=16/\1<=z/\z<=m/\Onl c n st b/\yc T (k+4) yiQ [.loc n,.int m] st=.ok (.tup [.int w,.int z]) b:=by let#[d,t,u,x,f,l]:=zeD k a (m:=13) () () h;let#[e,o,y,A,p,q]:=zeD k a (m:=m) g () (f.drw h);refine#[4+d,1+e,o,(),(),(),(),f.trans p,?_];have r:T yiQ=AA yfO:=rfl;rw[yc,r];erw[yfO,AQ,Ap,IF,AN,Ay,Bz,Am,BF,BB,zq,xs_nil,x_ret,yat,IC.ve1,IC.ve2,IC.ve3,IC.ve11,IC.ve18,IC.vsq0,IC.vsq1,R.fl,R.bind,A1,AY,l,q,yw,binI,toR];simp[sizeMax]
theorem fresh(k:Hy)(a:Hx Hz)(h:a.length<=63)(st:SO):∃v,yc T (k+1) yhY [.scr (a.map .int)] st=.ok (.loc st.length) (st++[v])/\v=.lst [.lst (a.map .int),.int 0,.int 0,.bl AC]:=by
 have b:T yhY=AA yfN:=rfl;refine#[_,?_,rfl];rw[yc,b];erw[yfN,AQ,Ap,IF,AN,Ay,Bz,Am,BF,BB,zq,xs_nil,x_ret,yat,ev,IC.vsq0,IC.vsq1,R.fl,R.bind,A1,toR];have c:ycI (.scr (a.map PV.int)) AF (.int 63)=AA (.lst (a.map .int)):=by
  have d:ybI a.length 63=a.length:=by show min 63 a.length=a.length;lia
  simp[ycI,ybQ,ycg,cut,ycU,yc5,d]
  try rw[<-Aj (f:=PV.int),GU]
 simp[ybQ,onP,c,sizeMax]
def zh7{c}{N acc lo:Hz}{st}:exs c [AA (.int N),AA (.int acc),AA (.int lo)] st (.cons (.asg (.n 1) (.bin .mul (.cst (.int 2)) (.var 1))) .nil)=.nx [AA (.int N),AA (.int (2*acc)),AA (.int lo)] st:=by erw[xs_nil,zq,x_asg,yat,nxO,IC.ve1,IC.ve2,IC.ve3,R.bind,R.fl,yC,yw,binI,yap,toR,Ag,Ai,A1,AY];simp
def zfd(k n:Hy)(o:n<1000)(st:SO):yc T (k+1) yiS [.int n] st=.ok (.int (2^n)) st:=by
 let#[p,g,h,u,f,l]:=zbV (call:=yc T k) (t:=.n 2) (b:=.cons (.asg (.n 1) (.bin .mul (.cst (.int 2)) (.var 1))) .nil) (λi U st=>∃u,U=[AA (.int n),AA (.int (2^i)),u]/\st=[]) (ye n 0 1) 0 [AA (.int n),AA (.int 1),AF] [] #[_,rfl,rfl] (by
  rintro j x U st c ⟨u,rfl,rfl⟩
  have c:∃i,x=.int i:=by
   have:∀(n:Hy) (a d:Hz) (j:Hy) x,(ye n a d)[j]?=AA x->∃i,x=.int i:=by
    intro n
    induction n with
    |zero=>intro a d j x h;simp[ye]at h
    |succ n ih=>
     intro a d j x h
     cases j with
     |zero=>simp[ye]at h;exact#[a,h.symm]
     |succ j=>simp[ye]at h;exact ih _ _ _ _ h
   exact this _ _ _ _ _ c
  let#[i,rfl]:=c;exact#[_,_,_,rfl,zh7,_,by rw[El,Em],rfl])
 have m:(ye n 0 1).length=n:=by
  have:∀(n:Hy) (a d:Hz),(ye n a d).length=n:=by
   intro n
   induction n with
   |zero=>intro a d;rfl
   |succ n ih=>intro a d;simp[ye,ih]
  exact this _ _ _
 rw[m,CT]at f;subst f l;rw[yc,show T yiS=AA yfR from rfl];erw[yfR,AQ,Ap,IF,nLs,nL,D1,AN,Ay,Bz,Am,BF,BB,zq,xs_nil,x_asg,x_for,x_ret,yat,nxO,IC.ve1,IC.ve2,R.fl,yC,Ag,Ai,IC.vjq0,IC.vjq1,IC.vjq2,IC.vjq3,IC.vjq4,IC.vjq5,IC.vjq6,IC.vjq7,IC.vjq8,IC.vjq9,R.bind,A1,ya9,toL];erw[show (n:Hz).natAbs<1000000000 by lia,IF,Bq,h];simp[nL]
local macro_rules | `(tactic| simp! [$xs,*])=>do
 let l<-("IC.xs_conS IC.kS1 IC.kS2 IC.kS3 IC.kS4 IC.kS5 IC.xs_nil IC.x_asg IC.x_iteS IC.kI1 IC.kI2 IC.kJ1 IC.kJ2 IC.x_ret IC.x_expr IC.x_for IC.x_six IC.evs_n IC.evs_c IC.kA1 IC.kA2 IC.kB1 IC.kB2 IC.evi IC.ve1 IC.ve2 IC.ve3S IC.kX1 IC.kX2 IC.kY1 IC.kY2 IC.ve4 IC.ve5 IC.ve6S IC.kN1 IC.kN2 IC.ve7S IC.kO1 IC.kO2 IC.ve8S IC.ve9 IC.ve10S IC.kE1 IC.kF1 IC.kF2 IC.ve11 IC.ve12 IC.ve13 IC.ve15 IC.ve16S IC.ve17 IC.ve18 IC.ve19 IC.ve20S IC.kM1 IC.kP1 IC.ve21 IC.ve24 IC.ve25 IC.ve28 IC.ve32 IC.v_comp List.getElem?_cons_zero List.getElem?_cons_succ WK.bd_ok WK.fl_ok WK.bd_exc WK.fl_exc WK.toR_some IC.toL WK.bT_n WK.nxO_some WK.th_nx WK.th_rt WK.th_exc List.set_cons_zero List.set_cons_succ WK.on_t WK.t_bl WK.ono IC.onBl cond_true cond_false List.length_cons List.length_nil Nat.zero_add Nat.reduceAdd Nat.reduceSub Nat.reduceLeDiff if_true IC.nL IC.nLs WK.noLocs_ints Bool.and_self Bool.not_true Bool.not_false List.map_cons List.map_nil List.replicate List.cons_append List.nil_append List.append_nil Option.bind_none Option.bind_some Option.join_some WK.b_add WK.b_sub WK.b_mul2 WK.b_div2 WK.c_lt WK.c_le WK.c_gt WK.c_ge WK.c_eq WK.c_ne IC.PV.tup IC.sizeMax".splitOn " ").toArray.mapM λs=>`(Lean.Parser.Tactic.simpLemma| $(Lean.mkIdent s.toName):term)
 `(tactic| simp only[$l,*,$xs,*])
abbrev big:Hz->Prop:=λx=>x.natAbs<18446744073709551616
def zdd(k:Hy){a b c d n i j:Hz}(f:big n)(hi:big i)(g:big j)(st:SO):
  yc T (k+1) yip [.tup [.int a,.int b,.int c,.int d],.int n,.int i,.int j] st=.ok (.int (a+b*i+c*j+d*n)) st:=by rw[zh (show T yip=AA ye6 from rfl) rfl rfl rfl];simp! [ye6,ix0,ix1,ix2,ix3,zA f,zA hi,zA g,zcu]
def zey(k:Hy){a b c d n i j:Hz}(f:big n)(hi:big i)(g:big j)(st:SO):
  yc T (k+1) yiU [.tup [.int a,.int b,.int c,.int d],.int i,.int j,.int n] st=.ok (.int (a+b*i+c*j+d*n)) st:=by rw[zh (show T yiU=AA ygl from rfl) rfl rfl rfl];simp! [ygl,ix0,ix1,ix2,ix3,zA f,zA hi,zA g,zcu]
abbrev cM:Hy:=20
def mob(w n i j:Hz)(L:Hy)(mk:Hz):Ob:=.ins cM [(AE "w",.int w),(AE "n",.int n),(AE "i",.int i),(AE "j",.int j),(AE "words",.loc L),(AE "marked",.int mk)]
section
variable {st:SO}{m L:Hy}{w n i j mk:Hz}
theorem f_w(h:st[m]?=AA (mob w n i j L mk)):yax cM st (.loc m) (AE "w")=AA (.int w):=by erw[yax,h,mob,IF];ac_rfl
theorem f_n(h:st[m]?=AA (mob w n i j L mk)):yax cM st (.loc m) (AE "n")=AA (.int n):=by erw[yax,h,mob,IF];ac_rfl
theorem f_i(h:st[m]?=AA (mob w n i j L mk)):yax cM st (.loc m) (AE "i")=AA (.int i):=by erw[yax,h,mob,IF];ac_rfl
theorem f_j(h:st[m]?=AA (mob w n i j L mk)):yax cM st (.loc m) (AE "j")=AA (.int j):=by erw[yax,h,mob,IF];ac_rfl
def zpc(h:st[m]?=AA (mob w n i j L mk)):yax cM st (.loc m) (AE "words")=AA (.loc L):=by erw[yax,h,mob,IF];ac_rfl
theorem ix5{st k}{a b c d e f:PV}:idxV st (.tp k [a,b,c,d,e,f]) (.int 5)=AA f:=rfl
def ych(w n i j c a b p q r:Hz):Hz:=c+a*i+b*j+w*(p*i+q*j+r*n)
theorem bT6{U:IC.Env}{a b c d e f:Hy}{g j l m n o:PV}{p}:yC (.t [a,b,c,d,e,f]) (.tp p [g,j,l,m,n,o]) U=AA ((((((U.set a (AA g)).set b (AA j)).set c (AA l)).set d (AA m)).set e (AA n)).set f (AA o)):=rfl
def zmq(k:Hy){c a b p q r:Hz}(h:st[m]?=AA (mob w n i j L mk))(d:big w)(f:big n)(hi:big i)(g:big j):
  yc T (k+1) yiu [.tup [.int c,.int a,.int b,.int p,.int q,.int r],.loc m] st=.ok (.int (ych w n i j c a b p q r)) st:=by rw[zj (show T yiu=AA ym from rfl) rfl rfl];simp! [ym,bT6,f_w h,f_n h,f_i h,f_j h,zA f,zA hi,zA g,zaF d,zak,ych]
def zfT(k:Hy){c a b p q r:Hz}(d:big w)(f:big n)(hi:big i)(g:big j):
  yc T (k+1) yi4 [.tup [.int c,.int a,.int b,.int p,.int q,.int r],.tup [.int w,.int n],.int i,.int j] st=.ok (.int (ych w n i j c a b p q r)) st:=by rw[zh (show T yi4=AA ygR from rfl) rfl rfl rfl];simp! [ygR,ix0,ix1,ix2,ix3,ix4,ix5,zA f,zA hi,zA g,zaF d,zcu,ych]
end
local macro_rules | `(tactic| simp! [$xs,*])=>do
 let l<-("IC.xs_conS IC.kS1 IC.kS2 IC.kS3 IC.kS4 IC.kS5 IC.xs_nil IC.x_asg IC.x_iteS IC.kI1 IC.kI2 IC.kJ1 IC.kJ2 IC.x_ret IC.x_expr IC.x_for IC.x_six IC.evs_n IC.evs_c IC.kA1 IC.kA2 IC.kB1 IC.kB2 IC.evi IC.ve1 IC.ve2 IC.ve3S IC.kX1 IC.kX2 IC.kY1 IC.kY2 IC.ve4 IC.ve5 IC.ve6S IC.kN1 IC.kN2 IC.ve7S IC.kO1 IC.kO2 IC.ve8S IC.ve9 IC.ve10S IC.kE1 IC.kF1 IC.kF2 IC.ve11 IC.ve12 IC.ve13 IC.ve15 IC.ve16S IC.ve17 IC.ve18 IC.ve19 IC.ve20S IC.kM1 IC.kP1 IC.ve21 IC.ve24 IC.ve25 IC.ve28 IC.ve32 IC.v_comp List.getElem?_cons_zero List.getElem?_cons_succ WK.bd_ok WK.fl_ok WK.bd_exc WK.fl_exc WK.toR_some IC.toL WK.bT_n WK.nxO_some WK.th_nx WK.th_rt WK.th_exc List.set_cons_zero List.set_cons_succ WK.on_t WK.t_bl WK.ono IC.onBl cond_true cond_false List.length_cons List.length_nil Nat.zero_add Nat.reduceAdd Nat.reduceSub Nat.reduceLeDiff if_true IC.nL IC.nLs WK.noLocs_ints Bool.and_self Bool.not_true Bool.not_false List.map_cons List.map_nil List.replicate List.cons_append List.nil_append List.append_nil Option.bind_none Option.bind_some Option.join_some WK.b_add WK.b_sub WK.b_mul2 WK.b_div2 WK.c_lt WK.c_le WK.c_gt WK.c_ge WK.c_eq WK.c_ne IC.PV.tup IC.sizeMax".splitOn " ").toArray.mapM λs=>`(Lean.Parser.Tactic.simpLemma| $(Lean.mkIdent s.toName):term)
 `(tactic| simp only[$l,*,$xs,*])
abbrev yag:Str:=AE "slice"
abbrev yaN:Str:=AE "mark"
abbrev bd(s:Hz):IB:=decide (0<=s)&&decide (s<=100)
abbrev pl(x:Hz×Hz×Hz×Hz)(n i j:Hz):Hz:=x.1+x.2.1*i+x.2.2.1*j+x.2.2.2*n
abbrev q4(x:Hz×Hz×Hz×Hz):PV:=.tup [.int x.1,.int x.2.1,.int x.2.2.1,.int x.2.2.2]
def zjM:yH .eq (.str yag) (.str yaN)=AA (.bl AC):=by erw[yH];rw[ID ∅,show peq (.str yag) (.str yaN)=AC by erw[peq];decide +kernel]
def zeL{s:Hz}{st call}{U:IC.Env}{i:Hy}(h:U[i]?=AA (AA (.int s))):ev call U st (.chain .le .le (.cst (.int 0)) (.var i) (.cst (.int 100)))=.ok (.bl (bd s)) st:=by
 by_cases a:0<=s
 .simp! [h,blO,a,IN,bd,Az]
 .simp! [h,blO,a,IR,bd,B9]
def zlJ{x:PV}{n:Hy}{a:Hz}(h:x∈ye n a 1):∃j:Hy,j<n/\x=.int (a+j):=by
 induction n generalizing a with
 |zero=>cases h
 |succ n ih=>
  rw[ye]at h;rcases AV.1 h with rfl|h
  .exact#[0,(),by simp]
  .let#[j,b,rfl]:=ih h;exact#[j+1,(),by rw[show a+1+(j:Hz)=a+((j+1:Hy):Hz)by lia]]
def zj4(n:Hy)(a:Hz):(ye n a 1).length=n:=by
 induction n generalizing a with
 |zero=>rfl
 |succ n ih=>rw[ye,AQ,ih]
def yak(W:Hz)(b:Hx (PV×PV)):Prop:=∀p∈b,∃(l:AT) (a v:Hz),p=(.tup [.str l,.int a],.int v)/\0<=v/\v<W
def gv(b:Hx (PV×PV))(l:AT)(a:Hz):Hz:=match look (.tup [.str l,.int a]) b with
 |some (.int v)=>v
 |_=>0
def zc4{W:Hz}{q}:∀{b:Hx (PV×PV)},yak W b->look q b=AF \/ ∃v,look q b=AA (.int v)/\0<=v/\v<W
 |[],_=>.inl rfl
 |p::r,h=>by
  let#[l,a,v,rfl,c,d]:=h _ AO;rw[look];split
  .exact .inr #[v,rfl,c,d]
  .exact zc4 λp f=>h p (AM _ f)
def zmN{W:Hz}{b}(h:yak W b)(l)(a:Hz):(look (.tup [.str l,.int a]) b).getD (.int 0)=.int (gv b l a):=by unfold gv;rcases zc4 (q:=.tup [.str l,.int a]) h with e|⟨v,e,_⟩<;>rw[e]<;>rfl
def zgw{W:Hz}(c:0<W){b}(h:yak W b)(l)(a:Hz):0<=gv b l a/\gv b l a<W:=by
 unfold gv;rcases zc4 (q:=.tup [.str l,.int a]) h with e|⟨v,e,d,f⟩<;>rw[e]
 .exact#[FK _,c]
 .exact#[d,f]
def ltr(l:AT):Prop:=l.cps.all (· < 0x110000)=AD
def zoB{L:Hy}{st:SO}{W:Hz}{b l}{a:Hz}(c:ltr l)(d:yak W b)(h:st[L]?=AA (.dct AD b)):ycq st (.loc L) (.tp AC [.str l,.int a]) (.int 0)=.ok (.int (gv b l a)) st:=by
 erw[ycq,yac,h];rw[ID (show isKey AD (.tp AC [.str l,.int a])=AD by show (l.cps.all (· < 0x110000)&&(AD&&AD))=AD;rw[c];rfl)]
 exact IM (λx=>R.ok x st) (zmN d l a)
def yaQ(g:Hz->Hz)(w s:Hz):Hy->Hz
 |0=>0
 |m+1=>g s+2^w.toNat*yaQ g w (s+1) m
def zg8(g:Hz->Hz){w s:Hz}(b:0<=w):∀(m:Hy) (a:Hz),s<=a->ybU ((ye m a 1).map λx=>PV.int (g (ivP x)*2^(w*(ivP x-s)).toNat))=AA (2^(w*(a-s)).toNat*yaQ g w a m)
 |0,a,_=>by simp[ye,ybU,yaQ]
 |m+1,a,h=>by
  have ih:=zg8 g (s:=s) b m (a+1) ();have c:w*(a+1-s)=w*(a-s)+w:=by rw[show a+1-s=(a-s)+1 by lia,G6,C3]
  have d:0<=w*(a-s):=DR b ();have f:(2:Hz)^(w*(a-s)+w).toNat=2^(w*(a-s)).toNat*2^w.toNat:=by rw[Hz.toNat_add d b,Hk]
  rw[ye,AN,ybU,ih];erw[ivP,yaQ];rw[c,f,G6,HJ,Em (g a)]
section
variable {st:SO}{m L:Hy}{w n i j mk W:Hz}{kvs:Hx (PV×PV)}
def thC:Ce:=match yx.body with
 |.cons _ (.cons _ (.cons _ (.cons _ (.cons (.ret (.blt _ (.cons (.comp _ _ _ _ e) _))) _))))=>e
 |_=>.nope
def zkS(k:Hy){l}{lo hi:PV}{s a:Hz}(d:ltr l)(b:yak W kvs)(f:0<W)(o:W<=65536)(h:st[m]?=AA (mob w n i j L mk))(c:st[L]?=AA (.dct AD kvs))(p:big w)(q:0<=w*(a-s))(r:w*(a-s)<=1000000):
  yaR (yc T k) [AF,AA (.loc m),AA (.int s),AA (.tup [.str yag,.str l,lo,hi])] (.n 0) (.cst (.bl AD)) thC (.int a) st=.ok (AA (.int (gv kvs l a*2^(w*(a-s)).toNat))) st:=by let#[t,u]:=zgw f b l a;have g:=zoB (l:=l) (a:=a) d b c;generalize gv kvs l a=v at *;have e:yw .shl (.int v) (.int (w*(a-s)))=AA (.int (v*2^(w*(a-s)).toNat)):=ID #[q,r,()];simp! [yaR,thC,yx,ix1,zpc h,f_w h,yL,yac,c,B3,yaL,g,zaF p,e]
def thR:Css:=match yx.body with
 |.cons _ (.cons _ (.cons _ r))=>r
 |_=>.nil
def zkP(k:Hy){l}{lo hi:PV}{s e:Hz}(r:ltr l)(u:yak W kvs)(y:0<W)(d:W<=65536)(h:st[m]?=AA (mob w n i j L mk))(z:st[L]?=AA (.dct AD kvs))(p:0<=w)(w1:w<=16)(g:bd s=AD)(o:bd e=AD):
  exs (yc T k) [AA (.tup [.str yag,.str l,lo,hi]),AA (.loc m),AA (.int s),AA (.int e)] st thR=.rt (.int (yaQ (gv kvs l) w s (e-s).toNat)) st:=by
 have A:=zeL (s:=s) (st:=st) (call:=yc T k) (U:=[AA (.tup [.str yag,.str l,lo,hi]),AA (.loc m),AA (.int s),AA (.int e)]) (i:=2) rfl;have B:=zeL (s:=e) (st:=st) (call:=yc T k) (U:=[AA (.tup [.str yag,.str l,lo,hi]),AA (.loc m),AA (.int s),AA (.int e)]) (i:=3) rfl;have C:thR=.cons (.ite (.or (.not (.chain .le .le (.cst (.int 0)) (.var 2) (.cst (.int 100)))) (.not (.chain .le .le (.cst (.int 0)) (.var 3) (.cst (.int 100))))) (.cons .nope .nil) .nil) (.cons (.ret (.blt .sum (.cons (.comp [AF,AA 1,AA 2,AA 0] (.n 0) (.range2 (.var 2) (.var 3)) (.cst (.bl AD)) thC) .nil))) .nil):=rfl;rw[C];have D:ev (yc T k) [AA (.tup [.str yag,.str l,lo,hi]),AA (.loc m),AA (.int s),AA (.int e)] st (.or (.not (.chain .le .le (.cst (.int 0)) (.var 2) (.cst (.int 100)))) (.not (.chain .le .le (.cst (.int 0)) (.var 3) (.cst (.int 100)))))=.ok (.bl AC) st:=by rw[IC.ve7,IC.ve5,A,g];erw[R.bind,onBl,Cv,IY,IC.ve5,B,o]
 rw[zq,zd8,D];erw[bd,AL,IA]at g o;let#[J,M]:=g;let#[N,O]:=o;have E:ydD (.int s) (.int e)=AA (ye (e-s).toNat s 1):=by erw[ydD];rw[ID #[(),()]]
 have G:=zab (call:=yc T k) (st:=st) (U0:=[AF,AA (.loc m),AA (.int s),AA (.tup [.str yag,.str l,lo,hi])]) (t:=.n 0) (c:=.cst (.bl AD)) (e:=thC) (f:=λx=>PV.int (gv kvs l (ivP x)*2^(w*(ivP x-s)).toNat)) (ye (e-s).toNat s 1) λx H=>by
  let#[q,X,rfl]:=zlJ H;have a:s+(q:Hz)-s=q:=()
  have I:w*(q:Hz)<=16*100:=by have Y:=C1 w1 (show (0:Hz)<=q by lia);lia
  exact zkS k r u y d h z (by show w.natAbs<_;lia) (by rw[a];exact DR p ()) (by rw[a];lia)
 have b:yah .sum st [.lst ((ye (e-s).toNat s 1).map λx=>PV.int (gv kvs l (ivP x)*2^(w*(ivP x-s)).toNat))]=AA (.int (yaQ (gv kvs l) w s (e-s).toNat)):=by erw[yah,yJ,BO,zg8 (gv kvs l) p _ _ (FK s),B3];rw[show w*(s-s)=0 by rw[Hz.sub_self,Hz.mul_zero]];simp
 simp! [E,G,zK _ (show ((ye (e-s).toNat s 1).map λx=>PV.int (gv kvs l (ivP x)*2^(w*(ivP x-s)).toNat)).length<=1000000 by rw[Aj,zj4];lia),b]
def zix(k:Hy){l lo hi}(u:ltr l)(x:yak W kvs)(y:0<W)(g:W<=65536)(h:st[m]?=AA (mob w n i j L mk))(z:st[L]?=AA (.dct AD kvs))(A:0<=w)(w1:w<=16)(o:big n)(f:big i)(p:big j)
  (B:bd (pl lo n i j)=AD) (C:bd (pl hi n i j)=AD):
  yc T (k+2) yhS [.tup [.str yag,.str l,q4 lo,q4 hi],.loc m] st=.ok (.int (yaQ (gv kvs l) w (pl lo n i j) (pl hi n i j-pl lo n i j).toNat)) st:=by rw[zj (show T yhS=AA yx from rfl) rfl rfl];have q:=λst=>zdd k (a:=lo.1) (b:=lo.2.1) (c:=lo.2.2.1) (d:=lo.2.2.2) o f p st;have t:=λst=>zdd k (a:=hi.1) (b:=hi.2.1) (c:=hi.2.2.1) (d:=hi.2.2.2) o f p st;erw[PV.tup]at q t;have D:yx.body=.cons (.ite (.cmp .eq (.idx (.var 0) (.cst (.int 0))) (.cst (.str "mark"))) (.cons .nope .nil) .nil) (.cons (.asg (.n 2) (.call 14 (.cons (.idx (.var 0) (.cst (.int 2))) (.cons (.fld 20 (.var 1) (AE "n")) (.cons (.fld 20 (.var 1) (AE "i")) (.cons (.fld 20 (.var 1) (AE "j")) .nil)))))) (.cons (.asg (.n 3) (.call 14 (.cons (.idx (.var 0) (.cst (.int 3))) (.cons (.fld 20 (.var 1) (AE "n")) (.cons (.fld 20 (.var 1) (AE "i")) (.cons (.fld 20 (.var 1) (AE "j")) .nil)))))) thR)):=rfl;rw[D];have r:=zkP (k+1) (lo:=q4 lo) (hi:=q4 hi) (s:=pl lo n i j) (e:=pl hi n i j) u x y g h z A w1 B C;erw[q4,PV.tup,pl]at r;simp! [ix0,ix2,ix3,zjM,f_n h,f_i h,f_j h,q,t,q4,r,yx,zak,pl]
end
def zgQ:∀(n:Hy) (a:Hz) (j:Hy) (x:PV),(ye n a (-1))[j]?=AA x->x=.int (a-j)
 |0,a,j,x,h=>by simp[ye]at h
 |n+1,a,0,x,h=>by simp[ye]at h;subst h;simp
 |n+1,a,j+1,x,h=>by
  erw[ye,AY]at h;rw[zgQ n (a+-1) j x h]
  congr 1;lia
def zeF:∀(n:Hy) (a d:Hz),(ye n a d).length=n
 |0,a,d=>rfl
 |n+1,a,d=>by rw[ye,AQ,zeF n]
def lsB:Css:=match yal.body with
 |.cons _ (.cons (.for _ _ b) _)=>b
 |_=>.nil
section
variable {st:SO}{L:Hy}{w W:Hz}{kvs:Hx (PV×PV)}
def zkL(c){l}{lo hi acc a:Hz}(d:ltr l)(f:yak W kvs)(b:st[L]?=AA (.dct AD kvs))(n:0<=W)(j:W<=65536):
  exs c [AA (.loc L),AA (.str l),AA (.int lo),AA (.int hi),AA (.int W),AA (.int acc),AA (.int a)] st lsB =
   .nx [AA (.loc L),AA (.str l),AA (.int lo),AA (.int hi),AA (.int W),AA (.int (acc*W+gv kvs l a)),AA (.int a)] st:=by have g:=zoB (l:=l) (a:=a) d f b;have m:yw .mul (.int acc) (.int W)=AA (.int (acc*W)):=zA ();simp! [lsB,yal,yL,yac,b,B3,yaL,g,m]
def zfY(k:Hy){l}{lo hi:Hz}(p:ltr l)(r:yak (2^w.toNat) kvs)(y:st[L]?=AA (.dct AD kvs))(H:0<=w)(w1:w<=16)(I:-1000<=lo)(J:lo<=1000)(M:-1000<=hi)(N:hi<=1000):
  yc T (k+1) yi1 [.loc L,.str l,.int lo,.int hi,.int (2^w.toNat)] st=.ok (.int (yaQ (gv kvs l) w lo (hi-lo).toNat)) st:=by
 have z:(2:Hz)^w.toNat<=65536:=by have h:2^w.toNat<=2^16:=BK ⋯ ();have g:((2^w.toNat:Hy):Hz)<=((65536:Hy):Hz):=HY.2 h;rw[Es]at g;exact g
 have d:(0:Hz)<=2^w.toNat:=En (Bd ⋯);generalize f:(2:Hz)^w.toNat=W at *;have A:yc9 (.int (hi-1)) (.int (lo-1))=AA (ye (hi-lo).toNat (hi-1) (-1)):=by erw[yc9];rw[ID #[(),()],show hi-1-(lo-1)=hi-lo by lia]
 let#[O,B,h,#[u,m],C]:=zbV (call:=yc T k) (t:=.n 6) (b:=lsB) (λi U s=>(∃u,U=[AA (.loc L),AA (.str l),AA (.int lo),AA (.int hi),AA (.int W),AA (.int (yaQ (gv kvs l) w (hi-i) i)),u])/\s=st)
  (ye (hi-lo).toNat (hi-1) (-1)) 0 [AA (.loc L),AA (.str l),AA (.int lo),AA (.int hi),AA (.int W),AA (.int 0),AF] st #[#[_,rfl],rfl] (by
   rintro j x U s D ⟨⟨u,rfl⟩,rfl⟩
   have ex:=zgQ _ _ _ _ D;subst ex;have q:yaQ (gv kvs l) w (hi-(((0+j:Hy):Hz))) (0+j)*W+gv kvs l (hi-1-(j:Hz))=yaQ (gv kvs l) w (hi-(((0+j+1:Hy):Hz))) (0+j+1):=by rw[CT,yaQ,f,show hi-((j+1:Hy):Hz)+1=hi-(j:Hz)by lia,show hi-((j+1:Hy):Hz)=hi-1-(j:Hz)by lia,Em,HX]
   have o:=zkL (yc T k) (lo:=lo) (hi:=hi) (acc:=yaQ (gv kvs l) w (hi-(((0+j:Hy):Hz))) (0+j)) (a:=hi-1-(j:Hz)) p r y d z;rw[q]at o;exact#[_,_,_,rfl,o,#[_,rfl],rfl])
 rw[zeF,CT]at m;subst m C;rw[zj (show T yi1=AA yal from rfl) rfl rfl];have E:yal.body=.cons (.asg (.n 5) (.cst (.int 0))) (.cons (.for (.n 6) (.rangeD (.bin .sub (.var 3) (.cst (.int 1))) (.bin .sub (.var 2) (.cst (.int 1)))) lsB) (.cons (.ret (.var 5)) .nil)):=rfl;rw[E];have G:yaQ (gv kvs l) w (hi-((hi-lo).toNat:Hz)) (hi-lo).toNat=yaQ (gv kvs l) w lo (hi-lo).toNat:=by
  by_cases c:lo<=hi
  .rw[show hi-((hi-lo).toNat:Hz)=lo by lia]
  .rw[show (hi-lo).toNat=0 by lia];rfl
 simp! [A,h,G,yal,zak]
end
inductive Th where
 |sl (l:AT) (lo hi:Hz×Hz×Hz×Hz)
structure Mp where
 (w n i j mq:Hz)
 kvs:Hx (PV×PV)
structure Mp.Ok(p:Mp):Prop where
 c:yak (2^p.w.toNat) p.kvs
 w0:0<=p.w
 w1:p.w<=16
 hn:big p.n
 hi:big p.i
 hj:big p.j
 hm:big p.mq
structure Mo(st:SO)(m L:Hy)(p:Mp):Prop where
 h:st[m]?=AA (mob p.w p.n p.i p.j L p.mq)
 d:st[L]?=AA (.dct AD p.kvs)
 ok:p.Ok
def Th.pv:Th->PV
 |.sl l lo a=>.tup [.str yag,.str l,q4 lo,q4 a]
def Th.fine(p:Mp):Th->Prop
 |.sl l lo a=>ltr l/\bd (pl lo p.n p.i p.j)=AD/\bd (pl a p.n p.i p.j)=AD/\pl a p.n p.i p.j-pl lo p.n p.i p.j<=4
def Th.wo(p:Mp):Th->Hz
 |.sl l lo a=>yaQ (gv p.kvs l) p.w (pl lo p.n p.i p.j) (pl a p.n p.i p.j-pl lo p.n p.i p.j).toNat
abbrev E6:=Hz×Hz×Hz×Hz×Hz×Hz
abbrev yaJ(x:E6):PV:=.tup [.int x.1,.int x.2.1,.int x.2.2.1,.int x.2.2.2.1,.int x.2.2.2.2.1,.int x.2.2.2.2.2]
abbrev ex6(p:Mp)(x:E6):Hz:=ych p.w p.n p.i p.j x.1 x.2.1 x.2.2.1 x.2.2.2.1 x.2.2.2.2.1 x.2.2.2.2.2
abbrev bd2(s:Hz):IB:=decide (0<=s)&&decide (s<=2000)
abbrev wid(f:Hz):Prop:=f.natAbs<1606938044258990275541962092341162602522202993782792835301376
def zjx{g:Hz->Hz}{w:Hz}(f:∀a,0<=g a/\g a<2^w.toNat):∀(m:Hy) (s:Hz),0<=yaQ g w s m/\yaQ g w s m<2^(w.toNat*m)
 |0,s=>#[FK _,by rw[Hy.mul_zero,yaQ];decide]
 |m+1,s=>by let#[a,b]:=zjx f m (s+1);let#[c,d]:=f s;have j:(0:Hz)<2^w.toNat:=Bd ⋯;rw[yaQ,Hy.mul_succ,HZ,Hk];refine#[Hz.add_nonneg c (DR (En j) a),?_];have h:(2:Hz)^w.toNat*(yaQ g w (s+1) m+1)<=2^w.toNat*2^(w.toNat*m):=Hz.mul_le_mul_of_nonneg_left b (En j);rw[G6,C3]at h;lia
def zb6{a b:Hy}(h:a<=b):(2:Hz)^a<=2^b:=by have c:((2^a:Hy):Hz)<=((2^b:Hy):Hz):=HY.2 (BK ⋯ h);rw[Es,Es]at c;exact c
def zpd{p:Mp}(h:p.Ok):(2:Hz)^p.w.toNat<=65536:=by have:=h.w1;exact zb6 (b:=16) ()
def zmY{p:Mp}:(0:Hz)<2^p.w.toNat:=Bd ⋯
def zjg{p:Mp}(h:p.Ok){t:Th}(d:t.fine p):big (t.wo p):=by
 cases t with
 |sl l lo c=>
  let#[_,_,_,g]:=d;let#[a,b]:=zjx (λa=>zgw zmY h.c l a) (pl c p.n p.i p.j-pl lo p.n p.i p.j).toNat (pl lo p.n p.i p.j);have j:=h.w1;have f:p.w.toNat*(pl c p.n p.i p.j-pl lo p.n p.i p.j).toNat<=16*4:=Ck () ();have m:(2:Hz)^(p.w.toNat*(pl c p.n p.i p.j-pl lo p.n p.i p.j).toNat)<=18446744073709551616:=zb6 (b:=64) f;show (yaQ _ _ _ _).natAbs<_;lia
section
variable {st:SO}{m L:Hy}{p:Mp}
def zlS(k:Hy)(M:Mo st m L p){t:Th}(a:t.fine p):yc T (k+2) yhS [t.pv,.loc m] st=.ok (.int (t.wo p)) st:=by
 cases t with
 |sl l lo b=>exact zix k a.1 M.ok.c zmY (zpd M.ok) M.h M.d M.ok.w0 M.ok.w1 M.ok.hn M.ok.hi M.ok.hj a.2.1 a.2.2.1
def ziu(k:Hy)(M:Mo st m L p){a:Hx Th}(b:∀t∈a,t.fine p):
  yQ (yc T (k+2)) [AF,AA (.loc m)] (.n 0) (.cst (.bl AD)) (.call 20 (.cons (.var 0) (.cons (.var 1) .nil))) (a.map Th.pv) st=.ok (a.map λt=>.int (t.wo p)) st:=by
 induction a with
 |nil=>rfl
 |cons t a ih=>
  have e:=zlS k M (b t AO);have one:yaR (yc T (k+2)) [AF,AA (.loc m)] (.n 0) (.cst (.bl AD)) (.call 20 (.cons (.var 0) (.cons (.var 1) .nil))) t.pv st=.ok (AA (.int (t.wo p))) st:=by simp! [yaR,e]
  rw[AN,zH,one];erw[R.bind];rw[ih λt h=>b t (AM _ h)];rfl
def zih(f:Th->Hz)(a:Hx Th):inL .non (a.map λt=>.int (f t))=false:=by
 induction a with
 |nil=>rfl
 |cons t a ih=>
  rw[AN,inL,ih];simp[peq]
def zgC(f:Th->Hz)(a:Hx Th):(a.map λt=>PV.int (f t)).all flat=true:=by
 induction a with
 |nil=>rfl
 |cons t a ih=>
  rw[AN,Aq,ih];rfl
def tsW(p:Mp)(a:Hx Th)(v:Hz):Hz:=a.foldl (λv t=>v*t.wo p) v
def zeJ{c}{a0 a1 a2 a3 a4 a5 a6:Option PV}(h:p.Ok):∀(a:Hx Th),(∀t∈a,t.fine p)->∀(v:Hz)(u:Option PV),∃b,yaz c (.n 8) (.cons (.aug 7 .mul (.var 8)) .nil) (a.map λt=>.int (t.wo p)) [a0,a1,a2,a3,a4,a5,a6,AA (.int v),u] st=.nx [a0,a1,a2,a3,a4,a5,a6,AA (.int (tsW p a v)),b] st
 |[],_,v,u=>#[u,rfl]
 |t::a,d,v,u=>by
  let#[b,e]:=zeJ (c:=c) (a0:=a0) (a1:=a1) (a2:=a2) (a3:=a3) (a4:=a4) (a5:=a5) (a6:=a6) h a (λt h=>d t (AM _ h)) (v*t.wo p) (AA (.int (t.wo p)));refine#[b,?_];rw[AN,zl (U1:=[a0,a1,a2,a3,a4,a5,a6,AA (.int v),AA (.int (t.wo p))]) rfl,zq,zjN (x:=.int v) rfl];have:yap v (t.wo p)=true:=by have:=zjg h (d t AO);erw[yap,Bc,IA];exact .inr this
  erw[IC.ve2,A1,AY,R.fl,ybb,binI,this,IF,B3,nxO,yat,xs_nil,yS,Ag,Ai];exact e
def twR:Css:=match yM.body with
 |.cons _ (.cons _ (.cons _ r))=>r
 |_=>.nil
def zpe{s:Hz}{st call}{U:IC.Env}{i:Hy}(h:U[i]?=AA (AA (.int s))):ev call U st (.chain .le .le (.cst (.int 0)) (.var i) (.cst (.int 2000)))=.ok (.bl (bd2 s)) st:=by
 by_cases a:0<=s
 .simp! [h,blO,a,IN,bd2,Az]
 .simp! [h,blO,a,IR,bd2,B9]
def zka{c}{a0 a1 a3 a4:Option PV}{f E:Hz}{a:Hx Th}{u7 u8:Option PV}(hf:wid f)(h:p.Ok)(m:∀t∈a,t.fine p):
  exs c [a0,a1,AA (.int f),a3,a4,AA (.int E),AA (.lst (a.map λt=>.int (t.wo p))),u7,u8] st twR=.rt (if bd2 E then .int (tsW p a (f*2^E.toNat))else .non) st:=by
 have o:twR=.cons (.ite (.or (.not (.chain .le .le (.cst (.int 0)) (.var 5) (.cst (.int 2000)))) (.cmp .isin (.cst .non) (.var 6))) (.cons (.ret (.cst .non)) .nil) .nil) (.cons (.asg (.n 7) (.bin .shl (.var 2) (.var 5))) (.cons (.for (.n 8) (.seq (.var 6)) (.cons (.aug 7 .mul (.var 8)) .nil)) (.cons (.ret (.var 7)) .nil))):=rfl;generalize b:(a.map λt=>PV.int (t.wo p))=d;have q:=zpe (s:=E) (st:=st) (call:=c) (U:=[a0,a1,AA (.int f),a3,a4,AA (.int E),AA (.lst d),u7,u8]) (i:=5) rfl;have r:yH .isin .non (.lst d)=AA (.bl AC):=by have j:d.all flat=true:=b ▸ zgC _ a;have u:inL .non d=false:=b ▸ zih _ a;erw[yH,flat,j,u,Az];rfl
 rw[o];have w:ev c [a0,a1,AA (.int f),a3,a4,AA (.int E),AA (.lst d),u7,u8] st (.or (.not (.chain .le .le (.cst (.int 0)) (.var 5) (.cst (.int 2000)))) (.cmp .isin (.cst .non) (.var 6)))=.ok (.bl !(bd2 E)) st:=by
  rw[IC.ve7,IC.ve5,q]
  cases g:bd2 E with
  |false=>rfl
  |true=>
   erw[R.bind,onBl,Cv,IY,IC.ve8,IC.ve1,IC.ve2,A1,AY,r,toR]
 rw[zq,zd8,w]
 cases g:bd2 E with
 |false=>rfl
 |true=>
  erw[bd2,AL,IA]at g;let#[x,j]:=g;have y:yw .shl (.int f) (.int E)=AA (.int (f*2^E.toNat)):=by erw[yw,binI];rw[ID #[x,(),hf]]
  let#[z,l]:=zeJ (st:=st) (c:=c) (a0:=a0) (a1:=a1) (a2:=AA (.int f)) (a3:=a3) (a4:=a4) (a5:=AA (.int E)) (a6:=AA (.lst d)) h a m (f*2^E.toNat) u8;rw[b]at l;simp! [y,IC.seqOf,l]
structure Tm where
 f:Hz
 x:E6
 ts:Hx Th
def Tm.pv(t:Tm):PV:=.tup [.int t.f,yaJ t.x,.tup (t.ts.map Th.pv)]
structure Tm.fine(p:Mp)(t:Tm):Prop where
 f:wid t.f
 s:∀x∈t.ts,x.fine p
 l:t.ts.length<=10
def Tm.wo(p:Mp)(t:Tm):Hz:=tsW p t.ts (t.f*2^(ex6 p t.x).toNat)
def Tm.ok(p:Mp)(t:Tm):IB:=bd2 (ex6 p t.x)
def Tm.val(p:Mp)(t:Tm):PV:=if t.ok p then .int (t.wo p)else .non
theorem bT3{U:IC.Env}{a b c:Hy}{d f g:PV}{j}:yC (.t [a,b,c]) (.tp j [d,f,g]) U=AA (((U.set a (AA d)).set b (AA f)).set c (AA g)):=rfl
def zl8(k:Hy)(M:Mo st m L p){t:Tm}(d:t.fine p):yc T (k+3) yit [t.pv,.loc m] st=.ok (t.val p) st:=by
 rw[zj (show T yit=AA yM from rfl) rfl rfl];have j:yM.body=.cons (.asg (.t [2,3,4]) (.var 0)) (.cons (.asg (.n 5) (.call 19 (.cons (.var 3) (.cons (.var 1) .nil)))) (.cons (.asg (.n 6) (.comp [AF,AA 1] (.n 0) (.seq (.var 4)) (.cst (.bl AD)) (.call 20 (.cons (.var 0) (.cons (.var 1) .nil))))) twR)):=rfl;have f:=zmq (k+1) (c:=t.x.1) (a:=t.x.2.1) (b:=t.x.2.2.1) (p:=t.x.2.2.2.1) (q:=t.x.2.2.2.2.1) (r:=t.x.2.2.2.2.2) M.h (by have:=M.ok.w0;have:=M.ok.w1;show p.w.natAbs<_;lia) M.ok.hn M.ok.hi M.ok.hj;have l:=ziu k M d.s;have g:=zka (st:=st) (c:=yc T (k+2)) (a0:=AA t.pv) (a1:=AA (.loc m)) (a3:=AA (yaJ t.x)) (a4:=AA (.tup (t.ts.map Th.pv))) (E:=ex6 p t.x) (u7:=AF) (u8:=AF) d.f M.ok d.s;have o:(t.ts.map λt=>PV.int (t.wo p)).length<=1000000:=by rw[Aj];have:=d.l;lia
 rw[j];erw[yaJ,PV.tup,ex6,Tm.pv]at g f;simp! [yM,bT3,f,IC.seqOf,l,zK _ o,g,zak,yaJ,Tm.pv];rfl
end
def tot(p:Mp):Hx Tm->Hz
 |[]=>0
 |t::a=>t.wo p+tot p a
def okS(p:Mp)(tt:Hx Tm):IB:=tt.all (Tm.ok p)
def due(p:Mp)(tt:Hx Tm):IB:=okS p tt&&decide (tot p tt=0)
section
variable {st:SO}{m L:Hy}{p:Mp}
def zeu(k:Hy)(M:Mo st m L p):∀{tt:Hx Tm},(∀t∈tt,t.fine p) ->
  yQ (yc T (k+3)) [AF,AA (.loc m)] (.n 0) (.cst (.bl AD)) (.call 18 (.cons (.var 0) (.cons (.var 1) .nil))) (tt.map Tm.pv) st=.ok (tt.map (Tm.val p)) st
 |[],_=>rfl
 |t::tt,h=>by
  have e:=zl8 k M (h t AO);have one:yaR (yc T (k+3)) [AF,AA (.loc m)] (.n 0) (.cst (.bl AD)) (.call 18 (.cons (.var 0) (.cons (.var 1) .nil))) t.pv st=.ok (AA (t.val p)) st:=by simp! [yaR,e]
  rw[AN,zH,one];erw[R.bind];rw[zeu k M λq a=>h q (AM _ a)];rfl
def zjT(tt:Hx Tm):inL .non (tt.map (Tm.val p))=!(okS p tt):=by
 induction tt with
 |nil=>rfl
 |cons t a ih=>
  rw[AN,inL,ih];unfold okS;rw[Aq];unfold Tm.val
  cases t.ok p<;>simp[peq]
def ziE(tt:Hx Tm):(tt.map (Tm.val p)).all flat=true:=by
 induction tt with
 |nil=>rfl
 |cons t a ih=>
  rw[AN,Aq,ih];unfold Tm.val
  cases t.ok p<;>rfl
def zhs:∀{tt:Hx Tm},okS p tt=AD->ybU (tt.map (Tm.val p))=AA (tot p tt)
 |[],_=>rfl
 |t::tt,h=>by unfold okS at h;rw[Aq,AL]at h;rw[AN,show t.val p=.int (t.wo p)by unfold Tm.val;rw[h.1];rfl,ybU,zhs h.2,tot]
def zjI(k:Hy)(M:Mo st m L p){tt:Hx Tm}(h:∀t∈tt,t.fine p)(g:tt.length<=1000):
  yc T (k+4) yio [.tup (tt.map Tm.pv),.loc m] st=.ok (.bl (due p tt)) st:=by
 rw[zj (show T yio=AA ydv from rfl) rfl rfl];have c:yH .notin .non (.lst (tt.map (Tm.val p)))=AA (.bl (okS p tt)):=by erw[yH,flat,ziE,Az,zjT,IB.not_not];rfl
 have a:(tt.map (Tm.val p)).length<=1000000:=by rw[Aj];lia
 have f:=zeu k M h;unfold due
 cases d:okS p tt with
 |false=>
  rw[d]at c;simp! [ydv,IC.seqOf,f,zK _ a,c,zak,B9]
 |true=>
  rw[d]at c;have b:yah .sum st [.lst (tt.map (Tm.val p))]=AA (.int (tot p tt)):=by erw[yah,yJ,BO,zhs d,B3]
  simp! [ydv,IC.seqOf,f,zK _ a,c,b,zak,Az];rfl
def zon{c:Hy}{st:SO}{fs:Hx (AT×PV)}{f}{v:PV}(h:fs.length<1000):yaX c (st++[.ins c fs]) (.loc st.length) f v=AA (st++[.ins c (ybD f v fs)]):=by erw[yaX,Dm,Hx.set_append_right _ _ (AS _),Hy.sub_self,Ag];rw[ID #[trivial,h]]
abbrev mf(v:Hx PV):Hx (AT×PV):=[AE "w",AE "n",AE "i",AE "j",AE "words",AE "marked"].zip v
def zjQ(k:Hy){st:SO}{L:Hy}{w n i j mk:Hz}:yc T (k+1) yim [.loc st.length,.int w,.int n,.int i,.int j,.loc L,.int mk] (st++[.ins cM []])=.ok .non (st++[mob w n i j L mk]):=by rw[zj (show T yim=AA yk from rfl) rfl rfl];have a:yaX 20 (st++[.ins 20 []]) (.loc st.length) (AE "w") (.int w)=AA (st++[.ins 20 (mf [.int w])]):=zon ⋯;have b:yaX 20 (st++[.ins 20 (mf [.int w])]) (.loc st.length) (AE "n") (.int n)=AA (st++[.ins 20 (mf [.int w,.int n])]):=(zon (by simp[mf])).trans (by ac_rfl);have c:yaX 20 (st++[.ins 20 (mf [.int w,.int n])]) (.loc st.length) (AE "i") (.int i)=AA (st++[.ins 20 (mf [.int w,.int n,.int i])]):=(zon (by simp[mf])).trans (by ac_rfl);have d:yaX 20 (st++[.ins 20 (mf [.int w,.int n,.int i])]) (.loc st.length) (AE "j") (.int j)=AA (st++[.ins 20 (mf [.int w,.int n,.int i,.int j])]):=(zon (by simp[mf])).trans (by ac_rfl);have f:yaX 20 (st++[.ins 20 (mf [.int w,.int n,.int i,.int j])]) (.loc st.length) (AE "words") (.loc L)=AA (st++[.ins 20 (mf [.int w,.int n,.int i,.int j,.loc L])]):=(zon (by simp[mf])).trans (by ac_rfl);have g:yaX 20 (st++[.ins 20 (mf [.int w,.int n,.int i,.int j,.loc L])]) (.loc st.length) (AE "marked") (.int mk)=AA (st++[mob w n i j L mk]):=(zon (by simp[mf])).trans (by ac_rfl);simp! [yk,zg3,a,b,c,d,f,g,stO];rfl
def ziH(t:Th):nL t.pv=true:=by cases t<;>rfl
def zcy:∀a:Hx Th,nLs (a.map Th.pv)=AD
 |[]=>rfl
 |t::a=>by rw[AN,nLs,ziH,zcy a];rfl
def zeA(t:Tm):nL t.pv=true:=by erw[Tm.pv,nL,nLs,zcy,D1,Az]
def zaI:∀a:Hx Tm,nLs (a.map Tm.pv)=AD
 |[]=>rfl
 |t::a=>by rw[AN,nLs,zeA,zaI a];rfl
def stI:Css:=match yW.body with
 |.cons (.for _ _ (.cons _ (.cons (.for _ _ b) _))) _=>b
 |_=>.nil
def stB:Css:=match yW.body with
 |.cons (.for _ _ b) _=>b
 |_=>.nil
def zmJ{l}{a b:PV}:ycg (.tp AC [.str yag,.str l,a,b]) (AA 2) AF=AA (.tup [a,b]):=rfl
def atC:Ce:=.chain .le .le (.cst (.int 0)) (.call 65 (.cons (.var 0) (.cons (.var 1) (.cons (.var 2) (.cons (.var 3) .nil))))) (.cst (.int 100))
def zjb(k:Hy){n i j:Hz}{x}{st:SO}(g:big n)(hi:big i)(l:big j):yaR (yc T (k+1)) [AF,AA (.int i),AA (.int j),AA (.int n)] (.n 0) (.cst (.bl AD)) atC (q4 x) st=.ok (AA (.bl (bd (pl x n i j)))) st:=by
 have p:=zey k (a:=x.1) (b:=x.2.1) (c:=x.2.2.1) (d:=x.2.2.2) g hi l st;erw[PV.tup]at p;simp! [yaR,atC,p,q4];generalize m:x.1+x.2.1*i+x.2.2.1*j+x.2.2.2*n=s;erw[bd,pl,m]
 by_cases f:0<=s
 .simp! [blO,f,IN,Az]
 .simp! [blO,f,IR,B9]
def zm3(k:Hy)(a:p.Ok){t:Th}(b:t.fine p){st}{a0 a1 a5 a6 a7:Option PV}:
  exs (yc T (k+1)) [a0,a1,AA (.int p.n),AA (.int p.i),AA (.int p.j),a5,a6,a7,AA t.pv] st stI=.nx [a0,a1,AA (.int p.n),AA (.int p.i),AA (.int p.j),a5,a6,a7,AA t.pv] st:=by
 have j:stI=.cons (.ite (.not (.blt .all (.cons (.comp [AF,AA 3,AA 4,AA 2] (.n 0) (.seq (.slc (.var 8) (.cst (.int 2)) (.cst .non))) (.cst (.bl AD)) atC) .nil))) (.cons .nope .nil) .nil) .nil:=rfl;rw[j]
 cases t with
 |sl l lo c=>
  have d:=zjb k (x:=lo) (st:=st) a.hn a.hi a.hj;have f:=zjb k (x:=c) (st:=st) a.hn a.hi a.hj;rw[b.2.1]at d;rw[b.2.2.1]at f;have g:yQ (yc T (k+1)) [AF,AA (.int p.i),AA (.int p.j),AA (.int p.n)] (.n 0) (.cst (.bl AD)) atC [q4 lo,q4 c] st=.ok [.bl AD,.bl AD] st:=by rw[zH,d];erw[R.bind];rw[zH,f];rfl
  have m:yah .all st [.lst [.bl AD,.bl AD]]=AA (.bl AD):=rfl;erw[q4,PV.tup]at g;simp! [Th.pv,ybQ,onP,ycI,zmJ,IC.seqOf,q4,g,zK [PV.bl AD,.bl AD] (by simp),m]
def zju(k:Hy)(c:p.Ok){st:SO}{a0 a1 a5 a6 a7:Option PV}:∀(a:Hx Th),(∀t∈a,t.fine p)->∀(u:Option PV),∃b,yaz (yc T (k+1)) (.n 8) stI (a.map Th.pv) [a0,a1,AA (.int p.n),AA (.int p.i),AA (.int p.j),a5,a6,a7,u] st=.nx [a0,a1,AA (.int p.n),AA (.int p.i),AA (.int p.j),a5,a6,a7,b] st
 |[],_,u=>#[u,rfl]
 |t::a,d,u=>by let#[b,e]:=zju k c (st:=st) (a0:=a0) (a1:=a1) (a5:=a5) (a6:=a6) (a7:=a7) a (λt h=>d t (AM _ h)) (AA t.pv);refine#[b,?_];rw[AN,zl (U1:=[a0,a1,AA (.int p.n),AA (.int p.i),AA (.int p.j),a5,a6,a7,AA t.pv]) rfl,zm3 k c (d t AO)];erw[yS];exact e
def zoJ(a:p.Ok):big p.w:=by
 have:=a.w0;have:=a.w1
 show p.w.natAbs<_;lia
def zjS(k:Hy)(d:p.Ok){t:Tm}(u:t.fine p){st}{a0 u8:Option PV}:∃f,
  exs (yc T (k+2)) [a0,AA (.int p.w),AA (.int p.n),AA (.int p.i),AA (.int p.j),AA (.int t.f),AA (yaJ t.x),AA (.tup (t.ts.map Th.pv)),u8] st stB=if t.ok p then .nx [a0,AA (.int p.w),AA (.int p.n),AA (.int p.i),AA (.int p.j),AA (.int t.f),AA (yaJ t.x),AA (.tup (t.ts.map Th.pv)),f] st else .rt (.bl AC) st:=by
 have w:stB=.cons (.ite (.not (.chain .le .le (.cst (.int 0)) (.call 78 (.cons (.var 6) (.cons (.tup (.cons (.var 1) (.cons (.var 2) .nil))) (.cons (.var 3) (.cons (.var 4) .nil))))) (.cst (.int 2000)))) (.cons (.ret (.cst (.bl AC))) .nil) .nil) (.cons (.for (.n 8) (.seq (.var 7)) stI) .nil):=rfl;have l:=zfT (k+1) (st:=st) (c:=t.x.1) (a:=t.x.2.1) (b:=t.x.2.2.1) (p:=t.x.2.2.2.1) (q:=t.x.2.2.2.2.1) (r:=t.x.2.2.2.2.2) (zoJ d) d.hn d.hi d.hj;erw[PV.tup]at l;let#[f,m]:=zju (k+1) d (st:=st) (a0:=a0) (a1:=AA (.int p.w)) (a5:=AA (.int t.f)) (a6:=AA (yaJ t.x)) (a7:=AA (.tup (t.ts.map Th.pv))) t.ts u.s u8;refine#[f,?_];rw[w];erw[PV.tup,yaJ]at m;simp! [yaJ,l];unfold Tm.ok;generalize x:ex6 p t.x=s;have g:ych p.w p.n p.i p.j t.x.1 t.x.2.1 t.x.2.2.1 t.x.2.2.2.1 t.x.2.2.2.2.1 t.x.2.2.2.2.2=s:=x;rw[g]
 by_cases j:0<=s
 .by_cases o:s<=2000
  .simp! [blO,j,o,IN,bd2,IC.seqOf,m]
  .simp! [blO,j,o,IN,IR,bd2,IB.and_false,B9];rfl
 .simp! [blO,j,IR,bd2,B9];rfl
def zeX(k:Hy)(f:p.Ok){st:SO}{a0:Option PV}:∀(tt:Hx Tm),(∀t∈tt,t.fine p)->∀(u5 u6 u7 u8:Option PV),∃a b c d,yaz (yc T (k+2)) (.t [5,6,7]) stB (tt.map Tm.pv) [a0,AA (.int p.w),AA (.int p.n),AA (.int p.i),AA (.int p.j),u5,u6,u7,u8] st =
  if okS p tt then .nx [a0,AA (.int p.w),AA (.int p.n),AA (.int p.i),AA (.int p.j),a,b,c,d] st else .rt (.bl AC) st
 |[],_,u5,u6,u7,u8=>#[u5,u6,u7,u8,rfl]
 |t::tt,g,u5,u6,u7,u8=>by
  let#[j,l]:=zjS k f (g t AO) (st:=st) (a0:=a0) (u8:=u8);let#[a,b,c,d,e]:=zeX k f (st:=st) (a0:=a0) tt (λt h=>g t (AM _ h)) (AA (.int t.f)) (AA (yaJ t.x)) (AA (.tup (t.ts.map Th.pv))) j;refine#[a,b,c,d,?_];rw[AN,zl (U1:=[a0,AA (.int p.w),AA (.int p.n),AA (.int p.i),AA (.int p.j),AA (.int t.f),AA (yaJ t.x),AA (.tup (t.ts.map Th.pv)),u8]) rfl,l];unfold okS at e ⊢;rw[Aq]
  cases t.ok p with
  |false=>rfl
  |true=>erw[IF,yS,Az];exact e
theorem stands(k:Hy)(a:p.Ok){tt:Hx Tm}(b:∀t∈tt,t.fine p)(st:SO):
  yc T (k+3) yi0 [.tup (tt.map Tm.pv),.int p.w,.int p.n,.int p.i,.int p.j] st=.ok (.bl (okS p tt)) st:=by
 rw[zh (show T yi0=AA yW from rfl) rfl rfl (by simp[nLs,nL,zaI])];have c:yW.body=.cons (.for (.t [5,6,7]) (.seq (.var 0)) stB) (.cons (.ret (.cst (.bl AD))) .nil):=rfl;let#[d,f,g,j,e]:=zeX k a (st:=[]) (a0:=AA (.tp AC (tt.map Tm.pv))) tt b AF AF AF AF;rw[c];simp! [yW,IC.seqOf,e]
 cases okS p tt<;>rfl
end
def ltO:Css:=match yaj.body with
 |.cons _ (.cons _ (.cons (.for _ _ b) _))=>b
 |_=>.nil
def ltI:Css:=match ltO with
 |.cons _ (.cons _ (.cons (.for _ _ b) _))=>b
 |_=>.nil
section
variable {st:SO}{L:Hy}{p:Mp}
def zml(k:Hy)(f:p.Ok)(r:st[L]?=AA (.dct AD p.kvs)){t:Th}(n:t.fine p){v:Hz}{a0 a7 a8 a9 a10 u11 u14:Option PV}:∃j m,
  exs (yc T (k+1)) [a0,AA (.tup [.int p.w,.int p.n]),AA (.int p.i),AA (.int p.j),AA (.loc L),AA (.int p.mq),AA (.int (2^p.w.toNat)),a7,a8,a9,a10,u11,AA (.int v),AA t.pv,u14] st ltI =
   .nx [a0,AA (.tup [.int p.w,.int p.n]),AA (.int p.i),AA (.int p.j),AA (.loc L),AA (.int p.mq),AA (.int (2^p.w.toNat)),a7,a8,a9,a10,j,AA (.int (v*t.wo p)),AA t.pv,m] st:=by
 have u:=zjg f n
 cases t with
 |sl l lo g=>
  refine#[AA (.int (pl g p.n p.i p.j)),AA (.int (pl lo p.n p.i p.j)),?_];have o:=λst=>zey k (a:=lo.1) (b:=lo.2.1) (c:=lo.2.2.1) (d:=lo.2.2.2) f.hn f.hi f.hj st;have q:=λst=>zey k (a:=g.1) (b:=g.2.1) (c:=g.2.2.1) (d:=g.2.2.2) f.hn f.hi f.hj st;let#[w,x,y,z]:=n;erw[bd,AL,IA]at x y;have sl:=zfY k (l:=l) (lo:=pl lo p.n p.i p.j) (hi:=pl g p.n p.i p.j) w f.c r f.w0 f.w1 () () () ();have e:=zA (i:=v) u;erw[Th.wo]at e;erw[PV.tup,pl]at o q sl e;simp! [ltI,ltO,yaj,Th.pv,ix0,ix1,ix2,ix3,zjM,o,q,q4,sl,e,Th.wo,pl]
def zjA(k:Hy)(j:p.Ok)(l:st[L]?=AA (.dct AD p.kvs)){a0 a7 a8 a9 a10:Option PV}:∀(d:Hx Th),(∀t∈d,t.fine p)->∀(v:Hz) (u11 u13 u14:Option PV),∃a b c,
  yaz (yc T (k+1)) (.n 13) ltI (d.map Th.pv) [a0,AA (.tup [.int p.w,.int p.n]),AA (.int p.i),AA (.int p.j),AA (.loc L),AA (.int p.mq),AA (.int (2^p.w.toNat)),a7,a8,a9,a10,u11,AA (.int v),u13,u14] st =
   .nx [a0,AA (.tup [.int p.w,.int p.n]),AA (.int p.i),AA (.int p.j),AA (.loc L),AA (.int p.mq),AA (.int (2^p.w.toNat)),a7,a8,a9,a10,a,AA (.int (tsW p d v)),b,c] st
 |[],_,v,u11,u13,u14=>#[u11,u13,u14,rfl]
 |t::d,m,v,u11,u13,u14=>by let#[f,g,o]:=zml k j l (m t AO) (v:=v) (a0:=a0) (a7:=a7) (a8:=a8) (a9:=a9) (a10:=a10) (u11:=u11) (u14:=u14);let#[a,b,c,e]:=zjA k j l (a0:=a0) (a7:=a7) (a8:=a8) (a9:=a9) (a10:=a10) d (λt h=>m t (AM _ h)) (v*t.wo p) f (AA t.pv) g;refine#[a,b,c,?_];rw[AN,zl (U1:=[a0,AA (.tup [.int p.w,.int p.n]),AA (.int p.i),AA (.int p.j),AA (.loc L),AA (.int p.mq),AA (.int (2^p.w.toNat)),a7,a8,a9,a10,u11,AA (.int v),AA t.pv,u14]) rfl,o];erw[yS];exact e
def Tm.lf(p:Mp)(t:Tm):Prop:=big t.f \/ ex6 p t.x<=60
def zjP(k:Hy)(j:p.Ok)(y:st[L]?=AA (.dct AD p.kvs)){t:Tm}(z:t.fine p)(w:t.lf p)(l:t.ok p=AD){v:Hz}{a0 u11 u12 u13 u14:Option PV}:∃d m f g,
  exs (yc T (k+1)) [a0,AA (.tup [.int p.w,.int p.n]),AA (.int p.i),AA (.int p.j),AA (.loc L),AA (.int p.mq),AA (.int (2^p.w.toNat)),AA (.int v),AA (.int t.f),AA (yaJ t.x),AA (.tup (t.ts.map Th.pv)),u11,u12,u13,u14] st ltO =
   .nx [a0,AA (.tup [.int p.w,.int p.n]),AA (.int p.i),AA (.int p.j),AA (.loc L),AA (.int p.mq),AA (.int (2^p.w.toNat)),AA (.int (v+t.wo p)),AA (.int t.f),AA (yaJ t.x),AA (.tup (t.ts.map Th.pv)),d,m,f,g] st:=by
 have A:ltO=.cons (.asg (.n 11) (.call 78 (.cons (.var 9) (.cons (.var 1) (.cons (.var 2) (.cons (.var 3) .nil)))))) (.cons (.asg (.n 12) (.bin .mul (.var 8) (.bin .shl (.cst (.int 1)) (.var 11)))) (.cons (.for (.n 13) (.seq (.var 10)) ltI) (.cons (.aug 7 .add (.var 12)) .nil))):=rfl;have o:=zfT k (st:=st) (c:=t.x.1) (a:=t.x.2.1) (b:=t.x.2.2.1) (p:=t.x.2.2.2.1) (q:=t.x.2.2.2.2.1) (r:=t.x.2.2.2.2.2) (zoJ j) j.hn j.hi j.hj;have B:ych p.w p.n p.i p.j t.x.1 t.x.2.1 t.x.2.2.1 t.x.2.2.2.1 t.x.2.2.2.2.1 t.x.2.2.2.2.2=ex6 p t.x:=rfl;rw[B]at o;unfold Tm.ok at l;unfold Tm.lf at w;let#[d,f,g,u]:=zjA k j y (a0:=a0) (a7:=AA (.int v)) (a8:=AA (.int t.f)) (a9:=AA (yaJ t.x)) (a10:=AA (.tup (t.ts.map Th.pv))) t.ts z.s (t.f*2^(ex6 p t.x).toNat) (AA (.int (ex6 p t.x))) u13 u14;refine#[d,AA (.int (t.wo p)),f,g,?_];have C:tsW p t.ts (t.f*2^(ex6 p t.x).toNat)=t.wo p:=rfl;rw[C]at u;generalize ex6 p t.x=E at *;erw[bd2,AL,IA]at l;have D:yw .shl (.int 1) (.int E)=AA (.int (2^E.toNat)):=by erw[yw,binI];rw[ID #[l.1,(),by decide],EL]
 have G:yw .mul (.int t.f) (.int (2^E.toNat))=AA (.int (t.f*2^E.toNat)):=by
  rcases w with h|h
  .exact zaF h
  .refine zA ?_;have H:(2:Hz)^E.toNat<=1152921504606846976:=zb6 (b:=60) ();have I:(0:Hz)<2^E.toNat:=Bd ⋯;show ((2:Hz)^E.toNat).natAbs<_;lia
 rw[A];erw[PV.tup,yaJ]at u o;simp! [yaJ,o,D,G,IC.seqOf,u];rw[zjN (x:=.int v) rfl];rfl
def zeQ(k:Hy)(r:p.Ok)(u:st[L]?=AA (.dct AD p.kvs)){a0:Option PV}:∀(tt:Hx Tm),(∀t∈tt,t.fine p/\t.lf p)->okS p tt=AD->∀(v:Hz) (u8 u9 u10 u11 u12 u13 u14:Option PV),∃j v9 a b c d f,
  yaz (yc T (k+1)) (.t [8,9,10]) ltO (tt.map Tm.pv) [a0,AA (.tup [.int p.w,.int p.n]),AA (.int p.i),AA (.int p.j),AA (.loc L),AA (.int p.mq),AA (.int (2^p.w.toNat)),AA (.int v),u8,u9,u10,u11,u12,u13,u14] st =
   .nx [a0,AA (.tup [.int p.w,.int p.n]),AA (.int p.i),AA (.int p.j),AA (.loc L),AA (.int p.mq),AA (.int (2^p.w.toNat)),AA (.int (v+tot p tt)),j,v9,a,b,c,d,f] st
 |[],_,_,v,u8,u9,u10,u11,u12,u13,u14=>#[u8,u9,u10,u11,u12,u13,u14,by rw[tot,Hz.add_zero];rfl]
 |t::tt,l,g,v,u8,u9,u10,u11,u12,u13,u14=>by unfold okS at g;rw[Aq,AL]at g;let#[m,n,o,q,w]:=zjP k r u (l t AO).1 (l t AO).2 g.1 (v:=v) (a0:=a0) (u11:=u11) (u12:=u12) (u13:=u13) (u14:=u14);let#[j,v9,a,b,c,d,f,e]:=zeQ k r u (a0:=a0) tt (λt h=>l t (AM _ h)) g.2 (v+t.wo p) (AA (.int t.f)) (AA (yaJ t.x)) (AA (.tup (t.ts.map Th.pv))) m n o q;refine#[j,v9,a,b,c,d,f,?_];rw[AN,zl (U1:=[a0,AA (.tup [.int p.w,.int p.n]),AA (.int p.i),AA (.int p.j),AA (.loc L),AA (.int p.mq),AA (.int (2^p.w.toNat)),AA (.int v),AA (.int t.f),AA (yaJ t.x),AA (.tup (t.ts.map Th.pv)),u11,u12,u13,u14]) rfl,w,tot,<-HH];erw[yS];exact e
def zgf(k:Hy)(a:p.Ok)(c:st[L]?=AA (.dct AD p.kvs)){tt:Hx Tm}(d:∀t∈tt,t.fine p/\t.lf p)(f:okS p tt=AD):
  yc T (k+2) yi2 [.tup (tt.map Tm.pv),.tup [.int p.w,.int p.n],.int p.i,.int p.j,.loc L,.int p.mq] st=.ok (.int (tot p tt)) st:=by rw[zj (show T yi2=AA yaj from rfl) rfl rfl];have g:yaj.body=.cons (.asg (.n 6) (.call 63 (.cons (.idx (.var 1) (.cst (.int 0))) .nil))) (.cons (.asg (.n 7) (.cst (.int 0))) (.cons (.for (.t [8,9,10]) (.seq (.var 0)) ltO) (.cons (.ret (.var 7)) .nil))):=rfl;have b:=λst=>zfd k p.w.toNat (by have:=a.w1;lia) st;rw[Cu a.w0]at b;let#[r,v9,j,l,m,o,q,e]:=zeQ k a c (a0:=AA (.tup (tt.map Tm.pv))) tt d f 0 AF AF AF AF AF AF AF;rw[Hz.zero_add]at e;rw[g];erw[PV.tup]at e;simp! [yaj,ix0,b,IC.seqOf,e,zak]
def zeo(k:Hy)(c:p.Ok)(g:st[L]?=AA (.dct AD p.kvs)){tt:Hx Tm}(d:∀t∈tt,t.fine p/\t.lf p):
  yc T (k+4) yh1 [.tup (tt.map Tm.pv),.tup [.int p.w,.int p.n],.int p.i,.int p.j,.loc L,.int p.mq] st=.ok (.bl (due p tt)) st:=by
 rw[zj (show T yh1=AA yU from rfl) rfl rfl];have a:=λst=>stands k c (λt h=>(d t h).1) (tt:=tt) st;have j:yU.body=.cons (.ite (.not (.call 71 (.cons (.var 0) (.cons (.idx (.var 1) (.cst (.int 0))) (.cons (.idx (.var 1) (.cst (.int 1))) (.cons (.var 2) (.cons (.var 3) .nil))))))) (.cons (.ret (.cst (.bl AC))) .nil) .nil) (.cons (.ret (.cmp .eq (.call 73 (.cons (.var 0) (.cons (.var 1) (.cons (.var 2) (.cons (.var 3) (.cons (.var 4) (.cons (.var 5) .nil))))))) (.cst (.int 0)))) .nil):=rfl;rw[j];unfold due
 cases b:okS p tt with
 |false=>
  rw[b]at a;erw[PV.tup]at a;simp! [yU,ix0,ix1,a,zak,B9]
 |true=>
  rw[b]at a;have f:=zgf (k+1) c g d b;erw[PV.tup]at a f;simp! [yU,ix0,ix1,a,f,zak,Az];rfl
end
local macro_rules | `(tactic| simp! [$xs,*])=>do
 let l<-("IC.xs_conS IC.kS1 IC.kS2 IC.kS3 IC.kS4 IC.kS5 IC.xs_nil IC.x_asg IC.x_iteS IC.kI1 IC.kI2 IC.kJ1 IC.kJ2 IC.x_ret IC.x_expr IC.x_for IC.x_six IC.evs_n IC.evs_c IC.kA1 IC.kA2 IC.kB1 IC.kB2 IC.evi IC.ve1 IC.ve2 IC.ve3S IC.kX1 IC.kX2 IC.kY1 IC.kY2 IC.ve4 IC.ve5 IC.ve6S IC.kN1 IC.kN2 IC.ve7S IC.kO1 IC.kO2 IC.ve8S IC.ve9 IC.ve10S IC.kE1 IC.kF1 IC.kF2 IC.ve11 IC.ve12 IC.ve13 IC.ve15 IC.ve16S IC.ve17 IC.ve18 IC.ve19 IC.ve20S IC.kM1 IC.kP1 IC.ve21 IC.ve24 IC.ve25 IC.ve28 IC.ve32 IC.vi1 IC.ve29 IC.ve33 IC.ve37 IC.v_comp List.getElem?_cons_zero List.getElem?_cons_succ WK.bd_ok WK.fl_ok WK.bd_exc WK.fl_exc WK.toR_some IC.toL WK.bT_n WK.nxO_some WK.th_nx WK.th_rt WK.th_exc List.set_cons_zero List.set_cons_succ WK.on_t WK.t_bl WK.ono IC.onBl cond_true cond_false List.length_cons List.length_nil Nat.zero_add Nat.reduceAdd Nat.reduceSub Nat.reduceLeDiff if_true IC.nL IC.nLs WK.noLocs_ints Bool.and_self Bool.not_true Bool.not_false List.map_cons List.map_nil List.replicate List.cons_append List.nil_append List.append_nil Option.bind_none Option.bind_some Option.join_some WK.b_add WK.b_sub WK.b_mul2 WK.b_div2 WK.c_lt WK.c_le WK.c_gt WK.c_ge WK.c_eq WK.c_ne IC.PV.tup IC.sizeMax".splitOn " ").toArray.mapM λs=>`(Lean.Parser.Tactic.simpLemma| $(Lean.mkIdent s.toName):term)
 `(tactic| simp only[$l,*,$xs,*])
def zj7{X:Fl}{v st}(h:ybT [] X=.ok v []):ybT st X=.ok v st:=by
 cases X with
 |rt u s=>
  erw[ybT]at h ⊢
  by_cases c:nL u=AD
  .rw[ID c]at h ⊢;cases h;rfl
  .rw[IE c]at h;cases h
 |nx U s=>erw[ybT]at h ⊢;cases h;rfl
 |_=>cases h
def zos{k f:Hy}{fn}{args:Hx PV}{v}(a:T f=AA fn)(b:fn.pure=AD)(c:args.length=fn.np)(d:nLs args=AD)(h:yc T (k+1) f args []=.ok v [])(j:Hy)(st:SO):yc T (k+1+j) f args st=.ok v st:=by refine zc3 ?_ j;rw[zh a b c d]at h ⊢;exact zj7 h
abbrev Q:=AT×Hz
abbrev Kv:=Hx (PV×PV)
def kq(q:Q):PV:=.tup [.str q.1,.int q.2]
def tq(q:Q):PV:=.tup [.str q.1,q4 (q.2,0,0,0)]
def ku(q:Q)(v:Hz)(c:Kv):Kv:=put (kq q) (.int v) c
abbrev gq(c:Kv)(q:Q):Hz:=gv c q.1 q.2
def zlc{W v:Hz}{q c}(h:yak W c)(d:0<=v)(f:v<W):yak W (ku q v c):=λp b=>by
 unfold ku put at b;split at b
 .let#[a,j,rfl]:=Dn.1 b;let#[l,x,y,rfl,g]:=h a j;split
  .exact#[l,x,v,rfl,d,f]
  .exact#[l,x,y,rfl,g]
 .rcases Aw.1 b with b|b
  .exact h p b
  .rw[As.1 b];exact#[_,_,_,rfl,d,f]
def zfe{q}{v:Hz}{c}:(ku q v c).length<=c.length+1:=zjV
def zn3{q:Q}(h:ltr q.1):isKey AD (kq q)=true:=by show (q.1.cps.all (· < 0x110000)&&(AD&&AD))=AD;rw[h];rfl
section
variable {st:SO}{L:Hy}{c:Kv}{q:Q}
def zoK{W:Hz}(a:ltr q.1)(b:yak W c)(h:st[L]?=AA (.dct AD c)):ycq st (.loc L) (kq q) (.int 0)=.ok (.int (gq c q)) st:=zoB a b h
def zot{v:Hz}(a:ltr q.1)(h:st[L]?=AA (.dct AD c))(b:c.length<1000000):ybc st (.loc L) (kq q) (.int v)=AA (st.set L (.dct AD (ku q v c))):=by erw[ybc,h];rw[ID #[zn3 a,b]];rfl
end
inductive Rt where
 |mark (d:Hz)|set (q:Q) (d:Hz)|twice (q r:Q)
abbrev ybh:Str:=AE "row"
abbrev ybj:Str:=AE "rounds"
abbrev ydF:Str:=AE "asked"
abbrev sSt:Str:=AE "set"
abbrev ya5:Str:=AE "twice"
def Rt.pv:Rt->PV
 |.mark d=>.tup [.str yaN,.int d]
 |.set q d=>.tup [.str sSt,kq q,.int d]
 |.twice q r=>.tup [.str ya5,kq q,kq r]
def Rt.told:Rt->PV
 |.mark d=>.tup [.str yaN,.int d]
 |.set q d=>.tup [.str sSt,tq q,.int d]
 |.twice q r=>.tup [.str ya5,tq q,tq r]
abbrev Ms:=Kv×Hz
def yai(W:Hz):Rt->Ms->Ms
 |.mark d,s=>(s.1,d)
 |.set q d,s=>(ku q d s.1,s.2)
 |.twice q r,s=>(ku q ((2*gq s.1 r+s.2)%W) s.1,(2*gq s.1 r+s.2)/W)
abbrev ql(l:IU)(i:Hz):Q:=(AE l,i)
def rts:Hx Rt:=[.mark 0,.mark 1,.twice (ql "c" 0) (ql "c" 0),.twice (ql "c" 1) (ql "c" 1),.set (ql "d" 0) 1,.twice (ql "d" 0) (ql "d" 0),.set (ql "c" 0) 0,.set (ql "c" 0) 1,.set (ql "f" 0) 1,.set (ql "g" 0) 1]
def zib:(rts.all λr=>isOk (yc T 10 yhR [r.told] []) (.bl AD))=true:=∅
def zkD:(rts.all λr=>isOk (yc T 10 yhQ [r.pv] []) (.bl AD))=true:=∅
def Rt.fine:Rt->Prop
 |.mark d=>0<=d/\d<=1
 |.set q d=>ltr q.1/\0<=d/\d<=1
 |.twice q r=>ltr q.1/\ltr r.1
structure ROk(r:Rt):Prop where
 f:r.fine
 t:∀(j:Hy) (st:SO),yc T (10+j) yhR [r.told] st=.ok (.bl AD) st
 w:∀(j:Hy) (st:SO),yc T (10+j) yhQ [r.pv] st=.ok (.bl AD) st
def zco(r:Rt):nL r.told=true:=by cases r<;>rfl
def zic(r:Rt):nL r.pv=true:=by cases r<;>rfl
def zeS:ltr (AE "c")/\ltr (AE "d")/\ltr (AE "f")/\ltr (AE "g")/\ltr (AE "a"):=by unfold ltr;decide +kernel
def zar:∀r∈rts,ROk r:=λr h=>by refine#[?_,λj st=>zos (show T yhR=AA yhN from rfl) rfl rfl (by simp[nLs,zco]) (zdc (BA.1 zib r h)) j st,λj st=>zos (show T yhQ=AA yhM from rfl) rfl rfl (by simp[nLs,zic]) (zdc (BA.1 zkD r h)) j st];let#[a,b,hf,c,_]:=zeS;erw[rts,AV,A9,II]at h;rcases h with rfl|rfl|rfl|rfl|rfl|rfl|rfl|rfl|rfl|rfl<;>simp[Rt.fine,a,b,hf,c]
theorem whole(k:Hy){i a b:Hz}(c:a<=i)(d:i<=b)(s:SO):yc T (k+1) yhP [.int i,.int a,.int b] s=.ok (.bl AD) s:=by have f:ybe (.int i) [.int]=AA (.bl AD):=rfl;have g:ybe (.int i) [.bool]=AA (.bl AC):=rfl;have j:decide (a<=i)=true:=IQ c;have l:decide (i<=b)=true:=IQ d;rw[zh (show T yhP=AA ye4 from rfl) rfl rfl rfl];simp! [ye4,f,g,j,l];rfl
abbrev tr:PV->PV:=λ_=>.bl AD
def ze3(xs:Hx PV)(st):yah .all st [.lst (xs.map tr)]=AA (.bl AD):=by
 have:=zjB (λ_=>AD) xs st
 rwa [BA.2 λ_ _=>rfl]at this
def za4{k xs}:ybe (.tp k xs) [.tuple]=AA (.bl AD):=rfl
def zeR(k:Hy){xs:Hx Hz}{n:Hz}(c:n=xs.length)(p:xs.length<=1000)(h:∀x∈xs,x.natAbs<=200)(st:SO):yc T (k+2) yg8 [.tup (xs.map .int),.int n] st=.ok (.bl AD) st:=by
 subst c;rw[zh (show T yg8=AA ye5 from rfl) rfl rfl (by simp[nLs,nL,noLocs_ints])];have d:yQ (yc T (k+1)) [AF] (.n 0) (.cst (.bl AD)) (.call 0 (.cons (.var 0) (.cons (.neg (.cst yf)) (.cons (.cst yf) .nil)))) (xs.map .int) []=.ok ((xs.map .int).map tr) []:=zab _ λx f=>by let#[i,g,rfl]:=Dn.1 f;have:=h i g;have e:=whole k (i:=i) (a:=-200) (b:=200) () () [];simp! [yaR,yf,IC.ve4,e]
 have j:∀st,yah .len st [.tp AC (xs.map .int)]=AA (.int xs.length):=λ_=>by rw[zgB,Aj]
 have l:(!((xs.length:Hz)==(xs.length:Hz)))=false:=by simp
 have m:=zK ((xs.map PV.int).map tr) (by simp;lia) [];have o:=ze3 (xs.map PV.int) [];generalize xs.map PV.int=q at *;simp! [ye5,za4,j,l,IC.seqOf,d,m,o];rfl
structure yez(t:Th):Prop where
 l:∀l lo hi,t=.sl l lo hi->(∀st,yc T 3 yi [.str l] st=.ok (.bl AD) st)/\ltr l
 b:∀l lo hi,t=.sl l lo hi->∀x∈[lo.1,lo.2.1,lo.2.2.1,lo.2.2.2,hi.1,hi.2.1,hi.2.2.1,hi.2.2.2],x.natAbs<=200
theorem thing(k:Hy){t}(h:yez t)(st:SO):yc T (k+4) yis [t.pv] st=.ok (.bl AD) st:=by
 let#[l,lo,f]:=t;have j:=(h.l _ _ _ rfl).1;have n:=h.b _ _ _ rfl;have j:∀st,yc T (k+3) yi [.str l] st=.ok (.bl AD) st:=λst=>by rw[HZ];exact zc3 (j st) k
 have o:∀st,yc T (k+3) yg8 [.tp AC [.int lo.1,.int lo.2.1,.int lo.2.2.1,.int lo.2.2.2],.int 4] st=.ok (.bl AD) st:=zeR (k+1) (xs:=[lo.1,lo.2.1,lo.2.2.1,lo.2.2.2]) rfl (by simp) λx g=>n x (by simp at g ⊢;rcases g with h|h|h|h<;>simp[h]);have p:∀st,yc T (k+3) yg8 [.tp AC [.int f.1,.int f.2.1,.int f.2.2.1,.int f.2.2.2],.int 4] st=.ok (.bl AD) st:=zeR (k+1) (xs:=[f.1,f.2.1,f.2.2.1,f.2.2.2]) rfl (by simp) λx g=>n x (by simp at g ⊢;rcases g with h|h|h|h<;>simp[h]);have m:=zjM;have s:yH .ne (.str yag) (.str yag)=AA (.bl AC):=by ac_rfl
 rw[zh (show T yis=AA yfa from rfl) rfl rfl rfl];have q:∀st a b c d,yah .len st [.tp AC [a,b,c,d]]=AA (.int 4):=λ_ _ _ _ _=>rfl;have z:((4:Hz)==0)=false:=rfl;have r:(!((4:Hz)==4))=false:=rfl;simp! [yfa,Th.pv,q4,za4,q,z,r,ix0,ix1,ix2,ix3,m,s,j,o,p];rfl
structure yca(t:Tm):Prop where
 f:t.f.natAbs<10000000000000000000000000000000000000000
 x:∀y∈[t.x.1,t.x.2.1,t.x.2.2.1,t.x.2.2.2.1,t.x.2.2.2.2.1,t.x.2.2.2.2.2],y.natAbs<=200
 s:∀h∈t.ts,yez h
 n:t.ts.length<=2
theorem things(k:Hy){a:Hx Th}(h:∀t∈a,yez t)(l:a.length<=2)(st:SO):yc T (k+5) yir [.tup (a.map Th.pv)] st=.ok (.bl AD) st:=by
 rw[zh (show T yir=AA ye9 from rfl) rfl rfl (by simp[nLs,nL,zcy])];have b:yQ (yc T (k+4)) [AF] (.n 0) (.cst (.bl AD)) (.call 17 (.cons (.var 0) .nil)) (a.map Th.pv) []=.ok ((a.map Th.pv).map tr) []:=zab _ λx d=>by let#[t,f,rfl]:=Dn.1 d;have e:=thing k (h t f) [];simp! [yaR,e]
 have c:decide ((a.map Th.pv).length<=(2:Hz))=true:=IQ (by rw[Aj];lia);have g:=zK ((a.map Th.pv).map tr) (by simp;lia) [];have j:=ze3 (a.map Th.pv) [];generalize a.map Th.pv=m at *;simp! [ye9,yh8,za4,zgB,c,IC.seqOf,b,g,j];rfl
theorem term(k:Hy){t}(h:yca t)(st:SO):yc T (k+6) yiq [t.pv] st=.ok (.bl AD) st:=by
 have g:=λst=>whole (k+4) (i:=t.f) (a:=-9999999999999999999999999999999999999999) (b:=9999999999999999999999999999999999999999) (by have:=h.f;lia) (by have:=h.f;lia) st;have d:=λst=>zeR (k+3) (xs:=[t.x.1,t.x.2.1,t.x.2.2.1,t.x.2.2.2.1,t.x.2.2.2.2.1,t.x.2.2.2.2.2]) (n:=6) rfl (by simp) h.x st;have f:=λst=>things k h.s h.n st;have j:(!((3:Hz)==3))=false:=rfl;have l:nLs [t.pv]=true:=by simp[nLs,zeA]
 have m:(1:Hz)-10000000000000000000000000000000000000000=-9999999999999999999999999999999999999999:=by decide
 have o:(10000000000000000000000000000000000000000:Hz)-1=9999999999999999999999999999999999999999:=by decide
 rw[zh (show T yiq=AA ye8 from rfl) rfl rfl l];erw[Tm.pv,yaJ,PV.tup,AN,Ay]at d f ⊢;generalize t.ts.map Th.pv=q at *;have p:∀st a b c,yah .len st [.tp AC [a,b,c]]=AA (.int 3):=λ_ _ _ _=>rfl;simp! [ye8,za4,p,j,bT3,yhr,m,o,g,d,f];rfl
theorem sentence(k:Hy){s:Hx Tm}(h:∀t∈s,yca t)(j:s.length<=20)(st:SO):yc T (k+7) yin [.tup (s.map Tm.pv)] st=.ok (.bl AD) st:=by
 rw[zh (show T yin=AA yl from rfl) rfl rfl (by simp[nLs,nL,zaI])];have a:yQ (yc T (k+6)) [AF] (.n 0) (.cst (.bl AD)) (.call 15 (.cons (.var 0) .nil)) (s.map Tm.pv) []=.ok ((s.map Tm.pv).map tr) []:=zab _ λx b=>by let#[t,d,rfl]:=Dn.1 b;have e:=term k (h t d) [];simp! [yaR,e]
 have c:decide ((s.map Tm.pv).length<=(20:Hz))=true:=IQ (by rw[Aj];lia);have f:=zK ((s.map Tm.pv).map tr) (by simp;lia) [];have g:=ze3 (s.map Tm.pv) [];generalize s.map Tm.pv=l at *;simp! [yl,yh7,za4,zgB,c,IC.seqOf,a,f,g];rfl
inductive Pt where
 |row (r:Rt)
 |rnd (c m t:Hz) (s:Hx Tm) (ps:Hx Pt)
abbrev sen(s:Hx Tm):PV:=.tup (s.map Tm.pv)
def Pt.pv:(d:Hy)->Pt->PV
 |_,.row r=>.tup [.str ybh,r.told]
 |d+1,.rnd c m t s a=>.tup [.str ybj,.tup [.int c,.int m,.int t],sen s,.tup (a.map (Pt.pv d))]
 |0,_=>.non
def Pt.ok:(d:Hy)->Pt->Prop
 |_,.row r=>ROk r
 |d+1,.rnd c m t s a=>(∀x∈[c,m,t],x.natAbs<=200)/\((∀t∈s,yca t)/\s.length<=20)/\a.length<=1000/\∀p∈a,Pt.ok d p
 |0,_=>IK
def zkv:∀(d:Hy)p,nL (Pt.pv d p)=AD
 |0,.row r=>by simp[Pt.pv,nL,nLs,zco]
 |0,.rnd _ _ _ _ _=>rfl
 |d+1,.row r=>by simp[Pt.pv,nL,nLs,zco]
 |d+1,.rnd c m t s a=>by
  have h:nLs (a.map (Pt.pv d))=true:=by
   clear c m t s
   induction a with
   |nil=>rfl
   |cons p a ih=>rw[AN,nLs,zkv d p,ih];rfl
  simp[Pt.pv,nL,nLs,zaI,h]
def zcD{d:Hy}:∀a:Hx Pt,nLs (a.map (Pt.pv d))=AD
 |[]=>rfl
 |p::a=>by rw[AN,nLs,zkv d p,zcD a];rfl
def zoq:yH .eq (.str ybh) (.str ybh)=AA (.bl AD):=by ac_rfl
def zou:yH .eq (.str ybj) (.str ybh)=AA (.bl AC):=by ac_rfl
def zod:yH .ne (.str ybj) (.str ybj)=AA (.bl AC):=by ac_rfl
def zpf{st}{a b:PV}:yah .len st [.tp AC [a,b]]=AA (.int 2):=rfl
def zpg{st}{a b c d:PV}:yah .len st [.tp AC [a,b,c,d]]=AA (.int 4):=rfl
def zcc(k:Hy)(d:Hz){r}(h:ROk r)(st:SO):yc T (11+k) yes [.tup [.str ybh,r.told],.int d] st=.ok (.bl AD) st:=by have e:=h.t k;have z:((2:Hz)==0)=false:=rfl;have a:((2:Hz)==2)=true:=rfl;have q:=zoq;rw[show 11+k=10+k+1 by lia,zh (show T yes=AA yc4 from rfl) rfl rfl (by simp[nLs,nL,zco])];generalize r.told=v at *;simp! [yc4,za4,zpf,z,a,ix0,ix1,q,e];rfl
def zbM(k:Hy){d:Hy}{ps:Hx Pt}(j:ps.length<=1000)(h:∀p∈ps,yc T k yes [Pt.pv d p,.int d] []=.ok (.bl AD) [])(st:SO):yc T (k+1) yiE [.tup (ps.map (Pt.pv d)),.int d] st=.ok (.bl AD) st:=by
 rw[zh (show T yiE=AA yft from rfl) rfl rfl (by simp[nLs,nL,zcD])];have a:yQ (yc T k) [AF,AA (.int d)] (.n 0) (.cst (.bl AD)) (.call 31 (.cons (.var 0) (.cons (.var 1) .nil))) (ps.map (Pt.pv d)) []=.ok ((ps.map (Pt.pv d)).map tr) []:=zab _ λx b=>by let#[p,c,rfl]:=Dn.1 b;have e:=h p c;simp! [yaR,e]
 have f:=zK ((ps.map (Pt.pv d)).map tr) (by simp;lia) [];have g:=ze3 (ps.map (Pt.pv d)) [];generalize ps.map (Pt.pv d)=l at *;simp! [yft,za4,IC.seqOf,a,f,g];rfl
def zhH:∀(d:Hy) (k:Hy) (p:Pt),Pt.ok d p->∀st,yc T (11+2*d+k) yes [Pt.pv d p,.int d] st=.ok (.bl AD) st
 |0,k,.row r,h,st=>zcc k _ h st
 |d+1,k,.row r,h,st=>by rw[show 11+2*(d+1)+k=11+(2*d+2+k)by lia];exact zcc _ _ h st
 |d+1,k,.rnd c m t s g,h,st=>by
  let#[l,j,o,u]:=h;have a:=λst=>zeR (10+2*d+k) (xs:=[c,m,t]) (n:=3) rfl (by simp) l st;have b:=λst=>sentence (5+2*d+k) j.1 j.2 st;have f:=zbM (11+2*d+k) o λp w=>zhH d k p (u p w) [];have z:((4:Hz)==0)=false:=rfl;have x:(!((4:Hz)==4))=false:=rfl;have y:(((d+1:Hy):Hz)==0)=false:=by rw[IH];lia
  have A:((d+1:Hy):Hz)-1=d:=()
  have q:=zou;have B:=zod;have C:nLs [Pt.pv (d+1) (.rnd c m t s g),.int (d+1:Hy)]=true:=by simp[nLs,nL,zkv]
  rw[show 11+2*(d+1)+k=12+2*d+k+1 by lia,zh (show T yes=AA yc4 from rfl) rfl rfl C];rw[show 10+2*d+k+2=12+2*d+k by lia]at a;rw[show 5+2*d+k+7=12+2*d+k by lia]at b;rw[show 11+2*d+k+1=12+2*d+k by lia]at f;erw[Pt.pv,sen,PV.tup,AN,Ay]at a b f ⊢;generalize s.map Tm.pv=E,g.map (Pt.pv d)=G,((d+1:Hy):Hz)=D at *;simp! [yc4,za4,zpg,z,x,y,A,ix0,ix1,ix2,ix3,q,B,a,b,f];rfl
def zfG(k:Hy){ps:Hx Pt}(a:ps.length<=1000)(h:∀p∈ps,Pt.ok 2 p)(st:SO):yc T (17+k) yiC [.tup (ps.map (Pt.pv 2))] st=.ok (.bl AD) st:=by have e:=zbM (15+k) a (λp b=>zhH 2 k p (h p b) []) [];rw[show 17+k=16+k+1 by lia,zh (show T yiC=AA yfd from rfl) rfl rfl (by simp[nLs,nL,zcD])];rw[show 15+k+1=16+k by lia]at e;erw[PV.tup]at e ⊢;generalize ps.map (Pt.pv 2)=c at *;have e:yc T (16+k) 30 [.tp AC c,.int 2] []=.ok (.bl AD) []:=e;simp! [yfd,yh3,e];rfl
inductive Stq where
 |row (r:Rt)|ask (s:Hx Tm) (i j:Hz)
def Stq.pv:Stq->PV
 |.row r=>.tup [.str ybh,r.pv]
 |.ask s i j=>.tup [.str ydF,sen s,.int i,.int j]
def Stq.isR:Stq->IB
 |.row _=>AD
 |_=>AC
def upTo{A:Type}(f:Hy->Hx A):Hy->Hx A
 |0=>[]
 |n+1=>upTo f n++f n
def zdj{A:Type}(g:A->IB)(f:Hy->Hx A){i:Hy}:∀n,i<=n->(upTo f i).countP g<=(upTo f n).countP g
 |0,h=>by rw[show i=0 by lia];exact AS _
 |n+1,h=>by
  rcases C9 i (n+1)with a|a
  .rw[upTo,CN];exact BW (zdj g f n ()) (Cp _ _)
  .rw[show i=n+1 by lia];exact AS _
def cnt(c m t w n:Hz):Hy:=(c+m*n+t*w*n).toNat
def yaw(s:Hx Tm)(G:Hx Hz):Stq:=.ask s (G.headD 0) (G.tail.headD 0)
def Pt.steps(w n:Hz):(d:Hy)->Pt->Hx Hz->Hx Stq
 |_,.row r,_=>[.row r]
 |d+1,.rnd c m t s a,G=>upTo (λJ=>yaw s (G++[(J:Hz)])::a.flatMap λp=>Pt.steps w n d p (G++[(J:Hz)])) (cnt c m t w n)++[yaw s (G++[(cnt c m t w n:Hz)])]
 |0,_,_=>[]
def Pt.rd(w n:Hz):(d:Hy)->Pt->Hy
 |d+1,.rnd c m t _ a=>cnt c m t w n*(1+(a.map (Pt.rd w n d)).sum)
 |_,_=>0
abbrev nR(l:Hx Stq):Hy:=l.countP Stq.isR
abbrev cU:Hy:=21
abbrev uw:Str:=AE "w"
abbrev uN:Str:=AE "n"
abbrev ust:Str:=AE "steps"
abbrev urw:Str:=AE "rows"
abbrev urd:Str:=AE "rounds"
abbrev ufs(w n:Hz)(l:Hy)(r q:Hz):Hx (AT×PV):=[(uw,.int w),(uN,.int n),(ust,.loc l),(urw,.int r),(urd,.int q)]
def uob(w n:Hz)(l:Hy)(r q:Hz):Ob:=.ins cU (ufs w n l r q)
structure UM(st:SO)(u l:Hy)(w n r q:Hz)(xs:Hx PV):Prop where
 o:st[u]?=AA (uob w n l r q)
 d:st[l]?=AA (.lst xs)
 ne:u≠l
section
variable {st:SO}{u l:Hy}{w n r q:Hz}{xs:Hx PV}
def zok{st:SO}{n:Hy}{o a}(h:st[n]?=AA o):(st.set n a)[n]?=AA a:=by
 have b:n<st.length:=by
  rcases C9 n st.length with z|z
  .exact z
  .rw[BE z]at h;cases h
 exact Ac b
theorem UM.fw(h:UM st u l w n r q xs):yax cU st (.loc u) uw=AA (.int w):=by erw[yax,h.o,uob,IF];ac_rfl
theorem UM.fn(h:UM st u l w n r q xs):yax cU st (.loc u) uN=AA (.int n):=by erw[yax,h.o,uob,IF];ac_rfl
theorem UM.fs(h:UM st u l w n r q xs):yax cU st (.loc u) ust=AA (.loc l):=by erw[yax,h.o,uob,IF];ac_rfl
theorem UM.fr(h:UM st u l w n r q xs):yax cU st (.loc u) urw=AA (.int r):=by erw[yax,h.o,uob,IF];ac_rfl
theorem UM.fq(h:UM st u l w n r q xs):yax cU st (.loc u) urd=AA (.int q):=by erw[yax,h.o,uob,IF];ac_rfl
theorem UM.sr(h:UM st u l w n r q xs)(v:Hz):yaX cU st (.loc u) urw (.int v)=AA (st.set u (uob w n l v q))/\UM (st.set u (uob w n l v q)) u l w n v q xs:=by refine#[?_,zok h.o,by rw[AZ h.ne];exact h.d,h.ne];erw[yaX,h.o,uob];rw[ID #[trivial,by simp],show ybD urw (.int v) (ufs w n l r q)=ufs w n l v q by ac_rfl]
theorem UM.sq(h:UM st u l w n r q xs)(v:Hz):yaX cU st (.loc u) urd (.int v)=AA (st.set u (uob w n l r v))/\UM (st.set u (uob w n l r v)) u l w n r v xs:=by refine#[?_,zok h.o,by rw[AZ h.ne];exact h.d,h.ne];erw[yaX,h.o,uob];rw[ID #[trivial,by simp],show ybD urd (.int v) (ufs w n l r q)=ufs w n l r v by ac_rfl]
theorem UM.ap(h:UM st u l w n r q xs)(a:xs.length<1000000)(v:PV):yaL .append st (.loc l) [v]=.ok .non (st.set l (.lst (xs++[v])))/\UM (st.set l (.lst (xs++[v]))) u l w n r q (xs++[v]):=by refine#[?_,by rw[AZ (BI h.ne)];exact h.o,zok h.d,h.ne];unfold yaL;erw[ycN,h.d];rw[ID a]
theorem UM.ok(h:UM st u l w n r q xs):yL .append st (.loc l)=AA true:=by simp[yL,yJ,h.d]
def zfV{c:Hy}{fs}{x:AT}(h:st[u]?=AA (.ins c fs))(a:(fs.map (·.1)).all (· != x)=AD):ybS c x st (.loc u)=AA true:=by
 have e:fs.lookup x=none:=by rw[Hx.lookup_eq_none_iff];intro p b;have:=BA.1 a p.1 (Hx.mem_map_of_mem b);rw[Ib]at this;exact Ib.2 (BI this)
 erw[ybS,h];rw[ID #[trivial,e]]
theorem UM.ins(h:UM st u l w n r q xs)(x:AT)(a:([uw,uN,ust,urw,urd].all (· != x))=true:=by decide +kernel):ybS cU x st (.loc u)=AA true:=zfV h.o a
def zf2(k:Hy)(h:UM st u l w n r q xs)(j:q+1<=4000):∃s,yc T (k+1) yiA [.loc u] st=.ok .non s/\UM s u l w n r (q+1) xs:=by let#[d,a]:=h.sq (q+1);have c:decide (q+1 > 4000)=false:=IJ ();have b:yh5=.int 4000:=rfl;refine#[_,?_,a];rw[zj (show T yiA=AA yy from rfl) rfl rfl];have f:=h.fq;have g:=a.fq;simp! [yy,f,zg3,d,zx,g,b,c,zak];rfl
def zdY(k:Hy):∀(G:Hx Hz),G.length<=2->∀s:SO,yc T (k+1) yhk [.tp AC (G.map .int)] s=.ok (.tp AC [.int (G.headD 0),.int (G.tail.headD 0)]) s
 |[],_,s=>by rw[zh (show T yhk=AA ydK from rfl) rfl rfl rfl];rfl
 |[a],_,s=>by rw[zh (show T yhk=AA ydK from rfl) rfl rfl rfl];rfl
 |[a,b],_,s=>by rw[zh (show T yhk=AA ydK from rfl) rfl rfl rfl];rfl
theorem bT2{i j:Hy}{a b:PV}{U:IC.Env}:yC (.t [i,j]) (.tp AC [a,b]) U=AA ((U.set i (AA a)).set j (AA b)):=rfl
def zdz(k:Hy)(h:UM st u l w n r q xs)(d:xs.length<1000000)(s)(G:Hx Hz)(f:G.length<=2):∃b,yc T (k+2) yiB [.loc u,sen s,.tp AC (G.map .int)] st=.ok .non b/\UM b u l w n r q (xs++[(yaw s G).pv]):=by have g:=zdY k G f st;let#[a,c]:=h.ap d (yaw s G).pv;have j:(yaw s G).pv=.tp AC [.str ydF,sen s,.int (G.headD 0),.int (G.tail.headD 0)]:=rfl;rw[j]at a c ⊢;refine#[_,?_,c];rw[zj (show T yiB=AA yz from rfl) rfl rfl];have m:=h.fs;have o:=h.ok;generalize PV.tp AC (G.map .int)=gv,sen s=p at *;simp! [yz,g,bT2,m,o,a,zak];rfl
def zil(k:Hy)(h:UM st u l w n r q xs){c m t:Hz}(o:m.natAbs<=200)(p:t.natAbs<=200)(x:0<=n)(y:n<=8):yc T (k+1) yiy [.loc u,.tup [.int c,.int m,.int t]] st=.ok (.int (c+m*n+t*w*n)) st:=by have a:=zaF (i:=m) (j:=n) ();have b:=zaF (i:=t) (j:=w) ();have d:=zA (i:=t*w) (j:=n) ();rw[zj (show T yiy=AA yn from rfl) rfl rfl];have f:=h.fw;have g:=h.fn;simp! [yn,bT3,f,g,a,b,d,zak]
def els:Rt->Hx (PV×PV)
 |.mark d=>[(.str yaN,.str yaN),(.int d,.int d)]
 |.set q d=>[(.str sSt,.str sSt),(tq q,kq q),(.int d,.int d)]
 |.twice q r=>[(.str ya5,.str ya5),(tq q,kq q),(tq r,kq r)]
def zid(r:Rt):r.told=.tp AC ((els r).map (·.1)):=by cases r<;>rfl
def zi1(r:Rt):r.pv=.tp AC ((els r).map (·.2)):=by cases r<;>rfl
theorem placed(k:Hy){n I J:Hz}(m:big n)(o:big I)(p:big J){r}{x:PV×PV}(g:x∈els r)(s:SO):yc T (k+2) ybF [x.1,.int n,.int I,.int J] s=.ok x.2 s:=by
 have j:∀a:AT,yc T (k+2) ybF [.str a,.int n,.int I,.int J] s=.ok (.str a) s:=λa=>by rw[zh (show T ybF=AA ybt from rfl) rfl rfl rfl];have f:ybe (.str a) [.tuple]=AA (.bl AC):=rfl;simp! [ybt,f];rfl
 have f:∀a:Hz,yc T (k+2) ybF [.int a,.int n,.int I,.int J] s=.ok (.int a) s:=λa=>by rw[zh (show T ybF=AA ybt from rfl) rfl rfl rfl];have f:ybe (.int a) [.tuple]=AA (.bl AC):=rfl;simp! [ybt,f];rfl
 have l:∀q:Q,yc T (k+2) ybF [tq q,.int n,.int I,.int J] s=.ok (kq q) s:=λq=>by
  rw[zh (show T ybF=AA ybt from rfl) rfl rfl rfl];have e:=λs=>zdd k (a:=q.2) (b:=0) (c:=0) (d:=0) m o p s;have z:q.2+0*I+0*J+0*n=q.2:=by simp
  erw[z,PV.tup]at e;simp! [ybt,tq,q4,kq,za4,ix0,ix1,e];rfl
 cases r<;>erw[els,AV,A9,II]at g
 .rcases g with rfl|rfl
  .exact j _
  .exact f _
 .rcases g with rfl|rfl|rfl
  .exact j _
  .exact l _
  .exact f _
 .rcases g with rfl|rfl|rfl
  .exact j _
  .exact l _
  .exact l _
def zfc{c U0 t b e}:∀(ps:Hx (PV×PV)),(∀x∈ps,yaR c U0 t b e x.1 st=.ok (AA x.2) st)->yQ c U0 t b e (ps.map (·.1)) st=.ok (ps.map (·.2)) st
 |[],_=>zdU
 |x::xs,h=>by rw[AN,zH,h x AO,bd_ok,zfc xs λy a=>h y (AM _ a),bd_ok];rfl
def zkx(k:Hy)(h:UM st u l w n r q xs)(g:xs.length<1000000)(Z:r+1<=4000){v}(z:ROk v){G:Hx Hz}(A:G.length<=2)(B:big n)(p:∀x∈G,big x):
  ∃s,yc T (11+k) yiz [.loc u,v.told,.tp AC (G.map .int)] st=.ok .non s/\UM s u l w n (r+1) q (xs++[(Stq.row v).pv]):=by
 have t:=zdY (9+k) G A st;have j:big (0:Hz):=by decide
 have C:big (G.headD 0):=by cases G with
  |nil=>exact j
  |cons a _=>exact p a AO
 have D:big (G.tail.headD 0):=by
  rcases G with _|⟨a,_|⟨b,_⟩⟩
  .exact j
  .exact j
  .exact p b (by simp)
 generalize G.headD 0=I,G.tail.headD 0=J at *;have E:yQ (yc T (10+k)) [AF,AA (.int I),AA (.int J),AA (.loc u)] (.n 0) (.cst (.bl AD)) (.call 33 (.cons (.var 0) (.cons (.fld 21 (.var 3) (AE "n")) (.cons (.var 1) (.cons (.var 2) .nil))))) ((els v).map (·.1)) st=.ok ((els v).map (·.2)) st:=zfc _ λx g=>by have e:=placed (8+k) B C D g st;rw[show 8+k+2=10+k by lia]at e;have m:=h.fn;simp! [yaR,m,e]
 let#[d,f]:=h.sr (r+1);have H:(Stq.row v).pv=.tp AC [.str ybh,.tp AC ((els v).map (·.2))]:=by rw[<-zi1];rfl
 have y:=z.w k;rw[zi1]at y;rw[H,zid];let#[b,L]:=f.ap g (.tp AC [.str ybh,.tp AC ((els v).map (·.2))]);have M:∀st,yah .tuple st [.lst ((els v).map (·.2))]=AA (.tp AC ((els v).map (·.2))):=λ_=>rfl;have c:decide (r+1 > 4000)=false:=IJ ();have N:yh6=.int 4000:=rfl;have m:=h.fr;have O:=f.fr;have U:=f.fs;have o:=f.ok;have X:=λst=>zK ((els v).map (·.2)) (by cases v<;>simp[els]) st;refine#[_,?_,L];rw[show 11+k=10+k+1 by lia];rw[zj (show T yiz=AA yv from rfl) rfl rfl];rw[show 9+k+1=10+k by lia]at t;generalize PV.tp AC (G.map .int)=gv,(els v).map (·.2)=row,(els v).map (·.1)=Y at *;simp! [yv,t,bT2,IC.seqOf,E,X,M,m,zg3,d,zx,y,O,N,c,U,o,b,zak];rfl
end
def gpB:Css:=match yh.body with
 |.cons (.for _ _ b) _=>b
 |x=>x
def grB:Css:=match yo.body with
 |.cons _ (.cons (.for _ _ b) _)=>b
 |x=>x
def zoL:∀(G:Hx Hz),G.length<=1->∀J:Hz,yw .add (.tp AC (G.map .int)) (.tp AC [.int J])=AA (.tp AC ((G++[J]).map .int))
 |[],_,J=>rfl
 |[a],_,J=>rfl
def zee(z:Hz)(s):yah .max s [.int 0,.int z]=AA (.int ((z.toNat:Hy):Hz)):=by
 show AA (PV.int (if 0<z then z else 0))=_;split
 .rw[Cu ()]
 .rw[show z.toNat=0 by lia];rfl
section
variable {u l:Hy}{w n:Hz}
abbrev pss(d:Hy)(ps:Hx Pt):PV:=.tup (ps.map (Pt.pv d))
abbrev stp(w n:Hz)(d:Hy)(ps:Hx Pt)(G:Hx Hz):Hx Stq:=ps.flatMap λp=>Pt.steps w n d p G
abbrev rds(w n:Hz)(d:Hy)(ps:Hx Pt):Hy:=(ps.map (Pt.rd w n d)).sum
def BodyOk(u l:Hy)(w n:Hz)(d k:Hy):Prop:=
 ∀(p:Pt) (G:Hx Hz) (st:SO) (a:Hx PV) (r q:Hz) (b:Option PV),Pt.ok d p->G.length+d<=2->(∀x∈G,big x)->UM st u l w n r q a->0<=q->r+nR (Pt.steps w n d p G)<=4000->q+Pt.rd w n d p<=4000->a.length+(Pt.steps w n d p G).length<1000000 ->
  ∃s,exs (yc T k) [AA (.loc u),b,AA (.tp AC (G.map .int)),AA (Pt.pv d p)] st gpB=.nx [AA (.loc u),b,AA (.tp AC (G.map .int)),AA (Pt.pv d p)] s/\UM s u l w n (r+nR (Pt.steps w n d p G)) (q+Pt.rd w n d p) (a++(Pt.steps w n d p G).map Stq.pv)
def zfM{d k:Hy}(c:BodyOk u l w n d k){G:Hx Hz}(f:G.length+d<=2)(g:∀x∈G,big x){p1:Option PV}:∀(ps:Hx Pt)st(xs:Hx PV)(r q:Hz)(p3:Option PV),(∀p∈ps,Pt.ok d p)->UM st u l w n r q xs->0<=q->r+nR (stp w n d ps G)<=4000->q+rds w n d ps<=4000->xs.length+(stp w n d ps G).length<1000000 ->
  ∃s b,yaz (yc T k) (.n 3) gpB (ps.map (Pt.pv d)) [AA (.loc u),p1,AA (.tp AC (G.map .int)),p3] st=.nx [AA (.loc u),p1,AA (.tp AC (G.map .int)),b] s/\UM s u l w n (r+nR (stp w n d ps G)) (q+rds w n d ps) (xs++(stp w n d ps G).map Stq.pv)
 |[],st,xs,r,q,p3,_,H,_,_,_,_=>#[st,p3,zw,by simpa [stp,rds,nR] using H]
 |p::ps,st,xs,r,q,p3,j,H,t,m,y,o=>by
  have z:stp w n d (p::ps) G=Pt.steps w n d p G++stp w n d ps G:=by simp[stp]
  have A:rds w n d (p::ps)=Pt.rd w n d p+rds w n d ps:=by simp[rds]
  rw[z]at m o ⊢;rw[A]at y ⊢;erw[nR,CN,A8]at m o;have B:0<=(rds w n d ps:Hz):=()
  let#[s,a,C]:=c p G st xs r q p1 (j p AO) f g H t (by erw[nR];lia) () ();let#[D,b,E,I]:=zfM c f g ps s _ _ _ (AA (Pt.pv d p)) (λq J=>j q (AM _ J)) C () (by erw[nR];lia) () (by erw[A8,Aj];lia);refine#[D,b,?_,?_]
  .rw[AN,zl (U1:=[AA (.loc u),p1,AA (.tp AC (G.map .int)),AA (Pt.pv d p)]) rfl,a];exact E
  .rw[Cb,<-EM,nR,CN];rw[show r+((FL Stq.isR (Pt.steps w n d p G)+FL Stq.isR (stp w n d ps G):Hy):Hz)=r+nR (Pt.steps w n d p G)+nR (stp w n d ps G)by erw[nR];lia,show q+((Pt.rd w n d p+rds w n d ps:Hy):Hz)=q+Pt.rd w n d p+rds w n d ps by lia];exact I
def zeY{d k:Hy}(b:BodyOk u l w n d k){G:Hx Hz}(c:G.length+d<=2)(f:∀x∈G,big x){ps:Hx Pt}{st xs}{r q:Hz}(g:∀p∈ps,Pt.ok d p)(H:UM st u l w n r q xs)(j:0<=q)(m:r+nR (stp w n d ps G)<=4000)(o:q+rds w n d ps<=4000)(y:xs.length+(stp w n d ps G).length<1000000):
  ∃s,yc T (k+1) yiw [.loc u,pss d ps,.tp AC (G.map .int)] st=.ok .non s/\UM s u l w n (r+nR (stp w n d ps G)) (q+rds w n d ps) (xs++(stp w n d ps G).map Stq.pv):=by
 let#[s,B,e,z]:=zfM b c f (p1:=AA (pss d ps)) ps st xs r q AF g H j m o y;refine#[s,?_,z];have A:T yiw=AA #[3,4,AC,yh.body]:=rfl
 have a:yh.body=(match yh.body with
  |.cons (.for t i _) r=>.cons (.for t i gpB) r
  |x=>x):=rfl
 rw[zj A rfl rfl];dsimp only;rw[a];erw[pss,PV.tup]at e ⊢;generalize ps.map (Pt.pv d)=C,PV.tp AC (G.map .int)=gv at *;simp! [yh,IC.seqOf,e];rfl
def zgI{d k:Hy}(y:BodyOk u l w n d (k+1)){G:Hx Hz}(E:G.length+(d+1)<=2)(z:∀x∈G,big x){ps:Hx Pt}(A:∀p∈ps,Pt.ok d p){s}{s0 cn:PV}{N:Hy}{xs:Hx PV}{r q:Hz}(f:Hy->Hx Stq)(hf:f=λ(J:Hy)=>yaw s (G++[(J:Hz)])::stp w n d ps (G++[(J:Hz)]))
  (I:r+nR (upTo f N)<=4000) (L:q+(N*(1+rds w n d ps):Hy)<=4000) (O:xs.length+(upTo f N).length<1000000) (U:N<=4000) (X:0<=q):∀(M j:Hy)st(p4:Option PV),j+M=N->UM st u l w n (r+nR (upTo f j)) (q+(j*(1+rds w n d ps):Hy)) (xs++(upTo f j).map Stq.pv) ->
  ∃B a,yaz (yc T (k+2)) (.n 4) grB (ye M (j:Hz) 1) [AA (.loc u),AA (.tp AC [s0,cn,sen s,pss d ps]),AA (.tp AC (G.map .int)),AA (.int N),p4] st=.nx [AA (.loc u),AA (.tp AC [s0,cn,sen s,pss d ps]),AA (.tp AC (G.map .int)),AA (.int N),a] B/\UM B u l w n (r+nR (upTo f N)) (q+(N*(1+rds w n d ps):Hy)) (xs++(upTo f N).map Stq.pv)
 |0,j,st,p4,Y,H=>by
  have:j=N:=()
  subst this;exact#[st,p4,by rw[ye];exact zw,H]
 |M+1,j,st,p4,Y,H=>by
  have Z:nR (upTo f (j+1))<=nR (upTo f N):=zdj _ f N ();have l2:(upTo f (j+1)).length<=(upTo f N).length:=by have:=zdj (λ_=>AD) f (i:=j+1) N ();simpa only[G1] using this
  have c:f j=yaw s (G++[(j:Hz)])::stp w n d ps (G++[(j:Hz)]):=by rw[hf]
  rw[upTo,c,nR,CN,DH (by simp[yaw,Stq.isR])]at Z;rw[upTo,c,A8,AQ]at l2;have m1:(j+1)*(1+rds w n d ps)<=N*(1+rds w n d ps):=Hy.mul_le_mul_right _ ();have n1:(j+1)*(1+rds w n d ps)=j*(1+rds w n d ps)+(1+rds w n d ps):=Ha _ _;have g:(G++[(j:Hz)]).length<=2:=by simp;lia
  have m:∀x∈G++[(j:Hz)],big x:=λx b=>by
   rcases Aw.1 b with b|b
   .exact z x b
   .rw[As.1 b];show (j:Hz).natAbs<_;lia
  let#[s1,e1,C]:=zdz k H (by erw[A8,Aj];lia) s (G++[(j:Hz)]) g;let#[s2,e2,D]:=zf2 (k+1) C ();let#[o,e3,t]:=zeY y (G:=G++[(j:Hz)]) (by simp;lia) m A D () (by erw[nR]at *;lia) () (by erw[A8,Aj,AQ,Ap];lia);have t:UM o u l w n (r+nR (upTo f (j+1))) (q+((j+1)*(1+rds w n d ps):Hy)) (xs++(upTo f (j+1)).map Stq.pv):=by
   rw[upTo,c,nR,CN,DH (by simp[yaw,Stq.isR]),n1,Cb,AN];have x1:q+((j*(1+rds w n d ps)+(1+rds w n d ps):Hy):Hz)=q+((j*(1+rds w n d ps):Hy):Hz)+1+(rds w n d ps:Hz):=()
   have x2:r+((FL Stq.isR (upTo f j)+FL Stq.isR (stp w n d ps (G++[(j:Hz)])):Hy):Hz)=r+nR (upTo f j)+nR (stp w n d ps (G++[(j:Hz)])):=by erw[nR];lia
   rw[x1,x2,show xs++((upTo f j).map Stq.pv++(yaw s (G++[(j:Hz)])).pv::(stp w n d ps (G++[(j:Hz)])).map Stq.pv)=xs++(upTo f j).map Stq.pv++[(yaw s (G++[(j:Hz)])).pv]++(stp w n d ps (G++[(j:Hz)])).map Stq.pv by simp];exact t
  let#[s4,a,e4,H4]:=zgI y E z A f hf I L O U X (s0:=s0) (cn:=cn) M (j+1) o (AA (.int j)) () t;refine#[s4,a,?_,H4];have i1:=H.ins (AE "add_asked");have i2:=C.ins (AE "add_round");have i3:=D.ins (AE "go_parts");have c1:=zoL G () (j:Hz);have one:exs (yc T (k+2)) [AA (.loc u),AA (.tp AC [s0,cn,sen s,pss d ps]),AA (.tp AC (G.map .int)),AA (.int N),AA (.int (j:Hz))] st grB=.nx [AA (.loc u),AA (.tp AC [s0,cn,sen s,pss d ps]),AA (.tp AC (G.map .int)),AA (.int N),AA (.int (j:Hz))] o:=by generalize PV.tp AC (G.map .int)=gv,PV.tp AC ((G++[(j:Hz)]).map .int)=gw,pss d ps=pv,sen s=sv at *;simp! [grB,yo,ix0,ix1,ix2,ix3,c1,i1,i2,i3,e1,e2,e3]
  rw[ye,zl (U1:=[AA (.loc u),AA (.tp AC [s0,cn,sen s,pss d ps]),AA (.tp AC (G.map .int)),AA (.int N),AA (.int (j:Hz))]) rfl,one];exact e4
def zf5{d k:Hy}(E:BodyOk u l w n d (k+1)){G:Hx Hz}(I:G.length+(d+1)<=2)(L:∀x∈G,big x){ps:Hx Pt}(M:∀p∈ps,Pt.ok d p){s}{c m t:Hz}{xs}{r q:Hz}{st}(O:m.natAbs<=200)(U:t.natAbs<=200)(X:0<=n)(Y:n<=8)(H:UM st u l w n r q xs)
  (g:r+nR (Pt.steps w n (d+1) (.rnd c m t s ps) G)<=4000) (A:q+Pt.rd w n (d+1) (.rnd c m t s ps)<=4000) (Z:0<=q) (j:xs.length+(Pt.steps w n (d+1) (.rnd c m t s ps) G).length<1000000):
  ∃B,yc T (k+3) yix [.loc u,Pt.pv (d+1) (.rnd c m t s ps),.tp AC (G.map .int)] st=.ok .non B/\UM B u l w n (r+nR (Pt.steps w n (d+1) (.rnd c m t s ps) G)) (q+Pt.rd w n (d+1) (.rnd c m t s ps)) (xs++(Pt.steps w n (d+1) (.rnd c m t s ps) G).map Stq.pv):=by
 rw[Pt.steps]at g j ⊢;rw[Pt.rd]at A ⊢;generalize hN:cnt c m t w n=N,hf:(λ(J:Hy)=>yaw s (G++[(J:Hz)])::ps.flatMap λp=>Pt.steps w n d p (G++[(J:Hz)]))=f at *;have nN:N<=4000:=by have:=C2 N (show 0<1+(ps.map (Pt.rd w n d)).sum by lia);lia
 rw[nR,CN,DH (by simp[yaw,Stq.isR])]at g ⊢;rw[A8]at j;erw[Hx.countP_nil,Hy.add_zero,AQ,Ap]at g j ⊢;have a:=λo (H':UM o u l w n r q xs)=>zil (k+1) H' (c:=c) O U X Y;have a:=a st H;have i1:=H.ins (AE "count_of");let#[s1,p4,b,C]:=zgI (k:=k) (xs:=xs) (r:=r) (q:=q) E I L M (s:=s) (s0:=.str ybj) (cn:=.tup [.int c,.int m,.int t]) f hf.symm (by erw[nR];lia) A () nN Z N 0 st AF () (by simpa [upTo] using H);let#[s2,e3,H3]:=zdz k C (by erw[A8,Aj];lia) s (G++[(N:Hz)]) (by simp;lia);have i2:=C.ins (AE "add_asked");have c1:=zoL G () (N:Hz);have D:=zee (c+m*n+t*w*n) st;have hz:((c+m*n+t*w*n).toNat:Hz)=(N:Hz):=by rw[<-hN];rfl
 rw[hz]at D;have hr:ya9 (.int (N:Hz))=AA (ye N 0 1):=by erw[ya9];rw[ID ()];rfl
 have y:yo.body=(match yo.body with
  |.cons x (.cons (.for t i _) r)=>.cons x (.cons (.for t i grB) r)
  |x=>x):=rfl
 refine#[s2,?_,by rw[Cb,<-EM];exact H3];have hT:T yix=AA #[3,5,AC,yo.body]:=rfl;rw[zj hT rfl rfl];dsimp only;rw[y];have b:yaz (yc T (k+2)) (.n 4) grB (ye N 0 1) _ st=_:=b;have ep:Pt.pv (d+1) (.rnd c m t s ps)=.tp AC [.str ybj,.tp AC [.int c,.int m,.int t],sen s,pss d ps]:=rfl;rw[ep];erw[PV.tup]at a b;generalize PV.tp AC (G.map .int)=gv,PV.tp AC ((G++[(N:Hz)]).map .int)=gw,pss d ps=pv,sen s=sv,PV.tp AC [.int c,.int m,.int t]=cv,c+m*n+t*w*n=z at *;simp! [yo,ix0,ix1,ix2,ix3,i1,a,D,hr,b,c1,i2,e3];rfl
end
def ze9{u l:Hy}{w n:Hz}(b:big n)(d k:Hy){a}(f:ROk a)(G:Hx Hz)(st xs)(r q:Hz)(p1:Option PV)(g:G.length<=2)(j:∀x∈G,big x)(H:UM st u l w n r q xs)(m:r+1<=4000)(o:xs.length<1000000):
  ∃s,exs (yc T (11+k)) [AA (.loc u),p1,AA (.tp AC (G.map .int)),AA (.tup [.str ybh,a.told])] st gpB=.nx [AA (.loc u),p1,AA (.tp AC (G.map .int)),AA (.tup [.str ybh,a.told])] s/\UM s u l w n (r+1) q (xs++[(Stq.row a).pv]):=by let#[s,e,p]:=zkx k H o m f g b j;refine#[s,?_,p];have i:=H.ins (AE "add_row");have c:=zoq;generalize PV.tp AC (G.map .int)=gv,a.told=v at *;simp! [gpB,yh,ix0,ix1,c,i,e]
def zg5{u l:Hy}{w n:Hz}(z:0<=n)(A:n<=8):∀d k:Hy,BodyOk u l w n d (11+2*d+k)
 |0,k=>λp G st j r q o a x f H B g C D=>by
  cases p with
  |row J=>
   let#[s,e,b]:=ze9 (show big n by show n.natAbs<_;lia) 0 k a G st j r q o x f H (by simpa [Pt.steps,nR,Stq.isR] using g) ();exact#[s,e,by simpa [Pt.steps,nR,Stq.isR,Pt.rd] using b]
  |rnd=>exact a.elim
 |d+1,k=>λp G st j r q o a x f H B g C D=>by
  cases p with
  |row J=>
   let#[s,e,b]:=ze9 (show big n by show n.natAbs<_;lia) 0 (2*(d+1)+k) a G st j r q o () f H (by simpa [Pt.steps,nR,Stq.isR] using g) ();rw[show 11+(2*(d+1)+k)=11+2*(d+1)+k by lia]at e;exact#[s,e,by simpa [Pt.steps,nR,Stq.isR,Pt.rd] using b]
  |rnd c m t s y=>
   let#[E,O,U,L]:=a;have I:=zg5 (u:=u) (l:=l) (w:=w) z A d k;rw[show 11+2*d+k=10+2*d+k+1 by lia]at I;let#[M,e,b]:=zf5 I x f L (E m (by simp)) (E t (by simp)) z A H g C B D;refine#[M,?_,b];have i:=H.ins (AE "go_rounds");have N:=zou;rw[show 10+2*d+k+3=11+2*(d+1)+k by lia]at e;rw[show Pt.pv (d+1) (.rnd c m t s y)=.tp AC [.str ybj,.tp AC [.int c,.int m,.int t],sen s,pss d y]from rfl]at e ⊢;generalize PV.tp AC (G.map .int)=gv,PV.tp AC [.int c,.int m,.int t]=X,pss d y=pv,sen s=Y at *;simp! [gpB,yh,ix0,ix1,N,i,e]
def zph(k:Hy)(w n:Hz):yc T (k+1) yiv [.loc 0,.int w,.int n] [.ins cU []]=.ok .non [uob w n 1 0 0,.lst []]:=by rw[zj (show T yiv=AA y8 from rfl) rfl rfl];ac_rfl
def zoM(w n:Hz):UM [uob w n 1 0 0,.lst []] 0 1 w n 0 0 []:=#[rfl,rfl,by decide]
def zoh(s:Stq):nL s.pv=true:=by
 cases s with
 |row r=>simp[Stq.pv,nL,nLs,zic]
 |ask s i j=>simp[Stq.pv,nL,nLs,zaI]
def zjf:∀l:Hx Stq,nLs (l.map Stq.pv)=AD
 |[]=>rfl
 |s::l=>by rw[AN,nLs,zoh s,zjf l];rfl
def zia(k:Hy){ps:Hx Pt}{w n:Hz}(g:0<=n)(j:n<=8)(m:ps.length<=1000)(a:∀p∈ps,Pt.ok 2 p)(x:nR (stp w n 2 ps [])<=4000)(y:rds w n 2 ps<=4000)(o:(stp w n 2 ps []).length<1000000)(st:SO):
  yc T (18+k) yiD [pss 2 ps,.int w,.int n] st=.ok (.lst ((stp w n 2 ps []).map Stq.pv)) st:=by
 let#[s,e,H]:=zeY (k:=16+k) (u:=0) (l:=1) (w:=w) (n:=n) (d:=2) (by rw[show 16+k=11+2*2+(1+k)by lia];exact zg5 g j 2 (1+k)) (G:=[]) (by simp) (by simp) a (zoM w n) () () () (by simpa using o);have b:=zph (16+k) w n;have c:=λst=>zfG k m a st;have ih:=(zoM w n).ins (AE "go_parts");have q:=H.fs;have f:ycH (.loc 1) s=.ok (.lst ([]++(stp w n 2 ps []).map Stq.pv)) (s.set 1 .dead):=by simp[ycH,H.d]
 rw[BB]at f;have r:nLs [pss 2 ps,.int w,.int n]=true:=by simp[nLs,nL,zcD]
 rw[show 18+k=17+k+1 by lia,zh (show T yiD=AA yfm from rfl) rfl rfl r];rw[show 16+k+1=17+k by lia]at e b;erw[pss,PV.tup,Ay]at e c ⊢;have t:=zjf (stp w n 2 ps []);generalize ps.map (Pt.pv 2)=z,(stp w n 2 ps []).map Stq.pv=A at *;simp! [yfm,c,b,ih,e,q,f,ya7,newV];simp[ybT,nL,t]
theorem pw(w:Hy):((2^w:Hy):Hz)=2^w:=by simp
abbrev cK:Hy:=22
abbrev kws:Str:=AE "words"
abbrev kmk:Str:=AE "marked"
def kob(w:Hz)(L:Hy)(mk:Hz):Ob:=.ins cK [(uw,.int w),(kws,.loc L),(kmk,.int mk)]
structure MS(st:SO)(m L:Hy)(w:Hz)(s:Ms):Prop where
 o:st[m]?=AA (kob w L s.2)
 d:st[L]?=AA (.dct AD s.1)
 ne:m≠L
section
variable {st:SO}{m L:Hy}{w:Hz}{s:Ms}
theorem MS.fw(h:MS st m L w s):yax cK st (.loc m) uw=AA (.int w):=by erw[yax,h.o,kob,IF];ac_rfl
theorem MS.fd(h:MS st m L w s):yax cK st (.loc m) kws=AA (.loc L):=by erw[yax,h.o,kob,IF];ac_rfl
theorem MS.fm(h:MS st m L w s):yax cK st (.loc m) kmk=AA (.int s.2):=by erw[yax,h.o,kob,IF];ac_rfl
theorem MS.ins(h:MS st m L w s)(x:AT)(a:([uw,kws,kmk].all (· != x))=true:=by decide +kernel):ybS cK x st (.loc m)=AA true:=zfV h.o a
theorem MS.sm(h:MS st m L w s)(v:Hz):yaX cK st (.loc m) kmk (.int v)=AA (st.set m (kob w L v))/\MS (st.set m (kob w L v)) m L w (s.1,v):=by refine#[?_,zok h.o,by rw[AZ h.ne];exact h.d,h.ne];erw[yaX,h.o,kob];rw[ID #[trivial,by simp],show ybD kmk (.int v) [(uw,.int w),(kws,.loc L),(kmk,.int s.2)]=[(uw,.int w),(kws,.loc L),(kmk,.int v)]by ac_rfl]
theorem MS.sd(h:MS st m L w s){q:Q}{v:Hz}(a:ltr q.1)(b:s.1.length<1000000):ybc st (.loc L) (kq q) (.int v)=AA (st.set L (.dct AD (ku q v s.1)))/\MS (st.set L (.dct AD (ku q v s.1))) m L w (ku q v s.1,s.2):=
 #[zot a h.d b,by rw[AZ (BI h.ne)];exact h.o,zok h.d,h.ne]
def zkk(k:Hy)(h:MS st m L w s){W:Hz}(a:yak W s.1){q:Q}(b:ltr q.1):yc T (k+1) yhV [.loc m,kq q] st=.ok (.int (gq s.1 q)) st:=by
 have g:yaL .get st (.loc L) [kq q,.int 0]=.ok (.int (gq s.1 q)) st:=zoK b a h.d;have o:yL .get st (.loc L)=AA true:=by simp[yL,yac,h.d]
 rw[zj (show T yhV=AA yT from rfl) rfl rfl];generalize kq q=q at *;simp! [yT,h.fd,o,g,zak]
end
theorem highest(k n:Hy)(c:n<=100)(s:SO):yc T (k+1) yhT [.int n] s=.ok (.int (2^n-1)) s:=by
 have a:T yhT=AA yfv:=rfl;have b:yw .shl (.int 1) (.int (n:Hz))=AA (.int (2^n)):=by erw[yw,binI];rw[ID #[(),(),by decide]];simp
 rw[zh a rfl rfl rfl];simp! [yfv,zcu,b]
def zen{st s}{a b:Hz}:ybT st (.rt (.tp AC [.int a,.int b]) s)=.ok (.tp AC [.int a,.int b]) st:=rfl
section
variable {x y m:Hz}{n:Hy}(hn:n<=100)(hn1:1<=n)(k:Hy)(st:SO)
def zog:yw .shr (.int x) (.int (n:Hz))=AA (.int (x/2^n)):=by erw[yw,binI];rw[ID ()];simp
theorem band(a b:Hz):yw .band (.int a) (.int b)=AA (.int (Bk a b)):=rfl
def zlZ{x y:Hz}(a:0<=x)(b:0<=y):Bk x y=((x.toNat &&& y.toNat:Hy):Hz):=by simp[Bk,a,b]
def zmF{x y:Hz}(a:¬0<=x)(b:0<=y):Bk x y=y-((y.toNat &&& (Gw x).toNat:Hy):Hz):=by simp[Bk,a,b]
def zi4(a:Hz):Bk a (2^n-1)=a%2^n:=by
 have d:(0:Hz)<2^n:=Bd ⋯;have b:((2^n:Hy):Hz)=2^n:=by simp
 have c:((2:Hz)^n-1).toNat=2^n-1:=()
 by_cases h:0<=a
 .rw[zlZ h (),c,DY,G2,b,Cu h]
 .have f:Gw a=-a-1:=rfl;rw[zmF h (),c,Hy.and_comm,DY,G2,b,f,Cu ()];have e:=FB (-a-1) (2^n);have g:=Bv (-a-1) (show (2:Hz)^n≠0 by lia);have j:=B4 (-a-1) d;generalize (-a-1)%2^n=r,(-a-1)/2^n=q at *;generalize (2:Hz)^n=P at *;have m:P*(-q-1)=-(P*q)-P:=by rw[Hz.mul_sub,Hz.mul_neg,C3]
  rw[show a=(P-1-r)+P*(-q-1)by lia,Hz.add_mul_emod_self_left,Hz.emod_eq_of_lt () ()]
include hn
def ziV:yc T (k+2) yiG [.int n,.int x,.int y,.int m] st=.ok (.tp AC [.int ((x+y+m)%2^n),.int ((x+y+m)/2^n)]) st:=by have a:T yiG=AA yfy:=rfl;have e:=highest k n hn;rw[zh a rfl rfl rfl];simp! [yfy,zen,e,band,zog,zi4]
def zht:yc T (k+3) yhU [.int n,.int x,.int y,.int m] st=.ok (.tp AC [.int ((x+x+m)%2^n),.int ((x+x+m)/2^n)]) st:=by have a:T yhU=AA yfD:=rfl;have e:=ziV (x:=x) (y:=x) (m:=m) hn k;rw[zh a rfl rfl rfl];simp! [yfD,zen,e]
end
def zhK{j:Hy}{k:Hy->Fl}:yfp (AA j) k=k j:=rfl
theorem made{s}{j:Hy}(c:mkV ye3 AD (.str s)=AA j)(k:Hy)(st:SO){n x y m a b:Hz}(e:yc T k j [.int n,.int x,.int y,.int m] []=.ok (.tp AC [.int a,.int b]) []):
  yc T (k+1) yiF [.str s,.int n,.int x,.int y,.int m] st=.ok (.tp AC [.int a,.int b]) st:=by have d:T yiF=AA yfu:=rfl;have f:decide (5<6)=true:=rfl;rw[zh d rfl rfl rfl];erw[yfu,AN,Ay,Bz,Am,BF,BB,zq,znU,IC.ve2,A1,fl_ok];simp! [f,c,zhK,e,zen]
def zmX:mkV ye3 AD (.str ya5)=AA yhU:=∅
def zpi{call U st}:ev call U st (.neg (.cst (.int 1)))=.ok (.int (-1)) st:=by erw[ev,R.bind]
structure Gst(W:Hz)(s:Ms):Prop where
 c:yak W s.1
 k0:0<=s.2
 k1:s.2<=1
def zpj{W:Hz}(a:0<W){s}(h:Gst W s)(q:Q):0<=gq s.1 q/\gq s.1 q<W:=zgw a h.c _ _
def zej{W:Hz}(f:2<=W){r:Rt}(c:r.fine){s}(h:Gst W s):Gst W (yai W r s):=by
 cases r with
 |mark d=>exact#[h.c,c.1,c.2]
 |set q d=>exact#[zlc h.c c.2.1 (by have:=c.2.2;lia),h.k0,h.k1]
 |twice q r=>
  let#[a,b]:=zpj () h r;have g:=h.k0;have j:=h.k1;refine#[zlc h.c (Bv _ ()) (B4 _ ()),Dc () (),?_];exact FM (FD () ())
def zc0{W:Hz}(r s):(yai W r s).1.length<=s.1.length+1:=by
 cases r with
 |mark d=>exact C4 _
 |_=>exact zfe
section
variable {st:SO}{m L n:Hy}{s:Ms}
def zoN:yH .eq (.str yaN) (.str yaN)=AA (.bl AD):=by ac_rfl
theorem s_m:yH .eq (.str sSt) (.str yaN)=AA (.bl AC):=by ac_rfl
theorem s_a:yH .eq (.str sSt) (.str "ask")=AA (.bl AC):=by ac_rfl
theorem s_eq:yH .eq (.str sSt) (.str sSt)=AA (.bl AD):=by ac_rfl
theorem t_m:yH .eq (.str ya5) (.str yaN)=AA (.bl AC):=by ac_rfl
theorem t_a:yH .eq (.str ya5) (.str "ask")=AA (.bl AC):=by ac_rfl
theorem t_s:yH .eq (.str ya5) (.str sSt)=AA (.bl AC):=by ac_rfl
theorem t_t:yH .eq (.str ya5) (.str "times")=AA (.bl AC):=by ac_rfl
def zlk(k:Hy)(z:n<=100)(h:MS st m L n s){W:Hz}(A:yak W s.1)(u:s.1.length<1000000){r:Rt}(j:r.fine):∃b,yc T (k+6) y7 [.loc m,r.pv] st=.ok .non b/\MS b m L n (yai (2^n) r s)/\b.length=st.length:=by
 cases r with
 |mark d=>
  let#[a,g]:=h.sm d;refine#[_,?_,g,by simp];have c:=zoN;rw[zj (show T y7=AA ya from rfl) rfl rfl];simp! [ya,Rt.pv,ix0,ix1,c,zg3,a,zx];rfl
 |set q d=>
  let#[a,g]:=h.sd (v:=d) j.1 u;refine#[_,?_,g,by simp];have l:=s_m;have o:=s_a;have p:=s_eq;rw[zj (show T y7=AA ya from rfl) rfl rfl];rw[show Rt.pv (.set q d)=.tp AC [.str sSt,kq q,.int d]from rfl];generalize kq q=N at *;simp! [ya,ix0,ix1,ix2,l,o,p,h.fd,zcO,a,zx];rfl
 |twice q r=>
  have B:yc T (k+4) yhV [.loc m,kq r] st=.ok (.int (gq s.1 r)) st:=zkk (k+3) h A j.2;have w:=made zmX (k+3) st (zht (x:=gq s.1 r) (y:=gq s.1 r) (m:=s.2) z k []);have C:gq s.1 r+gq s.1 r+s.2=2*gq s.1 r+s.2:=()
  rw[C]at w;have ih:=h.ins (AE "held_in");let#[D,E]:=h.sd (v:=(2*gq s.1 r+s.2)%2^n) j.1 u;let#[G,g]:=E.sm ((2*gq s.1 r+s.2)/2^n);have f:∀st,idxV st (.tp AC [.str ya5,kq q,kq r]) (.int (-1))=AA (kq r):=λ_=>rfl;have t:yc T (k+5) yiL [.loc m,.tp AC [.str ya5,kq q,kq r]] st=.ok .non ((st.set L (.dct AD (ku q ((2*gq s.1 r+s.2)%2^n) s.1))).set m (kob n L ((2*gq s.1 r+s.2)/2^n))):=by rw[zj (show T yiL=AA yY from rfl) rfl rfl];generalize kq q=H,kq r=I,(2*gq s.1 r+s.2)%2^n=O,(2*gq s.1 r+s.2)/2^n=U at *;generalize gq s.1 r=v at *;simp! [yY,ih,ix0,ix1,ix2,B,zpi,f,bT2,h.fw,h.fm,w,h.fd,zcO,D,zx,zg3,G];rfl
  refine#[_,?_,g,by simp];have l:=t_m;have o:=t_a;have p:=t_s;have J:=t_t;have M:=h.ins (AE "go_made");rw[zj (show T y7=AA ya from rfl) rfl rfl];rw[show Rt.pv (.twice q r)=.tp AC [.str ya5,kq q,kq r]from rfl];generalize kq q=H,kq r=I at *;simp! [ya,ix0,l,o,p,J,M,t];rfl
def zlw(k:Hy)(d:n<=100)(h:MS st m L n s){W:Hz}(f:yak W s.1)(g:s.1.length<1000000){r}(c:ROk r):∃b,yc T (12+k) yiK [.loc m,r.pv] st=.ok .non b/\MS b m L n (yai (2^n) r s)/\b.length=st.length:=by
 let#[b,a,j,l]:=zlk (5+k) d h f g c.f;refine#[b,?_,j,l];have e:∀st,yc T (11+k) yiM [r.pv] st=.ok .non st:=λst=>by have w:=c.w k;rw[show 11+k=10+k+1 by lia,zh (show T yiM=AA yfI from rfl) rfl rfl (by simp[nLs,zic])];generalize r.pv=v at *;simp! [yfI,w];rfl
 have o:=h.ins (AE "go_row");rw[show 5+k+6=11+k by lia]at a;rw[show 12+k=11+k+1 by lia,zj (show T yiK=AA yfH from rfl) rfl rfl];generalize r.pv=v at *;simp! [yfH,e,o,a];rfl
end
def yE(W:Hz):Hy->Hz->Hx Hz
 |0,_=>[]
 |n+1,x=>x%W::yE W n (x/W)
def zL(W:Hz):∀n x,(yE W n x).length=n
 |0,_=>rfl
 |n+1,x=>by rw[yE,AQ,zL]
def zdM(W:Hz)(b:0<W)(x:Hz):∀(n a:Hy),(ye n (a:Hz) 1).map (λp=>match p with | .int j=>PV.int (x/W^j.toNat%W)|q=>q)=(yE W n (x/W^a)).map .int
 |0,a=>rfl
 |n+1,a=>by
  have h:=zdM W b x n (a+1);rw[ye,AN,yE,AN]
  congr 1
  .rw[show ((a:Hz)+1)=((a+1:Hy):Hz)by lia,h,El,Hz.ediv_ediv_of_nonneg (En (Bd b))]
def zoe(n:Hy)(a:n<=1000):yw .shl (.int 1) (.int (n:Hz))=AA (.int (2^n)):=by erw[yw,binI];rw[ID #[(),(),by decide]];simp
def znm(a b:Hy)(c:a<=1000):yw .mul (.int (a:Hz)) (.int (b:Hz))=AA (.int ((a*b:Hy):Hz)):=by
 have h:yap (a:Hz) (b:Hz)=true:=by erw[yap,Bc,IA];exact .inl (by simp;lia)
 erw[yw,binI,h,IF];simp
theorem lowest(k:Hy)(x:Hz)(w n:Hy)(u:w<=16)(y:n<=8)(st:SO):yc T (k+1) yiN [.int x,.int w,.int n] st=.ok (.tp AC ((yE (2^w) n x).map .int)) st:=by
 have d:T yiN=AA y4:=rfl;have f:=zoe w ();have g:=zbc n ();have l:yQ (yc T k) [AF,AA (.int (2^w-1)),AA (.int x),AA (.int w)] (.n 0) (.cst (.bl AD)) (.bin .band (.bin .shr (.var 2) (.bin .mul (.var 3) (.var 0))) (.var 1)) (ye n 0 1) []=.ok ((yE (2^w) n x).map .int) []:=by
  have h:=zdM (2^w) (Bd ⋯) x n 0;rw[GG,Ed]at h;rw[<-h];refine zab _ λp m=>?_;obtain⟨j,z,rfl⟩:∃j:Hy,j<n/\p=.int (j:Hz):=by
   have:∀(n a:Hy) (p:PV),p∈ye n (a:Hz) 1->∃j:Hy,a<=j/\j<a+n/\p=.int (j:Hz):=by
    intro n
    induction n with
    |zero=>intro a p h;cases h
    |succ n ih=>
     intro a p h;rw[ye]at h;rcases AV.1 h with rfl|h
     .exact#[a,AS _,(),rfl]
     .let#[j,A,o,b]:=ih (a+1) p (by rw[show ((a+1:Hy):Hz)=(a:Hz)+1 by lia];exact h);exact#[j,(),(),b]
   let#[j,_,o,b]:=this n 0 p m;exact#[j,(),b]
  have q:=znm w j ();have r:yw .shr (.int x) (.int ((w*j:Hy):Hz))=AA (.int (x/2^(w*j))):=by erw[yw,binI];rw[ID (),Bq]
  have c:=band (x/2^(w*j)) (2^w-1);rw[zi4 (n:=w) (x/2^(w*j))]at c;simp! [yaR,q,r,c];rw[Bq,<-Hl]
 rw[zh d rfl rfl rfl];simp! [y4,f,g,l];rw[zK _ (by simp[zL];lia)];have t:yah .tuple [] [.lst ((yE (2^w) n x).map .int)]=AA (.tp AC ((yE (2^w) n x).map .int)):=rfl;simp! [t];simp[ybT,nL,noLocs_ints]
def zap{W:Hz}(a:0<W):∀(n:Hy) (x:Hz),∀v∈yE W n x,0<=v/\v<W
 |0,x,v,h=>by cases h
 |n+1,x,v,h=>by
  rw[yE]at h;rcases AV.1 h with rfl|h
  .exact#[Bv _ (),B4 _ a]
  .exact zap a n _ v h
def sL(c:Hy):Str:=#[(Hx.toArray [c])]
def yaP(l:AT):Hy->Hx Hz->Kv->Kv
 |_,[],c=>c
 |i,v::a,c=>yaP l (i+1) a (ku (l,(i:Hz)) v c)
def ybJ(W:Hz)(n:Hy)(x y:Hz):Kv:=yaP (sL 98) 0 (yE W n y) (yaP (sL 97) 0 (yE W n x) [])
def zek{W:Hz}{l}:∀(vs:Hx Hz)(i:Hy)(c:Kv),(∀v∈vs,0<=v/\v<W)->yak W c->yak W (yaP l i vs c)
 |[],_,_,_,h=>h
 |v::vs,i,c,a,h=>zek vs (i+1) _ (λu b=>a u (AM _ b)) (zlc h (a v AO).1 (a v AO).2)
def zbi{l}:∀vs(i:Hy)c,(yaP l i vs c).length<=c.length+vs.length
 |[],_,_=>AS _
 |v::vs,i,c=>by have:=zbi (l:=l) vs (i+1) (ku (l,(i:Hz)) v c);have:=zfe (q:=(l,(i:Hz))) (v:=v) (c:=c);rw[yaP,AQ];lia
def zjt{w n:Hy}{x y:Hz}:Gst (2^w) (ybJ (2^w) n x y,0):=by have a:(0:Hz)<2^w:=Bd ⋯;exact#[zek _ _ _ (zap a n y) (zek _ _ _ (zap a n x) λp a=>by cases a),FK _,Hz.le.intro 1 rfl]
def zgh{w n:Hy}{x y:Hz}:(ybJ (2^w) n x y).length<=2*n:=by have b:=zbi (l:=sL 98) (yE (2^w) n y) 0 (yaP (sL 97) 0 (yE (2^w) n x) []);have a:=zbi (l:=sL 97) (yE (2^w) n x) 0 [];rw[zL]at b a;show (yaP _ _ _ _).length<=_;erw[Ap]at a;lia
def zho:([97,98].all λc=>(E7 4).all λi=>isOk (yc T 8 yhW [.str (sL c),.int (i:Hy)] []) (kq (sL c,(i:Hy))))=true:=∅
theorem known(k:Hy){c i:Hy}(a:c∈[97,98])(hi:i<4)(st:SO):yc T (8+k) yhW [.str (sL c),.int (i:Hz)] st=.ok (kq (sL c,(i:Hz))) st:=by have h:=BA.1 (BA.1 zho c a) i (by simpa using hi);exact zos (show T yhW=AA yhO from rfl) rfl rfl rfl (zdc h) k st
def zfS{c:Hy}(a:c∈[97,98]):ltr (sL c):=by erw[AV,A9,II]at a;rcases a with rfl|rfl<;>simp[ltr,sL]
def znZ(k:Hy){st}{m L n:Hy}(d:n<=100){s}(h:MS st m L n s)(f:s.1.length<1000000){c i:Hy}(b:c∈[97,98])(hi:i<4){v:Hz}(g:0<=v)(t:v<2^n):
  ∃a,yc T (9+k) yiI [.loc m,.str (sL c),.int (i:Hz),.int v] st=.ok .non a/\MS a m L n (ku (sL c,(i:Hz)) v s.1,s.2):=by
 have j:=known k b hi st;have l:yc T (8+k) yhT [.int n] st=.ok (.int (2^n-1)) st:=by rw[show 8+k=7+k+1 by lia];exact highest (7+k) n d st
 have o:yc T (8+k) yhP [.int v,.int 0,.int (2^n-1)] st=.ok (.bl AD) st:=by rw[show 8+k=7+k+1 by lia];exact whole (7+k) g () st
 let#[p,r]:=h.sd (q:=(sL c,(i:Hz))) (v:=v) (zfS b) f;refine#[_,?_,r];rw[show 9+k=8+k+1 by lia,zj (show T yiI=AA yA from rfl) rfl rfl];generalize kq (sL c,(i:Hz))=q at *;simp! [yA,j,h.fw,l,o,h.fd,zcO,p,zx];rfl
def mwB:Css:=match yp.body with
 |.cons _ (.cons (.for _ _ b) _)=>b
 |x=>x
def mwC:Css:=match mwB with
 |.cons (.for _ _ b) _=>b
 |x=>x
def zd9(k:Hy){m L n:Hy}(j:n<=100){c:Hy}(l:c∈[97,98]){p0 p1 p2 p3 p6:Option PV}:∀(a:Hx Hz)(i:Hy)(s:Ms)st(p7 p8:Option PV),(∀v∈a,0<=v/\v<2^n)->i+a.length<=4->MS st m L n s->s.1.length+a.length<1000000 ->
  ∃b d f,MS b m L n (yaP (sL c) i a s.1,s.2) /\
   yaz (yc T (9+k)) (.t [7,8]) mwC (yK i (a.map .int)) [p0,p1,p2,p3,AA (.loc m),AA (.str (sL c)),p6,p7,p8] st=.nx [p0,p1,p2,p3,AA (.loc m),AA (.str (sL c)),p6,d,f] b
 |[],i,s,st,p7,p8,g,o,h,p=>#[st,p7,p8,h,by rw[Ay,yK,zw]]
 |v::a,i,s,st,p7,p8,g,o,h,p=>by
  erw[AQ]at o p;let#[w,x]:=g v (by simp);let#[r,y,z]:=znZ k j h () l (i:=i) () w x;have H:=zfe (q:=(sL c,(i:Hz))) (v:=v) (c:=s.1);let#[A,d,f,B,C]:=zd9 k j l (p0:=p0) (p1:=p1) (p2:=p2) (p3:=p3) (p6:=p6) a (i+1) _ r (AA (.int i)) (AA (.int v)) (λu D=>g u (AM _ D)) () z (by simp only;lia);refine#[A,d,f,B,?_];have ih:=h.ins (AE "put");have E:yC (.t [7,8]) (.tup [.int (i:Hz),.int v]) [p0,p1,p2,p3,AA (.loc m),AA (.str (sL c)),p6,p7,p8]=AA [p0,p1,p2,p3,AA (.loc m),AA (.str (sL c)),p6,AA (.int i),AA (.int v)]:=rfl;rw[AN,yK,zl E];have G:exs (yc T (9+k)) [p0,p1,p2,p3,AA (.loc m),AA (.str (sL c)),p6,AA (.int i),AA (.int v)] st mwC=.nx [p0,p1,p2,p3,AA (.loc m),AA (.str (sL c)),p6,AA (.int i),AA (.int v)] r:=by simp! [mwC,mwB,yp,ih,y]
  rw[G];exact C
def zpk(k:Hy)(w:Hz):yc T (k+1) yiH [.loc 0,.int w] [.ins cK []]=.ok .non [kob w 1 0,.dct AD []]:=by rw[zj (show T yiH=AA y9 from rfl) rfl rfl];ac_rfl
theorem sa:(AE "a")=sL 97:=by ac_rfl
theorem sb:(AE "b")=sL 98:=by ac_rfl
def zdq(k:Hy){w n:Hy}(o:w<=16)(Y:n<=4)(x y:Hz):
  ∃d,MS d 0 1 w (ybJ (2^w) n x y,0)/\yc T (10+k) yiO [.int w,.int n,.int x,.int y] []=.ok (.loc 0) d:=by
 have p:=zpk (8+k) w;have G:MS [kob w 1 0,.dct AD []] 0 1 w ([],0):=#[rfl,rfl,by decide];have q:=λs=>lowest (8+k) x w n o () s;have eB:=λs=>lowest (8+k) y w n o () s;have Z:=zL (2^w) n x;have lB:=zL (2^w) n y;have fl:=zbi (l:=sL 97) (yE (2^w) n x) 0 [];let#[f,g,j,H,I]:=zd9 k () (c:=97) (by simp) (p0:=AA (.int w)) (p1:=AA (.int n)) (p2:=AA (.int x)) (p3:=AA (.int y)) (p6:=AA (.int x)) (yE (2^w) n x) 0 _ _ AF AF (zap (Bd ⋯) n x) () G (by erw[Ap];lia);let#[m,u,z,J,L]:=zd9 k () (c:=98) (by simp) (p0:=AA (.int w)) (p1:=AA (.int n)) (p2:=AA (.int x)) (p3:=AA (.int y)) (p6:=AA (.int y)) (yE (2^w) n y) 0 _ f g j (zap (Bd ⋯) n y) () H (by erw[Ap]at fl ⊢;lia);refine#[m,J,?_];rw[show 8+k+1=9+k by lia]at p q eB
 have M:yp.body=(match yp.body with
  |.cons a (.cons (.for t i _) r)=>.cons a (.cons (.for t i mwB) r)
  |x=>x):=rfl
 have A:mwB=(match mwB with
  |.cons (.for t i _) r=>.cons (.for t i mwC) r
  |x=>x):=rfl
 have N:T yiO=AA #[4,9,AC,yp.body]:=rfl;have B:∀(a b:PV) (C O p6 D E:Option PV),yC (.t [5,6]) (.tp AC [a,b]) [AA (.int w),AA (.int n),AA (.int x),AA (.int y),C,O,p6,D,E]=AA [AA (.int w),AA (.int n),AA (.int x),AA (.int y),C,AA a,AA b,D,E]:=λ_ _ _ _ _ _ _=>rfl;have U:exs (yc T (9+k)) [AA (.int w),AA (.int n),AA (.int x),AA (.int y),AA (.loc 0),AA (.str (sL 97)),AA (.int x),AF,AF] [kob w 1 0,.dct AD []] mwB=.nx [AA (.int w),AA (.int n),AA (.int x),AA (.int y),AA (.loc 0),AA (.str (sL 97)),AA (.int x),g,j] f:=by rw[A];simp! [mwB,yp,q,I]
 have X:exs (yc T (9+k)) [AA (.int w),AA (.int n),AA (.int x),AA (.int y),AA (.loc 0),AA (.str (sL 98)),AA (.int y),g,j] f mwB=.nx [AA (.int w),AA (.int n),AA (.int x),AA (.int y),AA (.loc 0),AA (.str (sL 98)),AA (.int y),u,z] m:=by rw[A];simp! [mwB,yp,eB,L]
 rw[show 10+k=9+k+1 by lia,zj N rfl rfl];dsimp only;rw[M];have fl:yaz (yc T (9+k)) (.t [5,6]) mwB [.tp AC [.str (sL 97),.int x],.tp AC [.str (sL 98),.int y]] [AA (.int w),AA (.int n),AA (.int x),AA (.int y),AA (.loc 0),AF,AF,AF,AF] [kob w 1 0,.dct AD []]=.nx [AA (.int w),AA (.int n),AA (.int x),AA (.int y),AA (.loc 0),AA (.str (sL 98)),AA (.int y),u,z] m:=by rw[zl (B _ _ _ _ _ _ _),U];erw[yS];rw[zl (B _ _ _ _ _ _ _),X];rfl
 simp! [yp,p,ya7,newV,sa,sb,IC.seqOf,fl];rfl
abbrev mp(w n i j:Hz)(s:Ms):Mp:=#[w,n,i,j,s.2,s.1]
def yG(W w n:Hz):Hx Stq->Ms->IB
 |[],_=>AD
 |.row r::l,s=>yG W w n l (yai W r s)
 |.ask t i j::l,s=>due (mp w n i j s) t&&yG W w n l s
def ya8(W:Hz):Hx Stq->Ms->Ms
 |[],s=>s
 |.row r::l,s=>ya8 W l (yai W r s)
 |.ask _ _ _::l,s=>ya8 W l s
structure yaD(w n:Hz)(t:Hx Tm)(i j:Hz):Prop where
 f:∀s:Ms,∀a∈t,a.fine (mp w n i j s)/\a.lf (mp w n i j s)
 l:t.length<=20
 i:big i
 j:big j
def Stq.ok(w n:Hz):Stq->Prop
 |.row r=>ROk r
 |.ask t i j=>yaD w n t i j
def zmr{w:Hy}{n i j:Hz}{s}(a:w<=16)(hn:big n)(hi:big i)(hj:big j)(h:Gst (2^w) s):(mp w n i j s).Ok where
 c:=by rw[show (mp w n i j s).w.toNat=w from Bq w];exact h.c
 w0:=by show (0:Hz)<=w;lia
 w1:=by show (w:Hz)<=16;lia
 hn:=hn
 hi:=hi
 hj:=hj
 hm:=by have:=h.k0;have:=h.k1;show s.2.natAbs<_;lia
def hdB:Css:=match yau.body with
 |.cons _ (.cons _ (.cons (.for _ _ b) _))=>b
 |x=>x
def zpl:yH .eq (.str ydF) (.str ybh)=AA (.bl AC):=by ac_rfl
theorem MS.app{st:SO}{m L:Hy}{w:Hz}{s:Ms}(h:MS st m L w s)(o:Ob):MS (st++[o]) m L w s:=by
 have lt:∀{a:Hy} {o:Ob},st[a]?=AA o->a<st.length:=λ{a o} e=>by
  rcases C9 a st.length with z|z
  .exact z
  .rw[BE z]at e;cases e
 exact#[by rw[Ad (lt h.o)];exact h.o,by rw[Ad (lt h.d)];exact h.d,h.ne]
def zle(k:Hy){st}{m L:Hy}{w:Hz}{s}(h:MS st m L w s):yc T (k+1) yiJ [.loc m] st=.ok (.int s.2) st:=by rw[zj (show T yiJ=AA yB from rfl) rfl rfl];simp! [yB,h.fm];rfl
def zny(k:Hy){w n:Hy}(o:w<=16)(q:n<=8){st s}(h:MS st 0 1 w s)(g:Gst (2^w) s){t}{i j:Hz}(a:yaD w n t i j){p0 p3 p4 p5:Option PV}:
  ∃b,MS b 0 1 w s/\exs (yc T (12+k)) [p0,AA (.int w),AA (.int n),p3,p4,p5,AA (.loc 0),AA (Stq.pv (.ask t i j))] st hdB=(if due (mp w n i j s) t=AD then .nx [p0,AA (.int w),AA (.int n),p3,p4,p5,AA (.loc 0),AA (Stq.pv (.ask t i j))] b else .rt (.bl AC) b):=by
 have bn:big (n:Hz):=by show (n:Hz).natAbs<_;lia
 have M:Mo (st++[mob w n i j 1 s.2]) st.length 1 (mp w n i j s):=#[by simp,(h.app _).d,zmr o bn a.i a.j g];have e:=zjI (8+k) M (λt p=>(a.f s t p).1) (by have:=a.l;lia);have f:=zjQ (11+k) (st:=st) (L:=1) (w:=w) (n:=n) (i:=i) (j:=j) (mk:=s.2);have em:=zle (11+k) h;have l:=h.ins (AE "mark");have c:=zpl;have fd:=h.fd;refine#[_,h.app (mob w n i j 1 s.2),?_];rw[show 8+k+4=12+k by lia]at e;rw[show 11+k+1=12+k by lia]at f em;rw[show Stq.pv (.ask t i j)=.tp AC [.str ydF,sen t,.int i,.int j]from rfl];erw[sen]at e ⊢;generalize PV.tup (t.map Tm.pv)=r at *
 cases m:due (mp w n i j s) t
 .rw[m]at e;simp! [hdB,yau,ix0,ix1,ix2,ix3,c,fd,l,em,f,ya7,newV,e];simp
 .rw[m]at e;simp! [hdB,yau,ix0,ix1,ix2,ix3,c,fd,l,em,f,ya7,newV,e]
def zmg(k:Hy){w n:Hy}(l:w<=16){st s}(h:MS st 0 1 w s)(g:Gst (2^w) s)(b:s.1.length<1000000){r}(d:ROk r){p0 p3 p4 p5:Option PV}:
  ∃a,MS a 0 1 w (yai (2^w) r s)/\exs (yc T (12+k)) [p0,AA (.int w),AA (.int n),p3,p4,p5,AA (.loc 0),AA (Stq.pv (.row r))] st hdB=.nx [p0,AA (.int w),AA (.int n),p3,p4,p5,AA (.loc 0),AA (Stq.pv (.row r))] a:=by let#[a,e,f,_]:=zlw k () h g.c b d;refine#[a,f,?_];have j:=h.ins (AE "do");have c:=zoq;rw[show Stq.pv (.row r)=.tp AC [.str ybh,r.pv]from rfl];generalize r.pv=v at *;simp! [hdB,yau,ix0,ix1,c,j,e]
def zeh(k:Hy){w n:Hy}(p:w<=16)(d:1<=w)(A:n<=8){p0 p3 p4 p5:Option PV}:∀(l:Hx Stq)(s:Ms)st(p7:Option PV),(∀a∈l,a.ok w n)->MS st 0 1 w s->Gst (2^w) s->s.1.length+l.length<1000000 ->
  ∃o B,yaz (yc T (12+k)) (.n 7) hdB (l.map Stq.pv) [p0,AA (.int w),AA (.int n),p3,p4,p5,AA (.loc 0),p7] st=(if yG (2^w) w n l s=AD then .nx [p0,AA (.int w),AA (.int n),p3,p4,p5,AA (.loc 0),B] o else .rt (.bl AC) o)
 |[],s,st,p7,_,_,_,_=>#[st,p7,by rw[yG,ID rfl];exact zw]
 |a::l,s,st,p7,u,h,g,H=>by
  rw[AQ]at H;have f:=λ(c:Stq)=>zl (call:=yc T (12+k)) (t:=.n 7) (b:=hdB) (x:=c.pv) (xs:=l.map Stq.pv) (U:=[p0,AA (.int w),AA (.int n),p3,p4,p5,AA (.loc 0),p7]) (U1:=[p0,AA (.int w),AA (.int n),p3,p4,p5,AA (.loc 0),AA c.pv]) (st:=st) rfl;have W2:(2:Hz)<=2^w:=by have:=zb6 (a:=1) (b:=w) d;simpa using this
  cases a with
  |row r=>
   have y:ROk r:=u _ AO;let#[z,C,m]:=zmg k (n:=n) p h g () y (p0:=p0) (p3:=p3) (p4:=p4) (p5:=p5);let#[D,q,E]:=zeh k p d A (p0:=p0) (p3:=p3) (p4:=p4) (p5:=p5) l _ z (AA (Stq.pv (.row r))) (λb f=>u b (AM _ f)) C (zej W2 y.f g) (by have:=zc0 (W:=2^w) r s;lia);refine#[D,q,?_];rw[AN,f,m];exact E
  |ask t i j=>
   have y:yaD w n t i j:=u _ AO;let#[z,C,m]:=zny k p A h g y (p0:=p0) (p3:=p3) (p4:=p4) (p5:=p5);let#[D,q,E]:=zeh k p d A (p0:=p0) (p3:=p3) (p4:=p4) (p5:=p5) l s z (AA (Stq.pv (.ask t i j))) (λb f=>u b (AM _ f)) C g ();rw[AN,f,yG]
   cases G:due (mp w n i j s) t with
   |false=>
    rw[G]at m;exact#[z,q,by rw[m,IE (by simp),IE (by simp)];rfl]
   |true=>
    rw[G]at m;refine#[D,q,?_];rw[m,ID rfl,Az];exact E
theorem held(k:Hy){w n:Hy}(g:w<=16)(d:1<=w)(l:n<=4){ps:Hx Pt}(x y:Hz)(m:ps.length<=1000)(o:∀p∈ps,Pt.ok 2 p)(q:nR (stp w n 2 ps [])<=4000)(u:rds w n 2 ps<=4000)(H:(stp w n 2 ps []).length<900000)(z:∀a∈stp w n 2 ps [],a.ok w n)(st:SO):
  yc T (19+k) yhX [pss 2 ps,.int w,.int n,.int x,.int y] st=.ok (.bl (yG (2^w) w n (stp w n 2 ps []) (ybJ (2^w) n x y,0))) st:=by
 have j:=zia k (ps:=ps) (w:=w) (n:=n) () () m o q u () [];let#[A,C,f]:=zdq (8+k) g l x y;have I:=zgh (w:=w) (n:=n) (x:=x) (y:=y);let#[J,L,c]:=zeh (6+k) g d () (p0:=AA (pss 2 ps)) (p3:=AA (.int x)) (p4:=AA (.int y)) (p5:=AA (.lst ((stp w n 2 ps []).map Stq.pv))) (stp w n 2 ps []) _ A AF z C zjt (by simp only;lia);have D:nLs [pss 2 ps,.int w,.int n,.int x,.int y]=true:=by simp[nLs,nL,zcD]
 have E:T yhX=AA #[5,8,AD,yau.body]:=rfl
 have G:yau.body=(match yau.body with
  |.cons a (.cons b (.cons (.for t i _) r))=>.cons a (.cons b (.cons (.for t i hdB) r))
  |x=>x):=rfl
 rw[show 19+k=18+k+1 by lia,zh E rfl rfl D];dsimp only;rw[G];rw[show 10+(8+k)=18+k by lia]at f;rw[show 12+(6+k)=18+k by lia]at c;generalize yG (2^w) w n (stp w n 2 ps []) (ybJ (2^w) n x y,0)=B,(stp w n 2 ps []).map Stq.pv=M,pss 2 ps=N at *
 cases B
 .rw[IE (by simp)]at c;simp! [yau,j,f,IC.seqOf,c];rfl
 .rw[ID rfl]at c;simp! [yau,j,f,IC.seqOf,c];rfl
def zcY{call}{W:Hz}(b:0<W)(c:W<18446744073709551616){p1 p2:Option PV}:∀(n:Hy)(a x:Hz)(acc:Hx PV)(u:Option PV),acc.length+n<1000000 ->
  ∃d f,yaz call (.n 5) (.cons (.expr (.mth .append (.var 4) (.cons (.bin .mod (.var 0) (.var 3)) .nil))) (.cons (.asg (.n 0) (.bin .fdiv (.var 0) (.var 3))) .nil)) (ye n a 1) [AA (.int x),p1,p2,AA (.int W),AA (.loc 0),u] [.lst acc]=.nx [AA (.int d),p1,p2,AA (.int W),AA (.loc 0),f] [.lst (acc++(yE W n x).map .int)]
 |0,a,x,acc,u,_=>#[x,u,by rw[ye,zw];simp[yE]]
 |n+1,a,x,acc,u,h=>by
  let#[d,f,e]:=zcY (call:=call) b c (p1:=p1) (p2:=p2) n (a+1) (x/W) (acc++[.int (x%W)]) (AA (.int a)) (by simp;lia);refine#[d,f,?_];have g:W<18446744073709551616*18446744073709551616:=()
  have l:acc.length<1000000:=()
  rw[ye,zl (U1:=[AA (.int x),p1,p2,AA (.int W),AA (.loc 0),AA (.int a)]) rfl];have m:yL .append [Ob.lst acc] (.loc 0)=AA true:=rfl;have j:yaL .append [Ob.lst acc] (.loc 0) [.int (x%W)]=.ok .non [.lst (acc++[.int (x%W)])]:=by simp[yaL,ycN,l]
  erw[zq,xs_nil,x_asg,x_expr,IC.ve20,IC.ve2,IC.ve3,IC.vsq0,IC.vsq1,A1,AY,bd_ok,fl_ok,m,ono,zgW b,zdR b g,toR_some,j,bT_n,nxO_some,th_nx,Ag,Ai,yS];rw[e];simp[yE]
theorem words(k:Hy)(x:Hz)(w n:Hy)(b:w<=16)(c:n<1000)(st:SO):yc T (k+2) yiT [.int x,.int w,.int n] st=.ok (.tup ((yE (2^w) n x).map .int)) st:=by
 have d:(0:Hz)<2^w:=Bd ();have a:(2:Hz)^w<18446744073709551616:=by
  have h:(2:Hy)^w<=2^16:=BK () b;have j:((2^w:Hy):Hz)=2^w:=by simp
  lia
 let#[l,m,e]:=zcY (call:=yc T (k+1)) d a (p1:=AA (.int w)) (p2:=AA (.int n)) n 0 x [] AF (by simp;lia);have f:=zfd k w () [];have g:T yiT=AA ygk:=rfl;rw[yc,g];erw[ygk,AQ,Ap,CT,D3,IF,nLs,nL,D1,AN,Ay,Bz,Am,BF,BB,zq,xs_nil,x_asg,x_for,x_ret,IC.ve18,IC.ve2,IC.ve13,IC.ve19,IC.vsq0,IC.vsq1,IC.vjq0,IC.vjq1,IC.vjq2,IC.vjq3,IC.vjq4,IC.vjq5,IC.vjq6,IC.vjq7,IC.vjq8,IC.vjq9,A1,AY,bd_ok,fl_ok,f,bT_n,nxO_some,th_nx,Ag,Ai,zbc n c,toL,BP,sizeMax,e];simp[yah,yeK,yJ,toR,fl_ok,nL,noLocs_ints,R.fl,yat]
def zdC(k:Hy){c m t w n:Hz}(f:m.natAbs<=200)(g:t.natAbs<=200)(l:0<=n)(o:n<=8)(st:SO):yc T (k+1) yiY [.tup [.int c,.int m,.int t],.int w,.int n] st=.ok (.int (c+m*n+t*w*n)) st:=by have a:=zaF (i:=m) (j:=n) ();have b:=zaF (i:=t) (j:=w) ();have d:=zA (i:=t*w) (j:=n) ();rw[zh (show T yiY=AA ygL from rfl) rfl rfl rfl];simp! [ygL,ix0,ix1,ix2,a,b,d,zcu]
def elT:Rt->Hx (PV×PV)
 |.mark d=>[(.int d,.int d)]
 |.set q d=>[(tq q,kq q),(.int d,.int d)]
 |.twice q r=>[(tq q,kq q),(tq r,kq r)]
def Rt.nm:Rt->AT
 |.mark _=>yaN
 |.set _ _=>sSt
 |.twice _ _=>ya5
def zmU(r:Rt):r.pv=.tp AC (.str r.nm::(elT r).map (·.2)):=by cases r<;>rfl
def prB:Css:=match yt.body with
 |.cons _ (.cons (.for _ _ b) _)=>b
 |x=>x
def zhq(k:Hy){n I J:Hz}(o:big n)(p:big I)(t:big J){r}{a0:Option PV}:∀(xs:Hx (PV×PV))(acc:Hx PV)(u:Option PV),(∀x∈xs,x∈elT r)->acc.length+xs.length<1000 ->
  ∃j,yaz (yc T (k+1)) (.n 5) prB (xs.map (·.1)) [a0,AA (.int I),AA (.int J),AA (.int n),AA (.loc 0),u] [.lst acc]=.nx [a0,AA (.int I),AA (.int J),AA (.int n),AA (.loc 0),j] [.lst (acc++xs.map (·.2))]
 |[],acc,u,_,_=>#[u,by simp[zw]]
 |x::xs,acc,u,h,A=>by
  rw[AQ]at A;let#[j,e]:=zhq k o p t (r:=r) (a0:=a0) xs (acc++[x.2]) (AA x.1) (λy B=>h y (AM _ B)) (by simp;lia);refine#[j,?_];rw[AN,zl (U1:=[a0,AA (.int I),AA (.int J),AA (.int n),AA (.loc 0),AA x.1]) rfl];have l:yL .append [Ob.lst acc] (.loc 0)=AA true:=rfl;have f:∀v,yaL .append [Ob.lst acc] (.loc 0) [v]=.ok .non [.lst (acc++[v])]:=λv=>by
   have:acc.length<1000000:=()
   simp[yaL,ycN,this]
  have one:exs (yc T (k+1)) [a0,AA (.int I),AA (.int J),AA (.int n),AA (.loc 0),AA x.1] [.lst acc] prB=.nx [a0,AA (.int I),AA (.int J),AA (.int n),AA (.loc 0),AA x.1] [.lst (acc++[x.2])]:=by
   have w:∀d:Hz,ybe (.int d) [.tuple]=AA (.bl AC):=λ_=>rfl;have m:∀q:Q,exs (yc T (k+1)) [a0,AA (.int I),AA (.int J),AA (.int n),AA (.loc 0),AA (tq q)] [.lst acc] prB=.nx [a0,AA (.int I),AA (.int J),AA (.int n),AA (.loc 0),AA (tq q)] [.lst (acc++[kq q])]:=λq=>by
    have e:=λst=>zey k (a:=q.2) (b:=0) (c:=0) (d:=0) o p t st;have z:q.2+0*I+0*J+0*n=q.2:=by simp
    erw[z,PV.tup]at e;have f:=f (kq q);erw[kq,PV.tup]at f;simp! [prB,yt,tq,q4,kq,za4,ix0,ix1,e,l,f]
   have g:=h x AO
   cases r<;>erw[elT,AV,A9,II]at g
   .subst g;simp! [prB,yt,w,l,f]
   .rcases g with rfl|rfl
    .exact m _
    .simp! [prB,yt,w,l,f]
   .rcases g with rfl|rfl
    .exact m _
    .exact m _
  rw[one];erw[yS];rw[e];simp
def zd0(k:Hy){n I J:Hz}(f:big n)(g:big I)(j:big J)(r:Rt)(st:SO):yc T (k+2) yiV [r.told,.int I,.int J,.int n] st=.ok r.pv st:=by
 have l:T yiV=AA #[4,6,AD,yt.body]:=rfl
 have m:yt.body=(match yt.body with
  |.cons a (.cons (.for t i _) r)=>.cons a (.cons (.for t i prB) r)
  |x=>x):=rfl
 let#[q,e]:=zhq k f g j (r:=r) (a0:=AA r.told) (elT r) [.str r.nm] AF (λ_ h=>h) (by cases r<;>simp[elT]);have o:ycI r.told (AA 1) .non=AA (.tp AC ((elT r).map (·.1))):=by cases r<;>rfl
 have p:∀st,idxV st r.told (.int 0)=AA (.str r.nm):=by cases r<;>intro st<;>rfl
 have b:=zic r;rw[zh l rfl rfl (by simp[nLs,nL,zco])];dsimp only;rw[m];rw[zmU]at b ⊢;generalize r.told=u,(elT r).map (·.1)=w,(elT r).map (·.2)=c at *;have d:yah .tuple [.lst ([.str r.nm]++c)] [.loc 0]=AA (.tp AC (.str r.nm::c)):=rfl;simp! [yt,p,ybQ,onP,o,IC.seqOf,e];erw[BF,BB]at d;simp! [d];simp[ybT,b]
structure LS(st:SO)(s:Ms)(B:IB):Prop where
 b:st[1]?=AA (.lst [.loc 0,.int s.2,.bl B])
 d:st[0]?=AA (.dct AD s.1)
def zpm{st}{a b c:PV}:yah .len st [.tp AC [a,b,c]]=AA (.int 3):=rfl
def zeN(k:Hy){w:Hy}(t:w<=16)(u:1<=w){st:SO}{s:Ms}(a:st[0]?=AA (.dct AD s.1))(g:Gst (2^w) s)(o:s.1.length<1000000){r:Rt}(f:r.fine):yc T (k+2) yiX [.loc 0,.int s.2,r.pv,.int (2^w)] st=.ok (.int (yai (2^w) r s).2) (st.set 0 (.dct AD (yai (2^w) r s).1)):=by
 have x:=zeI a;rw[zj (show T yiX=AA ydf from rfl) rfl rfl]
 cases r with
 |mark d=>
  have c:=zoN;rw[show yai (2^w) (.mark d) s=(s.1,d)from rfl,<-x];simp! [ydf,Rt.pv,ix0,ix1,c];rfl
 |set q d=>
  have j:=s_m;have l:=s_a;have m:=s_eq;have n:=zot (v:=d) f.1 a o;rw[show yai (2^w) (.set q d) s=(ku q d s.1,s.2)from rfl];rw[show Rt.pv (.set q d)=.tp AC [.str sSt,kq q,.int d]from rfl];generalize kq q=L at *;simp! [ydf,ix0,ix1,ix2,j,l,m,zcO,n,zx];rfl
 |twice q r=>
  have j:=t_m;have l:=t_a;have m:=t_s;have y:yH .eq (.str ya5) (.str "move")=AA (.bl AC):=by ac_rfl
  have z:yH .eq (.str ya5) (.str "bare")=AA (.bl AC):=by ac_rfl
  have A:yH .eq (.str ya5) (.str ya5)=AA (.bl AD):=by ac_rfl
  have p:(0:Hz)<2^w:=Bd ⋯;have B:(2:Hz)^w<=65536:=zb6 (b:=16) t;have C:yaL .get st (.loc 0) [kq r,.int 0]=.ok (.int (gq s.1 r)) st:=zoK f.2 g.c a;have ok:yL .get st (.loc 0)=AA true:=by simp[yL,yac,a]
  have n:=zot (v:=(2*gq s.1 r+s.2)%2^w) f.1 a o;rw[show yai (2^w) (.twice q r) s=(ku q ((2*gq s.1 r+s.2)%2^w) s.1,(2*gq s.1 r+s.2)/2^w)from rfl];rw[show Rt.pv (.twice q r)=.tp AC [.str ya5,kq q,kq r]from rfl];have D:yc T (k+1) yiW [.loc 0,.int s.2,.tp AC [.str ya5,kq q,kq r],.int (2^w)] st=.ok (.int ((2*gq s.1 r+s.2)/2^w)) (st.set 0 (.dct AD (ku q ((2*gq s.1 r+s.2)%2^w) s.1))):=by rw[zj (show T yiW=AA ygw from rfl) rfl rfl];generalize kq q=E,kq r=G,gq s.1 r=v,(2:Hz)^w=W at *;have H:=zgW (i:=2*v+s.2) p;have bd:=zdR (i:=2*v+s.2) p ();generalize (2*v+s.2)%W=M,(2*v+s.2)/W=I at *;simp! [ygw,ix0,ix1,ix2,y,z,A,ok,C,H,bd,zcO,n,zx];rfl
  generalize kq q=E,kq r=G,(2*gq s.1 r+s.2)/2^w=I at *;have J:((3:Hz)==3)=true:=rfl;simp! [ydf,ix0,j,l,m,zpm,J,D];rfl
def zaJ{W:Hz}:∀(a b:Hx Stq) (s:Ms),ya8 W (a++b) s=ya8 W b (ya8 W a s)
 |[],_,_=>rfl
 |.row _::a,b,_=>zaJ a b _
 |.ask _ _ _::a,b,_=>zaJ a b _
def zam{W w n:Hz}:∀(a b:Hx Stq) (s:Ms),yG W w n (a++b) s=(yG W w n a s&&yG W w n b (ya8 W a s))
 |[],_,_=>by rw[yG,Az];rfl
 |.row _::a,b,_=>zam a b _
 |.ask _ _ _::a,b,s=>by rw[BF,yG,yG,zam a b s,Bm];rfl
def zbs{W:Hz}:∀a s,(ya8 W a s).1.length<=s.1.length+a.length
 |[],_=>AS _
 |.row r::a,s=>by have:=zbs (W:=W) a (yai W r s);have:=zc0 (W:=W) r s;rw[ya8,AQ];lia
 |.ask _ _ _::a,s=>by have:=zbs (W:=W) a s;rw[ya8,AQ];lia
def zbG{W w n:Hz}(b:2<=W):∀(a:Hx Stq) (s:Ms),(∀x∈a,x.ok w n)->Gst W s->Gst W (ya8 W a s)
 |[],_,_,g=>g
 |.row r::a,s,h,g=>zbG b a _ (λx c=>h x (AM _ c)) (zej b (show ROk r from h _ AO).f g)
 |.ask _ _ _::a,s,h,g=>zbG b a _ (λx c=>h x (AM _ c)) g
section
variable {st:SO}{s:Ms}{B:IB}
theorem LS.i(h:LS st s B):idxV st (.loc 1) (.int 0)=AA (.loc 0)/\idxV st (.loc 1) (.int 1)=AA (.int s.2)/\idxV st (.loc 1) (.int 2)=AA (.bl B):=by refine#[?_,?_,?_]<;>(unfold idxV;erw[h.b];rfl)
theorem LS.row(h:LS st s B)(c:Kv)(k:Hz):ya6 (st.set 0 (.dct AD c)) (.loc 1) (.int 1) (.int k)=AA ((st.set 0 (.dct AD c)).set 1 (.lst [.loc 0,.int k,.bl B]))/\LS ((st.set 0 (.dct AD c)).set 1 (.lst [.loc 0,.int k,.bl B])) (c,k) B:=by
 have a:(st.set 0 (.dct AD c))[1]?=AA (.lst [.loc 0,.int s.2,.bl B]):=by rw[AZ ⋯];exact h.b
 refine#[?_,zok a,?_]
 .simp only[ya6,a];rfl
 .rw[AZ ⋯];exact zok h.d
theorem LS.ask(h:LS st s B)(C:IB):ya6 st (.loc 1) (.int 2) (.bl C)=AA (st.set 1 (.lst [.loc 0,.int s.2,.bl C]))/\LS (st.set 1 (.lst [.loc 0,.int s.2,.bl C])) s C:=by
 refine#[?_,zok h.b,?_]
 .simp only[ya6,h.b];rfl
 .rw[AZ ⋯];exact h.d
end
abbrev wn(w n:Hy):PV:=.tup [.int w,.int n]
structure Wn(w n:Hy):Prop where
 w0:1<=w
 w1:w<=16
 n1:n<=4
theorem Wn.W2{w n:Hy}(h:Wn w n):(2:Hz)<=2^w:=by have:=zb6 (a:=1) (b:=w) h.w0;simpa using this
theorem Wn.bn{w n:Hy}(h:Wn w n):big (n:Hz):=by have:=h.n1;show (n:Hz).natAbs<_;lia
section
variable {st:SO}{s:Ms}{B:IB}{w n:Hy}
def zi3(k:Hy)(h:Wn w n)(l:LS st s B)(g:Gst (2^w) s){t}{i j:Hz}(a:yaD w n t i j):
  yc T (k+4) yh1 [sen t,wn w n,.int i,.int j,.loc 0,.int s.2] st=.ok (.bl (due (mp w n i j s) t)) st:=
 zeo k (zmr h.w1 h.bn a.i a.j g) l.d (a.f s)
def wpE:Css:=match yu.body with
 |.cons _ (.cons (.ite _ _ e) _)=>e
 |x=>x
def wjB:Css:=match wpE with
 |.cons _ (.cons (.for _ _ b) _)=>b
 |x=>x
def wdB:Css:=match wjB with
 |.cons _ (.cons (.for _ _ b) _)=>b
 |x=>x
def zmm(k:Hy)(h:Wn w n)(l:LS st s B)(g:Gst (2^w) s)(b:s.1.length<1000000){r}(c:ROk r){I J:Hz}(d:big I)(f:big J){p0 p5:Option PV}:
  ∃a,LS a (yai (2^w) r s) B/\exs (yc T (k+4)) [p0,AA (.int I),AA (wn w n),AA (.loc 1),AA (.int (2^w)),p5,AA (.int J),AA (Pt.pv 0 (.row r))] st wdB=.nx [p0,AA (.int I),AA (wn w n),AA (.loc 1),AA (.int (2^w)),p5,AA (.int J),AA (Pt.pv 0 (.row r))] a:=by have j:=λst=>zd0 (k+2) h.bn d f r st;have m:=zeN (k+2) h.w1 h.w0 l.d g b c.f;let#[o,p]:=l.row (yai (2^w) r s).1 (yai (2^w) r s).2;let#[q,t,u]:=l.i;refine#[_,p,?_];rw[show Pt.pv 0 (.row r)=.tp AC [.str ybh,r.told]from rfl];generalize r.told=x,r.pv=y,(2:Hz)^w=W at *;simp! [wdB,wjB,wpE,yu,ix0,ix1,q,t,j,m,o,zx]
def zgE(k:Hy)(h:Wn w n){I J:Hz}(d:big I)(f:big J){p0 p5:Option PV}:∀(ps:Hx Pt)st s(u7:Option PV),(∀p∈ps,Pt.ok 0 p)->LS st s B->Gst (2^w) s->s.1.length+(stp w n 0 ps [I,J]).length<1000000 ->
  ∃a b,LS a (ya8 (2^w) (stp w n 0 ps [I,J]) s) (B&&yG (2^w) w n (stp w n 0 ps [I,J]) s)/\yaz (yc T (k+4)) (.n 7) wdB (ps.map (Pt.pv 0)) [p0,AA (.int I),AA (wn w n),AA (.loc 1),AA (.int (2^w)),p5,AA (.int J),u7] st=.nx [p0,AA (.int I),AA (wn w n),AA (.loc 1),AA (.int (2^w)),p5,AA (.int J),b] a
 |[],st,s,u7,_,l,_,_=>#[st,u7,by rw[show stp (w:Hz) n 0 [] [I,J]=[]from rfl,yG,CA];exact l,zw]
 |p::ps,st,s,u7,c,l,g,o=>by
  cases p with
  |rnd=>exact(c _ AO).elim
  |row r=>
   have j:ROk r:=c _ AO;have m:stp (w:Hz) n 0 (.row r::ps) [I,J]=.row r::stp (w:Hz) n 0 ps [I,J]:=by simp[stp,Pt.steps]
   rw[m,AQ]at o;let#[t,u,x]:=zmm k h l g () j d f (p0:=p0) (p5:=p5);have E:=zc0 (W:=2^w) r s;let#[y,z,A,C]:=zgE k h d f (p0:=p0) (p5:=p5) ps t _ (AA (Pt.pv 0 (.row r))) (λq D=>c q (AM _ D)) u (zej h.W2 j.f g) ();refine#[y,z,by rw[m];exact A,?_];rw[AN,zl (U1:=[p0,AA (.int I),AA (wn w n),AA (.loc 1),AA (.int (2^w)),p5,AA (.int J),AA (Pt.pv 0 (.row r))]) rfl,x];exact C
end
def zcN{A}{f:Hy->Hx A}{x:A}:∀{N J:Hy},J<N->x∈f J->x∈upTo f N
 |N+1,J,h,a=>by
  rw[upTo];rcases C9 J N with c|c
  .exact BJ _ (zcN c a)
  .rw[show J=N by lia]at a;exact Ab _ a
def zi5{A}(f:Hy->Hx A){i N:Hy}(h:i<=N):(upTo f i).length<=(upTo f N).length:=by have:=zdj (λ_=>AD) f (i:=i) N h;simpa only[G1] using this
section
variable {st:SO}{s:Ms}{B:IB}{w n:Hy}
def zjn(k:Hy)(h:Wn w n)(l:LS st s B)(g:Gst (2^w) s){t}{I j:Hz}(a:yaD w n t I j){s0 cn pv:PV}{p4 p7:Option PV}:
  ∃b,LS b s (B&&due (mp w n I j s) t) /\
   (∀d,ex (yc T (k+4)) [AA (.tp AC [s0,cn,sen t,pv]),AA (.int I),AA (wn w n),AA (.loc 1),p4,d,AA (.int j),p7] st (.six (.var 3) (.cst (.int 2)) (.and (.idx (.var 3) (.cst (.int 2))) (.call 74 (.cons (.idx (.var 0) (.cst (.int 2))) (.cons (.var 2) (.cons (.var 1) (.cons (.var 6) (.cons (.idx (.var 3) (.cst (.int 0))) (.cons (.idx (.var 3) (.cst (.int 1))) .nil)))))))))=.nx [AA (.tp AC [s0,cn,sen t,pv]),AA (.int I),AA (wn w n),AA (.loc 1),p4,d,AA (.int j),p7] b) /\
   (∀f,ex (yc T (k+4)) [AA (.tp AC [s0,cn,sen t,pv]),AA (.int I),AA (wn w n),AA (.loc 1),p4,AA (.int j),f,p7] st (.six (.var 3) (.cst (.int 2)) (.and (.idx (.var 3) (.cst (.int 2))) (.call 74 (.cons (.idx (.var 0) (.cst (.int 2))) (.cons (.var 2) (.cons (.var 1) (.cons (.var 5) (.cons (.idx (.var 3) (.cst (.int 0))) (.cons (.idx (.var 3) (.cst (.int 1))) .nil)))))))))=.nx [AA (.tp AC [s0,cn,sen t,pv]),AA (.int I),AA (wn w n),AA (.loc 1),p4,AA (.int j),f,p7] b):=by
 let#[m,o,p]:=l.i;let#[c,q]:=l.ask (B&&due (mp w n I j s) t);have e:=zi3 k h l g a;refine#[_,q,λd=>?_,λf=>?_]
 all_goals
  generalize sen t=r,wn w n=u,due (mp w n I j s) t=D at *
  cases B
  .rw[B9]at c ⊢;simp! [ix0,ix1,ix2,m,o,p,c,zx]
  .rw[Az]at c ⊢;simp! [ix0,ix1,ix2,m,o,p,e,c,zx]
def zgD(k:Hy)(h:Wn w n){I:Hz}(r:big I){ps:Hx Pt}(u:∀p∈ps,Pt.ok 0 p){t}{s0 cn:PV}{N:Hy}(G:N<=4000){z}(x:Gst (2^w) z)(f:Hy->Hx Stq)(hf:f=λ(J:Hy)=>yaw t ([I]++[(J:Hz)])::stp w n 0 ps ([I]++[(J:Hz)]))(d:∀a∈upTo f N,a.ok w n)(H:z.1.length+(upTo f N).length<1000000):∀(M j:Hy)st(p6 p7:Option PV),j+M=N->LS st (ya8 (2^w) (upTo f j) z) (B&&yG (2^w) w n (upTo f j) z) ->
  ∃c g m,LS c (ya8 (2^w) (upTo f N) z) (B&&yG (2^w) w n (upTo f N) z)/\yaz (yc T (k+4)) (.n 6) wjB (ye M (j:Hz) 1) [AA (.tp AC [s0,cn,sen t,pss 0 ps]),AA (.int I),AA (wn w n),AA (.loc 1),AA (.int (2^w)),AA (.int N),p6,p7] st=.nx [AA (.tp AC [s0,cn,sen t,pss 0 ps]),AA (.int I),AA (wn w n),AA (.loc 1),AA (.int (2^w)),AA (.int N),g,m] c
 |0,j,st,p6,p7,L,l=>by
  have:j=N:=()
  subst this;exact#[st,p6,p7,l,by rw[ye];exact zw]
 |M+1,j,st,p6,p7,L,l=>by
  have y:=zi5 f (show j+1<=N by lia);have o:f j=yaw t ([I]++[(j:Hz)])::stp w n 0 ps ([I]++[(j:Hz)]):=by rw[hf]
  have O:∀a∈upTo f j,a.ok w n:=λa b=>by
   have:∀{i},i<=N->∀a∈upTo f i,a∈upTo f N:=by
    intro i hi a b
    induction i with
    |zero=>cases b
    |succ i ih=>
     rw[upTo]at b;rcases Aw.1 b with b|b
     .exact ih () b
     .exact zcN () b
   exact d a (this () a b)
  rw[upTo,o,A8,AQ]at y;have A:=zbG h.W2 (upTo f j) z O x;have lj:=zbs (W:=2^w) (upTo f j) z;have U:yaD w n t I j:=d (yaw t ([I]++[(j:Hz)])) (zcN (show j<N by lia) (by rw[o];exact AO));have X:big (j:Hz):=by show (j:Hz).natAbs<_;lia
  let#[Y,Z,q,_]:=zjn k h l A U (s0:=s0) (cn:=cn) (pv:=pss 0 ps) (p4:=AA (.int (2^w))) (p7:=p7);let#[C,D,l2,E]:=zgE k h r X (p0:=AA (.tp AC [s0,cn,sen t,pss 0 ps])) (p5:=AA (.int N)) ps Y _ p7 u Z A (by erw[BF,BB]at y;lia);have en:upTo f (j+1)=upTo f j++(yaw t [I,(j:Hz)]::stp w n 0 ps [I,(j:Hz)]):=by rw[upTo,o];rfl
  let#[s3,g,m,l3,e3]:=zgD k h r u G x f hf d H (s0:=s0) (cn:=cn) M (j+1) C (AA (.int j)) D () (by rw[en,zaJ,zam];have ed:yaw t [I,(j:Hz)]=.ask t I j:=rfl;rw[ed,yG,<-Bm,<-Bm];exact l2)
  refine#[s3,g,m,l3,?_];have one:exs (yc T (k+4)) [AA (.tp AC [s0,cn,sen t,pss 0 ps]),AA (.int I),AA (wn w n),AA (.loc 1),AA (.int (2^w)),AA (.int N),AA (.int (j:Hz)),p7] st wjB=.nx [AA (.tp AC [s0,cn,sen t,pss 0 ps]),AA (.int I),AA (wn w n),AA (.loc 1),AA (.int (2^w)),AA (.int N),AA (.int (j:Hz)),D] C:=by have hb:wjB=.cons (.six (.var 3) (.cst (.int 2)) (.and (.idx (.var 3) (.cst (.int 2))) (.call 74 (.cons (.idx (.var 0) (.cst (.int 2))) (.cons (.var 2) (.cons (.var 1) (.cons (.var 6) (.cons (.idx (.var 3) (.cst (.int 0))) (.cons (.idx (.var 3) (.cst (.int 1))) .nil))))))))) (.cons (.for (.n 7) (.seq (.idx (.var 0) (.cst (.int 3)))) wdB) .nil):=rfl;have q:=q (AA (.int N));rw[hb,zq,q,th_nx];erw[pss,PV.tup]at E ⊢;generalize ps.map (Pt.pv 0)=vs at *;simp! [ix3,IC.seqOf,E]
  rw[ye,zl (U1:=[AA (.tp AC [s0,cn,sen t,pss 0 ps]),AA (.int I),AA (wn w n),AA (.loc 1),AA (.int (2^w)),AA (.int N),AA (.int (j:Hz)),p7]) rfl,one];exact e3
end
section
variable {st:SO}{s:Ms}{B:IB}{w n:Hy}
def zeV(k:Hy)(h:Wn w n)(l:LS st s B)(g:Gst (2^w) s)(b:s.1.length<1000000){r}(d:ROk r){I:Hz}(f:big I):
  ∃a,LS a (yai (2^w) r s) B/\yc T (k+5) yho [.tup [.str ybh,r.told],.int I,wn w n,.loc 1] st=.ok .non a:=by have j:=λst=>zfd (k+3) w (by have:=h.w1;lia) st;have m:=λst=>zd0 (k+2) h.bn f (show big (0:Hz)by decide) r st;have o:=zeN (k+2) h.w1 h.w0 l.d g b d.f;let#[p,q]:=l.row (yai (2^w) r s).1 (yai (2^w) r s).2;let#[t,u,x]:=l.i;have c:=zoq;refine#[_,q,?_];rw[zj (show T yho=AA yu from rfl) rfl rfl];generalize r.told=y,r.pv=z,(2:Hz)^w=W at *;simp! [yu,ix0,ix1,c,j,t,u,m,o,p,zx];rfl
def zpn(k:Hy)(h:Wn w n)(l:LS st s B)(g:Gst (2^w) s){I:Hz}(G:big I){p}(H:Pt.ok 1 p)(U:Pt.rd w n 1 p<=4000)(C:∀a∈Pt.steps w n 1 p [I],a.ok w n)(o:s.1.length+(Pt.steps w n 1 p [I]).length<1000000):
  ∃b,LS b (ya8 (2^w) (Pt.steps w n 1 p [I]) s) (B&&yG (2^w) w n (Pt.steps w n 1 p [I]) s)/\yc T (k+5) yho [Pt.pv 1 p,.int I,wn w n,.loc 1] st=.ok .non b:=by
 cases p with
 |row r=>
  rw[show Pt.steps (w:Hz) n 1 (.row r) [I]=[.row r]from rfl]at o ⊢;let#[b,D,e]:=zeV k h l g (by simp at o;lia) H G;exact#[b,by rw[yG,yG,CA];exact D,e]
 |rnd c m t d j=>
  let#[L,o2,o3,X]:=H;rw[Pt.steps]at C o ⊢;rw[Pt.rd]at U;generalize E:cnt c m t (w:Hz) n=N,hf:(λ(J:Hy)=>yaw d ([I]++[(J:Hz)])::j.flatMap λp=>Pt.steps (w:Hz) n 0 p ([I]++[(J:Hz)]))=f at *;have Y:N<=4000:=by have:=C2 N (show 0<1+(j.map (Pt.rd (w:Hz) n 0)).sum by lia);lia
  rw[A8]at o;erw[AQ,Ap]at o;have b4:=h.n1;have Z:=λst=>zfd (k+3) w (by have:=h.w1;lia) st;have M:=λst=>zdC (k+3) (c:=c) (w:=w) (n:=n) (L m (by simp)) (L t (by simp)) () () st;have q:=zee (c+m*n+t*w*n) st;have hz:((c+m*n+t*w*n).toNat:Hz)=(N:Hz):=by rw[<-E];rfl
  rw[hz]at q;have hr:ya9 (.int (N:Hz))=AA (ye N 0 1):=by erw[ya9];rw[ID ()];rfl
  have O:∀a∈upTo f N,a.ok w n:=λa q=>C a (BJ _ q);let#[s1,q6,q7,D,u]:=zgD k h G X (t:=d) (s0:=.str ybj) (cn:=.tup [.int c,.int m,.int t]) Y g f hf.symm O () N 0 st AF AF () (by rw[upTo,yG,CA];exact l);have aN:yaD w n d I N:=C (yaw d ([I]++[(N:Hz)])) (Ab _ AO);let#[s2,l2,_,A]:=zjn k h D (zbG h.W2 _ s O g) aN (s0:=.str ybj) (cn:=.tup [.int c,.int m,.int t]) (pv:=pss 0 j) (p4:=AA (.int (2^w))) (p7:=q7);refine#[s2,?_,?_]
  .rw[zaJ,zam];have ed:yaw d ([I]++[(N:Hz)])=.ask d I N:=rfl;rw[ed,yG,yG,CA,<-Bm];exact l2
  have hT:T yho=AA #[4,8,AC,yu.body]:=rfl
  have hb:yu.body=(match yu.body with
   |.cons a (.cons (.ite c r (.cons x (.cons (.for t i _) y))) z)=>.cons a (.cons (.ite c r (.cons x (.cons (.for t i wjB) y))) z)
   |x=>x):=rfl
  have A:=A q6;have u:yaz (yc T (k+4)) (.n 6) wjB (ye N 0 1) _ st=_:=u;have c1:=zou;rw[zj hT rfl rfl];dsimp only;rw[hb];rw[show Pt.pv 1 (.rnd c m t d j)=.tp AC [.str ybj,.tp AC [.int c,.int m,.int t],sen d,pss 0 j]from rfl];erw[PV.tup,wn]at u A M ⊢;generalize PV.tp AC [.int c,.int m,.int t]=cv,pss 0 j=pv,sen d=sv,c+m*n+t*w*n=z,(2:Hz)^w=W at *;simp! [yu,ix0,ix1,c1,Z,M,q,hr,u,A];rfl
def lhB:Css:=match yae.body with
 |.cons _ (.cons (.for _ _ b) _)=>b
 |x=>x
def lhE:Css:=match lhB with
 |.cons (.ite _ _ e) _=>e
 |x=>x
def liB:Css:=match lhE with
 |.cons _ (.cons (.for _ _ b) _)=>b
 |x=>x
def lkB:Css:=match liB with
 |.cons _ (.cons (.for _ _ b) _)=>b
 |x=>x
def zhv(k:Hy)(h:Wn w n){I:Hz}(m:big I){p0 p3 p4 p6 p7:Option PV}:∀(ps:Hx Pt)st s(B:IB)(u9:Option PV),(∀p∈ps,Pt.ok 1 p)->LS st s B->Gst (2^w) s->rds w n 1 ps<=4000->(∀a∈stp w n 1 ps [I],a.ok w n)->s.1.length+(stp w n 1 ps [I]).length<1000000 ->
  ∃b f,LS b (ya8 (2^w) (stp w n 1 ps [I]) s) (B&&yG (2^w) w n (stp w n 1 ps [I]) s)/\yaz (yc T (k+5)) (.n 9) lkB (ps.map (Pt.pv 1)) [p0,AA (.int w),AA (.int n),p3,p4,AA (.loc 1),p6,p7,AA (.int I),u9] st=.nx [p0,AA (.int w),AA (.int n),p3,p4,AA (.loc 1),p6,p7,AA (.int I),f] b
 |[],st,s,B,u9,_,l,_,_,_,_=>#[st,u9,by rw[show stp (w:Hz) n 1 [] [I]=[]from rfl,yG,CA];exact l,zw]
 |p::ps,st,s,B,u9,o,l,g,u,d,x=>by
  have j:stp (w:Hz) n 1 (p::ps) [I]=Pt.steps w n 1 p [I]++stp w n 1 ps [I]:=by simp[stp]
  have e9:rds (w:Hz) n 1 (p::ps)=Pt.rd w n 1 p+rds w n 1 ps:=by simp[rds]
  rw[j,A8]at x;rw[j]at d;rw[e9]at u;let#[r,y,t]:=zpn k h l g m (o p AO) () (λa c=>d a (BJ _ c)) ();have G:=zbs (W:=2^w) (Pt.steps w n 1 p [I]) s;let#[z,A,C,D]:=zhv k h m (p0:=p0) (p3:=p3) (p4:=p4) (p6:=p6) (p7:=p7) ps r _ _ (AA (Pt.pv 1 p)) (λq E=>o q (AM _ E)) y (zbG h.W2 _ s (λa c=>d a (BJ _ c)) g) () (λa c=>d a (Ab _ c)) ();refine#[z,A,by rw[j,zaJ,zam,<-Bm];exact C,?_];have one:exs (yc T (k+5)) [p0,AA (.int w),AA (.int n),p3,p4,AA (.loc 1),p6,p7,AA (.int I),AA (Pt.pv 1 p)] st lkB=.nx [p0,AA (.int w),AA (.int n),p3,p4,AA (.loc 1),p6,p7,AA (.int I),AA (Pt.pv 1 p)] r:=by erw[wn,PV.tup]at t;generalize Pt.pv 1 p=v at *;simp! [lkB,liB,lhE,lhB,yae,t]
  rw[AN,zl (U1:=[p0,AA (.int w),AA (.int n),p3,p4,AA (.loc 1),p6,p7,AA (.int I),AA (Pt.pv 1 p)]) rfl,one];exact D
end
section
variable {st:SO}{s:Ms}{B:IB}{w n:Hy}
def zjs(k:Hy)(h:Wn w n)(l:LS st s B)(g:Gst (2^w) s){t}{j:Hz}(a:yaD w n t j 0){s0 cn pv:PV}{p0 p3 p4 p9:Option PV}:
  ∃b,LS b s (B&&due (mp w n j 0 s) t) /\
   (∀d,ex (yc T (k+4)) [p0,AA (.int w),AA (.int n),p3,p4,AA (.loc 1),AA (.tp AC [s0,cn,sen t,pv]),d,AA (.int j),p9] st (.six (.var 5) (.cst (.int 2)) (.and (.idx (.var 5) (.cst (.int 2))) (.call 74 (.cons (.idx (.var 6) (.cst (.int 2))) (.cons (.tup (.cons (.var 1) (.cons (.var 2) .nil))) (.cons (.var 8) (.cons (.cst (.int 0)) (.cons (.idx (.var 5) (.cst (.int 0))) (.cons (.idx (.var 5) (.cst (.int 1))) .nil)))))))))=.nx [p0,AA (.int w),AA (.int n),p3,p4,AA (.loc 1),AA (.tp AC [s0,cn,sen t,pv]),d,AA (.int j),p9] b) /\
   (∀f,ex (yc T (k+4)) [p0,AA (.int w),AA (.int n),p3,p4,AA (.loc 1),AA (.tp AC [s0,cn,sen t,pv]),AA (.int j),f,p9] st (.six (.var 5) (.cst (.int 2)) (.and (.idx (.var 5) (.cst (.int 2))) (.call 74 (.cons (.idx (.var 6) (.cst (.int 2))) (.cons (.tup (.cons (.var 1) (.cons (.var 2) .nil))) (.cons (.var 7) (.cons (.cst (.int 0)) (.cons (.idx (.var 5) (.cst (.int 0))) (.cons (.idx (.var 5) (.cst (.int 1))) .nil)))))))))=.nx [p0,AA (.int w),AA (.int n),p3,p4,AA (.loc 1),AA (.tp AC [s0,cn,sen t,pv]),AA (.int j),f,p9] b):=by
 let#[m,o,p]:=l.i;let#[c,q]:=l.ask (B&&due (mp w n j 0 s) t);have e:=zi3 k h l g a;refine#[_,q,λd=>?_,λf=>?_]
 all_goals
  erw[wn,PV.tup]at e;generalize sen t=r,due (mp w n j 0 s) t=D at *
  cases B
  .rw[B9]at c ⊢;simp! [ix0,ix1,ix2,m,o,p,c,zx]
  .rw[Az]at c ⊢;simp! [ix0,ix1,ix2,m,o,p,e,c,zx]
def zfW(k:Hy)(h:Wn w n){ps:Hx Pt}(r:∀p∈ps,Pt.ok 1 p){t}{s0 cn:PV}{N:Hy}(E:N*(1+rds w n 1 ps)<=4000){z}(u:Gst (2^w) z)(f:Hy->Hx Stq)(hf:f=λ(J:Hy)=>yaw t ([]++[(J:Hz)])::stp w n 1 ps ([]++[(J:Hz)]))(d:∀a∈upTo f N,a.ok w n)(G:z.1.length+(upTo f N).length<1000000){p0 p3 p4:Option PV}:∀(M j:Hy)st(p8 p9:Option PV),j+M=N->LS st (ya8 (2^w) (upTo f j) z) (B&&yG (2^w) w n (upTo f j) z) ->
  ∃c o q,LS c (ya8 (2^w) (upTo f N) z) (B&&yG (2^w) w n (upTo f N) z)/\yaz (yc T (k+5)) (.n 8) liB (ye M (j:Hz) 1) [p0,AA (.int w),AA (.int n),p3,p4,AA (.loc 1),AA (.tp AC [s0,cn,sen t,pss 1 ps]),AA (.int N),p8,p9] st=.nx [p0,AA (.int w),AA (.int n),p3,p4,AA (.loc 1),AA (.tp AC [s0,cn,sen t,pss 1 ps]),AA (.int N),o,q] c
 |0,j,st,p8,p9,H,l=>by
  have:j=N:=()
  subst this;exact#[st,p8,p9,l,by rw[ye];exact zw]
 |M+1,j,st,p8,p9,H,l=>by
  have x:=zi5 f (show j+1<=N by lia);have g:f j=yaw t ([]++[(j:Hz)])::stp w n 1 ps ([]++[(j:Hz)]):=by rw[hf]
  have I:∀a∈upTo f j,a.ok w n:=λa b=>by
   have:∀{i},i<=N->∀a∈upTo f i,a∈upTo f N:=by
    intro i hi a b
    induction i with
    |zero=>cases b
    |succ i ih=>
     rw[upTo]at b;rcases Aw.1 b with b|b
     .exact ih () b
     .exact zcN () b
   exact d a (this () a b)
  rw[upTo,g,A8,AQ]at x;have y:=zbG h.W2 (upTo f j) z I u;have lj:=zbs (W:=2^w) (upTo f j) z;have L:yaD w n t j 0:=by have:=d (yaw t ([]++[(j:Hz)])) (zcN (show j<N by lia) (by rw[g];exact AO));simpa [yaw,Stq.ok] using this
  have O:rds w n 1 ps<=4000:=by have:=Hy.le_mul_of_pos_left (1+rds (w:Hz) n 1 ps) (show 0<N by lia);lia
  have jN:N<=4000:=by have:=C2 N (show 0<1+rds (w:Hz) n 1 ps by lia);lia
  have U:big (j:Hz):=by show (j:Hz).natAbs<_;lia
  let#[X,Y,m,_]:=zjs (k+1) h l y L (s0:=s0) (cn:=cn) (pv:=pss 1 ps) (p0:=p0) (p3:=p3) (p4:=p4) (p9:=p9);let#[A,C,Z,D]:=zhv k h U (p0:=p0) (p3:=p3) (p4:=p4) (p6:=AA (.tp AC [s0,cn,sen t,pss 1 ps])) (p7:=AA (.int N)) ps X _ _ p9 r Y y O (λa b=>d a (zcN (show j<N by lia) (by rw[g];exact AM _ b))) (by erw[BB]at x;lia);have en:upTo f (j+1)=upTo f j++(yaw t [(j:Hz)]::stp w n 1 ps [(j:Hz)]):=by rw[upTo,g];rfl
  let#[s3,o,q,l3,e3]:=zfW k h r E u f hf d G (s0:=s0) (cn:=cn) (p0:=p0) (p3:=p3) (p4:=p4) M (j+1) A (AA (.int j)) C () (by rw[en,zaJ,zam];have ed:yaw t [(j:Hz)]=.ask t j 0:=rfl;rw[ed,yG,<-Bm,<-Bm];exact Z)
  refine#[s3,o,q,l3,?_];have one:exs (yc T (k+5)) [p0,AA (.int w),AA (.int n),p3,p4,AA (.loc 1),AA (.tp AC [s0,cn,sen t,pss 1 ps]),AA (.int N),AA (.int (j:Hz)),p9] st liB=.nx [p0,AA (.int w),AA (.int n),p3,p4,AA (.loc 1),AA (.tp AC [s0,cn,sen t,pss 1 ps]),AA (.int N),AA (.int (j:Hz)),C] A:=by have hb:liB=.cons (.six (.var 5) (.cst (.int 2)) (.and (.idx (.var 5) (.cst (.int 2))) (.call 74 (.cons (.idx (.var 6) (.cst (.int 2))) (.cons (.tup (.cons (.var 1) (.cons (.var 2) .nil))) (.cons (.var 8) (.cons (.cst (.int 0)) (.cons (.idx (.var 5) (.cst (.int 0))) (.cons (.idx (.var 5) (.cst (.int 1))) .nil))))))))) (.cons (.for (.n 9) (.seq (.idx (.var 6) (.cst (.int 3)))) lkB) .nil):=rfl;have m:=m (AA (.int N));rw[show k+1+4=k+5 by lia]at m;rw[hb,zq,m,th_nx];erw[pss,PV.tup]at D ⊢;generalize ps.map (Pt.pv 1)=vs at *;simp! [ix3,IC.seqOf,D]
  rw[ye,zl (U1:=[p0,AA (.int w),AA (.int n),p3,p4,AA (.loc 1),AA (.tp AC [s0,cn,sen t,pss 1 ps]),AA (.int N),AA (.int (j:Hz)),p9]) rfl,one];exact e3
def zlj(k:Hy)(h:Wn w n)(l:LS st s B)(g:Gst (2^w) s){p}(I:Pt.ok 2 p)(L:Pt.rd w n 2 p<=4000)(E:∀a∈Pt.steps w n 2 p [],a.ok w n)(o:s.1.length+(Pt.steps w n 2 p []).length<1000000){p0 p3 p4 p7 p8 p9:Option PV}:
  ∃b X u A,LS b (ya8 (2^w) (Pt.steps w n 2 p []) s) (B&&yG (2^w) w n (Pt.steps w n 2 p []) s)/\exs (yc T (k+5)) [p0,AA (.int w),AA (.int n),p3,p4,AA (.loc 1),AA (Pt.pv 2 p),p7,p8,p9] st lhB=.nx [p0,AA (.int w),AA (.int n),p3,p4,AA (.loc 1),AA (Pt.pv 2 p),X,u,A] b:=by
 have b4:=h.n1
 cases p with
 |row r=>
  rw[show Pt.steps (w:Hz) n 2 (.row r) []=[.row r]from rfl]at o ⊢;let#[b,G,e]:=zeV k h l g (by simp at o;lia) I (show big (0:Hz)by decide);refine#[b,p7,p8,p9,by rw[yG,yG,CA];exact G,?_];have c:=zoq;rw[show Pt.pv 2 (.row r)=.tp AC [.str ybh,r.told]from rfl];erw[wn,PV.tup]at e;generalize r.told=v at *;simp! [lhB,yae,ix0,c,e]
 |rnd c m t d j=>
  let#[M,o2,o3,Y]:=I;rw[Pt.steps]at E o ⊢;rw[Pt.rd]at L;generalize H:cnt c m t (w:Hz) n=N,hf:(λ(J:Hy)=>yaw d ([]++[(J:Hz)])::j.flatMap λp=>Pt.steps (w:Hz) n 1 p ([]++[(J:Hz)]))=f at *;rw[A8]at o;erw[AQ,Ap]at o;have nN:N<=4000:=by have:=C2 N (show 0<1+(j.map (Pt.rd (w:Hz) n 1)).sum by lia);lia
  have O:=λst=>zdC (k+4) (c:=c) (w:=w) (n:=n) (M m (by simp)) (M t (by simp)) () () st;have C:=zee (c+m*n+t*w*n) st;have Z:((c+m*n+t*w*n).toNat:Hz)=(N:Hz):=by rw[<-H];rfl
  rw[Z]at C;have hr:ya9 (.int (N:Hz))=AA (ye N 0 1):=by erw[ya9];rw[ID ()];rfl
  have U:∀a∈upTo f N,a.ok w n:=λa C=>E a (BJ _ C);let#[s1,u,A,G,D]:=zfW k h Y (t:=d) (s0:=.str ybj) (cn:=.tup [.int c,.int m,.int t]) L g f hf.symm U () (p0:=p0) (p3:=p3) (p4:=p4) N 0 st p8 p9 () (by rw[upTo,yG,CA];exact l);have aN:yaD w n d N 0:=by have:=E (yaw d ([]++[(N:Hz)])) (Ab _ AO);simpa [yaw,Stq.ok] using this
  let#[s2,l2,_,q]:=zjs (k+1) h G (zbG h.W2 _ s U g) aN (s0:=.str ybj) (cn:=.tup [.int c,.int m,.int t]) (pv:=pss 1 j) (p0:=p0) (p3:=p3) (p4:=p4) (p9:=A);refine#[s2,AA (.int N),u,A,?_,?_]
  .rw[zaJ,zam];have ed:yaw d ([]++[(N:Hz)])=.ask d N 0:=rfl;rw[ed,yG,yG,CA,<-Bm];exact l2
  have hb:lhB=(match lhB with
   |.cons (.ite c r (.cons x (.cons (.for t i _) y))) z=>.cons (.ite c r (.cons x (.cons (.for t i liB) y))) z
   |x=>x):=rfl
  have q:=q u;rw[show k+1+4=k+5 by lia]at q;have D:yaz (yc T (k+5)) (.n 8) liB (ye N 0 1) _ st=_:=D;have c1:=zou;rw[hb];rw[show Pt.pv 2 (.rnd c m t d j)=.tp AC [.str ybj,.tp AC [.int c,.int m,.int t],sen d,pss 1 j]from rfl];erw[PV.tup]at D q O ⊢;generalize PV.tp AC [.int c,.int m,.int t]=cv,pss 1 j=pv,sen d=sv,c+m*n+t*w*n=z at *;simp! [lhB,yae,ix0,ix1,c1,O,C,hr,D,q]
def zg1(k:Hy)(h:Wn w n){p0 p3 p4:Option PV}:∀(ps:Hx Pt)st s(B:IB)(p6 p7 p8 p9:Option PV),(∀p∈ps,Pt.ok 2 p)->LS st s B->Gst (2^w) s->rds w n 2 ps<=4000->(∀a∈stp w n 2 ps [],a.ok w n)->s.1.length+(stp w n 2 ps []).length<1000000 ->
  ∃b f j m o,LS b (ya8 (2^w) (stp w n 2 ps []) s) (B&&yG (2^w) w n (stp w n 2 ps []) s)/\yaz (yc T (k+5)) (.n 6) lhB (ps.map (Pt.pv 2)) [p0,AA (.int w),AA (.int n),p3,p4,AA (.loc 1),p6,p7,p8,p9] st=.nx [p0,AA (.int w),AA (.int n),p3,p4,AA (.loc 1),f,j,m,o] b
 |[],st,s,B,p6,p7,p8,p9,_,l,_,_,_,_=>#[st,p6,p7,p8,p9,by rw[show stp (w:Hz) n 2 [] []=[]from rfl,yG,CA];exact l,zw]
 |p::ps,st,s,B,p6,p7,p8,p9,t,l,g,u,d,x=>by
  have r:stp (w:Hz) n 2 (p::ps) []=Pt.steps w n 2 p []++stp w n 2 ps []:=by simp[stp]
  have e9:rds (w:Hz) n 2 (p::ps)=Pt.rd w n 2 p+rds w n 2 ps:=by simp[rds]
  rw[r,A8]at x;rw[r]at d;rw[e9]at u;let#[y,z,A,r9,C,D]:=zlj k h l g (t p AO) () (λa c=>d a (BJ _ c)) () (p0:=p0) (p3:=p3) (p4:=p4) (p7:=p7) (p8:=p8) (p9:=p9);have J:=zbs (W:=2^w) (Pt.steps w n 2 p []) s;let#[E,f,j,m,o,G,H]:=zg1 k h (p0:=p0) (p3:=p3) (p4:=p4) ps y _ _ (AA (Pt.pv 2 p)) z A r9 (λq I=>t q (AM _ I)) C (zbG h.W2 _ s (λa c=>d a (BJ _ c)) g) () (λa c=>d a (Ab _ c)) ();refine#[E,f,j,m,o,by rw[r,zaJ,zam,<-Bm];exact G,?_];rw[AN,zl (U1:=[p0,AA (.int w),AA (.int n),p3,p4,AA (.loc 1),AA (Pt.pv 2 p),p7,p8,p9]) rfl,D];exact H
def bgB(l:AT):Css:=.cons (.dput (.var 4) (.tup (.cons (.cst (.str l)) (.cons (.var 5) .nil))) (.var 6)) .nil
def zd1(c){l}(g:ltr l){p0 p1 p2 p3:Option PV}:∀(b:Hx Hz)(i:Hy)(a:Kv)(p5 p6:Option PV),a.length+b.length<1000000 ->
  ∃d f,yaz c (.t [5,6]) (bgB l) (yK i (b.map .int)) [p0,p1,p2,p3,AA (.loc 0),p5,p6] [.dct AD a]=.nx [p0,p1,p2,p3,AA (.loc 0),d,f] [.dct AD (yaP l i b a)]
 |[],i,a,p5,p6,_=>#[p5,p6,rfl]
 |v::b,i,a,p5,p6,h=>by
  rw[AQ]at h;have m:=zfe (q:=(l,(i:Hz))) (v:=v) (c:=a);let#[d,f,e]:=zd1 c g (p0:=p0) (p1:=p1) (p2:=p2) (p3:=p3) b (i+1) (ku (l,(i:Hz)) v a) (AA (.int i)) (AA (.int v)) ();refine#[d,f,?_];have j:=zot (st:=[.dct AD a]) (L:=0) (q:=(l,(i:Hz))) (v:=v) g rfl ();erw[kq,PV.tup,Ag]at j;rw[AN,yK,zl (U1:=[p0,p1,p2,p3,AA (.loc 0),AA (.int i),AA (.int v)]) rfl];have one:exs c [p0,p1,p2,p3,AA (.loc 0),AA (.int (i:Hz)),AA (.int v)] [.dct AD a] (bgB l)=.nx [p0,p1,p2,p3,AA (.loc 0),AA (.int (i:Hz)),AA (.int v)] [.dct AD (ku (l,(i:Hz)) v a)]:=by simp! [bgB,zcO,j,zx]
  rw[one];exact e
theorem begun(k:Hy)(h:Wn w n)(x y:Hz):yc T (k+3) yiZ [.int w,.int n,.int x,.int y] []=.ok (.loc 0) [.dct AD (ybJ (2^w) n x y)]:=by
 have a:=λst=>words k x w n h.w1 (by have:=h.n1;lia) st;have eB:=λst=>words k y w n h.w1 (by have:=h.n1;lia) st;have p:=zL (2^w) n x;have q:=zL (2^w) n y;have r:=h.n1;have fl:=zbi (l:=sL 97) (yE (2^w) n x) 0 [];erw[Ap]at fl;let#[b,d,f]:=zd1 (yc T (k+2)) (zfS (c:=97) (by simp)) (p0:=AA (.int w)) (p1:=AA (.int n)) (p2:=AA (.int x)) (p3:=AA (.int y)) (yE (2^w) n x) 0 [] AF AF (by erw[Ap];lia);let#[u,z,g]:=zd1 (yc T (k+2)) (zfS (c:=98) (by simp)) (p0:=AA (.int w)) (p1:=AA (.int n)) (p2:=AA (.int x)) (p3:=AA (.int y)) (yE (2^w) n y) 0 (yaP (sL 97) 0 (yE (2^w) n x) []) b d ();have j:yaI.body=.cons (.asg (.n 4) (.dict0 AD)) (.cons (.for (.t [5,6]) (.enum (.call 64 (.cons (.var 2) (.cons (.var 0) (.cons (.var 1) .nil))))) (bgB (sL 97))) (.cons (.for (.t [5,6]) (.enum (.call 64 (.cons (.var 3) (.cons (.var 0) (.cons (.var 1) .nil))))) (bgB (sL 98))) (.cons (.ret (.var 4)) .nil))):=by rw[<-sa,<-sb];rfl
 have m:T yiZ=AA #[4,7,AC,yaI.body]:=rfl;rw[zj m rfl rfl];dsimp only;rw[j];erw[PV.tup]at a eB;have o:([]:SO).length=0:=rfl;simp! [a,eB,f,g,o];rfl
def zhR(k:Hy)(h:Wn w n){ps:Hx Pt}(x y:Hz)(f:∀p∈ps,Pt.ok 2 p)(g:rds w n 2 ps<=4000)(A:(stp w n 2 ps []).length<900000)(j:∀a∈stp w n 2 ps [],a.ok w n)(st:SO):
  yc T (k+6) yh2 [pss 2 ps,.int w,.int n,.int x,.int y] st=.ok (.bl (yG (2^w) w n (stp w n 2 ps []) (ybJ (2^w) n x y,0))) st:=by
 have l:=begun (k+2) h x y;have B:=zgh (w:=w) (n:=n) (x:=x) (y:=y);have C:=h.n1;have m:LS [.dct AD (ybJ (2^w) n x y),.lst [.loc 0,.int 0,.bl AD]] (ybJ (2^w) n x y,0) true:=#[rfl,rfl];let#[E,G,H,I,J,c,d]:=zg1 k h (p0:=AA (pss 2 ps)) (p3:=AA (.int x)) (p4:=AA (.int y)) ps _ _ _ AF AF AF AF f m zjt g j (by simp only;lia);rw[Az]at c;let#[_,_,o]:=c.i;have q:nLs [pss 2 ps,.int w,.int n,.int x,.int y]=true:=by simp[nLs,nL,zcD]
 have u:T yh2=AA #[5,10,AD,yae.body]:=rfl
 have z:yae.body=(match yae.body with
  |.cons a (.cons (.for t i _) r)=>.cons a (.cons (.for t i lhB) r)
  |x=>x):=rfl
 rw[zh u rfl rfl q];dsimp only;rw[z];erw[pss,PV.tup]at d ⊢;generalize yG (2^w) w n (stp w n 2 ps []) (ybJ (2^w) n x y,0)=D,ps.map (Pt.pv 2)=L at *;generalize ybJ (2^w) n x y=M at *;have ap:∀a b:Ob,([a]:SO)++[b]=[a,b]:=λ_ _=>rfl;have ln:∀a:Ob,([a]:SO).length=1:=λ_=>rfl;simp! [yae,l,ap,ln,IC.seqOf,d,o];rfl
end
def Pt.ln(w n:Hz):(d:Hy)->Pt->Hy
 |d+1,.rnd c m t _ a=>cnt c m t w n*(1+(a.map (Pt.ln w n d)).sum)+1
 |_,_=>1
def zer(w n:Hz):∀(d:Hy)p G,(Pt.steps w n d p G).length<=Pt.ln w n d p
 |0,.row r,G=>AS _
 |0,.rnd _ _ _ _ _,G=>BP _
 |d+1,.row r,G=>AS _
 |d+1,.rnd c m t s a,G=>by
  rw[Pt.steps,Pt.ln,A8];refine FN ?_ (AS _);have b:∀G,(a.flatMap λp=>Pt.steps w n d p G).length<=(a.map (Pt.ln w n d)).sum:=λG=>by
   clear c m t s
   induction a with
   |nil=>exact AS _
   |cons p a ih=>
    rw[Hx.flatMap_cons,A8,AN,D0];exact FN (zer w n d p G) ih
  generalize cnt c m t w n=N
  induction N with
  |zero=>simp[upTo]
  |succ N ih=>
   rw[upTo,A8,AQ,Ha];have:=b (G++[(N:Hz)]);lia
def zlx(w n:Hz):∀(d:Hy) (p:Pt),Pt.rd w n d p<=Pt.ln w n d p
 |0,.row r=>BP _
 |0,.rnd _ _ _ _ _=>BP _
 |d+1,.row r=>BP _
 |d+1,.rnd c m t s a=>by
  rw[Pt.rd,Pt.ln];refine GA (Hy.mul_le_mul_left _ (FX ?_ _))
  clear c m t s
  induction a with
  |nil=>exact AS _
  |cons p a ih=>
   rw[AN,AN,D0,D0];exact FN (zlx w n d p) ih
def ybX(x:Hz):Prop:=0<=x/\x<=400
def Pt.fit(w n:Hz):(d:Hy)->Pt->Prop
 |_,.row r=>ROk r
 |d+1,.rnd c m t s a=>(∀i j,ybX i->ybX j->yaD w n s i j)/\cnt c m t w n<=400/\∀p∈a,Pt.fit w n d p
 |0,_=>IK
def zhG{w n:Hz}{s}(h:∀i j,ybX i->ybX j->yaD w n s i j){G:Hx Hz}(c:∀x∈G,ybX x):(yaw s G).ok w n:=by
 have z:ybX 0:=#[by decide,by decide];rcases G with _|⟨a,_|⟨b,G⟩⟩
 .exact h _ _ z z
 .exact h _ _ (c a (by simp)) z
 .exact h _ _ (c a (by simp)) (c b (by simp))
def zdl{w n:Hz}:∀(d:Hy) (p:Pt) (G:Hx Hz),Pt.fit w n d p->(∀x∈G,ybX x)->∀a∈Pt.steps w n d p G,a.ok w n
 |0,.row r,G,h,g,a,b=>by rw[As.1 b];exact h
 |0,.rnd _ _ _ _ _,G,h,g,a,b=>h.elim
 |d+1,.row r,G,h,g,a,b=>by rw[As.1 b];exact h
 |d+1,.rnd c m t s q,G,h,g,a,b=>by
  let#[l,o,u]:=h;have j:∀J:Hy,J<=400->∀x∈G++[(J:Hz)],ybX x:=λJ z x f=>by
   rcases Aw.1 f with f|f
   .exact g x f
   .rw[As.1 f];exact#[(),()]
  rw[Pt.steps]at b;rcases Aw.1 b with b|b
  .have:∀N,N<=400->a∈upTo (λ(J:Hy)=>yaw s (G++[(J:Hz)])::q.flatMap λp=>Pt.steps w n d p (G++[(J:Hz)])) N->a.ok w n:=by
    intro N
    induction N with
    |zero=>intro _ h;cases h
    |succ N ih=>
     intro A h;rw[upTo]at h;rcases Aw.1 h with h|h
     .exact ih () h
     .rcases AV.1 h with rfl|h
      .exact zhG l (j N ())
      .let#[p,y,h]:=G3.1 h;exact zdl d p _ (u p y) (j N ()) a h
   exact this _ o b
  .rw[As.1 b];exact zhG l (j _ o)
structure Gpt(w n:Hy)(p:Pt):Prop where
 ok:Pt.ok 2 p
 fit:Pt.fit w n 2 p
 ln:Pt.ln w n 2 p<=600
theorem sums{w n:Hy}:∀{ps:Hx Pt},(∀p∈ps,Gpt w n p)->(stp (w:Hz) n 2 ps []).length<=600*ps.length/\rds (w:Hz) n 2 ps<=600*ps.length
 |[],_=>#[AS _,AS _]
 |p::ps,h=>by
  let#[a,b]:=sums λq c=>h q (AM _ c);have l:=(h p AO).ln;have d:stp (w:Hz) n 2 (p::ps) []=Pt.steps w n 2 p []++stp w n 2 ps []:=by simp[stp]
  have e9:rds (w:Hz) n 2 (p::ps)=Pt.rd w n 2 p+rds w n 2 ps:=by simp[rds]
  have f:=zer w n 2 p [];have g:=zlx w n 2 p;rw[d,e9,A8,AQ];lia
theorem both(k:Hy){w n:Hy}(h:Wn w n){ps:Hx Pt}(d:∀p∈ps,Gpt w n p)(l:ps.length<=6)(x y:Hz):∃b:IB,(∀st,yc T (19+k) yhX [pss 2 ps,.int w,.int n,.int x,.int y] st=.ok (.bl b) st)/\∀st,yc T (19+k) yh2 [pss 2 ps,.int w,.int n,.int x,.int y] st=.ok (.bl b) st:=by
 let#[a,b]:=sums d;have m:nR (stp (w:Hz) n 2 ps [])<=(stp (w:Hz) n 2 ps []).length:=Hx.countP_le_length;have g:∀a∈stp (w:Hz) n 2 ps [],a.ok w n:=λa f=>by let#[p,c,f]:=G3.1 f;exact zdl 2 p [] (d p c).fit (λx j=>by cases j) a f
 refine#[_,λst=>held k h.w1 h.w0 h.n1 x y () (λp c=>(d p c).ok) () () () g st,λst=>?_];rw[show 19+k=13+k+6 by lia];exact zhR (13+k) h x y (λp c=>(d p c).ok) () () g st
abbrev yb:E6:=(0,0,0,0,0,0)
def slT(l:IU)(hi:Hz×Hz×Hz×Hz):Tm:=#[1,yb,[.sl (AE l) (0,0,0,0) hi]]
def knT(f:Hz)(x:E6):Tm:=#[f,x,[]]
abbrev ycp(a:Hz):Hx Tm:=[slT "c" (2,0,0,0),knT (-1) (a,1,0,0,0,0)]
abbrev inS:Hx Tm:=[slT "d" (1,0,0,0),knT (-1) (0,0,1,0,0,0)]
abbrev keS(v:Hz):Hx Tm:=[slT "a" (0,0,0,1),knT v yb]
abbrev onS(l:IU):Hx Tm:=[slT l (1,0,0,0),knT (-1) yb]
def pOn(l:IU):Pt:=.rnd 1 0 0 (onS l) [.row (.set (ql l 0) 1)]
abbrev deP:Hx Pt:=[.row (.mark 0),.row (.twice (ql "d" 0) (ql "d" 0))]
abbrev ro1(m:Hz):Hx Pt:=[.row (.mark m),.row (.twice (ql "c" 0) (ql "c" 0)),.row (.twice (ql "c" 1) (ql "c" 1))]
abbrev ro2(t:Hz):Hx Pt:=[.row (.set (ql "d" 0) 1),.rnd t 1 0 inS deP]
def yb6(t a m:Hz)(o:Hx Pt):Pt:=.rnd t 0 0 (ycp a) (ro1 m++o)
def pKe(t v:Hz):Pt:=.rnd t 0 0 (keS v) []
def pGq:Pt:=.rnd 1 0 0 [] [pOn "g"]
def pLo(c b a y:Hz):Pt:=.rnd c b 0 [knT 0 (a,y,0,0,0,0)] []
def Ltr(l:IU):Prop:=(∀st,yc T 3 yi [.str (AE l)] st=.ok (.bl AD) st)/\ltr (AE l)
def zjW:(["c","d","a","f","g"].all λl=>isOk (yc T 3 yi [.str (AE l)] []) (.bl AD))=true:=∅
def zcz:∀l∈["c","d","a","f","g"],Ltr l:=λl h=>by
 refine#[λst=>zos (k:=2) (show T yi=AA yhs from rfl) rfl rfl rfl (zdc (BA.1 zjW l h)) 0 st,?_];let#[a,b,hf,c,d]:=zeS;erw[AV,A9,II]at h;rcases h with rfl|rfl|rfl|rfl|rfl
 .exact a
 .exact b
 .exact d
 .exact hf
 .exact c
def zmA{l}(h:Ltr l){hi:Hz×Hz×Hz×Hz}(d:∀x∈[hi.1,hi.2.1,hi.2.2.1,hi.2.2.2],x.natAbs<=200):yca (slT l hi) where
 f:=by show (1:Hz).natAbs<_;decide
 x:=by intro y g;erw[slT,AV,A9,II,Ic]at g;subst g;decide
 s:=by
  intro t j;rw[slT,As]at j;subst j;refine#[λm b c e=>?_,λm b c e x a=>?_]
  .cases e;exact h
  .cases e
   erw[AV,A9,II]at a d;rcases a with rfl|rfl|rfl|rfl|a
   .decide
   .decide
   .decide
   .decide
   .exact d _ a
 n:=by show 1<=2;decide
def zhF{f:Hz}{x:E6}(hf:f.natAbs<10000000000000000000000000000000000000000)(a:∀y∈[x.1,x.2.1,x.2.2.1,x.2.2.2.1,x.2.2.2.2.1,x.2.2.2.2.2],y.natAbs<=200):yca (knT f x):=#[hf,a,λ_ h=>(by cases h),BP _]
def zc2{l}(h:Ltr l){hi}{p:Mp}(b:0<=pl hi p.n p.i p.j/\pl hi p.n p.i p.j<=4):(slT l hi).fine p/\(slT l hi).lf p:=by
 have z:pl (0,0,0,0) p.n p.i p.j=0:=by simp[pl]
 refine#[#[by show (1:Hz).natAbs<_;decide,λt a=>?_,by show 1<=10;decide],.inl (by show (1:Hz).natAbs<_;decide)];rw[slT,As]at a;subst a;refine#[h.2,by rw[z];rfl,?_,by rw[z];lia];erw[bd,AL,IA];lia
def zcB{f:Hz}{x:E6}{p}(hf:wid f)(a:big f \/ ex6 p x<=60):(knT f x).fine p/\(knT f x).lf p:=#[#[hf,λ_ h=>(by cases h),BP _],a]
def zcx{w n:Hz}{a b:Tm}{i j:Hz}(hi:ybX i)(c:ybX j)(g:∀s,a.fine (mp w n i j s)/\a.lf (mp w n i j s))(m:∀s,b.fine (mp w n i j s)/\b.lf (mp w n i j s)):yaD w n [a,b] i j where
 f:=λs t d=>by
  erw[AV,A9,II]at d;rcases d with rfl|rfl
  .exact g s
  .exact m s
 l:=by show 2<=20;decide
 i:=by have:=hi.1;have:=hi.2;show i.natAbs<_;lia
 j:=by have:=c.1;have:=c.2;show j.natAbs<_;lia
def zoC(a:Hz)(n i j:Hz):pl (a,0,0,0) n i j=a:=by simp[pl]
def zeH{a b}(d:yca a)(f:yca b):(∀t∈[a,b],yca t)/\[a,b].length<=20:=#[λt c=>by
 erw[AV,A9,II]at c;rcases c with rfl|rfl
 .exact d
 .exact f,by show 2<=20;decide]
def zov{f:Hz}(h:big f):wid f:=HS h ⋯
def zoo:big (-1):=by decide
def zoD{l}(h:Ltr l)(a:Hz)(a0:0<=a)(a1:a<=4):yca (slT l (a,0,0,0)):=zmA h λx b=>by erw[AV,A9,II,Ic]at b;rcases b with rfl|rfl<;>lia
section
variable {w n:Hy}
def zhB{l}(c:Ltr l)(f:ROk (.set (ql l 0) 1)):(∀d,Pt.ok (d+1) (pOn l))/\∀d,Pt.fit w n (d+1) (pOn l):=by
 have a:∀p∈[Pt.row (.set (ql l 0) 1)],p=.row (.set (ql l 0) 1):=λp b=>As.1 b;refine#[λd=>#[by decide,zeH (zoD c 1 ⋯ ⋯) (zhF ⋯ ⋯),by show 1<=1000;decide,λp b=>?_],λd=>#[λi j g m=>zcx g m (λs=>zc2 c (by rw[zoC];decide)) (λs=>zcB (zov zoo) (.inl zoo)),?_,λp b=>?_]]
 .rw[a p b];cases d<;>exact f
 .simp[cnt]
 .rw[a p b];cases d<;>exact f
def znO{r:Rt}(h:r∈rts):Gpt w n (.row r):=#[zar r h,zar r h,by show 1<=600;decide]
def zpo{l}(a:Ltr l)(b:ROk (.set (ql l 0) 1)):Gpt w n (pOn l):=#[(zhB (w:=w) (n:=n) a b).1 1,(zhB a b).2 1,by simp[pOn,Pt.ln,cnt]]
def zpp:Gpt w n pGq:=by
 have o:=zhB (w:=w) (n:=n) (zcz "g" (by simp)) (zar _ (by simp[rts]));refine#[#[by decide,#[λt a=>(by cases a),by decide],by show 1<=1000;decide,λp b=>?_],#[λi j c d=>#[λs t a=>(by cases a),by decide,by have:=c.1;have:=c.2;show i.natAbs<_;lia,by have:=d.1;have:=d.2;show j.natAbs<_;lia],by simp[cnt],λp b=>?_],by simp[pGq,pOn,Pt.ln,cnt]]
 .rw[As.1 b];exact o.1 0
 .rw[As.1 b];exact o.2 0
def zpq(h:Wn w n){t v:Hz}(l:-1<=t)(m:t<=1)(d:v.natAbs<=18446744073709551616):Gpt w n (pKe t v):=by
 have b:=zcz "a" (by simp);have o:=h.n1;refine#[#[λx c=>?_,zeH (zmA b ⋯) (zhF () ⋯),by decide,λp a=>(by cases a)],#[λi j f g=>zcx f g (λs=>zc2 b ?_) (λs=>zcB (Fb d ⋯) (.inr ?_)),?_,λp a=>(by cases a)],?_]
 .simp only[AV,A9,II,Ic]at c;rcases c with rfl|rfl<;>lia
 .show 0<=(0:Hz)+0*i+0*j+1*n/\(0:Hz)+0*i+0*j+1*n<=4;lia
 .simp[ex6,ych]
 .simp only[cnt];lia
 .simp only[pKe,Pt.ln,cnt,Ay,GH];lia
def znL(h:Wn w n){t a m:Hz}(D:-3<=t)(E:t<=10)(a0:0<=a)(a1:a<=1)(G:0<=m)(H:m<=1){o:Hx Pt}(d:o=[] \/ ∃u,-5<=u/\u<=2/\o=ro2 u):Gpt w n (yb6 t a m o):=by
 have I:=h.n1;have q:ROk (.mark m):=by rcases (show m=0 \/ m=1 by lia)with rfl|rfl<;>exact zar _ (by simp[rts])
 have ld:=zcz "d" (by simp);have r:=zcz "c" (by simp);have y:∀p∈deP,Pt.ok 0 p/\Pt.fit w n 0 p:=λp b=>by erw[AV,A9,II]at b;rcases b with rfl|rfl<;>exact#[zar _ (by simp[rts]),zar _ (by simp[rts])]
 have b:∀p∈ro1 m++o,Pt.ok 1 p/\Pt.fit w n 1 p:=λp b=>by
  rcases Aw.1 b with b|b
  .simp only[AV,A9,II]at b;rcases b with rfl|rfl|rfl
   .exact#[q,q]
   .exact#[zar _ (by simp[rts]),zar _ (by simp[rts])]
   .exact#[zar _ (by simp[rts]),zar _ (by simp[rts])]
  .rcases d with rfl|⟨u,z,A,rfl⟩
   .cases b
   erw[AV,A9,II]at b;rcases b with rfl|rfl
   .exact#[zar _ (by simp[rts]),zar _ (by simp[rts])]
   refine#[#[λx c=>?_,zeH (zoD ld 1 ⋯ ⋯) (zhF ⋯ ⋯),by decide,λp b=>(y p b).1],#[λi j f g=>zcx f g (λs=>zc2 ld (by rw[zoC];decide)) (λs=>zcB (zov zoo) (.inl zoo)),?_,λp b=>(y p b).2]]
   .simp only[AV,A9,II]at c;rcases c with rfl|rfl|rfl<;>lia
   .simp only[cnt];lia
 refine#[#[λx c=>?_,zeH (zoD r 2 ⋯ ⋯) (zhF ⋯ λx c=>?_),?_,λp l=>(b p l).1],#[λi j f g=>zcx f g (λs=>zc2 r (by rw[zoC];decide)) (λs=>zcB (zov zoo) (.inl zoo)),?_,λp l=>(b p l).2],?_]
 .simp only[AV,A9,II,Ic]at c;rcases c with rfl|rfl<;>lia
 .simp only[AV,A9,II,Ic]at c;rcases c with rfl|rfl|rfl<;>lia
 .rcases d with rfl|⟨u,_,_,rfl⟩<;>simp
 .simp only[cnt];lia
 .have B:cnt t 0 0 w n<=10:=by erw[cnt];lia
  have C:((ro1 m++o).map (Pt.ln w n 1)).sum<=50:=by
   rcases d with rfl|⟨u,z,A,rfl⟩
   .simp[Pt.ln]
   .have J:cnt u 1 0 w n<=6:=by erw[cnt];lia
    erw[ro1,ro2,BF,BB,AN,Ay,D0,GH,Pt.ln];lia
  rw[yb6,Pt.ln];have:=Ck B (FX C 1);lia
def zpr{c b f y:Hz}(q:0<=c)(r:c<=200)(u:0<=b)(z:b<=200)(A:0<=f)(B:f<=200)(C:0<=y)(D:y<=9)(E:c+b*n<=400):Gpt w n (pLo c b f y):=by
 have a:big (0:Hz):=by decide
 refine#[#[λx d=>?_,#[λt g=>?_,by show 1<=20;decide],by decide,λp l=>(by cases l)],#[λi j m o=>#[λs t g=>?_,by show 1<=20;decide,by have:=m.1;have:=m.2;show i.natAbs<_;lia,by have:=o.1;have:=o.2;show j.natAbs<_;lia],?_,λp l=>(by cases l)],?_]
 .simp only[AV,A9,II]at d;rcases d with rfl|rfl|rfl<;>lia
 .rw[As.1 g];refine zhF ⋯ λx d=>?_;erw[AV,A9,II,Ic]at d;rcases d with rfl|rfl|rfl<;>lia
 .rw[As.1 g];exact zcB (zov a) (.inl a)
 .simp only[cnt];lia
 .simp only[pLo,Pt.ln,cnt,Ay,GH];lia
end
theorem dbl{call}{i j:Hy}(b:i≠j):∀(N:Hy)(a:Hz)(U:IC.Env)(v:Hz)(st:SO),U[i]?=AA (AA (.int v)) ->
  ∃u,yaz call (.n j) (.cons (.asg (.n i) (.bin .mul (.cst (.int 2)) (.var i))) .nil) (ye N a 1) U st=.nx ((U.set i (AA (.int (2^N*v)))).set j u) st/\(N=0->U[j]?=AA u \/ U.length<=j)
 |0,a,U,v,st,h=>by
  have f:U.set i (AA (.int v))=U:=by
   refine EO λz=>?_;rw[Cg];split
   .rename_i e;subst e;split
    .exact h.symm
    .rw[BE ()]at h
     cases h
   .rfl
  rcases C9 j U.length with c|c
  .refine#[U[j],?_,λ_=>.inl (ES c)];rw[ye,zw,GG,EL,f,Hx.set_getElem_self]
  .refine#[AF,?_,λ_=>.inr c];rw[ye,zw,GG,EL,f,Hx.set_eq_of_length_le c]
 |N+1,a,U,v,st,h=>by
  have g:(U.set j (AA (.int a)))[i]?=AA (AA (.int v)):=by rw[AZ (BI b)];exact h
  have d:i<U.length:=by
   rcases C9 i U.length with z|z
   .exact z
   .rw[BE z]at h;cases h
  have l:exs call (U.set j (AA (.int a))) st (.cons (.asg (.n i) (.bin .mul (.cst (.int 2)) (.var i))) .nil)=.nx ((U.set j (AA (.int a))).set i (AA (.int (2*v)))) st:=by erw[xs_nil,zq,x_asg,yat,nxO,IC.ve1,IC.ve2,IC.ve3,R.bind,R.fl,g,yC,yw,binI,yap,toR];simp
  let#[u,m,_]:=dbl (call:=call) b N (a+1) ((U.set j (AA (.int a))).set i (AA (.int (2*v)))) (2*v) st (by rw[Ac (by rw[BV];exact d)]);refine#[u,?_,λz=>by cases z];rw[ye,zl (U1:=U.set j (AA (.int a))) rfl,l];show yaz call _ _ _ _ _=_;rw[m,DQ,HB _ _ (BI b),DQ,El,HJ]
def zc1(K:Hy):(0:Hz)<2^K:=Bd ()
def yD:Css:=match yO.body with
 |.cons _ (.cons _ (.cons _ r))=>r
 |_=>.nil
def wT2:Css:=match yD with
 |.cons _ (.cons _ (r))=>r
 |_=>.nil
theorem wE2:yD=(match yD with
 |.cons a (.cons b (_))=>.cons a (.cons b (wT2))
 |_=>.nil):=rfl
def wT4:Css:=match yD with
 |.cons _ (.cons _ (.cons _ (.cons _ (r))))=>r
 |_=>.nil
theorem wE4:yD=(match yD with
 |.cons a (.cons b (.cons c (.cons d (_))))=>.cons a (.cons b (.cons c (.cons d (wT4))))
 |_=>.nil):=rfl
def wT5:Css:=match yD with
 |.cons _ (.cons _ (.cons _ (.cons _ (.cons _ (r)))))=>r
 |_=>.nil
theorem wE5:yD=(match yD with
 |.cons a (.cons b (.cons c (.cons d (.cons q4 (_)))))=>.cons a (.cons b (.cons c (.cons d (.cons q4 (wT5)))))
 |_=>.nil):=rfl
def wT6:Css:=match yD with
 |.cons _ (.cons _ (.cons _ (.cons _ (.cons _ (.cons _ (r))))))=>r
 |_=>.nil
theorem wE6:yD=(match yD with
 |.cons a (.cons b (.cons c (.cons d (.cons q4 (.cons f (_))))))=>.cons a (.cons b (.cons c (.cons d (.cons q4 (.cons f (wT6))))))
 |_=>.nil):=rfl
def zfB{c}{n:Hy}{w z a m:Hz}{u5 u6 u7 u8 u9 u10 u11 u12:Option PV}{st}(j:0<=a)(b:a<6)(l:16<=m):
  ∃x,0<=x/\x<m/\exs c [AA (.loc n),AA (.int w),AA (.int z),AA (.int a),AA (.int m),u5,u6,u7,u8,u9,u10,u11,u12] st yD=.rt (.int x) st:=by
 obtain⟨x,d,f,g⟩:∃x:Hz,0<=x/\x<m/\∀st,idxV st (.tup [.int 0,.int 1,.int (m-1),.int (m/2),.int (m/2-1),.int (m-2)]) (.int a)=AA (.int x):=by
  rcases (by lia:a=0 \/ a=1 \/ a=2 \/ a=3 \/ a=4 \/ a=5)with rfl|rfl|rfl|rfl|rfl|rfl
  .exact#[0,(),(),λ_=>rfl]
  .exact#[1,(),(),λ_=>rfl]
  .exact#[m-1,(),(),λ_=>rfl]
  .exact#[m/2,(),(),λ_=>rfl]
  .exact#[m/2-1,(),(),λ_=>rfl]
  .exact#[m-2,(),(),λ_=>rfl]
 refine#[x,d,f,?_];rw[wE2];erw[yD,yO,AQ,Ap,CT,D3,IF,zq,xs_nil,x_asg,zd8,x_ret,IC.ve1,IC.ve2,IC.ve3,IC.ve8,IC.ve11,IC.ve16,IC.ve18,IC.vsq0,IC.vsq1,A1,AY,bd_ok,fl_ok,toR_some,bT_n,nxO_some,th_nx,th_rt,Ag,Ai,t_bl,on_t,sizeMax,E4,b_sub,b_div2,c_lt,c_eq,c_gt,Ia,IY,g,b,IN]
def zgV(k:Hy){n:Hy}{c:Hx Hz}(f:c.length<=1000){w z a m:Hz}{u5 u6 u7 u8 u9 u10 u11 u12:Option PV}{st}(h:Drw c n st)(g:9<a)(A:16<=m)(j:m<=18446744073709551616):
  ∃x b,0<=x/\x<m/\Onl c n st b/\exs (yc T (k+3)) [AA (.loc n),AA (.int w),AA (.int z),AA (.int a),AA (.int m),u5,u6,u7,u8,u9,u10,u11,u12] st yD=.rt (.int x) b:=by let#[d,l,o,p,q,r]:=zeD k f (m:=m) () () h;refine#[d,l,o,p,q,?_];have t:decide (a<6)=false:=IJ ();have u:(a==6)=false:=IH.2 ();have y:(a==7)=false:=IH.2 ();rw[wE6];erw[yD,yO,AQ,Ap,CT,D3,IF,zq,xs_nil,x_asg,zd8,x_ret,IC.ve1,IC.ve2,IC.ve3,IC.ve8,IC.ve11,IC.ve16,IC.ve18,IC.vsq0,IC.vsq1,A1,AY,bd_ok,fl_ok,toR_some,bT_n,nxO_some,th_nx,th_rt,Ag,Ai,t_bl,on_t,sizeMax,E4,b_sub,b_div2,c_lt,c_eq,c_gt,Ia,IY,r,g,IN,t,u,y]
def zfr(k:Hy){n:Hy}{r:Hx Hz}(b:r.length<=1000){w z t m:Hz}{u5 u6 u7 u8 u9 u10 u11 u12:Option PV}{st}(h:Drw r n st)(X:t=6 \/ t=7)(Y:4<=w)(y:w<=16)(Z:1<=z)(A:z<=4)(B:m=2^(w*z).toNat):
  ∃x c,0<=x/\x<m/\Onl r n st c/\exs (yc T (k+3)) [AA (.loc n),AA (.int w),AA (.int z),AA (.int t),AA (.int m),u5,u6,u7,u8,u9,u10,u11,u12] st yD=.rt (.int x) c:=by
 have C:4<=w*z:=by have:=Gx Y Z () ();lia
 have f:w*z<=64:=by have:=Gx y A () ();lia
 have hm1:0<m:=B ▸ zc1 _;have hm2:m<=18446744073709551616:=by
  have h64:(2:Hy)^(w*z).toNat<=2^64:=BK () ();have g:((2^(w*z).toNat:Hy):Hz)=2^(w*z).toNat:=by simp
  rw[B,<-g];lia
 let#[d,s1,d1,d2,D,L]:=zeD k b (m:=m) () () h;let#[e,q,d3,d4,M,N]:=zeD k b (m:=w*z) () () (D.drw h);have hj:(2:Hz)^e.toNat<m:=by rw[B];exact Hz.pow_lt_pow_of_lt () ()
 have E:=zc1 e.toNat;have G:(2:Hz)^e.toNat<10000000000000000000000000000000000000000000000000000000000000000000000:=()
 have l:((2:Hz)^e.toNat).natAbs<18446744073709551616:=()
 have H:(2:Hy)^e.toNat<18446744073709551616:=by
  have g:((2^e.toNat:Hy):Hz)=2^e.toNat:=by simp
  lia
 have o:w.natAbs<18446744073709551616:=()
 have p:e.natAbs<1000000000:=()
 have O:ya9 (.int e)=AA (ye e.toNat 0 1):=by erw[ya9,p,IF]
 have q1:=zdR (i:=d) E ();have q2:yw .mul (.int (d/2^e.toNat)) (.int (2^e.toNat))=AA (.int (d/2^e.toNat*2^e.toNat)):=zA l;have U:yw .mul (.int w) (.int z)=AA (.int (w*z)):=zaF o
 clear G H p o l C f
 rcases X with rfl|rfl
 .let#[u,a,_]:=dbl (call:=yc T (k+3)) (i:=8) (j:=5) () e.toNat 0 [AA (.loc n),AA (.int w),AA (.int z),AA (.int 6),AA (.int m),u5,AA (.tup [.int 0,.int 1,.int (m-1),.int (m/2),.int (m/2-1),.int (m-2)]),AA (.int d),AA (.int 1),u9,u10,u11,u12] 1 q rfl;refine#[d/2^e.toNat*2^e.toNat,q,DR (Dc d1 ()) (),Hz.lt_of_le_of_lt (Hz.ediv_mul_le d ()) d2,D.trans M,?_];have I:decide ((6:Hz)<6)=false:=rfl;have J:((6:Hz)==6)=true:=rfl;rw[C3]at a;rw[wE4];generalize wT4=F,(2:Hz)^e.toNat=P at *;erw[IC.PV.tup]at a;simp! [yD,yO,L,I,J,U,N,O,a,q1,q2]
 .let#[u,a,_]:=dbl (call:=yc T (k+3)) (i:=8) (j:=5) () e.toNat 0 [AA (.loc n),AA (.int w),AA (.int z),AA (.int 7),AA (.int m),u5,AA (.tup [.int 0,.int 1,.int (m-1),.int (m/2),.int (m/2-1),.int (m-2)]),AA (.int d),AA (.int 1),u9,u10,u11,u12] 1 q rfl;refine#[m-2^e.toNat,q,(),(),D.trans M,?_];have I:decide ((7:Hz)<6)=false:=rfl;have J:((7:Hz)==6)=false:=rfl;have k3:((7:Hz)==7)=true:=rfl;rw[C3]at a;rw[wE5];generalize wT5=F,(2:Hz)^e.toNat=P at *;erw[IC.PV.tup]at a;simp! [yD,yO,L,I,J,k3,U,N,O,a]
theorem Drw.refl{b:Hx Hz}{n:Hy}{st:SO}(h:Drw b n st):Onl b n st st:=by let#[a,p,f,c,h]:=h;exact#[a,p,f,c,zeI h]
def ybr:Css:=match yD with
 |.cons _ (.cons _ (.cons _ (.cons _ (.cons _ (.cons _ (.cons _ (.cons _ (.cons _ (.cons (.for _ _ b) _)))))))))=>b
 |_=>.nil
def zfs(k:Hy){n:Hy}{f:Hx Hz}(g:f.length<=1000){p1 p2 p3 p4 p6 p8 u11 u12:Option PV}{d W acc a:Hz}{st}(h:Drw f n st)(E:0<=a)(r:a<1000)(G:4<=W)(u:W<18446744073709551616):
  ∃e b j l,0<=e/\e<W/\Onl f n st b/\exs (yc T (k+3)) [AA (.loc n),p1,p2,p3,p4,AA (.int a),p6,AA (.int d),p8,AA (.int W),AA (.int acc),u11,u12] st ybr=.nx [AA (.loc n),p1,p2,p3,p4,AA (.int a),p6,AA (.int d),p8,AA (.int W),AA (.int (acc*W+e)),j,l] b:=by
 let#[t,w,H,I,x,y]:=zeD k g (m:=5) () () h;have c:0<W:=()
 have o:W.natAbs<18446744073709551616:=()
 have p:0<a+1:=()
 have q:a+1<18446744073709551616*18446744073709551616:=()
 have z:=Bv (d/(a+1)) (show W≠0 by lia);have A:=B4 (d/(a+1)) c;obtain⟨e,B,C,D⟩:∃e:Hz,0<=e/\e<W/\∀st,idxV st (.tp AC [.int 0,.int 1,.int (W-1),.int (W/2),.int (d/(a+1)%W)]) (.int t)=AA (.int e):=by
  rcases (by lia:t=0 \/ t=1 \/ t=2 \/ t=3 \/ t=4)with rfl|rfl|rfl|rfl|rfl
  .exact#[0,(),(),λ_=>rfl]
  .exact#[1,(),(),λ_=>rfl]
  .exact#[W-1,(),(),λ_=>rfl]
  .exact#[W/2,(),(),λ_=>rfl]
  .exact#[d/(a+1)%W,z,A,λ_=>rfl]
 refine#[e,w,AA (.int (d/(a+1)%W)),AA (.tp AC [.int 0,.int 1,.int (W-1),.int (W/2),.int (d/(a+1)%W)]),B,C,x,?_];simp! [ybr,yD,yO,zdR p q,zgW c,zA o,y,D]
def zcM(k:Hy){n:Hy}{m:Hx Hz}(g:m.length<=1000){p1 p2 p3 p4 p6 p8:Option PV}{d W:Hz}(t:4<=W)(j:W<18446744073709551616):∀(r i:Hy) (a acc:Hz) (u5 u11 u12:Option PV) (st:SO),0<=a->a+r<1000->0<=acc->acc<W^i->Drw m n st ->
  ∃b l x c f,0<=b/\b < W^(i+r)/\Onl m n st l/\yaz (yc T (k+3)) (.n 5) ybr (ye r a 1) [AA (.loc n),p1,p2,p3,p4,u5,p6,AA (.int d),p8,AA (.int W),AA (.int acc),u11,u12] st=.nx [AA (.loc n),p1,p2,p3,p4,x,p6,AA (.int d),p8,AA (.int W),AA (.int b),c,f] l
 |0,i,a,acc,u5,u11,u12,st,_,_,o,u,h=>#[acc,st,u5,u11,u12,o,u,h.refl,by rw[ye,zw]]
 |r+1,i,a,acc,u5,u11,u12,st,y,J,o,u,h=>by
  let#[e,z,c,f,L,M,w,A]:=zfs k g (p1:=p1) (p2:=p2) (p3:=p3) (p4:=p4) (p6:=p6) (p8:=p8) (u11:=u11) (u12:=u12) (d:=d) (acc:=acc) h y () t j;have B:acc*W+e<W^(i+1):=by have:=C1 (show acc<=W^i-1 by lia) (show 0<=W by lia);rw[Hz.sub_mul,EL]at this;rw[El];lia
  have C:0<=acc*W:=DR o ();let#[b,D,E,p,q,G,H,I,hf]:=zcM k g (p1:=p1) (p2:=p2) (p3:=p3) (p4:=p4) (p6:=p6) (p8:=p8) (d:=d) t j r (i+1) (a+1) (acc*W+e) (AA (.int a)) c f z () () () B (w.drw h);refine#[b,D,E,p,q,G,by rw[show i+(r+1)=i+1+r by lia];exact H,w.trans I,?_];rw[ye,zl (U1:=[AA (.loc n),p1,p2,p3,p4,AA (.int a),p6,AA (.int d),p8,AA (.int W),AA (.int acc),u11,u12]) rfl,A];exact hf
def zei(k:Hy){n:Hy}{B:Hx Hz}(o:B.length<=1000){w z:Hy}{l m:Hz}{u5 u6 u7 u8 u9 u10 u11 u12:Option PV}{st}(h:Drw B n st)(hk:l=8 \/ l=9)(hw:4<=w)(p:w<=16)(hz:1<=z)(C:z<=4)(D:m=2^(w*z)):
  ∃x q,0<=x/\x<m/\Onl B n st q/\exs (yc T (k+3)) [AA (.loc n),AA (.int w),AA (.int z),AA (.int l),AA (.int m),u5,u6,u7,u8,u9,u10,u11,u12] st yD=.rt (.int x) q:=by
 have y:w*z<=64:=Ck p C;have M:0<m:=D ▸ zc1 _;have N:m<=18446744073709551616:=by have O:(2:Hy)^(w*z)<=2^64:=BK () y;rw[D,<-pw];lia
 let#[d,H,d1,d2,I,U]:=zeD k o (m:=m) () () h;have E:(4:Hz)<=2^w:=by have h:(2:Hy)^2<=2^w:=BK () ();have X:=pw w;lia
 have G:(2:Hz)^w<18446744073709551616:=by have h:(2:Hy)^w<=2^16:=BK () p;have X:=pw w;lia
 have Y:ya9 (.int (w:Hz))=AA (ye w 0 1):=zbc w ();have Z:ya9 (.int (z:Hz))=AA (ye z 0 1):=zbc z ();have k1:¬l<6:=()
 have k2:(l==6)=false:=by simp;lia
 have k3:(l==7)=false:=by simp;lia
 have k4:¬9<l:=()
 let#[u,J,_]:=dbl (call:=yc T (k+3)) (i:=9) (j:=5) () w 0 [AA (.loc n),AA (.int w),AA (.int z),AA (.int l),AA (.int m),u5,AA (.tup [.int 0,.int 1,.int (m-1),.int (m/2),.int (m/2-1),.int (m-2)]),AA (.int d),u8,AA (.int 1),u10,u11,u12] 1 H rfl;erw[Ag,Ai,C3]at J;let#[A,s2,w5,w11,w12,f0,L,o2,hf]:=zcM k o (p1:=AA (.int w)) (p2:=AA (.int z)) (p3:=AA (.int l)) (p4:=AA (.int m)) (p6:=AA (.tup [.int 0,.int 1,.int (m-1),.int (m/2),.int (m/2-1),.int (m-2)])) (p8:=u8) (d:=d) (W:=2^w) E G z 0 0 0 u u11 u12 H () () () (by simp) (I.drw h);rw[CT,<-Hl,<-D]at L;refine#[A,s2,f0,L,I.trans o2,?_]
 have hR:yD=.cons (.asg (.n 6) (.tup (.cons (.cst (.int 0)) (.cons (.cst (.int 1)) (.cons (.bin .sub (.var 4) (.cst (.int 1))) (.cons (.bin .fdiv (.var 4) (.cst (.int 2))) (.cons (.bin .sub (.bin .fdiv (.var 4) (.cst (.int 2))) (.cst (.int 1))) (.cons (.bin .sub (.var 4) (.cst (.int 2))) .nil)))))))) (match yD with
  |.cons _ (.cons a (.cons b (.cons c (.cons d (.cons e (.cons f (.cons g (.cons h (.cons (.for t i _) r)))))))))=>.cons a (.cons b (.cons c (.cons d (.cons e (.cons f (.cons g (.cons h (.cons (.for t i ybr) r))))))))
  |_=>.nil):=rfl
 rw[hR];simp! [yD,yO,Y,Z,k1,k2,k3,k4,IR,U,J,hf]
theorem worth(k:Hy){n:Hy}{y:Hx Hz}(f:y.length<=1000)(w z:Hy)(G:4<=w)(l:w<=16)(H:1<=z)(o:z<=4){st}(h:Drw y n st):
  ∃x d,0<=x/\x<2^(w*z)/\Onl y n st d/\yc T (k+4) yiR [.loc n,.int w,.int z] st=.ok (.int x) d:=by
 let#[g,p,M,d2,I,N]:=zeD k f (m:=12) () () h;have A:=I.drw h;have r:w*z<=64:=Ck l o;have B:4<=w*z:=Ck G H;have J:(16:Hz)<=2^(w*z):=by have h:(2:Hy)^4<=2^(w*z):=BK () B;have O:=pw (w*z);lia
 have C:(2:Hz)^(w*z)<=18446744073709551616:=by have h:(2:Hy)^(w*z)<=2^64:=BK () r;have O:=pw (w*z);lia
 have D:(w:Hz).natAbs<18446744073709551616:=()
 have t:(w:Hz)*(z:Hz)=((w*z:Hy):Hz):=by simp
 have U:ya9 (.int ((w*z:Hy):Hz))=AA (ye (w*z) 0 1):=zbc _ ();let#[u,L,_]:=dbl (call:=yc T (k+3)) (i:=4) (j:=5) () (w*z) 0 [AA (.loc n),AA (.int w),AA (.int z),AA (.int g),AA (.int 1),AF,AF,AF,AF,AF,AF,AF,AF] 1 p rfl;erw[Ag,Ai,C3]at L;have E:∃x d,0<=x/\x<2^(w*z)/\Onl y n p d/\exs (yc T (k+3)) [AA (.loc n),AA (.int w),AA (.int z),AA (.int g),AA (.int (2^(w*z))),u,AF,AF,AF,AF,AF,AF,AF] p yD=.rt (.int x) d:=by
  rcases (by lia:g<6 \/ (g=6 \/ g=7) \/ (g=8 \/ g=9) \/ 9<g)with q|q|q|q
  .let#[x,a,b,e]:=zfB (c:=yc T (k+3)) (n:=n) (w:=w) (z:=z) (st:=p) (u5:=u) (u6:=AF) (u7:=AF) (u8:=AF) (u9:=AF) (u10:=AF) (u11:=AF) (u12:=AF) M q J;exact#[x,p,a,b,A.refl,e]
  .exact zfr k f A q () () () () (by rw[t,Bq])
  .exact zei k f A q G l H o rfl
  .exact zgV k f A q J C
 let#[x,X,a,b,Y,Z]:=E;refine#[x,X,a,b,I.trans Y,?_];have hT:T yiR=AA #[3,13,AC,yO.body]:=rfl;have hb:yO.body=.cons (.asg (.n 3) (.call 60 (.cons (.var 0) (.cons (.cst (.int 12)) .nil)))) (.cons (.asg (.n 4) (.cst (.int 1))) (.cons (.for (.n 5) (.range1 (.bin .mul (.var 1) (.var 2))) (.cons (.asg (.n 4) (.bin .mul (.cst (.int 2)) (.var 4))) .nil)) yD)):=rfl;rw[yc,hT,hb];erw[AQ,Ap,CT,D3,IF,CD,IL,AN,Ay,Bz,Am,BF,BB];rw[zq,x_asg];erw[IC.ve18,IC.ve1,IC.ve2,IC.vsq0,IC.vsq1,A1,AY,bd_ok,fl_ok,N,bT_n,nxO_some,th_nx,Ag,Ai];rw[zq,x_asg];erw[IC.ve1,bd_ok,fl_ok,bT_n,nxO_some,th_nx,Ag,Ai];rw[zq,x_for];erw[IC.vjq0,IC.vjq1,IC.vjq2,IC.vjq3,IC.vjq4,IC.vjq5,IC.vjq6,IC.vjq7,IC.vjq8,IC.vjq9,IC.ve2,IC.ve3,A1,AY,bd_ok,fl_ok,zaF D,t,U,toL,toR_some,L,th_nx,Z]
theorem Drw.pos{b:Hx Hz}{st:SO}(h:Drw b 0 st):0<st.length:=by
 let#[a,p,f,c,h]:=h;rcases C9 0 st.length with z|z
 .exact z
 .rw[BE z]at h;cases h
theorem Drw.app{b:Hx Hz}{st:SO}(h:Drw b 0 st)(o:Ob):Drw b 0 (st++[o]):=by have c:=h.pos;let#[a,p,f,d,h]:=h;exact#[a,p,f,d,by rw[Ad c];exact h]
theorem Drw.put{b:Hx Hz}{st:SO}(h:Drw b 0 st){L:Hy}(c:L≠0)(o:Ob):Drw b 0 (st.set L o):=by let#[a,p,f,d,h]:=h;exact#[a,p,f,d,by rw[AZ c];exact h]
theorem Onl.get{c:Hx Hz}{st b:SO}(o:Onl c 0 st b){L:Hy}(d:L≠0):b[L]?=st[L]?:=by let#[a,p,f,g,rfl]:=o;rw[AZ (BI d)]
def zlr{st:SO}{L:Hy}{xs}{v:PV}(h:st[L]?=AA (.lst xs))(a:xs.length<1000):yL .append st (.loc L)=AA AD/\yaL .append st (.loc L) [v]=.ok .non (st.set L (.lst (xs++[v]))):=by refine#[by simp[yL,yJ,h],?_];erw[yaL,ycN,h];rw[ID ()]
def zmO{st:SO}{L:Hy}{xs}{i:Hz}{v:PV}(h:st[L]?=AA (.lst xs))(c:xs.length<1000)(a:0<=i)(b:i<=xs.length):yL .insert st (.loc L)=AA AD/\yaL .insert st (.loc L) [.int i,v]=.ok .non (st.set L (.lst (xs.take i.toNat++v::xs.drop i.toNat))):=by refine#[by simp[yL,yJ,h],?_];erw[yaL,yeR,h];rw[ID #[a,b,()]]
section
variable {ns:Hx Hz}{st:SO}
theorem draws(k:Hy)(b:ns.length<=1000):∀(N:Hy) (a:Hz) {st:SO},Drw ns 0 st->∃(c:Hx Hz) (f:SO),Drw ns 0 f/\c.length=N/\(∀d∈c,0<=d/\d<9)/\yQ (yc T (k+3)) [AF,AA (.loc 0)] (.n 0) (.cst (.bl AD)) (.call 60 (.cons (.var 1) (.cons (.cst (.int 9)) .nil))) (ye N a 1) st=.ok (c.map .int) f
 |0,a,st,h=>#[[],st,h,rfl,λ_ h=>(by cases h),rfl]
 |N+1,a,st,h=>by
  let#[d,j,l,p,o,e]:=zeD k b (m:=9) ⋯ ⋯ h;let#[c,q,r,t,u,w]:=draws k b N (a+1) (o.drw h);refine#[d::c,q,r,by rw[AQ,t],λx g=>?_,?_]
  .rcases AV.1 g with rfl|g
   .exact#[l,p]
   .exact u x g
  have one:yaR (yc T (k+3)) [AF,AA (.loc 0)] (.n 0) (.cst (.bl AD)) (.call 60 (.cons (.var 1) (.cons (.cst (.int 9)) .nil))) (.int a) st=.ok (AA (.int d)) j:=by simp! [yaR,e]
  rw[ye,zH,one,bd_ok,w,bd_ok];rfl
theorem once(k:Hy)(l)(d:Hy)(st:SO):yc T (k+1) yi5 [.str (AE l)] st=.ok (Pt.pv (d+1) (pOn l)) st:=by
 rw[zh (show T yi5=AA ygX from rfl) rfl rfl rfl];have a:∀(c:Cl) U (st:SO),ev c U st (.neg (.cst (.int 1)))=.ok (.int (-1)) st:=λ_ _ _=>rfl;generalize b:AE l=s;simp! [ygX,a]
 cases d<;>(subst b;rfl)
theorem long(k:Hy)(d:ns.length<=1000){w n:Hy}(h:Drw ns 0 st)(Z:1<=n)(n4:n<=4):∃p g,yc T (k+4) yi6 [.loc 0,.int n] st=.ok (Pt.pv 2 p) g/\Gpt w n p:=by
 let#[a,s1,a0,a1,l,r]:=zeD k d (m:=3) ⋯ ⋯ h;let#[c,s2,t,c1,u,x]:=zeD k d (m:=201) ⋯ ⋯ (l.drw h);let#[b,o,b0,b1,o3,A]:=zeD k d (m:=2) ⋯ ⋯ (u.drw (l.drw h));have B:=zdR (i:=2000-c) (j:=7+a) () ();have C:0<=(2000-c)/(7+a):=Dc () ();have D:(2000-c)/(7+a)<=285:=FM (FD () (by
  have:(7:Hz)*286<=(285+1)*(7+a):=()
  lia))
 generalize (2000-c)/(7+a)=q at *;have E:=zdR (i:=q+b) (j:=n) () ();have G:0<=(q+b)/n:=Dc () ();have H:=FB (q+b) n;have I:=Bv (q+b) (show (n:Hz)≠0 by lia);have J:=B4 (q+b) (show (0:Hz)<n by lia);have f:∀z:Hz,yah .min o [.int 200,.int z]=AA (.int (if z<200 then z else 200)):=λz=>rfl;generalize (q+b)/n=z,(q+b)%n=y at *;have L:=f z;have M:0<=(if z<200 then z else 200)/\(if z<200 then z else 200)<=200/\0<=q+b-(if z<200 then z else 200)*n/\q+b-(if z<200 then z else 200)*n<=200:=by
  rw[Em]at H;split
  .exact#[(),(),(),()]
  .refine#[(),(),?_,?_]
   .have:(200:Hz)*n<=z*n:=C1 () ();lia
   .lia
 generalize (if z<200 then z else 200)=v at *;let#[N,O,U,X]:=M;have Y:=zA (i:=v) (j:=n) (show (n:Hz).natAbs<_ by lia);refine#[pLo (q+b-v*n) v c (7+a),o,?_,zpr U X N O t () () () ()];rw[zj (show T yi6=AA y6 from rfl) rfl rfl];simp! [y6,r,x,B,A,E,L,Y];rfl
end
def dA:Css:=match yq.body with
 |.cons _ (.cons _ (.cons _ (.cons _ (.cons _ (.cons _ (.cons _ (.cons _ r)))))))=>r
 |x=>x
def dB:Css:=match dA with
 |.cons _ r=>r
 |x=>x
def dC:Css:=match dB with
 |.cons _ (.cons _ (.cons _ (.cons _ r)))=>r
 |x=>x
abbrev th(l:IU)(hi:Hz×Hz×Hz×Hz):PV:=Th.pv (.sl (AE l) (0,0,0,0) hi)
abbrev dE(x a0 a1 a2 a3 a4 a5:Hz)(r u:Option PV):IC.Env:=[AA (.loc 0),AA (.int x),AA (.lst [.int a0,.int a1,.int a2,.int a3,.int a4,.int a5]),AA (yaJ yb),AA (tq (ql "c" 0)),AA (tq (ql "c" 1)),AA (tq (ql "d" 0)),AA (th "c" (2,0,0,0)),AA (sen (ycp (a0/8))),AA (th "d" (1,0,0,0)),AA (sen inS),r,u,AF,AF,AF]
section
variable {ns:Hx Hz}{st:SO}
theorem ne1(c)(U st):ev c U st (.neg (.cst (.int 1)))=.ok (.int (-1)) st:=rfl
theorem d8(a:Hz):yw .fdiv (.int a) (.int 8)=AA (.int (a/8)):=zdR ⋯ ⋯
def zps{c}{x a0 a1 a2 a3 a4 a5:Hz}{d}(e:yQ c [AF,AA (.loc 0)] (.n 0) (.cst (.bl AD)) (.call 60 (.cons (.var 1) (.cons (.cst (.int 9)) .nil))) (ye 6 0 1) st=.ok [.int a0,.int a1,.int a2,.int a3,.int a4,.int a5] d):
  exs c [AA (.loc 0),AA (.int x),AF,AF,AF,AF,AF,AF,AF,AF,AF,AF,AF,AF,AF,AF] st yq.body=exs c (dE x a0 a1 a2 a3 a4 a5 (AA (.lst ((ro1 (a1/8)).map (Pt.pv 1)))) AF) d dA:=by
 have f:yq.body=(match yq.body with
  |.cons g (.cons j (.cons l (.cons m (.cons o (.cons p (.cons q (.cons r _)))))))=>.cons g (.cons j (.cons l (.cons m (.cons o (.cons p (.cons q (.cons r dA)))))))
  |x=>x):=rfl
 have u:ya9 (.int 6)=AA (ye 6 0 1):=rfl;have w:yQ c [AF,AF] (.t [0,1]) (.cst (.bl AD)) (.tup (.cons (.var 0) (.cons (.tup (.cons (.var 1) (.cons (.cst (.int 0)) (.cons (.cst (.int 0)) (.cons (.cst (.int 0)) .nil))))) .nil))) [.tp AC [.str "c",.int 0],.tp AC [.str "c",.int 1],.tp AC [.str "d",.int 0]] d=.ok [tq (ql "c" 0),tq (ql "c" 1),tq (ql "d" 0)] d:=rfl;have y:=zK [.int a0,.int a1,.int a2,.int a3,.int a4,.int a5] (by simp) d;have z:=zK [tq (ql "c" 0),tq (ql "c" 1),tq (ql "d" 0)] (by simp) d;have A:∀(a b c:PV) (U:IC.Env),yC (.t [4,5,6]) (.lst [a,b,c]) U=AA (((U.set 4 (AA a)).set 5 (AA b)).set 6 (AA c)):=λ_ _ _ _=>rfl;have B:∀st,idxV st (.lst [.int a0,.int a1,.int a2,.int a3,.int a4,.int a5]) (.int 0)=AA (.int a0):=λ_=>rfl;have C:∀st,idxV st (.lst [.int a0,.int a1,.int a2,.int a3,.int a4,.int a5]) (.int 1)=AA (.int a1):=λ_=>rfl;have D:=d8 a0;have E:=d8 a1;rw[f];generalize dA=W;simp! [yq,u,e,y,IC.seqOf,w,z,A,B,C,D,E,ne1];rfl
def zpt(k:Hy)(c:ns.length<=1000){x a0 a1 a2 a3 a4 a5:Hz}(h:Drw ns 0 st):∃o u d,Drw ns 0 d/\(o=[] \/ ∃t,-5<=t/\t<=2/\o=ro2 t) /\
  exs (yc T (k+3)) (dE x a0 a1 a2 a3 a4 a5 (AA (.lst ((ro1 (a1/8)).map (Pt.pv 1)))) AF) st dA=exs (yc T (k+3)) (dE x a0 a1 a2 a3 a4 a5 (AA (.lst ((ro1 (a1/8)++o).map (Pt.pv 1)))) u) d dB:=by
 let#[b,l,g,B,f,j]:=zeD k c (m:=2) ⋯ ⋯ h;let#[t,n,C,D,p,q]:=zeD k c (m:=8) ⋯ ⋯ (f.drw h)
 have r:dA=(match dA with
  |.cons g _=>.cons g dB
  |x=>x):=rfl
 rw[r];rcases (show b=0 \/ b=1 by lia)with rfl|rfl
 .refine#[[],AF,l,f.drw h,.inl rfl,?_];have z:((0:Hz)==1)=false:=rfl;rw[Bt];unfold dE;generalize dB=W;generalize (ro1 (a1/8)).map (Pt.pv 1)=R;generalize sen (ycp (a0/8))=w;generalize sen inS=y;simp! [dA,yq,j,z]
 .refine#[ro2 (t-5),AA (.tup (deP.map (Pt.pv 0))),n,p.drw (f.drw h),.inr #[t-5,(),(),rfl],?_];have z:((1:Hz)==1)=true:=rfl;have a:yw .add (.lst ((ro1 (a1/8)).map (Pt.pv 1))) (.lst ((ro2 (t-5)).map (Pt.pv 1)))=AA (.lst ((ro1 (a1/8)++ro2 (t-5)).map (Pt.pv 1))):=rfl;have a:yw .add (.lst ((ro1 (a1/8)).map (Pt.pv 1))) (.lst [.tp AC [.str "row",.tp AC [.str "set",tq (ql "d" 0),.int 1]],.tp AC [.str "rounds",.tp AC [.int (t-5),.int 1,.int 0],sen inS,.tp AC [.tp AC [.str "row",.tp AC [.str "mark",.int 0]],.tp AC [.str "row",.tp AC [.str "twice",tq (ql "d" 0),tq (ql "d" 0)]]]]])=AA (.lst ((ro1 (a1/8)++ro2 (t-5)).map (Pt.pv 1))):=a;unfold dE;generalize dB=W;generalize (ro1 (a1/8)).map (Pt.pv 1)=R,(ro1 (a1/8)++ro2 (t-5)).map (Pt.pv 1)=R2 at *;generalize sen (ycp (a0/8))=w;generalize sen inS=y at *;have A:(.tup (deP.map (Pt.pv 0)):PV)=.tp AC [.tp AC [.str "row",.tp AC [.str "mark",.int 0]],.tp AC [.str "row",.tp AC [.str "twice",tq (ql "d" 0),tq (ql "d" 0)]]]:=rfl;rw[A];generalize tq (ql "d" 0)=E at *;simp! [dA,yq,j,q,z,a]
abbrev dF(x a0 a1 a2 a3 a4 a5:Hz)(r u:Option PV)(v:Hz)(L:Hy):IC.Env:=[AA (.loc 0),AA (.int x),AA (.lst [.int a0,.int a1,.int a2,.int a3,.int a4,.int a5]),AA (yaJ yb),AA (tq (ql "c" 0)),AA (tq (ql "c" 1)),AA (tq (ql "d" 0)),AA (th "c" (2,0,0,0)),AA (sen (ycp (a0/8))),AA (th "d" (1,0,0,0)),AA (sen inS),r,u,AA (th "a" (0,0,0,1)),AA (sen (keS v)),AA (.loc L)]
def zpu(k:Hy)(d:ns.length<=1000){x a0 a1 a2 a3 a4 a5:Hz}{o u}(h:Drw ns 0 st):∃(i t a:Hz) (L:Hy) (f:SO),Drw ns 0 f/\L≠0/\0<=i/\i<=2/\-3<=t/\t<=10/\-1<=a/\a<=1 /\
  f[L]?=AA (.lst ((([.row (.set (ql "c" 0) (1-a3/8)),yb6 t (a0/8) (a1/8) o]:Hx Pt).take i.toNat++pKe a (0-x-a2/8)::([.row (.set (ql "c" 0) (1-a3/8)),yb6 t (a0/8) (a1/8) o]:Hx Pt).drop i.toNat).map (Pt.pv 2))) /\
  exs (yc T (k+3)) (dE x a0 a1 a2 a3 a4 a5 (AA (.lst ((ro1 (a1/8)++o).map (Pt.pv 1)))) u) st dB=exs (yc T (k+3)) (dF x a0 a1 a2 a3 a4 a5 (AA (.lst ((ro1 (a1/8)++o).map (Pt.pv 1)))) u (0-x-a2/8) L) f dC:=by
 let#[t,g,t0,t1,D,E]:=zeD k d (m:=14) ⋯ ⋯ h;have p:=D.drw h;obtain⟨b,c⟩:∃b:Hx Pt,b=[.row (.set (ql "c" 0) (1-a3/8)),yb6 (t-3) (a0/8) (a1/8) o]:=#[_,rfl];have q:=p.app (.lst (b.map (Pt.pv 2)));let#[i,s2,r,i1,w,y]:=zeD k d (m:=3) ⋯ ⋯ q;have z:=w.drw q;let#[a,G,u0,u1,A,H]:=zeD k d (m:=3) ⋯ ⋯ z;have I:=A.drw z;have l:g.length≠0:=Cm p.pos;have B:G[g.length]?=AA (.lst (b.map (Pt.pv 2))):=by rw[A.get l,w.get l,Dm]
 let#[ok,ins]:=zmO (v:=Pt.pv 2 (pKe (a-1) (0-x-a2/8))) B (by rw[c];simp) r (show i<=(b.map (Pt.pv 2)).length by rw[c];simp;lia);refine#[i,t-3,a-1,g.length,_,I.put l (.lst ((b.map (Pt.pv 2)).take i.toNat++Pt.pv 2 (pKe (a-1) (0-x-a2/8))::(b.map (Pt.pv 2)).drop i.toNat)),l,r,(),(),(),(),(),?_,?_]
 .rw[<-c,rdS B,Cb,AN,Hx.map_take,Hx.map_drop]
 have J:dB=(match dB with
  |.cons M (.cons N (.cons O (.cons U _)))=>.cons M (.cons N (.cons O (.cons U dC)))
  |x=>x):=rfl
 have X:∀st,idxV st (.lst [.int a0,.int a1,.int a2,.int a3,.int a4,.int a5]) (.int 2)=AA (.int a2):=λ_=>rfl;have Y:∀st,idxV st (.lst [.int a0,.int a1,.int a2,.int a3,.int a4,.int a5]) (.int 3)=AA (.int a3):=λ_=>rfl;have q2:=d8 a2;have q3:=d8 a3;have C:∀st,yah .tuple st [.lst ((ro1 (a1/8)++o).map (Pt.pv 1))]=AA (.tup ((ro1 (a1/8)++o).map (Pt.pv 1))):=λ_=>rfl;have n:b.map (Pt.pv 2)=[.tp AC [.str ybh,.tp AC [.str sSt,tq (ql "c" 0),.int (1-a3/8)]],.tp AC [.str ybj,.tp AC [.int (t-3),.int 0,.int 0],sen (ycp (a0/8)),.tp AC ((ro1 (a1/8)++o).map (Pt.pv 1))]]:=by rw[c];rfl
 have eK:Pt.pv 2 (pKe (a-1) (0-x-a2/8))=.tp AC [.str ybj,.tp AC [.int (a-1),.int 0,.int 0],sen (keS (0-x-a2/8)),.tp AC []]:=rfl;have j:yL .insert (g++[.lst (b.map (Pt.pv 2))]) (.loc g.length)=AA true:=by simp[yL,yJ]
 rw[eK]at ins ⊢;rw[n]at y ins j ⊢;have eS:sen (keS (0-x-a2/8))=.tp AC [.tp AC [.int 1,yaJ yb,.tp AC [th "a" (0,0,0,1)]],.tp AC [.int (0-x-a2/8),yaJ yb,.tp AC []]]:=rfl;have eT:th "a" (0,0,0,1)=.tp AC [.str "slice",.str "a",.tp AC [.int 0,.int 0,.int 0,.int 0],.tp AC [.int 0,.int 0,.int 0,.int 1]]:=rfl;rw[J];unfold dE dF;rw[eS]at ins ⊢;erw[PV.tup]at C;generalize dC=W;generalize (ro1 (a1/8)++o).map (Pt.pv 1)=R,sen (ycp (a0/8))=OS,sen inS=IS,yaJ yb=Z,tq (ql "c" 0)=C0 at *;rw[eT]at ins ⊢;simp! [dB,dA,yq,X,Y,q2,q3,C,E,ok,j,y,H,ins]
theorem doubled(k:Hy)(z:ns.length<=1000){w n:Hy}(hw:Wn w n){x:Hz}(x0:0<=x)(x1:x<18446744073709551616)(h:Drw ns 0 st):∃(ps:Hx Pt) (g:SO),Drw ns 0 g/\ps.length<=5/\(∀p∈ps,Gpt w n p)/\yc T (k+4) yi3 [.loc 0,.int x] st=.ok (.lst (ps.map (Pt.pv 2))) g:=by
 let#[f,s1,h1,A,H,e1]:=draws k z 6 0 h
 obtain⟨a0,f,rfl⟩:∃a r,f=a::r:=by cases f with
  |nil=>cases A
  |cons a r=>exact#[a,r,rfl]
 obtain⟨a1,f,rfl⟩:∃a r,f=a::r:=by cases f with
  |nil=>cases A
  |cons a r=>exact#[a,r,rfl]
 obtain⟨a2,f,rfl⟩:∃a r,f=a::r:=by cases f with
  |nil=>cases A
  |cons a r=>exact#[a,r,rfl]
 obtain⟨a3,f,rfl⟩:∃a r,f=a::r:=by cases f with
  |nil=>cases A
  |cons a r=>exact#[a,r,rfl]
 obtain⟨a4,f,rfl⟩:∃a r,f=a::r:=by cases f with
  |nil=>cases A
  |cons a r=>exact#[a,r,rfl]
 obtain⟨a5,f,rfl⟩:∃a r,f=a::r:=by cases f with
  |nil=>cases A
  |cons a r=>exact#[a,r,rfl]
 obtain rfl:f=[]:=by cases f with
  |nil=>rfl
  |cons a r=>simp at A
 have p0:=H a0 (by simp);have p1:=H a1 (by simp);have p2:=H a2 (by simp);have p3:=H a3 (by simp);have r1:=zps (x:=x) (c:=yc T (k+3)) e1;let#[o,u,s2,h2,ho,r2]:=zpt k z (x:=x) (a0:=a0) (a1:=a1) (a2:=a2) (a3:=a3) (a4:=a4) (a5:=a5) h1;let#[i,t,Z,L,C,I,D,i0,i1,t0,t1,u0,u1,E,r3]:=zpu k z (x:=x) (a0:=a0) (a1:=a1) (a2:=a2) (a3:=a3) (a4:=a4) (a5:=a5) (o:=o) (u:=u) h2;have hS:∀d,0<=d->d<=1->(Rt.set (ql "c" 0) d)∈rts:=λd q0 q1=>by rcases (show d=0 \/ d=1 by lia)with rfl|rfl<;>simp[rts]
 have gA:Gpt w n (.row (.set (ql "c" 0) (1-a3/8))):=znO (hS _ () ());have gB:Gpt w n (yb6 t (a0/8) (a1/8) o):=znL hw t0 t1 () () () () ho;have gK:Gpt w n (pKe Z (0-x-a2/8)):=zpq hw u0 u1 ();have gF:Gpt w n (pOn "f"):=zpo (zcz _ (by simp)) (zar _ (by simp[rts]));have gG:Gpt w n pGq:=zpp;obtain⟨P,hP⟩:∃P:Hx Pt,P=([.row (.set (ql "c" 0) (1-a3/8)),yb6 t (a0/8) (a1/8) o]:Hx Pt).take i.toNat++pKe Z (0-x-a2/8)::([.row (.set (ql "c" 0) (1-a3/8)),yb6 t (a0/8) (a1/8) o]:Hx Pt).drop i.toNat:=#[_,rfl];rw[<-hP]at E;have lP:P.length=3:=by rw[hP];rcases (show i=0 \/ i=1 \/ i=2 by lia)with rfl|rfl|rfl<;>rfl
 have J:∀p∈P,Gpt w n p:=λp l=>by
  have hm:p=pKe Z (0-x-a2/8) \/ p∈([.row (.set (ql "c" 0) (1-a3/8)),yb6 t (a0/8) (a1/8) o]:Hx Pt):=by
   rw[hP]at l;rcases Aw.1 l with l|l
   .exact .inr (Hx.mem_of_mem_take l)
   .rcases AV.1 l with l|l
    .exact .inl l
    .exact .inr (Hx.mem_of_mem_drop l)
  rcases hm with rfl|l
  .exact gK
  erw[AV,A9,II]at l;rcases l with rfl|rfl
  .exact gA
  .exact gB
 have M:∀st,idxV st (.lst [.int a0,.int a1,.int a2,.int a3,.int a4,.int a5]) (.int 4)=AA (.int a4):=λ_=>rfl;have N:∀st,idxV st (.lst [.int a0,.int a1,.int a2,.int a3,.int a4,.int a5]) (.int 5)=AA (.int a5):=λ_=>rfl;have of:=λst=>once (k+2) "f" 1 st;have og:=λst=>once (k+2) "g" 0 st;have step:∀(j:Hx Pt) (m:SO),Drw ns 0 m->m[L]?=AA (.lst (j.map (Pt.pv 2)))->j.length<100->∀p:Pt,yL .append m (.loc L)=AA AD/\yaL .append m (.loc L) [Pt.pv 2 p]=.ok .non (m.set L (.lst ((j++[p]).map (Pt.pv 2))))/\Drw ns 0 (m.set L (.lst ((j++[p]).map (Pt.pv 2))))/\(m.set L (.lst ((j++[p]).map (Pt.pv 2))))[L]?=AA (.lst ((j++[p]).map (Pt.pv 2))):=λj m hd O hl p=>by let#[a,b]:=zlr (v:=Pt.pv 2 p) O (by rw[Aj];lia);rw[Cb]at *;exact#[a,b,hd.put D _,rdS O]
 have U:∀(j:Hx Pt) (m:SO),m[L]?=AA (.lst (j.map (Pt.pv 2)))->ycH (.loc L) m=.ok (.lst (j.map (Pt.pv 2))) (m.set L .dead):=λj m O=>by simp[ycH,O]
 have run:∀(b4 b5:IB),(a4==8)=b4->(a5==8)=b5->∃(ps:Hx Pt) (g:SO),Drw ns 0 g/\ps.length<=5/\(∀p∈ps,Gpt w n p)/\outI (exs (yc T (k+3)) (dF x a0 a1 a2 a3 a4 a5 (AA (.lst ((ro1 (a1/8)++o).map (Pt.pv 1)))) u (0-x-a2/8) L) C dC)=.ok (.lst (ps.map (Pt.pv 2))) g:=λb4 b5 X Y=>by
  have eF:Pt.pv 2 pGq=.tp AC [.str ybj,.tp AC [.int 1,.int 0,.int 0],.tp AC [],.tp AC [Pt.pv 1 (pOn "g")]]:=rfl;have y:∀(j:Hx Pt) (p:Pt),(∀p∈j,Gpt w n p)->Gpt w n p->∀q∈j++[p],Gpt w n q:=λj p a b q G=>by
   rcases Aw.1 G with G|G
   .exact a q G
   .rw[As.1 G];exact b
  unfold dF
  cases b4<;>cases b5
  .have B:=U P C E;refine#[P,_,I.put D .dead,(),J,?_];simp! [dC,dB,dA,yq,M,N,X,Y,B];rfl
  .let#[a,b,c,d]:=step P C I E () pGq;have B:=U _ _ d;refine#[P++[pGq],_,c.put D .dead,by simp;lia,y _ _ J gG,?_];rw[eF]at b;simp! [dC,dB,dA,yq,M,N,X,Y,og,a,b,B];rfl
  .let#[a,b,c,d]:=step P C I E () (pOn "f");have B:=U _ _ d;refine#[P++[pOn "f"],_,c.put D .dead,by simp;lia,y _ _ J gF,?_];simp! [dC,dB,dA,yq,M,N,X,Y,of,a,b,B];rfl
  .let#[a,b,c,d]:=step P C I E () (pOn "f");let#[a',b',c',d']:=step _ _ c d (by simp;lia) pGq;have B:=U _ _ d';refine#[P++[pOn "f"]++[pGq],_,c'.put D .dead,by simp;lia,y _ _ (y _ _ J gF) gG,?_];rw[eF]at b';simp! [dC,dB,dA,yq,M,N,X,Y,of,og,a,b,a',b',B];rfl
 let#[ps,g,q1,q2,q3,q4]:=run _ _ rfl rfl;refine#[ps,g,q1,q2,q3,?_];have hT:T yi3=AA #[2,16,AC,yq.body]:=rfl;rw[zj hT rfl rfl];erw[AN,Ay,Bz,Am,BF,BB];rw[r1,r2,r3];exact q4
end
def zms{xs ys:Hx PV}(h:xs.length+ys.length<=1000):yw .add (.tp AC xs) (.tp AC ys)=AA (.tp AC (xs++ys)):=by
 erw[yw];rw[ID (by show _<=sizeMax;erw[sizeMax];lia)]
 cases xs with
 |nil=>rfl
 |cons x xs=>cases ys with
  |nil=>rw[Bt];rfl
  |cons y ys=>rfl
def zhM(d:Hx Hz)(h:d.length<=63):yc T 25 yhp [.scr (d.map .int)] []=.ok (.bl AD) []:=by
 have c:d.length<=1000:=()
 let#[v,j,hv]:=fresh 23 d h [];have j:yc T 24 yhY [.scr (d.map .int)] []=.ok (.loc 0) [v]:=j;have D:Drw d 0 [v]:=#[0,0,AC,by decide,by rw[hv];rfl];let#[w,n,s1,w0,w1,n0,n1,o1,u]:=sizes 20 c (m:=4) ⋯ ⋯ D;have E:=o1.drw D;let#[w,rfl]:=zfK (show 0<=w by lia);let#[n,rfl]:=zfK (show 0<=n by lia);have A:Wn w n:=#[(),(),()];let#[x,s2,x0,x1,o2,G]:=worth 20 c w n () () () () E;have H:=o2.drw E;let#[y,s3,y0,y1,o3,I]:=worth 20 c w n () () () () H;have J:=o3.drw H;have hb:(2:Hz)^(w*n)<=18446744073709551616:=zb6 (b:=64) (Ck (show w<=16 by lia) (show n<=4 by lia));let#[f,s4,f0,f1,o4,L]:=zeD 21 c (m:=3) ⋯ ⋯ J;have h4:=o4.drw J;let#[ps,s5,h5,lp,M,N]:=doubled 20 c A x0 () h4;have O:∀(st:SO) (l:Hx PV),yah .tuple st [.lst l]=AA (.tup l):=λ_ _=>rfl;have X:∀b:IB,yH .eq (.bl b) (.bl b)=AA (.bl AD):=λb=>by cases b<;>ac_rfl
 have Y:∀b:IB,ybe (.bl b) [.bool]=AA (.bl AD):=λ_=>rfl;have hT:T yhp=AA yeg:=rfl;rw[zh hT rfl rfl (by simp[nLs,nL,noLocs_ints])];have Z:∀(a b:PV) (U:IC.Env),yC (.t [2,3]) (.tp AC [a,b]) U=AA ((U.set 2 (AA a)).set 3 (AA b)):=λ_ _ _=>rfl;erw[PV.tup]at u
 by_cases hf:f=1
 .let#[p,s6,e6,gq]:=long 20 c (w:=w) (n:=n) h5 () ();let#[b,o,r]:=both 5 A (ps:=ps++[p]) (λq g=>by
   rcases Aw.1 g with g|g
   .exact M q g
   .rw[As.1 g];exact gq) (by simp;lia) x y
  have z:(f==1)=true:=by simp[hf]
  have B:yw .add (.tp AC (ps.map (Pt.pv 2))) (.tp AC [Pt.pv 2 p])=AA (pss 2 (ps++[p])):=by rw[show pss 2 (ps++[p])=.tup ((ps++[p]).map (Pt.pv 2))from rfl];rw[Cb];exact zms (ys:=[Pt.pv 2 p]) (by simp;lia)
  generalize pss 2 (ps++[p])=tv,ps.map (Pt.pv 2)=l at *;have C:=X b;simp! [yeg,j,u,Z,G,I,L,N,O,z,e6,B,r,o,Y,C];rfl
 .let#[b,o,r]:=both 5 A M () x y;have z:(f==1)=false:=by simp[hf]
  erw[pss,PV.tup]at o r;generalize ps.map (Pt.pv 2)=l at *;have C:=X b;simp! [yeg,j,u,Z,G,I,L,N,O,z,r,o,Y,C];rfl
theorem walk{l:E5}{q c p}{m:Ae->Au->Prop}{d:DefRec}{K:Params->AG}(r:l.most=AA 63)(j:d.params.defaults=[])
  (t:∀w(h:Au),m w h->(K w.params).In h)
  (F:∀(w:Ae)(g:AT->Option AH)o(h:Au),(K w.params).In h->h.Ns mainGlobals g->g d.name=AA (.ref o) ->
   ∃fd:Av,(∀s(u:AH),Ec s fd #[[u],[]] [("_law_script",u)])/\∀b:Au,(K w.params).In b->b.Ns mainGlobals g->yaA l.prog w (K w.params) g b (CX1 l.prog w) (2*25) o fd ["_law_script"] (spX (K w.params) (yc T 25) yhp)):
  Gf q c p m l.row.toRowW d [] (λf y=>Gp f y):=
 L2.walk_of (n:=63) (k:=2*25) (x:="_law_script") (CX:=λw=>CX1 l.prog w) (sp:=λw=>spX (K w.params) (yc T 25) yhp) r ⋯ j #[rfl,by decide,by decide] t F (λw H a C A _ B=>zgt zhM A B) λ_ _ _ _ _ z=>zlV z
end WK
end
open PySem PySem.W PyProof.Rows
theorem PySem.Challenge.cw_widewords_k58_sentences_asked_in_a_run_holds : PySem.Challenge.rw_widewords_k58_sentences_asked_in_a_run.Holds := by
 refine hh.hd (by rfl) (by rfl) (by rfl) ?_
 k_fill
 refine WK.walk (l:=PySem.Challenge.rw_widewords_k58_sentences_asked_in_a_run) rfl rfl (λw h Y=>Y) ?F
 case F =>
  intro w mg fa h KX G hmg
  refine' L2.all_mk2 (t:=WK.tbQ) KX G hmg ?R ?B ?D WK.kb_all ?Ml WK.ok_all WK.T_ok (L:=81) rfl 25
  case R =>
   repeat' (first|exact trivial|apply And.intro|(refine' L2.rowFn ?a9 ?l9 ?c9 ?p9 ?b9;(case a9|l9|c9|p9=>k_is);(case b9=>((repeat intro _);first|rfl|kernel_rfl)))|(refine' L2.rowMe ?z9 ?a9 ?i9 ?l9 ?c9 ?p9 ?b9;(case z9=>((first|rw[WK.cn_20]|rw[WK.cn_21]|rw[WK.cn_22]);k_is));(case a9|i9|l9|c9|p9=>k_is);(case b9=>((repeat intro _);first|rfl|kernel_rfl)))|(refine' L2.rowIni ?z9 ?a9 ?i9 ?l9 ?c9 ?p9 ?b9 ?m9 ?k9;(case z9=>((first|rw[WK.cn_20]|rw[WK.cn_21]|rw[WK.cn_22]);k_is));(case a9|i9|l9|c9|p9=>k_is);(case b9=>((repeat intro _);first|rfl|kernel_rfl));(case m9|k9=>k_is))|(refine' L2.rowFd ?a9 ?l9 ?c9 ?p9 ?d9 ?e9 ?v9;(case a9|l9|c9|p9|d9=>k_is);(case e9=>rfl);(case v9=>(repeat first|exact .nil|refine .cons ⟨_,rfl⟩ ?_))))
  case B=>kernel_rfl
  case D =>
   repeat' (first|exact trivial|apply And.intro|intro _|(refine' L2.gd_mk KX G ?a9 ?l9 ?s9 ?r9 ?n9;(case a9|l9=>k_is);(case s9=>rfl);(case r9=>(repeat first|exact .nil|refine L2.con_row (by kernel_rfl) ?_));(case n9=>decide +kernel)))
  case Ml =>
   repeat' (first|exact trivial|apply And.intro|(refine' L2.gdf_mk KX G ?a9 ?l9 ?r9 ?n9;(case a9|l9=>k_is);(case r9=>(repeat first|exact .nil|refine L2.frow_cons (by kernel_rfl) ?_));(case n9=>decide +kernel)))
