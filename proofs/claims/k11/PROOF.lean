import PyProof.Rows.All
import OpenK.KLine
import Open.Tops
import Wide.FinOn
import KE.KRevSl
import KE.KItem
import KE.KxWritten
import KE.KFromBytes
import KE.LcSums
import KE.KBits
import KE.KTryMore
import PySem.Challenge.RW_widewords_k11_unrolled_refuses
set_option Elab.async false
set_option linter.all false
set_option maxRecDepth 100000
set_option maxHeartbeats 0
local macro_rules
 | `(#print $s:str)=>do
  let n:=fun (x:Lean.Name)=>Lean.mkIdent (`PySem.W.Fast++.mkSimple s!"tw{x.hash}")
  let mut a:=#[n `PySem.Challenge.pw_widewords_k11_unrolled_refuses]
  for e in s.getString.splitOn "|" do
   let f:=e.splitOn " "
   let mut p:=0
   for r in f.tail! do
    let g:=(r.splitOn ".").map String.toNat!
    p:=p+g[0]!
    for j in [0:g.getD 1 0+1] do a:=a.push (n (.mkStr2 "sh" (f[0]!++toString (p+j))))
    p:=p+g.getD 1 0
  return Lean.mkNullNode (←a.mapM λx=>return (←`(command|noncomputable def $x:ident:=Nat)).raw)
#print "o_ 3 2 4 3.1 2.2 4 2 3 3.1 2.1 4 2 3 3.1 2.1 4 2 3 3.1 2.1 4 2 3 3.1 2.1 4 2 3 3.1 2.1 5 2.2 5.2 3.2 2 2.1 17.2 5.2 3 2.2 5.2 3 2.2 4 6.2 5.2 5.2 3.2 3 2.2 3 2.2 3.2 5.2 2 4 3.1 3 2.2 3 2.2 3 2.2 3 2.2 3.2 5.2 3 2.7 4 6.2 3.2 3 2.2 3.2 3 2.2 5.2 3 2.2 5.2 3 2.2 3 2.2 3 2.2 3 2.2 2 4 2.2 3.2 3 2.2 3 2.2 3.2 3 2.2 3.2 3.2 3.2 3 2.2 5.2 3.2 3 2.2 3 2.2 2 4.2 3 2.2 3.2 3 2.2 3.2 3 2.2 3 2.2 3 2.2 3.2|sts_ 4 17 16 16 16 16 35 54 55 64 83 89|tree_ 19 16 16 16 16 35 52 57 64 83 89 58"
open_shared sh for PySem.Challenge.pw_widewords_k11_unrolled_refuses leaving 0
namespace hh
open PySem PySem.W PySem.Calls PyProof.Rows
noncomputable abbrev p:=PySem.Challenge.pw_widewords_k11_unrolled_refuses
abbrev z:Pos:=⟨0,0,0,0⟩
abbrev an:Option Value:=some (.ref 6)
noncomputable abbrev bE:=behindTheImports p
noncomputable abbrev cE:Code:=.body bE sh.env_1
noncomputable abbrev H1(P:Params):Heap:=absHeap (sh.tree_521 P) 490 {}
noncomputable abbrev S0(w:World)(os:OsState):Shared:=⟨boot_heap w.params,⟨[]⟩,boot_drawn,boot_toks,os⟩
noncomputable abbrev Sb(w:World)(os:OsState):Shared:=SharedT.abs ⟨sh.tree_4 w.params,15,{},⟨[]⟩,{},187,os⟩
noncomputable abbrev Sk(w:World)(os:OsState):Shared:=SharedT.abs ⟨sh.tree_521 w.params,490,{},⟨[]⟩,{},872,os⟩
theorem pre(w os):topGo treeTable p w 11 an 12 (S0 w os) (topStub p)=some (Sb w os,⟨denote treeTable cE,cE,z,[topFrame z]⟩):=by kernel_rfl
theorem blk(w os):segRun treeTable p w 11 an 1 1 (Sb w os) (blockOf bE sh.env_1 cE z [topFrame z])=some (.next,Sb w os,cE,z):=by kernel_rfl
theorem fin(w os):topRun treeTable p w 11 an 2 (Sk w os) (restOf [] sh.env_1 cE ⟨366,0,394,97⟩ [topFrame z])=some (Sk w os):=by kernel_rfl
theorem bod:bE=sh.sts_4++(sh.sts_21++(sh.sts_37++(sh.sts_53++(sh.sts_69++(sh.sts_85++(sh.sts_120++(sh.sts_174++(sh.sts_229++(sh.sts_293++(sh.sts_376++(sh.sts_465++[]))))))))))):=by kernel_rfl
theorem run(w os):topRun treeTable p w 11 an (12+(1+(196+(214+(214+(214+(214+(327+(400+(311+(426+(373+(401+(273+2)))))))))))))) (S0 w os) (topStub p)=some (Sk w os):=by
 refine go_top (pre w os) (piece_block (blk w os) ?_)
 have h:=sh.chain p bE w os [] 2 (Sk w os) (fin w os)
 rw[<-bod] at h
 exact h
noncomputable def q:Program:=view p [71]
noncomputable abbrev lo:List Str:=p.boundNames
theorem look(w:World):(fun os=>((staticsOk (importedModules p.main.body) (boot_heap w.params) (H1 w.params) && namesBound p (H1 w.params) && gensDone (Sk w os) && laidKept (boot_heap w.params) (H1 w.params)),openSeen q lo (importedModules p.main.body) (fun _=>true) true (Sk w os),(Sk w os).heap))=fun _=>(true,openGood q lo,H1 w.params):=by kernel_rfl
theorem left:LeftO p q lo (fun _=>true) Shared.heap (fun w=>H1 w.params) 7228:=.of_pieces (boot_open (by kernel_rfl) (by kernel_rfl) fun s=>by kernel_rfl) (fun w=>by kernel_rfl) run (by kernel_rfl) look
theorem inA{t:BT}{n:Nat}{f:Life}{K:Frag}(h1:K.all (fun x=>Nat.blt x.1 n)=true)(h2:K.map (fun x=>t.get x.1)=K.map fun x=>some x.2)(h3:K.map (fun x=>alive x.2)=K.map fun x=>some x.2):K.In (absHeap t n f):=by
 intro a o e
 induction K with
 | nil=>cases e
 | cons x r ih=>
  obtain ⟨b,y⟩:=x
  simp only[List.map_cons,List.cons.injEq,List.all_cons,Bool.and_eq_true] at h1 h2 h3
  by_cases hb:(a==b)=true
  · rw[List.lookup_cons,hb] at e
    cases e
    have:=beq_iff_eq.mp hb
    subst this
    rw[abs_get (Nat.le_of_ble_eq_true h1.1) h2.1]
    exact h3.1
  · rw[List.lookup_cons,eq_false_of_ne_true hb] at e
    exact ih h1.2 h2.2 h3.2 e
local macro_rules
 | `(panic! $s:str)=>do
  let mut v:=#[]
  let mut p:=0
  let mut q:=0
  for r in s.getString.splitOn " " do
   if let g::l::m:=(r.splitOn ",").map String.toNat! then
    let i:=m.headD (q+g)
    p:=p+g
    for j in [0:l] do v:=v.push (p+j,if i==0 then .str `PySem.W s!"boot_o_{p+j}" else .str `sh s!"o_{i+j}")
    p:=p+l
    q:=i+l
  let mut a ← `(List.nil)
  for (x,o) in v.reverse do a ← `(List.cons (nat_lit $(Lean.Syntax.mkNumLit (toString x)),$(Lean.mkIdent o) P) $a)
  `(fun P=>$a)
noncomputable def KK:Params->Frag:=panic! "2,1,0 0,1,465 11,1,7 6,2 0,1,87 0,1,17 2,1,24 6,3 2,1,40 6,3 2,1,56 6,3 2,1,72 6,3 2,1,88 6,3 2,1 1,2 1,3 1,2 1,3 2,2 0,15,122 1,2 1,3 1,2 1,3 1,2 1,3 1,2 1,3 1,2 1,2 0,1,176 1,2 1,3 1,2 1,3 1,2 1,3 2,3 1,2 1,3 1,2 1,3 2,3 1,2 1,2 7,1,238 1,2 1,3 1,2 1,3 1,2 1,3 1,2 1,3 2,3 1,2 1,3 1,2 1,7 2,1,295 1,2 1,3 2,3 1,2 1,3 2,3 1,2 1,3 1,2 1,3 1,2 1,3 1,2 1,3 1,2 1,3 1,2 1,3 1,2 1,3 1,2 1,2 0,1,378 1,2 1,3 2,3 1,2 1,3 1,2 1,3 2,3 1,2 1,3 2,3 2,3 2,3 1,2 1,3 1,2 1,3 2,3 1,2 1,3 1,2 1,2 0,1,467 2,3 1,2 1,3 2,3 1,2 1,3 2,3 1,2 1,3 1,2 1,3 1,2 1,3 2,2"
theorem inK(w:World):InK KK w (H1 w.params):=inA (K:=KK w.params) (by kernel_rfl) (by kernel_rfl) (by kernel_rfl)
theorem hd{d:DefRec}{k:List (Str×Expr)}(a:defOf q "law"=some (d,k))(b:p.theDef "law"=some (d.params,d.body,d.scope))(c:kwWritten? d.params.kwonlyargs d.params.kw_defaults=some k)(h:WalkO q lo (fun _ _=>True) (InK KK) PySem.Challenge.rw_widewords_k11_unrolled_refuses.row.toRowW d k fun f vs=>PySem.call f vs):PySem.Challenge.rw_widewords_k11_unrolled_refuses.Holds:=by
 w_on;o_law
 refine holds_open left (YP:=InK KK) (XP:=fun _ _=>True) (fun w s e=>e ▸ inK w) InK.keeps (fun _ _=>trivial) (fun _ _ _ _ _=>trivial) a b c (fun s _=>recFacts_nil rfl) (by rfl) (by assumption) (by decide +kernel) ⟨rfl,rfl,rfl,rfl,rfl,by decide +kernel⟩ ?hw h
 w_witness2
end hh
local macro_rules|`(⋯)=>`((by decide))
local macro_rules|`(∅)=>`((by lia))
set_option compiler.extract_closed false
set_option bootstrap.genMatcherCode false
set_option genSizeOf false
local macro_rules | `(tactic| ac_rfl)=>`(tactic| with_unfolding_all rfl)
open _root_ renaming List->Hs,Nat->Ht,decide_eq_false->Hu,decide_eq_true->Hv,Int->Hw,decide_eq_true_eq->Hx,Bool->Hy,if_pos->Hz,if_neg->IA,absurd->IB,if_true->ID,or_false->IE,beq_eq_false_iff_ne->IF,if_false->IG,Array->IH,False->II,congrArg->IJ,decide_eq_decide->IK,beq_iff_eq->IL,String->IM,DecidableEq->IN,beq_self_eq_true->IP,of_decide_eq_true->IQ,Unit->IR,decide_true->IS
open Option renaming some->AA,none->AD,isSome_iff_exists->Aj,bind_some->Az,map_some->B5,getD_some->B9,any_eq_true_iff_get->Ck,get_some->FJ,getD_none->G4
open Bool renaming false->AB,true->AC,and_eq_true->AH,true_and->A2,false_ne_true->A4,false_eq_true->A5,false_and->A8,and_self->BM,not_true->BP,and_eq_true_iff->Bp,not_eq_true'->Bt,not_false->CK,true_or->Cr,eq_iff_iff->DE,and_false->DQ,or_eq_true->Dg,false_or->E2,and_true->E5,or_false->Fe
open PySem.Str renaming ofString->AE,empty->G2,length->Gw
open PySem.W renaming Frag->AF,findIn->Ao,keepIn->Ax,nsIn->BI,kitOne->BL,emptyDict->B0,fnOf->Bb,instObj->Bw,codeIn->CF,kia_one->CS,looks_findIn->Cg,plainGet->Cn,isFn->Co,hideAll->DD,hasDictIn->DL,cellsFrom_some->DN,excIn->D5,makesIn->Da,plainGet_of->Di,lookIn->Dv,callWith_K->Dx,exmOne->EG,methodObj->EQ,plainOver->ER,clsIn->EZ,mg_of->E4,OpenLaw->El,takerIn->FG,methodCall_KW->FT,hideAll_get->F6,callWith_K0->Fa,of_hideAll->Fj,codeRec_of->Fm,handedIn->G1,WalkO->Go,kitAny->HC,subIn->HK,mroIn->HL,Looks->HM,Rel2->HZ
open PySem renaming Value->AG,wpAny_bind->AI,Addr->AJ,Shared->AK,Str->AQ,Expr->AX,wpAny_pure->AZ,wpAny->Aa,Program->Ae,World->Aq,Around->Ar,Heap->BB,FuncData->BC,Env->BJ,wpAny_field->BQ,wpAny_newObj_type->BS,Scope->BU,wpAny_truthy_bool->BZ,wpAny_Call_Name_kw->B6,wpAny_callSpecial?_slot->B7,Obj->Bd,sizeLine_eq->Be,Stmt->Bf,wpAny_mono->Bj,wpAny_binaryOp_repeat_ref->Bm,Pos->Bq,Keyword->Br,wpAny_pyIter_tuple->CJ,wpAny_passesOwn->CN,DictEntry->CP,call_meets->CW,IsPair->CZ,mem_of_lookup->C1,wpAny_call_entry->C2,wpAny_seqItems->C3,wpAny_setField_rec->C7,typeIs_int->Ch,NameKind->DM,wpAny_holding->D2,wpAny_standAt->D3,Builtin->D4,Operator->D6,wpAny_execs_nil->D9,codeAny_mono->Dl,wpAny_newFunctionEnv_cells->Dy,wpAny_loadPart_at->ES,IsZip->EW,wpAny_comprehension_free->EY,wpAny_onRaise->E3,PassesOwn->E9,noFill_tuple_add->Ed,wpAny_rule->Eo,BindsTo->Es,IsPart->Et,codeAny_call_function->FN,wpAny_loadName_local->FW,wpAny_bindName->FX,wpAny_setField->FY,codeAny_call_builtin->FZ,wpAny_updateSeq_pair->F0,wpAny_loadName_cell->F7,CmpOp->Fc,seq_tuple_add->Fd,Result->Fk,tupleKind_room_in1->Fw,strKind_is->Fx,Within->Fy,wpAny_assign_Name->GA,concat_meets->GH,wpAny_sequenceKey->GI,wpAny_typeOf->GJ,slot_list_getitem->GL,wpAny_pyIter_enum->GR,wpAny_pyIter_list->GS,ZipApart->GT,Paired->G0,seqSlot_of->G8,wpAny_pyIter_zip->Gc,seqIndex_of->Gd,wpAny_Name->Gr,wpAny_call->Gu,typeIs_str->Gx,call->Gz,Tok->HJ,Model->HQ,Sem->HR,BoolOp->Hb,Meets->Hi
open List renaming replicate->AL,mem_cons->AM,not_mem_nil->AN,length_append->AO,mem_cons_of_mem->AT,size_toArray->AU,length_cons->AV,map_cons->AW,getElem?_append_left->AY,mem_of_getElem?->A1,getElem?_eq_some_iff->A3,mem_cons_self->A6,getElem?_set_ne->A7,getElem?_append_right->Ag,getElem?_cons_succ->Ah,length_map->Ai,replicate_succ->Al,mem_append->Am,all_cons->An,length_nil->Ap,getElem?_set_self->As,getElem?_cons_zero->Au,mem_append_right->Av,length_set->Ay,all_eq_true->BA,cons_append->BD,append_nil->BE,nil_append->BG,map_nil->BH,sum_cons->BO,getElem?_eq_none->BR,append_assoc->B1,lookup_cons->B8,any_cons->Ba,flatten_cons->Bc,length_replicate->Bg,length_singleton->Bi,set_cons_zero->Bk,set_cons_succ->Bl,getElem?_map->Bs,flatMap_cons->Bu,length->CB,length_take->CC,foldl_cons->CO,find?_cons->CQ,lookup->CT,all_nil->CU,getElem?_eq_getElem->CY,filterMap_cons->C0,getElem?_set->Cb,mem_append_left->Cf,length_drop->Cp,drop_eq_getElem_cons->Cu,filterMap->DS,mem_iff_getElem?->DX,any_eq_true->DY,flatMap_nil->D0,nodup_cons->Db,of_mem_zip->Dc,set_set->Do,mem_filterMap->Du,zip_cons_cons->ED,mem_replicate->EL,pairwise_iff_getElem->EN,mem_or_eq_of_mem_set->EO,isEmpty_cons->ET,getElem?_replicate->Ec,length_eq_zero_iff->Eh,getElem_mem->Ek,range->En,take_of_length_le->FA,sum_nil->FF,forIn_cons->FH,map_append->FL,sum_append->FM,contains_iff_mem->FV,mem_of_mem_drop->F1,mem_of_mem_take->F2,length_pos_iff->Fb,foldl->Fq,ext_getElem?->GV,mem_map->GX,isEmpty_nil->G5,take_length->G6,drop_length->G7,zipIdx_cons->Ga,mem_filter->Gf,zipIdx_nil->Gj,mem_range->Gq,drop_zero->HB,forIn_nil->HE
open PySem.Heap renaming get?_push_of_some->AR,lt_size->A9,get?_push_size->Af,size_push->Bo,SameBut->C6,get?_update_other->DP,FlyingW->Ez,get?_update_self->FO,IsTuple->GP,MadeExcOf->HA
open Nat renaming le_refl->AS,zero_le->Ab,lt_of_lt_of_le->Ad,ne_of_lt->Aw,le_trans->BK,mul_le_mul->C4,lt_irrefl->Cy,reduceSub->DC,le_succ->DF,succ_mul->DR,zero_add->DV,le_add_right->DZ,mul_le_mul_right->D8,lt_of_le_of_lt->EF,add_assoc->E6,lt_succ_self->Eb,ne_of_gt->Ep,lt_or_ge->FE,reduceAdd->Fg,le_of_lt->Fz,mul_comm->GM,add_le_add->HG,le_of_eq->HY
open Option.some renaming inj->Ac,injEq->EV
open PySem.Value renaming ref->Ak,none->Bv,bool->Dp,type->Dq,builtin->E1,int->E7,str->GZ,isStrOf->HI,isInt->Hc,bytes->Hd,float->He
open PyProof.Rows renaming slot_tuple_getitem->BF,callWith_type1->Bz,tupleItemsOf_->C5,boot_isinstance->C9,AllBare->DJ,assignInOrder_cons->Dt,IntsAre->Eu,subscriptTail_builtinR->Ew,entry_tuple_getitem->F8,args_tuple_getitem->Fp,assignInOrder_nil->GB,callWith_builtin1->G3,iadd_int->Gn,IsTup->Gp,Subscript_->Gv
open PySem.Builtin.SmallTypes renaming nextOf->BN,ownedTupleIsFree->B4,ownedTupleHandOut->Cw
open PySem.Heap.FunFrames renaming mem->BV
open Ne renaming symm->BW
open PySem.F renaming slot_int_rmul->BX,slot_tuple_mul->CA,slot_tuple_iterator_next->CG,args_int_rmul_2->C8,slot_int_index->Cc,entry_int_rmul->Cd,fills_int_mul->Cq,args_tuple_add_2->Cz,args_tuple_mul_2->DB,entry_tuple_add->DG,plainAttrs_list->DH,entry_tuple_mul->DI,slot_tuple_add->DO,slot_dict_get->DW,args_tuple_iterator_next_1->De,slot_zip_next->Dh,entry_tuple_iterator_next->Dm,args_dict_get_3->Eg,slot_tuple_rmul->Ei,entry_dict_get->FD,slot_list_append->FP,slot_list_extend->FQ,typeOf_object_class->FR,slot_list_insert->FU,args_zip_next_1->GU,entry_zip_next->Gb
open False renaming elim->BY
open PySem.Builtin.Tuple renaming tupleExact->B3,tupleItemsOf->EA,tupleTooMany->EH
open Array renaming length_toList->By,append_assoc->Dr,getElem?_eq_some_iff->EB,toList_inj->G9,toList->HX
open True renaming intro->CD
open PySem.Challenge renaming rw_widewords_k11_unrolled_refuses->CL,pw_widewords_k11_unrolled_refuses->EM
open PySem.Builtin.Slice renaming slicePlaces->CM,sliceAdjust->Ct,sliceApplied->Dz,slicePartIndex->Gg,sliceFields->HH
open PySem.Builtin.List renaming listTooLong->CV,listFitsIndex->HF
open PySem.NameKind renaming free->Ca,cell->Ff
open PySem.Value.type renaming inj->Ci
open PySem.PyData renaming canLay0->Cj,depth->DU,eqv->EC,keyHash->EI,canLayAll0->EU,depthAll->FI,eqvAll->HP
open Int renaming mul_nonneg->Cm,toNat_of_nonneg->Cv,mul_le_mul_of_nonneg_right->D1,emod_lt_of_pos->EK,emod_nonneg->FK,natAbs_mul->F3,toNat_natCast->GO,natAbs_add_le->GW,le_trans->GY,natCast_mul->Gi,ediv_nonneg->Gk,ediv_mul_le->Gm,mul_le_mul->HD,mul_one->Hf,mul_pos->Hk
open PySem.AutoSeq1 renaming sub_tuple_tuple->DA,idx_int->Ej
open PySem.Calls renaming evalArgs_plain->D7,Name_function_global->Ds,spliced_cons->Dw,callWith_builtin->Ey,spliced_nil->GG
open Sum renaming inr->Dj,inl->F4
open PySem.Builtin.Str renaming strSliceIndices->Dn,occurrences->Ea
open PySem.ScopeKind renaming function->EJ
open PySem.Paired renaming length->EX,snoc->Hj
open PyProof.Rows.IsTup renaming new->E8
open PySem.W.Looks renaming ld->Ee,here->Hl
open PySem.Builtin.Getset_descriptor renaming descrCheckInstance->Ef,descrNameAndClass->Em,descrGetter->F5,descrGet->Fv
open PySem.Obj renaming mapSeq->Ex,data_mapFields->Ft
open PySem.Heap.SameBut renaming update->F9,refl->Hq
open PySem.SeqAt.EqAt renaming int_str->Fh,str_int->Fi
open PySem.W.KF renaming slot_gs->Fu
open PySem.Around renaming under->GE
open PySem.Code renaming isFrame->GF,frames->Hg
open List.Pairwise renaming nil->GN
open PySem.WalksT renaming enumerateD->GQ
open PySem.Shared renaming heap->Ge
open ForInStep renaming yield->Gh
open PySem.SeqAt renaming EqAt->Gy,shaped->Ha
open PySem.Value.ref renaming inj->HN
open PySem.Flow renaming next->HS
open PySem.Builtin.Range renaming rangeSize->HU
open PySem.Heap.UpToSlots renaming of_keeps->HV
open And renaming intro->HW
open PySem.Data renaming seq->Hh
open PySem.Heap.IsSliceOf renaming new->Hm
open PySem.W.WShape renaming has->Hn
open PySem.Within renaming cons->Ho
open PySem.W.WData renaming int->Hr
noncomputable section
open Lean in
def cnvP:Ht->Syntax->MacroM (TSyntax `rcasesPat)
 |0,_=>Macro.throwUnsupported
 |n+1,s=>do
  if s.isOfKind ``Lean.Parser.Term.anonymousCtor||s.isOfKind ``«term#[_,]» then `(rcasesPat| ⟨$[$(← s[1].getSepArgs.mapM (cnvP n)):rcasesPat],*⟩)
  else if s.isIdent then `(rcasesPat| $(⟨s⟩):ident)
  else if s.isOfKind ``Lean.Parser.Term.hole then `(rcasesPat| _)
  else Macro.throwUnsupported
local macro_rules | `(tactic| let $p:term := $e)=>do `(tactic| obtain $(← cnvP 9 p):rcasesPat := $e)
local macro_rules | `(tactic| erw [$rs,*] $(l)?)=>do
 let t<-rs.getElems.flatMapM λ|`(Lean.Parser.Tactic.rwRule| $t:term)=>(if t.raw.isOfKind `ident then (if t.raw.getId== `ev then "ve1 ve2 ve3 ve4 ve5 ve6 ve7 ve8 ve9 vxq9 ve11 ve12 ve13 ve14 ve16 ve17 ve18 ve19 vxq18 ve21 ve22 vxq21 ve24 ve25 ve27 ve28 ve29 ve30 ve31 ve32 ve33 ve37 ve41" else if t.raw.getId== `ex then "xrq0 xrq1 xrq2 xrq3 xrq4 xrq5 xrq6 xrq7 xrq8 xrq9 xrq10 xrq11 xrq12 xrq13" else "").splitOn " " else [""]).toArray.mapM λs=>if s=="" then `(Lean.Parser.Tactic.simpLemma| $t:term)else `(Lean.Parser.Tactic.simpLemma| $(Lean.mkIdent (`IC++s.toName)):term)|_=>Lean.Macro.throwUnsupported
 `(tactic| simp only[$t,*] $(l)?)
local macro_rules | `(fun $bs* => $b)=>do
 if !(bs.any λx=>x.raw.isOfKind ``Lean.Parser.Term.anonymousCtor||x.raw.isOfKind ``«term#[_,]»)||(b.raw.find? λx=>x.isOfKind ``Lean.Parser.Term.syntheticHole).isSome then Lean.Macro.throwUnsupported
 `(by rintro $[$(← bs.mapM λx=>cnvP 9 x.raw):rcasesPat]*;exact $b)
set_option backward.eqns.nonrecursive false
local macro_rules (kind:=Lean.Parser.Command.declaration)
 |s=>do
  if s.getPos?.isNone then Lean.Macro.throwUnsupported
  let s:=s.rewriteBottomUp fun|.atom _ v=>.atom .none v|.ident _ r v p=>.ident .none r v p|.node _ k a=>.node .none k a|x=>x
  let k:=s[1].getKind
  unless (k==``Lean.Parser.Command.definition||k==``Lean.Parser.Command.abbrev)&&s[0].getArgs.all (·.isNone) do return s
  if k==``Lean.Parser.Command.definition&&(toString s[1][1][0].getId).startsWith "z" then
   let m←`(theorem x:True:=trivial)
   return s.setArg 1 (((m.raw[1].setArg 1 s[1][1]).setArg 2 (Lean.mkNode ``Lean.Parser.Command.declSig #[s[1][2][0],s[1][2][1][0]])).setArg 3 s[1][3])
  let m←`(noncomputable def x:=0)
  return s.setArg 0 m.raw[0]
local macro_rules|`(())=>`((by lia))
local macro_rules|`(#[$x,*])=>`(⟨$x,*⟩)
namespace L2
open PySem PySem.Spec PyProof.Rows
abbrev Key:=Sum Hw AQ
def ybO:Key->AG->Hy
 |.inl k,v=>Hc k v
 |.inr x,v=>HI x v
def yhh(w:Aq):Key->Hw
 |.inl k=>hashInt k
 |.inr x=>hashStr w x
def zP:∀{k:Key} {v:AG},ybO k v=AC->(∃i t,k=F4 i/\v=E7 i t) \/ (∃x t,k=Dj x/\v=GZ x t)
 |.inl i,v,h=>by let#[t,e]:=Value.isInt_shape (k:=i) (v:=v) h;exact .inl #[i,t,rfl,e]
 |.inr x,v,h=>by let#[t,e]:=Value.isStrOf_shape (x:=x) (v:=v) h;exact .inr #[x,t,rfl,e]
def zhF(i:Hw)(t:HJ):ybO (.inl i) (.int i t)=true:=by simp[ybO,Hc]
def zhQ(x:AQ)(t:HJ):ybO (.inr x) (.str x t)=true:=by simp[ybO,HI]
def znn(a b:Hw):decide ((F4 a:Key)=F4 b)=(a==b):=by
 by_cases e:a=b
 .subst e;simp
 .have h:¬(F4 a:Key)=F4 b:=λq=>e (Sum.inl.inj q);rw[Hu h];exact(IF.mpr e).symm
def zm0(a b:AQ):decide ((Dj a:Key)=Dj b)=decide (a=b):=by
 by_cases e:a=b
 .subst e;simp
 .have h:¬(Dj a:Key)=Dj b:=λq=>e (Sum.inr.inj q);rw[Hu h,Hu e]
def zm5(a:Hw)(b:AQ):decide ((F4 a:Key)=Dj b)=false:=Hu (λq=>nomatch q)
def zmN(a:AQ)(b:Hw):decide ((Dj a:Key)=F4 b)=false:=Hu (λq=>nomatch q)
def yV(prog:Ae)(w:Aq):PySem.KeyKind prog w Key where
 is:=ybO
 hash:=yhh w
 inj:=λv a b g f=>by
  rcases zP g with⟨i,t,rfl,rfl⟩|⟨x,t,rfl,rfl⟩
  .rcases zP f with⟨j,u,rfl,e⟩|⟨y,u,rfl,e⟩
   .injection e with c _;rw[c]
   .exact nomatch e
  .rcases zP f with⟨j,u,rfl,e⟩|⟨y,u,rfl,e⟩
   .exact nomatch e
   .injection e with c _;rw[c]
 byValue:=λk v h=>by rcases zP h with⟨i,t,rfl,rfl⟩|⟨x,t,rfl,rfl⟩<;>rfl
 pyHash:=λd h=>by
  rcases zP d with⟨i,t,rfl,rfl⟩|⟨x,t,rfl,rfl⟩
  .exact wpAny_pyHash_int h
  .exact wpAny_pyHash_str h
 eqBool:=λl d h=>by
  rcases zP l with⟨i,t,rfl,rfl⟩|⟨x,t,rfl,rfl⟩
  .rcases zP d with⟨j,u,rfl,rfl⟩|⟨y,u,rfl,rfl⟩
   .rw[znn]at h;exact wpAny_eqBool_int h
   .rw[zm5]at h;exact Fh i t y u _ _ _ _ h
  .rcases zP d with⟨j,u,rfl,rfl⟩|⟨y,u,rfl,rfl⟩
   .rw[zmN]at h;exact Fi x t j u _ _ _ _ h
   .rw[zm0]at h;exact wpAny_eqBool_str h
 «strs»:=λk x t v h=>by
  rcases zP h with⟨i,u,rfl,e⟩|⟨y,u,rfl,e⟩
  .exact nomatch e
  .injection e with c _;subst c
   cases v<;>rfl
def zeB(prog:Ae)(w:Aq)(i:Hw)(t:HJ):(yV prog w).is (.inl i) (.int i t)=true:=zhF i t
def zey(prog:Ae)(w:Aq)(x:AQ)(t:HJ):(yV prog w).is (.inr x) (.str x t)=true:=zhQ x t
inductive V where
 |non|bl (b:Hy)|int (i:Hw)|str (x:AQ)|byt (b:IH UInt8)|flt (b:UInt64)|ref (a:AJ)|ty (n:IM)
 deriving IN
def RelV:V->AG->Prop
 |.non,u=>u=Bv
 |.bl b,u=>u=Dp b
 |.int i,u=>∃t,u=E7 i t
 |.str x,u=>∃t,u=GZ x t
 |.byt b,u=>∃t,u=Hd b t
 |.flt b,u=>∃t,u=He b t
 |.ref a,u=>u=Ak a
 |.ty n,u=>u=Dq n
abbrev Vals:Hs V->Hs AG->Prop:=G0 RelV
theorem Vals.length{xs:Hs V}{us:Hs AG}(r:Vals xs us):xs.length=us.length:=EX r
theorem Vals.get:∀{xs:Hs V} {us:Hs AG} {i:Ht} {x:V},Vals xs us->xs[i]?=AA x->∃u,us[i]?=AA u/\RelV x u
 |_,_,_,_,.nil,e=>by simp at e
 |_,_,0,_,.cons r _,e=>by simp at e;subst e;exact#[_,rfl,r]
 |_,_,i+1,x,.cons _ t,e=>by let#[u,a,b]:=Vals.get (i:=i) (x:=x) t (by simpa using e);exact#[u,by simpa using a,b]
theorem Vals.set{x:V}{u:AG}(r:RelV x u):∀{xs:Hs V} {us:Hs AG} (i:Ht),Vals xs us->Vals (xs.set i x) (us.set i u)
 |_,_,_,.nil=>.nil
 |_,_,0,.cons _ t=>.cons r t
 |_,_,i+1,.cons q t=>.cons q (Vals.set r i t)
theorem Vals.append:∀{xs ys:Hs V} {us a:Hs AG},Vals xs us->Vals ys a->Vals (xs++ys) (us++a)
 |_,_,_,_,.nil,s=>s
 |_,_,_,_,.cons r t,s=>.cons r (Vals.append t s)
theorem Vals.take:∀{xs:Hs V} {us:Hs AG} (n:Ht),Vals xs us->Vals (xs.take n) (us.take n)
 |_,_,0,_=>.nil
 |_,_,_+1,.nil=>.nil
 |_,_,n+1,.cons r t=>.cons r (Vals.take n t)
theorem Vals.drop:∀{xs:Hs V} {us:Hs AG} (n:Ht),Vals xs us->Vals (xs.drop n) (us.drop n)
 |_,_,0,r=>r
 |_,_,_+1,.nil=>.nil
 |_,_,n+1,.cons _ t=>Vals.drop n t
def ybo:Option V->Option AG->Prop
 |some v,AA u=>RelV v u
 |none,AD=>True
 |_,_=>II
def KV{R:Type}:Hs (R×V)->Hs (R×AG)->Prop:=G0 λ(p:R×V) (q:R×AG)=>p.1=q.1/\RelV p.2 q.2
def kV:Key->V
 |.inl i=>.int i
 |.inr x=>.str x
inductive HO where
 |lst (xs:Hs V)
 |tup (xs:Hs V)
 |dK (kvs:Hs (Key×V))|dT (kvs:Hs (Hs Key×V))
 |set (S:Hw->Hy) (n:Ht)
 |ins (C dx:AJ) (fs:Hs (AQ×V))
 |own (x:AJ)
 |xd (fs:Hs (AQ×V))
 |met (f x:AJ)
 |rng (lo hi:Hw)
 |frz (o:Bd) (u:HO)
 |tbl (ps:IH AG)
 |ext (A:BB->Prop)
abbrev Hp:=AJ->Option HO
def upd(H:Hp)(a:AJ)(o:HO):Hp:=λb=>if b=a then AA o else H b
def zq{H:Hp}{a:AJ}{o:HO}:upd H a o a=AA o:=by unfold upd;rw[Hz rfl]
def zl{H:Hp}{a b:AJ}{o:HO}(h:b≠a):upd H a o b=H b:=by unfold upd;rw[IA h]
def zlC{H:Hp}{a:AJ}{o u:HO}:upd (upd H a o) a u=upd H a u:=by funext b;unfold upd;split<;>rfl
def zom{H:Hp}{a b:AJ}{o u:HO}(h:H a=AA o)(h':H b=AA u)(d:o≠u):a≠b:=by intro e;subst e;rw[h]at h';exact d (Ac h')
def zp{H:Hp}{a b:AJ}{o:HO}(h:H a=AA o)(h':H b=AD):a≠b:=by intro e;subst e;rw[h]at h';cases h'
section
variable (P:Ae)(w:Aq)
def yaa(H:Hp)(h:BB)(a:AJ):HO->Prop
 |.lst d=>d.length<=sizeLine/\∃(b:Hs AG) (n:Ht),Vals d b/\h.get? a=AA {cls:=.type "list",data:=.seq b.toArray n}
 |.tup d=>d.length<=sizeLine/\∃b:Hs AG,Vals d b/\Gp h a b.toArray
 |.dK c=>c.length<=sizeLine/\(a==sysModules)=AB/\∃l,KV c l/\h.DictOf (yV P w) a l
 |.dT c=>c.length<=sizeLine/\(a==sysModules)=AB/\∃d:Hs (Hs Key×AJ×AG),
   G0 (λ(p:Hs Key×V) (q:Hs Key×AJ×AG)=>p.1=q.1/\H q.2.1=AA (.tup (p.1.map kV))/\RelV p.2 q.2.2) c d /\
   ∃o m z,h.get? a=AA o/\o.ExactDict/\o.data=.dict m z/\m.toList=d.map (entryOfKey (tupleKind (yV P w)))/\(d.map (·.1)).Nodup
 |.set S n=>h.SetOf (intKind P w) a S n
 |.ins C j fs=>H j=AA (.own a)/\fs.length<=1000/\j≠a/\h.get? a=AA (Bw C j) /\
   ∃g,h.Ns1 j g/\(∀f,ybo (fs.lookup f) (g f))/\Fy g (fs.map (·.1))
 |.own _=>∃o,h.get? a=AA o
 |.xd fs=>∃g,h.Ns1 a g/\∀f,ybo (fs.lookup f) (g f)
 |.rng lo B=>∃t u v,h.get? a=AA {cls:=.type "range",data:=.fields (Hs.toArray [.int lo t,.int B u,.int 1 v])}
 |.frz o u=>h.get? a=AA o/\yaa H h a u
 |.tbl D=>h.get? a=AA {cls:=.none,data:=.fields D}
 |.met f x=>h.get? a=AA (EQ (.ref f) (.ref x))
 |.ext A=>A h/\(∃o,h.get? a=AA o)/\∀r y:BB,A r->(∀o,r.get? a=AA o->y.get? a=AA o)->A y
def HOk(H:Hp)(h:BB):Prop:=∀a o,H a=AA o->yaa P w H h a o
end
section
variable {P:Ae}{w:Aq}{H H':Hp}{h h':BB}{a:AJ}{o:HO}
theorem yaa.lt(x:yaa P w H h a o):a<h.objs.size:=by
 cases o with
 |lst c=>let#[_,_,_,_,e]:=x;exact A9 e
 |tup c=>let#[_,_,_,p]:=x;exact p.lt
 |dK b=>let#[_,_,_,_,o,_,_,e,_]:=x;exact A9 e
 |dT b=>let#[_,_,_,_,o,_,_,e,_]:=x;exact A9 e
 |set S n=>let#[o,_,_,_,e,_]:=x;exact A9 e
 |ins C d fs=>let#[_,_,_,e,_]:=x;exact A9 e
 |own y=>let#[_,e]:=x;exact A9 e
 |xd fs=>let#[_,#[_,_,_,e,_],_]:=x;exact A9 e
 |rng lo g=>let#[_,_,_,e]:=x;exact A9 e
 |frz j u=>let#[e,_]:=x;exact A9 e
 |tbl l=>exact A9 (show h.get? a=AA _ from x)
 |met f y=>exact A9 (show h.get? a=AA _ from x)
 |ext A=>let#[_,#[_,e],_]:=x;exact A9 e
theorem Paired.mapP{B D:Type}{F G:B->D->Prop}:∀{c:Hs B} {d:Hs D},G0 F c d->(∀a b,F a b->G a b)->G0 G c d
 |_,_,.nil,_=>.nil
 |_,_,.cons r t,f=>.cons (f _ _ r) (Paired.mapP t f)
theorem yaa.stay(x:yaa P w H h a o)(k:∀b u,(b=a \/ H b=AA (.own a))->h.get? b=AA u->h'.get? b=AA u)
  (J:∀b,H b=AA (.own a)->H' b=AA (.own a)) (L:∀b B,H b=AA (.tup B)->H' b=AA (.tup B)):yaa P w H' h' a o:=by
 induction o with
 |lst B=>let#[z,m,n,r,e]:=x;exact#[z,m,n,r,k _ _ (.inl rfl) e]
 |tup B=>let#[z,m,r,g,e,c]:=x;exact#[z,m,r,g,k _ _ (.inl rfl) e,c]
 |dK D=>let#[z,y,M,r,g,j,l,e,c]:=x;exact#[z,y,M,r,g,j,l,k _ _ (.inl rfl) e,c]
 |dT D=>
  let#[z,y,B,r,g,j,l,e,c]:=x;exact#[z,y,B,Paired.mapP r λp q z=>#[z.1,L _ _ z.2.1,z.2.2],g,j,l,k _ _ (.inl rfl) e,c]
 |set S n=>let#[g,j,l,t,e,c]:=x;exact#[g,j,l,t,k _ _ (.inl rfl) e,c]
 |ins C Q fs=>
  let#[d,z,N,e,E,#[G,j,l,O,c],r]:=x;exact#[J _ d,z,N,k _ _ (.inl rfl) e,E,#[G,j,l,k _ _ (.inr d) O,c],r]
 |own y=>let#[g,e]:=x;exact#[g,k _ _ (.inl rfl) e]
 |xd fs=>let#[E,#[G,j,l,e,c],r]:=x;exact#[E,#[G,j,l,k _ _ (.inl rfl) e,c],r]
 |rng lo U=>let#[t,u,v,e]:=x;exact#[t,u,v,k _ _ (.inl rfl) e]
 |frz g u ih=>let#[e,q]:=x;exact#[k _ _ (.inl rfl) e,ih q]
 |tbl I=>
  have e:h.get? a=AA {cls:=.none,data:=.fields I}:=x;show h'.get? a=AA {cls:=.none,data:=.fields I};exact k a _ (.inl rfl) e
 |met f y=>
  have e:h.get? a=AA (EQ (.ref f) (.ref y)):=x;show h'.get? a=AA (EQ (.ref f) (.ref y));exact k a _ (.inl rfl) e
 |ext A=>let#[p,#[o,e],st]:=x;exact#[st _ _ p λo q=>k _ _ (.inl rfl) q,#[o,k _ _ (.inl rfl) e],st]
theorem HOk.lt(x:HOk P w H h)(e:H a=AA o):a<h.objs.size:=(x a o e).lt
theorem HOk.fresh(x:HOk P w H h)(e:h.objs.size<=a):H a=none:=by
 cases q:H a with
 |none=>rfl
 |some u=>exact IB (Ad (x.lt q) e) (Cy _)
theorem HOk.kept(x:HOk P w H h)(k:∀b u,h.get? b=AA u->h'.get? b=AA u):HOk P w H h':=λa o e=>
 (x a o e).stay (λb u _ q=>k b u q) (λ_ q=>q) λ_ _ q=>q
theorem HOk.laid(x:HOk P w H h)(k:∀b u,h.get? b=AA u->h'.get? b=AA u)(j:h.objs.size<=a)(d:yaa P w (upd H a o) h' a o):HOk P w (upd H a o) h':=λb u e=>by
 have f:=x.fresh j
 by_cases g:b=a
 .subst g;rw[zq]at e;cases e;exact d
 .rw[zl g]at e;exact(x b u e).stay (λc v _ q=>k c v q) (λc q=>by rw[zl (zp q f)];exact q) λc l q=>by rw[zl (zp q f)];exact q
end
def Rd(H:Hp)(a:AJ)(u:HO):Prop:=H a=AA u \/ ∃o,H a=AA (.frz o u)
theorem Rd.of{H:Hp}{a:AJ}{u:HO}(h:H a=AA u):Rd H a u:=.inl h
theorem Rd.ok{P:Ae}{w:Aq}{H:Hp}{h:BB}{a:AJ}{u:HO}(r:Rd H a u)(x:HOk P w H h):yaa P w H h a u:=by
 rcases r with r|⟨o,r⟩
 .exact x a u r
 .let#[_,q]:=x a _ r;exact q
def Mut:Option HO->Prop
 |some (.lst _)=>True
 |some (.dK _)=>True
 |some (.dT _)=>True
 |some (.set _ _)=>True
 |some (.ins _ _ _)=>True
 |some (.ext _)=>True
 |_=>II
section
variable {P:Ae}{w:Aq}{H:Hp}{h h':BB}{x e:AJ}{o':HO}
theorem HOk.write(ok:HOk P w H h)(g:Mut (H x))(p:e=x \/ H e=AA (.own x))(k:∀b u,b≠e->h.get? b=AA u->h'.get? b=AA u)(n:∃u,h'.get? e=AA u)
  (o:yaa P w (upd H x o') h' x o'):HOk P w (upd H x o') h':=λb u q=>by
 have d:∀c y,H c=AA (.own y)->c≠x:=λc y r z=>by subst z;rw[r]at g;exact g
 have f:∀c j,H c=AA (.tup j)->c≠x:=λc j r z=>by subst z;rw[r]at g;exact g
 by_cases l:b=x
 .subst l;rw[zq]at q;cases q;exact o
 .rw[zl l]at q
  by_cases a:b=e
  .have t:H b=AA (.own x):=by
    rcases p with z|z
    .exact IB (a.trans z) l
    .rw[a];exact z
   rw[q]at t;cases t;let#[v,A]:=n;exact#[v,by rw[a];exact A]
  .refine(ok b u q).stay (λc v m r=>k c v ?_ r) (λc r=>by rw[zl (d c b r)];exact r) λc j r=>by rw[zl (f c j r)];exact r
   rcases m with rfl|m
   .exact a
   .rintro rfl
    rcases p with z|z
    .exact d c b m z
    .rw[m]at z;cases z;exact l rfl
end
structure Un(fs ex:Hs AJ)(H H':Hp)(h h':BB):Prop where
 keep:∀b o,h.get? b=AA o->H b=AD->b∉fs->b∉ex->h'.get? b=AA o
 slot:∀b o,h.get? b=AA o->H b=AD->b∈fs->b∉ex->∃sl,h'.get? b=AA {o with slots:=sl}
 free:∀b o,h.get? b=AA o->H b=AD->b∉ex->H' b=AD
 there:∀b o,h.get? b=AA o->b∉ex->∃o',h'.get? b=AA o'
 tups:∀b xs,H b=AA (.tup xs)->H' b=AA (.tup xs)
 frzs:∀b o u,H b=AA (.frz o u)->H' b=AA (.frz o u)
 tbls:∀b ps,H b=AA (.tbl ps)->∃more,H' b=AA (.tbl (ps++more))
section
variable {fs fs' ex ex':Hs AJ}{H H1 H2:Hp}{h h1 h2 h':BB}{a x e:AJ}{o:HO}
theorem Un.any(u:Un fs ex H H1 h h1){b:AJ}{a:Bd}(q:h.get? b=AA a)(n:H b=AD)(c:b∉ex):∃f,h1.get? b=AA {a with slots:=f}:=by
 by_cases d:b∈fs
 .exact u.slot b a q n d c
 .exact#[a.slots,u.keep b a q n d c]
theorem Un.kept(k:∀b u,h.get? b=AA u->h'.get? b=AA u):Un fs ex H H h h':=
 #[λb a q _ _ _=>k b a q,λb a q _ _ _=>#[a.slots,k b a q],λ_ _ _ n _=>n,λb a q _=>#[a,k b a q],λ_ _ q=>q,λ_ _ _ q=>q,λ_ c q=>#[(Hs.toArray []),by rw[q];simp]]
theorem Un.refl:Un fs ex H H h h:=Un.kept λ_ _ q=>q
theorem Un.laid(k:∀b u,h.get? b=AA u->h'.get? b=AA u)(d:h.objs.size<=a)(c:H a=AD):Un fs ex H (upd H a o) h h' where
 keep:=λb u q _ _ _=>k b u q
 slot:=λb u q _ _ _=>#[u.slots,k b u q]
 free:=λb u q n _=>by rw[zl (Aw (Ad (A9 q) d))];exact n
 there:=λb u q _=>#[u,k b u q]
 tups:=λb f q=>by rw[zl (zp q c)];exact q
 frzs:=λb u f q=>by rw[zl (zp q c)];exact q
 tbls:=λb g q=>#[(Hs.toArray []),by rw[zl (zp q c),q];simp]
theorem Un.write(c:Mut (H x))(l:e=x \/ H e=AA (.own x))(k:∀b u,b≠e->h.get? b=AA u->h'.get? b=AA u)(d:∃u,h'.get? e=AA u):Un fs ex H (upd H x o) h h':=by
 have g:∀b,H b=AD->b≠x:=λb n z=>by subst z;rw[n]at c;exact c
 have j:∀b,H b=AD->b≠e:=λb n z=>by
  subst z;rcases l with r|r
  .exact g b n r
  .rw[n]at r;cases r
 have f:∀b u,H b=AA u->¬Mut (AA u)->b≠x:=λb u q m z=>by subst z;rw[q]at c;exact m c
 refine#[λb u q n _ _=>k b u (j b n) q,λb u q n _ _=>#[u.slots,k b u (j b n) q],λb u q n _=>by rw[zl (g b n)];exact n,λb u q _=>?_,
  λb p q=>by rw[zl (f b _ q λz=>z)];exact q,λb u p q=>by rw[zl (f b _ q λz=>z)];exact q,λb t q=>#[(Hs.toArray []),by rw[zl (f b _ q λz=>z),q];simp]]
 by_cases a:b=e
 .subst a;exact d
 .exact#[u,k b u a q]
end
def trk(h:BB)(H:Hp):Hs Addr:=(En h.objs.size).filter λa=>(H a).isSome
def yck(h:BB)(H:Hp):Heap:=DD h (trk h H)
def zg5(h:BB)(H:Hp):(yck h H).objs.size=h.objs.size:=PySem.W.hideAll_size _ _
def zi3{h:BB}{H:Hp}{b:AJ}{o:Bd}(e:h.get? b=AA o)(n:H b=AD):(yck h H).get? b=AA o:=
 F6 _ e λa=>by have q:(H b).isSome=true:=(Gf.mp a).2;rw[n]at q;simp at q
def zkE{h:BB}{H:Hp}{b:AJ}{o:Bd}(e:(yck h H).get? b=AA o):h.get? b=AA o/\H b=none:=by
 have a:h.get? b=AA o:=Fj (trk h H) e;refine#[a,?_]
 cases q:H b with
 |none=>rfl
 |some x=>
  have c:b∈trk h H:=Gf.mpr #[Gq.mpr (A9 a),by simp[q]];have z:(yck h H).get? b=none:=PySem.W.hideAll_none (trk h H) c;rw[z]at e;cases e
structure Mod(K:AF)(mg:AQ->Option AG)(base:BB):Prop where
 kin:K.In base
 glob:base.Ns mainGlobals mg
 blt:∃mb,base.Ns builtinsNs mb/\∀x:AQ,x ≠ "__name__"->mb x=bootBuiltins x
 nolimit:base.NoLimit
structure Cx where
 prog:Ae
 w:Aq
 K:AF
 mg:AQ->Option AG
 base:BB
 A:Ar
 N:Hs AQ
 s₀:AK
 H₀:Hp
 env:Env
 outer:Hs Env
 stack:Hs Env
 ex:Hs AJ
 fn:AQ->Hy
 calm:Hy
 pn:Hs (AJ×Bd)
 xe:AG->AK->Prop
def frs(l:Hs Env):Hs Addr:=l.filterMap (·.frame)
abbrev Cx.fs(X:Cx):Hs Addr:=frs X.outer
def Vis(sc:BU)(x:AQ):Prop:=sc.names.lookup x=AA .local \/ sc.names.lookup x=AA .cell \/ sc.names.lookup x=AA .free
def Loc(sc:BU)(x:AQ):Prop:=sc.names.lookup x=AA .local \/ sc.names.lookup x=AA .cell
def Look(env:Env)(h:BB)(m:AQ->Option AG)(x:AQ)(u:AG):Prop:=
 (env.kindOf x=AA .local/\m x=AA u) \/ ((env.kindOf x=AA .cell \/ env.kindOf x=AA .free)/\∃c,env.cells.lookup x=AA c/\h.IsCell c (AA u))
structure Cx.Ok(X:Cx):Prop where
 mod:Mod X.K X.mg X.base
 kind:X.env.scope.kind=.function
 glob:X.env.globals=mainGlobals
 blt:X.env.builtins=builtinsNs
 above:X.s₀.heap.objs.size<=X.env.locals
 inj:∀x y c,X.env.cells.lookup x=AA c->X.env.cells.lookup y=AA c->x=y
 has:∀x,(X.env.kindOf x=AA .cell \/ X.env.kindOf x=AA .free)->∃c,X.env.cells.lookup x=AA c
 cab:∀x c,X.fn x=AC->X.env.cells.lookup x=AA c->X.s₀.heap.objs.size<=c
 hd:X.calm=AC->X.A.handled=AD
 frames:X.A.frames=AA X.stack
 stk:X.stack=X.outer \/ (X.stack=X.env::X.outer/\X.env.frame=AA X.env.locals)
 exf:∀b∈X.ex,b≠X.env.locals/\∀x c,X.env.cells.lookup x=AA c->c≠b
 bs:∀b o,X.base.get? b=AA o->X.s₀.heap.get? b=AA o/\X.H₀ b=AD
 bsz:X.base.objs.size<=X.s₀.heap.objs.size
 noex:∀b o,X.base.get? b=AA o->b∉X.ex
 exfs:∀b∈X.ex,b∉X.fs
 funs:X.s₀.heap.FunFrames X.base X.outer
 frf:∀b∈X.fs,X.H₀ b=AD
structure Inv(X:Cx)(B:Hs (AJ×Bd))(A:Hs (Option V))(H:Hp)(s:AK):Prop where
 ok:X.Ok
 os:s.os=X.s₀.os
 bare:DJ s.gens
 base:Un X.fs X.ex X.H₀ H X.s₀.heap s.heap
 loc:∃m,s.heap.Ns X.env.locals m/\∀(i:Ht) (x:AQ) (v:V),X.N[i]?=AA x->A[i]?=AA (AA v)->Vis X.env.scope x->∃u,RelV v u/\Look X.env s.heap m x u
 cell:∀x c,X.env.cells.lookup x=AA c->∃v,s.heap.IsCell c v
 free:H X.env.locals=AD
 freeC:∀x c,X.env.cells.lookup x=AA c->H c=AD
 pin:∀p∈X.pn++B,s.heap.get? p.1=AA p.2/\H p.1=AD/\p.1≠X.env.locals/\p.1∉X.fs/\∀v,p.2.data ≠ .cell v
 hok:HOk X.prog X.w H s.heap
 len:A.length=X.N.length
section
variable {X:Cx}{C:Hs (AJ×Bd)}{B:Hs (Option V)}{H H':Hp}{s:AK}{h':BB}
theorem Cx.Ok.nofr(ok:X.Ok){b:AJ}{o:Bd}(e:X.base.get? b=AA o):b∉X.fs:=λa=>by have:=(ok.funs.mem a).1;rw[e]at this;cases this
theorem Inv.bs(I:Inv X C B H s):∀b o,X.base.get? b=AA o->s.heap.get? b=AA o/\H b=none:=λb o e=>
 #[I.base.keep b o (I.ok.bs b o e).1 (I.ok.bs b o e).2 (I.ok.nofr e) (I.ok.noex b o e),I.base.free b o (I.ok.bs b o e).1 (I.ok.bs b o e).2 (I.ok.noex b o e)]
theorem Inv.bk(I:Inv X C B H s):∀b o,X.base.get? b=AA o->s.heap.get? b=AA o:=λb o e=>(I.bs b o e).1
theorem Inv.mod(I:Inv X C B H s):Mod X.K X.mg X.base:=I.ok.mod
theorem Inv.kIn(I:Inv X C B H s):X.K.In s.heap:=I.ok.mod.kin.keeps I.bk
theorem Inv.lt(I:Inv X C B H s):X.env.locals<s.heap.objs.size:=let #[_,a,_]:=I.loc;a.lt
theorem Inv.sz(I:Inv X C B H s):X.s₀.heap.objs.size<=s.heap.objs.size:=BK I.ok.above (Fz I.lt)
theorem Inv.nofs(I:Inv X C B H s){a:AJ}(h:s.heap.objs.size<=a):a∉X.fs:=λb=>by let#[_,o,c,_]:=I.ok.funs.mem b;exact IB (Ad (A9 c) (BK I.sz h)) (Cy _)
theorem Inv.cne(I:Inv X C B H s):∀x c,X.env.cells.lookup x=AA c->c≠X.env.locals:=λx c e z=>by let#[v,o,d,f]:=I.cell x c e;let#[m,#[g,j,l,a,b,_],_]:=I.loc;rw[z,a]at d;cases d;rw[b]at f;cases f
theorem Inv.funs(I:Inv X C B H s):s.heap.FunFrames X.base X.outer:=by
 have all:∀(l:Hs Env),(∀b∈frs l,b∈X.fs)->X.s₀.heap.FunFrames X.base l->s.heap.FunFrames X.base l:=by
  intro l
  induction l with
  |nil=>intro _ _;trivial
  |cons f r ih=>
   intro d g;let#[j,#[L,o,hf,m,n,p],q]:=g;have a:L∈X.fs:=d L (by unfold frs;rw[C0,hf];exact A6);let#[t,e]:=I.base.slot L o n (I.ok.frf L a) a λz=>I.ok.exfs L z a;exact#[j,#[L,_,hf,m,e,p],ih (λb c=>d b (by unfold frs;rw[C0,hf];exact AT _ c)) q]
 exact all X.outer (λ_ c=>c) I.ok.funs
theorem Inv.stack(I:Inv X C B H s):s.heap.FunFrames X.base X.stack:=by
 rcases I.ok.stk with e|⟨e,hf⟩
 .rw[e];exact I.funs
 .rw[e];let#[m,a,_]:=I.loc;refine .cons (by rw[I.ok.kind];decide) hf a ?_ I.funs;exact Heap.get?_none_of_le (BK I.ok.bsz I.ok.above)
theorem Inv.stkSub(I:Inv X C B H s):∀b∈frs X.stack,b∈X.env.locals::X.fs:=λb a=>by
 rcases I.ok.stk with e|⟨e,hf⟩
 .rw[e]at a;exact AT _ a
 .rw[e]at a;unfold frs at a;rw[C0,hf]at a;exact a
theorem Inv.stkFree(I:Inv X C B H s):∀b∈frs X.stack,H b=none:=λb a=>by
 rcases AM.mp (I.stkSub b a)with e|a
 .rw[e];exact I.free
 .let#[_,o,c,_]:=I.ok.funs.mem a;exact I.base.free b o c (I.ok.frf b a) λz=>I.ok.exfs b z a
theorem Inv.step{g':IH GenState}{t':Ht}{d':Drawn}{ch:Hs AJ}(I:Inv X C B H s)
  (g:∀b∈ch,(b∈X.ex \/ X.s₀.heap.objs.size<=b)/\b≠X.env.locals/\(∀x c,X.env.cells.lookup x=AA c->c≠b)/\∀p∈X.pn++C,p.1≠b)
  (keep:∀b o,b≠X.env.locals->b∉X.fs->b∉ch->s.heap.get? b=AA o->H b=AD->h'.get? b=AA o)
  (A:∀b o,b≠X.env.locals->b∈X.fs->b∉ch->s.heap.get? b=AA o->H b=AD->∃Y,h'.get? b=AA {o with slots:=Y}) (f:∀b o,b∉ch->s.heap.get? b=AA o->H b=AD->H' b=AD)
  (there:∀b o,b∉ch->s.heap.get? b=AA o->∃J,h'.get? b=AA J)
  (L:∀b D,H b=AA (.tup D)->H' b=AA (.tup D)) (M:∀b o u,H b=AA (.frz o u)->H' b=AA (.frz o u)) (N:∀b U,H b=AA (.tbl U)->∃more,H' b=AA (.tbl (U++more)))
  (ns:∀m,s.heap.Ns X.env.locals m->h'.Ns X.env.locals m) (Z:HOk X.prog X.w H' h') (hg:DJ g'):
  Inv X C B H' {s with heap:=h',gens:=g',drawn:=d',toks:=t'}:=by
 have O:∀b o,X.s₀.heap.get? b=AA o->b≠X.env.locals:=λb o e=>Aw (Ad (A9 e) I.ok.above);have w:∀b o,X.s₀.heap.get? b=AA o->b∉X.ex->b∉ch:=λb o e a E=>by
  rcases (g b E).1 with z|z
  .exact a z
  .exact IB (Ad (A9 e) z) (Cy _)
 have j:∀x c,X.env.cells.lookup x=AA c->∀v,s.heap.IsCell c v->h'.IsCell c v:=λx c e v #[o,G,hd]=>by
  have t:c∉ch:=λz=>(g c z).2.2.1 x c e rfl
  by_cases hc:c∈X.fs
  .let#[Y,q]:=A c o (I.cne x c e) hc t G (I.freeC x c e);exact#[_,q,hd]
  .exact#[o,keep c o (I.cne x c e) hc t G (I.freeC x c e),hd]
 refine#[I.ok,I.os,hg,#[λb o e n E a=>?_,λb o e n E a=>?_,λb o e n a=>?_,λb o e a=>?_,λb D e=>L b D (I.base.tups b D e),λb o D e=>M b o D (I.base.frzs b o D e),λb U e=>?_],?_,λx c e=>?_,?_,λx c e=>?_,λp hp=>?_,Z,I.len]
 .exact keep b o (O b o e) E (w b o e a) (I.base.keep b o e n E a) (I.base.free b o e n a)
 .let#[Y,y]:=I.base.slot b o e n E a;let#[sl',Q]:=A b _ (O b o e) E (w b o e a) y (I.base.free b o e n a);exact#[sl',Q]
 .let#[J,y]:=I.base.there b o e a;exact f b J (w b o e a) y (I.base.free b o e n a)
 .let#[J,y]:=I.base.there b o e a;exact there b J (w b o e a) y
 .let#[m1,y]:=I.base.tbls b U e;let#[m2,Q]:=N b _ y;exact#[m1++m2,by rw[Q,Dr]]
 .let#[m,hn,hl]:=I.loc;refine#[m,ns m hn,λi x v y Q e3=>?_];let#[u,r,l]:=hl i x v y Q e3;refine#[u,r,?_];rcases l with l|⟨k,c,e,z⟩
  .exact .inl l
  .exact .inr #[k,c,e,j x c e _ z]
 .let#[v,z]:=I.cell x c e;exact#[v,j x c e v z]
 .let#[m,#[o,_,_,G,_],_]:=I.loc;exact f _ o (λz=>(g _ z).2.1 rfl) G I.free
 .let#[v,o,G,hd]:=I.cell x c e;exact f c o (λz=>(g c z).2.2.1 x c e rfl) G (I.freeC x c e)
 .let#[e,n,ne,nf,d]:=I.pin p hp;have t:p.1∉ch:=λz=>(g p.1 z).2.2.2 p hp rfl;exact#[keep p.1 p.2 ne nf t e n,f p.1 p.2 t e n,ne,nf,d]
theorem Inv.un{t':Ht}(I:Inv X C B H s)(u:Un X.fs [] H H' s.heap h')(c:HOk X.prog X.w H' h'):Inv X C B H' {s with heap:=h',toks:=t'}:=by
 let#[m,#[o,t,w,j,r],_]:=id I.loc;let#[x,l]:=u.any j I.free (by simp);exact I.step (g':=s.gens) (d':=s.drawn) (ch:=[]) (λ_ z=>nomatch z) (λb o _ d _ e n=>u.keep b o e n d (by simp)) (λb o _ d _ e n=>u.slot b o e n d (by simp)) (λb o _ e n=>u.free b o e n (by simp)) (λb o _ e=>u.there b o e (by simp)) u.tups u.frzs u.tbls (λy p=>by let#[A,f,g,a,q]:=p;rw[j]at a;cases a;exact#[_,f,g,l,q]) c I.bare
theorem Inv.call{g':IH GenState}{t':Ht}{d':Drawn}{ch:Hs AJ}(I:Inv X C B H s)(u:Un (frs X.stack) ch H H' s.heap h')(g:HOk X.prog X.w H' h')(w:DJ g')
  (d:∀b∈ch,(b∈X.ex \/ X.s₀.heap.objs.size<=b)/\b≠X.env.locals/\(∀x c,X.env.cells.lookup x=AA c->c≠b)/\∀p∈X.pn++C,p.1≠b):
  Inv X C B H' {s with heap:=h',gens:=g',drawn:=d',toks:=t'}:=by
 let#[m,#[o,E,G,t,r],_]:=id I.loc;let#[J,j]:=u.any t I.free λz=>(d _ z).2.1 rfl;exact I.step (ch:=ch) d (λb o j y a e n=>u.keep b o e n (λz=>(AM.mp (I.stkSub b z)).elim j y) a) (λb o _ _ a e n=>u.any e n a) (λb o a e n=>u.free b o e n a) (λb o a e=>u.there b o e a) u.tups u.frzs u.tbls (λL A=>by let#[M,l,q,f,D]:=A;rw[t]at f;cases f;exact#[_,l,q,j,D]) g w
theorem Inv.turned{t':Ht}{a:AJ}(I:Inv X C B H s)(k:∀b o,b≠a->s.heap.get? b=AA o->h'.get? b=AA o)(j:H a=AD)(g:a≠X.env.locals)
  (l:a∈X.ex \/ X.s₀.heap.objs.size<=a) (t:∀x c,X.env.cells.lookup x=AA c->c≠a) (w:∀p∈X.pn++C,p.1≠a):Inv X C B H {s with heap:=h',toks:=t'}:=by
 have f:∀b u,H b=AA u->b≠a:=λb u e z=>by rw[z,j]at e;cases e
 refine I.step (g':=s.gens) (d':=s.drawn) (ch:=[a]) (λb y=>?_) (λb o _ _ d e _=>k b o (λz=>d (by simp[z])) e) (λb o _ _ d e _=>#[o.slots,k b o (λz=>d (by simp[z])) e]) (λ_ _ _ _ n=>n)
  (λb o d e=>#[o,k b o (λz=>d (by simp[z])) e]) (λ_ _ e=>e) (λ_ _ _ e=>e) (λb J e=>#[(Hs.toArray []),by rw[e];simp]) (λm A=>?_) (λb u e=>?_) I.bare
 .have e:b=a:=by simpa using y
  subst e;exact#[l,g,t,w]
 .let#[o,D,E,G,r]:=A;exact#[o,D,E,k _ o (BW g) G,r]
 .refine(I.hok b u e).stay (λc v d q=>k c v ?_ q) (λ_ q=>q) λ_ _ q=>q;rcases d with z|z
  .rw[z];exact f b u e
  .exact f c _ z
theorem Inv.tok(I:Inv X C B H s)(t:Ht):Inv X C B H {s with toks:=t}:=I.un (h':=s.heap) (t':=t) Un.refl I.hok
theorem Inv.kept{t':Ht}(I:Inv X C B H s)(k:∀b u,s.heap.get? b=AA u->h'.get? b=AA u):Inv X C B H {s with heap:=h',toks:=t'}:=I.un (Un.kept k) (I.hok.kept k)
theorem Inv.laid{a:AJ}{o:HO}{t':Ht}(I:Inv X C B H s)(k:∀b u,s.heap.get? b=AA u->h'.get? b=AA u)(c:s.heap.objs.size<=a)(d:yaa X.prog X.w (upd H a o) h' a o):
  Inv X C B (upd H a o) {s with heap:=h',toks:=t'}:=I.un (Un.laid k c (I.hok.fresh c)) (I.hok.laid k c d)
theorem Inv.write{x e:AJ}{o:HO}{t':Ht}(I:Inv X C B H s)(d:Mut (H x))(f:e=x \/ H e=AA (.own x))(k:∀b u,b≠e->s.heap.get? b=AA u->h'.get? b=AA u)(a:∃u,h'.get? e=AA u)
  (c:yaa X.prog X.w (upd H x o) h' x o):Inv X C B (upd H x o) {s with heap:=h',toks:=t'}:=I.un (Un.write d f k a) (I.hok.write d f k a c)
theorem Inv.pins_of{a:Hs (AJ×Bd)}(I:Inv X C B H s)(h:∀p∈a,s.heap.get? p.1=AA p.2/\H p.1=AD/\p.1≠X.env.locals/\p.1∉X.fs/\∀v,p.2.data ≠ .cell v):Inv X a B H s:=
 #[I.ok,I.os,I.bare,I.base,I.loc,I.cell,I.free,I.freeC,λp b=>(Am.mp b).elim (λz=>I.pin p (Cf _ z)) (h p),I.hok,I.len]
def zfu{N:Hs AQ}(c:N.Nodup){i j:Ht}{x:AQ}(a:N[i]?=AA x)(b:N[j]?=AA x):i=j:=by let#[g,d]:=A3.mp a;let#[l,f]:=A3.mp b;exact(Hs.getElem_inj c).mp (d.trans f.symm)
def zgV{M:HQ}{A:Ar}{E:AG->AK->Prop}{i:Ht}{x:AQ}{v:V}{u:AG}{Q:IR->AK->Prop}(I:Inv X C B H s)(hN:X.N.Nodup)(Y:X.N[i]?=AA x)(w:Loc X.env.scope x)(r:RelV v u)
  (h:∀s',Inv X C (B.set i (AA v)) H s'->(∃a,C6 a s.heap s'.heap/\(a=X.env.locals \/ X.env.cells.lookup x=AA a))->Q IR.unit s') (hf:X.fn x=AC \/ X.env.scope.names.lookup x=AA .local:=by first|exact .inl rfl|exact .inr rfl|assumption):Aa M A (storeName X.env x u) Q E s:=by
 let#[m,hn,hl]:=id I.loc;have Z:(X.env.scope.kind==.class || (X.env.scope.kind==.module&&X.env.locals != X.env.globals))=false:=by rw[I.ok.kind];rfl
 have J:i<B.length:=by rw[I.len];exact(A3.mp Y).1
 have cne:=I.cne;have g:∀{a:AJ} {h':BB},(∃o,s.heap.get? a=AA o/\H a=AD)->C6 a s.heap h'->HOk X.prog X.w H h':=λ{a h'} ha f b ob e=>by
  let#[_,_,D]:=ha;refine(I.hok b ob e).stay (λc w' t q=>(f.2 c ?_).trans q) (λ_ q=>q) λ_ _ q=>q
  rintro rfl
  rcases t with rfl|t
  .rw[D]at e;cases e
  .rw[D]at t;cases t
 rcases w with L|L
 .refine wpAny_storeName_local L hn (λh' hn' f=>?_) Z;let#[oL,_,_,hoL,_]:=id hn;refine h _ #[I.ok,I.os,I.bare,#[λb o e n N w=>?_,λb o e n N w=>?_,I.base.free,λb o e w=>?_,I.base.tups,I.base.frzs,I.base.tbls],#[_,hn',λj y v' l G e3=>?_],λy c e=>?_,I.free,I.freeC,λp hp=>?_,g #[oL,hoL,I.free] f,by simpa using I.len] #[_,f,.inl rfl]
  .exact(f.2 b (Aw (Ad (A9 e) I.ok.above))).trans (I.base.keep b o e n N w)
  .let#[sl,l]:=I.base.slot b o e n N w;exact#[sl,(f.2 b (Aw (Ad (A9 e) I.ok.above))).trans l]
  .let#[o',l]:=I.base.there b o e w;exact#[o',(f.2 b (Aw (Ad (A9 e) I.ok.above))).trans l]
  .by_cases O:j=i
   .subst O;rw[Y]at l;cases l;rw[As J]at G
    cases G
    exact#[u,r,.inl #[L,by simp]]
   .rw[A7 (BW O)]at G;let#[u',r',q]:=hl j y v' l G e3;refine#[u',r',?_];rcases q with⟨k,e⟩|⟨k,c,e,z⟩
    .refine .inl #[k,?_];have:y≠x:=λe=>O (zfu hN l (e ▸ Y));simp[this,e]
    .exact .inr #[k,c,e,z.sameBut f (cne y c e)]
  .let#[w',z]:=I.cell y c e;exact#[w',z.sameBut f (cne y c e)]
  .let#[e,n,ne,nf,d]:=I.pin p hp;exact#[(f.2 p.1 ne).trans e,n,ne,nf,d]
 .have U:X.fn x=true:=by
   rcases hf with z|z
   .exact z
   .rw[z]at L;cases L
  let#[c,t]:=I.ok.has x (.inl L);let#[w',z]:=I.cell x c t;refine wpAny_storeName_cell I.ok.kind L t z (λh' hc' f=>?_);let#[oc,hoc,hocd]:=id z;refine h {s with heap:=h'} #[I.ok,I.os,I.bare,#[λb o e n N w=>?_,λb o e n N w=>?_,I.base.free,λb o e w=>?_,I.base.tups,I.base.frzs,I.base.tbls],#[m,hn.sameBut f (BW (cne x c t)),λj y v' l G e3=>?_],λy c' e=>?_,I.free,I.freeC,λp hp=>?_,g #[oc,hoc,I.freeC x c t] f,by simpa using I.len] #[c,f,.inr t]
  .exact(f.2 b (Aw (Ad (A9 e) (I.ok.cab x c U t)))).trans (I.base.keep b o e n N w)
  .let#[sl,l]:=I.base.slot b o e n N w;exact#[sl,(f.2 b (Aw (Ad (A9 e) (I.ok.cab x c U t)))).trans l]
  .let#[o',l]:=I.base.there b o e w;exact#[o',(f.2 b (Aw (Ad (A9 e) (I.ok.cab x c U t)))).trans l]
  .by_cases O:j=i
   .subst O;rw[Y]at l;cases l;rw[As J]at G
    cases G
    exact#[u,r,.inr #[.inl L,c,t,hc']]
   .rw[A7 (BW O)]at G;let#[u',r',q]:=hl j y v' l G e3;refine#[u',r',?_];rcases q with q|⟨k,c',e,z'⟩
    .exact .inl q
    .refine .inr #[k,c',e,z'.sameBut f ?_]
     rintro rfl
     exact O (zfu hN l (I.ok.inj _ _ _ e t ▸ Y))
  .by_cases hcc:c'=c
   .subst hcc;exact#[_,hc']
   .let#[w2,z2]:=I.cell y c' e;exact#[w2,z2.sameBut f hcc]
  .let#[e,n,ne,nf,d]:=I.pin p hp;refine#[(f.2 p.1 ?_).trans e,n,ne,nf,d];intro q;rw[q,hoc]at e;have q':oc=p.2:=Ac e;exact d w' (by rw[<-q'];exact hocd)
def zaL{M:HQ}{A:Ar}{E:AG->AK->Prop}{i:Ht}{x:AQ}{v:V}{u:AG}{Q:IR->AK->Prop}(I:Inv X C B H s)(b:X.N.Nodup)(c:X.N[i]?=AA x)(d:Loc X.env.scope x)(r:RelV v u)
  (h:∀a,Inv X C (B.set i (AA v)) H a->Q IR.unit a) (hf:X.fn x=AC \/ X.env.scope.names.lookup x=AA .local:=by first|exact .inl rfl|exact .inr rfl|assumption):Aa M A (storeName X.env x u) Q E s:=
 zgV I b c d r (λa f _=>h a f) hf
theorem Inv.call'{s':AK}{ch:Hs AJ}(I:Inv X C B H s)(f:s'.os=s.os)(u:Un (frs X.stack) ch H H' s.heap s'.heap)(a:HOk X.prog X.w H' s'.heap)(g:DJ s'.gens)
  (d:∀b∈ch,(b∈X.ex \/ X.s₀.heap.objs.size<=b)/\b≠X.env.locals/\(∀x c,X.env.cells.lookup x=AA c->c≠b)/\∀p∈X.pn++C,p.1≠b):Inv X C B H' s':=by let#[h',g',d',t',j]:=s';have e:j=s.os:=f;subst e;exact I.call (g':=g') (t':=t') (d':=d') u a g d
end
abbrev XK:=AG->Option AJ->Hp->Prop
abbrev St:=Hs (Option V)
abbrev VK:=V->Hp->Prop
abbrev TE:=St->Hp->VK->Prop
abbrev TT:=St->Hp->(Hy->Hp->Prop)->Prop
abbrev TA:=St->Hp->(Hs V->Hp->Prop)->Prop
structure Ends where
 nx:St->Hp->Prop
 rt:VK
 bk:St->Hp->Prop:=λ_ _=>II
 ct:St->Hp->Prop:=λ_ _=>II
abbrev TS:=Ends->St->Hp->Prop
def EP(X:Cx)(B:Hs (AJ×Bd))(A:St)(Q:VK)(u:AG)(s':AK):Prop:=∃v a,Inv X B A a s'/\RelV v u/\Q v a
def TP(X:Cx)(B:Hs (AJ×Bd))(A:St)(Q:Hy->Hp->Prop)(b:Hy)(s':AK):Prop:=∃a,Inv X B A a s'/\Q b a
def AP(X:Cx)(B:Hs (AJ×Bd))(A:St)(Q:Hs V->Hp->Prop)(us:Hs AG)(s':AK):Prop:=∃a b,Inv X B A b s'/\Vals a us/\Q a b
def SP(X:Cx)(A:Hs (AJ×Bd))(D:Ends)(f:Flow)(s':AK):Prop:=
 match f with
 |.next=>∃b a,Inv X A b a s'/\D.nx b a
 |.brk=>∃b a,Inv X A b a s'/\D.bk b a
 |.cont=>∃b a,Inv X A b a s'/\D.ct b a
 |.ret u=>∃v b a,Inv X A b a s'/\RelV v u/\D.rt v a
def PE(X:Cx)(e:AX)(t:TE):Prop:=
 ∀(C:Hs (AJ×Bd)) (s:AK) (B:St) (H:Hp) (Q:VK),Inv X C B H s->t B H Q->Aa (model X.prog X.w) X.A (eval e X.env) (EP X C B Q) X.xe s
def PT(X:Cx)(e:AX)(t:TT):Prop:=
 ∀(C:Hs (AJ×Bd)) (s:AK) (B:St) (H:Hp) (Q:Hy->Hp->Prop),Inv X C B H s->t B H Q->Aa (model X.prog X.w) X.A (isTrue e X.env (eval e X.env)) (TP X C B Q) X.xe s
def PW(X:Cx)(e:AX)(t:TT):Prop:=
 ∀(a:HR AG) (C:Hs (AJ×Bd)) (s:AK) (B:St) (H:Hp) (Q:Hy->Hp->Prop),Inv X C B H s->t B H Q->Aa (model X.prog X.w) X.A (isTrue e X.env a) (TP X C B Q) X.xe s
theorem PW.pt{X:Cx}{e:AX}{t:TT}(h:PW X e t):PT X e t:=h _
def PA(X:Cx)(es:Hs AX)(t:TA):Prop:=
 ∀(pos:Bq) (C:Hs (AJ×Bd)) (s:AK) (B:St) (H:Hp) (Q:Hs V->Hp->Prop),Inv X C B H s->t B H Q->Aa (model X.prog X.w) X.A (spliced (backTo pos (starEach es X.env))) (AP X C B Q) X.xe s
def PS(X:Cx)(st:Bf)(t:TS):Prop:=
 ∀(C:Hs (AJ×Bd)) (s:AK) (B:St) (H:Hp) (D:Ends),Inv X C B H s->t D B H->Aa (model X.prog X.w) X.A (exec st X.env) (SP X C D) X.xe s
def PSs(X:Cx)(st:Hs Bf)(t:TS):Prop:=
 ∀(C:Hs (AJ×Bd)) (s:AK) (B:St) (H:Hp) (D:Ends),Inv X C B H s->t D B H->Aa (model X.prog X.w) X.A (execs st X.env) (SP X C D) X.xe s
theorem thn{B:Type}{t:HR B}{Q b:B->AK->Prop}{M:HQ}{A:Ar}{E:AG->AK->Prop}{s:AK}(h:Aa M A t Q E s)(c:∀a s,Q a s->b a s):Aa M A t b E s:=Bj h c λ_ _ x=>x
section
variable {X:Cx}
def yhD(i:Ht):TE:=λB H Q=>∃v,B[i]?=AA (AA v)/\Q v H
def tC(v:V):TE:=λ_ H Q=>Q v H
def zns{i:Ht}{x:AQ}{pos:Bq}(n:X.N[i]?=AA x)(o:Vis X.env.scope x)(f:(x==("__debug__":AQ))=false:=by decide)(g:(x==("__classdict__":AQ))=false:=by decide):PE X (.Name x pos) (yhD i):=by
 intro C s B H Q I h;let#[v,e,h]:=h;let#[m,p,q]:=I.loc;let#[u,r,l]:=q i x v n e o;have b:EP X C B Q u s:=#[v,H,I,r,h];rcases l with⟨d,t⟩|⟨d,c,j,a⟩
 .exact Gr (FW I.ok.kind d p t b) f
 .rcases d with d|d
  .exact Gr (F7 I.ok.kind d j a b) f
  .exact Gr (wpAny_loadName_free I.ok.kind d j a b g) f
def zoS{i j pos}:PE X (.Constant (.int i) j pos) (tC (.int i)):=λ_ _ _ H _ I h=>wpAny_Constant_int #[.int i,H,I.tok _,#[_,rfl],h]
def zpb{b j pos}:PE X (.Constant (.bool b) j pos) (tC (.bl b)):=λ_ _ _ H _ I h=>Constant_bool #[.bl b,H,I,rfl,h]
def zpc{j pos}:PE X (.Constant .none j pos) (tC .non):=λ_ _ _ H _ I h=>Constant_none #[.non,H,I,rfl,h]
def zoT{x j pos}:PE X (.Constant (.str x) j pos) (tC (.str x)):=λ_ _ _ H _ I h=>Calls.Constant_str #[.str x,H,I.tok _,#[_,rfl],h]
def Gl(X:Cx)(x:AQ):Prop:=X.env.kindOf x=AA .globalImplicit
def zbx{E:AG->AK->Prop}{C:Hs (AJ×Bd)}{s:AK}{B:St}{H:Hp}{x:AQ}{u:AG}{pos:Bq}{Q:AG->AK->Prop}(I:Inv X C B H s)(a:Gl X x)(b:X.mg x=AA u)(h:Q u s)
  (c:(x==("__debug__":AQ))=false:=by decide):Aa (model X.prog X.w) X.A (eval (.Name x pos) X.env) Q E s:=
 Ds I.ok.kind a (Calls.loadGlobal_global (by rw[I.ok.glob];exact I.mod.glob.keeps I.bk) b h) c
def zc0{E:AG->AK->Prop}{C:Hs (AJ×Bd)}{s:AK}{B:St}{H:Hp}{x:AQ}{u:AG}{pos:Bq}{Q:AG->AK->Prop}(I:Inv X C B H s)(a:Gl X x)(b:X.mg x=AD)(c:bootBuiltins x=AA u)(h:Q u s)
  (d:x ≠ "__name__":=by decide) (f:(x==("__debug__":AQ))=false:=by decide):Aa (model X.prog X.w) X.A (eval (.Name x pos) X.env) Q E s:=by let#[l,g,j]:=I.mod.blt;exact Ds I.ok.kind a (Calls.loadGlobal_builtin (by rw[I.ok.glob];exact I.mod.glob.keeps I.bk) b (by rw[I.ok.blt];exact g.keeps I.bk) ((j x d).trans c) h) f
def zcB{x:AQ}{v:V}{u:AG}{pos:Bq}(a:Gl X x)(b:X.mg x=AA u)(r:RelV v u)(c:(x==("__debug__":AQ))=false:=by decide):PE X (.Name x pos) (tC v):=
 λ_ _ _ H _ I h=>zbx I a b #[v,H,I,r,h] c
def zgM{x:AQ}{v:V}{u:AG}{pos:Bq}(a:Gl X x)(b:X.mg x=AD)(c:bootBuiltins x=AA u)(r:RelV v u)(d:x ≠ "__name__":=by decide)(f:(x==("__debug__":AQ))=false:=by decide):PE X (.Name x pos) (tC v):=
 λ_ _ _ H _ I h=>zc0 I a b c #[v,H,I,r,h] d f
variable {a b:AX}{ta tb:TE}{pos:Bq}
variable {tA tB':TT}{rest:Hs AX}
def yhm(t u:TT):TT:=λB H Q=>t B H λc a=>if c=AC then u B a Q else Q AB a
def tOr(t u:TT):TT:=λB H Q=>t B H λc a=>if c=AC then Q AC a else u B a Q
def ygx(t:TT):TT:=λB H Q=>t B H λc a=>Q (!c) a
def zk3(b:PT X a tA):PW X (.BoolOp .And [a] pos) tA:=by
 intro wh C s B H Q I h;refine isTrue_and (thn (b C s B H Q I h) λc d e=>?_)
 cases c with
 |true=>exact isTrue_and_nil e
 |false=>exact e
def znP(b:PT X a tA):PW X (.BoolOp .Or [a] pos) tA:=by
 intro wh C s B H Q I h;refine isTrue_or (thn (b C s B H Q I h) λc d e=>?_)
 cases c with
 |false=>exact isTrue_or_nil e
 |true=>exact e
def zm2(j:PT X a tA)(l:PW X (.BoolOp .And (b::rest) pos) tB'):PW X (.BoolOp .And (a::b::rest) pos) (yhm tA tB'):=by
 intro wh C s B H Q I h;refine isTrue_and (thn (j C s B H _ I h) λc m n=>?_);let#[d,f,g]:=n
 cases c with
 |true=>exact l wh C m B d Q f g
 |false=>exact#[d,f,g]
def zoi(j:PT X a tA)(l:PW X (.BoolOp .Or (b::rest) pos) tB'):PW X (.BoolOp .Or (a::b::rest) pos) (tOr tA tB'):=by
 intro wh C s B H Q I h;refine isTrue_or (thn (j C s B H _ I h) λc m n=>?_);let#[d,f,g]:=n
 cases c with
 |true=>exact#[d,f,g]
 |false=>exact l wh C m B d Q f g
def znM(b:PT X a tA):PT X (.UnaryOp .Not a pos) (ygx tA):=by intro C s B H Q I h;exact isTrue_not (b C s B H (λc d=>Q (!c) d) I h)
def yeU(ta tb:TE):TE:=λB H Q=>ta B H λx a=>∃c,x=.bl c/\if c=AC then tb B a Q else Q (.bl AB) a
def yhK(ta tb:TE):TE:=λB H Q=>ta B H λx a=>∃c,x=.bl c/\if c=AC then Q (.bl AC) a else tb B a Q
def yeX(ta:TE):TE:=λB H Q=>ta B H λx a=>∃c,x=.bl c/\Q (.bl (!c)) a
def znD{b}{t:TE}(h:PE X a t):PE X (.BoolOp b [a] pos) t:=λC s B H Q I c=>BoolOp_one (h C s B H Q I c)
def znz(j:PE X a ta)(l:PE X (.BoolOp .And (b::rest) pos) tb):PE X (.BoolOp .And (a::b::rest) pos) (yeU ta tb):=by
 intro C s B H Q I h;refine BoolOp_and (thn (j C s B H _ I h) λv m n=>?_);let#[x,f,g,o,d]:=n;let#[c,rfl,d]:=d
 cases o
 refine BZ ?_
 cases c with
 |true=>exact l C m B f Q g d
 |false=>exact#[.bl AB,f,g,rfl,d]
def znY(j:PE X a ta)(l:PE X (.BoolOp .Or (b::rest) pos) tb):PE X (.BoolOp .Or (a::b::rest) pos) (yhK ta tb):=by
 intro C s B H Q I h;refine BoolOp_or (thn (j C s B H _ I h) λv m n=>?_);let#[x,f,g,o,d]:=n;let#[c,rfl,d]:=d
 cases o
 refine BZ ?_
 cases c with
 |false=>exact l C m B f Q g d
 |true=>exact#[.bl AC,f,g,rfl,d]
def zm1(d:PE X a ta):PE X (.UnaryOp .Not a pos) (yeX ta):=by
 intro C s B H Q I h;refine UnaryOp_ (thn (d C s B H _ I h) λv m f=>?_);let#[x,g,j,l,b]:=f;let#[c,rfl,b]:=b
 cases l
 exact not_of (BZ #[.bl (!c),g,j,rfl,b])
def tIf(t:TT)(ta tb:TE):TE:=λB H Q=>t B H λc a=>if c=AC then ta B a Q else tb B a Q
def ziQ{c:AX}(m:PT X c tA)(n:PE X a ta)(o:PE X b tb):PE X (.IfExp c a b pos) (tIf tA ta tb):=by
 intro C s B H Q I h;refine wpAny_IfExp (thn (m C s B H _ I h) λd f p=>?_);let#[g,j,l]:=p
 cases d with
 |true=>exact n C f B g Q j l
 |false=>exact o C f B g Q j l
end
def SqL(K:AF)(H:Hp)(a:AJ)(xs:Hs V):Prop:=
 Rd H a (.lst xs) \/
  ∃(o:Bd) (b:IH AG) (n:Ht),K.lookup a=AA o/\o.cls=.type "list"/\o.dict=AD/\o.data=.seq b n/\b.size<=sizeLine/\Vals xs b.toList
def SqT(K:AF)(H:Hp)(a:AJ)(xs:Hs V):Prop:=
 Rd H a (.tup xs) \/
  ∃(o:Bd) (b:IH AG) (n:Ht),K.lookup a=AA o/\o.cls=.type "tuple"/\o.data=.seq b n/\b.size<=sizeLine/\Vals xs b.toList
def yg6:AG->Option V
 |.none=>AA .non
 |.bool b=>AA (.bl b)
 |.int i _=>AA (.int i)
 |.str x _=>AA (.str x)
 |.bytes b _=>AA (.byt b)
 |.float b _=>AA (.flt b)
 |.ref a=>AA (.ref a)
 |.type n=>AA (.ty n)
 |_=>AD
theorem RelV.abs{x:V}{u:AG}(r:RelV x u):yg6 u=AA x:=by
 cases x with
 |non=>cases r;rfl
 |bl _=>cases r;rfl
 |int _=>let#[t,rfl]:=r;rfl
 |str _=>let#[t,rfl]:=r;rfl
 |byt _=>let#[t,rfl]:=r;rfl
 |flt _=>let#[t,rfl]:=r;rfl
 |ref _=>cases r;rfl
 |ty _=>cases r;rfl
theorem RelV.inj{x y:V}{u:AG}(r:RelV x u)(q:RelV y u):x=y:=Ac (r.abs.symm.trans q.abs)
theorem Vals.inj:∀{xs ys:Hs V} {us:Hs AG},Vals xs us->Vals ys us->xs=ys
 |_,_,_,.nil,.nil=>rfl
 |_,_,_,.cons r t,.cons a b=>by rw[r.inj a,Vals.inj t b]
section
variable {X:Cx}{B:Hs (AJ×Bd)}{A:St}{H:Hp}{s:AK}{a:AJ}{xs ys:Hs V}
theorem SqL.of{K:AF}(h:H a=AA (.lst xs)):SqL K H a xs:=.inl (.inl h)
theorem Inv.list(I:Inv X B A H s)(h:SqL X.K H a xs):∃b:Hs AG,Vals xs b/\PlainL s.heap a b.toArray/\xs.length<=sizeLine:=by
 rcases h with h|⟨o,b,n,c,d,f,g,j,r⟩
 .let#[z,b,n,r,e]:=h.ok I.hok;exact#[b,r,#[_,n,e,rfl,rfl,rfl],z]
 .refine#[b.toList,r,#[o,n,I.kIn a o c,d,f,by simpa using g],?_];have e:=r.length;erw[By]at e;lia
theorem Inv.tuple(I:Inv X B A H s)(h:SqT X.K H a xs):∃b:Hs AG,Vals xs b/\Gp s.heap a b.toArray/\xs.length<=sizeLine:=by
 rcases h with h|⟨o,b,n,c,d,f,g,r⟩
 .let#[z,b,r,p]:=h.ok I.hok;exact#[b,r,p,z]
 .refine#[b.toList,r,#[o,I.kIn a o c,d,n,by simpa using f],?_];have e:=r.length;erw[By]at e;lia
theorem Inv.list_inj(I:Inv X B A H s)(h:SqL X.K H a xs)(h':SqL X.K H a ys):xs=ys:=by
 let#[c,r,#[o,n,e,_,_,d],_]:=I.list h;let#[b,j,#[m,p,f,_,_,g],_]:=I.list h';rw[e]at f;cases f;rw[d]at g;injection g with l _;have:c=b:=by simpa using IJ HX l
 subst this;exact r.inj j
theorem Inv.tuple_inj(I:Inv X B A H s)(h:SqT X.K H a xs)(h':SqT X.K H a ys):xs=ys:=by
 let#[c,r,#[o,e,_,n,d],_]:=I.tuple h;let#[b,j,#[m,f,_,p,g],_]:=I.tuple h';rw[e]at f;cases f;rw[d]at g;injection g with l _;have:c=b:=by simpa using IJ HX l
 subst this;exact r.inj j
end
abbrev Cx.wish(X:Cx)(E:AG->AK->Prop):Cx:={X with xe:=E}
theorem Cx.Ok.wish{X:Cx}(ok:X.Ok)(E:AG->AK->Prop):(X.wish E).Ok:=
 #[ok.mod,ok.kind,ok.glob,ok.blt,ok.above,ok.inj,ok.has,ok.cab,ok.hd,ok.frames,ok.stk,ok.exf,ok.bs,ok.bsz,ok.noex,ok.exfs,ok.funs,ok.frf]
theorem Cx.Ok.unwish{X:Cx}{E:AG->AK->Prop}(ok:(X.wish E).Ok):X.Ok:=
 #[ok.mod,ok.kind,ok.glob,ok.blt,ok.above,ok.inj,ok.has,ok.cab,ok.hd,ok.frames,ok.stk,ok.exf,ok.bs,ok.bsz,ok.noex,ok.exfs,ok.funs,ok.frf]
section
variable {X:Cx}{B:Hs (AJ×Bd)}{A:St}{H:Hp}{s:AK}{E:AG->AK->Prop}
theorem Inv.wish(I:Inv X B A H s)(E:AG->AK->Prop):Inv (X.wish E) B A H s:=#[I.ok.wish E,I.os,I.bare,I.base,I.loc,I.cell,I.free,I.freeC,I.pin,I.hok,I.len]
theorem Inv.unwish(I:Inv (X.wish E) B A H s):Inv X B A H s:=#[I.ok.unwish,I.os,I.bare,I.base,I.loc,I.cell,I.free,I.freeC,I.pin,I.hok,I.len]
end
section
variable {X:Cx}{st:Bf}{rest:Hs Bf}{t u:TS}{e:AX}{te:TE}{pos:Bq}
def yft:TS:=λD A H=>D.nx A H
def yhA(t u:TS):TS:=λD A H=>t {D with nx:=u D} A H
def zpd:PSs X [] yft:=λ_ _ A H _ I h=>D9 #[A,H,I,h]
def ziL(a:PS X st t)(b:PSs X rest u):PSs X (st::rest) (yhA t u):=by
 intro B s A H D I h;refine wpAny_execs_cons (thn (a B s A H {D with nx:=u D} I h) λf c q=>?_)
 cases f with
 |next=>
  let#[d,g,j,q]:=q;exact b B c d g D j q
 |ret v=>exact q
 |brk=>exact q
 |cont=>exact q
theorem Inv.quiet{B:Hs (AJ×Bd)}{A:St}{H:Hp}{s:AK}(I:Inv X B A H s):interactive X.env=false:=by simp[interactive,I.ok.kind]
def yeO(te:TE):TS:=λD A H=>te A H λ_ a=>D.nx A a
def zld(a:PE X e te)(b:swapsWith e AD pos.line X.env=pure false:=by rfl):PS X (.Expr e pos) (yeO te):=by intro B s A H D I h;exact wpAny_Expr_any (thn (a B s A H _ I h) λv g #[x,c,d,j,f]=>#[A,c,d,f]) I.quiet b
def ygc(te:TE):TS:=λD A H=>te A H D.rt
def zmO(a:PE X e te):PS X (.Return (AA e) pos) (ygc te):=by intro B s A H D I h;exact wpAny_Return_some (thn (a B s A H _ I h) λv g #[x,b,c,d,f]=>#[x,A,b,c,d,f])
def yeS:TS:=λD _ H=>D.rt .non H
def zpe:PS X (.Return AD pos) yeS:=λ_ _ A H _ I h=>wpAny_Return_none #[.non,A,H,I,rfl,h]
def ygP(c:TT)(t u:TS):TS:=λD A H=>c A H λb a=>if b=AC then t D A a else u D A a
def zog{c:AX}{a b:Hs Bf}{f:TT}(n:PT X c f)(o:PSs X a t)(p:PSs X b u):PS X (.If c a b pos) (ygP f t u):=by
 intro B s A H D I h;refine wpAny_If (thn (n B s A H _ I h) λd g q=>?_);let#[j,l,m]:=q
 cases d with
 |true=>exact o B g A j D l m
 |false=>exact p B g A j D l m
end
abbrev TG:=V->St->Hp->(St->Hp->Prop)->Prop
abbrev TGs:=Hs V->St->Hp->(St->Hp->Prop)->Prop
def PG(X:Cx)(a:AX)(t:TG):Prop:=
 ∀(C:Hs (AJ×Bd)) (s:AK) (B:St) (H:Hp) (v:V) (u:AG) (Q:St->Hp->Prop),Inv X C B H s->RelV v u->t v B H Q ->
  Aa (model X.prog X.w) X.A (assign a X.env u) (λ_ d=>∃b c,Inv X C b c d/\Q b c) X.xe s
def PGs(X:Cx)(ts:Hs AX)(t:TGs):Prop:=
 ∀(C:Hs (AJ×Bd)) (s:AK) (B:St) (H:Hp) (a:Hs V) (b:Hs AG) (Q:St->Hp->Prop),Inv X C B H s->Vals a b->t a B H Q ->
  Aa (model X.prog X.w) X.A (assignInOrder ((assignEach ts X.env).map (·.2)) b) (λ_ f=>∃c d,Inv X C c d f/\Q c d) X.xe s
abbrev yfu:=V->V->V->Hp->(Hp->Prop)->Prop
def yfQ(X:Cx)(t:yfu):Prop:=
 ∀(C:Hs (AJ×Bd)) (s:AK) (B:St) (H:Hp) (o i v:V) (a b u:AG) (Q:Hp->Prop),Inv X C B H s->RelV o a->RelV i b->RelV v u->t o i v H Q ->
  Aa (model X.prog X.w) X.A (setItem a b u) (λ_ d=>∃c,Inv X C B c d/\Q c) X.xe s
abbrev TIp:=V->V->Hp->VK->Prop
def PIp(X:Cx)(a:D6)(t:TIp):Prop:=
 ∀(C:Hs (AJ×Bd)) (s:AK) (B:St) (H:Hp) (x y:V) (v u:AG) (Q:VK),Inv X C B H s->RelV x v->RelV y u->t x y H Q ->
  Aa (model X.prog X.w) X.A (inplaceOp a v u) (EP X C B Q) X.xe s
section
variable {X:Cx}{pos:Bq}
def ycu(i:Ht):TG:=λv B H Q=>Q (B.set i (AA v)) H
def zgX{i:Ht}{x:AQ}(a:X.N.Nodup)(b:X.N[i]?=AA x)(c:Loc X.env.scope x)(hf:X.fn x=AC \/ X.env.scope.names.lookup x=AA .local:=by first|exact .inl rfl|exact .inr rfl|assumption):PG X (.Name x pos) (ycu i):=by intro C s B H v u Q I r h;exact GA (zaL I a b c r (λf d=>#[_,H,d,h]) hf)
def ygI:TGs:=λa B H Q=>a=[]/\Q B H
def ye3(t:TG)(u:TGs):TGs:=λa B H Q=>∃v r,a=v::r/\t v B H λb c=>u r b c Q
def zoU:PGs X [] ygI:=by
 intro C s B H a b Q I r h;let#[e,h]:=h;subst e
 cases r
 exact GB #[B,H,I,h]
def zdz{e:AX}{es:Hs AX}{t:TG}{u:TGs}(a:PG X e t)(b:PGs X es u)
  (c:(assignEach (e::es) X.env).map (·.2)=assign e X.env::(assignEach es X.env).map (·.2):=by rfl):PGs X (e::es) (ye3 t u):=by
 intro C s B H o p Q I r h;let#[v,q,d,h]:=h;subst d
 cases r with
 |cons r f=>
  rw[c];refine Dt (thn (a C s B H _ _ _ I r h) λ_ g j=>?_);let#[B1,l,m,n]:=j;exact b C g B1 l _ _ Q m f n
def yhf(K:AF)(n:Ht)(t:TGs):TG:=λv B H Q=>∃a b,v=.ref a/\SqT K H a b/\b.length=n/\t b B H Q
def zjO{es:Hs AX}{k:Ht}{t:TGs}{n:Ht}(g:X.calm=AC)(h:PGs X es t)
  (j:(assignEach es X.env).length=n:=by rfl) (c:(assignEach es X.env).findIdx? (·.1)=none:=by rfl):PG X (.Tuple es k pos) (yhf X.K n t):=by
 intro C s B H v u Q I r d;let#[a,l,m,p,q,d]:=d;subst m
 cases r
 let#[w,f,x,D]:=I.tuple p;refine assign_Tuple_tuple (I.ok.hd g) x (by simp[j,<-q,f.length]) c λy z=>?_;have A:Inv X C B H {s with heap:=y}:=I.kept (t':=s.toks) λb o e=>z b o (Aw (A9 e)) e;exact h C _ B H l _ Q A (by simpa using f) d
def yem(a ti:TE)(t:yfu):TG:=λv B H Q=>a B H λo b=>ti B b λi c=>t o i v c λd=>Q B d
def ze7{o i:AX}{d ti:TE}{t:yfu}(f:PE X o d)(g:PE X i ti)(j:yfQ X t)
  (l:∀v,assign (.Subscript o i pos) X.env v=(do
   let a <-holding [v] (eval o X.env)
   let b <-holding [v,a] (eval i X.env)
   standAt pos
   holding [v,a,b] (setItem a b v)
   release [v,a,b] []):=by intro _;rfl):PG X (.Subscript o i pos) (yem d ti t):=by intro C s B H v u Q I r h;rw[l];refine AI (D2 (thn (f C s B H _ I h) λa m c=>?_));let#[x,n,p,q,w]:=c;refine AI (D2 (thn (g C m B n _ p w) λb z c=>?_));let#[y,A,D,E,G]:=c;refine AI (D3 (AI (D2 (thn (j C z B A x y v a b u _ D q E r G) λ_ N c=>?_))));let#[J,L,M]:=c;exact wpAny_release #[B,J,L,M]
def yeZ(a:TE)(g:TG):TS:=λD B H=>a B H λx b=>g x B b D.nx
def zh6{tg e:AX}{a:TE}{g:TG}(b:PE X e a)(c:PG X tg g)(d:swapsWithSole [tg] e pos.line X.env=pure false:=by rfl)(f:swappedStores [tg] e X.env=pure none:=by rfl)
  (j:(assignEach [tg] X.env).map (·.2)=[assign tg X.env]:=by rfl):PS X (.Assign [tg] e pos) (yeZ a g):=by intro C s B H D I h;refine wpAny_Assign_stores (thn (b C s B H _ I h) λv l m=>?_) d f;let#[x,n,o,p,r]:=m;rw[j];exact thn (c C l B n x v _ o p r) λ_ t q=>q
def zlY{i:Ht}{x:AQ}{e:AX}{b:TE}{a:Bq}(c:X.N.Nodup)(d:X.N[i]?=AA x)(f:Loc X.env.scope x)(g:PE X e b)(j:swapsWith e (AA (.Name x a)) pos.line X.env=pure false:=by rfl)(hf:X.fn x=AC \/ X.env.scope.names.lookup x=AA .local:=by first|exact .inl rfl|exact .inr rfl|assumption):
  PS X (.Assign [.Name x a] e pos) (yeZ b (ycu i)):=by intro C s B H D I h;refine wpAny_Assign_Name (thn (g C s B H _ I h) λv r l=>?_) j;let#[y,m,n,o,p]:=l;exact zaL n c d f o (λt q=>#[_,m,q,p]) hf
def yf0(i j:Ht)(a:TA):TS:=λD B H=>a B H λb c=>∃v w,b=[v,w]/\D.nx ((B.set i (AA v)).set j (AA w)) c
def zm6{i j:Ht}{x y:AQ}{a b:AX}{E:TA}{l m pt:Bq}{n r c}(O:X.calm=AC)(G:X.N.Nodup)(Q:X.N[i]?=AA x)(U:X.N[j]?=AA y)(t:i≠j)
  (J:X.env.scope.names.lookup x=AA .local) (L:X.env.scope.names.lookup y=AA .local) (Y:PA X [a,b] E)
  (Z:swappedStores [.Tuple [.Name x l,.Name y m] n pt] (.Tuple [a,b] r c) X.env=pure (AA [x,y]))
  (hs:swapsWithSole [.Tuple [.Name x l,.Name y m] n pt] (.Tuple [a,b] r c) pos.line X.env=pure false:=by rfl):
  PS X (.Assign [.Tuple [.Name x l,.Name y m] n pt] (.Tuple [a,b] r c) pos) (yf0 i j E):=by
 intro C s B H D I h;rw[exec_Assign_arm];refine AI (D3 ?_);rw[hs];refine AI (AZ ?_);rw[IA ⋯];refine AI (Tuple_ (thn (Y _ C s B H _ I h) λus d kq=>?_));let#[vs,M,I1,r1,u]:=kq;let#[v,w,e1,u]:=u;subst e1;obtain⟨f,g,rfl,rv,z⟩:∃f g,us=[f,g]/\RelV v f/\RelV w g:=by
  cases r1 with
  |cons p q=>
   cases q with
   |cons p' q'=>
    cases q'
    exact#[_,_,rfl,p,p']
 refine BS ?_ (by show 2<=sizeLine;decide);have I2:Inv X C B M {d with heap:=d.heap.push {cls:=.type "tuple",data:=.seq [f,g].toArray} }:=I1.kept (t':=d.toks) λb o e=>AR _ e;rw[Z];refine AI (AZ ?_);show Aa (model X.prog X.w) X.A (do rule "assign.swapped-stores";let items <-unpackItems (.ref d.heap.objs.size) 2 AD;assignInOrder [λv=>bindName X.env y v,λv=>bindName X.env x v] items.reverse;pure HS) _ _ _;refine AI (Eo (AI (unpackItems_tuple (items:=(Hs.toArray [f,g])) (I.ok.hd O) (E8 d.heap _) λh' A=>?_)));have I3:=I2.kept (h':=h') (t':=d.toks) λb o e=>A b o (Aw (A9 e)) e;show Aa _ _ (assignInOrder [λv=>bindName X.env y v,λv=>bindName X.env x v] [g,f] >>= λ_=>pure HS) _ _ _;refine AI (Dt (FX (zaL I3 G U (.inl L) z (λs2 I4=>?_) (.inr L))));refine Dt (FX (zaL I4 G Q (.inl J) rv (λs3 N=>GB (AZ ?_)) (.inr J)));rw[Hs.set_comm _ _ (BW t)]at N;exact#[_,M,N,u]
def yh5(i:Ht)(a:TE)(ti:TIp):TS:=λD B H=>∃x,B[i]?=AA (AA x)/\a B H λy b=>ti x y b λz c=>D.nx (B.set i (AA z)) c
def zmV{i:Ht}{x:AQ}{e:AX}{q:TE}{j:D6}{ti:TIp}{d:Bq}(A:X.N.Nodup)(t:X.N[i]?=AA x)(n:Loc X.env.scope x)(E:PE X e q)(G:PIp X j ti)(hf:X.fn x=AC \/ X.env.scope.names.lookup x=AA .local:=by first|exact .inl rfl|exact .inr rfl|assumption):
  PS X (.AugAssign (.Name x d) j e pos) (yh5 i q ti):=by
 intro C s B H D I h;let#[v,J,h]:=h;let#[m,L,M]:=I.loc;have o:Vis X.env.scope x:=by rcases n with k|k;exact .inl k;exact .inr (.inl k)
 let#[u,r,l]:=M i x v t J o;refine wpAny_AugAssign_Name ?_;have go:Aa (model X.prog X.w) X.A (eval e X.env) (λw f=>Aa (model X.prog X.w) X.A (inplaceOp j u w) (λr g=>Aa (model X.prog X.w) X.A (storeName X.env x r) (λ_=>SP X C D .next) X.xe g) X.xe f) X.xe s:=by refine thn (E C s B H _ I h) λw N p=>?_;let#[y,O,Q,U,Y]:=p;refine thn (G C N B O v y u w _ Q r U Y) λz s2 p=>?_;let#[zv,Z,I2,r2,q2]:=p;exact zaL I2 A t n r2 (λs3 I3=>#[_,Z,I3,q2]) hf
 rcases l with⟨a,hm⟩|⟨a,c,hc,b⟩
 .exact FW I.ok.kind a L hm go
 .rcases a with a|a
  .exact F7 I.ok.kind a hc b go
  .rcases n with k|k
   .have:X.env.scope.names.lookup x=AA .free:=a;rw[k]at this;cases this
   .have:X.env.scope.names.lookup x=AA .free:=a;rw[k]at this;cases this
def ipI(f:Hw->Hw->Hw):TIp:=λx y H Q=>∃i j,x=.int i/\y=.int j/\Q (.int (f i j)) H
def zlV:PIp X .Add (ipI λi j=>i+j):=by intro C s B H x y v u Q I a b h;let#[i,j,c,d,q]:=h;subst c;subst d;let#[t,rfl]:=a;let#[f,rfl]:=b;exact Gn #[.int _,H,I.tok _,#[_,rfl],q]
end
section
variable {X:Cx}{pos:Bq}
def ydo(c:TT)(tb:TS):TS:=λD B H=>∃W:Ht->St->Hp->Prop,(∃m,W m B H)/\∀m B H,W m B H ->
 c B H λb a=>if b=AC then ∃N:St->Hp->Prop,(∀d f,N d f->∃g,g < m/\W g d f)/\tb {D with nx:=N,ct:=N,bk:=D.nx} B a else D.nx B a
def zih{c:AX}{a:Hs Bf}{t:TT}{tb:TS}(u:E9 (model X.prog X.w) X.A X.env X.xe)(G:PT X c t)(J:PSs X a tb):PS X (.While c a [] pos) (ydo t tb):=by
 intro C s B H D I h;let#[W,#[L,M],d]:=h;refine wpAny_While (codeAny_whileLoop (λn O=>∃w x,Inv X C w x O/\W n w x) ?_ L #[B,H,I,M])
 rintro n Q ⟨B1,y,U,w1⟩
 refine CN u (thn (G C Q B1 y _ U (d n B1 y w1)) λb Y Z=>?_);let#[z,A,j]:=Z
 cases b with
 |true=>
  let#[N,E,j]:=j;rw[Hz rfl];refine CN u (thn (J C Y B1 z _ A j) λf s3 l=>?_)
  cases f with
  |next=>
   let#[B3,g,m,o]:=l;let#[p,q,r]:=E B3 g o;exact#[p,q,B3,g,m,r]
  |cont=>
   let#[B3,g,m,o]:=l;let#[p,q,r]:=E B3 g o;exact#[p,q,B3,g,m,r]
  |brk=>exact l
  |ret v=>exact l
 |false=>
  rw[IA A4];exact D9 #[B1,z,A,j]
end
structure It where
 go:Ht->Hp->Prop
 yld:Ht->Hp->V->Hp->Prop
 stop:Ht->Hp->Prop
def ybn(X:Cx)(A:Hs (AJ×Bd))(H:Hp)(b:AJ):Prop:=
 H b=AD/\b≠X.env.locals/\b∉X.fs/\(b∈X.ex \/ X.s₀.heap.objs.size<=b)/\(∀x c,X.env.cells.lookup x=AA c->c≠b)/\∀p∈X.pn++A,p.1≠b
theorem Inv.fpOk{X:Cx}{B:Hs (AJ×Bd)}{A:St}{H d:Hp}{s:AK}{b:AJ}(I:Inv X B A H s)(a:s.heap.objs.size<=b)(f:d b=AD):ybn X B d b:=by
 refine#[f,Ep (Ad I.lt a),I.nofs a,.inr (BK I.sz a),λx c e z=>?_,λp g z=>?_]
 .let#[v,q]:=I.cell x c e;exact IB (Ad q.lt (by rw[z];exact a)) (Cy _)
 .exact IB (Ad (A9 (I.pin p g).1) (by rw[z];exact a)) (Cy _)
structure Turn(P:Ae)(w:Aq)(K:AF)(tg:AX)(J:It)(fp:Hs AJ)(it:AJ)(tn:Ht->BB->Prop):Prop where
 mem:it∈fp
 obj:∀i h,tn i h->∀b∈fp,∃o,h.get? b=AA o/\∀v,o.data ≠ .cell v
 keep:∀i h h',tn i h->(∀b∈fp,∀o,h.get? b=AA o->h'.get? b=AA o)->tn i h'
 item:∀(X:Cx),X.prog=P->X.w=w->X.K=K->X.calm=AC->∀(i:Ht) (C:Hs (AJ×Bd)) (s:AK) (B:St) (H:Hp) (E:AG->AK->Prop),Inv X C B H s->(∀b∈fp,ybn X C H b)->tn i s.heap->J.go i H ->
  Aa (model P w) X.A (pyNext (.ref it)) (λr s1=>∃u,r=AA u /\
   Aa (model P w) X.A (letOwnedTupleGo tg (.ref it) u) (λ_ s2=>∃x H',Inv X C B H' s2/\RelV x u/\J.yld i H x H'/\tn (i+1) s2.heap/\∀b∈fp,H' b=AD) E s1) E s
 done:∀(X:Cx),X.prog=P->X.w=w->X.K=K->X.calm=AC->∀(i:Ht) (C:Hs (AJ×Bd)) (s:AK) (B:St) (H:Hp) (E:AG->AK->Prop),Inv X C B H s->(∀b∈fp,ybn X C H b)->tn i s.heap->J.stop i H ->
  Aa (model P w) X.A (pyNext (.ref it)) (λr s1=>r=AD/\Inv X C B H s1) E s
 self:∀(A:Ar) (i:Ht) (s:AK) (Q:AG->AK->Prop) (E:AG->AK->Prop),tn i s.heap->Q (.ref it) s->Aa (model P w) A (pyIter (.ref it)) Q E s
abbrev TI:=St->Hp->(It->Hp->Prop)->Prop
def PIE(X:Cx)(B:Hs (AJ×Bd))(A:St)(tg:AX)(R:It->Hp->Prop)(a:AG)(d:AK):Prop:=
 ∃(f:AJ) (g:Hs AJ) (j:Ht->BB->Prop) (J:It) (c:Hp),a=.ref f/\Inv X B A c d/\Turn X.prog X.w X.K tg J g f j/\j 0 d.heap/\(∀b∈g,ybn X B c b)/\R J c
def PI(X:Cx)(tg a:AX)(b:TI):Prop:=
 ∀(C:Hs (AJ×Bd)) (s:AK) (B:St) (H:Hp) (R:It->Hp->Prop),Inv X C B H s->b B H R ->
  Aa (model X.prog X.w) X.A (eval a X.env) (λv c=>Aa (model X.prog X.w) X.A (pyIter v) (PIE X C B tg R) X.xe c) X.xe s
def zlg{M:HQ}{A:Ar}{E:AG->AK->Prop}{s:AK}{tg:AX}{b:AJ}{u:AG}{o:Bd}{n:IM}{vs:IH AG}{Q:IR->AK->Prop}(c:s.heap.get? b=AA o)(d:o.cls=.type n)(f:o.data=.fields vs)
  (g:["enumerate","zip","dict_itemiterator","dict_reverseitemiterator","odict_iterator","itertools.zip_longest","itertools.pairwise"].contains n=AB) (a:Q IR.unit s):Aa M A (letOwnedTupleGo tg (.ref b) u) Q E s:=by
 unfold letOwnedTupleGo
 cases tg<;>first
  |exact AZ a
  | (cases u<;>first
    |exact AZ a
    | (refine AI (wpAny_load c ?_)
       rw[d,f];show Aa M A (if (["enumerate","zip","dict_itemiterator","dict_reverseitemiterator","odict_iterator","itertools.zip_longest","itertools.pairwise"].contains n&&vs[0]? == AA (rawInt _))=AC then _ else _) Q E s;rw[IA (by intro h;rw[g,A8]at h;cases h)];exact AZ a))
def Itl(K:AF)(a:AJ):It:=
 #[λi H=>∃b x,SqL K H a b/\b[i]?=AA x,λi H x c=>c=H/\∀b,SqL K H a b->b[i]?=AA x,λi H=>∃b,SqL K H a b/\b.length<=i]
def Itt(K:AF)(a:AJ):It:=
 #[λi H=>∃b x,SqT K H a b/\b[i]?=AA x,λi H x c=>c=H/\∀b,SqT K H a b->b[i]?=AA x,λi H=>∃b,SqT K H a b/\b.length<=i]
def Itr(lo:Hw)(n:Ht):It:=#[λi _=>i<n,λi H x a=>a=H/\x=.int (lo+i),λi _=>n<=i]
def zhl{P:Ae}{w:Aq}{K:AF}{tg:AX}(a f:AJ):Turn P w K tg (Itl K a) [f] f (λi h=>h.IsListIter f a i) where
 mem:=by simp
 obj:=λi h st b g=>by
  have e:b=f:=by simpa using g
  subst e;let#[o,e,c,d]:=st;exact#[o,e,λv z=>by rw[d]at z;cases z]
 keep:=λi h l st k=>st.at λo e=>k f (by simp) o e
 item:=by intro X n q r O i B s A H E I hf st t;subst n q r;let#[Q,x,m,y]:=t;let#[C,D,p,U]:=I.list m;let#[u,Y,Z]:=D.get y;let#[G,J,f2,L,M,N]:=hf f (by simp);refine wpAny_pyNext_list_item st p.isList (x:=u) (by simpa using Y) λl j sb=>?_;have I1:Inv X B A H {s with heap:=l}:=I.turned (t':=s.toks) (λb o g e=>(sb.2 b g).trans e) G J L M N;let#[o,e,c,d]:=id j;exact#[u,rfl,zlg (s:={s with heap:=l}) e c d ⋯ #[x,H,I1,Z,#[rfl,λys hy=>by rw[I.list_inj hy m];exact y],j,λb g=>(hf b g).1]]
 done:=by intro X n q r O i B s A H E I hf st t;subst n q r;let#[Q,m,y]:=t;let#[C,D,p,U]:=I.list m;let#[G,J,f2,L,M,N]:=hf f (by simp);have hl:=D.length;exact wpAny_pyNext_list_end (I.ok.hd O) st p.isList (by simp;lia) λl eb=>#[rfl,I.turned (t':=s.toks) (λb o g e=>eb b o g e) G J L M N]
 self:=λ_ _ _ _ _ st h=>wpAny_pyIter_listiter st h
def zfN{P:Ae}{w:Aq}{K:AF}{tg:AX}(a f:AJ):Turn P w K tg (Itt K a) [f] f (λi h=>h.IsTupleIter f a i) where
 mem:=by simp
 obj:=λi h st b g=>by
  have e:b=f:=by simpa using g
  subst e;let#[o,e,c,d]:=st;exact#[o,e,λv z=>by rw[d]at z;cases z]
 keep:=λi h m st k=>st.at λo e=>k f (by simp) o e
 item:=by intro X q r t O i B s A H E I hf st y;subst q r t;let#[Q,x,n,C]:=y;let#[j,D,p,U]:=I.tuple n;let#[u,Y,Z]:=D.get C;let#[G,J,f2,L,M,N]:=hf f (by simp);refine wpAny_pyNext_tuple_item st (show s.heap.IsTuple a j.toArray from p) (x:=u) (by simpa using Y) λm l sb=>?_;have I1:Inv X B A H {s with heap:=m}:=I.turned (t':=s.toks) (λb o g e=>(sb.2 b g).trans e) G J L M N;let#[o,e,c,d]:=id l;exact#[u,rfl,zlg (s:={s with heap:=m}) e c d ⋯ #[x,H,I1,Z,#[rfl,λys hy=>by rw[I.tuple_inj hy n];exact C],l,λb g=>(hf b g).1]]
 done:=by intro X q r t O i B s A H E I hf st y;subst q r t;let#[Q,n,C]:=y;let#[j,D,p,U]:=I.tuple n;let#[G,J,f2,L,M,N]:=hf f (by simp);have hl:=D.length;exact wpAny_pyNext_tuple_end (I.ok.hd O) st (show s.heap.IsTuple a j.toArray from p) (by simp;lia) λm eb=>#[rfl,I.turned (t':=s.toks) (λb o g e=>eb b o g e) G J L M N]
 self:=λ_ _ _ _ _ st h=>wpAny_pyIter_tupleiter st h
def zfM{P:Ae}{w:Aq}{K:AF}{tg:AX}(a:AJ)(lo:Hw)(n:Ht):Turn P w K tg (Itr lo n) [a] a (λi h=>IsRangeIter h a (lo+(i:Ht)*1) ((n:Hw)-(i:Ht)) 1) where
 mem:=by simp
 obj:=λi h st b c=>by
  have e:b=a:=by simpa using c
  subst e;exact#[_,st,λv z=>by
   have D:Data.fields _=Data.cell v:=z
   cases D]
 keep:=λi h f st k=>k a (by simp) _ st
 item:=by intro X g j l m i B s A H E I hf st p;subst g j l;let#[q,r,G,u,x,y]:=hf a (by simp);have W:=Walks.range (prog:=X.prog) (w:=X.w) (I.ok.hd m) a lo 1 n;refine W.item i s _ _ p st λv f C J d L=>?_;let#[t,rfl]:=J;have M:Inv X B A H {s with heap:=f,toks:=C}:=I.turned (λb o c e=>L b o (by simpa using c) e) q r u x y;refine#[_,rfl,zlg (s:={s with heap:=f,toks:=C}) (n:="range_iterator") d rfl rfl ⋯ #[.int (lo+i),H,M,#[t,?_],#[rfl,rfl],d,λb c=>(hf b c).1]];rw[Hf]
 done:=by intro X g j l m i B s A H E I hf st p;subst g j l;let#[q,r,G,u,x,y]:=hf a (by simp);exact wpAny_pyNext_range_end (I.ok.hd m) st (by have:n<=i:=p;lia) λf N=>#[rfl,I.turned (t':=s.toks) (λb o c e=>N b o c e) q r u x y]
 self:=λ_ _ _ _ _ st h=>wpAny_pyIter_rangeiter st h
section
variable {X:Cx}{tg:AX}
def ziK{C:Hs (AJ×Bd)}{B:St}{H:Hp}{s:AK}{R:It->Hp->Prop}{E:AG->AK->Prop}{lo a:Hw}{t u v:HJ}{c:Ht}(I:Inv X C B H s)(f:-(2^62)<=lo)(g:lo<2^62)(j:-(2^62)<=a)(l:a<2^62)
  (q:R (Itr lo (a-lo).toNat) H):Aa (model X.prog X.w) X.A (pyIter (.ref s.heap.objs.size)) (PIE X C B tg R) E {s with heap:=s.heap.push {cls:=.type "range",data:=.fields (Hs.toArray [.int lo t,.int a u,.int 1 v])},toks:=c}:=by
 refine wpAny_pyIter_range (IsRange.new ..) (small_one f g j l) ?_;have d:Inv X C B H {s with heap:=s.heap.push {cls:=.type "range",data:=.fields (Hs.toArray [.int lo t,.int a u,.int 1 v])},toks:=c}:=I.kept λb o e=>AR _ e;refine#[(s.heap.push {cls:=.type "range",data:=.fields (Hs.toArray [.int lo t,.int a u,.int 1 v])}).objs.size,[(s.heap.push {cls:=.type "range",data:=.fields (Hs.toArray [.int lo t,.int a u,.int 1 v])}).objs.size],_,_,H,rfl,
  d.kept (t':=c) λb o e=>AR _ e,zfM _ lo (a-lo).toNat,?_,λb m=>?_,q]
 .have n:lo+((0:Ht):Hw)*1=lo:=by simp
  have p:(((a-lo).toNat:Ht):Hw)-((0:Ht):Hw)=HU lo a 1:=by rw[rangeSize_one];split<;>lia
  show IsRangeIter _ _ (lo+((0:Ht):Hw)*1) ((((a-lo).toNat:Ht):Hw)-((0:Ht):Hw)) 1;rw[n,p];exact Af _ rfl
 .have e:b=(s.heap.push {cls:=.type "range",data:=.fields (Hs.toArray [.int lo t,.int a u,.int 1 v])}).objs.size:=by simpa using m
  subst e;exact d.fpOk (AS _) (d.hok.fresh (AS _))
def yeH(a:TA):TI:=λB H R=>a B H λb c=>∃j:Hw,b=[.int j]/\-(2^62)<=j/\j<2^62/\R (Itr 0 j.toNat) c
def zge{a:AX}{c:TA}{p pos:Bq}(d:Gl X "range")(f:X.mg "range"=AD)(g:PA X [a] c)(l:starEach [a] X.env=[(AB,eval a X.env)]:=by rfl):PI X tg (.Call (.Name "range" p) [a] [] pos) (yeH c):=by
 intro C s B H R I h;refine Call_ (zc0 I d f boot_range (Bz (thn (g pos C s B H _ I h) λx y m=>?_) l rfl));let#[z,A,n,o,b]:=m;let#[j,e,b,u,q]:=b;subst e
 cases o with
 |cons r w=>
  cases w
  let#[t,rfl]:=r;exact call_range_1 (ziK n () () b u (by simpa using q))
def yhX(d:TI)(g:TG)(tb:TS):TS:=λD B H=>d B H λJ f=>∃W:Ht->Ht->St->Hp->Prop,(∃m,W 0 m B f)/\∀i m B H,W i m B H ->
 (J.stop i H/\D.nx B H) \/ (J.go i H/\∃N:St->Hp->Prop,(∀b a,N b a->∃c,c < m/\W (i+1) c b a)/\∀x a,J.yld i H x a->g x B a λj l=>tb {D with nx:=N,ct:=N,bk:=D.nx} j l)
def ybl(a:Hs AJ)(h:BB):Hs (AJ×Bd):=a.filterMap λb=>(h.get? b).map λo=>(b,o)
def zbn{a:Hs AJ}{h:BB}{b:AJ}{o:Bd}(c:b∈a)(e:h.get? b=AA o):(b,o)∈ybl a h:=Du.mpr #[b,c,by rw[e];rfl]
def zhj{a:Hs AJ}{h:BB}{p:AJ×Bd}(c:p∈ybl a h):p.1∈a/\h.get? p.1=AA p.2:=by
 let#[b,d,e]:=Du.mp c
 cases q:h.get? b with
 |none=>rw[q]at e;cases e
 |some o=>
  rw[q]at e;have f:(b,o)=p:=Ac e;subst f;exact#[d,q]
theorem Inv.pinned{C:Hs (AJ×Bd)}{B:St}{H:Hp}{s:AK}{a:Hs AJ}(I:Inv X C B H s)(hf:∀b∈a,ybn X C H b)(g:∀b∈a,∃o,s.heap.get? b=AA o/\∀v,o.data ≠ .cell v):Inv X (C++ybl a s.heap) B H s:=
 I.pins_of λp j=>(Am.mp j).elim (λz=>I.pin p (Av _ z)) λz=>by let#[c,e]:=zhj z;let#[l,m,n,_]:=hf p.1 c;let#[o,f,d]:=g p.1 c;rw[e]at f;cases f;exact#[e,l,m,n,d]
theorem Inv.unpinned{C pl:Hs (AJ×Bd)}{B:St}{H:Hp}{s:AK}(I:Inv X (C++pl) B H s):Inv X C B H s:=I.pins_of λp a=>I.pin p (Av _ (Cf _ a))
def zlM{a:AX}{t:Hs Bf}{wi:TI}{g:TG}{tb:TS}{pos:Bq}(A:E9 (model X.prog X.w) X.A X.env X.xe)(hc:X.calm=AC)(hi:PI X tg a wi)(hg:PG X tg g)(c:PSs X t tb)
  (hs:∀x,foldedSetIterable a X.env x=pure x:=by intro _;rfl):PS X (.For tg a t [] pos) (yhX wi g tb):=by
 intro C s B H D I h;refine wpAny_For (thn (hi C s B H _ I h) λv s1 h1=>thn h1 λitv s2 h2=>?_) hs;let#[it,E,tn,J,H2,e,I2,T,Y,f2,W,#[m0,w0],G]:=h2;subst e;have j:∀{q:Hp},(∀b∈E,q b=AD)->∀b∈E,ybn X C q b:=λhn b c=>#[hn b c,(f2 b c).2];refine codeAny_forLoop_any (λn s'=>∃i L q,Inv X C L q s'/\tn i s'.heap/\(∀b∈E,q b=AD)/\W i n L q) ?_ m0 #[0,B,H2,I2,Y,λb c=>(f2 b c).1,w0]
 rintro n s3 ⟨i,B3,U,I3,M,O,w3⟩
 rcases G i n B3 U w3 with⟨stop,qn⟩|⟨go,N,hN,step⟩
 .refine CN A (thn (T.done X rfl rfl rfl hc i C s3 B3 U X.xe I3 (j O) M stop) λr s4 y=>?_);let#[Z,I4]:=y;subst Z;exact D9 #[B3,U,I4,qn]
 .refine CN A (thn (T.item X rfl rfl rfl hc i C s3 B3 U X.xe I3 (j O) M go) λr s4 y=>?_);let#[u,Z,h4]:=y;subst Z;refine CN A (thn h4 λ_ s5 y=>?_);let#[x,H5,I5,r5,y5,z,fr5]:=y;have I5':=I5.pinned (j fr5) (T.obj _ _ z);refine CN A (thn (hg _ s5 B3 H5 x u _ I5' r5 (step x H5 y5)) λ_ s6 y=>?_);let#[B6,H6,I6,q6]:=y;refine CN A (thn (c _ s6 B6 H6 _ I6 q6) λf s7 w=>?_);have again:∀{B7:St} {l:Hp},Inv X (C++ybl E s5.heap) B7 l s7->N B7 l->∃m,m<n/\∃i L q,Inv X C L q s7/\tn i s7.heap/\(∀b∈E,q b=AD)/\W i m L q:=λ{B7 l} p Q=>by let#[m',hm,w7]:=hN B7 l Q;refine#[m',hm,i+1,B7,l,p.unpinned,T.keep _ _ _ z λb c o e=>(p.pin (b,o) (Av _ (Av _ (zbn c e)))).1,λb c=>?_,w7];let#[o,e,d]:=T.obj _ _ z b c;exact(p.pin (b,o) (Av _ (Av _ (zbn c e)))).2.1
  cases f with
  |next=>let#[B7,l,p,Q]:=w;exact again p Q
  |cont=>let#[B7,l,p,Q]:=w;exact again p Q
  |brk=>let#[B7,l,p,w]:=w;exact#[B7,l,p.unpinned,w]
  |ret v=>let#[x7,B7,l,p,r7,w]:=w;exact#[x7,B7,l,p.unpinned,r7,w]
end
abbrev R2:=V->V->Hp->VK->Prop
def OpR(X:Cx)(f:AG->AG->HR AG)(r:R2):Prop:=
 ∀(C:Hs (AJ×Bd)) (s:AK) (B:St) (H:Hp) (x y:V) (v u:AG) (Q:VK),Inv X C B H s->RelV x v->RelV y u->r x y H Q ->
  Aa (model X.prog X.w) X.A (f v u) (EP X C B Q) X.xe s
def UnR(X:Cx)(f:AG->HR AG)(r:V->Hp->VK->Prop):Prop:=
 ∀(C:Hs (AJ×Bd)) (s:AK) (B:St) (H:Hp) (x:V) (v:AG) (Q:VK),Inv X C B H s->RelV x v->r x H Q ->
  Aa (model X.prog X.w) X.A (f v) (EP X C B Q) X.xe s
def yaf(X:Cx)(f:AG)(r:Hs V->Hp->VK->Prop):Prop:=
 ∀(C:Hs (AJ×Bd)) (s:AK) (B:St) (H:Hp) (a:Hs V) (b:Hs AG) (Q:VK),Inv X C B H s->Vals a b->r a H Q ->
  Aa (model X.prog X.w) X.A (call f b) (EP X C B Q) X.xe s
def ygR(X:Cx)(r:V->Hp->(Hy->Hp->Prop)->Prop):Prop:=
 ∀(C:Hs (AJ×Bd)) (s:AK) (B:St) (H:Hp) (x:V) (v:AG) (Q:Hy->Hp->Prop),Inv X C B H s->RelV x v->r x H Q ->
  Aa (model X.prog X.w) X.A (truthy v) (TP X C B Q) X.xe s
def tOp(r:R2)(a tb:TE):TE:=λA H Q=>a A H λx b=>tb A b λy c=>r x y c Q
def tUn(r:V->Hp->VK->Prop)(a:TE):TE:=λA H Q=>a A H λx b=>r x b Q
def rI(C:Hw->Hw->Prop)(g:Hw->Hw->V):R2:=λx y H Q=>∃i j,x=.int i/\y=.int j/\C i j/\Q (g i j) H
def rI0(g:Hw->Hw->V):R2:=λx y H Q=>∃i j,x=.int i/\y=.int j/\Q (g i j) H
def rU(g:Hw->V):V->Hp->VK->Prop:=λx H Q=>∃i,x=.int i/\Q (g i) H
section
variable {X:Cx}{a b c:AX}{ta tb tc:TE}{pos:Bq}
def zoL(n:PE X a ta)(o:PE X b tb){D:Hs (AJ×Bd)}{s:AK}{B:St}{H:Hp}{R:V->V->Hp->Prop}(I:Inv X D B H s)
  (h:ta B H λx l=>tb B l λy c=>R x y c) {Q:AG->AK->Prop} {f:AG->AG->HR AG}
  (hf:∀v u j x y c,Inv X D B c j->RelV x v->RelV y u->R x y c->Aa (model X.prog X.w) X.A (f v u) Q X.xe j):
  Aa (model X.prog X.w) X.A (eval a X.env) (λv d=>Aa (model X.prog X.w) X.A (eval b X.env) (λu g=>Aa (model X.prog X.w) X.A (f v u) Q X.xe g) X.xe d) X.xe s:=by refine thn (n D s B H _ I h) λv p m=>?_;let#[x,l,q,r,t]:=m;refine thn (o D p B l _ q t) λu j m=>?_;let#[y,c,w,z,A]:=m;exact hf v u j x y c w r z A
def zlF{c:D6}{r:R2}(d:OpR X (binaryOp c) r)(f:PE X a ta)(g:PE X b tb):PE X (.BinOp a c b pos) (tOp r ta tb):=by intro D s B H Q I h;exact wpAny_BinOp (zoL f g I h λv u j x y l m n o q=>d D j B l x y v u Q m n o q)
def zoo{b:UnaryOp}{r:V->Hp->VK->Prop}(c:UnR X (unaryOp b) r)(d:PE X a ta):PE X (.UnaryOp b a pos) (tUn r ta):=by intro D s B H Q I h;exact UnaryOp_ (thn (d D s B H _ I h) λv f #[x,g,j,l,m]=>c D f B g x v Q j l m)
theorem opI{f:AG->AG->HR AG}{C:Hw->Hw->Prop}{g:Hw->Hw->Hw}
  (rule:∀(i j:Hw) (t u:HJ) (s:AK) (Q:AG->AK->Prop) (E:AG->AK->Prop),C i j->Q (.int (g i j) s.toks) {s with toks:=s.toks+1}->Aa (model X.prog X.w) X.A (f (.int i t) (.int j u)) Q E s):
  OpR X f (rI C λi j=>.int (g i j)):=by intro D s B H x y v u Q I a b h;let#[i,j,rfl,rfl,c,q]:=h;let#[t,rfl]:=a;let#[d,rfl]:=b;exact rule i j t d s _ _ c #[.int (g i j),H,I.tok _,#[_,rfl],q]
def zoV{f:AG->AG->HR AG}{g:Hw->Hw->Hw}
  (rule:∀(i j:Hw) (t u:HJ) (s:AK) (Q:AG->AK->Prop) (E:AG->AK->Prop),Q (.int (g i j) s.toks) {s with toks:=s.toks+1}->Aa (model X.prog X.w) X.A (f (.int i t) (.int j u)) Q E s):
  OpR X f (rI0 λi j=>.int (g i j)):=by intro D s B H x y v u Q I a b h;let#[i,j,rfl,rfl,q]:=h;let#[t,rfl]:=a;let#[c,rfl]:=b;exact rule i j t c s _ _ #[.int (g i j),H,I.tok _,#[_,rfl],q]
def zoG{f:AG->AG->HR AG}{g:Hw->Hw->Hy}
  (rule:∀(i j:Hw) (t u:HJ) (s:AK) (Q:AG->AK->Prop) (E:AG->AK->Prop),Q (.bool (g i j)) s->Aa (model X.prog X.w) X.A (f (.int i t) (.int j u)) Q E s):
  OpR X f (rI0 λi j=>.bl (g i j)):=by intro D s B H x y v u Q I a b h;let#[i,j,rfl,rfl,q]:=h;let#[t,rfl]:=a;let#[c,rfl]:=b;exact rule i j t c s _ _ #[.bl (g i j),H,I,rfl,q]
def yfC(i j:Hw):Prop:=0<=j/\j<=1000000/\i.natAbs<2^64
def yd6(i j:Hw):Prop:=(-(2^64)<i/\i<2^64) \/ (-(2^64)<j/\j<2^64)
theorem yd6.ok{i j:Hw}(h:yd6 i j):IntMulOk i j:=by
 rcases h with⟨a,b⟩|⟨a,b⟩
 .exact .of_left (intBits_le_64 a b)
 .exact .of_right (intBits_le_64 a b)
def znB:OpR X (binaryOp .Add) (rI0 λi j=>.int (i+j)):=zoV λ_ _ _ _ _ _ _ q=>add_int q
def zmo:OpR X (binaryOp .Sub) (rI0 λi j=>.int (i-j)):=zoV λ_ _ _ _ _ _ _ q=>sub_int q
def zmc:OpR X (binaryOp .Mult) (rI yd6 λi j=>.int (i*j)):=opI λ_ _ _ _ _ _ _ a q=>mul_int q a.ok
def zmG:OpR X (binaryOp .Mod) (rI (λ_ j=>0<j) λi j=>.int (i%j)):=opI λi j _ _ _ _ _ a q=>by have b:(0:Hw)<j:=a;exact mod_int' () (by rw[Hw.fmod_eq_emod_of_nonneg i ()];exact q)
def zmw:OpR X (binaryOp .Pow) (rI yfC λi j=>.int (i^j.toNat)):=opI λ_ _ _ _ _ _ _ a q=>pow_int_small a.1 a.2.1 a.2.2 q
theorem unI{f:AG->HR AG}{g:Hw->Hw}
  (rule:∀(i:Hw) (t:HJ) (s:AK) (Q:AG->AK->Prop) (E:AG->AK->Prop),Q (.int (g i) s.toks) {s with toks:=s.toks+1}->Aa (model X.prog X.w) X.A (f (.int i t)) Q E s):
  UnR X f (rU λi=>.int (g i)):=by intro D s B H x v Q I a h;let#[i,rfl,q]:=h;let#[t,rfl]:=a;exact rule i t s _ _ #[.int (g i),H,I.tok _,#[_,rfl],q]
def zmE:UnR X (unaryOp .USub) (rU λi=>.int (-i)):=unI λ_ _ _ _ _ q=>neg_int q
def zgp:OpR X (binaryOp .Add) (λx y H Q=>∃i k,x=.int i/\y=.bl k/\Q (.int (i+b2i k)) H):=by
 intro D s B H x y v u Q I a b h;let#[i,k,rfl,rfl,q]:=h;let#[t,rfl]:=a
 cases b
 exact add_int_bool #[.int (i+b2i k),H,I.tok _,#[_,rfl],q]
end
section
variable {X:Cx}{a b c:AX}{ta tb tc:TE}{pos:Bq}
def zg9{B:Hs (AJ×Bd)}{A:St}{H:Hp}{s:AK}{Q:VK}{k a:Hy}(I:Inv X B A H s)(q:Q (.bl k) H)(e:k=a):EP X B A Q (.bool a) s:=by subst e;exact#[.bl k,H,I,rfl,q]
def zov:OpR X (compareOp .Lt) (rI0 λi j=>.bl (decide (i<j))):=zoG λ_ _ _ _ _ _ _ q=>lt_int q
def znX:OpR X (compareOp .LtE) (rI0 λi j=>.bl (decide (i<=j))):=zoG λ_ _ _ _ _ _ _ q=>le_int q
def zob:OpR X (compareOp .Gt) (rI0 λi j=>.bl (decide (j<i))):=zoG λ_ _ _ _ _ _ _ q=>gt_int q
def znT:OpR X (compareOp .GtE) (rI0 λi j=>.bl (decide (j<=i))):=zoG λ_ _ _ _ _ _ _ q=>ge_int q
def zg8:OpR X (compareOp .Lt) (λx y H Q=>∃i j,x=.str i/\y=.str j/\Q (.bl (decide (i.cps.toList<j.cps.toList))) H):=by intro B s A H x y v u Q I a b h;let#[i,j,rfl,rfl,q]:=h;let#[t,rfl]:=a;let#[c,rfl]:=b;exact lt_str (zg9 I q rfl)
def zhh:OpR X (compareOp .In) (λx y H Q=>∃i j,x=.str i/\y=.str j/\Q (.bl (!(Ea j i 0 j.length 1).isEmpty)) H):=by intro B s A H x y v u Q I a b h;let#[i,j,rfl,rfl,q]:=h;let#[t,rfl]:=a;let#[c,rfl]:=b;exact in_str (zg9 I q rfl)
def zet{c:Fc}{r:R2}(d:OpR X (compareOp c) r)(f:PE X a ta)(g:PE X b tb)(j:behindInMarks c b=AB):PE X (.Compare a [c] [b] pos) (tOp r ta tb):=by intro B s A H Q I h;exact wpAny_Compare1 (zoL f g I h λv u l x y m n o p q=>d B l A m x y v u Q n o p q) j
def ydx(t:TE):TT:=λA H Q=>t A H λx a=>∃k,x=.bl k/\Q k a
def zhM{d:Fc}{r:R2}(f:OpR X (compareOp d) r)(g:PE X a ta)(j:PE X b tb)(l:behindInMarks d b=AB):PT X (.Compare a [d] [b] pos) (ydx (tOp r ta tb)):=by
 intro B s A H Q I h;refine wpAny_isTrue_Compare1 (thn (g B s A H _ I h) λv m #[x,n,o,p,q]=>thn (j B m A n _ o q) λu t #[y,w,C,D,E]=>
  thn (f B t A w x y v u _ C p D E) λc N #[z,G,J,L,k,e,M]=>?_) l
 subst e
 cases L
 exact BZ #[G,J,M]
def ycM(r b:R2)(ta tb tc:TE):TE:=λA H Q=>ta A H λx c=>tb A c λy d=>r x y d λz a=>∃k,z=.bl k /\
 (if k=AC then tc A a λf g=>b y f g Q else Q (.bl AB) a)
def ziG{g f:Fc}{r l:R2}(q:OpR X (compareOp g) r)(j:OpR X (compareOp f) l)(t:PE X a ta)(w:PE X b tb)(C:PE X c tc)
  (D:lastMarks [g,f] [b,c]=false:=by ac_rfl):PE X (.Compare a [g,f] [b,c] pos) (ycM r l ta tb tc):=by
 intro B s A H Q I h;refine Compare_chain (thn (t B s A H _ I h) λv E #[x,G,J,L,M]=>chain_link (thn (w B E A G _ J M) λu N #[y,O,U,m,Y]=>
  thn (q B N A O x y v u _ U L m Y) λd Z #[z,n,o,r3,k,e,p]=>?_)) D
 subst e
 cases r3
 refine BZ ?_
 cases k with
 |false=>exact ite_ff #[.bl AB,n,o,rfl,p]
 |true=>exact ite_tt (chain_last (thn (C B Z A n _ o p) λw' s4 #[z',H4,I4,r4,q4]=>j B s4 A H4 y z' u w' Q I4 m r4 q4))
def ziY{g f:Fc}{r m:R2}(t:OpR X (compareOp g) r)(j:OpR X (compareOp f) m)(w:PE X a ta)(C:PE X b tb)(D:PE X c tc)
  (E:lastMarks [g,f] [b,c]=false:=by ac_rfl):PT X (.Compare a [g,f] [b,c] pos) (ydx (ycM r m ta tb tc)):=by
 intro B s A H Q I h;refine isTrue_chain (thn (w B s A H _ I h) λv G #[x,J,L,M,N]=>test_link (thn (C B G A J _ L N) λu O #[y,U,Y,n,Z]=>
  thn (t B O A U x y v u _ Y M n Z) λd s3 #[z,o,p,r3,k,e,q]=>?_)) E
 subst e
 cases r3
 refine BZ ?_
 cases k with
 |false=>
  let#[k',e',q']:=q
  cases e'
  exact ite_ff #[o,p,q']
 |true=>
  refine ite_tt (test_last (thn (D B s3 A o _ p q) λw' s4 l=>?_));let#[z',H4,I4,r4,q4]:=l;refine thn (j B s4 A H4 y z' u w' _ I4 n r4 q4) λd' s5 l=>?_;let#[z2,H5,I5,r5,k2,e2,q5]:=l;subst e2
  cases r5
  exact BZ #[H5,I5,q5]
def yeJ(K:AF)(x:V)(H:Hp)(k:Hy):Prop:=
 match x with
 |.non=>k=AB
 |.bl b=>k=b
 |.int i=>k=(i != 0)
 |.str y=>y.length<=sizeLine/\k=((y.length:Hw) != 0)
 |.byt y=>y.size<=sizeLine/\k=((y.size:Hw) != 0)
 |.ref p=>(∃a,SqL K H p a/\k=!a.isEmpty) \/ (∃a,SqT K H p a/\k=!a.isEmpty) \/ ∃c,H p=AA (.dK c)/\k=!c.isEmpty
 |_=>II
def zf8{R:Type}{a:Hs (R×V)}{vs:Hs (R×AG)}(r:KV a vs):(!vs.isEmpty)=!a.isEmpty:=by cases r<;>rfl
def zcY{xs:Hs V}{a:Hs AG}(r:Vals xs a):(!a.toArray.isEmpty)=!xs.isEmpty:=by cases r<;>simp
def zoC:(sizeLine:Ht)<2^63:=by rw[Be];decide
def zm8:ygR X (λx H Q=>∃k,yeJ X.K x H k/\Q k H):=by
 intro B s A H x v Q I g h;let#[k,e,q]:=h;have C:=zoC;have D:sizeLine=16777216:=Be
 cases x with
 |non=>
  cases g
  have a:k=false:=e;subst a;exact truthy_none #[H,I,q]
 |bl b=>
  cases g
  have a:k=b:=e;subst a;exact BZ #[H,I,q]
 |int i=>
  let#[t,rfl]:=g;have a:k=(i != 0):=e;subst a;exact PySem.P.truthy_int #[H,I,q]
 |str y=>
  let#[t,rfl]:=g;obtain⟨w,a⟩:y.length<=sizeLine/\k=((y.length:Hw) != 0):=e;subst a;exact PySem.P.truthy_str () #[H,I.tok _,q]
 |byt y=>
  let#[t,rfl]:=g;obtain⟨w,a⟩:y.size<=sizeLine/\k=((y.size:Hw) != 0):=e;subst a;exact PySem.W.truthy_bytes () #[H,I.tok _,q]
 |ref p=>
  cases g
  have a:(∃f,SqL X.K H p f/\k=!f.isEmpty) \/ (∃f,SqT X.K H p f/\k=!f.isEmpty) \/ ∃c,H p=AA (.dK c)/\k=!c.isEmpty:=e;rcases a with⟨f,j,a⟩|⟨f,j,a⟩|⟨c,j,a⟩
  .subst a;let#[n,r,o,u]:=I.list j;have d:=r.length;exact wpAny_truthy_list o.isList (by erw[AU];lia) #[H,I.tok _,by rw[zcY r];exact q]
  .subst a;let#[n,r,o,u]:=I.tuple j;have d:=r.length;exact truthy_tuple o (by erw[AU];lia) #[H,I.tok _,by rw[zcY r];exact q]
  .subst a;obtain⟨u,z,l,r,m⟩:c.length<=sizeLine/\(p==sysModules)=AB/\∃l,KV c l/\s.heap.DictOf (yV X.prog X.w) p l:=I.hok p _ j;have d:c.length=l.length:=EX r;exact wpAny_truthy_dict z m () #[H,I.tok _,by rw[zf8 r];exact q]
 |_=>exact(show II from e).elim
def ziF(d:PE X a ta)(f:∀b,isTrue a X.env b=(do let v <-b;standAt a.pos;holding [v] (truthy v))):
  PT X a (λA H Q=>ta A H λx c=>∃k,yeJ X.K x c k/\Q k c):=by intro B s A H Q I h;exact isTrue_plain (thn (d B s A H _ I h) λv g #[x,j,l,m,n]=>zm8 B g A j x v Q l m n) (f _)
def zf7:OpR X (binaryOp .Add) (λx y H Q=>∃i j,x=.str i/\y=.str j/\i.length+j.length<=sizeLine/\Q (.str (i++j)) H):=by intro B s A H x y v u Q I a b h;let#[i,j,rfl,rfl,c,q]:=h;let#[t,rfl]:=a;let#[d,rfl]:=b;exact add_str (λd f=>#[.str (i++j),H,I.tok _,#[_,rfl],q]) c
theorem vals1{x:V}{us:Hs AG}(r:Vals [x] us):∃u,us=[u]/\RelV x u:=by
 cases r with
 |cons a b=>cases b;exact#[_,rfl,a]
theorem vals2{x y:V}{us:Hs AG}(r:Vals [x,y] us):∃u a,us=[u,a]/\RelV x u/\RelV y a:=by
 cases r with
 |cons b c=>
  cases c with
  |cons d f=>cases f;exact#[_,_,rfl,b,d]
def ziD:yaf X (.builtin "abs") (λa H Q=>∃i,a=[.int i]/\Q (.int (if i<0 then -i else i)) H):=by intro B s A H a b Q I r h;let#[i,rfl,q]:=h;let#[u,rfl,t,rfl]:=vals1 r;exact call_abs_int λu c=>#[.int (if i<0 then -i else i),H,I.tok _,#[_,rfl],q]
def zhs(c:X.calm=AC):yaf X (.builtin "max") (λb H Q=>∃i j,b=[.int i,.int j]/\Q (.int (if j > i then j else i)) H):=by
 intro B s A H b d Q I r h;let#[i,j,rfl,q]:=h;let#[u,f,rfl,#[t,rfl],#[g,rfl]]:=vals2 r;refine max_two_ints (I.ok.hd c) λl m k=>#[_,H,I.kept k,?_,q]
 by_cases a:j > i
 .rw[Hz a,Hz a];exact#[_,rfl]
 .rw[IA a,IA a];exact#[_,rfl]
def zhE(c:X.calm=AC):yaf X (.builtin "min") (λb H Q=>∃i j,b=[.int i,.int j]/\Q (.int (if j<i then j else i)) H):=by
 intro B s A H b d Q I r h;let#[i,j,rfl,q]:=h;let#[u,f,rfl,#[t,rfl],#[g,rfl]]:=vals2 r;refine min_two_ints (I.ok.hd c) λl m k=>#[_,H,I.kept k,?_,q]
 by_cases a:j<i
 .rw[Hz a,Hz a];exact#[_,rfl]
 .rw[IA a,IA a];exact#[_,rfl]
def zdS:yaf X (.type "int") (λa H Q=>(∃i,a=[.int i]/\Q (.int i) H) \/ ∃k,a=[.bl k]/\Q (.int (if k then 1 else 0)) H):=by
 intro B s A H a c Q I r h;rcases h with⟨i,rfl,q⟩|⟨k,rfl,q⟩
 .let#[u,rfl,t,rfl]:=vals1 r;exact call_int_int #[.int i,H,I,#[_,rfl],q]
 .let#[u,rfl,b]:=vals1 r
  cases b
  exact call_int_bool #[.int (if k then 1 else 0),H,I.tok _,#[_,rfl],q]
end
structure ycW(h:BB)(x dx C:AJ)(mA:AQ->Option AG):Prop where
 obj:h.get? x=AA (Bw C dx)
 ns:h.Ns1 dx mA
 ne:dx≠x
def zhk{h:BB}{d:AJ}{f:AQ->Option AG}(n:h.Ns1 d f):∃g,h.get? d=AA g/\∀b,Dv b g=AA (f b):=by
 let#[o,j,x,l,m,p,_,r]:=n;refine#[o,l,λb=>?_];have e:=r b;unfold nsFind findBy at e;rw[<-IH.find?_toList]at e;unfold Dv;rw[m];dsimp only;split
 .rename_i y q;rw[q]at e;exact IJ AA e
 .rename_i q;rw[q]at e;have a:j.toList.any (·.refKey)=false:=by rw[Hs.any_eq_false];intro y u;let#[z,t,c]:=p y (IH.mem_toList_iff.mp u);simp[DictEntry.refKey,c]
  have w:¬j.toList.any (·.refKey)=true:=by rw[a];exact A4
  rw[IA w];exact IJ AA e
theorem ycW.look{h:BB}{x c C:AJ}{d:AQ->Option AG}(I:ycW h x c C d):∃b,PySem.W.InstAt h x (Bw C c) C (AA b)/\∀a,Dv a b=AA (d a):=
 let #[b,f,g]:=zhk I.ns
 #[b,#[I.obj,rfl,rfl,f],g]
section
variable {prog:Ae}{w:Aq}{A:Ar}{E:AG->AK->Prop}{s:AK}{K:AF}{x dx C f:AJ}{mA:AQ->Option AG}{name:AQ}{v:AG}
def zkU{a:Hy}{Q:AG->AK->Prop}(X:K.In s.heap)(I:ycW s.heap x dx C mA)(c:Cn K C name=AC)(d:DL K C=AC)
  (f:Ao K (.ref C) name=AA AD) (g:mA name=AA v) (b:G1 v=AC) (h:Q v {s with toks:=s.toks+1}):
  Aa (model prog w) A (getAttr (.ref x) name a) Q E s:=by let#[l,J,j]:=I.look;exact PySem.W.get_value X J (Di c).1 (PySem.W.findObj_own d f rfl (by rw[j,g])) b h
def zjb{pl:HR Hy}{Q:AG×Hs AG->AK->Prop}(X:K.In s.heap)(I:ycW s.heap x dx C mA)(a:Cn K C name=AC)
  (hf:Ao K (.ref C) name=AA (AA (.ref f))) (b:Co K (.ref f)=AC) (c:mA name=AD) (h:Q (.ref f,[.ref x]) s):
  Aa (model prog w) A (getMethod (.ref x) name pl) Q E s:=by let#[d,J,g]:=I.look;exact PySem.W.method_fn X J (Di a).1 (Di a).2 hf (IL.mp b) (by show (Dv name d).map (·.isSome)=AA AB;rw[g,c];rfl) h
def zki{ns:Hs AQ}{Q:IR->AK->Prop}(X:K.In s.heap)(I:ycW s.heap x dx C mA)
  (n:Ao K (.ref C) "__setattr__"=AA (AA (.builtin "object.__setattr__"))) (o:ER K C=AC) (p:FG K C name=AA AD) (q:DL K C=AC)
  (t:Fy mA ns) (hsz:ns.length<=sizeLine)
  (h:∀f,ycW f x dx C (λy=>if y=name then AA v else mA y)->C6 dx s.heap f->Q IR.unit {s with heap:=f,toks:=s.toks+2}):
  Aa (model prog w) A (setAttr (.ref x) name v) Q E s:=by let#[G,J,H]:=I.look;refine PySem.W.set_plain X J n (PySem.W.osa_open (s:={s with toks:=s.toks+1}) (r:=AD) X J o p λb=>?_);let#[L,u,g]:=PySem.W.any_some q;have z:s.heap.get? x=AA #[.ref C,AA dx,.plain,(Hs.toArray [])]:=I.obj;refine AI (AZ (AI (AI (wpAny_loadPart z (AI (Hl (s:={s with toks:=s.toks+1}) (PySem.W.looks_clsIn X u) ?_))))));rw[g];refine AZ (a:=AA dx) (AI (AZ (AI ?_)));refine wpAny_nsSet1 (s:={s with toks:=s.toks+1}) I.ns λf c d=>?_;let#[M,B,D,j,l,m]:=c.count (Ho name v t);refine AI (wpAny_lookBehind j (by rw[l];exact pastItsLine_dict (BK m (by rw[AV];lia))) ?_);exact AZ (h _ #[(d.2 _ (BW I.ne)).trans I.obj,c,I.ne] d)
def zje{R:Fk->AK->Prop}{vs:Hs AG}{b:Hs (AQ×AG)}(X:K.In s.heap)(c:Da K C=AC)
  (j:Ao K (.ref C) "__init__"=AA (AA (.ref f))) (hf:PySem.W.typeIn K (.ref f)=AA (.type "function"))
  (h:codeAny (model prog w) (A.under (.builtin "type.__call__" #[.ref C::vs,b])) (.call (.ref f) #[.ref (s.heap.objs.size+1)::vs,b]) (PySem.W.InitBack (s.heap.objs.size+1) R)
   {s with heap:=(s.heap.push B0).push (Bw C s.heap.objs.size)}):
  codeAny (model prog w) A (.call (.ref C) #[vs,b]) R s:=by let#[l,g,d,t,os]:=s;exact PySem.W.make_core (PySem.W.makes_of X c) (Cg X j) (λa=>PySem.W.bind_fn X a hf) (.inl rfl) h
end
def ya7(f:AQ)(v:V):Hs (AQ×V)->Hs (AQ×V)
 |[]=>[(f,v)]
 |(g,x)::r=>if g=f then(g,v)::r else(g,x)::ya7 f v r
def zcs(f g:AQ)(v:V):∀fs:Hs (AQ×V),(ya7 f v fs).lookup g=if g=f then AA v else fs.lookup g
 |[]=>by
  show CT g [(f,v)]=_
  by_cases h:g=f
  .have a:(g==f)=true:=IL.mpr h;erw[CT,a,Hz h]
  .have a:(g==f)=false:=IF.mpr h;erw[CT,a,IA h]
 |(k,x)::r=>by
  have ih:=zcs f g v r;rw[show ya7 f v ((k,x)::r)=(if k=f then(k,v)::r else(k,x)::ya7 f v r)from rfl]
  by_cases b:k=f
  .rw[Hz b]
   by_cases h:g=k
   .have a:(g==k)=true:=IL.mpr h;erw[CT,a,Hz (h.trans b)]
   .have a:(g==k)=false:=IF.mpr h;erw[CT,a,IA (λe:g=f=>h (e.trans b.symm))]
  .rw[IA b]
   by_cases h:g=k
   .have a:(g==k)=true:=IL.mpr h;erw[CT,a,IA (λe:g=f=>b (h.symm.trans e))]
   .have a:(g==k)=false:=IF.mpr h;erw[CT,a];exact ih
def zcP(f:AQ)(v:V):∀fs:Hs (AQ×V),f∈(ya7 f v fs).map (·.1)/\∀g,g∈fs.map (·.1)->g∈(ya7 f v fs).map (·.1)
 |[]=>#[by simp[ya7],λg h=>by simp at h]
 |(k,x)::r=>by
  let#[b,c]:=zcP f v r;rw[show ya7 f v ((k,x)::r)=(if k=f then(k,v)::r else(k,x)::ya7 f v r)from rfl]
  by_cases a:k=f
  .rw[Hz a];subst a;exact#[by simp,λg h=>by simpa using h]
  .rw[IA a];refine#[?_,λg h=>?_]
   .rw[AW];exact AT _ b
   .rw[AW]at h ⊢;rcases AM.mp h with e|e
    .exact AM.mpr (.inl e)
    .exact AT _ (c g e)
def zcH(f:AQ)(v:V):∀fs:Hs (AQ×V),(ya7 f v fs).length<=fs.length+1
 |[]=>by simp[ya7]
 |(k,x)::r=>by
  have ih:=zcH f v r;rw[show ya7 f v ((k,x)::r)=(if k=f then(k,v)::r else(k,x)::ya7 f v r)from rfl]
  by_cases a:k=f
  .rw[Hz a,AV,AV];lia
  .rw[IA a,AV,AV];lia
theorem ybo.some_of{v:V}{o:Option AG}(r:ybo (AA v) o):∃u,o=AA u/\RelV v u:=by
 cases o with
 |none=>exact(show II from r).elim
 |some u=>exact#[u,rfl,r]
theorem ybo.none_of{o:Option AG}(r:ybo AD o):o=none:=by
 cases o with
 |none=>rfl
 |some u=>exact(show II from r).elim
def zg7{v:V}{u:AG}(r:RelV v u):G1 u=true:=by
 cases v with
 |non=>cases (show u=Bv from r);rfl
 |bl b=>cases (show u=Dp b from r);rfl
 |int i=>let#[t,e]:=(show ∃t,u=E7 i t from r);cases e;rfl
 |str x=>let#[t,e]:=(show ∃t,u=GZ x t from r);cases e;rfl
 |byt b=>let#[t,e]:=(show ∃t,u=Hd b t from r);cases e;rfl
 |flt b=>let#[t,e]:=(show ∃t,u=He b t from r);cases e;rfl
 |ref a=>cases (show u=Ak a from r);rfl
 |ty n=>cases (show u=Dq n from r);rfl
section
variable {P:Ae}{w:Aq}{H H':Hp}{h h':BB}{a C dx:AJ}{fs fs':Hs (AQ×V)}
def zeE(c:HOk P w H h)(e:H a=AA (.ins C dx fs)):∃b,ycW h a dx C b/\(∀f,ybo (fs.lookup f) (b f))/\Fy b (fs.map (·.1))/\fs.length<=1000/\H dx=AA (.own a):=by let#[d,z,g,j,b,n,r,q]:=(show yaa P w H h a (.ins C dx fs)from c a _ e);exact#[b,#[j,n,g],r,q,z,d]
end
structure Cls(K:AF)(C:AJ):Prop where
 pg:Cn K C G2=AC
 hd:DL K C=AC
 po:ER K C=AC
 sa:Ao K (.ref C) "__setattr__"=AA (AA (.builtin "object.__setattr__"))
theorem Cls.get{K:AF}{C:AJ}(c:Cls K C)(f:AQ):Cn K C f=true:=c.pg
def yay(K:AF)(C:AJ)(f:AQ):Prop:=Ao K (.ref C) f=AA AD
theorem yay.taker{K:AF}{C:AJ}{f:AQ}(n:yay K C f):FG K C f=AA none:=by unfold FG;rw[show Ao K (.ref C) f=AA AD from n];rfl
structure Meth(K:AF)(C:AJ)(m:AQ)(f:AJ):Prop where
 at_:Ao K (.ref C) m=AA (AA (.ref f))
 fn:Co K (.ref f)=AC
 kp:Ax K (.ref f)=AC
section
variable {X:Cx}{D:Hs (AJ×Bd)}{B:St}{H:Hp}{s:AK}{a C dx:AJ}{fs:Hs (AQ×V)}{f:AQ}{v:V}{A:Ar}{E:AG->AK->Prop}
def zdj{b:Hy}{Q:AG->AK->Prop}(I:Inv X D B H s)(e:H a=AA (.ins C dx fs))(c:Cls X.K C)(n:yay X.K C f)(l:fs.lookup f=AA v)
  (h:∀u d,Inv X D B H d->RelV v u->Q u d):Aa (model X.prog X.w) A (getAttr (.ref a) f b) Q E s:=by let#[j,O,r,_,_,_]:=zeE I.hok e;let#[u,m,g]:=ybo.some_of (v:=v) (o:=j f) (by rw[<-l];exact r f);exact zkU I.kIn O (c.get f) c.hd n m (zg7 g) (h u _ (I.tok _) g)
def zc6{m:AQ}{g:AJ}{pl:HR Hy}{Q:AG×Hs AG->AK->Prop}(I:Inv X D B H s)(e:H a=AA (.ins C dx fs))(c:Cls X.K C)(k:Meth X.K C m g)(l:fs.lookup m=AD)
  (h:Q (.ref g,[.ref a]) s):Aa (model X.prog X.w) A (getMethod (.ref a) m pl) Q E s:=by let#[b,O,r,_,_,_]:=zeE I.hok e;have d:b m=none:=ybo.none_of (by rw[<-l];exact r m);exact zjb I.kIn O (c.get m) k.at_ k.fn d h
def zc9{y:V}{u:AG}{Q:IR->AK->Prop}(I:Inv X D B H s)(e:H a=AA (.ins C dx fs))(c:Cls X.K C)(n:yay X.K C f)(Y:fs.length<1000)(t:RelV y u)
  (h:∀j,Inv X D B (upd H a (.ins C dx (ya7 f y fs))) j->Q IR.unit j):Aa (model X.prog X.w) A (setAttr (.ref a) f u) Q E s:=by
 let#[l,O,r,m,_,p]:=zeE I.hok e;have w:(fs.map (·.1)).length<=sizeLine:=by rw[Ai,Be];lia
 refine zki I.kIn O c.sa c.po n.taker c.hd m w λG d J=>h _ ?_;have L:∃o,G.get? dx=AA o:=let #[o,_,_,M,_]:=d.ns;#[o,M]
 refine I.write (x:=a) (e:=dx) (by rw[e];exact CD) (.inr p) (λb q N z=>(J.2 b N).trans z) L ?_;refine#[by rw[zl O.ne];exact p,?_,O.ne,d.obj,_,d.ns,λg=>?_,λg U=>?_]
 .have:=zcH f y fs;lia
 .show ybo ((ya7 f y fs).lookup g) (if g=f then AA u else l g);rw[zcs]
  by_cases q:g=f
  .rw[Hz q,Hz q];exact t
  .rw[IA q,IA q];exact r g
 .by_cases q:g=f
  .rw[q];exact(zcP f y fs).1
  .refine(zcP f y fs).2 g (m g λz=>U ?_);show (if g=f then AA u else l g)=AD;rw[IA q];exact z
theorem Inv.made(I:Inv X D B H s):Inv X D B (upd (upd H s.heap.objs.size (.own (s.heap.objs.size+1))) (s.heap.objs.size+1) (.ins C s.heap.objs.size []))
  {s with heap:=(s.heap.push B0).push (Bw C s.heap.objs.size)}:=by
 have c:(s.heap.push B0).get? s.heap.objs.size=AA B0:=Af s.heap rfl;have f:((s.heap.push B0).push (Bw C s.heap.objs.size)).get? (s.heap.objs.size+1)=AA (Bw C s.heap.objs.size):=by
  have:=Af (s.heap.push B0) (o:=Bw C s.heap.objs.size) rfl
  rwa [Bo]at this
 have g:(s.heap.push B0).Ns s.heap.objs.size (λ_=>AD):=#[B0,(Hs.toArray []),_,c,rfl,(λe j=>IB j (by simp)),λ_=>rfl];have l:=I.laid (a:=s.heap.objs.size) (o:=.own (s.heap.objs.size+1)) (h':=s.heap.push B0) (t':=s.toks) (λb u q=>AR _ q) (AS _) #[_,c];refine l.laid (a:=s.heap.objs.size+1) (o:=.ins C s.heap.objs.size []) (t':=s.toks) (λb u q=>AR _ q) (HY (Bo _ _)) ?_;have d:s.heap.objs.size≠s.heap.objs.size+1:=Aw (Eb _);refine#[by rw[zl d,zq],Ab _,d,f,λ_=>AD,(Heap.Ns1.of_empty g).at λo q=>AR _ q,λ_=>CD,λy m=>IB rfl m]
def zj7{prog:Ae}{w:Aq}{env:Env}{e:AX}{f:AQ}{pos:Bq}{s:AK}{Q:AG->AK->Prop}(b:attributeBase e f env (eval e env)=eval e env)
  (h:Aa (model prog w) A (eval e env) (λo a=>Aa (model prog w) A (getAttr o f AC) Q E a) E s):Aa (model prog w) A (eval (.Attribute e f pos) env) Q E s:=
 Attribute_any_ h (by rw[arm_eval_Attribute,b])
end
def yhy(K:AF)(c:TE)(f:AQ):TE:=λA H Q=>c A H λx b=>∃a C d fs v,x=.ref a/\b a=AA (.ins C d fs)/\Cls K C/\yay K C f/\fs.lookup f=AA v/\Q v b
def yhk(K:AF)(d g:TE)(f:AQ):TS:=λD A H=>g A H λy j=>d A j λx b=>∃a C c fs,x=.ref a/\b a=AA (.ins C c fs)/\Cls K C/\yay K C f/\fs.length<1000 /\
 D.nx A (upd b a (.ins C c (ya7 f y fs)))
def yfV(X:Cx)(a:D6)(b:V->V->Hp->VK->Prop):Prop:=
 ∀(C:Hs (AJ×Bd)) (s:AK) (B:St) (H:Hp) (x y:V) (u v:AG) (Q:VK),Inv X C B H s->RelV x u->RelV y v->b x y H Q->Aa (model X.prog X.w) X.A (inplaceOp a u v) (EP X C B Q) X.xe s
def yc8(K:AF)(j l:TE)(m:V->V->Hp->VK->Prop)(f:AQ):TS:=λD A H=>j A H λx d=>∃a C n fs v,x=.ref a/\d a=AA (.ins C n fs)/\Cls K C/\yay K C f/\fs.lookup f=AA v /\
 l A d λy o=>m v y o λz g=>∃c b,g a=AA (.ins C c b)/\b.length<1000/\D.nx A (upd g a (.ins C c (ya7 f z b)))
section
variable {X:Cx}{o e value:AX}{f:AQ}{pos pos' tpos:Bq}{ta tv:TE}
def zlZ(b:PE X e ta)(d:attributeBase e f X.env (eval e X.env)=eval e X.env):PE X (.Attribute e f pos) (yhy X.K ta f):=by intro B s A H Q I h;refine zj7 d (thn (b B s A H _ I h) λu w g=>?_);let#[x,j,m,o,a,C,y,fs,v,ex,p,c,n,l,q]:=g;subst ex;obtain rfl:u=Ak a:=o;exact zdj m p c n l λz D r t=>#[v,j,r,t,q]
def zmp(d:PE X o ta)(g:PE X value tv)(j:swapsWith value (AA (.Attribute o f pos')) pos.line X.env=pure AB):PS X (.Assign [.Attribute o f pos'] value pos) (yhk X.K ta tv f):=by intro B s A H D I h;refine plainObj_wpAny_Assign_Attribute (thn (g B s A H _ I h) λu m b=>?_) j;let#[y,p,r,t,q]:=b;refine thn (d B m A p _ r q) λw M b=>?_;let#[x,N,z,E,a,C,O,fs,ex,G,c,n,l,J]:=b;subst ex;obtain rfl:w=Ak a:=E;exact zc9 z G c n l t λQ L=>#[A,_,L,J]
def zhS{j:D6}{m:V->V->Hp->VK->Prop}(p:PE X o ta)(r:PE X value tv)(d:yfV X j m):PS X (.AugAssign (.Attribute o f tpos) j value pos) (yc8 X.K ta tv m f):=by intro B s A H D I h;refine wpAny_AugAssign_AttributeAny (thn (p B s A H _ I h) λt s1 b=>?_);let#[x,w,E,G,a,C,dx,fs,v,ex,J,c,n,l,q]:=b;subst ex;obtain rfl:t=Ak a:=G;refine zdj E J c n l λu L M N=>thn (r B L A w _ M q) λO Q b=>?_;let#[y,U,Y,Z,q3]:=b;refine thn (d B Q A U v y u O _ Y N Z q3) λw4 s4 b=>?_;let#[z,H3,I4,rz,dx',fs',g,l',q4]:=b;exact zc9 I4 g c n l' rz λs5 I5=>#[A,_,I5,q4]
def yhg:V->V->Hp->VK->Prop:=λx y H Q=>∃i j,x=.int i/\y=.int j/\Q (.int (i+j)) H
def zlP:yfV X .Add yhg:=by
 rintro B s A H x y u v Q I b c ⟨i,j,rfl,rfl,q⟩
 let#[t,rfl]:=(show ∃t,u=E7 i t from b);let#[a,rfl]:=(show ∃a,v=E7 j a from c);exact Gn #[.int (i+j),H,I.tok _,#[_,rfl],q]
end
section
variable {X:Cx}{C:Hs (AJ×Bd)}{B:St}{H:Hp}{s:AK}{A:Ar}{E:AG->AK->Prop}{Q:AG->AK->Prop}{c:AG}{b:Hy}
end
structure yaG(k:Ht)(A:Ar):Prop where
 hd:A.handled=AD
 dp:A.depth+3*k+5<recursionLimit
 un:A.units+16*k+200<cLine
theorem yaG.mono{j k:Ht}{A:Ar}(r:yaG k A)(h:j<=k):yaG j A:=#[r.hd,by have:=r.dp;lia,by have:=r.un;lia]
theorem yaG.deeper{k:Ht}{A:Ar}(r:yaG (k+1) A)(env:Env):yaG k (A.deeper env):=
 #[r.hd,by have:=r.dp;show A.depth+1+3*k+5<_;lia,by have:=r.un;show A.units+3+16*k+200<_;lia]
def zfW{A:Ar}{C:AJ}{us:Hs AG}{a:Hs (AQ×AG)}:(A.under (.builtin "type.__call__" #[.ref C::us,a])).depth=A.depth+1:=by first|rfl|simp[GE,Code.weight,Code.isCreation,Code.isGuard,Code.isCaller,Hg,GF,guardIds]
def zf2{A:Ar}{C:AJ}{us:Hs AG}{a:Hs (AQ×AG)}:(A.under (.builtin "type.__call__" #[.ref C::us,a])).units=A.units+1:=by first|rfl|simp[GE,Code.cUnits,Hg,GF]
theorem yaG.make{k:Ht}{A:Ar}(r:yaG (k+1) A)(C:AJ)(us:Hs AG)(a:Hs (AQ×AG)):yaG k (A.under (.builtin "type.__call__" #[.ref C::us,a])):=
 #[r.hd,by have:=r.dp;rw[zfW];lia,by have:=r.un;rw[zf2];lia]
theorem yaG.depth{k:Ht}{A:Ar}(r:yaG k A):A.depth<recursionLimit:=by have:=r.dp;lia
def ydO:TA:=λ_ H Q=>Q [] H
def ydL(a:TE)(b:TA):TA:=λA H Q=>a A H λx c=>b A c λd f=>Q (x::d) f
section
variable {X:Cx}{e:AX}{es:Hs AX}{te:TE}{t:TA}{pos:Bq}
def zoB:PA X [] ydO:=λ_ _ _ _ H Q I h=>GG #[[],H,I,.nil,h]
def zan(a:PE X e te)(b:PA X es t)(c:starEach (e::es) X.env=(AB,eval e X.env)::starEach es X.env:=by rfl):PA X (e::es) (ydL te t):=by intro pos B s A H Q I h;rw[c];show Aa _ _ (spliced ((AB,eval e X.env)::backTo pos (starEach es X.env))) _ _ s;refine Dw (thn (a B s A H _ I h) λu d f=>?_);let#[x,g,j,l,m]:=f;exact thn (b pos B d A g _ j m) λw y #[n,o,p,q,r]=>#[x::n,o,p,.cons l q,r]
def ygn(t:TA):TE:=λA H Q=>t A H λa b=>a.length<=sizeLine/\∀p,b p=AD->Q (.ref p) (upd b p (.tup a))
def ygz(t:TA):TE:=λA H Q=>t A H λa b=>a.length<=sizeLine/\∀p,b p=AD->Q (.ref p) (upd b p (.lst a))
def zgU{f}(h:PA X es t):PE X (.Tuple es f pos) (ygn t):=by intro B s A H Q I g;refine wpAny_Tuple_spliced (thn (h pos B s A H _ I g) λj a l=>?_);let#[m,c,d,r,z,q]:=l;refine #[by rw[<-r.length];exact z,?_];have hf:c a.heap.objs.size=none:=d.hok.fresh (AS _);refine#[.ref a.heap.objs.size,upd c a.heap.objs.size (.tup m),d.laid (t':=a.toks) (λb u e=>AR _ e) (AS _) ?_,rfl,q _ hf];exact#[z,j,r,#[_,Af _ rfl,rfl,_,rfl]]
def zjX(h:PA X es t):PE X (.List es pos) (ygz t):=by intro B s A H Q I f;refine wpAny_List_spliced (thn (h pos B s A H _ I f) λg a j=>?_);let#[l,c,d,r,z,q]:=j;refine #[by rw[<-r.length];exact z,?_];have hf:c a.heap.objs.size=none:=d.hok.fresh (AS _);refine#[.ref a.heap.objs.size,upd c a.heap.objs.size (.lst l),d.laid (t':=a.toks) (λb u e=>AR _ e) (AS _) ?_,rfl,q _ hf];exact#[z,g,0,r,Af _ rfl]
end
abbrev Sp:=Hs V->Hp->VK->XK->Prop
abbrev CXT:=Hs Env->Hp->AK->XK->AG->AK->Prop
structure ycz(P:Ae)(w:Aq)(K:AF)(mg:AQ->Option AG)(base:BB)(A:Ar)(outer:Hs Env)(s:AK)(H:Hp):Prop where
 frames:A.frames=AA outer
 mod:Mod K mg base
 bs:∀b o,base.get? b=AA o->s.heap.get? b=AA o/\H b=AD
 bsz:base.objs.size<=s.heap.objs.size
 funs:s.heap.FunFrames base outer
 frf:∀b∈frs outer,H b=AD
 hok:HOk P w H s.heap
 bare:DJ s.gens
def CE(outer:Hs Env)(P:Ae)(w:Aq)(H:Hp)(s:AK)(Q:VK)(u:AG)(s':AK):Prop:=
 ∃v a,s'.os=s.os/\DJ s'.gens/\Un (frs outer) [] H a s.heap s'.heap/\HOk P w a s'.heap/\RelV v u/\Q v a
def CR(CX:CXT)(outer:Hs Env)(P:Ae)(w:Aq)(H:Hp)(s:AK)(Q:VK)(E:XK)(r:Fk)(s':AK):Prop:=
 match r with
 |.ok (.ret u)=>CE outer P w H s Q u s'
 |.ok _=>II
 |.error e=>CX outer H s E e s'
structure yaW(P:Ae)(w:Aq)(K:AF)(mg:AQ->Option AG)(base:BB)(CX:CXT)(k:Ht)(f:AJ)(fd:BC)(ps:Hs AQ)(sp:Sp):Prop where
 len:∀vs H Q E,sp vs H Q E->vs.length=ps.length
 run:∀(A:Ar) (outer:Hs Env) (s:AK) (H:Hp) (args:Args) (us:Hs AG) (vs:Hs V) (Q:VK) (E:XK),yaG k A->ycz P w K mg base A outer s H->Es s fd args (ps.zip us)->Vals vs us->sp vs H Q E ->
  codeAny (model P w) A (.call (.ref f) args) (CR CX outer P w H s Q E) s
theorem yaW.imp{P:Ae}{w:Aq}{K:AF}{g:AQ->Option AG}{base:BB}{CX:CXT}{k:Ht}{f:AJ}{j:BC}{ps:Hs AQ}{sp c:Sp}(F:yaW P w K g base CX k f j ps sp)
  (h:∀b H Q E,c b H Q E->sp b H Q E):yaW P w K g base CX k f j ps c:=
 #[λb H Q E q=>F.len b H Q E (h _ _ _ _ q),λA a s H d l b Q E m n o p r=>F.run A a s H d l b Q E m n o p (h _ _ _ _ r)]
theorem ycz.make{P:Ae}{w:Aq}{K:AF}{a:AQ->Option AG}{base:BB}{A:Ar}{outer:Hs Env}{s:AK}{H:Hp}(e:ycz P w K a base A outer s H)(C:AJ)(us:Hs AG)(b:Hs (AQ×AG)):
  ycz P w K a base (A.under (.builtin "type.__call__" #[.ref C::us,b])) outer s H:=#[by first|exact e.frames|(simpa [GE,Code.envs,GF,pushEnvs] using e.frames),e.mod,e.bs,e.bsz,e.funs,e.frf,e.hok,e.bare]
section
variable {X:Cx}{C:Hs (AJ×Bd)}{B:St}{H:Hp}{s s':AK}
theorem Inv.env0(I:Inv X C B H s):ycz X.prog X.w X.K X.mg X.base X.A X.stack s H:=
 #[I.ok.frames,I.ok.mod,I.bs,BK I.ok.bsz I.sz,I.stack,I.stkFree,I.hok,I.bare]
theorem Inv.after{Q:VK}{u:AG}(I:Inv X C B H s)(h:CE X.stack X.prog X.w H s Q u s'):EP X C B Q u s':=by let#[v,j,os,a,un,c,r,q]:=h;let#[l,g,d,t,f]:=s';obtain rfl:f=s.os:=os;exact#[v,j,I.call (h':=l) (g':=g) (d':=d) (t':=t) (ch:=[]) un c a (λb z=>IB z (by simp)),r,q]
end
def yfo(C:AJ)(sp:Sp)(b:Hs V)(E:XK)(t:TA):TE:=λA H Q=>t A H λd c=>∀x a,c x=AD->c a=AD->a≠x ->
 sp (.ref x::(d++b)) (upd (upd c a (.own x)) x (.ins C a [])) (λv f=>v=.non/\Q (.ref x) f) E
def Binds(K:AF)(c:BC)(ps:Hs AQ)(b:Hs AG):Prop:=
 ∀(s:AK) (a:Hs AG),K.In s.heap->(a++b).length=ps.length->Es s c #[a,[]] (ps.zip (a++b))
theorem Binds.all{K:AF}{b:BC}{ps:Hs AQ}(h:∀a:Hs AG,a.length=ps.length->bindArgs b #[a,[]]=pure (ps.zip a)):Binds K b ps []:=λs a _ c=>by rw[BE]at c ⊢;exact .of_eq (h a c)
def ybD(CX:CXT)(X:Cx)(E:XK):Prop:=∀(B:Hs (AJ×Bd)) (A:St) (H:Hp) (s:AK) (e:AG) (a:AK),Inv X B A H s->CX X.stack H s E e a->X.xe e a
section
variable {X:Cx}{CX:CXT}{k:Ht}{f C:AJ}{fd:BC}{ps:Hs AQ}{sp:Sp}{dvs:Hs V}{ds:Hs AG}{E:XK}{x m:AQ}{p pos apos:Bq}{e o:AX}{es:Hs AX}{ta:TE}{t:TA}
structure Mk(K:AF)(C f:AJ):Prop where
 makes:Da K C=AC
 init:Ao K (.ref C) "__init__"=AA (AA (.ref f))
 fn:Co K (.ref f)=AC
 kp:Ax K (.ref C)=AC
def ziV{D:Hs (AJ×Bd)}{B:St}{H:Hp}{s:AK}{Q:VK}{us:Hs AG}{vs:Hs V}(M:Mk X.K C f)(F:yaW X.prog X.w X.K X.mg X.base CX k f fd ps sp)(j:yaG (k+1) X.A)(l:Binds X.K fd ps ds)(m:Vals dvs ds)
  (n:ybD CX X E) (I:Inv X D B H s) (r:Vals vs us)
  (h:∀x b,H x=AD->H b=AD->b≠x->sp (.ref x::(vs++dvs)) (upd (upd H b (.own x)) x (.ins C b [])) (λv o=>v=.non/\Q (.ref x) o) E):
  Aa (model X.prog X.w) X.A (call (.ref C) us) (EP X D B Q) X.xe s:=by
 have d:=h (s.heap.objs.size+1) s.heap.objs.size (I.hok.fresh (DF _)) (I.hok.fresh (AS _)) (Aw (Eb _));have c:=Inv.made (C:=C) I;have g:Vals (V.ref (s.heap.objs.size+1)::(vs++dvs)) (Ak (s.heap.objs.size+1)::(us++ds)):=.cons rfl (r.append m);have p:(Ak (s.heap.objs.size+1)::us++ds).length=ps.length:=by have e:=g.length;rw[F.len _ _ _ _ d]at e;exact e.symm
 refine Gu (zje (f:=f) I.kIn M.makes M.init (IL.mp M.fn) (Dl (F.run _ X.stack _ _ #[Ak (s.heap.objs.size+1)::us,[]] (Ak (s.heap.objs.size+1)::(us++ds)) _ _ E (j.make C us [])
  (c.env0.make C us []) (l _ (Ak (s.heap.objs.size+1)::us) c.kIn p) g d) λr q a=>?_))
 cases r with
 |error e=>exact n D B _ _ e q c a
 |ok fl=>
  cases fl with
  |ret u=>
   let#[v,t,w,y,ev,z]:=c.after a;subst ev;exact#[y,#[V.ref (s.heap.objs.size+1),t,w,rfl,z]]
  |next=>exact BY a
  |brk=>exact BY a
  |cont=>exact BY a
def zlw(M:Mk X.K C f)(F:yaW X.prog X.w X.K X.mg X.base CX k f fd ps sp)(d:yaG (k+1) X.A)(g:Gl X x)(j:X.mg x=AA (.ref C))(l:Binds X.K fd ps ds)(m:Vals dvs ds)(n:ybD CX X E)
  (o:PA X (e::es) t) (a:(x==("__debug__":AQ))=false:=by decide) (u:starEach (e::es) X.env=(AB,eval e X.env)::starEach es X.env:=by rfl) (b:(backTo pos (starEach es X.env)).any (·.1)=false:=by rfl):
  PE X (.Call (.Name x p) (e::es) [] pos) (yfo C sp dvs E t):=by intro D s B H Q I h;refine B6 (zbx I g j ?_ a);refine Dx (h₀:=X.base) I.ok.mod.kin M.kp (thn (o pos D s B H _ I h) λy z w=>?_) u b;let#[A,G,c,r,q]:=w;refine #[c.kIn,?_];exact ziV M F d l m n c r q
end
def PK(X:Cx)(kws:Hs Br)(t:TA):Prop:=
 ∀(pos:Bq) (C:Hs (AJ×Bd)) (s:AK) (B:St) (H:Hp) (Q:Hs V->Hp->Prop),Inv X C B H s->t B H Q->Aa (model X.prog X.w) X.A (evalAll ((backToKw pos (keywordEach kws X.env)).map (·.2))) (AP X C B Q) X.xe s
section
variable {X:Cx}{CX:CXT}{k:Ht}{f C:AJ}{fd:BC}{ps ks:Hs AQ}{sp:Sp}{E:XK}{x m:AQ}{p pos apos kpos:Bq}{e o:AX}{es:Hs AX}{kws:Hs Br}{te ta:TE}{t tk:TA}{nm:Option AQ}
def zpf:PK X [] ydO:=λ_ _ _ _ H Q I h=>wpAny_evalAll_nil #[[],H,I,.nil,h]
def zlH(a:PE X e te)(b:PK X kws t):PK X (#[nm,e,kpos] :: kws) (ydL te t):=by intro pos B s A H Q I h;show Aa _ _ (evalAll ((do let v <-eval e X.env;standAt pos;pure v)::(backToKw pos (keywordEach kws X.env)).map (·.2))) _ _ s;refine wpAny_evalAll_cons (AI (thn (a B s A H _ I h) λu c d=>?_));let#[x,f,g,j,l]:=d;refine AI (D3 (AZ ?_));exact thn (b pos B c A f _ g l) λr w #[m,n,o,p,q]=>#[x::m,n,o,.cons j p,q]
structure ybZ(K:AF)(fd:BC)(ps ks:Hs AQ)(g:Hs AG->Hs AG->Hs AG)(gV:Hs V->Hs V->Hs V):Prop where
 to:∀(s:AK) (us ws:Hs AG),K.In s.heap->(g us ws).length=ps.length->Es s fd #[us,ks.zip ws] (ps.zip (g us ws))
 rel:∀{vs:Hs V} {us:Hs AG} {zs:Hs V} {ws:Hs AG},Vals vs us->Vals zs ws->Vals (gV vs zs) (g us ws)
variable {g:Hs AG->Hs AG->Hs AG}{gV:Hs V->Hs V->Hs V}
end
structure yaV(N P:Hs AQ)(sc:BU):Prop where
 kind:sc.kind=.function
 co:sc.isCoroutine=AB
 gen:sc.isGenerator=AB
 nd:N.Nodup
 pre:N.take P.length=P
 par:∀x∈P,sc.names.lookup x=AA .local \/ sc.names.lookup x=AA .cell
 nofree:∀y∈sc.names,y.2 ≠ .free
def zd1{kindOf:AQ->Option DM}{x:AQ}:∀{binds:Hs (AQ×AG)} {m:AQ->Option AG},(∀v,(x,v)∉binds)->bindL kindOf binds m x=m x
 |[],_,_=>rfl
 |(n,v)::r,m,h=>by
  unfold bindL;rw[zd1 λw a=>h w (AT _ a)];split
  .have:x≠n:=by rintro rfl;exact h v A6
   simp[this]
  .rfl
def zdL{kindOf:AQ->Option DM}{x:AQ}:∀{binds:Hs (AQ×AG)} {m:AQ->Option AG},(∀v,(x,v)∉binds)->bindC kindOf binds m x=m x
 |[],_,_=>rfl
 |(n,v)::r,m,h=>by
  unfold bindC;rw[zdL λw a=>h w (AT _ a)];split
  .rfl
  .have:x≠n:=by rintro rfl;exact h v A6
   simp[this]
def zeb{kindOf:AQ->Option DM}{x:AQ}{v:AG}:∀{P:Hs AQ} {vs:Hs AG} {i:Ht} {m:AQ->Option AG},P.Nodup->P[i]?=AA x->vs[i]?=AA v->kindOf x=AA .local ->
  bindL kindOf (P.zip vs) m x=AA v
 |[],_,_,_,_,h,_,_=>by simp at h
 |_::_,[],_,_,_,_,h,_=>by simp at h
 |p::P,w::vs,0,m,c,a,b,d=>by simp at a b;subst a;subst b;show bindL kindOf ((p,w)::P.zip vs) m p=_;unfold bindL;rw[zd1 λv f=>(Db.mp c).1 (Dc f).1,Hz d];simp
 |p::P,w::vs,i+1,m,c,a,b,d=>by show bindL kindOf ((p,w)::P.zip vs) m x=_;unfold bindL;exact zeb (i:=i) (Db.mp c).2 (by simpa using a) (by simpa using b) d
def zd4{kindOf:AQ->Option DM}{x:AQ}{v:AG}:∀{P:Hs AQ} {vs:Hs AG} {i:Ht} {m:AQ->Option AG},P.Nodup->P[i]?=AA x->vs[i]?=AA v->kindOf x≠AA .local ->
  bindC kindOf (P.zip vs) m x=AA v
 |[],_,_,_,_,h,_,_=>by simp at h
 |_::_,[],_,_,_,_,h,_=>by simp at h
 |p::P,w::vs,0,m,c,a,b,d=>by simp at a b;subst a;subst b;show bindC kindOf ((p,w)::P.zip vs) m p=_;unfold bindC;rw[zdL λv f=>(Db.mp c).1 (Dc f).1,IA d];simp
 |p::P,w::vs,i+1,m,c,a,b,d=>by show bindC kindOf ((p,w)::P.zip vs) m x=_;unfold bindC;exact zd4 (i:=i) (Db.mp c).2 (by simpa using a) (by simpa using b) d
def start(N:Hs AQ)(vs:Hs V):St:=vs.map AA++AL (N.length-vs.length) AD
def yaY(CX:CXT)(P:Ae)(w:Aq)(K:AF)(mg:AQ->Option AG)(base:BB)(N:Hs AQ)(b:AQ)(a:BU)(f:AJ)(d:AG)(A:Ar)(outer:Hs Env)(s:AK)(H:Hp)(E:XK):Cx where
 prog:=P
 w:=w
 K:=K
 mg:=mg
 base:=base
 A:=A.deeper (envOfC b a s.heap.objs.size f d)
 N:=N
 s₀:=s
 H₀:=H
 env:=envOfC b a s.heap.objs.size f d
 outer:=outer
 stack:=envOfC b a s.heap.objs.size f d::outer
 ex:=[]
 calm:=AC
 fn:=λ_=>AC
 pn:=[]
 xe:=λe g=>Aa (model P w) (A.deeper (envOfC b a s.heap.objs.size f d)) («leaving» (envOfC b a s.heap.objs.size f d) e) (λ_ c=>CX outer H s E e c) (λj c=>CX outer H s E j c) g
def zfy{sc:BU}{n:Ht}{x:AQ}(h:sc.names.lookup x=AA .cell):∃c,(cellsFrom n sc.names []).lookup x=AA c:=by have q:=DN sc.names n [] (.inl h);exact Aj.mp q
def zd7{CX:CXT}{P:Ae}{w:Aq}{K:AF}{I:AQ->Option AG}{base:BB}{N ps:Hs AQ}{g:AQ}{d:BU}{f:AJ}{C:AG}{A:Ar}{outer:Hs Env}{s J:AK}{H:Hp}{E:XK}{us:Hs AG}{vs:Hs V}
  (S:yaV N ps d) (O:A.handled=AD) (l:ycz P w K I base A outer s H) (Y:vs.length=ps.length) (r:Vals vs us)
  (x:InCallC s s.heap.objs.size (bindL (envOfC g d s.heap.objs.size f C).kindOf (ps.zip us) λ_=>AD) (cellsFrom (s.heap.objs.size+1) d.names []) (bindC (envOfC g d s.heap.objs.size f C).kindOf (ps.zip us) λ_=>AD) J):
  Inv (yaY CX P w K I base N g d f C A outer s H E) [] (start N vs) H J:=by
 have Q:ps.length<=N.length:=by have:=IJ CB S.pre;rw[CC]at this;lia
 let#[D,Z,rfl,L]:=x.done;have m:∀b:AJ,b∉(yaY CX P w K I base N g d f C A outer s H E).ex:=λb z=>IB (show b∈([]:Hs AJ)from z) (by simp);refine#[#[l.mod,S.kind,rfl,rfl,AS _,λy z c D j=>?_,λy o=>?_,λy c _ h=>?_,λ_=>O,Around.frames_deeper l.frames,.inr #[rfl,rfl],λb z=>IB z (m b),l.bs,l.bsz,λb _ _=>m b,λb z=>IB z (m b),l.funs,l.frf],
  rfl,l.bare,Un.kept L,#[_,x.toInCall.ns,λi y v D j h3=>?_],λy c h=>#[_,x.cell y c h],l.hok.fresh (AS _),λy c h=>?_,λp t=>IB (show p∈([]:Hs (AJ×Bd))from t) (by simp),l.hok.kept L,?_]
 .exact name_of_addr x.apart (C1 D) (C1 j)
 .have o:d.names.lookup y=AA .cell \/ d.names.lookup y=AA .free:=o;rcases o with o|o
  .exact zfy o
  .exact IB rfl (S.nofree _ (C1 o))
 .exact Fz (x.above y c (C1 h))
 .have G:i<vs.length:=by
   unfold start at j
   by_cases G:i<vs.length
   .exact G
   .rw[Ag (by simpa using G)]at j;rw[Ec]at j;split at j<;>cases j
  have U:vs[i]?=AA v:=by
   unfold start at j;rw[AY (by simpa using G),Bs]at j
   cases e:vs[i]? with
   |none=>rw[e]at j;cases j
   |some a=>rw[e]at j;cases j;rfl
  let#[u,M,X]:=r.get U;have t:ps[i]?=AA y:=by rw[<-S.pre,Hs.getElem?_take_of_lt ()];exact D
  have B:ps.Nodup:=by rw[<-S.pre];exact S.nd.sublist (Hs.take_sublist _ _)
  refine#[u,X,?_];rcases S.par y (A1 t)with k|k
  .exact .inl #[k,zeb B t M k]
  .let#[c,e]:=zfy (n:=s.heap.objs.size+1) k;refine .inr #[.inl k,c,e,?_];have q:=x.cell y c e;rw[zd4 B t M (by show d.names.lookup y≠_;rw[k];decide)]at q;exact q
 .exact l.hok.fresh (Fz (x.above y c (C1 h)))
 .unfold start;show _=N.length;rw[AO,Ai,Bg];lia
def znV{CX:CXT}{P:Ae}{w:Aq}{K:AF}{D:AQ->Option AG}{base:BB}{k:Ht}{f:AJ}{name c:AQ}{d:Arguments}{g:Hs Bf}{a:BU}{Z kV doc pm cdv ct oc:AG}{an od:Option AJ}
  {L:IH (Option AG)} {N ps:Hs AQ} {sp:Sp} (lk:K.lookup f=AA #[oc,od,.func (Bb name c d g a Z kV doc pm an cdv ct),L]) (M:CF K cdv c=AC) (S:yaV N ps a)
  (len:∀vs H Q E,sp vs H Q E->vs.length=ps.length)
  (l:∀(A:Ar) (outer:Hs Env) (s:AK) (H:Hp) (vs:Hs V) (Q:VK) (E:XK),yaG k (A.deeper (envOfC c a s.heap.objs.size f cdv))->sp vs H Q E ->
   ∃t,PSs (yaY CX P w K D base N c a f cdv A outer s H E) g t/\t {nx:=λ_ j=>Q .non j,rt:=Q} (start N vs) H):
  yaW P w K D base CX (k+1) f (Bb name c d g a Z kV doc pm an cdv ct) ps sp:=by
 refine#[len,λA outer s H args us vs Q E O z hb r B=>?_];have hl:=len _ _ _ _ B;have KX:K.In s.heap:=z.mod.kin.keeps λb o e=>(z.bs b o e).1;have U:s.heap.NoLimit:=z.mod.nolimit.keeps λb o e=>(z.bs b o e).1;have m:∀y∈ps.zip us,a.names.lookup y.1=AA .local \/ (a.names.lookup y.1=AA .cell/\((cellsFrom (s.heap.objs.size+1) a.names []).lookup y.1).isSome=AC):=λ#[n,v] hy=>by
  rcases S.par n (Dc hy).1 with q|q
  .exact .inl q
  .exact .inr #[q,DN _ _ _ (.inl q)]
 refine FN O.depth (KX _ _ lk) rfl S.co S.gen rfl (Fm KX M) (hb _ _ _ _ ?_);refine Dy S.kind m λenv he s1 x=>?_;subst he;refine#[U.keeps x.toInCall.keep,codeAny_func ?_];let#[t,ht,hq]:=l A outer s H vs Q E (O.deeper _) B;have I:Inv (yaY CX P w K D base N c a f cdv A outer s H E) [] (start N vs) H s1:=zd7 S O.hd z hl r x;refine Bj (ht [] s1 (start N vs) H _ I hq) (λfl X p=>?_) λe X p=>p;have C:∀{G:St} {j:Hp} {v:V} {u:AG},Inv (yaY CX P w K D base N c a f cdv A outer s H E) [] G j X->RelV v u->Q v j->CE outer P w H s Q u X:=
  λ{G j v u} J Y q=>#[v,j,J.os,J.bare,J.base,J.hok,Y,q]
 cases fl with
 |ret u=>
  let#[v,G,j,J,Y,q]:=p;exact C J Y q
 |next=>
  let#[G,j,J,q]:=p;exact C (v:=V.non) (u:=Bv) J rfl q
 |brk=>
  let#[_,_,_,q]:=p;exact BY q
 |cont=>
  let#[_,_,_,q]:=p;exact BY q
section
variable {X:Cx}{x:AQ}{p pos:Bq}{e:AX}{es:Hs AX}{t:TA}{id T:IM}{r:Hs V->Hp->VK->Prop}
def tCB(r:Hs V->Hp->VK->Prop)(t:TA):TE:=λA H Q=>t A H λa b=>r a b Q
def zcj(c:yaf X (.builtin id) r)(d:Gl X x)(f:X.mg x=AD)(g:bootBuiltins x=AA (.builtin id))(j:PA X (e::es) t)(l:x ≠ "__name__":=by decide)(a:(x==("__debug__":AQ))=false:=by decide)
  (m:starEach (e::es) X.env=(AB,eval e X.env)::starEach es X.env:=by rfl) (b:(backTo pos (starEach es X.env)).any (·.1)=false:=by rfl):PE X (.Call (.Name x p) (e::es) [] pos) (tCB r t):=by intro B s A H Q I h;refine B6 (zc0 I d f g ?_ l a);exact G3 (thn (j pos B s A H _ I h) λn o #[q,u,w,y,z]=>c B o A u q n Q w y z) m b
def zd8(c:yaf X (.type T) r)(d:Gl X x)(f:X.mg x=AD)(g:bootBuiltins x=AA (.type T))(j:PA X (e::es) t)(l:x ≠ "__name__":=by decide)(a:(x==("__debug__":AQ))=false:=by decide)
  (m:starEach (e::es) X.env=(AB,eval e X.env)::starEach es X.env:=by rfl) (b:(backTo pos (starEach es X.env)).any (·.1)=false:=by rfl):PE X (.Call (.Name x p) (e::es) [] pos) (tCB r t):=by intro B s A H Q I h;refine B6 (zc0 I d f g ?_ l a);exact Bz (thn (j pos B s A H _ I h) λn o #[q,u,w,y,z]=>c B o A u q n Q w y z) m b
end
end L2
namespace HT
open PySem PyProof.Rows
section
open PySem.SeqAt
open PySem.AutoSeq1 (wpAny_loadPart')
open PySem.MeetsSeq PySem.MeetsSeq2 PySem.MeetsSeq3
end
section
variable {prog:Ae}{w:Aq}{A:Ar}{E:AG->AK->Prop}{s:AK}
theorem cat_tup{t b:AJ}{vs a:Hs AG}{Q:AG->AK->Prop}(B:Gp s.heap t vs.toArray)(C:Gp s.heap b a.toArray)(p:vs≠[])
  (D:a=[]->Q (.ref t) s) (G:a≠[]->Q (.ref s.heap.objs.size) {s with heap:=s.heap.push {cls:=.type "tuple",data:=.seq (vs++a).toArray} })
  (o:vs.length+a.length<=sizeLine):Aa (model prog w) A (binaryOp .Add (.ref t) (.ref b)) Q E s:=by
 let#[#[cls,q,data,r],l,u,n,x]:=id B;let#[#[y,d,data2,f],c,g,z,j]:=id C;simp only at u x g j;subst u x g j;have e:vs.toArray++a.toArray=(vs++a).toArray:=by simp
 by_cases m:a=[]
 .exact GH #[_,l,rfl] #[_,c,rfl] Ed Fd DO DG (Cz _ _)
   (tuple_addW1 t b vs.toArray a.toArray n z q d r f (by simpa using p) (by simp[m])) #[l,c,D m]
 .refine GH #[_,l,rfl] #[_,c,rfl] Ed Fd DO DG (Cz _ _)
   (tuple_addW2 t b vs.toArray a.toArray n z q d r f (by simpa using p) (by simpa using m) (by rw[AU,AU];exact o)) #[l,c,?_]
  rw[e];exact G m
def sIx(n d:Ht):Option Hw->Ht
 |none=>d
 |some v=>if v<0 then(v+(n:Hw)).toNat else min v.toNat n
theorem sIx_le(n d:Ht)(b:d<=n)(o:Option Hw):sIx n d o<=n:=by
 cases o with
 |none=>exact b
 |some v=>
  show (if v<0 then(v+(n:Hw)).toNat else min v.toNat n)<=n
  by_cases a:v<0
  .rw[Hz a];lia
  .rw[IA a];exact Ht.min_le_right _ _
def zgc(v:Hw)(n d:Ht):(if v<0 then max (v+(n:Hw)) 0 else min v (n:Hw))=((sIx n d (AA v):Ht):Hw):=by
 show (if v<0 then max (v+(n:Hw)) 0 else min v (n:Hw))=(((if v<0 then(v+(n:Hw)).toNat else min v.toNat n):Ht):Hw)
 by_cases a:v<0
 .simp only[Hz a];lia
 .simp only[IA a];lia
def zf6(lo a:Option Hw)(n:Ht):Ct lo a 1 (n:Hw)=(((sIx n 0 lo:Ht):Hw),((sIx n n a:Ht):Hw)):=by
 have b:¬((1:Hw)<0):=by lia
 unfold Ct;erw[b,IG];refine Prod.ext ?_ ?_
 .cases lo with
  |none=>rfl
  |some v=>exact zgc v n 0
 .cases a with
  |none=>rfl
  |some v=>exact zgc v n n
def zfS(i j:Ht):CM (i:Hw) (j:Hw) 1=j-i:=by
 unfold CM;have a:(1:Hw) > 0:=by lia
 erw[a,ID,Hw.ediv_one];split<;>lia
def zdb{v:AG}{o:Option Hw}{Q:Option Hw->AK->Prop}(p:Et v o)(h:Q o s):Aa (model prog w) A (Gg v) Q E s:=by
 cases p with
 |none=>exact slicePart_none h
 |int i t=>exact slicePart_int h
theorem sliceApplied_gen{sl:AJ}{d f:AG}{lo a:Option Hw}{n:Ht}{Q:Hw×Hw×Ht->AK->Prop}(g:s.heap.IsSliceOf sl d f .none)(pl:Et d lo)(j:Et f a)
  (h:Q (((sIx n 0 lo:Ht):Hw),1,sIx n n a-sIx n 0 lo) s):Aa (model prog w) A (Dz (.ref sl) (pure (n:Hw))) Q E s:=by let#[os,b,l,c]:=id g;unfold Dz HH;refine AI (AI (BQ b c (x:=d) rfl (AI (BQ b c (x:=f) rfl (AI (BQ b c (x:=.none) rfl (AZ ?_)))))));refine AI (slicePart_none ?_);show Aa _ _ (if ((1:Hw)==0)=AC then _ else _) _ _ s;rw[IA ⋯];refine AI (zdb pl (AI (zdb j (AI (AZ ?_)))));show Aa _ _ (match Ct lo a 1 (n:Hw)with|(lo,a)=>pure (lo,(1:Hw),CM lo a 1)) _ _ s;rw[zf6 lo a n];show Aa _ _ (pure (((sIx n 0 lo:Ht):Hw),(1:Hw),CM ((sIx n 0 lo:Ht):Hw) ((sIx n n a:Ht):Hw) 1)) _ _ s;rw[zfS];exact AZ h
def zir(xs:IH AG)(i k:Ht):((En k).filterMap λ(m:Ht)=>xs[((i:Hw)+(m:Hw)*1).toNat]?).toArray=((xs.toList.drop i).take k).toArray:=by
 have e:(λ(m:Ht)=>xs[((i:Hw)+(m:Hw)*1).toNat]?)=λm=>xs[i+m]?:=by
  funext m
  have:((i:Hw)+(m:Hw)*1).toNat=i+m:=by lia
  rw[this]
 rw[e];have:=pick_run xs i k;rw[Hs.filterMap_map]at this;have a:((λx=>xs[x]?) ∘ λx=>i+x)=λm=>xs[i+m]?:=rfl;rw[a]at this;rw[this]
theorem getItem_tuple_cut{t sl:AJ}{items:IH AG}{l n:AG}{lo b:Option Hw}{Q:AG->AK->Prop}(c:Gp s.heap t items)(o:s.heap.IsSliceOf sl l n .none)(pl:Et l lo)(p:Et n b)
  (r:¬(sIx items.size 0 lo=0/\sIx items.size items.size b=items.size))
  (h:Q (.ref s.heap.objs.size) {s with heap:=s.heap.push {cls:=.type "tuple",data:=.seq ((items.toList.drop (sIx items.size 0 lo)).take (sIx items.size items.size b-sIx items.size 0 lo)).toArray} })
  (u:items.size<=sizeLine):Aa (model prog w) A (getItem (.ref t) (.ref sl)) Q E s:=by
 have a:sizeOk (.seq ((items.toList.drop (sIx items.size 0 lo)).take (sIx items.size items.size b-sIx items.size 0 lo)).toArray):=by show ((items.toList.drop (sIx items.size 0 lo)).take (sIx items.size items.size b-sIx items.size 0 lo)).toArray.size<=sizeLine;rw[AU,CC,Cp,By];lia
 have y:sIx items.size items.size b<=items.size:=sIx_le _ _ (AS _) b;let#[os,d,f,x]:=id o;have g:s.TypeIs (.ref sl) "slice":=#[os,d,f];unfold getItem
 try with_reducible refine D2 ?_
 first|refine AI (AZ ?_)|skip
 refine AI (GI c.typeIs ⋯ ?_);refine AI (B7 (name:=AE "__getitem__") c.typeIs BF
  (C2 BF c.typeIs F8 ?_ (Fp _ _)))
 show Aa _ _ (EA (.ref t) >>= _) _ _ s;refine AI (C5 c ?_);refine AI (GJ g ?_);rw[Hz ⋯];refine AI (sliceApplied_gen o pl p ?_);have j:¬((((sIx items.size 0 lo:Ht):Hw)==0&&(1:Hw)==1&&(sIx items.size items.size b-sIx items.size 0 lo)==items.size)=AC):=by intro q;rw[AH,AH]at q;have z:((sIx items.size 0 lo:Ht):Hw)=0:=eq_of_beq q.1.1;have B:sIx items.size items.size b-sIx items.size 0 lo=items.size:=eq_of_beq q.2;exact r #[by lia,by lia]
 show Aa _ _ (if (((sIx items.size 0 lo:Ht):Hw)==0&&(1:Hw)==1&&(sIx items.size items.size b-sIx items.size 0 lo)==items.size)=AC then _ else _) _ _ s;rw[IA j,zir]
 first
  |exact AI (m:=B3 _) (BS (AZ #[_,rfl,AZ h]) a)
  |exact AI (m:=B3 _) (BS (AI (AZ (AZ #[_,rfl,AZ h]))) a)
  |exact AI (AI (m:=B3 _) (BS (AZ (AZ #[_,rfl,AZ h])) a))
  |exact AI (AI (m:=B3 _) (BS (AZ #[_,rfl,AZ h]) a))
end
end HT
namespace L2
open PySem PySem.Spec PyProof.Rows
abbrev TO:=St->Hp->(Option Hw->Hp->Prop)->Prop
def PO(X:Cx)(e:Option AX)(t:TO):Prop:=
 ∀(C:Hs (AJ×Bd)) (s:AK) (B:St) (H:Hp) (Q:Option Hw->Hp->Prop),Inv X C B H s->t B H Q ->
  Aa (model X.prog X.w) X.A (evalPart e X.env) (λu b=>∃o a,Inv X C B a b/\Et u o/\Q o a) X.xe s
def ycS:TO:=λ_ H Q=>Q AD H
def zde{ns:Hs Hw}:∀{us:Hs AG},Vals (ns.map V.int) us->Eu us ns:=by
 induction ns with
 |nil=>intro us r;rw[BH]at r;cases r;exact .nil
 |cons n ns ih=>
  intro us r;rw[AW]at r
  cases r with
  |cons a b=>
   let#[t,e]:=a;subst e;exact .cons n t (ih b)
section
variable {X:Cx}{e:AX}{te:TE}{lo hi:Option AX}{tl th:TO}{pos p2:Bq}
def zkw:PO X AD ycS:=by intro C s B H Q I h;rw[evalPart_none];exact AZ #[AD,H,I,.none,h]
def SlR(X:Cx)(r:V->Option Hw->Option Hw->Hp->VK->Prop):Prop:=
 ∀(C:Hs (AJ×Bd)) (s:AK) (B:St) (H:Hp) (x:V) (v a b:AG) (lo hi:Option Hw) (c:AJ) (Q:VK),Inv X C B H s->RelV x v->s.heap.IsSliceOf c a b .none->Et a lo->Et b hi->r x lo hi H Q ->
  ∃T id,typeLookup (.type T) "__getitem__"=pure (AA (.builtin id))/\s.TypeIs v T/\Aa (model X.prog X.w) X.A (getItem v (.ref c)) (EP X C B Q) X.xe s
def tSl(r:V->Option Hw->Option Hw->Hp->VK->Prop)(te:TE)(tl th:TO):TE:=λB H Q=>te B H λx a=>tl B a λl b=>th B b λu c=>r x l u c Q
def zi5{r:V->Option Hw->Option Hw->Hp->VK->Prop}(j:SlR X r)(m:PE X e te)(n:PO X lo tl)(o:PO X hi th):PE X (.Subscript e (.Slice lo hi AD p2) pos) (tSl r te tl th):=by intro C s B H Q I h;refine Gv (thn (m C s B H _ I h) λv p c=>?_);let#[x,t,w,y,z]:=c;refine wpAny_Slice (thn (n C p B t _ w z) λd A c=>?_);let#[l,D,E,G,J]:=c;refine thn (o C A B D _ E J) λf a c=>?_;let#[u,g,L,M,N]:=c;rw[evalPart_none];refine AZ ?_;have O:Inv X C B g {a with heap:=a.heap.push {cls:=.type "slice",data:=.fields (Hs.toArray [d,f,.none])} }:=L.kept (t':=a.toks) λb ob q=>AR _ q;let#[T,id,U,Y,Z]:=j C {a with heap:=a.heap.push {cls:=.type "slice",data:=.fields (Hs.toArray [d,f,.none])} } B g x v d f l u a.heap.objs.size Q O y (Hm ..) G M N;show Aa (model X.prog X.w) X.A (subscriptTail e (.Slice lo hi AD p2) v (.ref a.heap.objs.size)) (EP X C B Q) X.xe {a with heap:=a.heap.push {cls:=.type "slice",data:=.fields (Hs.toArray [d,f,.none])} };exact tail_any (ops:=[.ref a.heap.objs.size,v]) Y U Z (by ac_rfl)
def ycE(xs:Hs V)(lo hi:Option Hw):Hs V:=(xs.drop (HT.sIx xs.length 0 lo)).take (HT.sIx xs.length xs.length hi-HT.sIx xs.length 0 lo)
def zcI(xs:Hs V)(lo hi:Option Hw):(ycE xs lo hi).length<=xs.length:=by unfold ycE;rw[CC,Cp];lia
def yf9(K:AF):V->Option Hw->Option Hw->Hp->VK->Prop:=λx lo hi H Q=>∃a b,x=.ref a/\SqT K H a b /\
 ¬(HT.sIx b.length 0 lo=0/\HT.sIx b.length b.length hi=b.length)/\∀p,H p=AD->Q (.ref p) (upd H p (.tup (ycE b lo hi)))
def zlW:SlR X (yf9 X.K):=by
 intro C s B H x v w y lo hi z Q I l m n p h;let#[a,d,rfl,t,u,q]:=h
 cases l
 let#[f,r,g,j]:=I.tuple t;have c:f.toArray.size=d.length:=by rw[AU];exact r.length.symm
 refine#["tuple",_,BF.lookup,g.typeIs,?_];refine HT.getItem_tuple_cut g m n p (by rw[c];exact u) ?_ (by rw[c];exact j);rw[c];refine#[.ref s.heap.objs.size,_,I.laid (t':=s.toks) (o:=.tup (ycE d lo hi)) (λb A q=>AR _ q) (AS _) ?_,rfl,q _ (I.hok.fresh (AS _))];exact#[BK (zcI d lo hi) j,_,(r.drop (HT.sIx d.length 0 lo)).take (HT.sIx d.length d.length hi-HT.sIx d.length 0 lo),E8 _ _]
def yeT(K:AF):R2:=λx y H Q=>∃a b d c,x=.ref a/\y=.ref b/\SqT K H a d/\SqT K H b c/\d≠[]/\d.length+c.length<=sizeLine /\
 (c=[]->Q (.ref a) H)/\(c≠[]->∀p,H p=AD->Q (.ref p) (upd H p (.tup (d++c))))
theorem Vals.nil_iff{xs:Hs V}{us:Hs AG}(r:Vals xs us):us=[] ↔ xs=[]:=by
 cases r with
 |nil=>simp
 |cons _ _=>simp
def zko:OpR X (binaryOp .Add) (yeT X.K):=by
 intro C s B H x y v u Q I j l h;let#[a,b,m,n,rfl,rfl,p,r,t,f,A,D]:=h
 cases j
 cases l
 let#[E,d,G,_]:=I.tuple p;let#[g,c,p2,_]:=I.tuple r;refine HT.cat_tup G p2 (λz=>t (d.nil_iff.mp z)) (λz=>#[.ref a,H,I,rfl,A (c.nil_iff.mp z)]) (λz=>?_) (by rw[<-d.length,<-c.length];exact f);refine#[.ref s.heap.objs.size,_,I.laid (t':=s.toks) (o:=.tup (m++n)) (λb J q=>AR _ q) (AS _) ?_,rfl,D (λw=>z (c.nil_iff.mpr w)) _ (I.hok.fresh (AS _))];exact#[by rw[AO];exact f,_,d.append c,E8 _ _]
end
def ixN(n:Ht)(i:Hw):Option Ht:=if 0<=i then(if i<n then AA i.toNat else AD)else if -(n:Hw)<=i then AA (i+n).toNat else AD
def atI{A:Type}(xs:Hs A)(i:Hw):Option A:=(ixN xs.length i).bind λj=>xs[j]?
def zha{n:Ht}{i:Hw}{j:Ht}(h:ixN n i=AA j):seqIndex? i n=AA j/\j<n/\-(n:Hw)<=i/\i<n:=by
 unfold ixN at h
 by_cases b:0<=i
 .rw[Hz b]at h
  by_cases a:i<n
  .rw[Hz a]at h;have e:i.toNat=j:=Ac h;exact#[by rw[Gd b a,e],by lia,by lia,a]
  .rw[IA a]at h;cases h
 .rw[IA b]at h
  by_cases a:-(n:Hw)<=i
  .rw[Hz a]at h;have e:(i+n).toNat=j:=Ac h;exact#[by rw[seqIndex_neg () a,e],by lia,a,by lia]
  .rw[IA a]at h;cases h
def zeO{A:Type}{xs:Hs A}{i:Hw}{v:A}(h:atI xs i=AA v):∃j,seqIndex? i xs.length=AA j/\xs[j]?=AA v/\j<xs.length/\-(xs.length:Hw)<=i/\i<xs.length:=by
 unfold atI at h
 cases e:ixN xs.length i with
 |none=>rw[e]at h;cases h
 |some j=>
  rw[e]at h;let#[a,b,c,d]:=zha e;exact#[j,a,h,b,c,d]
def ybv(b:AX):Prop:=∀o i,subscripted b AB o i=operate [o,i] (getItem o i)
def IxR(X:Cx)(r:R2):Prop:=
 ∀(b a:AX) (C:Hs (AJ×Bd)) (s:AK) (B:St) (H:Hp) (x y:V) (v u:AG) (Q:VK),Inv X C B H s->RelV x v->RelV y u->r x y H Q ->
  subscripted a AB v u=operate [v,u] (getItem v u)->Aa (model X.prog X.w) X.A (subscriptTail b a v u) (EP X C B Q) X.xe s
def MtR(X:Cx)(id:IM)(r:V->Hs V->Hp->VK->Prop):Prop:=
 ∀(C:Hs (AJ×Bd)) (s:AK) (B:St) (H:Hp) (x:V) (a:Hs V) (v:AG) (b:Hs AG) (Q:VK),Inv X C B H s->RelV x v->Vals a b->r x a H Q ->
  Aa (model X.prog X.w) X.A (call (.builtin id) (v::b)) (EP X C B Q) X.xe s
section
variable {X:Cx}{a b:AX}{ta tb:TE}{pos:Bq}
theorem IxR.or{r c:R2}(h:IxR X r)(h':IxR X c):IxR X (λx y H Q=>r x y H Q \/ c x y H Q):=by
 intro a b C s B H x y v u Q I d f q g;rcases q with q|q
 .exact h a b C s B H x y v u Q I d f q g
 .exact h' a b C s B H x y v u Q I d f q g
def znZ{r:R2}(c:IxR X r)(d:PE X a ta)(f:PE X b tb)(g:ybv b):PE X (.Subscript a b pos) (tOp r ta tb):=by intro C s B H Q I h;exact Gv (zoL d f I h λv u j x y l m n o q=>c a b C j B l x y v u Q m n o q (g _ _))
def yfD(K:AF):R2:=λx y H Q=>∃p a i v,x=.ref p/\y=.int i/\SqL K H p a/\atI a i=AA v/\Q v H
def yfP(K:AF):R2:=λx y H Q=>∃p a i v,x=.ref p/\y=.int i/\SqT K H p a/\atI a i=AA v/\Q v H
def yfW:R2:=λx y H Q=>∃z i c,x=.str z/\y=.int i/\z.length<=sizeLine/\atI z.cps.toList i=AA c/\Q (.str #[(Hs.toArray [c])]) H
def zpg:IxR X (yfD X.K):=by
 intro c d C s B H x y v u Q I D E h n;let#[p,Y,i,z,rfl,rfl,G,J,q]:=h
 cases D
 let#[t,rfl]:=E;let#[f,r,g,Z]:=I.list G;let#[j,b,L,h3,M,N]:=zeO J;let#[w,o,l]:=r.get L;have O:=r.length;have hn:=zoC;have a:EP X C B Q w s:=#[z,H,I,l,q]
 by_cases A:0<=i
 .have m:i.toNat=j:=by rw[Gd A N]at b;exact Ac b
  exact item_listR g.isList A () (by rw[m];simpa using o) a n
 .have m:(i+(f.toArray.size:Hw)).toNat=j:=by rw[seqIndex_neg () M]at b;rw[AU,<-O];exact Ac b
  exact Ew (x:=w) g.isList.typeIs GL.lookup
   (wpAny_getItem_list_neg (Q:=λr U=>r=w/\EP X C B Q r U) g.isList () (by rw[AU]<;>lia) () (by rw[m];simpa using o) #[rfl,a]) n
def zph:IxR X (yfP X.K):=by
 intro a b C s B H x y v u Q I g l h m;let#[p,M,i,z,rfl,rfl,n,o,q]:=h
 cases g
 let#[t,rfl]:=l;let#[A,r,f,N]:=I.tuple n;let#[j,D,E,O,U,Y]:=zeO o;let#[w,G,c]:=r.get E;have J:=r.length;have Z:=zoC;have d:EP X C B Q w s:=#[z,H,I,c,q];exact Ew (x:=w) f.typeIs BF.lookup
  (getItem_tuple (j:=j) (Q:=λr L=>r=w/\EP X C B Q r L) f () () (by rw[AU,<-J];exact D) (by simpa using G) #[rfl,d]) m
def zlT:IxR X yfW:=by
 intro a b C s B H x y v u Q I f g h l;let#[z,i,c,rfl,rfl,D,m,q]:=h;let#[t,rfl]:=f;let#[E,rfl]:=g;let#[j,d,n,G,o,p]:=zeO m;have r:z.cps.toList.length=z.length:=by simp[Gw]
 rw[r]at d o p;have J:=zoC;exact tail_any (Gx s z t) slot_str_getitem.lookup (getItem_str (c:=c) (by have w:decide (i < -(2^63:Hw))=false:=Hu ();have A:decide (i ≥ 2^63)=false:=Hu ();rw[w,A,Fe]) (by rw[d];simpa using n) #[.str #[(Hs.toArray [c])],H,I.tok _,#[_,rfl],q]) l
def rIx(K:AF):R2:=λx y H Q=>yfD K x y H Q \/ yfP K x y H Q \/ yfW x y H Q
def ze4:IxR X (rIx X.K):=zpg.or (zph.or zlT)
def zf1(a:Hs AG)(n j:Ht)(u:AG):Ex (·.setIfInBounds j u) {cls:=.type "list",data:=.seq a.toArray n}={cls:=.type "list",data:=.seq (a.set j u).toArray n}:=by simp[Ex]
theorem Inv.lst{C:Hs (AJ×Bd)}{B:St}{H:Hp}{s:AK}{p:AJ}{xs:Hs V}(I:Inv X C B H s)(h:H p=AA (.lst xs)):
  ∃(a:Hs AG) (n:Ht),Vals xs a/\s.heap.get? p=AA {cls:=.type "list",data:=.seq a.toArray n}/\xs.length<=sizeLine:=by let#[z,a,n,r,e]:=I.hok p _ h;exact#[a,n,r,e,z]
theorem Inv.lstUpd{C:Hs (AJ×Bd)}{B:St}{H:Hp}{s:AK}{p:AJ}{xs ys:Hs V}{a its':Hs AG}{n c:Ht}{f:Bd->Bd}(I:Inv X C B H s)(h:H p=AA (.lst xs))
  (d:s.heap.get? p=AA {cls:=.type "list",data:=.seq a.toArray n}) (hf:f {cls:=.type "list",data:=.seq a.toArray n}={cls:=.type "list",data:=.seq its'.toArray c}) (r:Vals ys its') (g:ys.length<=sizeLine) (t:Ht):
  Inv X C B (upd H p (.lst ys)) {s with heap:=s.heap.update p f,toks:=t}:=by
 have e:(s.heap.update p f).get? p=AA {cls:=.type "list",data:=.seq its'.toArray c}:=by rw[FO f d (by rw[hf]<;>rfl),hf]
 refine I.write (x:=p) (e:=p) (by rw[h];trivial) (.inl rfl) (λb u j q=>(DP _ _ (BW j)).trans q) #[_,e] ?_;exact#[g,its',c,r,e]
def yb6:V->V->V->Hp->(Hp->Prop)->Prop:=λo i v H Q=>∃p a k j,o=.ref p/\i=.int k/\H p=AA (.lst a)/\ixN a.length k=AA j/\Q (upd H p (.lst (a.set j v)))
def zce:yfQ X yb6:=by
 intro C s B H o i v J L u Q I y z A h;let#[p,D,k,j,rfl,rfl,g,E,q]:=h
 cases y
 let#[t,rfl]:=z;let#[a,n,r,c,G]:=I.lst g;let#[b,M,l,m]:=zha E;have d:=r.length;have N:=zoC;have w:Inv X C B (upd H p (.lst (D.set j v))) {s with heap:=s.heap.update p (Ex (·.setIfInBounds j u))}:=
  I.lstUpd g c (zf1 a n j u) (r.set A j) (by rw[Ay];exact G) s.toks
 by_cases x:0<=k
 .have f:k.toNat=j:=by rw[Gd x m]at b;exact Ac b
  exact PySem.W.ki_setAt c x () (by rw[AU,<-d];exact m) (by rw[f];exact#[_,w,q])
 .have f:(k+(a.toArray.size:Hw)).toNat=j:=by rw[seqIndex_neg () l]at b;rw[AU,<-d];exact Ac b
  exact PySem.W.ki_setBack c () (by rw[AU,<-d];exact l) () (by rw[f];exact#[_,w,q])
def zdO(lo a:Option Hw)(n:Ht):(sliceBounds lo a AD n).1=((HT.sIx n 0 lo:Ht):Hw)/\(sliceBounds lo a AD n).2.1=((HT.sIx n n a:Ht):Hw)/\(sliceBounds lo a AD n).2.2=1:=by
 refine#[?_,?_,rfl]
 .cases lo with
  |none=>simp[sliceBounds,HT.sIx]
  |some i=>
   erw[sliceBounds,HT.sIx,G4,show (1:Hw) > 0 by decide,ID]
   by_cases h:i<0
   .simp only[h,ID]<;>lia
   .simp only[h,IG]<;>lia
 .cases a with
  |none=>simp[sliceBounds,HT.sIx]
  |some i=>
   erw[sliceBounds,HT.sIx,G4,show (1:Hw) > 0 by decide,ID]
   by_cases h:i<0
   .simp only[h,ID]<;>lia
   .simp only[h,IG]<;>lia
def zdC(a:Hs AG)(lo b:Option Hw):slicePick a.toArray lo b AD=((a.drop (HT.sIx a.length 0 lo)).take (HT.sIx a.length a.length b-HT.sIx a.length 0 lo)).toArray:=by let#[c,d,f]:=zdO lo b a.toArray.size;unfold slicePick;rw[c,d,f];erw[sliceRange_one,pick_run,AU]<;>rfl
def yhe(K:AF):V->Option Hw->Option Hw->Hp->VK->Prop:=λx lo c H Q=>∃a b,x=.ref a/\SqL K H a b/\∀p,H p=AD->Q (.ref p) (upd H p (.lst (ycE b lo c)))
def zgL:SlR X (yhe X.K):=by
 intro C s B H x v w y lo f z Q I j l m n h;let#[a,c,rfl,p,q]:=h
 cases j
 let#[t,r,g,u]:=I.list p;have d:=r.length;refine#["list",_,GL.lookup,g.isList.typeIs,?_];refine wpAny_getItem_list_slice g.isList l m n .none (by simp) ?_ (by rw[AU]<;>lia);rw[zdC,<-d];refine#[.ref s.heap.objs.size,_,I.laid (t':=s.toks) (o:=.lst (ycE c lo f)) (λb A q=>AR _ q) (AS _) ?_,rfl,q _ (I.hok.fresh (AS _))];exact#[BK (zcI c lo f) u,_,0,(r.drop (HT.sIx c.length 0 lo)).take (HT.sIx c.length c.length f-HT.sIx c.length 0 lo),Af _ rfl]
def ya6:V->Hy
 |.non=>AC
 |.bl _=>AC
 |.int _=>AC
 |.str _=>AC
 |_=>AB
def eqV:V->V->Hy
 |.non,.non=>AC
 |.bl a,.bl b=>a==b
 |.bl a,.int b=>(if a then 1 else 0)==b
 |.int a,.bl b=>a==(if b then 1 else 0)
 |.int a,.int b=>a==b
 |.str a,.str b=>a==b
 |_,_=>AB
def zmL{A:Ar}{s:AK}{y x:V}{u v:AG}(f:RelV y u)(c:RelV x v)(j:ya6 y=AC)(g:ya6 x=AC):Gy A s u v (eqV y x):=by
 cases y with
 |non=>
  cases f
  cases x with
  |non=>cases c;exact SeqAt.EqAt.same _
  |bl b=>cases c;exact SeqAt.EqAt.none_bool b
  |int b=>let#[t,rfl]:=c;exact SeqAt.EqAt.none_int b t
  |str b=>let#[t,rfl]:=c;exact SeqAt.EqAt.none_str b t
  |_=>exact IB (show AB=AC from g) A4
 |bl a=>
  cases f
  cases x with
  |non=>cases c;exact SeqAt.EqAt.bool_none a
  |bl b=>cases c;exact SeqAt.EqAt.bool_bool a b
  |int b=>let#[t,rfl]:=c;exact SeqAt.EqAt.bool_int a b t
  |str b=>let#[t,rfl]:=c;exact SeqAt.EqAt.bool_str a b t
  |_=>exact IB (show AB=AC from g) A4
 |int a=>
  let#[d,rfl]:=f
  cases x with
  |non=>cases c;exact SeqAt.EqAt.int_none a d
  |bl b=>cases c;exact SeqAt.EqAt.int_bool a d b
  |int b=>let#[t,rfl]:=c;exact SeqAt.EqAt.int_int a d b t
  |str b=>let#[t,rfl]:=c;exact Fh a d b t
  |_=>exact IB (show AB=AC from g) A4
 |str a=>
  let#[d,rfl]:=f
  cases x with
  |non=>cases c;exact SeqAt.EqAt.str_none a d
  |bl b=>cases c;exact SeqAt.EqAt.str_bool a d b
  |int b=>let#[t,rfl]:=c;exact Fi a d b t
  |str b=>let#[t,rfl]:=c;exact SeqAt.EqAt.str_str a d b t
  |_=>exact IB (show AB=AC from g) A4
 |_=>exact IB (show AB=AC from j) A4
def eqU(x:V)(u:AG):Hy:=match u with
 |.none=>eqV .non x
 |.bool b=>eqV (.bl b) x
 |.int i _=>eqV (.int i) x
 |.str z _=>eqV (.str z) x
 |_=>AB
def zjw{x y:V}{u:AG}(r:RelV y u)(f:ya6 y=AC):eqU x u=eqV y x:=by
 cases y with
 |non=>cases r;rfl
 |bl b=>cases r;rfl
 |int i=>let#[t,rfl]:=r;rfl
 |str z=>let#[t,rfl]:=r;rfl
 |_=>exact IB (show AB=AC from f) A4
def zeM{x:V}:∀{xs:Hs V} {us:Hs AG},Vals xs us->xs.all ya6=AC->us.any (eqU x)=xs.any λy=>eqV y x
 |_,_,.nil,_=>rfl
 |y::xs,u::us,.cons r t,f=>by rw[An,AH]at f;rw[Ba,Ba,zjw r f.1,zeM t f.2]
def zdF{A:Ar}{s:AK}{x:V}{v:AG}(b:RelV x v)(c:ya6 x=AC):∀{xs:Hs V} {us:Hs AG},Vals xs us->xs.all ya6=AC->∀u∈us,Gy A s u v (eqU x u)
 |_,_,.nil,_=>λu a=>by cases a
 |y::xs,u::us,.cons r t,f=>λd a=>by
  rw[An,AH]at f;rcases AM.mp a with rfl|a
  .rw[zjw r f.1];exact zmL r b f.1 c
  .exact zdF b c t f.2 d a
def inV(x:V)(xs:Hs V):Hy:=xs.any λy=>eqV y x
def rIn(K:AF)(b:Hy):R2:=λx y H Q=>∃p a,y=.ref p/\(SqL K H p a \/ SqT K H p a)/\ya6 x=AC/\a.all ya6=AC/\Q (.bl (if b then !inV x a else inV x a)) H
def zeg:OpR X (compareOp .In) (rIn X.K AB):=by
 intro C s B H x y v u Q I f j h;let#[p,m,rfl,b,g,fs,q]:=h
 cases j
 rcases b with b|b
 .let#[a,r,c,l]:=I.list b;refine SeqAt.in_listAt (eqU x) c.isList (λw d=>zdF f g r fs w (by simpa using d)) #[.bl _,H,I,rfl,?_];rw[show a.toArray.any (eqU x)=a.any (eqU x)by simp,zeM r fs];exact q
 .let#[a,r,c,l]:=I.tuple b;refine SeqAt.in_tupleAt (eqU x) c (λw d=>zdF f g r fs w (by simpa using d)) #[.bl _,H,I,rfl,?_];rw[show a.toArray.any (eqU x)=a.any (eqU x)by simp,zeM r fs];exact q
def zek:yaf X (.builtin "len") (λj H Q=>∃p b,j=[.ref p]/\(SqL X.K H p b \/ SqT X.K H p b)/\Q (.int b.length) H):=by
 intro C s B H j n Q I r h;let#[p,b,rfl,c,q]:=h;let#[u,rfl,l]:=vals1 r
 cases l
 have o:=zoC;rcases c with c|c
 .let#[d,f,g,m]:=I.list c;have a:=f.length;exact Calls.call_len_list g.isList (by erw[AU]<;>lia) #[.int b.length,H,I.tok _,#[s.toks+1,by rw[AU,a]],q]
 .let#[d,f,g,m]:=I.tuple c;have a:=f.length;exact len_tuple g (by erw[AU]<;>lia) #[.int b.length,H,I.tok _,#[s.toks+1,by rw[AU,a]],q]
def zel:yaf X (.builtin "len") (λa H Q=>∃z,a=[.str z]/\z.length<=sizeLine/\Q (.int z.length) H):=by intro C s B H a b Q I r h;let#[z,rfl,c,q]:=h;let#[u,rfl,t,rfl]:=vals1 r;have d:=zoC;exact len_str () #[.int z.length,H,I.tok _,#[_,rfl],q]
def zcc:yaf X (.type "list") (λE H Q=>∃p d,E=[.ref p]/\(SqL X.K H p d \/ SqT X.K H p d)/\∀l,H l=AD->Q (.ref l) (upd H l (.lst d))):=by
 intro C s B H E L Q I r h;let#[p,d,rfl,j,q]:=h;let#[u,rfl,J]:=vals1 r
 cases J
 have m:∀(a:Hs AG),Vals d a->d.length<=sizeLine->∀(c:BB) (f:Ht),(∀b G,s.heap.get? b=AA G->c.get? b=AA G) ->
   c.get? s.heap.objs.size=AA {cls:=.type "list",dict:=AD,data:=.seq a.toArray f,slots:=(Hs.toArray [])}->EP X C B Q (.ref s.heap.objs.size) {s with heap:=c}:=λa g t c f w e=>
  #[.ref s.heap.objs.size,_,I.laid (t':=s.toks) w (AS _) (show yaa X.prog X.w _ c _ (.lst d)from #[t,a,f,g,e]),rfl,q _ (I.hok.fresh (AS _))]
 rcases j with j|j
 .let#[a,g,y,t]:=I.list j;have x:=g.length;let#[o,z,A,n,D]:=y.isList;exact call_list_seq p (.inl rfl) z A D (λc f w e=>m a g t c f w e) (by erw[AU]<;>lia)
 .let#[a,g,y,t]:=I.tuple j;have x:=g.length;let#[o,z,A,n,D]:=y;exact call_list_seq p (.inr rfl) z A D (λc f w e=>m a g t c f w e) (by erw[AU]<;>lia)
def zbO:yaf X (.type "tuple") (λm H Q=>∃p c,m=[.ref p]/\((SqL X.K H p c/\∀l,H l=AD->Q (.ref l) (upd H l (.tup c))) \/ (SqT X.K H p c/\Q (.ref p) H))):=by
 intro C s B H m A Q I r h;let#[p,c,rfl,h]:=h;let#[u,rfl,x]:=vals1 r
 cases x
 rcases h with⟨f,q⟩|⟨f,q⟩
 .let#[a,g,j,n]:=I.list f;have t:=g.length;refine call_tuple_list j.isList (λd y=>?_) (by erw[AU]<;>lia);have w:Inv X C B H {s with heap:=d}:=I.kept (t':=s.toks) y;have z:Inv X C B (upd H d.objs.size (.tup c)) {s with heap:=d.push {cls:=.type "tuple",data:=.seq a.toArray} }:=
   w.laid (t':=s.toks) (λb o e=>AR _ e) (AS _) (show yaa X.prog X.w _ _ _ (.tup c)from #[n,a,g,E8 _ _])
  exact#[.ref d.objs.size,_,z,rfl,q _ (w.hok.fresh (AS _))]
 .let#[a,g,j,n]:=I.tuple f;exact call_tuple_same j #[.ref p,H,I,rfl,q]
def tyV(K:AF)(T:IM)(x:V)(H:Hp):Prop:=match x with
 |.str _=>T="str"
 |.int _=>T="int"
 |.ref p=>(T="list"/\∃b,SqL K H p b) \/ (T="tuple"/\∃o,K.lookup p=AA o/\o.cls=.type "tuple"/\o.dict=AD) \/
   (T="dict"/\((∃a,H p=AA (.dK a)) \/ ∃a,H p=AA (.dT a))) \/ (T="set"/\∃S n,H p=AA (.set S n))
 |_=>II
def zm9{C:Hs (AJ×Bd)}{B:St}{H:Hp}{s:AK}{T:IM}{x:V}{v:AG}(I:Inv X C B H s)(r:RelV x v)(d:tyV X.K T x H):
  s.TypeIs v T/\∀a,v=.ref a->∃l,s.heap.get? a=AA l/\l.dict=none:=by
 cases x with
 |str z=>
  let#[t,rfl]:=r
  cases (show T="str" from d)
  exact#[Gx s z t,λ_ e=>nomatch e]
 |int i=>
  let#[t,rfl]:=r
  cases (show T="int" from d)
  exact#[Ch s i t,λ_ e=>nomatch e]
 |ref p=>
  cases r
  rcases d with⟨rfl,y,q⟩|⟨rfl,o,b,u,f⟩|⟨rfl,b⟩|⟨rfl,S,n,b⟩
  .let#[w,_,m,_]:=I.list q;refine#[m.isList.typeIs,λa e=>?_]
   cases e
   let#[o,n,e,c,f,_]:=m;exact#[o,e,f]
  .refine#[#[o,I.kIn p o b,u],λa e=>?_]
   cases e
   exact#[o,I.kIn _ o b,f]
  .have z:∃o,s.heap.get? p=AA o/\o.ExactDict:=by
    rcases b with⟨g,b⟩|⟨g,b⟩
    .let#[_,_,_,_,o,_,_,e,ex,_]:=I.hok p _ b;exact#[o,e,ex]
    .let#[_,_,_,_,o,_,_,e,ex,_]:=I.hok p _ b;exact#[o,e,ex]
   let#[o,e,ex]:=z;refine#[#[o,e,ex.1],λa j=>?_]
   cases j
   exact#[o,e,ex.2.1]
  .let#[o,_,_,_,e,ex,_]:=I.hok p _ b;refine#[#[o,e,ex.1],λa j=>?_]
   cases j
   exact#[o,e,ex.2.1]
 |_=>exact BY d
def tBM(K:AF)(T:IM)(r:V->Hs V->Hp->VK->Prop)(b:TE)(t:TA):TE:=λB H Q=>b B H λx a=>tyV K T x a/\t B a λc d=>r x c d Q
variable {o e:AX}{es:Hs AX}{to:TE}{t:TA}{name:AQ}{apos cpos:Bq}{T id:IM}{r:V->Hs V->Hp->VK->Prop}
def zka(n:PlainAttrs T)(d:Slot T name id)(g:typeOf (.builtin id)=pure (.type "method_descriptor"))(p:MtR X id r)(q:PE X o to)(u:PA X (e::es) t)
  (b:attributeBase o name X.env (eval o X.env)=eval o X.env:=by rfl)
  (f:((backTo cpos (starEach (e::es) X.env)).all (λx=>!x.1)&&(backToKw cpos (keywordEach [] X.env)).all (λx=>x.1.isSome)
   && decide ((e::es).length+([]:Hs Br).length+(if ([]:Hs Br).isEmpty then 0 else 1)<30))=true:=by rfl)
  (c:(apos.endLine==cpos.line)=true:=by rfl) (w:starEach (e::es) X.env=(AB,eval e X.env)::starEach es X.env:=by rfl) (a:(backTo cpos (starEach es X.env)).any (·.1)=false:=by rfl):
  PE X (.Call (.Attribute o name apos) (e::es) [] cpos) (tBM X.K T r to t):=by intro C s B H Q I h;refine wpAny_Call_method_late b f c rfl (thn (q C s B H _ I h) λv y z=>?_);let#[x,A,j,l,D,E]:=z;let#[G,J]:=zm9 j l D;refine#[T,id,n,d,g,G,J,?_];have m:=u cpos C y B A _ j E;rw[w]at m ⊢;refine Ey (by show (AB || (backTo cpos (starEach es X.env)).any (·.1))=AB;rw[a]<;>rfl) (D7 ?_);exact thn m λL M #[N,O,U,Y,Z]=>p C M B O x N v L Q U l Y Z
/- xs.append(e),list.index on a module's tuple .. are MtR facts of 06m -/
end
def MtM(X:Cx)(id:IM)(r:V->Hs V->Hp->VK->Prop):Prop:=
 ∀(C:Hs (AJ×Bd)) (s:AK) (B:St) (H:Hp) (x:V) (a:Hs V) (v:AG) (b:Hs AG) (Q:VK),Inv X C B H s->RelV x v->Vals a b->r x a H Q ->
  Aa (model X.prog X.w) X.A (call (.builtin id) (v::b)) (EP X C B Q) X.xe s
theorem Vals.one:∀{x:V} {us:Hs AG},Vals [x] us->∃u,us=[u]/\RelV x u
  :=by intro x us h;rcases h with _|⟨r,q⟩;cases q;exact#[_,rfl,r]
theorem Vals.two:∀{x y:V} {us:Hs AG},Vals [x,y] us->∃u v,us=[u,v]/\RelV x u/\RelV y v
  :=by intro x y us h;rcases h with _|⟨r,q⟩;rcases q with _|⟨q,z⟩;cases z;exact#[_,_,rfl,r,q]
theorem Vals.rep{xs:Hs V}{us:Hs AG}(h:Vals xs us):∀k:Ht,Vals (AL k xs).flatten (AL k us).flatten
 |0=>.nil
 |k+1=>by rw[Al,Al,Bc,Bc];exact Vals.append h (Vals.rep h k)
def zec(a:Hs AG):∀(k:Ht) (b:Hs AG),
  Fq (λc d=>c++d) b.toArray (AL k a.toArray)=(b++(AL k a).flatten).toArray
 |0,b=>by simp
 |k+1,b=>by
  have e:b.toArray++a.toArray=(b++a).toArray:=by simp
  have f:(b++a)++(AL k a).flatten=b++(AL (k+1) a).flatten:=by rw[Al,Bc,B1]
  rw[<-f,<-zec a k (b++a),<-e,Al,CO]
section
variable {X:Cx}{B:Hs (AJ×Bd)}{A:St}{H:Hp}{s:AK}{l b:AJ}{xs ys zs:Hs V}
theorem Inv.lset{a its':Hs AG}{n:Ht}{f:IH AG->IH AG}{t':Ht}(I:Inv X B A H s)(b:H l=AA (.lst xs))
  (e:s.heap.get? l=AA {cls:=.type "list",data:=.seq a.toArray n}) (hf:f a.toArray=its'.toArray) (c:Vals ys its') (d:ys.length<=sizeLine):
  Inv X B A (upd H l (.lst ys)) {s with heap:=s.heap.update l (Ex f),toks:=t'}:=by have q:=PySem.IsL.update e f;rw[hf]at q;refine I.write (x:=l) (e:=l) (by rw[b];exact trivial) (.inl rfl) (λm u g j=>(DP s.heap (Ex f) (BW g)).trans j) #[_,q] ?_;exact#[d,its',_,c,q]
theorem Inv.lnew{a:Hs AG}{t':Ht}(I:Inv X B A H s)(b:Vals ys a)(c:ys.length<=sizeLine):
  Inv X B A (upd H s.heap.objs.size (.lst ys)) {s with heap:=s.heap.push {cls:=.type "list",data:=.seq a.toArray},toks:=t'}:=
 I.laid (λ_ _ q=>AR _ q) (AS _) #[c,a,0,b,Af _ rfl]
theorem Inv.fresh(I:Inv X B A H s):H s.heap.objs.size=none:=I.hok.fresh (AS _)
theorem Inv.lstM(I:Inv X B A H s)(b:H l=AA (.lst xs)):xs.length<=sizeLine/\∃(a:Hs AG) (n:Ht),Vals xs a/\xs.length=a.length/\s.heap.get? l=AA {cls:=.type "list",data:=.seq a.toArray n}:=by let#[z,a,n,r,e]:=I.hok l _ b;exact#[z,a,n,r,r.length,e]
def zoW{n:Ht}(h:n<=sizeLine):CV n=false:=by unfold CV;exact Hu ()
end
section
variable {X:Cx}
def ydd:V->Hs V->Hp->VK->Prop:=λx b H Q=>∃l a y,x=.ref l/\b=[y]/\H l=AA (.lst a)/\a.length<sizeLine/\Q .non (upd H l (.lst (a++[y])))
def zdK:MtM X "list.append" ydd:=by
 intro B s A H x g v j Q I c d h;let#[l,m,y,rfl,rfl,b,o,q]:=h
 cases c
 let#[u,rfl,f]:=d.one;let#[z,a,n,r,p,e]:=I.lstM b;refine CW FP #[_,e,rfl] F.entry_list_append (F.args_list_append_2 _ _) (PySem.list_append l a.toArray n u (by rw[AU];lia)) #[e,?_];refine#[.non,_,I.lset (its':=a++[u]) b e (by simp) (r.append (.cons f .nil)) ?_,rfl,q];rw[AO,Bi];lia
def ycX:V->Hs V->Hp->VK->Prop:=λx d H Q=>∃l b a c,x=.ref l/\d=[.ref b]/\H l=AA (.lst a)/\H b=AA (.lst c)/\a.length+c.length<=sizeLine/\Q .non (upd H l (.lst (a++c)))
def zhW:MtM X "list.extend" ycX:=by
 intro B s A H x D v E Q I j m h;let#[l,b,G,J,rfl,rfl,g,o,L,q]:=h
 cases j
 let#[u,rfl,p]:=m.one
 cases p
 let#[z,c,n,r,M,e]:=I.lstM g;let#[N,a,t,w,y,C]:=I.lstM o;have f:c.toArray.size+a.toArray.size<=sizeLine:=by rw[AU,AU];lia
 have d:¬(!c.toArray.isEmpty&&CV (c.toArray.size+a.toArray.size))=true:=by rw[zoW f,DQ];exact A4
 refine CW FQ #[_,e,rfl] F.entry_list_extend (F.args_list_extend_2 _ _)
  (AutoSeq1.list_extend_list_list_0 l c.toArray n b a.toArray t d (by rw[AU];lia) ()) #[e,C,?_]
 refine#[.non,_,I.lset (its':=c++a) g e (by simp) (r.append w) ?_,rfl,q];rw[AO];lia
def yhP:R2:=λx y H Q=>∃l b a c,x=.ref l/\y=.ref b/\H l=AA (.lst a)/\H b=AA (.lst c)/\a.length+c.length<=sizeLine/\∀p,H p=AD->Q (.ref p) (upd H p (.lst (a++c)))
def zjL:OpR X (binaryOp .Add) yhP:=by
 intro B s A H x y v u Q I d f h;let#[l,b,w,C,rfl,rfl,g,j,D,q]:=h
 cases d
 cases f
 let#[z,c,n,r,E,e]:=I.lstM g;let#[G,a,J,m,o,p]:=I.lstM j;refine PySem.P.add_list e p ?_ (by rw[AU,AU];lia);have t:c.toArray++a.toArray=(c++a).toArray:=by simp
 rw[t];exact#[.ref _,_,I.lnew (t':=s.toks) (r.append m) (by rw[AO];lia),rfl,q _ I.fresh]
def ygN:R2:=λx y H Q=>∃l k a,x=.ref l/\y=.int k/\H l=AA (.lst a)/\-(2^63)<=k/\k<2^63/\a.length*k.toNat<=sizeLine /\
 ∀p,H p=AD->Q (.ref p) (upd H p (.lst (AL k.toNat a).flatten))
def zkb{C:Type}(xs:Hs C)(k:Ht):(AL k xs).flatten.length=k*xs.length:=by
 induction k with
 |zero=>simp
 |succ k ih=>rw[Al,Bc,AO,ih,DR,Ht.add_comm]
def zmn:OpR X (binaryOp .Mult) ygN:=by
 intro B s A H x y v u Q I C D h;let#[l,k,O,rfl,rfl,E,G,J,w,q]:=h
 cases C
 let#[t,rfl]:=D;let#[z,b,n,r,L,e]:=I.lstM E;have d:b.toArray.size*k.toNat<=sizeLine:=by rw[AU,<-L];exact w
 have f:¬b.toArray.size*k.toNat > (2^63-1)/8:=by
  have:(sizeLine:Ht)<=(2^63-1)/8:=by decide
  lia
 have g:¬(!Builtin.List.listFitsIndex k)=true:=by rw[fitsIndex_both G J];exact A4
 have c:¬CV (b.toArray.size*k.toNat)=true:=by rw[zoW d];exact A4
 have j:Fq (λo p=>o++p) (Hs.toArray []) (AL (if b.toArray.isEmpty=AC then 0 else k.toNat) b.toArray)=(AL k.toNat b).flatten.toArray:=by
  have M:∀m:Ht,Fq (λo p=>o++p) (Hs.toArray []) (AL m b.toArray)=(AL m b).flatten.toArray:=λm=>by have:=zec b m [];rw[BG]at this;exact this
  rw[M]
  cases b with
  |nil=>simp
  |cons a Y=>rw[IA (by simp)]
 refine Bm (T:="list") (U:="int") ⋯ #[_,e,rfl] (λN=>Ch N k t) noFill_list_mul Cq BX repeat_list Cc.lookup
  (CW BX (Ch s k t) Cd (C8 _ _) (int___rmul___int_list k t l b.toArray n)
   #[e,rfl,#[_,e,rfl],CW F.slot_list_mul #[_,e,rfl] F.entry_list_mul (F.args_list_mul_2 _ _) (AutoListH.list___mul___list_int_3 l b.toArray n k t g f c) #[e,?_]])
 rw[j];exact#[.ref _,_,I.lnew (t':=s.toks) (r.rep k.toNat) (by rw[zkb,GM];exact w),rfl,q _ I.fresh]
end
section
variable {prog:Ae}{w:Aq}{A:Ar}{E:AG->AK->Prop}{s:AK}
end
section
variable {X:Cx}
end
end L2
namespace Att
open PySem PySem.W PySem.Calls PyProof.Rows
def zcE{P:Params}{h:BB}:∀(ns:Hs Hw) (vs:Hs AG),WellAll P h vs (ns.map Hr)->Eu vs ns:=by
 intro ns
 induction ns with
 |nil=>
  intro vs w;rw[BH]at w
  cases w
  exact .nil
 |cons n ns ih=>
  intro vs w;rw[AW]at w
  cases w with
  |cons a b=>
   cases a
   exact .cons _ _ (ih _ b)
def zhC{l:El}{n:Ht}(x:l.most=AA n){P:Params}{h:BB}{args:Hs WData}{c:Hs AG}
  (f:l.row.toRowW.claim.pre args=AC) (p:WellAll P h c args):
  ∃a u b,c=[Ak a]/\args=[WData.list (b.map Hr)]/\h.get? a=AA {cls:=.type "list",data:=.seq u.toArray}/\Eu u b/\b.length<=n:=by
 have t:WShape.hasAll [] args [.list .int]=true:=(pre_splitW f).1;have w:l.pre.holds [] {args:=args}=true:=(pre_splitW f).2;let#[d,r,rfl,y,z]:=hasAllW_cons t;obtain rfl:=hasAllW_nil z;let#[E,rfl,A]:=hasW_list y;let#[b,rfl]:=items_int A;have g:b.length<=n:=by
  unfold OpenLaw.pre at w;have m:(WTm.not (.lt (.lit (.int (n:Hw))) (.len (.arg 0)))).holds [] {args:=[.list (b.map .int)]}=true:=by have m:=(holds_andW w).1;rw[x]at m;exact m
  have o:=condW_of m (w_not (w_lt w_lit (w_len_list (w_arg rfl))));rw[Ai]at o;refine Ht.le_of_not_lt λq=>?_;have B:(n:Hw)<((b.length:Ht):Hw):=by lia
  first
   |(rw[Hv B]at o;exact IB o ⋯)
   |(simp at o;lia)
 cases p with
 |cons w1 C=>
  cases C
  cases w1 with
  |list D j=>exact#[_,_,b,rfl,rfl,D,zcE b _ j,g]
def zhb(l:El)(args:Hs WData):l.row.toRowW.claim.post args (.bool AC) args=true:=
 postW_of (r:=l.row.toRowW) (X:=(AC==AC))
  (show Hn [] (.bool AC) .bool=AC by first|rfl|decide|simp[Hn,WShape.arms,WShape.armsAll])
  (show (WTm.eq .res (.lit (.bool AC))).value [] {args:=args,res:=AA (.bool AC),after:=args}=AA (.bool (AC==AC))from w_eq_bool (w_res rfl) w_lit) rfl
theorem attach_call{l:El}{n:Ht}{q:Ae}{c:Hs AQ}{I:(AQ->Option AG)->BB->Prop}{J:Aq->BB->Prop}{d:DefRec}
  (Q:l.most=AA n) (A:d.params.defaults=[])
  (call:∀(w:Aq) (g b:AK) (x B:AQ->Option AG) (m:AJ) (o:Bd) (C y doc:AG) (a:AJ) (vs:Hs AG) (ns:Hs Hw),
   Ground q c [] I w g x B b.heap->J w b.heap ->
   b.heap.get? m=AA o->o.data=.func (docDef d.name d.params d.body d.scope C y doc)->b.heap.CodeRec y d.name->x d.name=AA (.ref m) ->
   b.heap.get? a=AA {cls:=.type "list",data:=.seq vs.toArray}->Eu vs ns->ns.length<=n->b.gens=(Hs.toArray []) ->
   codeAny (model l.prog w) callerA (.call (.ref m) #[[.ref a],[]]) (λr z=>r=.ok (.ret (.bool AC))/\OldK b.heap z.heap/\z.os=b.os/\DJ z.gens) b):
  Go q c I J l.row.toRowW d [] (λf vs=>Gz f vs):=by intro w g b x B G Y m o C y doc U kV X Z D L E hg M N as p O hrd H hlo;obtain rfl:U=.none:=Dflts.none L A;obtain rfl:kV=.none:=Dflts.noKw L;let#[a,vs,ns,rfl,rfl,t,j,u]:=zhC Q p H;refine enter_call (Dl (call w g b x B m o C y doc a vs ns G Y X (fd_plain Z) D E t j u hg) λr z hq=>?_);let#[rfl,h2,h3,h4]:=hq;exact#[.inl #[.bool AC,.bool AC,[],rfl,λ_=>rfl,.bool AC,zhb l _,λ_=>#[GN,λ_ hm=>(nomatch hm)]],h2,h3,h4]
section
variable {prog:Ae}{w:Aq}{A:Ar}{E:AG->AK->Prop}{s:AK}{K:AF}
end
end Att
namespace L2
open PySem PySem.Spec PyProof.Rows
def zdR:∀{vs:Hs AG} {ns:Hs Hw},Eu vs ns->Vals (ns.map V.int) vs
 |_,_,.nil=>.nil
 |_,_,.cons n t h=>.cons #[t,rfl] (zdR h)
def Only(H:Hp):Prop:=∀b,H b=AD \/ ∃o a,H b=AA (.frz o (.lst a))
def ziZ{P:Ae}{w:Aq}{K:AF}{A O:AQ->Option AG}{CX:CXT}{k:Ht}{Q a:AJ}{fd:BC}{x:AQ}{sp:Sp}{c:AK}{vs:Hs AG}{ns:Hs Hw}
  (KX:K.In c.heap) (B:c.heap.Ns mainGlobals A) (g:c.heap.Ns builtinsNs O) (U:∀x:AQ,x ≠ "__name__"->O x=bootBuiltins x) (C:c.heap.NoLimit) (hg:c.gens=(Hs.toArray []))
  (N:c.heap.get? a=AA {cls:=.type "list",data:=.seq vs.toArray}) (hi:Eu vs ns) (hl:ns.length<=sizeLine) (hr:yaG k callerA)
  (F:∀j:BB,K.In j->j.Ns mainGlobals A->yaW P w K A j CX k Q fd [x] sp) (y:∀(s:AK) (u:AG),Es s fd #[[u],[]] [(x,u)])
  (X:∀H:Hp,Only H->SqL K H a (ns.map V.int)->sp [.ref a] H (λv _=>v=.bl AC) λ_ _ _=>II)
  (Y:∀H e l,CX [] H c (λ_ _ _=>II) e l->II):
  codeAny (model P w) callerA (.call (.ref Q) #[[.ref a],[]]) (λr l=>r=.ok (.ret (.bool AC))/\OldK c.heap l.heap/\l.os=c.os/\DJ l.gens) c:=by
 have rv:=zdR hi;have lenV:=hi.length;have t:∀H:Hp,Only H->SqL K H a (ns.map V.int)->HOk P w H c.heap->(∀b,H b≠AD->b=a)->(H a≠AD->K.lookup a=AD) ->
   codeAny (model P w) callerA (.call (.ref Q) #[[.ref a],[]]) (λr l=>r=.ok (.ret (.bool AC))/\OldK c.heap l.heap/\l.os=c.os/\DJ l.gens) c:=by
  intro H hO hS D hA hK;have f:∀{b:AJ} {o:Bd},c.heap.get? b=AA o->H b=AD->(yck c.heap H).get? b=AA o:=λe n=>zi3 e n;have Z:∀{b:AJ} {o:Bd} {E:IH CP} {G:Ht},c.heap.get? b=AA o->o.data=.dict E G->H b=none:=λ{b o E G} e d=>by
   cases q:H b with
   |none=>rfl
   |some u=>
    have e':b=a:=hA b (by rw[q];simp);subst e';rw[N]at e;cases e;have d':Hh vs.toArray _=Data.dict E G:=d
    cases d'
  have p:∀{b:AJ} {m:AQ->Option AG},c.heap.Ns b m->(yck c.heap H).Ns b m:=λ{b m} #[o,E,G,e,d,r]=>#[o,E,G,f e (Z e d),d,r];have I:K.In (yck c.heap H):=λb o e=>f (KX b o e) (by
   cases q:H b with
   |none=>rfl
   |some u=>
    have e':b=a:=hA b (by rw[q];simp);subst e';rw[hK (by rw[q];simp)]at e;cases e)
  have hM:Mod K A (yck c.heap H):=#[I,p B,#[O,p g,U],let #[mc,h1,h2]:=C;#[mc,p h1,h2]];have e0:ycz P w K A (yck c.heap H) callerA [] c H:=#[rfl,hM,λb o e=>zkE e,HY (zg5 _ _),trivial,λb g=>IB (show b∈([]:Hs AJ)from g) (by simp),D,.of_eq hg];refine Dl ((F _ I (p B)).run callerA [] c H #[[.ref a],[]] [.ref a] [.ref a] _ _ hr e0 (y c (.ref a)) (.cons rfl .nil) (X H hO hS)) λr l h=>?_
  cases r with
  |error e=>exact(Y H e l h).elim
  |ok fl=>
   cases fl with
   |next=>exact BY h
   |brk=>exact BY h
   |cont=>exact BY h
   |ret u=>
    let#[v,H',os,J,un,L,r',q]:=h;have q':v=.bl true:=q;subst q';obtain rfl:u=Dp true:=r';refine#[rfl,OldK.of_keep λb o e=>?_,os,J]
    cases q:H b with
    |none=>exact un.keep b o e q (by intro z;exact IB (show b∈([]:Hs AJ)from z) (by simp)) (by simp)
    |some u=>
     rcases hO b with z|⟨ob,xs,z⟩
     .rw[q]at z;cases z
     .have z2:=un.frzs b ob _ z;let#[e1,_]:=D b _ z;let#[e2,_]:=L b _ z2;rw[e]at e1;cases e1;exact e2
 cases hk:K.lookup a with
 |some o=>
  have e:=KX a o hk;rw[N]at e
  cases e
  refine t (λ_=>AD) (λ_=>.inl rfl) (.inr #[_,vs.toArray,_,hk,rfl,rfl,rfl,by rw[AU,lenV];exact hl,by simpa using rv]) (λb u z=>by have M:(AD:Option HO)=AA u:=z;cases M) (λb z=>IB rfl z) λz=>IB rfl z
 |none=>
  refine t (λb=>if b=a then AA (.frz {cls:=.type "list",data:=.seq vs.toArray} (.lst (ns.map V.int)))else AD) (λb=>?_) (.inl (.inr #[{cls:=.type "list",data:=.seq vs.toArray},Hz rfl])) (λb u z=>?_) (λb z=>?_) λ_=>hk
  .by_cases g:b=a
   .exact .inr #[_,_,Hz g]
   .exact .inl (IA g)
  .by_cases g:b=a
   .have M:=(Hz g).symm.trans z
    cases M
    subst g;exact#[N,by rw[Ai];exact hl,vs,_,rv,N]
   .have M:=(IA g).symm.trans z
    cases M
  .by_cases g:b=a
   .exact g
   .exact IB (IA g) z
theorem walk_of{l:El}{n k:Ht}{q:Ae}{g:Hs AQ}{M:(AQ->Option AG)->BB->Prop}{E:Aq->BB->Prop}{d:DefRec}{K:Params->AF}{CX:Aq->CXT}{sp:Aq->Sp}{x:AQ}
  (N:l.most=AA n) (y:n<=sizeLine) (z:d.params.defaults=[]) (O:yaG k callerA)
  (Q:∀(w:Aq) (h:BB),E w h->(K w.params).In h)
  (F:∀(w:Aq) (m:AQ->Option AG) (t:AJ) (h:BB),(K w.params).In h->h.Ns mainGlobals m->m d.name=AA (.ref t) ->
   ∃A:BC,(∀(s:AK) (u:AG),Es s A #[[u],[]] [(x,u)]) /\
    ∀b:BB,(K w.params).In b->b.Ns mainGlobals m->yaW l.prog w (K w.params) m b (CX w) k t A [x] (sp w))
  (B:∀(w:Aq) (H:Hp) (a:AJ) (ns:Hs Hw),ns.length<=n->Only H->SqL (K w.params) H a (ns.map V.int)->sp w [.ref a] H (λv _=>v=.bl AC) λ_ _ _=>II)
  (C:∀(w:Aq) (H:Hp) (s:AK) (e:AG) (s':AK),CX w [] H s (λ_ _ _=>II) e s'->II):
  Go q g M E l.row.toRowW d [] (λf I=>Gz f I):=by refine Att.attach_call N z λw J p m mb t o pm cd doc a I ns G Y ho hd U D r j c X=>?_;have L:=Q w _ Y;let#[A,Z,hF]:=F w m t _ L G.T.g D;exact ziZ L G.T.g G.T.b G.T.builtins G.T.nolimit X r j (BK c y) O hF Z (λH hO hS=>B w H a ns c hO hS) λH e s'=>C w H p e s'
def inClass(s:Bf)(j:Ht):Stmt:=match s with
 |.ClassDef _ _ _ a _ _ _ _ _ _ _=>a.getD j (.Pass #[0,0,0,0])
 |_=>.Pass #[0,0,0,0]
def yaq(s:Bf):Arguments:=match s with
 |.FunctionDef _ a _ _ _ _ _ _ _ _=>a
 |_=>{posonlyargs:=[],args:=[],vararg:=AD,kwonlyargs:=[],kw_defaults:=[],kwarg:=AD,defaults:=[]}
def yad(s:Bf):Hs Stmt:=match s with
 |.FunctionDef _ _ b _ _ _ _ _ _ _=>b
 |_=>[]
def yC(s:Bf):Scope:=match s with
 |.FunctionDef _ _ _ _ _ _ a _ _ _=>a
 |_=>{kind:=.function,names:=[],isGenerator:=AB,isCoroutine:=AB}
abbrev CX0:CXT:=λ_ _ _ _ _ _=>II
abbrev E0:XK:=λ_ _ _=>II
structure Fun(K:AF)(x qual:AQ)(st:Bf)(f:AJ)(fd:BC):Prop where
 ex:∃(oc:AG) (od:Option AJ) (kV doc pm:AG) (an:Option AJ) (cdv ct:AG) (osl:IH (Option AG)),
  fd=Bb x qual (yaq st) (yad st) (yC st) .none kV doc pm an cdv ct/\K.lookup f=AA #[oc,od,.func fd,osl]/\CF K cdv qual=AC
 kp:Ax K (.ref f)=AC
section
variable {P:Ae}{w:Aq}{K:AF}{mg:AQ->Option AG}{base:BB}
theorem Fun.binds{x a:AQ}{st:Bf}{f:AJ}{c:BC}{ps:Hs AQ}(F:Fun K x a st f c)
  (h:∀(kV doc b:AG) (an:Option AJ) (cdv ct:AG) (us:Hs AG),us.length=ps.length->bindArgs (Bb x a (yaq st) (yad st) (yC st) .none kV doc b an cdv ct) #[us,[]]=pure (ps.zip us)):Binds K c ps []:=by let#[j,l,kV,doc,b,an,cdv,ct,d,rfl,lk,g]:=F.ex;exact .all (h kV doc b an cdv ct)
end
section
variable {X:Cx}
end
end L2
namespace WE
open PySem PySem.Spec PyProof.Rows
open AutoSeq1 (wpAny_loadPart')
section
variable {pg:Ae}{wd:Aq}{A:Ar}{Er:AG->AK->Prop}{s:AK}
def zb2{a t:AJ}{i:Ht}{xs:IH AG}{x:AG}{Q:AG->AK->Prop}(d:s.heap.IsTupleIter a t i)(g:s.heap.IsTuple t xs)(j:xs[i]?=AA x)
  (k:∀f,f.IsTupleIter a t (i+1)->C6 a s.heap f->Q x {s with heap:=f}):Aa (model pg wd) A (BN (.ref a)) Q Er s:=by let#[o,c,l,b]:=id d;let#[p,m,_,q,n]:=g;unfold BN;refine AI (B7 (name:=AE "__next__") d.typeIs CG (C2 CG d.typeIs Dm ?_ (De _)));show Aa _ _ (field (.ref a) 0 >>= _) _ _ _;refine AI (BQ c b (x:=.ref t) rfl ?_);show Aa _ _ (if (Ak t==Bv)=AC then _ else _) _ _ _;rw[IA (show ¬((Ak t==Bv)=AC)from λz=>A4 z)];show Aa _ _ (field (.ref a) 1 >>= _) _ _ _;refine AI (BQ c b (x:=.int i 0) rfl ?_);show Aa _ _ (seqItems? (.ref t) >>= _) _ _ _;refine AI (C3 m n ?_);erw[GO,j];refine AI (FY c b (by simp) (AZ #[x,rfl,AZ (k _ ?_ (F9 ..))]));refine#[_,FO _ c (Obj.isFreed_of_fields (Ft b _)),(Obj.cls_mapFields ..).trans l,?_];rw[Ft b];simp[rawInt]
def zeh{b t:AJ}{i:Ht}{xs:IH AG}{Q:AG->AK->Prop}(j:A.handled=AD)(c:s.heap.IsTupleIter b t i)(l:s.heap.IsTuple t xs)(n:xs[i]?=AD)
  (k:∀d e,Heap.ExtBut b s.heap d->(∃o,d.get? e=AA o/\o.cls=.type "StopIteration")->Er (.ref e) {s with heap:=d}):Aa (model pg wd) A (BN (.ref b)) Q Er s:=by
 let#[r,f,u,g]:=id c;let#[w,p,_,y,q]:=l;unfold BN;refine AI (B7 (name:=AE "__next__") c.typeIs CG (C2 CG c.typeIs Dm ?_ (De _)));show Aa _ _ (field (.ref b) 0 >>= _) _ _ _;refine AI (BQ f g (x:=.ref t) rfl ?_);show Aa _ _ (if (Ak t==Bv)=AC then _ else _) _ _ _;rw[IA (show ¬((Ak t==Bv)=AC)from λz=>A4 z)];show Aa _ _ (field (.ref b) 1 >>= _) _ _ _;refine AI (BQ f g (x:=.int i 0) rfl ?_);show Aa _ _ (seqItems? (.ref t) >>= _) _ _ _;refine AI (C3 p q ?_);erw[GO,n];refine AI (Eo (AI (FY f g (by simp) ?_)));show Aa _ _ (newExc (.type "StopIteration") [] >>= _) _ _ _;refine AI ?_;erw[newExc,newTuple];refine AI (BS ?_ (by size_fits));refine AI (m:=firstArgMember _ _) (wpAny_of_eq (a:=Bv) (by first|rfl|(erw[firstArgMember];rfl)) ?_);refine BS ?_ (by size_fits);erw[raiseNew];refine AI (wpAny_handled ?_);first|rw[show A.in1.handled=AD from j]|rw[j]
 refine AI (AZ (wpAny_throw ?_));exact k _ _ (((F9 ..).extBut.push _).push _) #[_,Af _ rfl,rfl]
end
theorem draws_tuple{pg:Ae}{wd:Aq}{A:Ar}(l:A.handled=AD)(a t:AJ)(d:t≠a)(xs:IH AG):
  Draws pg wd A a [a,t] xs.size (λi v=>xs[i]?=AA v) (λi h=>h.IsTupleIter a t i/\h.IsTuple t xs) where
 live:=λ_ _ st=>let #[o,g,_]:=st.1;#[o,g]
 frame:=λ_ _ _ st f=>#[let #[o,g,r]:=st.1;#[o,f a (by simp) o g,r],let #[o,g,r]:=st.2;#[o,f t (by simp) o g,r]]
 item:=λi s Q E j st m=>zb2 st.1 st.2 (x:=xs[i]) (by simp[j]) λn b c=>m _ n s.toks (by simp[j]) #[b,st.2.extBut c.extBut d] c
 done:=λs Q E st p=>zeh l st.1 st.2 (by simp) p
def zew(l:AJ)(xs:IH AG)(n:Ht)(m:Option AJ)(sl:IH (Option AG)):
  Hi (D4.«enumerate.__new__» #[[.type "enumerate",.ref l],[]]) (λ_ R s=>s.heap.get? l=AA {cls:=.type "tuple",dict:=m,data:=.seq xs n,slots:=sl} /\
   R (.ok (.ret (.ref (s.heap.push {cls:=.type "tuple_iterator",data:=.fields (Hs.toArray [.ref l,.int 0 0])}).objs.size)))
    {s with heap:=(s.heap.push {cls:=.type "tuple_iterator",data:=.fields (Hs.toArray [.ref l,.int 0 0])}).push {cls:=.type "enumerate",data:=.fields (Hs.toArray [.none,.bool AB,.ref s.heap.objs.size,rawInt 0,.none,.none])} }):=
 .of_wp λf w A R s h=>by
  let#[o,g,d,p,os]:=s;let#[a,h]:=h;have j:=sub_enumerate;have b:GP (Ge #[o,g,d,p,os]) l xs:=#[_,a,rfl,n,rfl]
  wp_walk using wpAny_loadPart' a
  refine wpAny_stack_any λst=>AZ ?_;split
  .rename_i c _ _ _ _ _
   cases (c==Dq "enumerate")
   .wp_walk using wpAny_loadPart' a,CJ b
    exact#[_,rfl,h]
   .wp_walk using wpAny_loadPart' a,CJ b
    exact#[_,rfl,h]
  .wp_walk using wpAny_loadPart' a,CJ b
   exact#[_,rfl,h]
theorem call_enumT{pg:Ae}{wd:Aq}{A:Ar}{j:AG->AK->Prop}{s:AK}{l:AJ}{xs:IH AG}{Q:AG->AK->Prop}(m:s.heap.IsTuple l xs)
  (k:∀a,IsEnum a (s.heap.objs.size+1) s.heap.objs.size 0 .none->a.IsTupleIter s.heap.objs.size l 0->a.objs.size=s.heap.objs.size+2 ->
   (∀b o,s.heap.get? b=AA o->a.get? b=AA o)->Q (.ref (s.heap.objs.size+1)) {s with heap:=a}):Aa (model pg wd) A (call (.type "enumerate") [.ref l]) Q j s:=by
 let#[#[c,dct,p,r],t,u,n,w]:=m
 cases (show c=.type "tuple" from u)
 cases (show p=.seq xs n from w)
 refine callType_new F.called_enumerate ⋯ (F.typeCall_enumerate_1 _) (F.newCall_enumerate_1 _) (λd=>F.args_object_init_2 d _) F.entry_enumerate_new (zew l xs n dct r) #[t,?_];have f:(s.heap.push {cls:=.type "tuple_iterator",data:=.fields (Hs.toArray [.ref l,.int 0 0])}).objs.size=s.heap.objs.size+1:=Bo ..;show _/\_;rw[f];have g:IsEnum ((s.heap.push {cls:=.type "tuple_iterator",data:=.fields (Hs.toArray [.ref l,.int 0 0])}).push {cls:=.type "enumerate",data:=.fields (Hs.toArray [.none,.bool AB,.ref s.heap.objs.size,rawInt 0,.none,.none])}) (s.heap.objs.size+1) s.heap.objs.size 0 .none:=by have q:=Af (s.heap.push {cls:=.type "tuple_iterator",data:=.fields (Hs.toArray [.ref l,.int 0 0])}) (o:={cls:=.type "enumerate",data:=.fields (Hs.toArray [.none,.bool AB,.ref s.heap.objs.size,rawInt 0,.none,.none])}) rfl;rw[f]at q;exact q
 exact#[#[_,g,rfl],k _ g #[_,AR _ (Af _ rfl),rfl,rfl] (by rw[Bo,f]) λb o y=>AR _ (AR _ y)]
end WE
namespace L2
open PySem PySem.Spec PyProof.Rows
section
variable {X:Cx}
def ydM(i j:Hw):Prop:=0<j/\j<10000000000000000000000000000000000000000000000000000000000000000000000
def ziI:OpR X (binaryOp .FloorDiv) (rI ydM λi j=>.int (i/j)):=opI λi j _ _ _ _ _ a q=>by
 let#[c,d]:=a;refine floordiv_int () (by rw[Hw.fdiv_eq_ediv_of_nonneg i ()];exact q) (.inl (PyProof.noPylong_of_log2 ?_));have b:j.natAbs≠0:=by lia
 refine Ad ((Ht.log2_lt b).mpr (?_:j.natAbs<2^250)) ⋯;have e:(10000000000000000000000000000000000000000000000000000000000000000000000:Ht)<2^250:=by decide
 lia
end
section
variable {X:Cx}{B:Hs (AJ×Bd)}{A:St}{H:Hp}{s:AK}{h':BB}
theorem Inv.turnLaid{t':Ht}{ch:Hs AJ}{T:AJ}{o:HO}(I:Inv X B A H s)(hf:∀b∈ch,ybn X B H b)(k:∀b u,b∉ch->s.heap.get? b=AA u->h'.get? b=AA u)
  (l:s.heap.objs.size<=T) (j:yaa X.prog X.w (upd H T o) h' T o):Inv X B A (upd H T o) {s with heap:=h',toks:=t'}:=by
 have d:H T=none:=I.hok.fresh l;have f:∀b u,H b=AA u->b∉ch:=λb u e z=>by
  have q:=(hf b z).1;rw[e]at q
  cases q
 refine I.step (g':=s.gens) (d':=s.drawn) (ch:=ch) (λb g=>?_) (λb u _ _ a e _=>k b u a e) (λb u _ _ a e _=>#[u.slots,k b u a e]) (λb u _ e n=>?_) (λb u a e=>#[u,k b u a e]) (λb t e=>?_) (λb u v e=>?_) (λb L e=>#[(Hs.toArray []),?_]) (λm w=>?_) (λb u e=>?_) I.bare
 .let#[M,x,N,y,C,D]:=hf b g;exact#[y,x,C,D]
 .rw[zl (Aw (Ad (A9 e) l))];exact n
 .rw[zl (zp e d)];exact e
 .rw[zl (zp e d)];exact e
 .rw[zl (zp e d),e];simp
 .let#[p,E,G,J,r]:=w;exact#[p,E,G,k _ p (λz=>(hf _ z).2.1 rfl) J,r]
 .by_cases g:b=T
  .subst g;rw[zq]at e
   cases e
   exact j
  .rw[zl g]at e;refine(I.hok b u e).stay (λc v a q=>k c v ?_ q) (λc q=>by rw[zl (zp q d)];exact q) λc t q=>by rw[zl (zp q d)];exact q
   rcases a with z|z
   .rw[z];exact f b u e
   .exact f c _ z
theorem Inv.turnedL{t':Ht}{ch:Hs AJ}(I:Inv X B A H s)(hf:∀b∈ch,ybn X B H b)(k:∀b u,b∉ch->s.heap.get? b=AA u->h'.get? b=AA u):Inv X B A H {s with heap:=h',toks:=t'}:=by
 have d:∀b u,H b=AA u->b∉ch:=λb u e z=>by
  have q:=(hf b z).1;rw[e]at q
  cases q
 refine I.step (g':=s.gens) (d':=s.drawn) (ch:=ch) (λb g=>?_) (λb u _ _ a e _=>k b u a e) (λb u _ _ a e _=>#[u.slots,k b u a e]) (λ_ _ _ _ n=>n) (λb u a e=>#[u,k b u a e]) (λ_ _ e=>e) (λ_ _ _ e=>e) (λb C e=>#[(Hs.toArray []),by rw[e];simp]) (λm j=>?_) (λb u e=>?_) I.bare
 .let#[D,l,E,o,p,t]:=hf b g;exact#[o,l,p,t]
 .let#[f,w,x,y,r]:=j;exact#[f,w,x,k _ f (λz=>(hf _ z).2.1 rfl) y,r]
 .refine(I.hok b u e).stay (λc v a q=>k c v ?_ q) (λ_ q=>q) λ_ _ q=>q;rcases a with z|z
  .rw[z];exact d b u e
  .exact d c _ z
end
def Ite(K:AF)(a:AJ):It:=
 #[λi H=>∃b x,SqT K H a b/\b[i]?=AA x,λi H x c=>∃T,H T=AD/\x=.ref T/\∀b y,SqT K H a b->b[i]?=AA y->c=upd H T (.tup [.int i,y]),λi H=>∃b,SqT K H a b/\b.length=i]
def zdg{h:BB}{a b:AJ}{o u:Bd}(x:h.get? a=AA o)(y:h.get? b=AA u)(z:o.cls≠u.cls):a≠b:=λe=>by
 subst e;rw[x]at y
 cases y
 exact z rfl
def zfL{P:Ae}{w:Aq}{K:AF}{es:Hs AX}{kk:Ht}{pos:Bq}(a e j:AJ):
  Turn P w K (.Tuple es kk pos) (Ite K a) [e,j] e (λi h=>(∃c,IsEnum h e j i c)/\h.IsTupleIter j a i) where
 mem:=by simp
 obj:=λi h st b n=>by
  let#[#[c,d],M,m,L,di]:=st;rcases AM.mp n with z|z
  .subst z;exact#[_,d,λv y=>nomatch y]
  .have z:b=j:=by simpa using z
   subst z;exact#[M,m,λv y=>by rw[di]at y;cases y]
 keep:=λi h h' st k=>by let#[#[c,d],M,m,r]:=st;exact#[#[c,k e (by simp) _ d],M,k j (by simp) _ m,r]
 item:=by
  intro X N hw hK hc i C s B H E I hf st hg;subst N hw hK;let#[xs,x,hq,hx]:=hg;let#[f,rv,p,hz]:=I.tuple hq;let#[#[c,d],O]:=st;let#[M,m,L,di]:=id O;let#[oa,Q,U,na,da]:=id p;have D:a≠j:=zdg Q m (by rw[U,L];exact λz=>IB (Ci z) ⋯);have l:e≠j:=zdg d m (by rw[L];exact λz=>IB (Ci z) ⋯);have G:e≠a:=zdg d Q (by rw[U];exact λz=>IB (Ci z) ⋯);have hl:=rv.length;have hil:i<f.toArray.size:=by have:=(A3.mp hx).1;simpa using (by lia:i<f.length)
  have W:=GQ (prog:=X.prog) (w:=X.w) (A:=X.A) (WE.draws_tuple (pg:=X.prog) (wd:=X.w) (A:=X.A.in1) (I.ok.hd hc) j a D f.toArray) e l (by simp[l,G]) (by simp);refine W.item i s _ E hil #[#[c,d],O,p] λT vals h1 tk N Y hT Z kp=>#[.ref T,rfl,?_];refine W.go es kk pos i T _ _ E Z λh2 st2 kp2=>?_;let#[t,y,hy,rfl]:=N;let#[u,hu,ru]:=rv.get hx;have ey:y=u:=Ac (hy.symm.trans (by simpa using hu));subst ey;have hch:∀b o,b∉[e,j]->s.heap.get? b=AA o->h2.get? b=AA o:=λb o n q=>kp2 b o n (kp b o n q);have hTw:=W.apart i T h1 Z;have new:yaa X.prog X.w (upd H T (.tup [.int i,x])) h2 T (.tup [.int i,x]):=by let#[o,g,r]:=hT;exact#[by show 2<=sizeLine;decide,[.int i t,y],.cons #[t,rfl] (.cons ru .nil),o,kp2 T o hTw g,r]
  have I2:=I.turnLaid (t':=tk) hf hch Y new;refine#[.ref T,_,I2,rfl,#[T,I.hok.fresh Y,rfl,λys z hy' J=>?_],#[st2.1,st2.2.1],λb n=>?_]
  .rw[I.tuple_inj hy' hq]at J;rw[hx]at J
   cases J
   rfl
  .rw[zl (λz:b=T=>hTw (z ▸ n))];exact(hf b n).1
 done:=by
  intro X N hw hK hc i C s B H E I hf st hg;subst N hw hK;let#[xs,hq,hx]:=hg;let#[f,rv,p,hz]:=I.tuple hq;let#[#[c,d],O]:=st;let#[M,m,L,di]:=id O;let#[oa,Q,U,na,da]:=id p;have D:a≠j:=zdg Q m (by rw[U,L];exact λz=>IB (Ci z) ⋯);have l:e≠j:=zdg d m (by rw[L];exact λz=>IB (Ci z) ⋯);have G:e≠a:=zdg d Q (by rw[U];exact λz=>IB (Ci z) ⋯);have hl:=rv.length;have W:=GQ (prog:=X.prog) (w:=X.w) (A:=X.A) (WE.draws_tuple (pg:=X.prog) (wd:=X.w) (A:=X.A.in1) (I.ok.hd hc) j a D f.toArray) e l (by simp[l,G]) (by simp);have en:f.toArray.size=i:=by simp;lia
  refine W.done s _ E (by rw[en];exact#[#[c,d],O,p]) λh2 tk kp=>#[rfl,I.turnedL (t':=tk) hf kp]
 self:=λ_ _ _ _ _ st q=>by let#[#[c,d],_]:=st;exact GR d q
def yhu(K:AF)(c:TA):TI:=λA H R=>c A H λd b=>∃a,d=[.ref a]/\(∃f,SqT K b a f)/\R (Ite K a) b
def zja{X:Cx}{a:AX}{es:Hs AX}{n:Ht}{o:Bq}{j:TA}{p pos:Bq}(r:Gl X "enumerate")(t:X.mg "enumerate"=AD)(w:PA X [a] j)(x:starEach [a] X.env=[(AB,eval a X.env)]:=by rfl):
  PI X (.Tuple es n o) (.Call (.Name "enumerate" p) [a] [] pos) (yhu X.K j):=by
 intro B s A H R I h;refine B6 (zc0 I r t boot_enumerate ?_);refine Bz (thn (w pos B s A H _ I h) λQ c y=>?_) x rfl;let#[U,C,f,D,E]:=y;let#[l,rfl,#[Y,G],q]:=E;let#[u,rfl,J]:=Vals.one D
 cases (show u=Ak l from J)
 let#[g,Z,pt,hz]:=f.tuple G;refine WE.call_enumT (show c.heap.IsTuple l g.toArray from pt) λh1 m L M N=>?_;refine GR m ?_;refine#[_,[c.heap.objs.size+1,c.heap.objs.size],_,_,C,rfl,f.kept (t':=c.toks) N,zfL l _ c.heap.objs.size,#[#[_,m],L],λb O=>?_,q];have d:c.heap.objs.size<=b:=by
  rcases AM.mp O with z|z
  .subst z;exact DF _
  .have z:b=c.heap.objs.size:=by simpa using z
   subst z;exact AS _
 exact f.fpOk d (f.hok.fresh d)
abbrev No:AG->AK->Prop:=λ_ _=>II
abbrev ydU(a:Hs AX)(env:Env):HR Hy:=forIn a AC λc r=>if r=AC then do let ok <-isTrue c env (eval c env);pure (Gh ok)else pure (Gh r)
section
variable {pg:Ae}{wd:Aq}{A:Ar}{R:Fk->AK->Prop}{s:AK}
def zgn{b tg a:AX}{c:Hs AX}{sc:BU}{pos:Bq}{j d:AG}{env:Env}(I:Ht->AK->Prop)
  (g:∀n s,I n s->Aa (model pg wd) A (pyNext j) (λr l=>match r with
   |none=>R (.ok .next) l
   |some v=>Aa (model pg wd) A (letOwnedTupleGo tg j v) (λ_ p=>Aa (model pg wd) A (assign tg env v) (λ_ q=>Aa (model pg wd) A (ydU c env) (λok o=>
     if ok=AC then Aa (model pg wd) A (eval b env) (λx t=>Aa (model pg wd) A (call (.builtin "list.append") [d,x]) (λ_ u=>∃m,m<n/\I m u) No t) No o
     else ∃m,m<n/\I m o) No q) No p) No l) No s)
  (n:Ht) (h:I n s):codeAny (model pg wd) A (.compLoop (.ListComp b [#[tg,a,c,0]] sc pos) 0 j d env) R s:=by
 refine codeAny_loop rfl I (λn s z=>?_) n h;show Aa _ A ((compTurn (.ListComp b [#[tg,a,c,0]] sc pos) 0 j d env).onRaise (λx=>do noteFrame x env;theTreesLotGoes x)) _ _ s;refine wpAny_noted ?_;rw[compTurn_list];refine AI (D3 (AI (Bj (g n s z) (λr l w=>?_) λ_ _ f=>f.elim)))
 cases r with
 |none=>exact AZ w
 |some v=>
  refine AI (Bj w (λ_ p B=>AI (Bj B (λ_ q C=>AI (Bj C (λok o y=>?_) λ_ _ f=>f.elim)) λ_ _ f=>f.elim)) λ_ _ f=>f.elim)
  cases ok with
  |false=>exact AZ #[rfl,y]
  |true=>exact AI (AI (Bj y (λx t D=>AI (Bj D (λ_ u E=>AZ (AZ #[rfl,E])) λ_ _ f=>f.elim)) λ_ _ f=>f.elim))
end
def yap(env:Env)(r:Hs (AQ×AJ))(x:AQ×DM):Hs (AQ×AJ):=if x.2=.free then(x.1,(env.cells.lookup x.1).getD 0)::r else r
def yd7(sc:BU)(env:Env):Hs (AQ×AJ):=sc.names.foldl (yap env) []
def zf9{A B:Type}{l:Hs A}{f:A->B->HR (ForInStep B)}{g:B->A->B}(h:∀x∈l,∀c,f x c=pure (.yield (g c x))):∀c:B,forIn l c f=pure (l.foldl g c):=by
 induction l with
 |nil=>exact λ_=>rfl
 |cons x l ih=>
  intro c;rw[FH,h x A6,pure_bind,CO];exact ih (λy a=>h y (AT _ a)) (g c x)
def zbd{sc:BU}{env:Env}(hf:∀y∈sc.names,y.2=.free->∃c,env.cells.lookup y.1=AA c):closureFor sc env=pure (yd7 sc env):=by
 erw[closureFor];rw[zf9 (g:=yap env) (λx f c=>?_)]
 .rfl
 .let#[n,k]:=x
  by_cases b:k=.free
  .subst b;let#[a,j]:=hf _ f rfl;have d:env.cells.lookup n=AA a:=j;simp[yap,cellOf,d]
  .have l:(k==Ca)=false:=by simpa using b
   simp[yap,b,l]
def zdf{env:Env}:∀(l:Hs (AQ×DM)) (r:Hs (AQ×AJ)),(∀y∈l,y.2=.free->∃c,env.cells.lookup y.1=AA c)->(∀x c,r.lookup x=AA c->env.cells.lookup x=AA c) ->
  ∀x c,(l.foldl (yap env) r).lookup x=AA c->env.cells.lookup x=AA c
 |[],r,_,h=>h
 |y::l,r,hf,h=>by
  refine zdf l (yap env r y) (λz g=>hf z (AT _ g)) λx c e=>?_;unfold yap at e
  by_cases b:y.2=.free
  .let#[a,f]:=hf y A6 b;rw[Hz b,B8]at e
   cases d:x==y.1 with
   |true=>
    rw[d,f]at e;rw[eq_of_beq d,f];exact e
   |false=>
    rw[d]at e;exact h x c e
  .rw[IA b]at e;exact h x c e
def zcz{env:Env}{x:AQ}:∀(l:Hs (AQ×DM)) (r:Hs (AQ×AJ)),(∃c,r.lookup x=AA c)->∃c,(l.foldl (yap env) r).lookup x=AA c
 |[],r,h=>h
 |y::l,r,h=>by
  refine zcz l (yap env r y) ?_;unfold yap
  by_cases a:y.2=.free
  .rw[Hz a,B8]
   cases b:x==y.1 with
   |true=>exact#[_,rfl]
   |false=>exact h
  .rw[IA a];exact h
def zb0{env:Env}:∀(l:Hs (AQ×DM)) (r:Hs (AQ×AJ)),∀y∈l,y.2=.free->∃c,(l.foldl (yap env) r).lookup y.1=AA c
 |[],_,y,a,_=>nomatch a
 |z::l,r,y,a,b=>by
  rcases AM.mp a with e|e
  .subst e;refine zcz l (yap env r y) ?_;unfold yap;rw[Hz b,B8,IP];exact#[_,rfl]
  .exact zb0 l (yap env r z) y e b
theorem mem_of_lookup{A:Type}{x:AQ}{k:A}:∀{l:Hs (AQ×A)},l.lookup x=AA k->(x,k)∈l
 |[],h=>nomatch h
 |y::l,h=>by
  rw[B8]at h
  cases a:x==y.1 with
  |true=>
   rw[a]at h
   cases h
   rw[eq_of_beq a];exact A6
  |false=>
   rw[a]at h;exact AT _ (mem_of_lookup h)
def yde(env:Env)(x:AQ)(k:DM):NameKind:=if (k==.free&&env.scope.kind==.function&&env.kindOf x==AA .cell)=AC then .cell else k
def zc5{sc:BU}{env:Env}(x:AQ):(relabel sc env).names.lookup x=(sc.names.lookup x).map (yde env x):=by
 unfold relabel;show (sc.names.map λ(n,k)=>if (k==Ca&&env.scope.kind==.function&&env.kindOf n==AA .cell)then(n,Ff)else(n,k)).lookup x=_
 induction sc.names with
 |nil=>rfl
 |cons y l ih=>
  let#[n,k]:=y;rw[AW];show CT x ((if (k==Ca&&env.scope.kind==.function&&env.kindOf n==AA .cell)=AC then(n,Ff)else(n,k))::_)=_
  cases b:x==n with
  |true=>
   have e:=eq_of_beq b;subst e
   by_cases a:(k==Ca&&env.scope.kind==.function&&env.kindOf x==AA .cell)=AC
   .rw[Hz a,B8,IP];simp[yde,a]
   .rw[IA a,B8,IP];simp[yde,a]
  |false=>
   by_cases a:(k==Ca&&env.scope.kind==.function&&env.kindOf n==AA .cell)=AC
   .rw[Hz a];erw[B8,b];exact ih
   .rw[IA a];erw[B8,b];exact ih
structure CI where
 C:AJ
 s:AK
 H:Hp
 fp:Hs AJ
def cxC(X:Cx)(sc:BU)(NC:Hs AQ)(j:CI):Cx where
 prog:=X.prog
 w:=X.w
 K:=X.K
 mg:=X.mg
 base:=X.base
 A:=X.A
 N:=NC
 s₀:=j.s
 H₀:=j.H
 env:=compEnvC sc (yd7 sc X.env) j.C X.env
 outer:=X.stack
 stack:=X.stack
 ex:=j.fp
 fn:=λ_=>AB
 calm:=X.calm
 pn:=[]
 xe:=No
def inn(slots:Hs (Option Ht))(A:St):St:=slots.map λo=>o.bind λj=>(A[j]?).join
structure yai(X:Cx)(sc:BU)(NC:Hs AQ)(slots:Hs (Option Ht)):Prop where
 kind:sc.kind=.function
 names:∀y∈sc.names,y.2=.local->sc.names.lookup y.1=AA .local
 nocell:∀y∈sc.names,y.2 ≠ .cell
 free:∀y∈sc.names,y.2=.free->X.env.scope.names.lookup y.1=AA .cell
 slot:∀(i:Ht) (x:AQ) (j:Ht),NC[i]?=AA x->slots[i]?=AA (AA j)->X.N[j]?=AA x/\sc.names.lookup x=AA .free
 len:slots.length=NC.length
def zpi{X:Cx}{sc:BU}{NC:Hs AQ}{slots:Hs (Option Ht)}(N:Hs AQ)(d:BU)(f:X.N=N)(g:X.env.scope=d)(kind:sc.kind=.function)
  (names:∀y∈sc.names,y.2=.local->sc.names.lookup y.1=AA .local) (a:∀y∈sc.names,y.2 ≠ .cell) (b:∀y∈sc.names,y.2=.free->d.names.lookup y.1=AA .cell)
  (c:∀p∈NC.zip slots,(p.2.all λj=>decide (N[j]?=AA p.1/\sc.names.lookup p.1=AA .free))=AC) (len:slots.length=NC.length):yai X sc NC slots:=by subst f g;refine#[kind,names,a,b,λi x j l m=>?_,len];have n:(x,AA j)∈NC.zip slots:=A1 (i:=i) (by rw[Hs.getElem?_zip_eq_some];exact#[l,m]);have:=c _ n;simpa using this
section
variable {X:Cx}{sc:BU}{NC:Hs AQ}{slots:Hs (Option Ht)}{D:Hs (AJ×Bd)}{A:St}{H:Hp}{s:AK}
theorem yai.cells(O:yai X sc NC slots)(ok:X.Ok):∀y∈sc.names,y.2=.free->∃c,X.env.cells.lookup y.1=AA c:=λy a b=>ok.has y.1 (.inl (O.free y a b))
theorem yai.sub(O:yai X sc NC slots)(ok:X.Ok):∀x c,(yd7 sc X.env).lookup x=AA c->X.env.cells.lookup x=AA c:=zdf sc.names [] (O.cells ok) λ_ _ e=>nomatch e
theorem yai.rel(O:yai X sc NC slots)(ok:X.Ok){x:AQ}(h:sc.names.lookup x=AA .free):(relabel sc X.env).names.lookup x=AA .cell:=by rw[zc5,h];have e:X.env.kindOf x=AA .cell:=O.free _ (mem_of_lookup h) rfl;simp[yde,ok.kind,e]
def zfJ(I:Inv X D A H s)(O:yai X sc NC slots){C:Hs AJ}(hf:∀b∈C,ybn X D H b)(E:∀b∈C,∃o,s.heap.get? b=AA o){n:BB}{t':Ht}{m:AQ->Option AG}(G:n.Ns s.heap.objs.size m)
  (g:∀b o,s.heap.get? b=AA o->n.get? b=AA o):Inv (cxC X sc NC #[s.heap.objs.size,s,H,C]) [] (inn slots A) H {s with heap:=n,toks:=t'}:=by
 have sub:=O.sub I.ok;have J:∀b,b≠X.env.locals->b∉X.fs->b∉frs X.stack:=λb n h2 d=>(AM.mp (I.stkSub b d)).elim n h2;have ltC:∀x c,(yd7 sc X.env).lookup x=AA c->c<s.heap.objs.size:=λx c e=>by let#[v,q]:=I.cell x c (sub x c e);exact q.lt
 refine#[#[I.ok.mod,O.kind,I.ok.glob,I.ok.blt,AS _,λx y c L M=>I.ok.inj x y c (sub x c L) (sub y c M),λx hx=>?_,λ_ _ z=>(nomatch z),I.ok.hd,I.ok.frames,.inl rfl,λb d=>#[?_,λx c e=>(hf b d).2.2.2.2.1 x c (sub x c e)],I.bs,BK I.ok.bsz I.sz,λb o e d=>?_,λb d=>J b (hf b d).2.1 (hf b d).2.2.1,I.stack,I.stkFree],
  rfl,I.bare,Un.kept g,#[m,G,λi x v L M e3=>?_],λx c e=>?_,I.hok.fresh (AS _),λx c e=>I.freeC x c (sub x c e),λp hp=>(nomatch hp),I.hok.kept g,?_]
 .have f:(relabel sc X.env).names.lookup x=AA .cell \/ (relabel sc X.env).names.lookup x=AA .free:=hx;rw[zc5]at f
  cases q:sc.names.lookup x with
  |none=>
   rw[q]at f;rcases f with z|z<;>cases z
  |some k=>
   have Z:=mem_of_lookup q;have N:k=.free:=by
    rw[q]at f;have nc:=O.nocell _ Z
    by_cases g:k=.free
    .exact g
    .exfalso;have d:(k==Ca)=false:=by simpa using g
     rcases f with z|z
     .simp[yde,d]at z;exact nc z
     .simp[yde,d]at z;exact g z
   subst N;exact zb0 sc.names [] _ Z rfl
 .let#[o,e]:=E b d;exact Aw (A9 e)
 .rcases (hf b d).2.2.2.1 with z|z
  .exact I.ok.noex b o e z
  .exact IB (Ad (A9 e) (BK I.ok.bsz z)) (Cy _)
 .obtain⟨j,e4,e5⟩:∃j,slots[i]?=AA (AA j)/\A[j]?=AA (AA v):=by
   have a:(slots.map λo=>o.bind λj=>(A[j]?).join)[i]?=AA (AA v):=M;rw[Bs]at a
   cases q:slots[i]? with
   |none=>
    rw[q]at a
    cases a
   |some o=>
    rw[q]at a
    cases o with
    |none=>cases a
    |some j=>
     refine#[j,rfl,?_];have l:(A[j]?).join=AA v:=Ac a
     cases q2:A[j]? with
     |none=>
      rw[q2]at l
      cases l
     |some w=>
      rw[q2]at l;have t:w=AA v:=l;rw[t]
  let#[l,t]:=O.slot i x j L e4;have kc:X.env.scope.names.lookup x=AA .cell:=O.free _ (mem_of_lookup t) rfl;let#[m0,hn0,hl]:=I.loc;let#[u,r,lk]:=hl j x v l e5 (.inr (.inl kc));refine#[u,r,.inr #[.inl (O.rel I.ok t),?_]];rcases lk with⟨z,_⟩|⟨_,c,hc,o,Q,U⟩
  .rw[show X.env.kindOf x=AA .cell from kc]at z
   cases z
  .let#[Y,B]:=zb0 (env:=X.env) sc.names [] _ (mem_of_lookup t) rfl;have e8:Y=c:=Ac ((sub x Y B).symm.trans hc);subst e8;exact#[Y,B,o,g _ _ Q,U]
 .let#[v,o,Q,U]:=I.cell x c (sub x c e);exact#[v,o,g _ _ Q,U]
 .show (slots.map λo=>o.bind λj=>(A[j]?).join).length=NC.length;rw[Ai,O.len]
def zfV(I:Inv X D A H s){f:Hs AJ}(hf:∀b∈f,ybn X D H b){C:AJ}(r:s.heap.objs.size<=C){pl:Hs (AJ×Bd)}{t:St}{g:Hp}{s':AK}(J:Inv (cxC X sc NC #[C,s,H,f]) pl t g s')
  {p:BB} (j:C6 C s'.heap p):Inv X D A g {s' with heap:=p}:=by
 have m:∀b o,s.heap.get? b=AA o->b≠C:=λb o e=>Aw (Ad (A9 e) r);have B:Un (frs X.stack) f H g s.heap s'.heap:=J.base;have l:g C=none:=J.free;refine I.call' (ch:=f) J.os #[λb o e n a d=>(j.2 b (m b o e)).trans (B.keep b o e n a d),λb o e n a d=>?_,B.free,λb o e d=>?_,B.tups,B.frzs,B.tbls] (λb u e=>?_) J.bare λb a=>#[(hf b a).2.2.2.1,(hf b a).2.1,(hf b a).2.2.2.2.1,(hf b a).2.2.2.2.2]
 .let#[w,q]:=B.slot b o e n a d;exact#[w,(j.2 b (m b o e)).trans q]
 .let#[x,q]:=B.there b o e d;exact#[x,(j.2 b (m b o e)).trans q]
 .refine(J.hok b u e).stay (λc v y q=>(j.2 c λz=>?_).trans q) (λ_ q=>q) λ_ _ q=>q;subst z;rcases y with z|z
  .rw[z,e]at l
   cases l
  .rw[z]at l
   cases l
end
def PTs(X:Cx)(a:Hs AX)(t:TT):Prop:=
 ∀(C:Hs (AJ×Bd)) (s:AK) (B:St) (H:Hp) (Q:Hy->Hp->Prop),Inv X C B H s->t B H Q->Aa (model X.prog X.w) X.A (ydU a X.env) (TP X C B Q) X.xe s
def yfn:TT:=λ_ H Q=>Q AC H
def zhA{X:Cx}:PTs X [] yfn:=λ_ _ _ H _ I h=>wpAny_tests_nil #[H,I,h]
def zk7{X:Cx}{c:AX}{t:TT}(h:PT X c t):PTs X [c] t:=λB s A H Q I q=>wpAny_tests_one (h B s A H Q I q)
def ycq(J:It)(D:AJ)(g:TG)(ti:TT)(q:TE)(W:Ht->Ht->St->Hs V->Hp->Prop)(Q:Hp->Prop):Prop:=
 ∀i m Ac a c,W i m Ac a c->c D=AA (.lst a)/\((J.stop i c/\Q c) \/ (J.go i c/\a.length<sizeLine/\∃N:St->Hs V->Hp->Prop,(∀f d j,N f d j->∃l,l < m/\W (i+1) l f d j) /\
  ∀x n,J.yld i c x n->g x Ac n λA4 r=>ti A4 r λb o=>if b=AC then q A4 o λy p=>p D=AA (.lst a)/\N A4 (a++[y]) (upd p D (.lst (a++[y])))else N A4 a o))
def yb2(slots:Hs (Option Ht))(b:TI)(g:TG)(ti:TT)(c:TE):TE:=λA H Q=>b A H λJ a=>∀D,a D=AD->∃W:Ht->Ht->St->Hs V->Hp->Prop,(∃m,W 0 m (inn slots A) [] (upd a D (.lst [])))/\ycq J D g ti c W (Q (.ref D))
section
variable {X:Cx}{sc:BU}{NC:Hs AQ}{slots:Hs (Option Ht)}{elt tg iter:AX}{ifs:Hs AX}{pos:Bq}{g:TG}{ti:TT}{te:TE}
def ziE(hc:X.calm=AC)(hg:∀j,PG (cxC X sc NC j) tg g)(ht:∀j,PTs (cxC X sc NC j) ifs ti)(he:∀j,PE (cxC X sc NC j) elt te){a:CI}{it D:AJ}{Z:Ht->BB->Prop}{J:It}
  {W:Ht->Ht->St->Hs V->Hp->Prop} {Q:Hp->Prop} {R:Fk->AK->Prop} {s:AK} {Bc:St} {ys:Hs V} {H:Hp} (T:Turn X.prog X.w X.K tg J a.fp it Z)
  (I:Inv (cxC X sc NC a) [] Bc H s) (hf:∀b∈a.fp,ybn (cxC X sc NC a) [] H b) (st:Z 0 s.heap) {m:Ht} (w0:W 0 m Bc ys H) (step:ycq J D g ti te W Q)
  (fin:∀A c L,Inv (cxC X sc NC a) [] A c L->Q c->R (.ok .next) L):
  codeAny (model X.prog X.w) X.A (.compLoop (.ListComp elt [#[tg,iter,ifs,0]] sc pos) 0 (.ref it) (.ref D) (cxC X sc NC a).env) R s:=by
 have l:∀{c:Hp},(∀b∈a.fp,c b=AD)->∀b∈a.fp,ybn (cxC X sc NC a) [] c b:=λhn b p=>#[hn b p,(hf b p).2];refine zgn (λn L=>∃i A B c,Inv (cxC X sc NC a) [] A c L/\Z i L.heap/\(∀b∈a.fp,c b=AD)/\W i n A B c) ?_ m #[0,Bc,ys,H,I,st,λb p=>(hf b p).1,w0]
 rintro n s3 ⟨i,B3,C,H3,I3,M,O,w3⟩
 let#[hD,q]:=step i n B3 C H3 w3;rcases q with⟨stop,qn⟩|⟨go,hz,N,hN,U⟩
 .refine thn (T.done (cxC X sc NC a) rfl rfl rfl hc i [] s3 B3 H3 No I3 (l O) M stop) λr s4 f=>?_;let#[hr,I4]:=f;subst hr;exact fin B3 H3 s4 I4 qn
 .refine thn (T.item (cxC X sc NC a) rfl rfl rfl hc i [] s3 B3 H3 No I3 (l O) M go) λr s4 f=>?_;let#[u,hr,h4]:=f;subst hr;refine thn h4 λ_ s5 f=>?_;let#[x,H5,I5,r5,y5,E,fr5]:=f;have I5':=I5.pinned (l fr5) (T.obj _ _ E);refine thn (hg a _ s5 B3 H5 x u _ I5' r5 (U x H5 y5)) λ_ s6 f=>?_;let#[B6,H6,I6,q6]:=f;refine thn (ht a _ s6 B6 H6 _ I6 q6) λok s7 f=>?_;let#[H7,I7,q7]:=f;have again:∀{B8:St} {t:Hs V} {w:Hp} {G:AK},Inv (cxC X sc NC a) ([]++ybl a.fp s5.heap) B8 w G->N B8 t w->∃m,m<n/\∃i A B c,Inv (cxC X sc NC a) [] A c G/\Z i G.heap/\(∀b∈a.fp,c b=AD)/\W i m A B c:=λ{B8 t w G} Y n8=>by let#[m',hm,w8]:=hN B8 t w n8;refine#[m',hm,i+1,B8,t,w,Y.unpinned,T.keep _ _ _ E λb p o e=>(Y.pin (b,o) (Av _ (Av _ (zbn p e)))).1,λb p=>?_,w8];let#[o,e,d]:=T.obj _ _ E b p;exact(Y.pin (b,o) (Av _ (Av _ (zbn p e)))).2.1
  cases ok with
  |false=>
   rw[IA A4]at q7 ⊢;exact again I7 q7
  |true=>
   rw[Hz rfl]at q7 ⊢;refine thn (he a _ s7 B6 H7 _ I7 q7) λy G f=>?_;let#[v,w,Y,r8,hD8,q8]:=f;refine thn (zdK (X:=cxC X sc NC a) _ G B6 w (.ref D) [v] (.ref D) [y] (λz c=>z=.non/\c=upd w D (.lst (C++[v]))) Y rfl (.cons r8 .nil) #[D,C,v,rfl,rfl,hD8,hz,rfl,rfl]) λz s9 f=>?_;let#[zv,H9,I9,r9,e1,e2]:=f;subst e2;exact again I9 q8
def zc1(hc:X.calm=AC)(O:yai X sc NC slots)(hg:∀j,PG (cxC X sc NC j) tg g)(ht:∀j,PTs (cxC X sc NC j) ifs ti)(he:∀j,PE (cxC X sc NC j) elt te){E:Hs (AJ×Bd)}{s:AK}{B:St}{H:Hp}(I:Inv X E B H s)
  {it:AJ} {u:Hs AJ} {tn:Ht->BB->Prop} {J:It} (T:Turn X.prog X.w X.K tg J u it tn) (st:tn 0 s.heap) (hf:∀b∈u,ybn X E H b) {Q:VK}
  (h:∀D,H D=AD->∃W:Ht->Ht->St->Hs V->Hp->Prop,(∃m,W 0 m (inn slots B) [] (upd H D (.lst [])))/\ycq J D g ti te W (Q (.ref D))) {RR:AG->AJ->Fk->AK->Prop}
  (fin:∀D C s' M,Q (.ref D) M->(∃o m,s'.heap.get? C=AA o/\s'.heap.Ns C m/\∀v,o.data ≠ .cell v)->ybn X E M C->(∀h2,C6 C s'.heap h2->Inv X E B M {s' with heap:=h2})->RR (.ref D) C (.ok .next) s'):
  Aa (model X.prog X.w) X.A (newList []) (λN c=>Aa (model X.prog X.w) X.A (newFunctionEnv sc X.env.globals (yd7 sc X.env) [] X.env.qual AD .none (AA X.env)) (λn s4=>
   codeAny (model X.prog X.w) X.A (.compStart (.ListComp elt [#[tg,iter,ifs,0]] sc pos) 0 (.ref it) N {n with scope:=relabel sc X.env}) (RR N n.locals) s4) X.xe c) X.xe s:=by
 refine BS (wpAny_newFunctionEnv O.nocell (by intro y hy;simp at hy) (λh1 f l=>?_) O.kind);dsimp only at f l ⊢;have hDn:H s.heap.objs.size=none:=I.hok.fresh (AS _);let#[W,#[m,w0],step]:=h s.heap.objs.size hDn;obtain⟨c,w⟩:∃x:AK,x=({s with heap:=s.heap.push {cls:=.type "list",dict:=AD,data:=.seq ([]:Hs AG).toArray} }:AK):=#[_,rfl];have e3:c.heap=s.heap.push {cls:=.type "list",dict:=AD,data:=.seq ([]:Hs AG).toArray}:=by rw[w]
 rw[<-e3]at f l;have U:∀b o,s.heap.get? b=AA o->c.heap.get? b=AA o:=λb o e=>by rw[e3];exact AR _ e
 have I3:Inv X E B (upd H s.heap.objs.size (.lst [])) c:=by have q:=I.laid (a:=s.heap.objs.size) (o:=.lst []) (h':=c.heap) (t':=s.toks) U (AS _) #[Ab _,[],_,.nil,by rw[e3];exact Af _ rfl];rw[w]at q ⊢;exact q
 have A:∀b∈u,ybn X E (upd H s.heap.objs.size (.lst [])) b:=λb d=>by let#[o,e,_]:=T.obj _ _ st b d;refine#[?_,(hf b d).2];rw[zl (Aw (A9 e))];exact(hf b d).1
 have G:tn 0 c.heap:=T.keep _ _ _ st λb _ o e=>U b o e;have hob:∀b∈u,∃o,c.heap.get? b=AA o:=λb d=>by let#[o,e,_]:=T.obj _ _ G b d;exact#[o,e]
 have L:∀b o,c.heap.get? b=AA o->h1.get? b=AA o:=λb o e=>l.extBut b o (Aw (A9 e)) (AR _ e);have J1:=zfJ (t':=c.toks+([]:Hs (AQ×AG)).length) I3 O A hob f L;have hfc:∀b∈u,ybn (cxC X sc NC #[c.heap.objs.size,c,upd H s.heap.objs.size (.lst []),u]) [] (upd H s.heap.objs.size (.lst [])) b:=λb d=>
  #[(A b d).1,(J1.ok.exf b d).1,J1.ok.exfs b d,.inl d,(J1.ok.exf b d).2,λp hp=>nomatch hp]
 have t:codeAny (model X.prog X.w) X.A (.compLoop (.ListComp elt [#[tg,iter,ifs,0]] sc pos) 0 (.ref it) (.ref s.heap.objs.size) (cxC X sc NC #[c.heap.objs.size,c,upd H s.heap.objs.size (.lst []),u]).env) (RR (.ref s.heap.objs.size) c.heap.objs.size)
   {c with heap:=h1,toks:=c.toks+([]:Hs (AQ×AG)).length}:=by refine ziE (D:=s.heap.objs.size) (Q:=Q (.ref s.heap.objs.size)) hc hg ht he T J1 hfc (T.keep _ _ _ G λb _ o e=>L b o e) w0 step λB' M s' J' q'=>?_;have fC:M c.heap.objs.size=none:=J'.free;refine fin _ _ s' M q' ?_ (I3.fpOk (AS _) fC) λh2 d=>zfV I3 A (AS _) J' d;let#[m',Y,_]:=J'.loc;let#[o,es,ep,ho,hd,r]:=id Y;exact#[o,m',ho,Y,λv z=>by rw[hd]at z;cases z]
 have Z:=λ(RQ:AG->AK->Prop) (EE:AG->AK->Prop)=>T.self X.A 0 {c with heap:=h1,toks:=c.toks+([]:Hs (AQ×AG)).length} RQ EE (T.keep _ _ _ G λb _ o e=>L b o e);subst w;exact codeAny_compStart_list t (Z _ _ t)
variable {wi:TI}
def zgg(c:X.calm=AC)(O:yai X sc NC slots)(d:PI X tg iter wi)(f:∀j,PG (cxC X sc NC j) tg g)(l:∀j,PTs (cxC X sc NC j) ifs ti)(n:∀j,PE (cxC X sc NC j) elt te)
  (p:∀x,foldedSetIterable iter X.env x=pure x:=by intro _;rfl):PE X (.ListComp elt [#[tg,iter,ifs,0]] sc pos) (yb2 slots wi g ti te):=by intro E s B H Q I h;rw[eval_ListComp];refine EY (use:=AD) rfl p (zbd (O.cells I.ok)) O.kind O.names (thn (d E s B H _ I h) λv L q=>thn q λr M a=>?_);let#[N,U,Y,J,Z,rfl,t,T,b,u,w]:=a;refine zc1 c O f l n t T b u w λD C s' y z #[o,m,ho,A,_] _ out=>#[m,A,λa G=>#[.ref D,y,out a G,rfl,z]]
def zgC{i:Ht}{x:AQ}{l a:Bq}(Y:X.N.Nodup)(n:X.N[i]?=AA x)(Z:Loc X.env.scope x)(hc:X.calm=AC)(O:yai X sc NC slots)(hi:PI X tg iter wi)(hg:∀j,PG (cxC X sc NC j) tg g)(ht:∀j,PTs (cxC X sc NC j) ifs ti)(he:∀j,PE (cxC X sc NC j) elt te)
  (q:swapsWith (.ListComp elt [#[tg,iter,ifs,0]] sc pos) (AA (.Name x l)) a.line X.env=pure true:=by rfl) (hs:∀x,foldedSetIterable iter X.env x=pure x:=by intro _;rfl)
  (hf:X.fn x=AC \/ X.env.scope.names.lookup x=AA .local:=by first|exact .inl rfl|exact .inr rfl|assumption):PS X (.Assign [.Name x l] (.ListComp elt [#[tg,iter,ifs,0]] sc pos) a) (yeZ (yb2 slots wi g ti te) (ycu i)):=by
 intro E s B H G I h;rw[exec_Assign_Name_used _ _ _ _ q,arm_evalThenUse_ListComp];refine AI (D3 (AI (AI ?_)));refine EY (Q:=λ_ d=>Aa (model X.prog X.w) X.A (pure IR.unit) (λ_ t=>Aa (model X.prog X.w) X.A (pure HS) (SP X E G) X.xe t) X.xe d) rfl hs (zbd (O.cells I.ok)) O.kind O.names (thn (hi E s B H _ I h) λv s1 h1=>thn h1 λitv s2 L=>?_);let#[it,fp,tn,J,H2,rfl,I2,T,w,f2,q2]:=L;refine zc1 (Q:=λx H1=>ycu i x B H1 G.nx) hc O hg ht he I2 T w f2 q2 λD C d y q' #[o,m,M,hn,hd] c out=>?_;have N:Inv X E B y d:=out d.heap (Hq ..);have Ip:Inv X (E++[(C,o)]) B y d:=N.pins_of λp hp=>(Am.mp hp).elim (λz=>N.pin p (Av _ z)) λz=>by
  have e:p=(C,o):=by simpa using z
  subst e;exact#[M,c.1,c.2.1,c.2.2.1,hd]
 show Aa (model X.prog X.w) X.A (assign (.Name x l) X.env (.ref D)) _ _ d;refine GA (zaL Ip Y n Z (show RelV (.ref D) (.ref D)from rfl) (λs6 U=>?_) hf);have g6:=(U.pin (C,o) (Av _ (Av _ A6))).1;let#[o',es,ep,f,r]:=hn;rw[M]at f
 cases f
 refine#[m,#[o,es,ep,g6,r],λL hb=>AZ (AZ ?_)];exact#[_,y,U.unpinned.turned (t':=s6.toks) (λb u A e=>(hb.2 b A).trans e) c.1 c.2.1 c.2.2.2.1 c.2.2.2.2.1 c.2.2.2.2.2,q']
end
def zft:∀{bs:Hs Hy} {us:Hs AG},Vals (bs.map V.bl) us->LSm.BoolsAre us bs
 |[],_,.nil=>.nil
 |b::bs,_,.cons r q=>by
  cases (show _=Dp b from r)
  exact .cons b (zft q)
section
variable {X:Cx}
def ygF(K:AF):Hs V->Hp->VK->Prop:=λa H Q=>∃(l:AJ) (bs:Hs Hy),a=[.ref l]/\SqL K H l (bs.map V.bl)/\Q (.bl (bs.all id)) H
def zik(j:X.calm=AC):yaf X (.builtin "all") (ygF X.K):=by
 intro C s B H y z Q I r h;let#[l,bs,rfl,m,q]:=h;let#[u,rfl,n]:=Vals.one r
 cases (show u=Ak l from n)
 let#[a,o,p,D]:=I.list m;have f:=zft o;have c:=p.isList;have d:l<s.heap.objs.size:=by let#[_,e,_]:=c;exact A9 e
 refine call_all_walk (GS c ?_);refine#[s.heap.objs.size,[s.heap.objs.size,l],[s.heap.objs.size],a.toArray.size,_,_,λi=>(bs[i]?).getD AC,rfl,Walks.list (A:=X.A.in1) (I.ok.hd j) _ l (Aw d) a.toArray,#[#[_,Af _ rfl,rfl,rfl],c.push _],λi v E G J t g=>?_,λL w x=>?_]
 .let#[b,e,rfl]:=f.get i v (by simpa using t);erw[e,B9]at g;exact BZ g
 .have e:((En a.toArray.size).all λi=>(bs[i]?).getD AC)=bs.all id:=by rw[AU,f.length];exact LSm.range_all bs
  rw[e];exact#[.bl _,H,I.kept (t':=w) (LSm.kept_iter x),rfl,q]
end
section
variable {X:Cx}{B:Hs (AJ×Bd)}{A:St}{H:Hp}{s:AK}
end
section
variable {X:Cx}{a:AX}{ta:TE}{K:AF}
end
end L2
namespace L2
end L2
namespace L2
open PySem PySem.Spec PyProof.Rows
def CX1(P:Ae)(w:Aq):CXT:=λc H s E e d=>∃(a:AJ) (cls g:AG) (f:Hp) (B:BB),e=.ref a/\d.os=s.os/\DJ d.gens/\Ez B c a cls g d.heap/\HOk P w f d.heap/\Un (frs c) [] H f s.heap d.heap /\
 (∀b o,s.heap.get? b=AA o->H b=AD->b∉frs c->B.get? b=AA o)/\(∀b u,f b=AA u->∃o,B.get? b=AA o)/\(∀b o,s.heap.get? b=AA o->b∉frs c->∃j,B.get? b=AA j)/\E cls AD f
theorem yaa.there{P:Ae}{w:Aq}{H:Hp}{h:BB}{a:AJ}{o:HO}(x:yaa P w H h a o):∃b,h.get? a=AA b:=by
 induction o with
 |lst d=>let#[_,_,_,_,e]:=x;exact#[_,e]
 |tup d=>let#[_,_,_,b,e,_]:=x;exact#[b,e]
 |dK c=>let#[_,_,_,_,b,_,_,e,_]:=x;exact#[b,e]
 |dT c=>let#[_,_,_,_,b,_,_,e,_]:=x;exact#[b,e]
 |set S n=>let#[b,_,_,_,e,_]:=x;exact#[b,e]
 |ins C g fs=>let#[_,_,_,e,_]:=x;exact#[_,e]
 |own y=>exact x
 |xd fs=>let#[_,#[b,_,_,e,_],_]:=x;exact#[b,e]
 |rng lo j=>let#[_,_,_,e]:=x;exact#[_,e]
 |frz b u ih=>exact#[b,x.1]
 |tbl l=>exact#[_,x]
 |met f y=>exact#[_,x]
 |ext A=>exact x.2.1
theorem HOk.inB{P:Ae}{w:Aq}{H:Hp}{h h' B:BB}(ok:HOk P w H h)(j:B.StaysIn h)(c:B.StaysIn h')(f:∀b u,H b=AA u->∃o,B.get? b=AA o):HOk P w H h':=λa o e=>
 (ok a o e).stay (λb u l q=>by
  have d:∃o,B.get? b=AA o:=by
   rcases l with z|z
   .rw[z];exact f a o e
   .exact f b _ z
  let#[m,g]:=d;have:=j b m g;rw[q]at this
  cases this
  exact c b u g) (λ_ q=>q) λ_ _ q=>q
section
variable {P:Ae}{w:Aq}{K:AF}{mg:AQ->Option AG}{base:BB}{N:Hs AQ}{qual:AQ}{scope:BU}{f:AJ}{cd:AG}{A:Ar}{outer:Hs Env}{s₀:AK}{H₀:Hp}{E:XK}
 {D:Hs (AJ×Bd)} {C:St} {H:Hp} {s:AK}
def zhv{h':BB}{e:AJ}{cls:AG}{vs:Hs AG}(I:Inv (yaY (CX1 P w) P w K mg base N qual scope f cd A outer s₀ H₀ E) D C H s)(M:HA s.heap h' e cls vs)(U:E cls AD H):
  (yaY (CX1 P w) P w K mg base N qual scope f cd A outer s₀ H₀ E).xe (.ref e) {s with heap:=h'}:=by
 have g:s.heap.FunFrames base (envOfC qual scope s₀.heap.objs.size f cd::outer):=I.stack;have j:∀b,b∈frs (envOfC qual scope s₀.heap.objs.size f cd::outer)->b=s₀.heap.objs.size \/ b∈frs outer:=λb d=>by have y:b∈s₀.heap.objs.size::frs outer:=d;exact AM.mp y
 have inB:∀b o,s.heap.get? b=AA o->b∉frs (envOfC qual scope s₀.heap.objs.size f cd::outer)->(DD s.heap (frs (envOfC qual scope s₀.heap.objs.size f cd::outer))).get? b=AA o:=λb o q n=>F6 _ q n;have O:(DD s.heap (frs (envOfC qual scope s₀.heap.objs.size f cd::outer))).StaysIn s.heap:=λb o q=>Fj _ q;have c:Un (frs outer) [] H₀ H s₀.heap s.heap:=I.base;have lt:∀b o,s₀.heap.get? b=AA o->b≠s₀.heap.objs.size:=λb o q=>Aw (A9 q);have Q:∀b u,H b=AA u->∃o,(DD s.heap (frs (envOfC qual scope s₀.heap.objs.size f cd::outer))).get? b=AA o:=λb u q=>by
  let#[o,X]:=yaa.there (I.hok b u q);exact#[o,inB b o X λd=>by
   have:=I.stkFree b d;rw[q]at this
   cases this]
 refine wpAny_leaves_madeW (base:=DD s.heap (frs (envOfC qual scope s₀.heap.objs.size f cd::outer))) (h:=s.heap) I.ok.frames rfl O (PySem.W.funFrames_hide g λB Y a Z=>Du.mpr #[B,Y,Z]) M λG t fl tu tn up=>?_;have r:s.heap.UpToSlots G:=(HV M.keeps).trans up;refine#[e,cls,_,H,_,rfl,I.os,I.bare,fl,HOk.inB I.hok O fl.1 Q,#[λb o q n d _=>?_,λb o q n d _=>?_,c.free,λb o q _=>?_,c.tups,c.frzs,c.tbls],λb o q n d=>?_,Q,λb o q d=>?_,U]
 .refine fl.1 b o (inB b o (c.keep b o q n d (by simp)) λz=>?_);rcases j b z with z|z
  .exact lt b o q z
  .exact d z
 .let#[sl,l]:=c.slot b o q n d (by simp);let#[_,m,p,J]:=BV g (show b∈DS (λ(z:Env)=>z.frame) _ from AT _ d);let#[x,L]:=r b _ l (by rw[p]at l;cases l;exact J);exact#[x,L]
 .let#[m,l]:=c.there b o q (by simp)
  by_cases d:b∈frs (envOfC qual scope s₀.heap.objs.size f cd::outer)
  .let#[_,o2,p,J]:=BV g d;let#[x,L]:=r b _ p J;exact#[_,L]
  .exact#[m,fl.1 b m (inB b m l d)]
 .refine inB b o (c.keep b o q n d (by simp)) λz=>?_;rcases j b z with z|z
  .exact lt b o q z
  .exact d z
 .let#[m,l]:=c.there b o q (by simp);refine#[m,inB b m l λz=>?_];rcases j b z with z|z
  .exact lt b o q z
  .exact d z
def zpj:ybD (CX1 P w) (yaY (CX1 P w) P w K mg base N qual scope f cd A outer s₀ H₀ E) E:=by
 intro D C H s e s' I h;let#[a,cls,a0,Q,B,rfl,os,p,fl,y,un,hB,U,hT,hE]:=h;have c:Un (frs outer) [] H₀ H s₀.heap s.heap:=I.base;have lt:∀b o,s₀.heap.get? b=AA o->b≠s₀.heap.objs.size:=λb o q=>Aw (A9 q);have r:∀b,b∈frs (envOfC qual scope s₀.heap.objs.size f cd::outer)->b=s₀.heap.objs.size \/ b∈frs outer:=λb d=>by have G:b∈s₀.heap.objs.size::frs outer:=d;exact AM.mp G
 have g:Un (frs (envOfC qual scope s₀.heap.objs.size f cd::outer)) [] H Q s.heap s'.heap:=un;have kB:∀b o,s₀.heap.get? b=AA o->H₀ b=AD->b∉frs outer->B.get? b=AA o:=λb o q n d=>hB b o (c.keep b o q n d (by simp)) (c.free b o q n (by simp)) λz=>by
  rcases r b z with z|z
  .exact lt b o q z
  .exact d z
 have X:∀b o,s₀.heap.get? b=AA o->b∉frs outer->∃l,B.get? b=AA l:=λb o q d=>by
  let#[l,m]:=c.there b o q (by simp);refine hT b l m λz=>?_;rcases r b z with z|z
  .exact lt b o q z
  .exact d z
 refine wpAny_leaves_onW I.ok.frames rfl fl λh'' j Y=>?_;refine#[a,cls,a0,Q,B,rfl,os.trans I.os,p,j,HOk.inB y fl.1 j.1 U,#[λb o q n d _=>j.1 b o (kB b o q n d),λb o q n d _=>?_,λb o q n _=>?_,λb o q _=>?_,λb Z q=>g.tups b Z (c.tups b Z q),λb o u q=>g.frzs b o u (c.frzs b o u q),λb ps q=>?_],kB,U,X,hE]
 .let#[sl,m]:=c.slot b o q n d (by simp);have n1:=c.free b o q n (by simp);let#[sl1,x]:=g.slot b _ m n1 (AT _ d) (by simp);let#[_,l,J,L]:=BV fl.2.2.1 (show b∈DS (λ(z:Env)=>z.frame) _ from AT _ d);let#[t,M]:=Y b _ x (by rw[J]at x;cases x;exact L);exact#[t,M]
 .let#[l,m]:=c.there b o q (by simp);exact g.free b l m (c.free b o q n (by simp)) (by simp)
 .let#[l,m]:=c.there b o q (by simp);let#[o2,x]:=g.there b l m (by simp)
  by_cases d:b∈frs outer
  .let#[_,o3,O,L]:=BV fl.2.2.1 (show b∈DS (λ(z:Env)=>z.frame) _ from AT _ d);let#[t,M]:=Y b _ O L;exact#[_,M]
  .let#[o4,q4]:=X b o q d;exact#[o4,j.1 b o4 q4]
 .let#[m1,e1]:=c.tbls b ps q;let#[m2,e2]:=g.tbls b _ e1;exact#[m1++m2,by rw[e2,Dr]]
end
section
variable {X:Cx}{e:AX}{es:Hs AX}{te:TE}
end
section
variable {X:Cx}{e:AX}{es:Hs AX}{t:TA}{E:XK}
end
structure ybC(K:AF)(C:AJ):Prop where
 ga:Ao K (.ref C) "__getattribute__"=AA (AA (.builtin "BaseException.__getattribute__"))
 gh:Ao K (.ref C) "__getattr__"=AA AD
 cl:Ao K (.ref C) "__class__"=AA (AA (.builtin "object.__class__"))
 sb:HK K (.ref C) (.type "BaseException")=AA AC
 mo:HL K C (.type "object")=AA AC
 ct:∃cd,EZ K C=AA cd
section
variable {pg:Ae}{wd:Aq}{A:Ar}{E:AG->AK->Prop}{h:BB}{g:IH GenState}{d:Drawn}{t:Ht}{os:OsState}{a C:AJ}{o:Bd}{K:AF}
def zeN{M:HQ}{c:AG}{Q:IR->AK->Prop}(X:K.In h)(Z:ybC K C)(f:h.get? a=AA o)(j:o.cls=.ref C)(l:Q IR.unit #[h,g,d,t,os]):Aa M A (checkBuiltinCall "BaseException.__getattribute__" #[[.ref a,c],[]]) Q E #[h,g,d,t,os]:=by
 have m:builtinKind "BaseException.__getattribute__"=AA .slot:=by decide +kernel
 have b:splitId "BaseException.__getattribute__"=AA ("BaseException","__getattribute__"):=by decide +kernel
 have p:=F.args_bexc_ga (.ref a) c;have n:=PySem.W.looks_subIn (M:=M) X Z.sb;erw[checkBuiltinCall,m,b];refine AI ?_
 .unfold isInstance
  repeat (first|(with_reducible refine ES f ?_;rw[j])|with_reducible refine n.at ?_|wp_step)
  exact l
def zhU{b:AG}{R:Fk->AK->Prop}(X:K.In h)(Z:ybC K C)(c:h.get? a=AA o)(f:o.cls=.ref C)(j:R (.ok (.ret (.ref C))) #[h,g,d,t,os]):
  codeAny (model pg wd) A (.call (.builtin "getset_descriptor.__get__") #[[.builtin "object.__class__",.ref a,b],[]]) R #[h,g,d,t,os]:=by
 have l:HM (model pg wd) h (typeOf (.ref a)) (.ref C):=f ▸ (Ee c).andThen .now;have m:=PySem.W.looks_mroIn (M:=model pg wd) X Z.mo;refine FZ Fu.plain PySem.W.KF.entry_gs (Fu.check _ _ _ _ _ _ _ _ PySem.W.KF.type_class (PySem.W.KF.args_gs _ _ _) ?_)
 (unfold D4.«getset_descriptor.__get__» Fv);rw[PySem.W.dga_obj]
 refine AI (AZ ?_);(unfold F5 Ef Em isInstance);erw[PySem.W.KF.owner_class];repeat lk
 refine#[Code.quiet_builtin _ (by decide +kernel),codeAny_builtin PySem.W.KF.entry_class ?_]
 (unfold D4.«object.__class__» shownTypeOf);repeat lk
 exact j
def zeS{f:HJ}{Q:Fin->AK->Prop}(X:K.In h)(Z:ybC K C)(b:h.get? a=AA o)(c:o.cls=.ref C)(m:Q (.done (.ret (.ref C))) #[h,g,d,t,os]):
  Aa (model pg wd) A (D4.«object.__getattribute__» #[[.ref a,.str "__class__" f],[]]) Q E #[h,g,d,t,os]:=by
 have j:(#[h,g,d,t,os]:AK).TypeIs (.builtin "object.__class__") "getset_descriptor":=FR;have n:=FR;have p:=F.slot_gs_get.lookup;have q:=F.slot_gs_set.lookup;have l:=Cg (M:=model pg wd) X Z.cl
 repeat (any_goals (first|assumption|(with_reducible refine ES b ?_;rw[c])|with_reducible refine l.at ?_|wp_step))
 refine zhU X Z b c ?_
 repeat (any_goals (first|assumption|wp_step))
def zfO{f:HJ}{R:Fk->AK->Prop}{j:IM}(l:Slot j "__getattribute__" "BaseException.__getattribute__")(X:K.In h)(Z:ybC K C)(b:h.get? a=AA o)(c:o.cls=.ref C)(m:R (.ok (.ret (.ref C))) #[h,g,d,t,os]):
  codeAny (model pg wd) A (.call (.builtin "BaseException.__getattribute__") #[[.ref a,.str "__class__" f],[]]) R #[h,g,d,t,os]:=
 FZ l.plain F.entry_bexc_ga (zeN X Z b c (zeS X Z b c m))
def ziM{l:HJ}{Q:AG->AK->Prop}{m:IM}(c:Slot m "__getattribute__" "BaseException.__getattribute__")(X:K.In h)(Z:ybC K C)(f:h.get? a=AA o)(j:o.cls=.ref C)(q:Q (.ref C) #[h,g,d,t,os]):
  Aa (model pg wd) A (getAttrBy (.ref a) (.str "__class__" l) AB) Q E #[h,g,d,t,os]:=by
 have r:=c.bind (.ref a);have b:(E1 "BaseException.__getattribute__" == E1 "object.__getattribute__")=false:=by decide +kernel
 have n:(onTheHeap (Ak C)&&E1 "BaseException.__getattribute__" == E1 "object.__getattribute__")=false:=by rw[b];rfl
 have p:=Cg (M:=model pg wd) X Z.ga;have L2:=Cg (M:=model pg wd) X Z.gh
 repeat (any_goals (first|assumption|(with_reducible refine ES f ?_;rw[j])|with_reducible refine p.at ?_|with_reducible refine L2.at ?_|wp_step))
 refine zfO c X Z f j ?_
 repeat (any_goals (first|assumption|wp_step))
def zeL{Q:Option AG->AK->Prop}{b:IM}(c:Slot b "__getattribute__" "BaseException.__getattribute__")(X:K.In h)(Z:ybC K C)(f:h.get? a=AA o)(j:o.cls=.ref C)(l:Q (AA (.ref C)) #[h,g,d,t+1,os]):
  Aa (model pg wd) A (getAttr? (.ref a) "__class__") Q E #[h,g,d,t,os]:=by
 unfold getAttr? getAttrBy?
 repeat (any_goals (first|assumption|with_reducible apply ziM c X Z f j|wp_step))
end
def ybT(a C:AJ):BB->Prop:=λh=>∃o,h.get? a=AA o/\o.cls=.ref C
theorem ybT.keep{a C:AJ}{b d:BB}(x:ybT a C b)(k:∀o,b.get? a=AA o->d.get? a=AA o):ybT a C d:=by let#[o,h,c]:=x;exact#[o,k o h,c]
def zeU{K:AF}{a C:AJ}(Z:ybC K C){u:IM}(w:Slot u "__getattribute__" "BaseException.__getattribute__"):PySem.W.KitX K (.ref a) (.ref C) (ybT a C) where
 ty:=λM h X p=>by let#[o,c,f]:=p;exact f ▸ (Ee c).andThen .now
 it:=λM h X p=>by
  let#[x,b]:=Z.ct;unfold EZ at b;split at b
  .rename_i y B j l m;intro H I J L k q;unfold isType loadHead;exact AI (wpAny_loadPart (k _ _ (X _ _ m)) (AZ q))
  .cases b
 ne:=λh D N G n O X r=>by
  let#[x,b]:=Z.ct;refine Hy.eq_false_iff.mpr λq=>?_;have e:C=D:=HN (IL.mp q);subst e;unfold EZ at b;split at b
  .rename_i y B j l m;have z:=(X _ _ m).symm.trans r
   cases z
  .cases b
 ca:=λ{U Y A E Q s} X p k=>by let#[o,c,f]:=p;let#[h,g,d,t,os]:=s;exact zeL w X Z c f k
section
variable {X:Cx}
end
section
variable {X:Cx}{C:Hs (AJ×Bd)}{A:St}{H:Hp}{s:AK}
theorem Inv.track{a:AJ}{o:HO}(I:Inv X C A H s)(d:H a=AD)(r:∀t,X.s₀.heap.get? a≠AA t)(w:a≠X.env.locals)(y:∀x c,X.env.cells.lookup x=AA c->c≠a)(B:∀p∈X.pn++C,p.1≠a)
  (f:yaa X.prog X.w (upd H a o) s.heap a o):Inv X C A (upd H a o) s:=by
 refine#[I.ok,I.os,I.bare,#[I.base.keep,I.base.slot,λb u e n D=>?_,I.base.there,λb g e=>?_,λb u v e=>?_,λb E e=>?_],I.loc,I.cell,?_,λx c e=>?_,λp j=>?_,λb u e=>?_,I.len]
 .rw[zl (λz:b=a=>r u (z ▸ e))];exact I.base.free b u e n D
 .have q:=I.base.tups b g e;rw[zl (zp q d)];exact q
 .have q:=I.base.frzs b u v e;rw[zl (zp q d)];exact q
 .let#[m,q]:=I.base.tbls b E e;refine#[m,?_];rw[zl (zp q d)];exact q
 .rw[zl (BW w)];exact I.free
 .rw[zl (y x c e)];exact I.freeC x c e
 .let#[G,J,L]:=I.pin p j;refine#[G,?_,L];rw[zl (B p j)];exact J
 .by_cases l:b=a
  .subst l;rw[zq]at e
   cases e
   exact f
  .rw[zl l]at e;exact(I.hok b u e).stay (λ_ _ _ q=>q) (λc q=>by rw[zl (zp q d)];exact q) λc g q=>by rw[zl (zp q d)];exact q
theorem Inv.back{c:AK}{h:BB}{p:Hp}{B:BB}{a:AJ}{cls y:AG}{t':Ht}(I:Inv X C A H s)(os:c.os=s.os)(j:DJ c.gens)(fl:Ez B X.stack a cls y c.heap)(r:HOk X.prog X.w p c.heap)(un:Un (frs X.stack) [] H p s.heap c.heap)
  (D:∀b o,s.heap.get? b=AA o->H b=AD->b∉frs X.stack->B.get? b=AA o) (E:∀b u,p b=AA u->∃o,B.get? b=AA o) (G:∀b o,s.heap.get? b=AA o->b∉frs X.stack->∃g,B.get? b=AA g) (st:B.StaysIn h) (x:c.heap.UpToSlots h):
  Inv X C A p {c with heap:=h,toks:=t'}:=by
 refine I.call' (ch:=[]) (s':={c with heap:=h,toks:=t'}) os #[λb o q n d _=>st b o (D b o q n d),λb o q n d _=>?_,un.free,λb o q _=>?_,un.tups,un.frzs,un.tbls] (HOk.inB r fl.1 st E) j (λb z=>IB z (by simp))
 .let#[J,l]:=un.slot b o q n d (by simp);let#[_,g,f,t]:=BV fl.2.2.1 d;let#[m,w]:=x b _ l (by rw[f]at l;cases l;exact t);exact#[m,w]
 .by_cases d:b∈frs X.stack
  .let#[_,g,f,t]:=BV fl.2.2.1 d;let#[m,w]:=x b _ f t;exact#[_,w]
  .let#[g,l]:=G b o q d;exact#[g,st b g l]
end
abbrev cxP(X:Cx)(pn:Hs (AJ×Bd)):Cx:={X with pn:=pn}
abbrev cxS(X:Cx)(pn:Hs (AJ×Bd))(a:AJ):Cx:={X with A:=X.A.mark (AA (.ref a)),calm:=AB,pn:=pn,xe:=No}
section
variable {X:Cx}{B:Hs (AJ×Bd)}{A:St}{H:Hp}{s:AK}
theorem Cx.Ok.pn(ok:X.Ok)(pn:Hs (AJ×Bd)):(cxP X pn).Ok:=#[ok.mod,ok.kind,ok.glob,ok.blt,ok.above,ok.inj,ok.has,ok.cab,ok.hd,ok.frames,ok.stk,ok.exf,ok.bs,ok.bsz,ok.noex,ok.exfs,ok.funs,ok.frf]
theorem Cx.Ok.suite(ok:X.Ok)(pn:Hs (AJ×Bd))(a:AJ):(cxS X pn a).Ok:=#[ok.mod,ok.kind,ok.glob,ok.blt,ok.above,ok.inj,ok.has,ok.cab,(λz=>nomatch z),ok.frames,ok.stk,ok.exf,ok.bs,ok.bsz,ok.noex,ok.exfs,ok.funs,ok.frf]
theorem Inv.toP(I:Inv X B A H s):Inv (cxP X (X.pn++B)) [] A H s:=#[I.ok.pn _,I.os,I.bare,I.base,I.loc,I.cell,I.free,I.freeC,λp a=>I.pin p (by simpa using a),I.hok,I.len]
theorem Inv.ofP(ok:X.Ok){pl:Hs (AJ×Bd)}(I:Inv (cxP X (X.pn++B)) pl A H s):Inv X B A H s:=#[ok,I.os,I.bare,I.base,I.loc,I.cell,I.free,I.freeC,λp a=>I.pin p (Cf _ a),I.hok,I.len]
theorem Inv.toS(I:Inv (cxP X (X.pn++B)) [] A H s)(a:AJ):Inv (cxS X (X.pn++B) a) [] A H s:=#[Cx.Ok.suite (X:=X) #[I.ok.mod,I.ok.kind,I.ok.glob,I.ok.blt,I.ok.above,I.ok.inj,I.ok.has,I.ok.cab,I.ok.hd,I.ok.frames,I.ok.stk,I.ok.exf,I.ok.bs,I.ok.bsz,I.ok.noex,I.ok.exfs,I.ok.funs,I.ok.frf] _ a,I.os,I.bare,I.base,I.loc,I.cell,I.free,I.freeC,I.pin,I.hok,I.len]
theorem Inv.ofS(ok:X.Ok){a:AJ}{pl:Hs (AJ×Bd)}(I:Inv (cxS X (X.pn++B) a) pl A H s):Inv X B A H s:=#[ok,I.os,I.bare,I.base,I.loc,I.cell,I.free,I.freeC,λp b=>I.pin p (Cf _ b),I.hok,I.len]
end
section
variable {X:Cx}{body suite:Hs Bf}{b₀:Bf}{x n:AQ}{np hpos pos:Bq}{tb:XK->TS}{ts:TS}{W:AJ}{i:Ht}
end
structure yaK(k:Ht)(A:Ar):Prop where
 dp:A.depth+3*k+5<recursionLimit
 un:A.units+16*k+200<cLine
theorem yaG.h{k:Ht}{A:Ar}(r:yaG k A):yaK k A:=#[r.dp,r.un]
theorem yaK.mark{k:Ht}{A:Ar}{e:Option AG}(r:yaK k A):yaK k (A.mark e):=#[r.dp,r.un]
theorem yaK.deeper{k:Ht}{A:Ar}(r:yaK (k+1) A)(env:Env):yaK k (A.deeper env):=#[by have:=r.dp;show A.depth+1+3*k+5<_;lia,by have:=r.un;show A.units+3+16*k+200<_;lia]
structure ycg(P:Ae)(w:Aq)(K:AF)(mg:AQ->Option AG)(base:BB)(k:Ht)(f:AJ)(fd:BC)(ps:Hs AQ)(sp:Sp):Prop where
 len:∀vs H Q E,sp vs H Q E->vs.length=ps.length
 run:∀(A:Ar) (outer:Hs Env) (s:AK) (H:Hp) (args:Args) (us:Hs AG) (vs:Hs V) (Q:VK),yaK k A->ycz P w K mg base A outer s H->Es s fd args (ps.zip us)->Vals vs us->sp vs H Q E0 ->
  codeAny (model P w) A (.call (.ref f) args) (CR CX0 outer P w H s Q E0) s
abbrev ybH(P:Ae)(w:Aq)(K:AF)(c:AQ->Option AG)(base:BB)(N:Hs AQ)(b:AQ)(a:BU)(f:AJ)(d:AG)(A:Ar)(outer:Hs Env)(s:AK)(H:Hp):Cx:=
 {yaY CX0 P w K c base N b a f d A outer s H E0 with calm:=AB,xe:=No}
theorem Inv.calmless{X:Cx}{C:Hs (AJ×Bd)}{B:St}{H:Hp}{s:AK}(I:Inv X C B H s)(A:Ar)(E:AG->AK->Prop)(hf:A.frames=X.A.frames):Inv {X with A:=A,calm:=AB,xe:=E} C B H s:=
 #[#[I.ok.mod,I.ok.kind,I.ok.glob,I.ok.blt,I.ok.above,I.ok.inj,I.ok.has,I.ok.cab,(λz=>nomatch z),hf.trans I.ok.frames,I.ok.stk,I.ok.exf,I.ok.bs,I.ok.bsz,I.ok.noex,I.ok.exfs,I.ok.funs,I.ok.frf],I.os,I.bare,I.base,I.loc,I.cell,I.free,I.freeC,I.pin,I.hok,I.len]
section
variable {P:Ae}{w:Aq}{K:AF}{mg:AQ->Option AG}{base:BB}
theorem Fun.okH{x a:AQ}{st:Bf}{f:AJ}{U:BC}{N ps:Hs AQ}{k:Ht}{sp:Sp}(F:Fun K x a st f U)(S:yaV N ps (yC st))(len:∀vs H Q E,sp vs H Q E->vs.length=ps.length)
  (g:∀(cdv:AG) (A:Ar) (outer:Hs Env) (s:AK) (H:Hp) (vs:Hs V) (Q:VK),yaK k (A.deeper (envOfC a (yC st) s.heap.objs.size f cdv))->sp vs H Q E0 ->
   ∃t,PSs (ybH P w K mg base N a (yC st) f cdv A outer s H) (yad st) t/\t {nx:=λ_ d=>Q .non d,rt:=Q} (start N vs) H):ycg P w K mg base (k+1) f U ps sp:=by
 let#[oc,od,kV,doc,pm,an,cdv,ct,osl,rfl,lk,C]:=F.ex;refine#[len,λA outer s H X us vs Q Y c hb r l=>?_];have hl:=len _ _ _ _ l;have Z:K.In s.heap:=c.mod.kin.keeps λb o e=>(c.bs b o e).1;have D:s.heap.NoLimit:=c.mod.nolimit.keeps λb o e=>(c.bs b o e).1;have j:∀y∈ps.zip us,(yC st).names.lookup y.1=AA .local \/ ((yC st).names.lookup y.1=AA .cell/\((cellsFrom (s.heap.objs.size+1) (yC st).names []).lookup y.1).isSome=AC):=λ#[n,v] hy=>by
  rcases S.par n (Dc hy).1 with q|q
  .exact .inl q
  .exact .inr #[q,DN _ _ _ (.inl q)]
 refine FN (by have:=Y.dp;lia) (Z _ _ lk) rfl S.co S.gen rfl (Fm Z C) (hb _ _ _ _ ?_);refine Dy S.kind j λenv he G x=>?_;subst he;refine#[D.keeps x.toInCall.keep,codeAny_func ?_];let#[t,ht,hq]:=g cdv A outer s H vs Q (Y.deeper _) l;have L:ycz P w K mg base {A with handled:=AD} outer s H:=#[c.frames,c.mod,c.bs,c.bsz,c.funs,c.frf,c.hok,c.bare];have I0:Inv (yaY CX0 P w K mg base N a (yC st) f cdv {A with handled:=AD} outer s H E0) [] (start N vs) H G:=zd7 S rfl L hl r x;have I:Inv (ybH P w K mg base N a (yC st) f cdv A outer s H) [] (start N vs) H G:=I0.calmless (A.deeper (envOfC a (yC st) s.heap.objs.size f cdv)) No rfl;refine Bj (ht [] G (start N vs) H _ I hq) (λfl M p=>?_) λe M z=>z.elim;have m:∀{B:St} {d:Hp} {v:V} {u:AG},Inv (ybH P w K mg base N a (yC st) f cdv A outer s H) [] B d M->RelV v u->Q v d->CE outer P w H s Q u M:=
  λ{B d v u} J O q=>#[v,d,J.os,J.bare,J.base,J.hok,O,q]
 cases fl with
 |ret u=>
  let#[v,B,d,J,O,q]:=p;exact m J O q
 |next=>
  let#[B,d,J,q]:=p;exact m (v:=V.non) (u:=Bv) J rfl q
 |brk=>
  let#[_,_,_,q]:=p;exact BY q
 |cont=>
  let#[_,_,_,q]:=p;exact BY q
end
section
variable {X:Cx}{k:Ht}{f:AJ}{fd:BC}{ps:Hs AQ}{sp:Sp}{x:AQ}{p pos:Bq}{e:AX}{es:Hs AX}{t:TA}
end
section
variable {P:Ae}{w:Aq}{K:AF}{mg:AQ->Option AG}{base:BB}
theorem own1{N:Hs AQ}{b:AQ}{a:BU}{f:AJ}{c:AG}{A:Ar}{outer:Hs Env}{s:AK}{H:Hp}{E:XK}{CX:CXT}:
  E9 (model (yaY CX P w K mg base N b a f c A outer s H E).prog (yaY CX P w K mg base N b a f c A outer s H E).w) (yaY CX P w K mg base N b a f c A outer s H E).A (yaY CX P w K mg base N b a f c A outer s H E).env (yaY CX P w K mg base N b a f c A outer s H E).xe:=
 PassesOwn.leaving
def zpk{x:AQ}{C:AJ}{ts:Hs AG}{a:IM}{h:BB}(X:K.In h)(b:mg x=AA (.ref C))(q:D5 K C ts a=AC):OwnCls x C ts a mg h:=by
 constructor
 .exact b
 .revert q
  unfold D5
  cases p:K.lookup C with
  |none=>intro q;cases q
  |some o=>
   intro q;split at q
   .rename_i U r t u;split at q
    .rename_i Y w y z A B n D f g;erw[AH,IL,Bt]at q;rcases q with⟨⟨⟨⟨⟨E,G⟩,j⟩,H⟩,c⟩,m⟩;subst E G;rcases r with⟨I,bs,J,L,M,N,sn,sub,O,d,Q⟩;dsimp only at f j c m;subst f j;rcases t with⟨l⟩;simp only at g;subst g
     cases u
     exact#[w,L,I,M,bs,N,sn,sub,O,d,_,y,z,A,B,D,_,X _ _ p,.of_isNs (PySem.W.isNs_of_in X c),PySem.W.nsMap_none_of_in X c m,PySem.W.tail_of_in X H]
    .cases q
   .cases q
end
section
variable {X:Cx}
end
section
variable {X:Cx}
def yge(K:AF):Hs V->Hp->VK->Prop:=λb H Q=>∃(l:AJ) (a:Hs Hw),b=[.ref l]/\SqL K H l (a.map V.int)/\Q (.int a.sum) H
def ziO(g:X.calm=AC):yaf X (.builtin "sum") (yge X.K):=by
 intro B s A H x y Q I r h;let#[l,a,rfl,j,q]:=h;let#[u,rfl,m]:=Vals.one r
 cases (show u=Ak l from m)
 let#[b,n,o,z]:=I.list j;have d:Eu b a:=zde n;let#[p,e]:=d.allInts.items;have c:a=p.toList.map (·.1):=by rw[<-d.numsOf,<-nums_intItems,<-e]
 have f:=o.isList;rw[e]at f;refine sum_intListG (I.ok.hd g) f λC t t' w=>#[.int a.sum,H,I.kept (t':=t) w,#[t',?_],q];rw[preSum_eq,FA (by simp),<-c]
def ygV(K:AF):Hs V->Hp->VK->Prop:=λc H Q=>∃(l:AJ) (b:Hs Hw),c=[.ref l]/\SqL K H l (b.map V.int)/\0<b.length/\∀M,M∈b->(∀a,a∈b->a<=M)->Q (.int M) H
def zgm(w:X.calm=AC):yaf X (.builtin "max") (ygV X.K):=by
 intro B s A H M N Q I r h;let#[l,m,rfl,x,c,q]:=h;let#[u,rfl,y]:=Vals.one r
 cases (show u=Ak l from y)
 let#[f,z,C,O]:=I.list x;have n:Eu f m:=zde z;let#[d,e]:=n.allInts.items;have b:m=d.toList.map (·.1):=by rw[<-n.numsOf,<-nums_intItems,<-e]
 have g:0<d.size:=by rw[b,Ai,By]at c;exact c
 have o:=C.isList;rw[e]at o;refine max_intList (I.ok.hd w) o g λv U D E G=>?_;let#[t,rfl]:=intItems_at E;let#[Y,J]:=argBest_gt (numAt d) (d.size-1);refine#[.int _,H,I.kept (t':=D) G,#[t,rfl],q _ ?_ λa p=>?_]
 .rw[b,numAt_eq];exact getD_mem (by rw[Ai,By];lia)
 .rw[b]at p;let#[j,L,rfl]:=mem_getD p;rw[Ai,By]at L;rw[<-numAt_eq];exact J j ()
end
section
variable {R:Type}[IN R]
def ybF(a:Hs (R×V))(k:R):Option V:=(a.find? λb=>decide (b.1=k)).map (·.2)
def putK(a:Hs (R×V))(k:R)(v:V):Hs (R×V):=
 if (a.any λb=>decide (b.1=k))=AC then a.map (λb=>if b.1=k then(b.1,v)else b)else a++[(k,v)]
def zbB{p:R×V}{r:Hs (R×V)}{k:R}(e:p.1=k):ybF (p::r) k=AA p.2:=by simp[ybF,CQ,e]
def zbC{p:R×V}{r:Hs (R×V)}{k:R}(e:¬p.1=k):ybF (p::r) k=ybF r k:=by simp[ybF,CQ,e]
def zfs(k:R):∀a:Hs (R×V),(a.any λb=>decide (b.1=k))=(ybF a k).isSome
 |[]=>rfl
 |p::r=>by
  rw[Ba]
  by_cases e:p.1=k
  .simp only[zbB e,Hv e,Cr,Option.isSome_some]
  .rw[zbC e,Hu e,E2];exact zfs k r
def zby(a:Hs (R×V))(k:R)(v:V):(putK a k v).length<=a.length+1:=by
 unfold putK;split
 .rw[Ai];lia
 .rw[AO,AV,Ap];lia
theorem ybo.isSome_eq{o:Option V}{u:Option AG}(r:ybo o u):o.isSome=u.isSome:=by
 cases o with
 |none=>cases u with
  |none=>rfl
  |some _=>exact(show II from r).elim
 |some _=>cases u with
  |none=>exact(show II from r).elim
  |some _=>rfl
theorem ybo.getD{o:Option V}{u:Option AG}{d:V}{d':AG}(r:ybo o u)(a:RelV d d'):RelV (o.getD d) (u.getD d'):=by
 cases o with
 |none=>cases u with
  |none=>exact a
  |some _=>exact(show II from r).elim
 |some _=>cases u with
  |none=>exact(show II from r).elim
  |some _=>exact r
theorem KV.val{a:Hs (R×V)}{vs:Hs (R×AG)}(r:KV a vs)(k:R):ybo (ybF a k) (valueAt vs k):=by
 unfold KV at r
 induction r with
 |nil=>exact CD
 |@cons p q j c h t ih=>
  let#[f,g]:=h
  by_cases e:p.1=k
  .have d:q.1=k:=f.symm.trans e;have b:valueAt (q::c) k=AA q.2:=by simp[valueAt,CQ,d]
   rw[zbB e,b];exact g
  .have d:¬q.1=k:=λz=>e (f.trans z);have b:valueAt (q::c) k=valueAt c k:=by simp[valueAt,CQ,d]
   rw[zbC e,b];exact ih
theorem KV.any{a:Hs (R×V)}{vs:Hs (R×AG)}(r:KV a vs)(k:R):(a.any λb=>decide (b.1=k))=vs.any λb=>decide (b.1=k):=by
 unfold KV at r
 induction r with
 |nil=>rfl
 |cons h t ih=>rw[Ba,Ba,ih,h.1]
theorem KV.repl{b:Hs (R×V)}{vs:Hs (R×AG)}(r:KV b vs)(k:R){y:V}{u:AG}(d:RelV y u):
  KV (b.map λa=>if a.1=k then(a.1,y)else a) (vs.map λa=>if a.1=k then(a.1,u)else a):=by
 unfold KV at r ⊢
 induction r with
 |nil=>exact .nil
 |@cons p q g j h t ih=>
  rw[AW,AW];refine .cons ?_ ih;let#[c,f]:=h
  by_cases e:p.1=k
  .rw[Hz e,Hz (c.symm.trans e)];exact#[c,d]
  .rw[IA e,IA (λz=>e (c.trans z))];exact#[c,f]
theorem KV.put{a:Hs (R×V)}{vs:Hs (R×AG)}(r:KV a vs)(k:R){y:V}{u:AG}(b:RelV y u):KV (putK a k y) (stored vs k u):=by
 unfold putK stored;rw[r.any k]
 by_cases e:(vs.any λc=>decide (c.1=k))=AC
 .rw[Hz e,Hz e];exact r.repl k b
 .rw[IA e,IA e];exact Hj r #[rfl,b]
theorem KV.length{a:Hs (R×V)}{vs:Hs (R×AG)}(r:KV a vs):a.length=vs.length:=EX r
end
def zjd{P:Ae}{w:Aq}{k:Key}{u:AG}(r:RelV (kV k) u):(yV P w).is k u=true:=by
 cases k with
 |inl i=>let#[t,e]:=(show ∃t,u=E7 i t from r);subst e;exact zeB P w i t
 |inr x=>let#[t,e]:=(show ∃t,u=GZ x t from r);subst e;exact zey P w x t
def zdT{P:Ae}{w:Aq}:∀{a:Hs Key} {us:Hs AG},Vals (a.map kV) us->ItemsAre (yV P w) a us
 |[],_,r=>by rw[BH]at r;cases r;exact .nil
 |k::a,_,r=>by
  rw[AW]at r
  cases r with
  |cons h t=>exact .cons (zjd h) (zdT t)
abbrev KT(H:Hp):Hs (Hs Key×V)->Hs (Hs Key×AJ×AG)->Prop:=G0 λp q=>p.1=q.1/\H q.2.1=AA (.tup (p.1.map kV))/\RelV p.2 q.2.2
theorem KT.val{H:Hp}{a:Hs (Hs Key×V)}{xs:Hs (Hs Key×AJ×AG)}(r:KT H a xs)(k:Hs Key):ybo (ybF a k) ((atKey xs k).map (·.2)):=by
 induction r with
 |nil=>exact CD
 |@cons p q j c h t ih=>
  let#[f,_,g]:=h
  by_cases e:p.1=k
  .have d:q.1=k:=f.symm.trans e;have b:atKey (q::c) k=AA q.2:=by simp[atKey,CQ,d]
   rw[zbB e,b];exact g
  .have d:¬q.1=k:=λz=>e (f.trans z);have b:atKey (q::c) k=atKey c k:=by simp[atKey,CQ,d]
   rw[zbC e,b];exact ih
theorem KT.repl{H:Hp}{a:Hs (Hs Key×V)}{xs:Hs (Hs Key×AJ×AG)}(r:KT H a xs)(k:Hs Key){y:V}{u:AG}(f:RelV y u):
  KT H (a.map λc=>if c.1=k then(c.1,y)else c) (xs.map (putAt k u)):=by
 induction r with
 |nil=>exact .nil
 |@cons p q j l h t ih=>
  rw[AW,AW];refine .cons ?_ ih;let#[b,d,g]:=h;unfold putAt
  by_cases e:p.1=k
  .rw[Hz e,Hz (b.symm.trans e)];exact#[b,d,f]
  .rw[IA e,IA (λz=>e (b.trans z))];exact#[b,d,g]
theorem KT.put{H:Hp}{a:Hs (Hs Key×V)}{xs:Hs (Hs Key×AJ×AG)}(r:KT H a xs)(k:Hs Key){b:AJ}{y:V}{u:AG}(d:H b=AA (.tup (k.map kV)))(c:RelV y u):
  KT H (putK a k y) (storedH xs k b u):=by
 have e:(a.any λf=>decide (f.1=k))=(atKey xs k).isSome:=by rw[zfs,(r.val k).isSome_eq,Option.isSome_map]
 unfold putK storedH;rw[e]
 by_cases q:(atKey xs k).isSome=AC
 .rw[Hz q,Hz q];exact r.repl k c
 .rw[IA q,IA q];exact Hj r #[rfl,d,c]
theorem KT.keeps{H c:Hp}{a:Hs (Hs Key×V)}{xs:Hs (Hs Key×AJ×AG)}(r:KT H a xs)(f:∀b d,H b=AA (.tup d)->c b=AA (.tup d)):KT c a xs:=
 Paired.mapP r λ_ _ z=>#[z.1,f _ _ z.2.1,z.2.2]
section
variable {P:Ae}{w:Aq}{H:Hp}{h:BB}{a:AJ}
def zl7{u:HO}(ok:HOk P w H h)(e:Rd H a u):yaa P w H h a u:=e.ok ok
def zkk{b:Hs (Key×V)}(ok:HOk P w H h)(e:Rd H a (.dK b)):b.length<=sizeLine/\(a==sysModules)=AB/\∃c,KV b c/\h.DictOf (yV P w) a c:=
 show yaa P w H h a (.dK b)from zl7 ok e
def zlR{b:Hs (Key×V)}(ok:HOk P w H h)(e:H a=AA (.dK b)):b.length<=sizeLine/\(a==sysModules)=AB/\∃c,KV b c/\h.DictOf (yV P w) a c:=zkk ok (.inl e)
def zgw{b:Hs Key}(ok:HOk P w H h)(e:H a=AA (.tup (b.map kV))):(tupleKind (yV P w)).is h b a:=by let#[_,c,r,o,d,f,n,g]:=(show yaa P w H h a (.tup (b.map kV))from ok a _ e);exact#[o,c.toArray,n,d,f,g,by simpa using zdT r]
def zkv{b:Hs (Hs Key×V)}(ok:HOk P w H h)(e:Rd H a (.dT b)):b.length<=sizeLine/\(a==sysModules)=AB /\
  ∃d,KT H b d/\h.DictOfH (tupleKind (yV P w)) a d:=by
 let#[z,y,d,r,o,g,j,n,u,A,B,C]:=(show yaa P w H h a (.dT b)from zl7 ok e);refine#[z,y,d,r,o,g,j,n,u,A,B,λx c=>?_,C];have all:∀{l:Hs (Hs Key×V)} {m:Hs (Hs Key×AJ×AG)},KT H l m->∀x∈m,(tupleKind (yV P w)).is h x.1 x.2.1:=by
  intro l m q
  induction q with
  |nil=>intro x c;exact nomatch c
  |@cons p q D E f t ih=>
   intro x c;rcases AM.mp c with e|c
   .subst e;exact zgw ok (by rw[<-f.1];exact f.2.1)
   .exact ih x c
 exact all r x c
def zon{b:Hs (Hs Key×V)}(ok:HOk P w H h)(e:H a=AA (.dT b)):b.length<=sizeLine/\(a==sysModules)=AB /\
  ∃c,KT H b c/\h.DictOfH (tupleKind (yV P w)) a c:=zkv ok (.inl e)
end
def yfF(H:Hp)(a:AJ)(y:V)(r:Option V):Prop:=
 (∃c k,Rd H a (.dK c)/\y=kV k/\r=ybF c k) \/ ∃c k b,Rd H a (.dT c)/\y=.ref b/\H b=AA (.tup (k.map kV))/\r=ybF c k
def yfA(H:Hp)(a:AJ)(y v:V)(d:Hp):Prop:=
 (∃c k,H a=AA (.dK c)/\y=kV k/\c.length<sizeLine/\d=upd H a (.dK (putK c k v))) \/
 ∃c k b,H a=AA (.dT c)/\y=.ref b/\H b=AA (.tup (k.map kV))/\c.length<sizeLine/\d=upd H a (.dT (putK c k v))
section
variable {X:Cx}{C:Hs (AJ×Bd)}{B:St}{H:Hp}{s:AK}{a:AJ}{y v:V}{u r:AG}{o:Option V}{A:Ar}{E:AG->AK->Prop}
theorem Inv.big(I:Inv X C B H s):sysModules<s.heap.objs.size:=by have h:mainGlobals<s.heap.objs.size:=(I.mod.glob.keeps I.bk).lt;exact Ht.lt_trans ⋯ h
def zeK{h':BB}{t':Ht}{c:HO}(I:Inv X C B H s)(f:Mut (H a))(g:C6 a s.heap h')(j:∃q,h'.get? a=AA q)(d:yaa X.prog X.w (upd H a c) h' a c):
  Inv X C B (upd H a c) {s with heap:=h',toks:=t'}:=
 I.write (x:=a) (e:=a) f (.inl rfl) (λb q l z=>(g.2 b l).trans z) j d
def zjJ{P:Ae}{w:Aq}{c:Hp}{h':BB}{b:Hs (Key×V)}{vs:Hs (Key×AG)}(z:b.length<=sizeLine)(d:(a==sysModules)=AB)(rel:KV b vs)(dd:h'.DictOf (yV P w) a vs):
  yaa P w c h' a (.dK b):=#[z,d,vs,rel,dd]
def zhR{D:Hp}{Q:IR->AK->Prop}(U:A.units+1<cLine)(I:Inv X C B H s)(g:yfA H a y v D)(G:RelV y u)(J:RelV v r)(h:∀L,Inv X C B D L->Q IR.unit L):
  Aa (model X.prog X.w) A (setItem (.ref a) u r) Q E s:=by
 rcases g with⟨d,k,e,m,l,n⟩|⟨d,k,b,e,m,M,l,n⟩
 .subst m n;let#[z,o,Y,rel,p]:=zlR I.hok e;have t:Y.length<=sizeLine:=by rw[<-rel.length];exact z
  have w:(putK d k v).length<=sizeLine:=by have:=zby d k v;lia
  refine wpAny_setItem_pairs (hsz:=t) (zjd G) p λN f x=>h _ ?_;have Z:∃q,N.get? a=AA q:=let #[q,_,_,j,_]:=f;#[q,j]
  exact zeK I (by rw[e];exact CD) x Z (zjJ w o (rel.put k J) f)
 .subst m n
  cases (show u=Ak b from G)
  let#[z,o,xs,rel,p]:=zon I.hok e;have t:xs.length<=sizeLine:=by rw[<-EX rel];exact z
  have w:(putK d k v).length<=sizeLine:=by have:=zby d k v;lia
  refine wpAny_setItem_heap (hsz:=t) (Fw U) (zgw I.hok M) p λN f x=>h _ ?_;let#[q,es,ep,j,h2,h3,h4,_,h5]:=f;refine zeK I (by rw[e];exact CD) x #[q,j] #[w,o,_,(rel.put k M J).keeps λc ys O=>?_,q,es,ep,j,h2,h3,h4,h5];rw[zl (zom O e (λz=>nomatch z))];exact O
end
section
variable {X:Cx}{C:Hs (AJ×Bd)}{B:St}{H:Hp}{s:AK}{a:AJ}{kvs:Hs (Key×V)}{k:Key}{u:AG}{A:Ar}{E:AG->AK->Prop}
end
def yel(i:AX):Prop:=∀a b,subscripted i AB a b=operate [a,b] (getItem a b)
def zlq{prog:Ae}{w:Aq}{A:Ar}{E:AG->AK->Prop}{s:AK}{env:Env}{b a:AX}{pos:Bq}{T id:IM}{Q:AG->AK->Prop}
  (p:typeLookup (.type T) "__getitem__"=pure (AA (.builtin id))) (q:yel a)
  (h:Aa (model prog w) A (eval b env) (λo f=>Aa (model prog w) A (eval a env) (λi c=>c.TypeIs o T/\Aa (model prog w) A (getItem o i) Q E c) E f) E s):
  Aa (model prog w) A (eval (.Subscript b a pos) env) Q E s:=by
 refine Gv (Bj h (λo f l=>Bj l (λi c d=>?_) λ_ _ x=>x) λ_ _ x=>x);let#[n,d]:=d;unfold subscriptTail;refine AI ?_;rw[getitemInPython_of_ne n.not_modules];refine AI (wpAny_specialOf n p ?_);have j:Aa (model prog w) A (subscripted a AB o i) (λr g=>Aa (model prog w) A (letTemporaryGo b o r >>= λ_=>pure r) Q E g) E c:=by rw[q o i];exact wpAny_operating (Bj d (λr g m=>AI (wpAny_letTemporaryGo (AZ m))) λ_ _ x=>x)
 first
  |exact AZ (AI j)
  |exact AI (AZ (AI j))
  |exact AI j
def yeB(c d f:TE):TS:=λD A H=>f A H λv g=>c A g λx j=>d A j λy l=>∃a b,x=.ref a/\yfA l a y v b/\D.nx A b
section
variable {X:Cx}{o i e value:AX}{pos pos' tpos:Bq}{td ty tv:TE}
def zk8(c:X.A.units+1<cLine)(d:PE X o td)(f:PE X i ty)(j:PE X value tv)(l:swapsWith value (AA (.Subscript o i pos')) pos.line X.env=pure AB):
  PS X (.Assign [.Subscript o i pos'] value pos) (yeB td ty tv):=by intro C s B H D I h;refine wpAny_Assign_Subscript (thn (j C s B H _ I h) λr m b=>?_) l;let#[v,n,p,q,t]:=b;refine thn (d C m B n _ p t) λu w b=>?_;let#[x,z,A,E,G]:=b;refine thn (f C w B z _ A G) λQ U b=>?_;let#[y,Y,J,L,a,M,ex,g,N]:=b;subst ex;obtain rfl:u=Ak a:=E;exact zhR c J g L q λZ O=>#[B,M,O,N]
end
def zjk{P:Ae}{w:Aq}{H:Hp}(h:BB)(a:sysModules<h.objs.size):yaa P w H (h.push {cls:=.type "dict",data:=.dict (Hs.toArray [])}) h.objs.size (.dK []):=
 #[Ab _,IF.mpr (BW (Aw a)),[],.nil,Heap.DictOf.new h]
section
variable {X:Cx}{pos:Bq}
end
def yby:Hs (TE×TE)->St->Hp->(Hs (V×V)->Hp->Prop)->Prop
 |[],_,H,Q=>Q [] H
 |(a,b)::r,A,H,Q=>a A H λx c=>b A c λy d=>yby r A d λf g=>Q ((x,y)::f) g
abbrev VV:Hs (V×V)->Hs (AG×AG)->Prop:=G0 λp q=>RelV p.1 q.1/\RelV p.2 q.2
def PPs(X:Cx)(pos:Bq)(b:Hs (Option AX))(a:Hs AX)(c:Hs (TE×TE)):Prop:=
 ∀(C:Hs (AJ×Bd)) (s:AK) (B:St) (H:Hp) (Q:Hs (V×V)->Hp->Prop),Inv X C B H s->yby c B H Q ->
  Aa (model X.prog X.w) X.A (evalPairs (pairTrees b a X.env pos)) (λg j=>∃d f,Inv X C B f j/\VV d g/\Q d f) X.xe s
def zkA{X:Cx}{pos:Bq}:PPs X pos [] [] []:=λB s A H Q I h=>pairTrees_nil_walk #[[],H,I,.nil,h]
def zi0{X:Cx}{pos:Bq}{k v:AX}{b:Hs (Option AX)}{vs:Hs AX}{c d:TE}{a:Hs (TE×TE)}(f:PE X k c)(g:PE X v d)(j:PPs X pos b vs a):
  PPs X pos (AA k::b) (v::vs) ((c,d)::a):=λB s A H Q I h=>
 pairTrees_cons_walk (thn (f B s A H _ I h) λu l #[x,m,n,o,p]=>thn (g B l A m _ n p) λJ q #[y,r,t,w,z]=>
  thn (j B q A r _ t z) λL M #[C,D,E,rel,G]=>#[(x,y)::C,D,E,.cons #[o,w] rel,G])
def yaZ(a more:Hs (Key×V)):Hs (Key×V):=more.foldl (λb c=>putK b c.1 c.2) a
theorem KV.merge:∀{more:Hs (Key×V)} {rs:Hs (Key×AG)} {a:Hs (Key×V)} {vs:Hs (Key×AG)},KV more rs->KV a vs->KV (yaZ a more) (merged vs rs):=by
 intro more rs a vs r;unfold KV at r
 induction r generalizing a vs with
 |nil=>intro q;exact q
 |@cons p q c d h t ih=>
  intro b;have e:KV (putK a p.1 p.2) (stored vs q.1 q.2):=by have:=b.put p.1 h.2;rw[<-h.1];exact this
  exact ih e
def zbF:∀(more a:Hs (Key×V)),(yaZ a more).length<=a.length+more.length
 |[],a=>by show a.length<=a.length+0;lia
 |p::r,a=>by have b:=zbF r (putK a p.1 p.2);have c:=zby a p.1 p.2;show (yaZ (putK a p.1 p.2) r).length<=_;rw[AV];lia
def zc3{P:Ae}{w:Aq}:∀{d:Hs (Key×V)} {g:Hs (AG×AG)},VV (d.map λj=>(kV j.1,j.2)) g->∃f,Carries (yV P w) g f/\KV d f
 |[],_,r=>by rw[BH]at r;cases r;exact#[[],CD,.nil]
 |p::d,_,r=>by
  rw[AW]at r
  cases r with
  |@cons a b m bs h t=>
   let#[f,c,q]:=zc3 (P:=P) (w:=w) t;let#[n,l]:=b;exact#[(p.1,l)::f,#[zjd h.1,rfl,c],.cons #[rfl,h.2] q]
def yfr(b:Hs (TE×TE)):TE:=λA H Q=>∀p,H p=AD->yby b A (upd H p (.dK [])) λf c=>c p=AA (.dK [])/\∃a:Hs (Key×V),f=a.map (λd=>(kV d.1,d.2))/\a.length<=15/\Q (.ref p) (upd c p (.dK (yaZ [] a)))
def zlu{X:Cx}{pos:Bq}{b:Hs (Option AX)}{d:Hs AX}{f:Hs (TE×TE)}(h:PPs X pos b d f)(g:b.all (·.isSome)=AC)(p:b.length=d.length)(r:b≠[])
  (m:b.length<=15):PE X (.Dict b d pos) (yfr f):=by
 intro B s A H Q I q;have t:=I.hok.fresh (AS s.heap.objs.size);have u:=I.laid (a:=s.heap.objs.size) (o:=.dK []) (h':=s.heap.push {cls:=.type "dict",data:=.dict (Hs.toArray [])}) (t':=s.toks) (λ_ _ q=>AR _ q) (AS _) (zjk s.heap I.big);refine wpAny_Dict_walk (knd:=yV X.prog X.w) g p r m (thn (h B _ A _ _ u (q _ t)) λws s2 x=>?_);let#[ps,H2,n,rel,e,j,y,lk,C]:=x;subst y;let#[D,c,E]:=zc3 (P:=X.prog) (w:=X.w) rel;let#[z,G,J,L,M]:=zlR n.hok e
 cases L
 refine#[D,c,M,λh' l N=>#[.ref s.heap.objs.size,_,?_,rfl,C]];have O:(yaZ [] j).length<=sizeLine:=by have U:=zbF j [];rw[Ap]at U;rw[Be];lia
 have Y:∃q,h'.get? s.heap.objs.size=AA q:=let #[q,_,_,Z,_]:=l;#[q,Z]
 exact zeK n (by rw[e];exact CD) N Y (zjJ O G (E.merge .nil) l)
structure M2(X:Cx)(o:AX)(m:AQ)(apos:Bq)(e f:AX)(cpos:Bq):Prop where
 base:attributeBase o m X.env (eval o X.env)=eval o X.env
 few:((backTo cpos (starEach [e,f] X.env)).all (λx=>!x.1)&&(backToKw cpos (keywordEach [] X.env)).all (λx=>x.1.isSome)
  && decide (([e,f]:Hs AX).length+([]:Hs Br).length+(if ([]:Hs Br).isEmpty then 0 else 1)<30))=AC
 line:(apos.endLine==cpos.line)=AC
 trees:backTo cpos (starEach [e,f] X.env)=[(AB,eval e X.env),(AB,eval f X.env)]
def IsD(H:Hp)(a:AJ):Prop:=(∃b,Rd H a (.dK b)) \/ ∃b,Rd H a (.dT b)
def zmY{X:Cx}{B:Hs (AJ×Bd)}{A:St}{H:Hp}{s:AK}{a:AJ}(I:Inv X B A H s)(d:IsD H a):
  s.TypeIs (.ref a) "dict"/\(∀b,Ak a=.ref b->∃c,s.heap.get? b=AA c/\c.dict=AD)/\(a==sysModules)=false:=by
 rcases d with⟨g,e⟩|⟨g,e⟩
 .let#[_,j,n,_,f]:=zkk I.hok e;refine#[f.typeIs,λb q=>?_,j]
  cases q
  let#[c,_,_,l,m,_]:=f;exact#[c,l,m.2.1]
 .let#[_,j,o,_,f]:=zkv I.hok e;refine#[f.typeIs,λb q=>?_,j]
  cases q
  let#[c,_,_,l,m,_]:=f;exact#[c,l,m.2.1]
section
variable {X:Cx}{C:Hs (AJ×Bd)}{B:St}{H:Hp}{s:AK}{a:AJ}{y d:V}{u r:AG}{o:Option V}{A:Ar}{E:AG->AK->Prop}
def zmu{Q:AG->AK->Prop}(w:A.units+1<cLine)(I:Inv X C B H s)(g:yfF H a y o)(n:RelV y u)(p:RelV d r)(h:∀q t,Inv X C B H t->RelV (o.getD d) q->Q q t):
  Aa (model X.prog X.w) A (call (.builtin "dict.get") [.ref a,u,r]) Q E s:=by
 rcases g with⟨f,k,e,j,l⟩|⟨f,k,b,e,j,x,l⟩
 .subst j;let#[z,m,G,rel,c]:=zkk I.hok e;refine call_meetsIn DW c.typeIs FD (Eg _ _ _) (meets_dict_get_default (yV X.prog X.w) a (zjd n) m r) #[_,c.mapOf,h _ _ (I.tok _) ?_];rw[l];exact(rel.val k).getD p
 .subst j
  cases (show u=Ak b from n)
  let#[z,m,D,rel,c]:=zkv I.hok e;refine call_meetsIn DW c.typeIs FD (Eg _ _ _) (meetsH_dict_get_default (tupleKind (yV X.prog X.w)) a b m r) #[Fw w,k,D,zgw I.hok x,c,h _ _ (I.tok _) ?_];rw[l];exact(rel.val k).getD p
end
def ydA(d f g:TE):TE:=λA H Q=>d A H λx b=>∃a,x=.ref a/\IsD b a/\f A b λy j=>g A j λz c=>∃o,yfF c a y o/\Q (o.getD z) c
section
variable {X:Cx}{o e f:AX}{apos cpos:Bq}{td ty tx:TE}
def ziu(j:X.A.units+1<cLine)(l:PE X o td)(n:PE X e ty)(hf:PE X f tx)(m:M2 X o "get" apos e f cpos):PE X (.Call (.Attribute o "get" apos) [e,f] [] cpos) (ydA td ty tx):=by
 intro C s B H Q I h;refine wpAny_Call_method m.base m.few m.line PySem.F.plainAttrs_dict DW PySem.F.type_dict_get (thn (l C s B H _ I h) λu p q=>?_);let#[x,r,c,t,a,ex,d,w]:=q;subst ex;obtain rfl:u=Ak a:=t;let#[A,D,_]:=zmY c d;refine#[A,D,?_];rw[m.trees];refine Ey rfl (D7 (Dw (thn (n C p B r _ c w) λiv E #[y,G,J,L,M]=>
  Dw (thn (hf C E B G _ J M) λfv s3 #[z,N,O,U,ov,g,Y]=>GG ?_))))
 exact zmu j O g L U λw' s4 Z b=>#[_,N,Z,b,Y]
end
section
variable {X:Cx}{C:Hs (AJ×Bd)}{B:St}{H:Hp}{s:AK}{a:AJ}{kvs:Hs (Key×V)}{A:Ar}{E:AG->AK->Prop}
end
section
variable {X:Cx}{C:Hs (AJ×Bd)}{B:St}{H:Hp}{s:AK}{a:AJ}{y:V}{u:AG}{A:Ar}{E:AG->AK->Prop}
end
end L2
namespace IC
open PySem
inductive PV where
 |non|bl (b:Hy)|int (i:Hw)|str (x:AQ)|tp (k:Hy) (xs:Hs PV)|lst (xs:Hs PV)|loc (n:Ht)|exn (c:Ht)|scr (xs:Hs PV)|fnc (j:Ht)
deriving Inhabited
abbrev PV.tup(xs:Hs PV):PV:=.tp AB xs
mutual
noncomputable def nL:PV->Hy
 |.loc _=>AB
 |.exn _=>AB
 |.fnc _=>AC
 |.tp _ a=>nLs a
 |.lst a=>nLs a
 |.scr a=>nLs a
 |_=>AC
noncomputable def nLs:Hs PV->Hy
 |[]=>AC
 |x::a=>nL x&&nLs a
end
mutual
noncomputable def shd(n:Ht):PV->Hy
 |.non=>AC
 |.bl _=>AC
 |.int _=>AC
 |.str x=>x.cps.all (· < 0x110000)
 |.tp _ a=>decide (0<n)&&ybj (n-1) a
 |.lst a=>decide (0<n)&&ybj (n-1) a
 |_=>AB
noncomputable def ybj(n:Ht):Hs PV->Hy
 |[]=>AC
 |x::a=>shd n x&&ybj n a
end
abbrev shp(v:PV):Hy:=shd 60 v
def flat:PV->Hy
 |.non=>AC
 |.bl _=>AC
 |.int _=>AC
 |.str _=>AC
 |_=>AB
def bi(b:Hy):Hw:=if b then 1 else 0
mutual
noncomputable def peq:PV->PV->Hy
 |.non,.non=>AC
 |.bl a,.bl b=>a==b
 |.bl a,.int j=>bi a==j
 |.int i,.bl b=>i==bi b
 |.int i,.int j=>i==j
 |.str x,.str y=>x==y
 |.tp _ c,.tp _ d=>yci c d
 |.lst c,.lst d=>yci c d
 |_,_=>AB
noncomputable def yci:Hs PV->Hs PV->Hy
 |[],[]=>AC
 |x::a,y::b=>peq x y&&yci a b
 |_,_=>AB
end
inductive Ob where
 |lst (xs:Hs PV)|dct (t:Hy) (kvs:Hs (PV×PV))|dead|ins (c:Ht) (fs:Hs (AQ×PV))
abbrev Env:=Hs (Option PV)
abbrev SO:=Hs Ob
inductive R(A:Type) where
 |ok (a:A) (st:SO)|exc (c:Ht) (st:SO)|bad
def R.bind{A B:Type}(r:R A)(k:A->SO->R B):R B:=
 match r with
 |.ok a st=>k a st
 |.exc c st=>.exc c st
 |.bad=>.bad
inductive BOp where
 |add|sub|mul|fdiv|mod|pow|shl|shr|band|bor|bxor
inductive COp where
 |eq|ne|lt|le|gt|ge|is|isnot|isin|notin
inductive Ty where
 |int|bool|str|tuple|list|cls (c:Ht)|val
inductive Blt where
 |len|int|abs|min|max|tuple|list|all|sum|dict|rev|str|any
inductive Mth where
 |append|extend|get|bits|upper|insert|count|index|join|split|sidx|clear
inductive Tg where
 |n (i:Ht)|t (l:Hs Ht)
set_option genInjectivity false
mutual
inductive Ce where
 |cst (v:PV)
 |var (i:Ht)
 |bin (o:BOp) (a b:Ce)
 |neg (a:Ce)
 |not (a:Ce)
 |and (a b:Ce)
 |or (a b:Ce)
 |cmp (o:COp) (a b:Ce)
 |chain (o p:COp) (a b c:Ce)
 |ite (c a b:Ce)
 |tup (es:Ces)
 |lst (es:Ces)
 |newl (es:Ces)
 |newd (kvs:Hs (AQ×Hw))
 |idx (a i:Ce)
 |slc (a:Ce) (lo hi:Ce)
 |call (f:Ht) (args:Ces)
 |blt (b:Blt) (args:Ces)
 |mth (m:Mth) (o:Ce) (args:Ces)
 |isi (a:Ce) (t:Hs Ty)
 |isx (a:Ce) (cs:Hs Ht) (t:Hs Ty)
 |comp (sl:Hs (Option Ht)) (tg:Tg) (it:Cit) (c:Ce) (e:Ce)
 |frz (a:Ce)
 |nope
 |rep (a b:Ce)
 |dix (D:Hs (AQ×PV)) (a:Ce)
 |din (a:Ce) (D:Hs (AQ×PV))
 |thw (a:Ce)
 |nin (a b:Ce)
 |fld (c:Ht) (a:Ce) (f:AQ)
 |new (c i:Ht) (es:Ces)
 |mcl (c i:Ht) (m:AQ) (o:Ce) (es:Ces)
 |cml (sl:Hs (Option Ht)) (tg:Tg) (i:Ce) (e:Ce)
inductive Ces where
 |nil
 |cons (e:Ce) (es:Ces)
inductive Cit where
 |seq (e:Ce)
 |range1 (a:Ce)
 |range2 (a b:Ce)
 |rangeD (a b:Ce)
 |enum (e:Ce)
 |zip (a b:Ce)
 |revl (e:Ce)
 |revr (a:Ce)
 |chars (e:Ce)
end
set_option genInjectivity true
abbrev Ce.i(n:Hw):Ce:=.cst (.int n)
abbrev Ce.s(x:AQ):Ce:=.cst (.str x)
abbrev Ce.v:=Ce.var
abbrev Ces.k:=Ces.cons
abbrev Ces.e:=Ces.nil
mutual
inductive Cs where
 |expr (e:Ce)
 |asg (t:Tg) (e:Ce)
 |six (o i e:Ce)
 |dput (o i e:Ce)
 |aug (i:Ht) (o:BOp) (e:Ce)
 |ret (e:Ce)
 |ite (c:Ce) (a b:Css)
 |for (t:Tg) (it:Cit) (b:Css)
 |while (c:Ce) (b:Css)
 |nope
 |raise (c:Ht) (e:Ce)
 |try (b:Css) (cs:Hs Ht) (i:Ht) (h:Css)
 |six2 (o i p j e f:Ce)
 |sfl (c:Ht) (o:Ce) (f:AQ) (e:Ce)
inductive Css where
 |nil
 |cons (s:Cs) (ss:Css)
end
abbrev Css.k:=Css.cons
abbrev Css.e:=Css.nil
def ya2(i j:Hw):Hy:=(decide (i.natAbs<18446744073709551616)) || (decide (j.natAbs<18446744073709551616))
def binI(o:BOp)(i j:Hw):Option PV:=
 match o with
 |.add=>AA (.int (i+j))
 |.sub=>AA (.int (i-j))
 |.mul=>if ya2 i j then AA (.int (i*j))else AD
 |.fdiv=>if 0<j/\j<10000000000000000000000000000000000000000000000000000000000000000000000 then AA (.int (i/j))else AD
 |.mod=>if 0<j then AA (.int (i%j))else AD
 |.pow=>if 0<=j/\j<=1000000/\i.natAbs<18446744073709551616 then AA (.int (i^j.toNat))else AD
 |.shl=>if 0<=j/\j<=1000000/\i.natAbs<18446744073709551616 then AA (.int (i*2^j.toNat))else AD
 |.shr=>if 0<=j then AA (.int (i/2^j.toNat))else AD
 |.band=>AA (.int (Builtin.bitAnd i j))
 |.bor=>AA (.int (Builtin.bitOr i j))
 |.bxor=>AA (.int (Builtin.bitXor i j))
def sizeMax:Ht:=16777216
def yeg(k:Hy)(a:Hs PV)(j:Hy)(b:Hs PV):PV:=if a.isEmpty then .tp j b else if b.isEmpty then .tp k a else .tup (a++b)
def yc5(x y:PV):Option PV:=
 match x,y with
 |.str a,.int n=>if 1<=n/\n<=1000/\a.length<=1000/\1<=a.length then AA (.str #[(AL n.toNat a.cps.toList).flatten.toArray])else AD
 |.tp k a,.int n=>if n=1 then AA (.tp k a)else if 2<=n/\n<=1000/\a.isEmpty=AB/\a.length<=1000 then AA (.tup (AL n.toNat a).flatten)else if n=0/\a.isEmpty=AB then AA (.tup [])else AD
 |.lst a,.int n=>if 1<=n/\n<=1000/\a.length<=1000 then AA (.lst (AL n.toNat a).flatten)else AD
 |_,_=>AD
def yO(o:BOp)(x y:PV):Option PV:=
 match x,y with
 |.int i,.int j=>binI o i j
 |.int i,.bl b=>match o with
  |.add=>AA (.int (i+bi b))
  |_=>AD
 |.str a,.str b=>match o with
  |.add=>if a.length+b.length<=sizeMax then AA (.str (a++b))else AD
  |_=>AD
 |.tp k a,.tp j b=>match o with
  |.add=>if a.length+b.length<=sizeMax then AA (yeg k a j b)else AD
  |_=>AD
 |.lst a,.lst b=>match o with
  |.add=>if a.length+b.length<=sizeMax then AA (.lst (a++b))else AD
  |_=>AD
 |_,_=>AD
def ybM(o:BOp)(x y:PV):Option PV:=
 match x,y with
 |.int i,.int j=>binI o i j
 |_,_=>AD
def ydX:PV->Hy
 |.non=>AC
 |_=>AB
def inL(x:PV):Hs PV->Hy
 |[]=>AB
 |y::a=>peq y x || inL x a
def inS(a b:AQ):Hy:=(En (b.length+1)).any λi=>decide (i+a.length<=b.length)&&(b.cps.extract i (i+a.length)==a.cps)
def ycf(o:COp)(i j:Hw):Option PV:=
 match o with
 |.lt=>AA (.bl (decide (i<j)))
 |.le=>AA (.bl (decide (i<=j)))
 |.gt=>AA (.bl (decide (j<i)))
 |.ge=>AA (.bl (decide (j<=i)))
 |_=>AD
def ydG(o:COp)(a b:AQ):Option PV:=
 match o with
 |.lt=>AA (.bl (decide (a.cps.toList<b.cps.toList)))
 |.le=>AA (.bl (!decide (b.cps.toList<a.cps.toList)))
 |_=>AD
def yJ(o:COp)(x y:PV):Option PV:=
 match o with
 |.eq=>if shp x&&shp y then AA (.bl (peq x y))else AD
 |.ne=>if shp x&&shp y then AA (.bl (!peq x y))else AD
 |.is=>match y with
  |.non=>AA (.bl (ydX x))
  |.bl b=>match x with
   |.bl a=>AA (.bl (a==b))
   |_=>AD
  |_=>AD
 |.isnot=>match y with
  |.non=>AA (.bl (!ydX x))
  |.bl b=>match x with
   |.bl a=>AA (.bl (!(a==b)))
   |_=>AD
  |_=>AD
 |.isin=>match x,y with
  |.str a,.str b=>AA (.bl (inS a b))
  |x,.tp _ l=>if flat x&&l.all flat then AA (.bl (inL x l))else AD
  |x,.lst l=>if flat x&&l.all flat then AA (.bl (inL x l))else AD
  |_,_=>AD
 |.notin=>match x,y with
  |.str a,.str b=>AA (.bl (!inS a b))
  |x,.tp _ l=>if flat x&&l.all flat then AA (.bl (!inL x l))else AD
  |x,.lst l=>if flat x&&l.all flat then AA (.bl (!inL x l))else AD
  |_,_=>AD
 |o=>match x,y with
  |.int i,.int j=>ycf o i j
  |.str a,.str b=>ydG o a b
  |_,_=>AD
def yaU(st:SO)(x:PV):Option Hy:=
 match x with
 |.non=>AA AB
 |.bl b=>AA b
 |.int i=>AA (i != 0)
 |.str y=>if y.length<=sizeMax then AA ((y.length:Hw) != 0)else AD
 |.tp _ a=>AA (!a.isEmpty)
 |.lst a=>AA (!a.isEmpty)
 |.loc n=>match st[n]? with
  |some (.lst a)=>AA (!a.isEmpty)
  |_=>AD
 |_=>AD
def ixI(n:Ht)(i:Hw):Option Ht:=if 0<=i then(if i<n then AA i.toNat else AD)else if -(n:Hw)<=i then AA (i+n).toNat else AD
def at?{A:Type}(xs:Hs A)(i:Hw):Option A:=(ixI xs.length i).bind λj=>xs[j]?
def look(k:PV):Hs (PV×PV)->Option PV
 |[]=>AD
 |(a,b)::r=>if peq a k then AA b else look k r
def put(k v:PV)(a:Hs (PV×PV)):Hs (PV×PV):=
 if (a.any λp=>peq p.1 k)=AC then a.map (λp=>if peq p.1 k=AC then(p.1,v)else p)else a++[(k,v)]
def ybG:PV->Hy
 |.int _=>AC
 |.str _=>AC
 |_=>AB
def isKey(t:Hy)(k:PV):Hy:=
 match t with
 |false=>ybG k
 |true=>match k with
  |.tp AB a=>a.all ybG
  |_=>AB
def yaQ{A:Type}(xs:Hs A)(i:PV):Option A:=
 match i with
 |.int k=>at? xs k
 |_=>AD
def idxV(st:SO)(x i:PV):Option PV:=
 match x with
 |.tp _ a=>yaQ a i
 |.lst a=>yaQ a i
 |.str s=>if s.length<=sizeMax then(yaQ s.cps.toList i).map λc=>.str #[(Hs.toArray [c])]else AD
 |.loc n=>match st[n]? with
  |some (.lst a)=>yaQ a i
  |_=>AD
 |_=>AD
def ybk(n:Ht)(v:Hw):Ht:=if v<0 then(v+(n:Hw)).toNat else min v.toNat n
def ycP(n:Ht)(lo:Option Hw):Ht:=
 match lo with
 |none=>0
 |some i=>ybk n i
def yct(n:Ht)(a:Option Hw):Ht:=
 match a with
 |none=>n
 |some i=>ybk n i
def cut{A:Type}(xs:Hs A)(lo a:Option Hw):Hs A:=(xs.drop (ycP xs.length lo)).take (yct xs.length a-ycP xs.length lo)
def yb9:PV->Option (Option Hw)
 |.non=>AA AD
 |.int i=>AA (AA i)
 |_=>AD
def ybh(x:PV)(a b:Option Hw):Option PV:=
 match x with
 |.tp k c=>if ycP c.length a=0/\yct c.length b=c.length then AA (.tp k c)else AA (.tup (cut c a b))
 |.str s=>if s.length<=sizeMax then AA (.str #[(cut s.cps.toList a b).toArray])else AD
 |.lst c=>AA (.lst (cut c a b))
 |.scr c=>AA (.lst (cut c a b))
 |_=>AD
def ycl(x:PV)(a:Option Hw)(c:PV):Option PV:=
 match yb9 c with
 |some b=>ybh x a b
 |none=>AD
def yF(x:PV)(t:Ty):Hy:=
 match x,t with
 |.int _,.int=>AC
 |.bl _,.int=>AC
 |.bl _,.bool=>AC
 |.str _,.str=>AC
 |.tp _ _,.tuple=>AC
 |.lst _,.list=>AC
 |.exn c,.cls d=>c==d
 |.exn _,.val=>AC
 |_,_=>AB
def yK:Ty->Hy
 |.cls _=>AB
 |.val=>AB
 |_=>AC
def yG(x:PV)(ts:Hs Ty):Option PV:=
 match x with
 |.loc _=>AD
 |.scr _=>AD
 |.fnc _=>AD
 |.exn c=>if ts.all yK then AD else AA (.bl (ts.any (yF (.exn c))))
 |x=>match ts with
  |[t]=>if yK t then AA (.bl (yF x t))else AD
  |_=>AD
def ycy(a:Hs Ht)(x:PV)(ts:Hs Ty):Option PV:=
 match x with
 |.exn c=>if a.contains c then AA (.bl (ts.any (yF (.exn c))))else AD
 |_=>AD
def allB:Hs PV->Option Hy
 |[]=>AA AC
 |.bl b::r=>match allB r with
  |some c=>AA (b&&c)
  |none=>AD
 |_::_=>AD
def ycQ:Hs PV->Option Hw
 |[]=>AA 0
 |.int i::r=>match ycQ r with
  |some c=>AA (i+c)
  |none=>AD
 |_::_=>AD
def ydu:Hs PV->Option Hw
 |[]=>AD
 |[.int i]=>AA i
 |.int i::r=>match ydu r with
  |some c=>AA (if i<c then c else i)
  |none=>AD
 |_::_=>AD
def yaM(st:SO):PV->Option (Hs PV)
 |.tp _ a=>AA a
 |.lst a=>AA a
 |.loc n=>match st[n]? with
  |some (.lst a)=>AA a
  |_=>AD
 |_=>AD
def yQ(st:SO):PV->Option (Hs PV)
 |.lst a=>AA a
 |.loc n=>match st[n]? with
  |some (.lst a)=>AA a
  |_=>AD
 |_=>AD
def lenV(st:SO)(x:PV):Option PV:=
 match x with
 |.str s=>if s.length<=sizeMax then AA (.int s.length)else AD
 |x=>(yaM st x).map λa=>.int a.length
def yg8(x:PV):Option PV:=
 match x with
 |.int i=>AA (.int i)
 |.bl k=>AA (.int (bi k))
 |_=>AD
def yeE(x:PV):Option PV:=
 match x with
 |.int i=>AA (.int (if i<0 then -i else i))
 |_=>AD
def yfM(x y:PV):Option PV:=
 match x,y with
 |.int i,.int j=>AA (.int (if j<i then j else i))
 |_,_=>AD
def maxV(x y:PV):Option PV:=
 match x,y with
 |.int i,.int j=>AA (.int (if i<j then j else i))
 |_,_=>AD
def ycs(st:SO)(x:PV):Option PV:=
 match x with
 |.tp k a=>AA (.tp k a)
 |x=>(yQ st x).map .tup
def yhz:PV->Option PV
 |.tp _ a=>if a.isEmpty then AD else AA (.tup a.reverse)
 |.lst a=>AA (.lst a.reverse)
 |_=>AD
def anyB:Hs PV->Option Hy
 |[]=>AA AB
 |.bl b::r=>match anyB r with
  |some c=>AA (b || c)
  |none=>AD
 |_=>AD
def anyI:Hs PV->Option Hy
 |[]=>AA AB
 |.int i::r=>match anyI r with
  |some c=>AA ((i != 0) || c)
  |none=>AD
 |_=>AD
def yhN:PV->Option PV
 |.int i=>if i=0 then AA (.str "0")else if i=1 then AA (.str "1")else AD
 |_=>AD
def yX(b:Blt)(st:SO)(vs:Hs PV):Option PV:=
 match vs with
 |[x]=>match b with
  |.len=>lenV st x
  |.int=>yg8 x
  |.abs=>yeE x
  |.max=>(yQ st x).bind λa=>(ydu a).map .int
  |.tuple=>ycs st x
  |.list=>(yaM st x).map .lst
  |.all=>(yQ st x).bind λa=>(allB a).map .bl
  |.sum=>(yQ st x).bind λa=>(ycQ a).map .int
  |.rev=>yhz x
  |.str=>yhN x
  |.any=>match x with
   |.tp _ a=>(anyI a).map .bl
   |x=>(yQ st x).bind λa=>(anyB a).map .bl
  |_=>AD
 |[x,y]=>match b with
  |.min=>yfM x y
  |.max=>maxV x y
  |_=>AD
 |_=>AD
def ybm(st:SO):PV->Option (Hy×Hs (PV×PV))
 |.loc n=>match st[n]? with
  |some (.dct t a)=>AA (t,a)
  |_=>AD
 |_=>AD
def yas(m:Mth)(st:SO)(x:PV):Option Hy:=
 match m with
 |.append=>(yQ st x).map λ_=>AC
 |.extend=>(yQ st x).map λ_=>AC
 |.insert=>(yQ st x).map λ_=>AC
 |.count=>(yQ st x).map λ_=>AC
 |.index=>(yQ st x).map λ_=>AC
 |.get=>(ybm st x).map λ_=>AC
 |.bits=>match x with
  |.int _=>AA AC
  |_=>AD
 |.upper=>match x with
  |.str _=>AA AC
  |_=>AD
 |.join=>match x with
  |.str _=>AA AC
  |_=>AD
 |.split=>match x with
  |.str _=>AA AC
  |_=>AD
 |.sidx=>match x with
  |.str _=>AA AC
  |_=>AD
 |.clear=>match x with
  |.loc n=>(yQ st (.loc n)).map λ_=>AC
  |_=>AD
def yed(st:SO)(o v:PV):R PV:=
 match o with
 |.loc n=>match st[n]? with
  |some (.lst a)=>if a.length<1000000 then .ok .non (st.set n (.lst (a++[v])))else .bad
  |_=>.bad
 |_=>.bad
def yfb(st:SO)(o v:PV):R PV:=
 match o with
 |.loc n=>match st[n]? with
  |some (.lst a)=>match v with
   |.lst b=>if a.length+b.length<=1000000 then .ok .non (st.set n (.lst (a++b)))else .bad
   |_=>.bad
  |_=>.bad
 |_=>.bad
def yep(st:SO)(o i v:PV):R PV:=
 match o with
 |.loc n=>match st[n]? with
  |some (.lst a)=>match i with
   |.int k=>if 0<=k/\k<=a.length/\a.length<1000000 then .ok .non (st.set n (.lst (a.take k.toNat++v::a.drop k.toNat)))else .bad
   |_=>.bad
  |_=>.bad
 |_=>.bad
def yd2(st:SO)(o k d:PV):R PV:=
 match ybm st o with
 |some (t,a)=>if isKey t k then .ok ((look k a).getD d) st else .bad
 |none=>.bad
def yhT(st:SO)(o v:PV):R PV:=
 match yQ st o with
 |some a=>if flat v&&a.all flat then .ok (.int (a.countP λy=>peq y v)) st else .bad
 |none=>.bad
def ydC(v:PV):Hs PV->Option Ht
 |[]=>AD
 |y::a=>if peq y v then AA 0 else(ydC v a).map (·+1)
def yf4(st:SO)(o v:PV):R PV:=
 match yQ st o with
 |some a=>if flat v&&a.all flat then(match ydC v a with
  |some j=>.ok (.int j) st
  |none=>.bad)else .bad
 |none=>.bad
def upC(c:Ht):Ht:=if 97<=c/\c<=122 then c-32 else c
def upS(s:AQ):Str:=#[(s.cps.toList.map upC).toArray]
def yca(c:Ht):Hs Ht->Hs (Hs Ht)
 |[]=>[[]]
 |x::a=>if x=c then []::yca c a else match yca c a with
  |[]=>[[x]]
  |p::b=>(x::p)::b
def strsOf:Hs PV->Option (Hs AQ)
 |[]=>AA []
 |.str s::r=>(strsOf r).map (s :: ·)
 |_=>AD
def ye9(st:SO)(o v:PV):R PV:=
 match o,yQ st v with
 |.str s,AA a=>match strsOf a with
  |some b=>if s.length<=10/\a.length<=1000/\(b.all λy=>decide (y.length<=1000))=AC then .ok (.str (Str.join s b)) st else .bad
  |none=>.bad
 |_,_=>.bad
def yhi(st:SO)(o:PV):R PV:=
 match o with
 |.loc n=>match st[n]? with
  |some (.lst _)=>.ok .non (st.set n (.lst []))
  |_=>.bad
 |_=>.bad
def ye8(st:SO)(o v:PV):R PV:=
 match o,v with
 |.str s,.str y=>if s=AE "01" then(if y=AE "0" then .ok (.int 0) st else if y=AE "1" then .ok (.int 1) st else .bad)else .bad
 |_,_=>.bad
def yd9(st:SO)(o v:PV):R PV:=
 match o,v with
 |.str s,.str y=>match y.cps.toList with
  |[c]=>if s.length<=100000 then .ok (.lst ((yca c s.cps.toList).map λl=>.str #[l.toArray])) st else .bad
  |_=>.bad
 |_,_=>.bad
def ybs(m:Mth)(st:SO)(o:PV)(vs:Hs PV):R PV:=
 match m,vs with
 |.append,[v]=>yed st o v
 |.extend,[v]=>yfb st o v
 |.insert,[i,v]=>yep st o i v
 |.get,[k,d]=>yd2 st o k d
 |.count,[v]=>yhT st o v
 |.index,[v]=>yf4 st o v
 |.join,[v]=>ye9 st o v
 |.split,[v]=>yd9 st o v
 |.sidx,[v]=>ye8 st o v
 |.clear,[]=>yhi st o
 |.bits,[]=>match o with
  |.int i=>.ok (.int (Builtin.Int.intBits i)) st
  |_=>.bad
 |.upper,[]=>match o with
  |.str s=>if s.cps.toList.all (· < 128)/\s.length<=1000000 then .ok (.str (upS s)) st else .bad
  |_=>.bad
 |_,_=>.bad
def toR(o:Option PV)(st:SO):R PV:=
 match o with
 |some v=>.ok v st
 |none=>.bad
def yW(t:Tg)(v:PV)(Y:Env):Option Env:=
 match t,v with
 |.n i,v=>AA (Y.set i (AA v))
 |.t l,.tp _ a=>if l.length=a.length then AA ((l.zip a).foldl (λY p=>Y.set p.1 (AA p.2)) Y)else AD
 |_,_=>AD
def yar:Ht->Hs PV->Hs PV
 |_,[]=>[]
 |k,x::a=>.tup [.int k,x]::yar (k+1) a
def yag:Hs PV->Hs PV->Hs PV
 |x::a,y::b=>.tup [x,y]::yag a b
 |_,_=>[]
def yf3:PV->Option (Hs PV)
 |.tp _ a=>AA a.reverse
 |.lst a=>AA a.reverse
 |_=>AD
def ydR:PV->Option (Hs PV)
 |.str s=>if s.length<=1000000 then AA (s.cps.toList.map λc=>.str #[(Hs.toArray [c])])else AD
 |_=>AD
def yey(x y:PV):Option (Hs PV):=
 match x,y with
 |.tp _ a,.tp _ b=>if a.length<=b.length then AA (yag a b)else AD
 |_,_=>AD
def yab(s:AQ):Hs (AQ×PV)->Option PV
 |[]=>AD
 |(a,b)::r=>if decide (a=s)then AA b else yab s r
def yec(D:Hs (AQ×PV))(x:PV):Option PV:=
 match x with
 |.str s=>yab s D
 |_=>AD
def yfw(D:Hs (AQ×PV))(x:PV):Option PV:=
 match x with
 |.str s=>AA (.bl (yab s D).isSome)
 |_=>AD
def yt:Ht->Hw->Hw->Hs PV
 |0,_,_=>[]
 |n+1,a,d=>.int a::yt n (a+d) d
def ybE(x:PV):Option (Hs PV):=
 match x with
 |.int j=>if j.natAbs<1000000000 then AA (yt j.toNat 0 1)else AD
 |_=>AD
def yhI(x:PV):Option (Hs PV):=
 match x with
 |.int j=>if 0<=j/\j<1000000000 then AA (yt j.toNat (j-1) (-1))else AD
 |_=>AD
def ygg(x y:PV):Option (Hs PV):=
 match x,y with
 |.int i,.int j=>if i.natAbs<1000000000/\j.natAbs<1000000000 then AA (yt (j-i).toNat i 1)else AD
 |_,_=>AD
def yhb(x y:PV):Option (Hs PV):=
 match x,y with
 |.int i,.int j=>if i.natAbs<1000000000/\j.natAbs<1000000000 then AA (yt (i-j).toNat i (-1))else AD
 |_,_=>AD
def toL(o:Option (Hs PV))(st:SO):R (Hs PV):=
 match o with
 |some v=>.ok v st
 |none=>.bad
def yb4(v:PV)(st:SO):R PV:=
 match v with
 |.loc n=>match st[n]? with
  |some (.lst a)=>.ok (.lst a) (st.set n .dead)
  |_=>.bad
 |v=>.ok v st
def ycb(v:PV)(st:SO):R PV:=
 match v with
 |.lst a=>.ok (.loc st.length) (st++[.lst a])
 |_=>.bad
def ycr(st:SO)(x y:PV):Option PV:=
 match yaM st y with
 |some a=>if shp x&&ybj 60 a then AA (.bl (!inL x a))else AD
 |none=>AD
def ybt(c:Ht)(st:SO)(x:PV)(f:AQ):Option PV:=
 match x with
 |.loc n=>match st[n]? with
  |some (.ins d fs)=>if d=c then fs.lookup f else AD
  |_=>AD
 |_=>AD
def ycv(f:AQ)(v:PV):Hs (AQ×PV)->Hs (AQ×PV)
 |[]=>[(f,v)]
 |(g,x)::r=>if g=f then(g,v)::r else(g,x)::ycv f v r
def yb5(c:Ht)(st:SO)(x:PV)(f:AQ)(v:PV):Option SO:=
 match x with
 |.loc n=>match st[n]? with
  |some (.ins d fs)=>if d=c/\fs.length<1000 then AA (st.set n (.ins c (ycv f v fs)))else AD
  |_=>AD
 |_=>AD
def ycB(c:Ht)(m:AQ)(st:SO)(x:PV):Option Hy:=
 match x with
 |.loc n=>match st[n]? with
  |some (.ins d fs)=>if d=c/\fs.lookup m=AD then AA AC else AD
  |_=>AD
 |_=>AD
def newV(n:Ht)(v:PV)(st:SO):R PV:=
 match v with
 |.non=>.ok (.loc n) st
 |_=>.bad
def ybw(r:R PV):R PV:=
 match r with
 |.ok v st=>.ok v st
 |_=>.bad
inductive Fl where
 |nx (Y:Env) (st:SO)|rt (v:PV) (st:SO)|bk (Y:Env) (st:SO)|ct (Y:Env) (st:SO)|exc (c:Ht) (Y:Env) (st:SO)|bad
def onBl{A:Type}(x:PV)(k:Hy->R A):R A:=
 match x with
 |.bl b=>k b
 |_=>.bad
def onO{A:Type}(o:Option Hy)(k:Hy->R A):R A:=
 match o with
 |some b=>k b
 |none=>.bad
def onF(o:Option Hy)(k:Hy->Fl):Fl:=
 match o with
 |some b=>k b
 |none=>.bad
def onP{A:Type}(o:Option (Option Hw))(k:Option Hw->R A):R A:=
 match o with
 |some b=>k b
 |none=>.bad
def blO(o:Option PV):Option Hy:=
 match o with
 |some (.bl b)=>AA b
 |_=>AD
def ydc(o:Option PV)(ys:Hs PV):Hs PV:=
 match o with
 |some y=>y::ys
 |none=>ys
def ycC(one:PV->SO->R (Option PV)):Hs PV->SO->R (Hs PV)
 |[],st=>.ok [] st
 |x::c,st=>(one x st).bind λo a=>(ycC one c a).bind λd b=>.ok (ydc o d) b
def ybi(r:R (Hs PV)):R PV:=
 match r with
 |.ok a st=>if a.length<=1000000 then .ok (.lst a) st else .bad
 |_=>.bad
def yaX(one:PV->SO->R (Option PV))(n:Ht):Ht->Ht->SO->R (Hs PV)
 |0,_,_=>.bad
 |f+1,i,st=>match st[n]? with
  |some (.lst c)=>match c[i]? with
   |some x=>(one x st).bind λo a=>(yaX one n f (i+1) a).bind λd b=>.ok (ydc o d) b
   |none=>.ok [] st
  |_=>.bad
mutual
noncomputable def ev(call:Ht->Hs PV->SO->R PV)(Y:Env)(st:SO):Ce->R PV
 |.cst v=>.ok v st
 |.var i=>match Y[i]? with
  |some (AA v)=>.ok v st
  |_=>.bad
 |.bin o a b=>(ev call Y st a).bind λx d=>(ev call Y d b).bind λy g=>toR (yO o x y) g
 |.neg a=>(ev call Y st a).bind λx d=>match x with
  |.int i=>.ok (.int (-i)) d
  |_=>.bad
 |.not a=>(ev call Y st a).bind λx d=>onBl x λk=>.ok (.bl (!k)) d
 |.and a b=>(ev call Y st a).bind λx d=>onBl x λk=>cond k (ev call Y d b) (.ok (.bl AB) d)
 |.or a b=>(ev call Y st a).bind λx d=>onBl x λk=>cond k (.ok (.bl AC) d) (ev call Y d b)
 |.cmp o a b=>(ev call Y st a).bind λx d=>(ev call Y d b).bind λy g=>toR (yJ o x y) g
 |.chain o p a b c=>(ev call Y st a).bind λx d=>(ev call Y d b).bind λy g=>onO (blO (yJ o x y)) λk=>cond k ((ev call Y g c).bind λz r=>toR (yJ p y z) r) (.ok (.bl AB) g)
 |.ite c a b=>(ev call Y st c).bind λx d=>onO (yaU d x) λk=>cond k (ev call Y d a) (ev call Y d b)
 |.tup t=>(evs call Y st t).bind λq d=>if q.length<=sizeMax then .ok (.tup q) d else .bad
 |.lst t=>(evs call Y st t).bind λq d=>if q.length<=sizeMax then .ok (.lst q) d else .bad
 |.newl t=>(evs call Y st t).bind λq d=>if q.length<=sizeMax then .ok (.loc d.length) (d++[.lst q])else .bad
 |.newd w=>if w.length<=15 then .ok (.loc st.length) (st++[.dct AB (w.foldl (λB I=>put (.str I.1) (.int I.2) B) [])])else .bad
 |.idx a i=>(ev call Y st a).bind λx d=>(ev call Y d i).bind λy g=>toR (idxV g x y) g
 |.slc a l h=>(ev call Y st a).bind λx d=>(ev call Y d l).bind λy g=>onP (yb9 y) λo=>(ev call Y g h).bind λz r=>toR (ycl x o z) r
 |.call f t=>(evs call Y st t).bind λq d=>call f q d
 |.blt b t=>(evs call Y st t).bind λq d=>toR (yX b d q) d
 |.mth m o t=>(ev call Y st o).bind λx d=>onO (yas m d x) λ_=>(evs call Y d t).bind λq g=>ybs m g x q
 |.isi a C=>(ev call Y st a).bind λx d=>toR (yG x C) d
 |.isx a J C=>(ev call Y st a).bind λx d=>toR (ycy J x C) d
 |.comp E G L c e=>(evi call Y st L).bind λM d=>
  let H:Env:=E.map λo=>o.bind λj=>(Y[j]?).join
  ybi (ycC (λx g=>match yW G x H with
   |none=>.bad
   |some A=>(ev call A g c).bind λb r=>onO (yaU r b) λk=>cond k ((ev call A r e).bind λy u=>.ok (AA y) u) (.ok AD r)) M d)
 |.nope=>.bad
 |.frz a=>(ev call Y st a).bind λx d=>yb4 x d
 |.rep a b=>(ev call Y st a).bind λx d=>(ev call Y d b).bind λy g=>toR (yc5 x y) g
 |.dix D a=>(ev call Y st a).bind λx d=>toR (yec D x) d
 |.din a D=>(ev call Y st a).bind λx d=>toR (yfw D x) d
 |.thw a=>(ev call Y st a).bind λx d=>ycb x d
 |.nin a b=>(ev call Y st a).bind λx d=>(ev call Y d b).bind λy g=>toR (ycr g x y) g
 |.fld c a f=>(ev call Y st a).bind λx d=>toR (ybt c d x f) d
 |.new c i t=>(evs call Y st t).bind λq d=>(ybw (call i (.loc d.length::q) (d++[.ins c []]))).bind λv g=>newV d.length v g
 |.mcl c i m o t=>(ev call Y st o).bind λx d=>onO (ycB c m d x) λ_=>(evs call Y d t).bind λq g=>call i (x::q) g
 |.cml E G i e=>(ev call Y st i).bind λv d=>match v with
  |.loc n=>
   let H:Env:=E.map λo=>o.bind λj=>(Y[j]?).join
   ybi (yaX (λx g=>match yW G x H with
    |none=>.bad
    |some A=>(ev call A g e).bind λy u=>.ok (AA y) u) n 1000000 0 d)
  |_=>.bad
noncomputable def evs(call:Ht->Hs PV->SO->R PV)(Y:Env)(st:SO):Ces->R (Hs PV)
 |.nil=>.ok [] st
 |.cons e c=>(ev call Y st e).bind λv a=>(evs call Y a c).bind λd b=>.ok (v::d) b
noncomputable def evi(call:Ht->Hs PV->SO->R PV)(Y:Env)(st:SO):Cit->R (Hs PV)
 |.seq e=>(ev call Y st e).bind λv c=>match v with
  |.tp _ f=>.ok f c
  |.lst f=>.ok f c
  |_=>.bad
 |.range1 a=>(ev call Y st a).bind λx c=>toL (ybE x) c
 |.range2 a b=>(ev call Y st a).bind λx c=>(ev call Y c b).bind λy d=>toL (ygg x y) d
 |.rangeD a b=>(ev call Y st a).bind λx c=>(ev call Y c b).bind λy d=>toL (yhb x y) d
 |.enum e=>(ev call Y st e).bind λv c=>match v with
  |.tp _ f=>.ok (yar 0 f) c
  |_=>.bad
 |.zip a b=>(ev call Y st a).bind λx c=>(ev call Y c b).bind λy d=>toL (yey x y) d
 |.revl e=>(ev call Y st e).bind λv c=>toL (yf3 v) c
 |.revr a=>(ev call Y st a).bind λx c=>toL (yhI x) c
 |.chars e=>(ev call Y st e).bind λv c=>toL (ydR v) c
end
def R.fl{A:Type}(r:R A)(Y:Env)(k:A->SO->Fl):Fl:=
 match r with
 |.ok a st=>k a st
 |.exc c st=>.exc c Y st
 |.bad=>.bad
def yaF(f:Fl)(k:Env->SO->Fl):Fl:=
 match f with
 |.nx Y st=>k Y st
 |.ct Y st=>k Y st
 |.bk Y st=>.nx Y st
 |f=>f
def forL(t:Tg)(a:Env->SO->Fl):Hs PV->Env->SO->Fl
 |[],Y,st=>.nx Y st
 |x::c,Y,st=>match yW t x Y with
  |none=>.bad
  |some d=>yaF (a d st) λf b=>forL t a c f b
def yaN(a:Env->SO->R PV)(b:Env->SO->Fl):Ht->Env->SO->Fl
 |0,_,_=>.bad
 |n+1,Y,st=>(a Y st).fl Y λx c=>onF (yaU c x) λk=>cond k (yaF (b Y c) λf d=>yaN a b n f d) (.nx Y c)
def yaE(st:SO)(o i v:PV):Option SO:=
 match o with
 |.loc n=>match st[n]? with
  |some (.lst a)=>match i with
   |.int k=>match ixI a.length k with
    |some j=>AA (st.set n (.lst (a.set j v)))
    |none=>AD
   |_=>AD
  |_=>AD
 |_=>AD
def ybJ(st:SO)(o i v:PV):Option SO:=
 match o with
 |.loc n=>match st[n]? with
  |some (.dct t a)=>if isKey t i/\a.length<1000000 then AA (st.set n (.dct t (put i v a)))else AD
  |_=>AD
 |_=>AD
mutual
noncomputable def ex(call:Ht->Hs PV->SO->R PV)(Y:Env)(st:SO):Cs->Fl
 |.expr e=>(ev call Y st e).fl Y λ_ g=>.nx Y g
 |.asg t e=>(ev call Y st e).fl Y λv g=>match yW t v Y with
  |some r=>.nx r g
  |none=>.bad
 |.six o i e=>(ev call Y st e).fl Y λv g=>(ev call Y g o).fl Y λx l=>(ev call Y l i).fl Y λy m=>match yaE m x y v with
  |some n=>.nx Y n
  |none=>.bad
 |.dput o i e=>(ev call Y st e).fl Y λv g=>(ev call Y g o).fl Y λx l=>(ev call Y l i).fl Y λy m=>match ybJ m x y v with
  |some n=>.nx Y n
  |none=>.bad
 |.aug i o e=>match Y[i]? with
  |some (AA x)=>(ev call Y st e).fl Y λy g=>match ybM o x y with
   |some z=>.nx (Y.set i (AA z)) g
   |none=>.bad
  |_=>.bad
 |.ret e=>(ev call Y st e).fl Y λv g=>.rt v g
 |.ite c a b=>(ev call Y st c).fl Y λx g=>onF (yaU g x) λk=>cond k (exs call Y g a) (exs call Y g b)
 |.for t D b=>(evi call Y st D).fl Y λE g=>forL t (λq l=>exs call q l b) E Y g
 |.while c b=>yaN (λq l=>ev call q l c) (λq l=>exs call q l b) 100000 Y st
 |.nope=>.bad
 |.raise c e=>(ev call Y st e).fl Y λ_ g=>.exc c Y g
 |.try b G i h=>match exs call Y st b with
  | .exc d r g=>if G.contains d then(match exs call (r.set i (AA (.exn d))) g h with
   |.nx q l=>.nx (q.set i AD) l
   |.rt v l=>.rt v l
   |_=>.bad)else .bad
  |f=>f
 |.six2 o i p j e f=>(ev call Y st e).fl Y λv g=>(ev call Y g f).fl Y λw l=>(ev call Y l o).fl Y λx m=>(ev call Y m i).fl Y λy n=>match yaE n x y v with
  |none=>.bad
  |some u=>(ev call Y u p).fl Y λH A=>(ev call Y A j).fl Y λI B=>match yaE B H I w with
   |some C=>.nx Y C
   |none=>.bad
 |.sfl c o f e=>(ev call Y st e).fl Y λv g=>(ev call Y g o).fl Y λx l=>match yb5 c l x f v with
  |some m=>.nx Y m
  |none=>.bad
noncomputable def exs(call:Ht->Hs PV->SO->R PV)(Y:Env)(st:SO):Css->Fl
 |.nil=>.nx Y st
 |.cons s b=>match ex call Y st s with
  |.nx c a=>exs call c a b
  |f=>f
end
section
variable {call:Ht->Hs PV->SO->R PV}{Y:Env}{st:SO}
theorem ve1{v}:ev call Y st (.cst v)=.ok v st:=rfl
theorem ve2{i}:ev call Y st (.var i)=(match Y[i]? with
    |some (AA v)=>.ok v st
    |_=>.bad):=rfl
theorem ve3{o a b}:ev call Y st (.bin o a b)=(ev call Y st a).bind λx c=>(ev call Y c b).bind λy d=>toR (yO o x y) d:=rfl
theorem ve4{a}:ev call Y st (.neg a)=((ev call Y st a).bind λx b=>match x with
    |.int i=>.ok (.int (-i)) b
    |_=>.bad):=rfl
theorem ve5{a}:ev call Y st (.not a)=(ev call Y st a).bind λx b=>onBl x λk=>.ok (.bl (!k)) b:=rfl
theorem ve6{a b}:ev call Y st (.and a b)=(ev call Y st a).bind λx c=>onBl x λk=>cond k (ev call Y c b) (.ok (.bl AB) c):=rfl
theorem ve7{a b}:ev call Y st (.or a b)=(ev call Y st a).bind λx c=>onBl x λk=>cond k (.ok (.bl AC) c) (ev call Y c b):=rfl
theorem ve8{o a b}:ev call Y st (.cmp o a b)=(ev call Y st a).bind λx c=>(ev call Y c b).bind λy d=>toR (yJ o x y) d:=rfl
theorem ve9{o p a b c}:ev call Y st (.chain o p a b c)=(ev call Y st a).bind λx f=>(ev call Y f b).bind λy d=>onO (blO (yJ o x y)) λk=>cond k ((ev call Y d c).bind λz g=>toR (yJ p y z) g) (.ok (.bl AB) d):=rfl
theorem vxq9{c a b}:ev call Y st (.ite c a b)=(ev call Y st c).bind λx d=>onO (yaU d x) λk=>cond k (ev call Y d a) (ev call Y d b):=rfl
theorem ve11{b}:ev call Y st (.tup b)=((evs call Y st b).bind λc a=>if c.length<=sizeMax then .ok (.tup c) a else .bad):=rfl
theorem ve12{b}:ev call Y st (.lst b)=((evs call Y st b).bind λc a=>if c.length<=sizeMax then .ok (.lst c) a else .bad):=rfl
theorem ve13{b}:ev call Y st (.newl b)=((evs call Y st b).bind λc a=>if c.length<=sizeMax then .ok (.loc a.length) (a++[.lst c])else .bad):=rfl
theorem ve14{a}:ev call Y st (.newd a)=(if a.length<=15 then .ok (.loc st.length) (st++[.dct AB (a.foldl (λb c=>put (.str c.1) (.int c.2) b) [])])else .bad):=rfl
theorem ve16{a i}:ev call Y st (.idx a i)=(ev call Y st a).bind λx c=>(ev call Y c i).bind λy b=>toR (idxV b x y) b:=rfl
theorem ve17{a l h}:ev call Y st (.slc a l h)=(ev call Y st a).bind λx b=>(ev call Y b l).bind λy c=>onP (yb9 y) λo=>(ev call Y c h).bind λz d=>toR (ycl x o z) d:=rfl
theorem ve18{f b}:ev call Y st (.call f b)=(evs call Y st b).bind λc a=>call f c a:=rfl
theorem ve19{b c}:ev call Y st (.blt b c)=(evs call Y st c).bind λd a=>toR (yX b a d) a:=rfl
theorem vxq18{m o c}:ev call Y st (.mth m o c)=(ev call Y st o).bind λx a=>onO (yas m a x) λ_=>(evs call Y a c).bind λd b=>ybs m b x d:=rfl
theorem ve21{a c}:ev call Y st (.isi a c)=(ev call Y st a).bind λx b=>toR (yG x c) b:=rfl
theorem ve22{a c d}:ev call Y st (.isx a c d)=(ev call Y st a).bind λx b=>toR (ycy c x d) b:=rfl
theorem vxq21{l m n c e}:ev call Y st (.comp l m n c e)=((evi call Y st n).bind λq d=>
    let r:Env:=l.map λo=>o.bind λj=>(Y[j]?).join
    ybi (ycC (λx f=>match yW m x r with
     |none=>.bad
     |some p=>(ev call p f c).bind λb a=>onO (yaU a b) λk=>cond k ((ev call p a e).bind λy g=>.ok (AA y) g) (.ok AD a)) q d)):=rfl
theorem ve24:ev call Y st .nope=.bad:=rfl
theorem ve25{a}:ev call Y st (.frz a)=(ev call Y st a).bind λx b=>yb4 x b:=rfl
theorem ve27{a b}:ev call Y st (.rep a b)=(ev call Y st a).bind λx c=>(ev call Y c b).bind λy d=>toR (yc5 x y) d:=rfl
theorem ve28{D a}:ev call Y st (.dix D a)=(ev call Y st a).bind λx b=>toR (yec D x) b:=rfl
theorem ve29{a D}:ev call Y st (.din a D)=(ev call Y st a).bind λx b=>toR (yfw D x) b:=rfl
theorem ve30{a}:ev call Y st (.thw a)=(ev call Y st a).bind λx b=>ycb x b:=rfl
theorem ve31{a b}:ev call Y st (.nin a b)=(ev call Y st a).bind λx d=>(ev call Y d b).bind λy c=>toR (ycr c x y) c:=rfl
theorem ve32{c a f}:ev call Y st (.fld c a f)=(ev call Y st a).bind λx b=>toR (ybt c b x f) b:=rfl
theorem ve33{c i d}:ev call Y st (.new c i d)=(evs call Y st d).bind λf a=>(ybw (call i (.loc a.length::f) (a++[.ins c []]))).bind λv b=>newV a.length v b:=rfl
theorem ve37{c i m o d}:ev call Y st (.mcl c i m o d)=(ev call Y st o).bind λx a=>onO (ycB c m a x) λ_=>(evs call Y a d).bind λf b=>call i (x::f) b:=rfl
theorem ve41{d f i e}:ev call Y st (.cml d f i e)=((ev call Y st i).bind λv a=>match v with
    |.loc n=>
     let g:Env:=d.map λo=>o.bind λj=>(Y[j]?).join
     ybi (yaX (λx b=>match yW f x g with
      |none=>.bad
      |some l=>(ev call l b e).bind λy c=>.ok (AA y) c) n 1000000 0 a)
    |_=>.bad):=rfl
theorem vsq0:evs call Y st .nil=.ok [] st:=rfl
theorem vsq1{e c}:evs call Y st (.cons e c)=(ev call Y st e).bind λv a=>(evs call Y a c).bind λd b=>.ok (v::d) b:=rfl
theorem vjq0{e}:evi call Y st (.seq e)=((ev call Y st e).bind λv a=>match v with
    |.tp _ b=>.ok b a
    |.lst b=>.ok b a
    |_=>.bad):=rfl
theorem vjq1{a}:evi call Y st (.range1 a)=(ev call Y st a).bind λx b=>toL (ybE x) b:=rfl
theorem vjq2{a b}:evi call Y st (.range2 a b)=(ev call Y st a).bind λx c=>(ev call Y c b).bind λy d=>toL (ygg x y) d:=rfl
theorem vjq3{a b}:evi call Y st (.rangeD a b)=(ev call Y st a).bind λx c=>(ev call Y c b).bind λy d=>toL (yhb x y) d:=rfl
theorem vjq4{e}:evi call Y st (.enum e)=((ev call Y st e).bind λv a=>match v with
    |.tp _ b=>.ok (yar 0 b) a
    |_=>.bad):=rfl
theorem vjq5{a b}:evi call Y st (.zip a b)=(ev call Y st a).bind λx c=>(ev call Y c b).bind λy d=>toL (yey x y) d:=rfl
theorem vjq6{e}:evi call Y st (.revl e)=(ev call Y st e).bind λv a=>toL (yf3 v) a:=rfl
theorem vjq7{a}:evi call Y st (.revr a)=(ev call Y st a).bind λx b=>toL (yhI x) b:=rfl
theorem vjq8{e}:evi call Y st (.chars e)=(ev call Y st e).bind λv a=>toL (ydR v) a:=rfl
theorem xrq0{e}:ex call Y st (.expr e)=(ev call Y st e).fl Y λ_ a=>.nx Y a:=rfl
theorem xrq1{t e}:ex call Y st (.asg t e)=((ev call Y st e).fl Y λv a=>match yW t v Y with
    |some b=>.nx b a
    |none=>.bad):=rfl
theorem xrq2{o i e}:ex call Y st (.six o i e)=((ev call Y st e).fl Y λv a=>(ev call Y a o).fl Y λx b=>(ev call Y b i).fl Y λy c=>match yaE c x y v with
    |some d=>.nx Y d
    |none=>.bad):=rfl
theorem xrq3{o i e}:ex call Y st (.dput o i e)=((ev call Y st e).fl Y λv a=>(ev call Y a o).fl Y λx b=>(ev call Y b i).fl Y λy c=>match ybJ c x y v with
    |some d=>.nx Y d
    |none=>.bad):=rfl
theorem xrq4{i o e}:ex call Y st (.aug i o e)=(match Y[i]? with
    |some (AA x)=>(ev call Y st e).fl Y λy a=>match ybM o x y with
     |some z=>.nx (Y.set i (AA z)) a
     |none=>.bad
    |_=>.bad):=rfl
theorem xrq5{e}:ex call Y st (.ret e)=(ev call Y st e).fl Y λv a=>.rt v a:=rfl
theorem xrq6{c a b}:ex call Y st (.ite c a b)=(ev call Y st c).fl Y λx d=>onF (yaU d x) λk=>cond k (exs call Y d a) (exs call Y d b):=rfl
theorem xrq7{t d b}:ex call Y st (.for t d b)=(evi call Y st d).fl Y λf a=>forL t (λg c=>exs call g c b) f Y a:=rfl
theorem xrq8{c b}:ex call Y st (.while c b)=yaN (λd a=>ev call d a c) (λd a=>exs call d a b) 100000 Y st:=rfl
theorem xrq9:ex call Y st .nope=.bad:=rfl
theorem xrq10{c e}:ex call Y st (.raise c e)=(ev call Y st e).fl Y λ_ a=>.exc c Y a:=rfl
theorem xrq11{b g i h}:ex call Y st (.try b g i h)=(match exs call Y st b with
    | .exc d j c=>if g.contains d then(match exs call (j.set i (AA (.exn d))) c h with
     |.nx l a=>.nx (l.set i AD) a
     |.rt v a=>.rt v a
     |_=>.bad)else .bad
    |f=>f):=rfl
theorem xrq12{o i p j e f}:ex call Y st (.six2 o i p j e f)=((ev call Y st e).fl Y λv a=>(ev call Y a f).fl Y λw b=>(ev call Y b o).fl Y λx c=>(ev call Y c i).fl Y λy d=>match yaE d x y v with
    |none=>.bad
    |some g=>(ev call Y g p).fl Y λq l=>(ev call Y l j).fl Y λr m=>match yaE m q r w with
     |some n=>.nx Y n
     |none=>.bad):=rfl
theorem xrq13{c o f e}:ex call Y st (.sfl c o f e)=((ev call Y st e).fl Y λv a=>(ev call Y a o).fl Y λx b=>match yb5 c b x f v with
    |some d=>.nx Y d
    |none=>.bad):=rfl
theorem xqq0:exs call Y st .nil=.nx Y st:=rfl
theorem xqq1{s b}:exs call Y st (.cons s b)=(match ex call Y st s with
    |.nx c a=>exs call c a b
    |f=>f):=rfl
end
structure Fn where
 np:Ht
 ns:Ht
 pure:Hy
 body:Css
def yc(T:Ht->Option Fn):Ht->Ht->Hs PV->SO->R PV
 |0,_,_,_=>.bad
 |k+1,f,a,st=>match T f with
  |none=>.bad
  |some fn=>if a.length=fn.np then
    if fn.pure then
     if nLs a then match exs (yc T k) (a.map AA++AL (fn.ns-fn.np) AD) [] fn.body with
      |.rt v _=>if nL v then .ok v st else .bad
      |.nx _ _=>.ok .non st
      |.exc c _ _=>.exc c st
      |_=>.bad
     else .bad
    else match exs (yc T k) (a.map AA++AL (fn.ns-fn.np) AD) st fn.body with
     |.rt v b=>.ok v b
     |.nx _ b=>.ok .non b
     |.exc c _ b=>.exc c b
     |_=>.bad
   else .bad
def yaA:Hs (Sum Ce Hw)->Ces
 |[]=>.nil
 |.inl c::r=>.cons c (yaA r)
 |.inr i::r=>.cons (.cst (.int i)) (yaA r)
def ycU:Ces->Ces->Ces
 |.nil,b=>b
 |.cons e r,b=>.cons e (ycU r b)
end IC
namespace L2
open PySem PySem.Spec PyProof.Rows IC
abbrev Ph:=Hs (Option AJ)
section
variable (K:AF)(cl:Ht->AJ)(B:AJ->Prop)(A:Ph)(H:Hp)
def ybP(k:Hy)(a:AJ)(xs:Hs V):Prop:=(H a=AA (.tup xs)/\¬B a/\AA a∉A) \/
 k=AC/\∃(o:Bd) (b:IH AG) (n:Ht),K.lookup a=AA o/\o.cls=.type "tuple"/\o.data=.seq b n/\b.size<=sizeLine/\Vals xs b.toList
def yc2(a:AJ)(xs:Hs V):Prop:=H a=AA (.lst xs)/\¬B a/\AA a∉A
def yeo(a:AJ)(xs:Hs V):Prop:=(Rd H a (.lst xs)/\¬B a/\AA a∉A) \/
 ∃(o:Bd) (b:IH AG) (n:Ht),K.lookup a=AA o/\o.cls=.type "list"/\o.dict=AD/\o.data=.seq b n/\b.size<=sizeLine/\Vals xs b.toList
mutual
noncomputable def ye:PV->V->Prop
 |.non,x=>x=.non
 |.bl b,x=>x=.bl b
 |.int i,x=>x=.int i
 |.str s,x=>x=.str s
 |.tp k f,x=>∃a d,x=.ref a/\ybP K B A H k a d/\yq f d
 |.lst f,x=>∃a d,x=.ref a/\yc2 B A H a d/\yq f d
 |.loc n,x=>n<A.length/\∃a,x=.ref a/\∀b,A[n]?=AA (AA b)->b=a
 |.exn c,x=>∃a,x=.ref a/\H a=AA (.ext (ybT a (cl c)))/\¬B a/\AA a∉A
 |.scr f,x=>∃a d,x=.ref a/\yeo K B A H a d/\yq f d
 |.fnc j,x=>x=.ref (cl (1000+j))
noncomputable def yq:Hs PV->Hs V->Prop
 |[],a=>a=[]
 |v::c,a=>∃y b,a=y::b/\ye v y/\yq c b
end
def yaL:Key->PV
 |.inl i=>.int i
 |.inr y=>.str y
def DK:Hs (PV×PV)->Hs (Key×V)->Prop
 |[],a=>a=[]
 |(k,v)::r,a=>∃q x s,a=(q,x)::s/\k=yaL q/\ye K cl B A H v x/\DK r s
def DT:Hs (PV×PV)->Hs (Hs Key×V)->Prop
 |[],a=>a=[]
 |(k,v)::r,a=>∃q x s,a=(q,x)::s/\k=.tup (q.map yaL)/\ye K cl B A H v x/\DT r s
def FS:Hs (AQ×PV)->Hs (AQ×V)->Prop
 |[],a=>a=[]
 |(k,v)::r,a=>∃x s,a=(k,x)::s/\ye K cl B A H v x/\FS r s
def ycp:Ob->AJ->Prop
 |.lst g,a=>∃f,H a=AA (.lst f)/\yq K cl B A H g f
 |.dct AB d,a=>∃b,H a=AA (.dK b)/\DK K cl B A H d b
 |.dct AC d,a=>∃b,H a=AA (.dT b)/\DT K cl B A H d b
 |.dead,_=>II
 |.ins c fs,a=>∃b,(∃j,H a=AA (.ins (cl c) j b))/\FS K cl B A H fs b
structure yH(st:SO):Prop where
 len:A.length=st.length
 inj:∀(m n:Ht) (a:AJ),A[m]?=AA (AA a)->A[n]?=AA (AA a)->m=n
 obj:∀(n:Ht) (a:AJ),A[n]?=AA (AA a)->∃o,st[n]?=AA o/\ycp K cl B A H o a
 liv:∀(n:Ht) (o:Ob),st[n]?=AA o->o ≠ .dead->∃a,A[n]?=AA (AA a)
 nb:∀a,AA a∈A->¬B a
 dom:∀a,B a->∃o,H a=AA o
structure yP(Y:IC.Env)(C:St):Prop where
 len:Y.length=C.length
 get:∀(i:Ht) (v:PV),Y[i]?=AA (AA v)->∃x,C[i]?=AA (AA x)/\ye K cl B A H v x
end
structure Step(A:Ph)(H:Hp)(A':Ph)(H':Hp):Prop where
 keep:∀b o,AA b∉A->H b=AA o->H' b=AA o
 len:A.length<=A'.length
 pre:∀(n:Ht) (a:AJ),n<A.length->A'[n]?=AA (AA a)->A[n]?=AA (AA a)
 new:∀b,AA b∈A'->AA b∈A \/ H b=AD
theorem Step.rfl{A:Ph}{H:Hp}:Step A H A H:=#[λ_ _ _ e=>e,AS _,λ_ _ _ e=>e,λ_ h=>.inl h]
theorem Step.trans{A A1 A2:Ph}{H c d:Hp}(s:Step A H A1 c)(t:Step A1 c A2 d):Step A H A2 d:=by
 refine#[λb o n e=>?_,BK s.len t.len,λn a f e=>s.pre n a f (t.pre n a (Ad f s.len) e),λb g=>?_]
 .refine t.keep b o (λh=>?_) (s.keep b o n e);rcases s.new b h with q|q
  .exact n q
  .rw[e]at q;cases q
 .rcases t.new b g with q|q
  .exact s.new b q
  .by_cases h:AA b∈A
   .exact .inl h
   .refine .inr ?_
    cases e:H b with
    |none=>exact Eq.refl _
    |some o=>rw[s.keep b o h e]at q;cases q
section
variable {K:AF}{cl:Ht->AJ}{B:AJ->Prop}{A A':Ph}{H H':Hp}{st:SO}{Y:IC.Env}{C:St}
theorem Rd.step(s:Step A H A' H'){a:AJ}{u:HO}(n:AA a∉A)(r:Rd H a u):Rd H' a u/\AA a∉A':=by
 have h:∃o,H a=AA o:=by rcases r with r|⟨o,r⟩<;>exact#[_,r]
 refine#[?_,λz=>?_]
 .rcases r with r|⟨o,r⟩
  .exact .inl (s.keep _ _ n r)
  .exact .inr #[o,s.keep _ _ n r]
 .let#[o,e]:=h;rcases s.new a z with q|q
  .exact n q
  .rw[e]at q;cases q
theorem ybP.step(s:Step A H A' H'){k:Hy}{a:AJ}{xs:Hs V}(r:ybP K B A H k a xs):ybP K B A' H' k a xs:=by
 rcases r with⟨r,b,n⟩|r
 .let#[_,c]:=(Rd.of r).step s n;exact .inl #[s.keep _ _ n r,b,c]
 .exact .inr r
theorem yc2.step(s:Step A H A' H'){a:AJ}{xs:Hs V}(r:yc2 B A H a xs):yc2 B A' H' a xs:=by let#[r,b,n]:=r;let#[_,c]:=(Rd.of r).step s n;exact#[s.keep _ _ n r,b,c]
theorem yeo.step(s:Step A H A' H'){a:AJ}{xs:Hs V}(r:yeo K B A H a xs):yeo K B A' H' a xs:=by
 rcases r with⟨r,b,n⟩|r
 .let#[c,d]:=r.step s n;exact .inl #[c,b,d]
 .exact .inr r
mutual
theorem ye.step(s:Step A H A' H'):∀(v:PV) (x:V),ye K cl B A H v x->ye K cl B A' H' v x
 |.non,x,h=>by erw[ye]at h ⊢;exact h
 |.bl b,x,h=>by erw[ye]at h ⊢;exact h
 |.int i,x,h=>by erw[ye]at h ⊢;exact h
 |.str y,x,h=>by erw[ye]at h ⊢;exact h
 |.tp k f,x,h=>by erw[ye]at h ⊢;let#[a,d,e,r,l]:=h;exact#[a,d,e,r.step s,yq.step s f d l]
 |.lst f,x,h=>by erw[ye]at h ⊢;let#[a,d,e,r,l]:=h;exact#[a,d,e,r.step s,yq.step s f d l]
 |.loc n,x,h=>by erw[ye]at h ⊢;let#[g,a,e,m]:=h;exact#[Ad g s.len,a,e,λb q=>m b (s.pre n b g q)]
 |.fnc j,x,h=>by erw[ye]at h ⊢;exact h
 |.exn c,x,h=>by erw[ye]at h ⊢;let#[a,e,r,b,n]:=h;let#[_,o]:=(Rd.of r).step s n;exact#[a,e,s.keep _ _ n r,b,o]
 |.scr f,x,h=>by erw[ye]at h ⊢;let#[a,d,e,r,l]:=h;exact#[a,d,e,r.step s,yq.step s f d l]
theorem yq.step(s:Step A H A' H'):∀(v:Hs PV) (x:Hs V),yq K cl B A H v x->yq K cl B A' H' v x
 |[],x,h=>by erw[yq]at h ⊢;exact h
 |v::b,x,h=>by erw[yq]at h ⊢;let#[y,a,e,r,l]:=h;exact#[y,a,e,ye.step s v y r,yq.step s b a l]
end
theorem yP.step(s:Step A H A' H')(r:yP K cl B A H Y C):yP K cl B A' H' Y C:=#[r.len,λi v e=>by let#[x,h,q]:=r.get i v e;exact#[x,h,q.step s]]
mutual
theorem ye.inn(g:∀a,AA a∈A->¬B a):∀(v:PV) (x:V),nL v=AC->ye K cl B A H v x->ye K cl (λa=>B a \/ AA a∈A) [] H v x
 |.non,x,_,h=>by erw[ye]at h ⊢;exact h
 |.bl b,x,_,h=>by erw[ye]at h ⊢;exact h
 |.int i,x,_,h=>by erw[ye]at h ⊢;exact h
 |.str y,x,_,h=>by erw[ye]at h ⊢;exact h
 |.tp k f,x,q,h=>by
  erw[ye]at h ⊢;let#[a,d,e,r,l]:=h;refine#[a,d,e,?_,yq.inn g f d (by simpa only[nL] using q) l];rcases r with⟨r,b,n⟩|r
  .exact .inl #[r,λz=>z.elim b n,by simp]
  .exact .inr r
 |.lst f,x,q,h=>by erw[ye]at h ⊢;let#[a,d,e,#[r,b,n],l]:=h;exact#[a,d,e,#[r,λz=>z.elim b n,by simp],yq.inn g f d (by simpa only[nL] using q) l]
 |.loc n,x,q,h=>by simp[nL]at q
 |.fnc j,x,q,h=>by erw[ye]at h ⊢;exact h
 |.exn c,x,q,h=>by simp[nL]at q
 |.scr f,x,q,h=>by
  erw[ye]at h ⊢;let#[a,d,e,r,l]:=h;refine#[a,d,e,?_,yq.inn g f d (by simpa only[nL] using q) l];rcases r with⟨r,b,n⟩|r
  .exact .inl #[r,λz=>z.elim b n,by simp]
  .exact .inr r
theorem yq.inn(b:∀a,AA a∈A->¬B a):∀(v:Hs PV) (x:Hs V),nLs v=AC->yq K cl B A H v x->yq K cl (λa=>B a \/ AA a∈A) [] H v x
 |[],x,_,h=>by erw[yq]at h ⊢;exact h
 |v::d,x,q,h=>by erw[yq]at h ⊢;erw[nLs,AH]at q;let#[y,c,e,r,l]:=h;exact#[y,c,e,ye.inn b v y q.1 r,yq.inn b d c q.2 l]
end
mutual
theorem ye.out{D:Ph}:∀(v:PV) (x:V),nL v=AC->ye K cl (λa=>B a \/ AA a∈A) D H v x->ye K cl B A H v x
 |.non,x,_,h=>by erw[ye]at h ⊢;exact h
 |.bl b,x,_,h=>by erw[ye]at h ⊢;exact h
 |.int i,x,_,h=>by erw[ye]at h ⊢;exact h
 |.str y,x,_,h=>by erw[ye]at h ⊢;exact h
 |.tp k f,x,q,h=>by
  erw[ye]at h ⊢;let#[a,d,e,r,l]:=h;refine#[a,d,e,?_,yq.out f d (by simpa only[nL] using q) l];rcases r with⟨r,b,n⟩|r
  .exact .inl #[r,λz=>b (.inl z),λz=>b (.inr z)]
  .exact .inr r
 |.lst f,x,q,h=>by erw[ye]at h ⊢;let#[a,d,e,#[r,b,n],l]:=h;exact#[a,d,e,#[r,λz=>b (.inl z),λz=>b (.inr z)],yq.out f d (by simpa only[nL] using q) l]
 |.loc n,x,q,h=>by simp[nL]at q
 |.fnc j,x,q,h=>by erw[ye]at h ⊢;exact h
 |.exn c,x,q,h=>by simp[nL]at q
 |.scr f,x,q,h=>by
  erw[ye]at h ⊢;let#[a,d,e,r,l]:=h;refine#[a,d,e,?_,yq.out f d (by simpa only[nL] using q) l];rcases r with⟨r,b,n⟩|r
  .exact .inl #[r,λz=>b (.inl z),λz=>b (.inr z)]
  .exact .inr r
theorem yq.out{D:Ph}:∀(v:Hs PV) (x:Hs V),nLs v=AC->yq K cl (λa=>B a \/ AA a∈A) D H v x->yq K cl B A H v x
 |[],x,_,h=>by erw[yq]at h ⊢;exact h
 |v::c,x,q,h=>by erw[yq]at h ⊢;erw[nLs,AH]at q;let#[y,b,e,r,l]:=h;exact#[y,b,e,ye.out v y q.1 r,yq.out c b q.2 l]
end
theorem yq.length:∀{v:Hs PV} {x:Hs V},yq K cl B A H v x->v.length=x.length
 |[],x,h=>by erw[yq]at h;subst h;rfl
 |v::a,x,h=>by erw[yq]at h;let#[y,b,rfl,_,l]:=h;simp[yq.length l]
theorem DK.step(s:Step A H A' H'):∀{a:Hs (PV×PV)} {b:Hs (Key×V)},DK K cl B A H a b->DK K cl B A' H' a b
 |[],b,h=>h
 |(k,v)::r,b,h=>by let#[q,x,t,e,m,c,l]:=h;exact#[q,x,t,e,m,c.step s,DK.step s l]
theorem DT.step(s:Step A H A' H'):∀{a:Hs (PV×PV)} {b:Hs (Hs Key×V)},DT K cl B A H a b->DT K cl B A' H' a b
 |[],b,h=>h
 |(k,v)::r,b,h=>by let#[q,x,t,e,m,c,l]:=h;exact#[q,x,t,e,m,c.step s,DT.step s l]
theorem FS.step(s:Step A H A' H'):∀{a:Hs (AQ×PV)} {b:Hs (AQ×V)},FS K cl B A H a b->FS K cl B A' H' a b
 |[],b,h=>h
 |(k,v)::r,b,h=>by let#[x,t,e,c,l]:=h;exact#[x,t,e,c.step s,FS.step s l]
theorem ycp.step(s:Step A H A' H'){o:Ob}{a:AJ}(e:H' a=H a)(r:ycp K cl B A H o a):ycp K cl B A' H' o a:=by
 cases o with
 |lst j=>
  let#[d,q,l]:=r;exact#[d,e.trans q,l.step s]
 |dct t f=>
  cases t with
  |false=>let#[b,q,l]:=r;exact#[b,e.trans q,l.step s]
  |true=>let#[b,q,l]:=r;exact#[b,e.trans q,l.step s]
 |dead=>exact r
 |ins c fs=>let#[b,#[g,q],l]:=r;exact#[b,#[g,e.trans q],l.step s]
theorem ycp.there{o:Ob}{a:AJ}(r:ycp K cl B A H o a):∃u,H a=AA u:=by
 cases o with
 |lst f=>let#[g,q,l]:=r;exact#[_,q]
 |dct t b=>cases t<;>(let#[d,q,l]:=r;exact#[_,q])
 |dead=>exact r.elim
 |ins c fs=>let#[d,#[j,q],l]:=r;exact#[_,q]
theorem yH.there(S:yH K cl B A H st){a:AJ}(h:AA a∈A):∃u,H a=AA u:=by let#[n,e]:=DX.mp h;let#[o,_,r]:=S.obj n a e;exact r.there
theorem Step.upd{p:AJ}{o:HO}(a:H p=AD):Step A H A (upd H p o):=
 #[λb u n e=>by rw[zl (zp e a)];exact e,AS _,λ_ _ _ e=>e,λ_ h=>.inl h]
theorem yH.same(S:yH K cl B A H st)(k:∀b o,H b=AA o->H' b=AA o):yH K cl B A H' st:=by
 have s:Step A H A H':=#[λb o _ e=>k b o e,AS _,λ_ _ _ e=>e,λ_ h=>.inl h];refine#[S.len,S.inj,λn a e=>?_,S.liv,S.nb,λa h=>?_]
 .let#[o,q,r]:=S.obj n a e;let#[u,z]:=r.there;exact#[o,q,r.step s ((k a u z).trans z.symm)]
 .let#[o,q]:=S.dom a h;exact#[o,k a o q]
theorem yH.upd{p:AJ}{o:HO}(S:yH K cl B A H st)(a:H p=AD):yH K cl B A (upd H p o) st:=S.same λb u e=>by rw[zl (zp e a)];exact e
mutual
theorem ye.moreB{g:AJ->Prop}(d:∀y,g y->B y \/ H y=AD):∀(v:PV) (x:V),ye K cl B A H v x->ye K cl g A H v x
 |.non,x,h=>by erw[ye]at h ⊢;exact h
 |.bl b,x,h=>by erw[ye]at h ⊢;exact h
 |.int i,x,h=>by erw[ye]at h ⊢;exact h
 |.str y,x,h=>by erw[ye]at h ⊢;exact h
 |.tp k f,x,h=>by
  erw[ye]at h ⊢;let#[y,a,e,r,l]:=h;refine#[y,a,e,?_,yq.moreB d f a l];rcases r with⟨r,b,n⟩|r
  .exact .inl #[r,λz=>(d y z).elim b λq=>(by rw[q]at r;cases r),n]
  .exact .inr r
 |.lst f,x,h=>by erw[ye]at h ⊢;let#[y,a,e,#[r,b,n],l]:=h;exact#[y,a,e,#[r,λz=>(d y z).elim b λq=>(by rw[q]at r;cases r),n],yq.moreB d f a l]
 |.loc n,x,h=>by erw[ye]at h ⊢;exact h
 |.fnc j,x,h=>by erw[ye]at h ⊢;exact h
 |.exn c,x,h=>by erw[ye]at h ⊢;let#[y,e,r,b,n]:=h;exact#[y,e,r,λz=>(d y z).elim b λq=>(by rw[q]at r;cases r),n]
 |.scr f,x,h=>by
  erw[ye]at h ⊢;let#[y,a,e,r,l]:=h;refine#[y,a,e,?_,yq.moreB d f a l];rcases r with⟨r,b,n⟩|r
  .refine .inl #[r,λz=>(d y z).elim b λq=>?_,n];rcases r with r|⟨o,r⟩<;>(rw[q]at r;cases r)
  .exact .inr r
theorem yq.moreB{a:AJ->Prop}(b:∀y,a y->B y \/ H y=AD):∀(v:Hs PV) (x:Hs V),yq K cl B A H v x->yq K cl a A H v x
 |[],x,h=>by erw[yq]at h ⊢;exact h
 |v::d,x,h=>by erw[yq]at h ⊢;let#[y,c,e,r,l]:=h;exact#[y,c,e,ye.moreB b v y r,yq.moreB b d c l]
end
end
end L2
namespace L2
open PySem PySem.Spec PyProof.Rows
def CXH(X:Cx)(H:Hp)(s:AK)(E:XK)(e:AG)(s':AK):Prop:=
 ∃(C a:AJ) (cls d fl:AG) (c:Hp) (B:BB),X.s₀.heap.objs.size<=C/\e=.ref a/\s'.os=s.os/\DJ s'.gens /\
  (B.StaysIn s'.heap/\B.get? a=AD/\s'.heap.FunFrames B X.stack/\s'.heap.TracedAtW B a cls d fl)/\HOk X.prog X.w c s'.heap/\Un (frs X.stack) [C] H c s.heap s'.heap /\
  (∀b o,s.heap.get? b=AA o->H b=AD->b∉frs X.stack->b≠C->B.get? b=AA o)/\(∀b u,c b=AA u->∃o,B.get? b=AA o)/\(∀b o,s.heap.get? b=AA o->b∉frs X.stack->b≠C->∃f,B.get? b=AA f)/\E cls AD c
theorem CXH.mono{X:Cx}{H:Hp}{s:AK}{E f:XK}{e:AG}{s':AK}(h:CXH X H s E e s')(n:∀cls b,E cls AD b->f cls AD b):CXH X H s f e s':=by let#[C,a,cls,g,fl,b,B,j,l,m,o,p,q,r,t,r9,c,d]:=h;exact#[C,a,cls,g,fl,b,B,j,l,m,o,p,q,r,t,r9,c,n _ _ d]
section
variable {M:HQ}{A:Ar}{E:AG->AK->Prop}{s:AK}
def zeI{base:BB}{env:Env}{outer:Hs Env}{L e:AJ}{cls y fl:AG}{Q:IR->AK->Prop}
  (p:A.frames=AA (env::outer)) (hf:env.frame=AA L) (B:base.StaysIn s.heap) (r:base.get? e=AD) (C:s.heap.FunFrames base (env::outer)) (t:s.heap.TracedAtW base e cls y fl)
  (D:∀j,Ez base outer e cls y j->s.heap.UpToSlots j->Q IR.unit {s with heap:=j}):Aa M A («leaving» env (.ref e)) Q E s:=by
 by_cases g:fl=rawInt L
 .subst g;unfold «leaving»;refine AI (wpAny_noteFrame_againW hf t ?_);refine wpAny_landsW #[B,r,C,t] λj g O=>?_;let#[U,X,#[_,_,Y],Z]:=g;exact D j #[U,X,Y,Z] O
 .let#[oe,G,T,oT,ts,H,#[n,h0],I,J,u,w,x,l,N]:=t;subst n;unfold «leaving» noteFrame;erw[hf];refine AI (AI (BQ H I J ?_));rw[Hz (show (Ak T != Bv)=AC from by simp)];refine AI (BQ x l N ?_);rw[IA (show ¬((fl==rawInt L)=AC)from λz=>g (eq_of_beq z))];refine AI (FY x l (EB.mp N).1 ?_);have c:∀b,b≠T->(s.heap.update T (Obj.mapFields (·.setIfInBounds 3 Bv))).get? b=s.heap.get? b:=λb f=>DP _ _ (BW f);have a:∀b o,s.heap.get? b=AA o->(∀G,o.data ≠ .fields G)->b≠T:=λb o f d q=>by rw[q,x]at f;injection f with f;subst f;exact d ts l
  refine wpAny_newEntryW p (C.of_keeps λb o f d=>#[o,(c b (a b o f d)).trans f,rfl]) hf ((c e (BW w)).trans H)
   (λb o m=>(c b λq=>by rw[q,u]at m;cases m).trans (B b o m)) r I (EB.mp J).1 h0
   λj #[x1,#[_,_,x2],x3,x4]=>D j #[x1,r,x2,x3] λb o f d=>x4 b o ((c b (a b o f d)).trans f) d
end
section
variable {P:Ae}{w:Aq}{K:AF}{mg:AQ->Option AG}{base:BB}{N:Hs AQ}{qual:AQ}{scope:BU}{f:AJ}{cd:AG}{A:Ar}{outer:Hs Env}{s₀:AK}{H₀:Hp}{E:XK}
def zpl{F:Hs (AJ×Bd)}{D:St}{H:Hp}{s:AK}{e:AG}{s':AK}(I:Inv (yaY (CX1 P w) P w K mg base N qual scope f cd A outer s₀ H₀ E) F D H s)(h:CXH (yaY (CX1 P w) P w K mg base N qual scope f cd A outer s₀ H₀ E) H s E e s'):
  (yaY (CX1 P w) P w K mg base N qual scope f cd A outer s₀ H₀ E).xe e s':=by
 let#[C,a,cls,a0,fl,Y,B,hC,rfl,os,t,#[Z,f2,J,f4],L,un,hB,tr,hT,hE]:=h;have c:Un (frs outer) [] H₀ H s₀.heap s.heap:=I.base;have lt:∀b o,s₀.heap.get? b=AA o->b≠s₀.heap.objs.size:=λb o q=>Aw (A9 q);have m:∀b o,s₀.heap.get? b=AA o->b≠C:=λb o q=>Aw (Ad (A9 q) hC);have p:∀b o,s₀.heap.get? b=AA o->b∉[C]:=λb o q z=>m b o q (by simpa using z);have x:∀b,b∈frs (envOfC qual scope s₀.heap.objs.size f cd::outer)->b=s₀.heap.objs.size \/ b∈frs outer:=λb d=>by have M:b∈s₀.heap.objs.size::frs outer:=d;exact AM.mp M
 have g:Un (frs (envOfC qual scope s₀.heap.objs.size f cd::outer)) [C] H Y s.heap s'.heap:=un;have kB:∀b o,s₀.heap.get? b=AA o->H₀ b=AD->b∉frs outer->B.get? b=AA o:=λb o q n d=>hB b o (c.keep b o q n d (by simp)) (c.free b o q n (by simp)) (λz=>by
  rcases x b z with z|z
  .exact lt b o q z
  .exact d z) (m b o q)
 have kT:∀b o,s₀.heap.get? b=AA o->b∉frs outer->∃l,B.get? b=AA l:=λb o q d=>by
  let#[l,r]:=c.there b o q (by simp);refine hT b l r (λz=>?_) (m b o q);rcases x b z with z|z
  .exact lt b o q z
  .exact d z
 refine zeI I.ok.frames rfl Z f2 J f4 λh'' j up=>?_;refine#[a,cls,a0,Y,B,rfl,os.trans I.os,t,j,HOk.inB L Z j.1 tr,#[λb o q n d _=>j.1 b o (kB b o q n d),λb o q n d _=>?_,λb o q n _=>?_,λb o q _=>?_,λb xs q=>g.tups b xs (c.tups b xs q),λb o u q=>g.frzs b o u (c.frzs b o u q),λb ps q=>?_],kB,tr,kT,hE]
 .let#[sl,r]:=c.slot b o q n d (by simp);have n1:=c.free b o q n (by simp);let#[sl1,G]:=g.slot b _ r n1 (AT _ d) (p b o q);let#[_,l,O,Q]:=BV J (show b∈DS (λ(z:Env)=>z.frame) _ from AT _ d);let#[y,U]:=up b _ G (by rw[O]at G;cases G;exact Q);exact#[y,U]
 .let#[l,r]:=c.there b o q (by simp);exact g.free b l r (c.free b o q n (by simp)) (p b o q)
 .let#[l,r]:=c.there b o q (by simp);let#[o2,G]:=g.there b l r (p b o q)
  by_cases d:b∈frs outer
  .let#[_,o3,X,Q]:=BV J (show b∈DS (λ(z:Env)=>z.frame) _ from AT _ d);let#[y,U]:=up b _ X Q;exact#[_,U]
  .let#[o4,q4]:=kT b o q d;exact#[o4,j.1 b o4 q4]
 .let#[m1,e1]:=c.tbls b ps q;let#[m2,e2]:=g.tbls b _ e1;exact#[m1++m2,by rw[e2,Dr]]
end
section
variable {pg:Ae}{wd:Aq}{A:Ar}{R:Fk->AK->Prop}{s:AK}
end
section
variable {X:Cx}{sc:BU}{NC:Hs AQ}{slots:Hs (Option Ht)}{elt tg iter:AX}{ifs:Hs AX}{pos:Bq}{g:TG}{ti:TT}{te:CI->TE}{E:XK}
end
end L2
namespace L2
open PySem PySem.Spec PyProof.Rows IC
structure Se where
 cl:Ht->AJ
 call:Ht->Hs PV->SO->R PV
 may:Hy
section
variable (S:Se)(X:Cx)
def ExcAt(C:St)(B:AJ->Prop)(A:Ph)(H:Hp)(k:Ht)(b:SO)(e:AG)(s':AK):Prop:=
 (∃D a s A1,Inv X D C a s/\Step A H A1 a/\CX1 X.prog X.w X.stack a s (λcls _ c=>cls=.ref (S.cl k)/\∃d,Step A1 a d c/\yH X.K S.cl B d c b) e s') \/
 (S.may=AC/\∃D a s A1 f g j,Inv X D C a s/\Step A H A1 a/\yH X.K S.cl B A1 a b/\HA s.heap f g (.ref (S.cl k)) j/\e=.ref g/\s'={s with heap:=f}) \/
 (S.may=AC/\∃D a s,Inv X D C a s/\CXH X a s (λcls _ c=>cls=.ref (S.cl k)/\∃d,Step A H d c/\yH X.K S.cl B d c b) e s')
def Run{E F:Type}(C:St)(B:AJ->Prop)(A:Ph)(H:Hp)(Rel:Ph->Hp->E->F->Prop)(r:R E)(Q:F->Hp->Prop):Prop:=
 match r with
 |.ok v a=>∀x b c,Step A H c b->yH X.K S.cl B c b a->Rel c b v x->Q x b
 |.exc k a=>∀e d,ExcAt S X C B A H k a e d->X.xe e d
 |.bad=>II
abbrev RV(B:AJ->Prop):Ph->Hp->PV->V->Prop:=λA H=>ye X.K S.cl B A H
abbrev RL(B:AJ->Prop):Ph->Hp->Hs PV->Hs V->Prop:=λA H=>yq X.K S.cl B A H
abbrev RB:Ph->Hp->Hy->Hy->Prop:=λ_ _ b c=>b=c
def tE(c:Ce):TE:=λC H Q=>∃B A st Y,yH X.K S.cl B A H st/\yP X.K S.cl B A H Y C/\Run S X C B A H (RV S X B) (ev S.call Y st c) Q
def tAs(c:Ces):TA:=λC H Q=>∃B A st Y,yH X.K S.cl B A H st/\yP X.K S.cl B A H Y C/\Run S X C B A H (RL S X B) (evs S.call Y st c) Q
def ya5(r:R PV):R Hy:=r.bind λx st=>onO (yaU st x) λb=>.ok b st
def tTs(c:Ce):TT:=λC H Q=>∃B A st Y,yH X.K S.cl B A H st/\yP X.K S.cl B A H Y C/\Run S X C B A H RB (ya5 (ev S.call Y st c)) Q
end
section
variable {S:Se}{X:Cx}{C:St}{B:AJ->Prop}{A A1:Ph}{H H1:Hp}
theorem ExcAt.back{k:Ht}{a:SO}{e:AG}{s':AK}(s:Step A H A1 H1)(h:ExcAt S X C B A1 H1 k a e s'):ExcAt S X C B A H k a e s':=by
 rcases h with⟨D,b,t,A2,I,q,c⟩|⟨m,D,b,t,A2,d,f,g,I,q,c⟩|⟨m,D,b,t,I,c⟩
 .exact .inl #[D,b,t,A2,I,s.trans q,c]
 .exact .inr (.inl #[m,D,b,t,A2,d,f,g,I,s.trans q,c])
 .exact .inr (.inr #[m,D,b,t,I,c.mono λcls o #[j,l,n,r]=>#[j,l,s.trans n,r]])
variable {E F J G:Type}{Rel:Ph->Hp->E->F->Prop}{HZ:Ph->Hp->J->G->Prop}
theorem Run.on{r:R E}{Q:F->Hp->Prop}(s:Step A H A1 H1)(h:Run S X C B A H Rel r Q):Run S X C B A1 H1 Rel r Q:=by
 cases r with
 |ok v a=>exact λx b c t=>h x b c (s.trans t)
 |exc k a=>exact λe d x=>h e d (x.back s)
 |bad=>exact h
theorem Run.mono{r:R E}{Q d:F->Hp->Prop}(h:Run S X C B A H Rel r Q)(k:∀x a,Q x a->d x a):Run S X C B A H Rel r d:=by
 cases r with
 |ok v b=>exact λx a f t g j=>k x a (h x a f t g j)
 |exc c b=>exact h
 |bad=>exact h
theorem Run.bind{r:R E}{k:E->SO->R J}{Q:G->Hp->Prop}(h:Run S X C B A H HZ (r.bind k) Q):
  Run S X C B A H Rel r λx H1=>∃v a A1,Step A H A1 H1/\yH X.K S.cl B A1 H1 a/\Rel A1 H1 v x/\Run S X C B A1 H1 HZ (k v a) Q:=by
 cases r with
 |ok v b=>exact λx j d t f g=>#[v,b,d,t,f,g,Run.on t h]
 |exc c b=>exact h
 |bad=>exact h
theorem Run.ok{v:E}{st:SO}{Q:F->Hp->Prop}(h:Run S X C B A H Rel (.ok v st) Q)(rs:yH X.K S.cl B A H st){x:F}(a:Rel A H v x):Q x H:=h x H A .rfl rs a
theorem PE.imp{e:AX}{t t':TE}(h:PE X e t')(k:∀C H Q,t C H Q->t' C H Q):PE X e t:=λD s C H Q I q=>h D s C H Q I (k C H Q q)
theorem PT.imp{e:AX}{t t':TT}(h:PT X e t')(k:∀C H Q,t C H Q->t' C H Q):PT X e t:=λD s C H Q I q=>h D s C H Q I (k C H Q q)
theorem PW.imp{e:AX}{t t':TT}(h:PW X e t')(k:∀C H Q,t C H Q->t' C H Q):PW X e t:=λwh D s C H Q I q=>h wh D s C H Q I (k C H Q q)
theorem PA.imp{e:Hs AX}{t t':TA}(h:PA X e t')(k:∀C H Q,t C H Q->t' C H Q):PA X e t:=λpos D s C H Q I q=>h pos D s C H Q I (k C H Q q)
theorem tE.bind{c:Ce}{Y:IC.Env}{st:SO}{k:PV->SO->R J}{Q:G->Hp->Prop}{P:V->Hp->Prop}(rs:yH X.K S.cl B A H st)(d:yP X.K S.cl B A H Y C)(h:Run S X C B A H HZ ((ev S.call Y st c).bind k) Q)
  (n:∀x H1 v a A1,Step A H A1 H1->yH X.K S.cl B A1 H1 a->yP X.K S.cl B A1 H1 Y C->ye X.K S.cl B A1 H1 v x->Run S X C B A1 H1 HZ (k v a) Q->P x H1):tE S X c C H P:=
 #[B,A,st,Y,rs,d,(Run.bind h).mono λx H1 #[v,a,A1,s,b,f,g]=>n x H1 v a A1 s b (d.step s) f g]
theorem tAs.bind{c:Ces}{Y:IC.Env}{st:SO}{k:Hs PV->SO->R J}{Q:G->Hp->Prop}{P:Hs V->Hp->Prop}(rs:yH X.K S.cl B A H st)(d:yP X.K S.cl B A H Y C)(h:Run S X C B A H HZ ((evs S.call Y st c).bind k) Q)
  (n:∀x H1 v a A1,Step A H A1 H1->yH X.K S.cl B A1 H1 a->yP X.K S.cl B A1 H1 Y C->yq X.K S.cl B A1 H1 v x->Run S X C B A1 H1 HZ (k v a) Q->P x H1):tAs S X c C H P:=
 #[B,A,st,Y,rs,d,(Run.bind h).mono λx H1 #[v,a,A1,s,b,f,g]=>n x H1 v a A1 s b (d.step s) f g]
variable {i:Hw}{b:Hy}{x:AQ}{j:Ht}{pos:Bq}{e a a':AX}{c ca cb cc:Ce}
def zlJ:PE X (.Constant (.int i) j pos) (tE S X (.cst (.int i))):=zoS.imp λC H Q #[B,A,st,Y,a,b,h]=>by erw[ev]at h;exact h.ok a (by erw[ye])
def zor:PE X (.Constant (.bool b) j pos) (tE S X (.cst (.bl b))):=zpb.imp λC H Q #[B,A,st,Y,a,c,h]=>by erw[ev]at h;exact h.ok a (by erw[ye])
def zmg:PE X (.Constant .none j pos) (tE S X (.cst .non)):=zpc.imp λC H Q #[B,A,st,Y,a,b,h]=>by erw[ev]at h;exact h.ok a (by erw[ye])
def znL:PE X (.Constant (.str x) j pos) (tE S X (.cst (.str x))):=zoT.imp λC H Q #[B,A,st,Y,a,b,h]=>by erw[ev]at h;exact h.ok a (by erw[ye])
def znq{i:Ht}(b:X.N[i]?=AA x)(c:Vis X.env.scope x)(d:(x==("__debug__":AQ))=false:=by decide)(a:(x==("__classdict__":AQ))=false:=by decide):PE X (.Name x pos) (tE S X (.var i)):=
 (zns b c d a).imp λC H Q #[B,A,st,Y,f,g,h]=>by
  erw[ev]at h
  cases q:Y[i]? with
  |none=>rw[q]at h;exact h.elim
  |some o=>
   cases o with
   |none=>rw[q]at h;exact h.elim
   |some v=>
    rw[q]at h;let#[y,j,l]:=g.get i v q;exact#[y,j,h.ok f l]
def zj2{v:PV}{y:AJ}(a:Gl X x)(b:X.mg x=AA (.ref y))(c:∀B A H,ye X.K S.cl B A H v (.ref y))(d:(x==("__debug__":AQ))=false:=by decide):PE X (.Name x pos) (tE S X (.cst v)):=
 (zcB a b (show RelV (.ref y) (.ref y)from rfl) d).imp λC H Q #[B,A,st,Y,f,g,h]=>by erw[ev]at h;exact h.ok f (c B A H)
def zaa{o:Option PV}{st:SO}{Q:VK}(h:Run S X C B A H (RV S X B) (toR o st) Q)(rs:yH X.K S.cl B A H st):∃z,o=AA z/\∀c a b,Step A H b a->yH X.K S.cl B b a st->ye X.K S.cl B b a z c->Q c a:=by
 cases o with
 |none=>exact h.elim
 |some z=>exact#[z,rfl,h]
def rT2(S:Se)(X:Cx)(f:PV->PV->Option PV):R2:=λx y H Q=>∃B A st v w z,yH X.K S.cl B A H st/\ye X.K S.cl B A H v x/\ye X.K S.cl B A H w y/\f v w=AA z /\
 ∀c a b,Step A H b a->yH X.K S.cl B b a st->ye X.K S.cl B b a z c->Q c a
def znK{g:D6}{o:BOp}(j:OpR X (binaryOp g) (rT2 S X (yO o)))(l:PE X a (tE S X ca))(m:PE X a' (tE S X cb)):PE X (.BinOp a g a' pos) (tE S X (.bin o ca cb)):=
 (zlF j l m).imp λC H Q #[B,A,st,Y,n,p,h]=>by erw[ev]at h;refine tE.bind n p h λx H1 v r A1 I c d t u=>tE.bind c d u λy J w f A2 D b E rw G=>?_;let#[z,e,q]:=zaa G b;exact#[B,A2,f,v,w,z,b,t.step D,rw,e,q]
def znQ{c:Fc}{o:COp}(j:OpR X (compareOp c) (rT2 S X (yJ o)))(l:PE X a (tE S X ca))(m:PE X a' (tE S X cb))(n:behindInMarks c a'=AB):PE X (.Compare a [c] [a'] pos) (tE S X (.cmp o ca cb)):=
 (zet j l m n).imp λC H Q #[B,A,st,Y,p,r,h]=>by erw[ev]at h;refine tE.bind p r h λx H1 v t A1 J d f u D=>tE.bind d f D λy L w g A2 E b G rw I=>?_;let#[z,e,q]:=zaa I b;exact#[B,A2,g,v,w,z,b,u.step E,rw,e,q]
end
section
variable {S:Se}{X:Cx}{D:St}{B:AJ->Prop}{A A1:Ph}{H H1:Hp}{K:AF}{cl:Ht->AJ}{st:SO}
theorem ybP.sq{k:Hy}{a:AJ}{xs:Hs V}(r:ybP K B A H k a xs):SqT K H a xs:=by
 rcases r with⟨r,_⟩|r
 .exact .inl (.inl r)
 .exact .inr r.2
theorem yc2.sq{a:AJ}{xs:Hs V}(r:yc2 B A H a xs):SqL K H a xs:=.inl (.inl r.1)
theorem ye.tup_new{vs:Hs PV}{xs:Hs V}{p:AJ}(a:H p=AD)(rs:yH K cl B A H st)(r:yq K cl B A H vs xs):ye K cl B A (upd H p (.tup xs)) (.tup vs) (.ref p):=by
 erw[ye];refine#[p,xs,rfl,.inl #[zq,λz=>?_,λz=>?_],r.step (.upd a)]
 .let#[o,e]:=rs.dom p z;rw[a]at e;cases e
 .let#[o,e]:=rs.there z;rw[a]at e;cases e
theorem ye.lst_new{vs:Hs PV}{xs:Hs V}{p:AJ}(a:H p=AD)(rs:yH K cl B A H st)(r:yq K cl B A H vs xs):ye K cl B A (upd H p (.lst xs)) (.lst vs) (.ref p):=by
 erw[ye];refine#[p,xs,rfl,#[zq,λz=>?_,λz=>?_],r.step (.upd a)]
 .let#[o,e]:=rs.dom p z;rw[a]at e;cases e
 .let#[o,e]:=rs.there z;rw[a]at e;cases e
theorem yq.append:∀{vs a:Hs PV} {xs ys:Hs V},yq K cl B A H vs xs->yq K cl B A H a ys->yq K cl B A H (vs++a) (xs++ys)
 |[],a,xs,ys,h,q=>by erw[yq]at h;subst h;exact q
 |v::vs,a,xs,ys,h,q=>by erw[yq]at h;let#[y,b,rfl,r,l]:=h;show yq K cl B A H (v::(vs++a)) (y::(b++ys));erw[yq];exact#[y,b++ys,rfl,r,yq.append l q]
theorem yq.get:∀{vs:Hs PV} {xs:Hs V} (j:Ht) {v:PV},yq K cl B A H vs xs->vs[j]?=AA v->∃x,xs[j]?=AA x/\ye K cl B A H v x
 |[],xs,j,v,h,e=>by simp at e
 |w::vs,xs,0,v,h,e=>by erw[yq]at h;let#[y,a,rfl,r,l]:=h;simp at e;subst e;exact#[y,rfl,r]
 |w::vs,xs,j+1,v,h,e=>by erw[yq]at h;let#[y,a,rfl,r,l]:=h;let#[x,b,c]:=yq.get j l (by simpa using e);exact#[x,by simpa using b,c]
theorem yq.drop:∀{vs:Hs PV} {xs:Hs V} (n:Ht),yq K cl B A H vs xs->yq K cl B A H (vs.drop n) (xs.drop n)
 |vs,xs,0,h=>by simpa using h
 |[],xs,n+1,h=>by erw[yq]at h;subst h;simp[yq]
 |v::vs,xs,n+1,h=>by erw[yq]at h;let#[y,a,rfl,_,l]:=h;simpa using yq.drop n l
theorem yq.take:∀{vs:Hs PV} {xs:Hs V} (n:Ht),yq K cl B A H vs xs->yq K cl B A H (vs.take n) (xs.take n)
 |vs,xs,0,h=>by simp[yq]
 |[],xs,n+1,h=>by erw[yq]at h;subst h;simp[yq]
 |v::vs,xs,n+1,h=>by erw[yq]at h;let#[y,a,rfl,r,l]:=h;erw[Hs.take_succ_cons,yq];exact#[y,a.take n,rfl,r,yq.take n l]
def zdH{f:AG->AG->HR AG}{o:BOp}{C:Hw->Hw->Prop}{g:Hw->Hw->Hw}(h:OpR X f (rI C λi j=>.int (g i j)))
  (l:∀v w z,yO o v w=AA z->∃i j,v=.int i/\w=.int j/\C i j/\z=.int (g i j)):OpR X f (rT2 S X (yO o)):=by
 rintro E s D H x y v u Q I m n ⟨B,A,st,a,b,z,p,c,d,e,q⟩
 let#[i,j,rfl,rfl,r,rfl]:=l a b z e;erw[ye]at c d;subst c d;exact h E s D H _ _ v u Q I m n #[i,j,rfl,rfl,r,q _ H A .rfl p (by erw[ye])]
def ziJ{f:AG->AG->HR AG}{o:BOp}{g:Hw->Hw->Hw}(h:OpR X f (rI0 λi j=>.int (g i j)))
  (l:∀v w z,yO o v w=AA z->∃i j,v=.int i/\w=.int j/\z=.int (g i j)):OpR X f (rT2 S X (yO o)):=by
 rintro E s D H x y v u Q I m n ⟨B,A,st,a,b,z,p,c,d,e,q⟩
 let#[i,j,rfl,rfl,rfl]:=l a b z e;erw[ye]at c d;subst c d;exact h E s D H _ _ v u Q I m n #[i,j,rfl,rfl,q _ H A .rfl p (by erw[ye])]
def zkQ(v w z:PV)(h:yO .sub v w=AA z):∃i j,v=.int i/\w=.int j/\z=.int (i-j):=by
 unfold yO at h;split at h<;>first|(cases h;done)|skip
 exact#[_,_,rfl,rfl,(Ac h).symm]
def zla(v w z:PV)(h:yO .mul v w=AA z):∃i j,v=.int i/\w=.int j/\yd6 i j/\z=.int (i*j):=by
 unfold yO at h;split at h<;>first|(cases h;done)|skip
 rename_i i j;erw[IC.binI]at h;split at h
 .rename_i c;refine#[i,j,rfl,rfl,?_,(Ac h).symm];erw[ya2,Dg,Hx]at c;unfold yd6;rcases c with c|c
  .left;constructor<;>lia
  .right;constructor<;>lia
 .cases h
def zig(v w z:PV)(h:yO .fdiv v w=AA z):∃i j,v=.int i/\w=.int j/\ydM i j/\z=.int (i/j):=by
 unfold yO at h;split at h<;>first|(cases h;done)|skip
 rename_i i j;erw[IC.binI]at h;split at h
 .rename_i c;exact#[i,j,rfl,rfl,c,(Ac h).symm]
 .cases h
def zj0(v w z:PV)(h:yO .mod v w=AA z):∃i j,v=.int i/\w=.int j/\0<j/\z=.int (i%j):=by
 unfold yO at h;split at h<;>first|(cases h;done)|skip
 rename_i i j;erw[IC.binI]at h;split at h
 .rename_i c;exact#[i,j,rfl,rfl,c,(Ac h).symm]
 .cases h
def zks(v w z:PV)(h:yO .pow v w=AA z):∃i j,v=.int i/\w=.int j/\yfC i j/\z=.int (i^j.toNat):=by
 unfold yO at h;split at h<;>first|(cases h;done)|skip
 rename_i i j;erw[IC.binI]at h;split at h
 .rename_i c;exact#[i,j,rfl,rfl,#[c.1,c.2.1,by have:=c.2.2;lia],(Ac h).symm]
 .cases h
def zmJ:OpR X (binaryOp .Sub) (rT2 S X (yO .sub)):=ziJ zmo zkQ
def zmr:OpR X (binaryOp .Mult) (rT2 S X (yO .mul)):=zdH zmc zla
def zk9:OpR X (binaryOp .FloorDiv) (rT2 S X (yO .fdiv)):=zdH ziI zig
def zmx:OpR X (binaryOp .Mod) (rT2 S X (yO .mod)):=zdH zmG zj0
def zmm:OpR X (binaryOp .Pow) (rT2 S X (yO .pow)):=zdH zmw zks
def zJ:sizeMax=sizeLine:=by rw[Be];rfl
def zkO:OpR X (binaryOp .Add) (λx y H Q=>∃a b o,x=.ref a/\y=.ref b/\SqT X.K H a []/\SqT X.K H b o/\Q (.ref b) H):=by
 intro E s D H x y v u Q I A B h;let#[a,b,o,rfl,rfl,C,G,q]:=h
 cases A
 cases B
 let#[j,J,L,_]:=I.tuple C;let#[c,Y,M,_]:=I.tuple G;have:j=[]:=J.nil_iff.mpr rfl;subst this;let#[#[cls,N,p,O],r,t,n,w]:=id L;let#[#[z,l,data2,m],d,f,U,g]:=id M;simp only at t w f g;subst t w f g;exact GH #[_,r,rfl] #[_,d,rfl] Ed Fd DO DG (Cz _ _)
   (tuple_addW0 a b [].toArray c.toArray n U N l O m (by simp)) #[r,d,#[.ref b,H,I,rfl,q]]
def znr:OpR X (binaryOp .Add) (rT2 S X (yO .add)):=by
 rintro E s D H x y v u Q I m n ⟨B,A,st,a,b,z,g,d,f,e,q⟩
 unfold yO at e;split at e
 .rename_i i j;erw[ye]at d f;subst d f
  cases e
  exact znB E s D H _ _ v u Q I m n #[i,j,rfl,rfl,q _ H A .rfl g (by erw[ye])]
 .rename_i i k;erw[ye]at d f;subst d f
  cases e
  exact zgp E s D H _ _ v u Q I m n #[i,k,rfl,rfl,q _ H A .rfl g (by erw[ye];cases k<;>rfl)]
 .rename_i i j;erw[ye]at d f;subst d f;dsimp only at e;split at e
  .rename_i c
   cases e
   exact zf7 E s D H _ _ v u Q I m n #[i,j,rfl,rfl,by rw[<-zJ];exact c,q _ H A .rfl g (by erw[ye])]
  .cases e
 .rename_i Y U Z M;erw[ye]at d f;let#[p,o,rfl,C,r]:=d;let#[G,J,rfl,L,w]:=f;dsimp only at e;split at e
  .rename_i c
   cases e
   have N:=r.length;have O:=w.length;unfold yeg at q
   cases U with
   |nil=>
    have:o=[]:=by cases o with|nil=>rfl|cons _ _=>simp at N
    subst this;refine zkO E s D H _ _ v u Q I m n #[p,G,J,rfl,rfl,C.sq,L.sq,q _ H A .rfl g ?_];erw[G5,ID,ye];exact#[G,J,rfl,L,w]
   |cons v1 vr=>
    erw[ET,A5,IG]at q;refine zko E s D H _ _ v u Q I m n #[p,G,o,J,rfl,rfl,C.sq,L.sq,?_,by rw[<-zJ];lia,λz=>?_,λz t l=>?_]
    .rintro rfl
     simp at N
    .subst z;have:M=[]:=by cases M with|nil=>rfl|cons _ _=>simp at O
     subst this;erw[G5,ID]at q;refine q _ H A .rfl g ?_;erw[ye];exact#[p,o,rfl,C,r]
    .cases M with
     |nil=>exact IB (Eh.mp O.symm) z
     |cons w1 wr=>
      erw[ET,A5,IG]at q;exact q _ _ A (.upd l) (g.upd l) (.tup_new l g (r.append w))
  .cases e
 .rename_i U M;erw[ye]at d f;let#[p,o,rfl,C,r]:=d;let#[G,J,rfl,L,w]:=f;dsimp only at e;split at e
  .rename_i c
   cases e
   have N:=r.length;have O:=w.length;exact zjL E s D H _ _ v u Q I m n #[p,G,o,J,rfl,rfl,C.1,L.1,by rw[<-zJ];lia,λt l=>q _ _ A (.upd l) (g.upd l) (.lst_new l g (r.append w))]
  .cases e
 .cases e
end
mutual
noncomputable def toD:PV->PyData
 |.non=>.none
 |.bl b=>.bool b
 |.int i=>.int i
 |.str x=>.str x
 |.tp _ a=>.tuple (ybS a)
 |.lst a=>.list (ybS a)
 |_=>.none
noncomputable def ybS:Hs PV->Hs PyData
 |[]=>[]
 |x::a=>toD x::ybS a
end
mutual
theorem zdu:∀(v:PV) (n:Ht),shd n v=AC->(toD v).canLay0=AC/\(toD v).depth<=n
 |.non,n,h=>by simp[toD,Cj,DU]
 |.bl b,n,h=>by simp[toD,Cj,DU]
 |.int i,n,h=>by simp[toD,Cj,DU]
 |.str x,n,h=>by erw[shd]at h;erw[toD,Cj,DU,Ab,and_true];exact h
 |.tp _ a,n,h=>by erw[shd,AH,Hx]at h;let#[c,d]:=zdB a (n-1) h.2;erw[toD,Cj,DU];exact#[c,by lia]
 |.lst a,n,h=>by erw[shd,AH,Hx]at h;let#[c,d]:=zdB a (n-1) h.2;erw[toD,Cj,DU];exact#[c,by lia]
 |.loc k,n,h=>by simp[shd]at h
 |.fnc k,n,h=>by simp[shd]at h
 |.exn k,n,h=>by simp[shd]at h
 |.scr a,n,h=>by simp[shd]at h
theorem zdB:∀(v:Hs PV) (n:Ht),ybj n v=AC->EU (ybS v)=AC/\FI (ybS v)<=n
 |[],n,h=>by simp[ybS,EU,FI]
 |v::a,n,h=>by erw[ybj,AH]at h;let#[b,d]:=zdu v n h.1;let#[c,f]:=zdB a n h.2;erw[ybS,EU,FI,AH];exact#[#[b,c],by lia]
end
def zbm{v:PV}(h:shp v=AC):Ha (toD v)=true:=by let#[a,b]:=zdu v 60 h;unfold Ha;rw[a,A2,Hx];lia
mutual
theorem zdG:∀(v w:PV) (n m:Ht),shd n v=AC->shd m w=AC->EC (toD v) (toD w)=peq v w
 |.non,w,n,m,h,q=>by cases w<;>first|rfl|exact IB q A4
 |.bl b,w,n,m,h,q=>by cases w<;>first|rfl|exact IB q A4
 |.int i,w,n,m,h,q=>by cases w<;>first|rfl|exact IB q A4
 |.str x,w,n,m,h,q=>by cases w<;>first|rfl|exact IB q A4
 |.tp _ a,.tp _ c,n,m,h,q=>by have h:=Bp.1 h;have q:=Bp.1 q;exact zdr a c (n-1) (m-1) h.2 q.2
 |.lst a,.lst c,n,m,h,q=>by have h:=Bp.1 h;have q:=Bp.1 q;exact zdr a c (n-1) (m-1) h.2 q.2
 |.tp _ a,.non,n,m,h,q=>rfl
 |.tp _ a,.bl _,n,m,h,q=>rfl
 |.tp _ a,.int _,n,m,h,q=>rfl
 |.tp _ a,.str _,n,m,h,q=>rfl
 |.tp _ a,.lst _,n,m,h,q=>rfl
 |.lst a,.non,n,m,h,q=>rfl
 |.lst a,.bl _,n,m,h,q=>rfl
 |.lst a,.int _,n,m,h,q=>rfl
 |.lst a,.str _,n,m,h,q=>rfl
 |.lst a,.tp _ _,n,m,h,q=>rfl
 |.loc k,w,n,m,h,q=>IB h A4
 |.fnc k,w,n,m,h,q=>IB h A4
 |.exn k,w,n,m,h,q=>IB h A4
 |.scr k,w,n,m,h,q=>IB h A4
 |v,.loc k,n,m,h,q=>IB q A4
 |v,.fnc k,n,m,h,q=>IB q A4
 |v,.exn k,n,m,h,q=>IB q A4
 |v,.scr k,n,m,h,q=>IB q A4
theorem zdr:∀(v w:Hs PV) (n m:Ht),ybj n v=AC->ybj m w=AC->HP (ybS v) (ybS w)=yci v w
 |[],[],n,m,h,q=>rfl
 |[],y::a,n,m,h,q=>rfl
 |x::b,[],n,m,h,q=>rfl
 |x::b,y::a,n,m,h,q=>by have h:=Bp.1 h;have q:=Bp.1 q;show (EC (toD x) (toD y)&&HP (ybS b) (ybS a))=(peq x y&&yci b a);rw[zdG x y n m h.1 q.1,zdr b a n m h.2 q.2]
end
section
variable {S:Se}{X:Cx}{D:St}{B:AJ->Prop}{C C1:Ph}{H H1:Hp}{st:SO}{E:Hs (AJ×Bd)}{s:AK}
mutual
theorem zaK(I:Inv X E D H s):∀(v:PV) (n:Ht) (x:V) (u:AG),shd n v=AC->ye X.K S.cl B C H v x->RelV x u->∃j,Reads s.heap u (toD v) j
 |.non,n,x,u,h,r,q=>by erw[ye]at r;subst r;cases (show u=Bv from q);exact#[_,.none]
 |.bl b,n,x,u,h,r,q=>by erw[ye]at r;subst r;cases (show u=Dp b from q);exact#[_,.bool b]
 |.int i,n,x,u,h,r,q=>by erw[ye]at r;subst r;let#[t,rfl]:=q;exact#[_,.int i t]
 |.str y,n,x,u,h,r,q=>by erw[ye]at r;subst r;let#[t,rfl]:=q;exact#[_,.str y t]
 |.tp _ m,n,x,u,h,r,q=>by
  erw[ye]at r;let#[a,p,rfl,w,l]:=r
  cases (show u=Ak a from q)
  erw[shd,AH]at h;let#[f,A,#[o,g,c,k,d],_]:=I.tuple w.sq;let#[j,z]:=zcK I m (n-1) p f h.2 l A;exact#[j,.tuple g c d (by simpa using z)]
 |.lst m,n,x,u,h,r,q=>by
  erw[ye]at r;let#[a,p,rfl,w,l]:=r
  cases (show u=Ak a from q)
  erw[shd,AH]at h;let#[f,A,#[o,k,g,c,_,d],_]:=I.list (w.sq (K:=X.K));let#[j,z]:=zcK I m (n-1) p f h.2 l A;exact#[_,.list g c d (by simpa using z)]
 |.loc k,n,x,u,h,r,q=>by simp[shd]at h
 |.fnc k,n,x,u,h,r,q=>by simp[shd]at h
 |.exn k,n,x,u,h,r,q=>by simp[shd]at h
 |.scr k,n,x,u,h,r,q=>by simp[shd]at h
theorem zcK(I:Inv X E D H s):∀(v:Hs PV) (n:Ht) (x:Hs V) (u:Hs AG),ybj n v=AC->yq X.K S.cl B C H v x->Vals x u->∃a,ReadsAll s.heap u (ybS v) a
 |[],n,x,u,h,r,q=>by erw[yq]at r;subst r;cases q;exact#[_,.nil]
 |v::b,n,x,u,h,r,q=>by
  erw[yq]at r;let#[y,c,rfl,d,l]:=r;erw[ybj,AH]at h
  cases q with
  |cons f g=>
   let#[a,j]:=zaK I v n y _ h.1 d f;let#[bs,m]:=zcK I b n c _ h.2 l g;exact#[_,.cons j m]
end
def zol(d:X.A.units+64<cLine):OpR X (compareOp .Eq) (rT2 S X (yJ .eq)):=by
 rintro E s D H x y v u Q I f g ⟨B,C,st,a,b,z,j,l,m,e,q⟩
 erw[yJ]at e;split at e
 .rename_i c;rw[AH]at c
  cases e
  let#[p,n]:=zaK (S:=S) I a 60 x v c.1 l f;let#[bs,o]:=zaK (S:=S) I b 60 y u c.2 m g;refine eq_dataH n o (zbm c.1) (zbm c.2) d #[.bl _,H,I,rfl,?_];rw[zdG a b 60 60 c.1 c.2];exact q _ H C .rfl j (by erw[ye])
 .cases e
def zos(d:X.A.units+64<cLine):OpR X (compareOp .NotEq) (rT2 S X (yJ .ne)):=by
 rintro E s D H x y v u Q I f g ⟨B,C,st,a,b,z,j,l,m,e,q⟩
 erw[yJ]at e;split at e
 .rename_i c;rw[AH]at c
  cases e
  let#[p,n]:=zaK (S:=S) I a 60 x v c.1 l f;let#[bs,o]:=zaK (S:=S) I b 60 y u c.2 m g;refine ne_dataH n o (zbm c.1) (zbm c.2) d #[.bl _,H,I,rfl,?_];rw[zdG a b 60 60 c.1 c.2];exact q _ H C .rfl j (by erw[ye])
 .cases e
def zgr{f:AG->AG->HR AG}{o:COp}{g:Hw->Hw->Hy}(h:OpR X f (rI0 λi j=>.bl (g i j)))
  (l:∀v w z,yJ o v w=AA z->∃i j,v=.int i/\w=.int j/\z=.bl (g i j)):OpR X f (rT2 S X (yJ o)):=by
 rintro E s D H x y v u Q I m n ⟨B,C,st,a,b,z,p,c,d,e,q⟩
 let#[i,j,rfl,rfl,rfl]:=l a b z e;erw[ye]at c d;subst c d;exact h E s D H _ _ v u Q I m n #[i,j,rfl,rfl,q _ H C .rfl p (by erw[ye])]
def zgH:OpR X (compareOp .LtE) (λx y H Q=>∃i j,x=.str i/\y=.str j/\Q (.bl (!decide (j.cps.toList<i.cps.toList))) H):=by intro E s D H x y v u Q I a b h;let#[i,j,rfl,rfl,q]:=h;let#[t,rfl]:=a;let#[c,rfl]:=b;exact PySem.P.le_str (zg9 I q rfl)
def zn2:OpR X (compareOp .Lt) (rT2 S X (yJ .lt)):=by
 rintro E s D H x y v u Q I f g ⟨B,C,st,a,b,z,l,c,d,e,q⟩
 erw[yJ]at e;split at e
 .rename_i i j;erw[ye]at c d;subst c d
  cases e
  exact zov E s D H _ _ v u Q I f g #[i,j,rfl,rfl,q _ H C .rfl l (by erw[ye])]
 .rename_i i j;erw[ye]at c d;subst c d
  cases e
  exact zg8 E s D H _ _ v u Q I f g #[i,j,rfl,rfl,q _ H C .rfl l (by erw[ye])]
 .cases e
def zoa:OpR X (compareOp .LtE) (rT2 S X (yJ .le)):=by
 rintro E s D H x y v u Q I f g ⟨B,C,st,a,b,z,l,c,d,e,q⟩
 erw[yJ]at e;split at e
 .rename_i i j;erw[ye]at c d;subst c d
  cases e
  exact znX E s D H _ _ v u Q I f g #[i,j,rfl,rfl,q _ H C .rfl l (by erw[ye])]
 .rename_i i j;erw[ye]at c d;subst c d
  cases e
  exact zgH E s D H _ _ v u Q I f g #[i,j,rfl,rfl,q _ H C .rfl l (by erw[ye])]
 .cases e
def zfz{o:COp}{g:Hw->Hw->Hy}(c:∀v w,yJ o v w=match v,w with
   |.int i,.int j=>ycf o i j
   |.str a,.str b=>ydG o a b
   |_,_=>AD) (d:∀a b,ydG o a b=AD) (f:∀i j,ycf o i j=AA (.bl (g i j))) (v w z:PV) (h:yJ o v w=AA z):∃i j,v=.int i/\w=.int j/\z=.bl (g i j):=by
 rw[c]at h;split at h
 .rename_i i j;rw[f]at h;exact#[i,j,rfl,rfl,(Ac h).symm]
 .rw[d]at h;cases h
 .cases h
def zot:OpR X (compareOp .Gt) (rT2 S X (yJ .gt)):=zgr zob (zfz (λ_ _=>rfl) (λ_ _=>rfl) λ_ _=>rfl)
def zoh:OpR X (compareOp .GtE) (rT2 S X (yJ .ge)):=zgr znT (zfz (λ_ _=>rfl) (λ_ _=>rfl) λ_ _=>rfl)
theorem ye.flat{K:AF}{c:Ht->AJ}{v:PV}{x:V}(r:ye K c B C H v x)(h:IC.flat v=AC):ya6 x=AC/\∀(w:PV) (y:V),IC.flat w=AC->ye K c B C H w y->eqV x y=peq v w:=by
 cases v with
 |non=>
  erw[ye]at r;subst r;refine#[rfl,λw y a rw=>?_]
  cases w<;>first|(simp[IC.flat]at a;done)|(erw[ye]at rw;subst rw;rfl)
 |bl b=>
  erw[ye]at r;subst r;refine#[rfl,λw y a rw=>?_]
  cases w<;>first|(simp[IC.flat]at a;done)|(erw[ye]at rw;subst rw;rfl)
 |int b=>
  erw[ye]at r;subst r;refine#[rfl,λw y a rw=>?_]
  cases w<;>first|(simp[IC.flat]at a;done)|(erw[ye]at rw;subst rw;rfl)
 |str b=>
  erw[ye]at r;subst r;refine#[rfl,λw y a rw=>?_]
  cases w<;>first|(simp[IC.flat]at a;done)|(erw[ye]at rw;subst rw;rfl)
 |_=>simp[IC.flat]at h
def zem{K:AF}{a:Ht->AJ}{v:PV}{x:V}(r:ye K a B C H v x)(h:IC.flat v=AC):∀{vs:Hs PV} {xs:Hs V},yq K a B C H vs xs->vs.all IC.flat=AC->xs.all ya6=AC/\inV x xs=inL v vs
 |[],xs,l,_=>by erw[yq]at l;subst l;exact#[rfl,rfl]
 |w::vs,xs,l,f=>by erw[yq]at l;let#[y,j,rfl,rw,l]:=l;rw[An,AH]at f;let#[c,b]:=zem r h l f.2;let#[d,g]:=rw.flat f.1;refine#[by rw[An,d,c];rfl,?_];unfold inV at b ⊢;rw[Ba,b,g v x h r];rfl
end
def zk5(a b:AQ):(!(Ea b a 0 b.length 1).isEmpty)=inS a b:=by
 rw[DE,StrLaws.found_iff];unfold inS;rw[DY];constructor
 .rintro⟨i,c,d⟩
  exact#[i,by rw[Gq];lia,by rw[AH,Hx];exact#[c,d]]
 .rintro⟨i,_,h⟩
  rw[AH,Hx]at h;exact#[i,h.1,h.2]
section
variable {S:Se}{X:Cx}{C:St}{B:AJ->Prop}{A A1:Ph}{H H1:Hp}{st:SO}
def zoj:OpR X (compareOp .In) (rT2 S X (yJ .isin)):=by
 rintro D s C H x y v u Q I g m ⟨B,A,st,a,b,z,n,d,f,e,q⟩
 erw[yJ]at e;split at e
 .rename_i i j;erw[ye]at d f;subst d f
  cases e
  exact zhh D s C H _ _ v u Q I g m #[i,j,rfl,rfl,by rw[zk5];exact q _ H A .rfl n (by erw[ye])]
 .rename_i l;split at e
  .rename_i c;rw[AH]at c
   cases e
   erw[ye]at f;let#[p,o,rfl,r,t]:=f;let#[w,E]:=zem d c.1 t c.2;exact zeg D s C H _ _ v u Q I g m #[p,o,rfl,.inr r.sq,(d.flat c.1).1,w,q _ H A .rfl n (by erw[ye];rw[<-E];rfl)]
  .cases e
 .rename_i l;split at e
  .rename_i c;rw[AH]at c
   cases e
   erw[ye]at f;let#[p,o,rfl,r,t]:=f;let#[w,E]:=zem d c.1 t c.2;exact zeg D s C H _ _ v u Q I g m #[p,o,rfl,.inl r.sq,(d.flat c.1).1,w,q _ H A .rfl n (by erw[ye];rw[<-E];rfl)]
  .cases e
 .cases e
theorem yq.empty{K:AF}{a:Ht->AJ}{vs:Hs PV}{xs:Hs V}(l:yq K a B A H vs xs):vs.isEmpty=xs.isEmpty:=by
 have:=l.length
 cases vs<;>cases xs<;>simp_all
def zkP{K:AF}{g:Ht->AJ}{v:PV}{x:V}{k:Hy}(rs:yH K g B A H st)(r:ye K g B A H v x)(h:yaU st v=AA k):yeJ K x H k:=by
 cases v with
 |non=>erw[ye]at r;subst r;cases h;rfl
 |bl b=>erw[ye]at r;subst r;cases h;rfl
 |int b=>erw[ye]at r;subst r;cases h;rfl
 |str b=>
  erw[ye]at r;subst r;erw[yaU]at h;split at h
  .rename_i c
   cases h
   exact#[by rw[<-zJ];exact c,rfl]
  .cases h
 |tp k j=>
  erw[ye]at r;let#[a,d,rfl,f,l]:=r
  cases h
  exact .inr (.inl #[d,f.sq,by rw[l.empty]])
 |lst j=>
  erw[ye]at r;let#[a,d,rfl,f,l]:=r
  cases h
  exact .inl #[d,f.sq,by rw[l.empty]]
 |loc n=>
  erw[ye]at r;let#[y,a,rfl,t]:=r;erw[yaU]at h;split at h
  .rename_i j m
   cases h
   let#[b,p]:=rs.liv n _ m (by intro z;cases z);obtain rfl:=t b p;let#[o,q,u]:=rs.obj n b p;rw[m]at q;cases q;let#[d,w,l]:=u;exact .inl #[d,.of w,by rw[l.empty]]
  .cases h
 |fnc c=>cases h
 |exn c=>cases h
 |scr c=>cases h
end
theorem R.bind_assoc{A B J:Type}{r:R A}{k:A->SO->R B}{l:B->SO->R J}:(r.bind k).bind l=r.bind λa s=>(k a s).bind l:=by cases r<;>rfl
section
variable {S:Se}{X:Cx}{A:St}{B:AJ->Prop}{C C1:Ph}{H H1:Hp}{st:SO}{Y:IC.Env}{pos:Bq}{a b c d:AX}{ca cb cc:Ce}{es:Hs AX}{ces:Ces}
def zdy{o:COp}{v w z:PV}(h:yJ o v w=AA z):∃k,z=.bl k:=by
 cases o<;>erw[yJ]at h
 all_goals (repeat' split at h)<;>first|(cases h;done)|(cases h;exact#[_,rfl])|skip
 all_goals (erw[ycf]at h;cases h;exact#[_,rfl])
def zmD{d:Fc}{o:COp}(p:OpR X (compareOp d) (rT2 S X (yJ o)))(q:PE X a (tE S X ca))(r:PE X b (tE S X cb))(t:behindInMarks d b=AB):PT X (.Compare a [d] [b] pos) (tTs S X (.cmp o ca cb)):=
 (zhM p q r t).imp λA H Q #[B,C,st,Y,u,D,h]=>by
  erw[ev,ya5,R.bind_assoc]at h;refine tE.bind u D h λx H1 v E C1 U f g G I=>tE.bind f g I λy Z w j C2 J l L rw c=>?_
  cases e:yJ o v w with
  |none=>rw[e]at c;exact c.elim
  |some z=>
   let#[k,rfl]:=zdy e;rw[e]at c;refine#[B,C2,j,v,w,.bl k,l,G.step J,rw,e,λz' M N O m n=>?_];erw[ye]at n;exact#[k,n,c k M N O m rfl]
def zm3(g:PE X a (tE S X ca))(j:∀b,isTrue a X.env b=(do let v <-b;standAt a.pos;holding [v] (truthy v)):=by intro _;rfl):PT X a (tTs S X ca):=
 (ziF g j).imp λA H Q #[B,C,st,Y,l,m,h]=>by
  erw[ya5]at h;refine tE.bind l m h λx H1 v f C1 p c n o d=>?_
  cases e:yaU f v with
  |none=>rw[e]at d;exact d.elim
  |some k=>
   rw[e]at d;exact#[k,zkP c o e,d.ok c rfl]
theorem tTs.bind{J D:Type}{HZ:Ph->Hp->J->D->Prop}{k:Hy->SO->R J}{Q:D->Hp->Prop}{P:Hy->Hp->Prop}(rs:yH X.K S.cl B C H st)(d:yP X.K S.cl B C H Y A)(h:Run S X A B C H HZ ((ya5 (ev S.call Y st ca)).bind k) Q)
  (n:∀b H1 a C1,Step C H C1 H1->yH X.K S.cl B C1 H1 a->yP X.K S.cl B C1 H1 Y A->Run S X A B C1 H1 HZ (k b a) Q->P b H1):tTs S X ca A H P:=
 #[B,C,st,Y,rs,d,(Run.bind h).mono λx H1 #[v,a,C1,s,c,f,g]=>by subst f;exact n v H1 a C1 s c (d.step s) g]
def zeG(r:R PV)(f:Hy->SO->R PV):ya5 (r.bind λx a=>onBl x λb=>f b a)=r.bind λx a=>onBl x λb=>ya5 (f b a):=by
 unfold ya5;rw[R.bind_assoc]
 congr 1
 funext x a
 cases x<;>rfl
theorem Run.bl_tru{r:R PV}{k:Hy->SO->R Hy}{Q:Hy->Hp->Prop}(h:Run S X A B C H RB (r.bind λx a=>onBl x λb=>k b a) Q):Run S X A B C H RB ((ya5 r).bind k) Q:=by
 cases r with
 |bad=>exact h
 |exc c s=>exact h
 |ok v s=>
  cases v with
  |bl b=>exact h
  |_=>exact h.elim
def zno(f:PT X a (tTs S X ca)):PT X (.UnaryOp .Not a pos) (tTs S X (.not ca)):=
 (znM f).imp λA H Q #[B,C,st,Y,g,j,h]=>by erw[ev]at h;rw[zeG _ λk c=>.ok (.bl (!k)) c]at h;exact tTs.bind g j (Run.bl_tru (k:=λb c=>.ok (!b) c) h) λb H1 c C1 n d l m=>m.ok d rfl
variable {rest:Hs AX}
def zjZ(b:PT X a (tTs S X ca)):PW X (.BoolOp .And [a] pos) (tTs S X ca):=zk3 b
def zl5(b:PT X a (tTs S X ca)):PW X (.BoolOp .Or [a] pos) (tTs S X ca):=znP b
def zl3(j:PT X a (tTs S X ca))(l:PW X (.BoolOp .And (b::rest) pos) (tTs S X cb)):PW X (.BoolOp .And (a::b::rest) pos) (tTs S X (.and ca cb)):=
 (zm2 j l).imp λA H Q #[B,C,st,Y,m,n,h]=>by
  erw[ev]at h;rw[zeG _ λk c=>cond k (ev S.call Y c cb) (.ok (.bl AB) c)]at h;refine tTs.bind m n (Run.bl_tru h) λk H1 c C1 o d f g=>?_
  cases k with
  |false=>exact g.ok d rfl
  |true=>exact#[B,C1,c,Y,d,f,g]
def zn3(j:PT X a (tTs S X ca))(l:PW X (.BoolOp .Or (b::rest) pos) (tTs S X cb)):PW X (.BoolOp .Or (a::b::rest) pos) (tTs S X (.or ca cb)):=
 (zoi j l).imp λA H Q #[B,C,st,Y,m,n,h]=>by
  erw[ev]at h;rw[zeG _ λk c=>cond k (.ok (.bl AC) c) (ev S.call Y c cb)]at h;refine tTs.bind m n (Run.bl_tru h) λk H1 c C1 o d f g=>?_
  cases k with
  |true=>exact g.ok d rfl
  |false=>exact#[B,C1,c,Y,d,f,g]
def zjW{b:Hb}(h:PE X a (tE S X ca)):PE X (.BoolOp b [a] pos) (tE S X ca):=znD h
def zjU(l:PE X a (tE S X ca))(m:PE X (.BoolOp .And (b::rest) pos) (tE S X cb)):PE X (.BoolOp .And (a::b::rest) pos) (tE S X (.and ca cb)):=
 (znz l m).imp λA H Q #[B,C,st,Y,n,o,h]=>by
  erw[ev]at h;refine tE.bind n o h λx H1 v d C1 p c f j g=>?_
  cases v with
  |bl k=>
   erw[ye]at j;refine#[k,j,?_]
   cases k with
   |true=>exact#[B,C1,d,Y,c,f,g]
   |false=>exact g.ok c (by erw[ye])
  |_=>exact g.elim
def zl1(l:PE X a (tE S X ca))(m:PE X (.BoolOp .Or (b::rest) pos) (tE S X cb)):PE X (.BoolOp .Or (a::b::rest) pos) (tE S X (.or ca cb)):=
 (znY l m).imp λA H Q #[B,C,st,Y,n,o,h]=>by
  erw[ev]at h;refine tE.bind n o h λx H1 v d C1 p c f j g=>?_
  cases v with
  |bl k=>
   erw[ye]at j;refine#[k,j,?_]
   cases k with
   |false=>exact#[B,C1,d,Y,c,f,g]
   |true=>exact g.ok c (by erw[ye])
  |_=>exact g.elim
def znw(f:PE X a (tE S X ca)):PE X (.UnaryOp .Not a pos) (tE S X (.not ca)):=
 (zm1 f).imp λA H Q #[B,C,st,Y,g,j,h]=>by
  erw[ev]at h;refine tE.bind g j h λx H1 v l C1 n b m c d=>?_
  cases v with
  |bl k=>
   erw[ye]at c;exact#[k,c,d.ok b (by erw[ye])]
  |_=>exact d.elim
def zmA(f:PE X a (tE S X ca)):PE X (.UnaryOp .USub a pos) (tE S X (.neg ca)):=
 (zoo zmE f).imp λA H Q #[B,C,st,Y,g,j,h]=>by
  erw[ev]at h;refine tE.bind g j h λx H1 v l C1 n b m d c=>?_;split at c
  .simp only[ye]at d;exact#[_,d,c.ok b (by erw[ye])]
  .exact c.elim
def zl9(l:PT X c (tTs S X cc))(m:PE X a (tE S X ca))(n:PE X b (tE S X cb)):PE X (.IfExp c a b pos) (tE S X (.ite cc ca cb)):=
 (ziQ l m n).imp λA H Q #[B,C,st,Y,o,p,h]=>by
  erw[ev]at h;have e:((ev S.call Y st cc).bind λx d=>onO (yaU d x) λk=>cond k (ev S.call Y d ca) (ev S.call Y d cb))=(ya5 (ev S.call Y st cc)).bind λk d=>cond k (ev S.call Y d ca) (ev S.call Y d cb):=by
   unfold ya5;rw[R.bind_assoc]
   congr 1
   funext x d
   cases yaU d x<;>rfl
  rw[e]at h;refine tTs.bind o p h λk H1 d C1 q f g j=>?_
  cases k with
  |true=>exact#[B,C1,d,Y,f,g,j]
  |false=>exact#[B,C1,d,Y,f,g,j]
def zcC:PA X [] (tAs S X .nil):=zoB.imp λA H Q #[B,C,st,Y,a,b,h]=>by erw[IC.vsq0,IC.vsq1]at h;exact h.ok a (by erw[yq])
def zaO(g:PE X a (tE S X ca))(j:PA X es (tAs S X ces))(l:starEach (a::es) X.env=(AB,eval a X.env)::starEach es X.env:=by rfl):PA X (a::es) (tAs S X (.cons ca ces)):=
 (zan g j l).imp λA H Q #[B,C,st,Y,m,n,h]=>by erw[IC.vsq0,IC.vsq1]at h;refine tE.bind m n h λx H1 v o C1 z b c p q=>tAs.bind b c q λr D E t C2 u d w f y=>?_;refine y.ok d ?_;erw[yq];exact#[x,r,rfl,p.step u,f]
def zmW{k:Ht}(h:PA X es (tAs S X ces)):PE X (.Tuple es k pos) (tE S X (.tup ces)):=
 (zgU h).imp λA H Q #[B,C,st,Y,g,j,h]=>by
  erw[ev]at h;refine tAs.bind g j h λn H1 o l C1 q a m f b=>?_;split at b
  .rename_i c;refine#[by rw[<-zJ,<-f.length];exact c,λp d=>b _ _ C1 (.upd d) (a.upd d) (.tup_new d a f)]
  .exact b.elim
def zmb(h:PA X es (tAs S X ces)):PE X (.List es pos) (tE S X (.lst ces)):=
 (zjX h).imp λA H Q #[B,C,st,Y,g,j,h]=>by
  erw[ev]at h;refine tAs.bind g j h λn H1 o l C1 q a m f b=>?_;split at b
  .rename_i c;refine#[by rw[<-zJ,<-f.length];exact c,λp d=>b _ _ C1 (.upd d) (a.upd d) (.lst_new d a f)]
  .exact b.elim
theorem Step.push{p:AJ}{o:HO}(c:H p=AD):Step C H (C++[AA p]) (L2.upd H p o):=by
 refine#[λb u n e=>by rw[zl (zp e c)];exact e,by simp,λn a d e=>?_,λb h=>?_]
 .rw[AY d]at e;exact e
 .rw[Am]at h;rcases h with h|h
  .exact .inl h
  .have:b=p:=by simpa using h
   subst this;exact .inr c
theorem yH.push{K:AF}{f:Ht->AJ}{p:AJ}{u:HO}{o:Ob}(rs:yH K f B C H st)(g:H p=AD)(x:¬B p)(y:ycp K f B (C++[AA p]) (L2.upd H p u) o p):yH K f B (C++[AA p]) (L2.upd H p u) (st++[o]):=by
 have s:Step C H (C++[AA p]) (L2.upd H p u):=.push g;have j:AA p∉C:=λz=>by let#[w,e]:=rs.there z;rw[g]at e;cases e
 have A:C.length=st.length:=rs.len;refine#[by simp[A],λm n a c b=>?_,λn a e=>?_,λn l e t=>?_,λa h=>?_,λa h=>?_]
 .by_cases D:m<C.length
  .rw[AY D]at c
   by_cases d:n<C.length
   .rw[AY d]at b;exact rs.inj m n a c b
   .rw[Ag ()]at b;have:a=p:=by
     cases q:n-C.length with
     |zero=>rw[q]at b;simpa using b.symm
     |succ k=>rw[q]at b;simp at b
    subst this;exact IB (A1 c) j
  .rw[Ag ()]at c;have:m-C.length=0/\a=p:=by
    cases q:m-C.length with
    |zero=>rw[q]at c;exact#[rfl,by simpa using c.symm]
    |succ k=>rw[q]at c;simp at c
   let#[E,rfl]:=this
   by_cases d:n<C.length
   .rw[AY d]at b;exact IB (A1 b) j
   .rw[Ag ()]at b;have:n-C.length=0:=by
     cases q:n-C.length with
     |zero=>rfl
     |succ k=>rw[q]at b;simp at b
    lia
 .by_cases d:n<C.length
  .rw[AY d]at e;let#[l,q,r]:=rs.obj n a e;refine#[l,by rw[AY ()];exact q,r.step s ?_];rw[zl]
   rintro rfl
   exact j (A1 e)
  .rw[Ag ()]at e;have:n-C.length=0/\a=p:=by
    cases q:n-C.length with
    |zero=>rw[q]at e;exact#[rfl,by simpa using e.symm]
    |succ k=>rw[q]at e;simp at e
   let#[E,rfl]:=this;refine#[o,?_,y];rw[Ag ()];have:n-st.length=0:=by lia
   rw[this];rfl
 .by_cases d:n<C.length
  .rw[AY ()]at e;let#[a,q]:=rs.liv n l e t;exact#[a,by rw[AY d];exact q]
  .rw[Ag ()]at e;have:n-st.length=0:=by
    cases q:n-st.length with
    |zero=>rfl
    |succ k=>rw[q]at e;simp at e
   refine#[p,?_];rw[Ag ()];have:n-C.length=0:=by lia
   rw[this];rfl
 .rw[Am]at h;rcases h with h|h
  .exact rs.nb a h
  .have:a=p:=by simpa using h
   subst this;exact x
 .let#[w,e]:=rs.dom a h;exact#[w,by rw[zl (zp e g)];exact e]
theorem yH.nB{K:AF}{a:Ht->AJ}{p:AJ}(rs:yH K a B C H st)(b:H p=AD):¬B p:=λz=>by let#[o,e]:=rs.dom p z;rw[b]at e;cases e
theorem ye.loc_new{K:AF}{a:Ht->AJ}{p:AJ}(rs:yH K a B C H st):ye K a B (C++[AA p]) H1 (.loc st.length) (.ref p):=by
 erw[ye];have c:=rs.len;refine#[by simp[c],p,rfl,λb e=>?_];rw[Ag ()]at e;have:st.length-C.length=0:=by lia
 rw[this]at e;simpa using e.symm
def zky(h:PA X es (tAs S X ces)):PE X (.List es pos) (tE S X (.newl ces)):=
 (zjX h).imp λA H Q #[B,C,st,Y,g,j,h]=>by
  erw[ev]at h;refine tAs.bind g j h λl H1 o m C1 q a n f d=>?_;split at d
  .rename_i c;refine#[by rw[<-zJ,<-f.length];exact c,λp b=>d _ _ (C1++[AA p]) (.push b) (a.push b (a.nB b) #[l,zq,f.step (.push b)]) (.loc_new a)]
  .exact d.elim
end
section
variable {S:Se}{X:Cx}{C:St}{B:AJ->Prop}{G G1:Ph}{H H1:Hp}{st:SO}{Y:IC.Env}{pos p2:Bq}{a b c d:AX}{ca cb cc:Ce}{es:Hs AX}{ces:Ces}{K:AF}{cl:Ht->AJ}
def zia{o:COp}{v w:PV}{J L:Type}{Rel:Ph->Hp->J->L->Prop}{k:Hy->R J}{Q:L->Hp->Prop}(h:Run S X C B G H Rel (onO (blO (yJ o v w)) k) Q):∃b,yJ o v w=AA (.bl b)/\Run S X C B G H Rel (k b) Q:=by
 cases e:yJ o v w with
 |none=>rw[e]at h;exact h.elim
 |some z=>
  let#[b,rfl]:=zdy e;rw[e]at h;exact#[b,rfl,h]
def ziB{m d:Fc}{o p:COp}(L:OpR X (compareOp m) (rT2 S X (yJ o)))(n:OpR X (compareOp d) (rT2 S X (yJ p)))(M:PE X a (tE S X ca))(N:PE X b (tE S X cb))(O:PE X c (tE S X cc))
  (U:lastMarks [m,d] [b,c]=false:=by ac_rfl):PE X (.Compare a [m,d] [b,c] pos) (tE S X (.chain o p ca cb cc)):=
 (ziG L n M N O U).imp λC H Q #[B,G,st,Y,Z,re,h]=>by
  erw[ev]at h;refine tE.bind Z re h λx H1 v st1 G1 s1 r t rv h1=>tE.bind r t h1 λy H2 w u G2 s2 A D rw j=>?_;let#[k,e,j]:=zia j;refine#[B,G2,u,v,w,.bl k,A,rv.step s2,rw,e,λz' H' G' l f J=>?_];erw[ye]at J;refine#[k,J,?_]
  cases k with
  |false=>exact j _ H' G' l f (by erw[ye])
  |true=>
   refine tE.bind f (D.step l) (Run.on l j) λz H3 v3 E G3 s3 g re3 I h3=>?_;let#[q,eq,hq]:=zaa h3 g;exact#[B,G3,E,w,v3,q,g,(rw.step l).step s3,I,eq,hq]
def zi6{u f:Fc}{o p:COp}(ho:OpR X (compareOp u) (rT2 S X (yJ o)))(A:OpR X (compareOp f) (rT2 S X (yJ p)))(ha:PE X a (tE S X ca))(hb:PE X b (tE S X cb))(hc:PE X c (tE S X cc))
  (hm:lastMarks [u,f] [b,c]=false:=by ac_rfl):PT X (.Compare a [u,f] [b,c] pos) (tTs S X (.chain o p ca cb cc)):=
 (ziY ho A ha hb hc hm).imp λC H Q #[B,G,st,Y,rs,re,h]=>by
  erw[ev,ya5,R.bind_assoc]at h;refine tE.bind rs re h λx H1 v st1 G1 s1 D E rv h1=>tE.bind D E h1 λy H2 w g G2 s2 I J rw d=>?_;have L:Run S X C B G2 H2 RB (onO (blO (yJ o v w)) λk=>cond k ((ev S.call Y g cc).bind λz j=>(toR (yJ p w z) j).bind λx st=>onO (yaU st x) λb=>.ok b st) (.ok AB g)) Q:=by
   cases e:yJ o v w with
   |none=>rw[e]at d;exact d
   |some z=>
    let#[b,rfl]:=zdy e;rw[e]at d
    cases b with
    |false=>exact d
    |true=>
     erw[blO,onO,cond_true,R.bind_assoc]at d ⊢;exact d
  let#[k,e,d]:=zia L;refine#[B,G2,g,v,w,.bl k,I,rv.step s2,rw,e,λz' H' G' n l U=>?_];erw[ye]at U;refine#[k,U,?_]
  cases k with
  |false=>exact#[AB,rfl,d _ H' G' n l rfl]
  |true=>
   refine tE.bind l (J.step n) (Run.on n d) λz H3 Z j G3 s3 M re3 N r=>?_
   cases t:yJ p w Z with
   |none=>rw[t]at r;exact r.elim
   |some q=>
    let#[b,rfl]:=zdy t;rw[t]at r;refine#[B,G3,j,w,Z,.bl b,M,(rw.step n).step s3,N,t,λz2 H4 G4 s4 O m=>?_];erw[ye]at m;exact#[b,m,r b H4 G4 s4 O rfl]
theorem yq.at{vs:Hs PV}{xs:Hs V}{i:Hw}{v:PV}(l:yq K cl B G H vs xs)(h:at? vs i=AA v):∃x,atI xs i=AA x/\ye K cl B G H v x:=by
 unfold at? at h;rw[l.length]at h;unfold atI
 cases e:ixI xs.length i with
 |none=>rw[e]at h;cases h
 |some j=>
  rw[e]at h;have a:ixN xs.length i=AA j:=e;rw[a];exact l.get j h
theorem yH.list{n:Ht}{vs:Hs PV}{x:V}(rs:yH K cl B G H st)(r:ye K cl B G H (.loc n) x)(h:st[n]?=AA (.lst vs)):∃a c,x=.ref a/\G[n]?=AA (AA a)/\H a=AA (.lst c)/\yq K cl B G H vs c:=by erw[ye]at r;let#[p,a,rfl,g]:=r;let#[b,d]:=rs.liv n _ h (by intro z;cases z);obtain rfl:=g b d;let#[o,f,j]:=rs.obj n b d;rw[h]at f;cases f;let#[c,m,l]:=j;exact#[b,c,rfl,d,m,l]
def rTS(S:Se)(X:Cx)(f:SO->PV->PV->Option PV):R2:=λx y H Q=>∃B G st v w z,yH X.K S.cl B G H st/\ye X.K S.cl B G H v x/\ye X.K S.cl B G H w y/\f st v w=AA z /\
 ∀c a b,Step G H b a->yH X.K S.cl B b a st->ye X.K S.cl B b a z c->Q c a
def zco{J:Type}{xs:Hs J}{i:PV}{z:J}(h:yaQ xs i=AA z):∃k,i=.int k/\at? xs k=AA z:=by
 cases i with
 |int k=>exact#[k,rfl,h]
 |_=>cases h
def zkY:IxR X (rTS S X idxV):=by
 rintro b d D s C H x y v u Q I r A ⟨B,G,st,a,i,z,m,j,g,e,q⟩ E
 cases a with
 |tp k L=>
  let#[k,rfl,e]:=zco e;erw[ye]at j g;subst g;let#[p,o,rfl,J,l]:=j;let#[w,f,rw]:=l.at e;exact ze4 b d D s C H _ _ v u Q I r A (.inr (.inl #[p,o,k,w,rfl,rfl,J.sq,f,q w H G .rfl m rw])) E
 |lst L=>
  let#[k,rfl,e]:=zco e;erw[ye]at j g;subst g;let#[p,o,rfl,J,l]:=j;let#[w,f,rw]:=l.at e;exact ze4 b d D s C H _ _ v u Q I r A (.inl #[p,o,k,w,rfl,rfl,J.sq,f,q w H G .rfl m rw]) E
 |loc n=>
  erw[idxV]at e;split at e
  .rename_i L M;let#[k,rfl,e]:=zco e;erw[ye]at g;subst g;let#[p,o,rfl,_,N,l]:=m.list j M;let#[w,f,rw]:=l.at e;exact ze4 b d D s C H _ _ v u Q I r A (.inl #[p,o,k,w,rfl,rfl,.of N,f,q w H G .rfl m rw]) E
  .cases e
 |str t=>
  erw[idxV]at e;split at e
  .rename_i O
   cases f:yaQ t.cps.toList i with
   |none=>rw[f]at e;cases e
   |some c=>
    rw[f]at e
    cases e
    let#[k,rfl,f]:=zco f;erw[ye]at j g;subst j g;exact ze4 b d D s C H _ _ v u Q I r A (.inr (.inr #[t,k,c,rfl,rfl,by rw[<-zJ];exact O,f,q _ H G .rfl m (by erw[ye])])) E
  .cases e
 |_=>cases e
def zmz(j:PE X a (tE S X ca))(l:PE X b (tE S X cb))(m:ybv b:=by exact λ_ _=>rfl):PE X (.Subscript a b pos) (tE S X (.idx ca cb)):=
 (znZ zkY j l m).imp λC H Q #[B,G,st,Y,n,o,h]=>by erw[ev]at h;refine tE.bind n o h λx H1 v p G1 E d f r t=>tE.bind d f t λy I w g G2 u c A rw D=>?_;let#[z,e,q]:=zaa D c;exact#[B,G2,g,v,w,z,c,r.step u,rw,e,q]
theorem yq.cut{vs:Hs PV}{xs:Hs V}(lo a:Option Hw)(l:yq K cl B G H vs xs):yq K cl B G H (IC.cut vs lo a) (ycE xs lo a):=by
 have b:∀n o,ycP n o=HT.sIx n 0 o:=λn o=>by cases o<;>rfl
 have c:∀n o,yct n o=HT.sIx n n o:=λn o=>by cases o<;>rfl
 unfold IC.cut ycE;rw[l.length,b,c];exact(l.drop _).take _
def tO(S:Se)(X:Cx)(c:Ce):TO:=λC H Q=>tE S X c C H λx H1=>(x=.non/\Q AD H1) \/ ∃i,x=.int i/\Q (AA i) H1
def zkZ:PO X AD (tO S X (.cst .non)):=λD s C H Q I h=>by
 refine zkw D s C H Q I ?_;let#[B,G,st,Y,a,b,h]:=h;erw[ev]at h;rcases h.ok a (x:=V.non) (by erw[ye])with q|⟨i,z,_⟩
 .exact q.2
 .cases z
def zj5(d:PE X a (tE S X ca)):PO X (AA a) (tO S X ca):=by
 intro D s C H Q I f;rw[evalPart_some];refine thn (d D s C H _ I f) λu l g=>?_;let#[x,H1,b,c,j]:=g;rcases j with⟨rfl,q⟩|⟨i,rfl,q⟩
 .cases c
  exact#[AD,H1,b,.none,q]
 .let#[t,rfl]:=c;exact#[AA i,H1,b,.int i t,q]
def rSl(S:Se)(X:Cx):V->Option Hw->Option Hw->Hp->VK->Prop:=λx lo d H Q=>∃B G st v z,yH X.K S.cl B G H st/\ye X.K S.cl B G H v x/\ybh v lo d=AA z /\
 ∀c a b,Step G H b a->yH X.K S.cl B b a st->ye X.K S.cl B b a z c->Q c a
def zbw{prog:Ae}{w:Aq}{A:Ar}{E:AG->AK->Prop}{s:AK}{t sl:AJ}{items:IH AG}{j l:AG}{lo c:Option Hw}{Q:AG->AK->Prop}(a:Gp s.heap t items)(m:s.heap.IsSliceOf sl j l .none)(pl:Et j lo)(o:Et l c)
  (n:HT.sIx items.size 0 lo=0/\HT.sIx items.size items.size c=items.size)
  (h:Q (.ref t) s):Aa (model prog w) A (getItem (.ref t) (.ref sl)) Q E s:=by
 let#[os,d,f,p]:=id m;have g:s.TypeIs (.ref sl) "slice":=#[os,d,f];unfold getItem
 try with_reducible refine D2 ?_
 first|refine AI (AZ ?_)|skip
 refine AI (GI a.typeIs ⋯ ?_);refine AI (B7 (name:=AE "__getitem__") a.typeIs BF
  (C2 BF a.typeIs F8 ?_ (Fp _ _)))
 show Aa _ _ (EA (.ref t) >>= _) _ _ s;refine AI (C5 a ?_);refine AI (GJ g ?_);rw[Hz ⋯];refine AI (HT.sliceApplied_gen m pl o ?_);have b:(((HT.sIx items.size 0 lo:Ht):Hw)==0&&(1:Hw)==1&&(HT.sIx items.size items.size c-HT.sIx items.size 0 lo)==items.size)=true:=by rw[n.1,n.2];simp
 show Aa _ _ (if (((HT.sIx items.size 0 lo:Ht):Hw)==0&&(1:Hw)==1&&(HT.sIx items.size items.size c-HT.sIx items.size 0 lo)==items.size)=AC then _ else _) _ _ s;rw[Hz b];refine AI (AI (GJ a.typeIs (AZ ?_)));rw[Hz ⋯]
 first
  |exact AI (AZ (AZ #[_,rfl,AZ h]))
  |exact AI (Eo (AZ #[_,rfl,AZ h]))
  |(wp_step;wp_step;exact#[_,rfl,AZ h])
def yhw(K:AF):V->Option Hw->Option Hw->Hp->VK->Prop:=λx lo c H Q=>∃a b,x=.ref a/\SqT K H a b /\
 (HT.sIx b.length 0 lo=0/\HT.sIx b.length b.length c=b.length)/\Q (.ref a) H
def ziU:SlR X (yhw X.K):=by
 intro D s C H x v p t lo u w Q I f g j l h;let#[a,m,rfl,n,o,q]:=h
 cases f
 let#[c,r,d,y]:=I.tuple n;have b:c.toArray.size=m.length:=by rw[AU];exact r.length.symm
 refine#["tuple",_,BF.lookup,d.typeIs,?_];exact zbw d g j l (by rw[b];exact o) #[.ref a,H,I,rfl,q]
def yhx:V->Option Hw->Option Hw->Hp->VK->Prop:=λx lo a H Q=>∃y:AQ,x=.str y/\y.length<=sizeLine/\Q (.str #[((y.cps.toList.drop (HT.sIx y.cps.toList.length 0 lo)).take (HT.sIx y.cps.toList.length y.cps.toList.length a-HT.sIx y.cps.toList.length 0 lo)).toArray]) H
def zpm(lo a:Option Hw)(n:Ht):Dn lo a 1 n=sliceRange ((HT.sIx n 0 lo:Ht):Hw) ((HT.sIx n n a:Ht):Hw) 1:=by
 unfold Dn;erw[show (1:Hw) > 0 by decide,ID]
 congr 1
 .cases lo with
  |none=>simp[HT.sIx]
  |some i=>
   erw[HT.sIx]
   by_cases h:i<0
   .simp only[h,ID]<;>lia
   .simp only[h,IG]<;>lia
 .cases a with
  |none=>simp[HT.sIx]
  |some i=>
   erw[HT.sIx]
   by_cases h:i<0
   .simp only[h,ID]<;>lia
   .simp only[h,IG]<;>lia
def zgt(y:AQ)(lo d:Option Hw):Txt.slice y lo d=#[((y.cps.toList.drop (HT.sIx y.cps.toList.length 0 lo)).take (HT.sIx y.cps.toList.length y.cps.toList.length d-HT.sIx y.cps.toList.length 0 lo)).toArray]:=by
 have f:y.length=y.cps.toList.length:=by simp[Gw]
 unfold Txt.slice;rw[zpm,f,sliceRange_one];have g:=HT.sIx_le y.cps.toList.length 0 (Ab _) lo;have j:=HT.sIx_le y.cps.toList.length y.cps.toList.length (AS _) d;generalize HT.sIx y.cps.toList.length 0 lo=a,HT.sIx y.cps.toList.length y.cps.toList.length d=b at *;split
 .rename_i c;erw[Ai,Hs.length_range,AH,IL]at c;obtain⟨rfl,rfl⟩:a=0/\b=y.cps.toList.length:=by lia
  rw[HB,Ht.sub_zero,G6]
 .rw[pick_run]
def zli:SlR X yhx:=by
 intro D s C H x v c d lo f g Q I m n o a h;let#[y,rfl,p,q]:=h;let#[t,rfl]:=m;rw[<-zgt]at q;refine#["str",_,PySem.F.slot_str_getitem.lookup,Gx _ _ _,?_];have go:∀l u:Option (Hw×HJ),c=partValue l->d=partValue u->lo=l.map (·.1)->f=u.map (·.1)->Aa (model X.prog X.w) X.A (getItem (.str y t) (.ref g)) (EP X D C Q) X.xe s:=by
  rintro l u rfl rfl rfl rfl
  refine wpAny_getItem_str_slice (l:=l) (u:=u) (st:=AD) n rfl ?_;exact post_val_or_str #[BK (Txt.slice_le y _ _) p,λr k=>#[.str _,H,I.tok k,#[_,rfl],q]]
 cases o with
 |none=>
  cases a with
  |none=>exact go AD AD rfl rfl rfl rfl
  |int j u=>exact go AD (AA (j,u)) rfl rfl rfl rfl
 |int i b=>
  cases a with
  |none=>exact go (AA (i,b)) AD rfl rfl rfl rfl
  |int j u=>exact go (AA (i,b)) (AA (j,u)) rfl rfl rfl rfl
def zkD:SlR X (rSl S X):=by
 rintro D s C H x v g j lo b m Q I r u A E ⟨B,G,st,w,z,d,rw,e,q⟩
 have J:∀n o,ycP n o=HT.sIx n 0 o:=λn o=>by cases o<;>rfl
 have L:∀n o,yct n o=HT.sIx n n o:=λn o=>by cases o<;>rfl
 cases w with
 |tp k N=>
  erw[ybh]at e;split at e
  .rename_i c
   cases e
   have M:=rw;erw[ye]at rw;let#[p,f,rfl,rt,l]:=rw;refine ziU D s C H _ v g j lo b m Q I r u A E #[p,f,rfl,rt.sq,?_,q _ H G .rfl d M];rw[l.length,J,L]at c;exact c
  .rename_i c
   cases e
   erw[ye]at rw;let#[p,f,rfl,rt,l]:=rw;refine zlW D s C H _ v g j lo b m Q I r u A E #[p,f,rfl,rt.sq,?_,λt a=>q _ _ G (.upd a) (d.upd a) (.tup_new a d (l.cut lo b))];rw[l.length,J,L]at c;exact c
 |str y=>
  erw[ybh]at e;split at e
  .rename_i c
   cases e
   erw[ye]at rw;subst rw;refine zli D s C H _ v g j lo b m Q I r u A E #[y,rfl,by rw[<-zJ];exact c,?_];have:=q (.str #[(cut y.cps.toList lo b).toArray]) H G .rfl d (by erw[ye]);rw[cut,J,L]at this;exact this
  .cases e
 |lst N=>
  erw[ybh]at e
  cases e
  erw[ye]at rw;let#[p,f,rfl,rt,l]:=rw;exact zgL D s C H _ v g j lo b m Q I r u A E #[p,f,rfl,rt.sq,λt a=>q _ _ G (.upd a) (d.upd a) (.lst_new a d (l.cut lo b))]
 |scr N=>
  erw[ybh]at e
  cases e
  erw[ye]at rw;let#[p,f,rfl,rt,l]:=rw;exact zgL D s C H _ v g j lo b m Q I r u A E #[p,f,rfl,(by rcases rt with rt|rt;exact .inl rt.1;exact .inr rt),λt a=>q _ _ G (.upd a) (d.upd a) (.lst_new a d (l.cut lo b))]
 |_=>cases e
def zml{lo E:Option AX}(L:PE X a (tE S X ca))(M:PO X lo (tO S X cb))(N:PO X E (tO S X cc)):PE X (.Subscript a (.Slice lo E AD p2) pos) (tE S X (.slc ca cb cc)):=
 (zi5 zkD L M N).imp λC H Q #[B,G,st,Y,O,U,h]=>by
  erw[ev]at h;have I:∀{v:PV} {x:V} {o:Option Hw} {B G H},ye X.K S.cl B G H v x->yb9 v=AA o->(x=.non/\o=AD) \/ ∃i,x=.int i/\o=AA i:=λ{v x o B G H} r e=>by
   cases v with
   |non=>erw[ye]at r;cases e;exact .inl #[r,rfl]
   |int i=>erw[ye]at r;cases e;exact .inr #[i,r,rfl]
   |_=>cases e
  refine tE.bind O U h λx H1 v Z G1 s1 j l rv h1=>tE.bind j l h1 λy H2 w st2 G2 s2 m n rw g=>?_
  cases p:yb9 w with
  |none=>rw[p]at g;exact g.elim
  |some J=>
   rw[p]at g;have c:tO S X cc C H2 λu t=>rSl S X x J u t Q:=by
    refine tE.bind m n g λy' t w' A G3 s3 d re3 D h3=>?_;let#[z,e,q]:=zaa h3 d;unfold ycl at e
    cases b:yb9 w' with
    |none=>rw[b]at e;cases e
    |some o2=>
     rw[b]at e;have f:rSl S X x J o2 t Q:=#[B,G3,A,v,z,d,(rv.step s2).step s3,e,q];rcases I D b with⟨rfl,rfl⟩|⟨i,rfl,rfl⟩
     .exact .inl #[rfl,f]
     .exact .inr #[i,rfl,f]
   rcases I rw p with⟨rfl,rfl⟩|⟨i,rfl,rfl⟩
   .exact .inl #[rfl,c]
   .exact .inr #[i,rfl,c]
end
section
variable {S:Se}{X:Cx}{C:St}{B:AJ->Prop}{A A1:Ph}{H H1:Hp}{st:SO}{Y:IC.Env}{p pos p2:Bq}{a b c d:AX}{ca cb cc:Ce}{es:Hs AX}{ces:Ces}{K:AF}{cl:Ht->AJ}
def rB(S:Se)(X:Cx)(k:Blt):Hs V->Hp->VK->Prop:=λf H Q=>∃B A st c z,yH X.K S.cl B A H st/\yq X.K S.cl B A H c f/\yX k st c=AA z /\
 ∀d a b,Step A H b a->yH X.K S.cl B b a st->ye X.K S.cl B b a z d->Q d a
theorem yq.one{v:PV}{xs:Hs V}(l:yq K cl B A H [v] xs):∃x,xs=[x]/\ye K cl B A H v x:=by erw[yq]at l;let#[y,a,rfl,r,rfl]:=l;exact#[y,rfl,r]
theorem yq.two{v w:PV}{xs:Hs V}(l:yq K cl B A H [v,w] xs):∃x y,xs=[x,y]/\ye K cl B A H v x/\ye K cl B A H w y:=by erw[yq]at l;let#[y,b,rfl,r,z,c,rfl,a,rfl]:=l;exact#[y,z,rfl,r,a]
def za9{k:Blt}{st:SO}{vs:Hs PV}{z:PV}(h:yX k st vs=AA z)(a:∀x y,yX k st [x,y]=AD):∃x,vs=[x]:=by
 match vs,h with
 |[x],_=>exact#[x,rfl]
 |[x,y],h=>rw[a]at h;cases h
def zbv{v:PV}{x:V}{vs:Hs PV}(rs:yH K cl B A H st)(r:ye K cl B A H v x)(h:yQ st v=AA vs):∃a b,x=.ref a/\SqL K H a b/\yq K cl B A H vs b:=by
 cases v with
 |lst c=>
  cases h
  erw[ye]at r;let#[a,b,rfl,d,l]:=r;exact#[a,b,rfl,d.sq,l]
 |loc n=>
  erw[yQ]at h;split at h
  .rename_i c f
   cases h
   let#[a,b,rfl,_,g,l]:=rs.list r f;exact#[a,b,rfl,.of g,l]
  .cases h
 |_=>cases h
def zeW{v:PV}{x:V}{vs:Hs PV}(rs:yH K cl B A H st)(r:ye K cl B A H v x)(h:yaM st v=AA vs):∃a b,x=.ref a/\(SqL K H a b \/ SqT K H a b)/\yq K cl B A H vs b:=by
 cases v with
 |tp k c=>
  cases h
  erw[ye]at r;let#[a,b,rfl,d,l]:=r;exact#[a,b,rfl,.inr d.sq,l]
 |lst c=>
  let#[a,b,e,q,l]:=zbv rs r (vs:=vs) h;exact#[a,b,e,.inl q,l]
 |loc n=>
  let#[a,b,e,q,l]:=zbv rs r (vs:=vs) h;exact#[a,b,e,.inl q,l]
 |_=>cases h
def zl0:yaf X (.builtin "len") (rB S X .len):=by
 rintro D s C H m g Q I r ⟨B,A,st,n,z,b,l,e,q⟩
 let#[v,rfl]:=za9 e λ_ _=>rfl;let#[x,rfl,d]:=l.one;erw[yX,lenV]at e;split at e
 .rename_i t;split at e
  .rename_i c
   cases e
   erw[ye]at d;subst d;exact zel D s C H _ g Q I r #[t,rfl,by rw[<-zJ];exact c,q _ H A .rfl b (by erw[ye])]
  .cases e
 .cases f:yaM st v with
  |none=>rw[f]at e;cases e
  |some o=>
   rw[f]at e
   cases e
   let#[a,j,rfl,h,l]:=zeW b d f;refine zek D s C H _ g Q I r #[a,j,rfl,?_,q _ H A .rfl b (by erw[ye];rw[l.length])];exact h
def zlN:yaf X (.type "int") (rB S X .int):=by
 rintro D s C H d b Q I r ⟨B,A,st,f,z,c,l,e,q⟩
 let#[v,rfl]:=za9 e λ_ _=>rfl;let#[x,rfl,a]:=l.one;erw[yX]at e
 cases v with
 |int i=>
  cases e
  erw[ye]at a;subst a;exact zdS D s C H _ b Q I r (.inl #[i,rfl,q _ H A .rfl c (by erw[ye])])
 |bl k=>
  cases e
  erw[ye]at a;subst a;exact zdS D s C H _ b Q I r (.inr #[k,rfl,q _ H A .rfl c (by erw[ye,bi])])
 |_=>cases e
def zl6:yaf X (.builtin "abs") (rB S X .abs):=by
 rintro D s C H d b Q I r ⟨B,A,st,f,z,c,l,e,q⟩
 let#[v,rfl]:=za9 e λ_ _=>rfl;let#[x,rfl,a]:=l.one;erw[yX]at e
 cases v with
 |int i=>
  cases e
  erw[ye]at a;subst a;exact ziD D s C H _ b Q I r #[i,rfl,q _ H A .rfl c (by erw[ye])]
 |_=>cases e
def zj1{k:Blt}{st:SO}{vs:Hs PV}{z:PV}(h:yX k st vs=AA z)(a:∀x,yX k st [x]=AD):∃x y,vs=[x,y]:=by
 match vs,h with
 |[x,y],_=>exact#[x,y,rfl]
 |[x],h=>rw[a]at h;cases h
def znc(b:X.calm=AC):yaf X (.builtin "min") (rB S X .min):=by
 rintro D s C H f c Q I r ⟨B,A,st,g,z,d,l,e,q⟩
 let#[v,w,rfl]:=zj1 e λ_=>rfl;let#[x,y,rfl,a,rw]:=l.two;erw[yX,yfM]at e;split at e
 .cases e
  erw[ye]at a rw;subst a rw;exact zhE b D s C H _ c Q I r #[_,_,rfl,q _ H A .rfl d (by erw[ye])]
 .cases e
def zjK:∀{vs:Hs PV} {m:Hw},ydu vs=AA m->∃b:Hs Hw,vs=b.map .int/\m∈b/\∀a∈b,a<=m
 |[],m,h=>by cases h
 |[.int i],m,h=>by cases h;exact#[[i],rfl,by simp,by simp]
 |.int i::w::r,m,h=>by
  erw[ydu]at h;split at h
  .rename_i c e
   cases h
   let#[b,f,g,j]:=zjK e;refine#[i::b,by rw[f];rfl,?_,λa d=>?_]
   .split
    .exact AT _ g
    .exact A6
   .rcases AM.mp d with rfl|d
    .split<;>lia
    .have:=j a d;split<;>lia
  .cases h
 |.non::r,m,h=>by cases r<;>cases h
 |.bl _::r,m,h=>by cases r<;>cases h
 |.str _::r,m,h=>by cases r<;>cases h
 |.tp _ _::r,m,h=>by cases r<;>cases h
 |.lst _::r,m,h=>by cases r<;>cases h
 |.loc _::r,m,h=>by cases r<;>cases h
 |.fnc _::r,m,h=>by cases r<;>cases h
 |.exn _::r,m,h=>by cases r<;>cases h
 |.scr _::r,m,h=>by cases r<;>cases h
theorem yq.ints:∀{ns:Hs Hw} {xs:Hs V},yq K cl B A H (ns.map .int) xs->xs=ns.map V.int
 |[],xs,h=>by simpa only[BH,yq] using h
 |n::ns,xs,h=>by erw[AW,yq]at h;let#[y,a,rfl,r,l]:=h;erw[ye]at r;rw[r,yq.ints l];rfl
theorem yq.bls:∀{ns:Hs Hy} {xs:Hs V},yq K cl B A H (ns.map .bl) xs->xs=ns.map V.bl
 |[],xs,h=>by simpa only[BH,yq] using h
 |n::ns,xs,h=>by erw[AW,yq]at h;let#[y,a,rfl,r,l]:=h;erw[ye]at r;rw[r,yq.bls l];rfl
def zlB{v w z:PV}(e:maxV v w=AA z):∃i j,v=.int i/\w=.int j/\z=.int (if i<j then j else i):=by
 unfold maxV at e;split at e
 .exact#[_,_,rfl,rfl,(Ac e).symm]
 .cases e
def zmX(g:X.calm=AC):yaf X (.builtin "max") (rB S X .max):=by
 rintro D s C H N n Q I r ⟨B,A,st,p,z,c,l,e,q⟩
 rcases p with _|⟨v,_|⟨w,_|⟨O,t⟩⟩⟩
 .simp[yX]at e
 .let#[x,rfl,b]:=l.one;erw[yX]at e
  cases d:yQ st v with
  |none=>rw[d]at e;cases e
  |some u=>
   rw[d]at e;erw[Az]at e
   cases f:ydu u with
   |none=>rw[f]at e;cases e
   |some m=>
    rw[f]at e;obtain rfl:=Ac e;let#[E,rfl,o,G]:=zjK f;let#[a,U,rfl,h,l]:=zbv c b d;rw[l.ints]at h;refine zgm g D s C H _ n Q I r #[a,E,rfl,h,Hs.length_pos_of_mem o,λM J L=>?_];have:M=m:=by have:=G M J;have:=L m o;lia
    subst this;exact q _ H A .rfl c (by erw[ye])
 .let#[x,y,rfl,b,rw]:=l.two;have e:maxV v w=AA z:=e;let#[i,j,rfl,rfl,rfl]:=zlB e;erw[ye]at b rw;subst b rw;exact zhs g D s C H _ n Q I r #[i,j,rfl,q (.int (if i<j then j else i)) H A .rfl c (by erw[ye])]
 .simp[yX]at e
def zil:yaf X (.type "tuple") (rB S X .tuple):=by
 rintro D s C H n j Q I r ⟨B,A,st,o,z,b,l,e,q⟩
 let#[v,rfl]:=za9 e λ_ _=>rfl;let#[x,rfl,d]:=l.one;erw[yX,ycs]at e;split at e
 .cases e
  erw[ye]at d;let#[a,c,rfl,m,l]:=d;exact zbO D s C H _ j Q I r #[a,c,rfl,.inr #[m.sq,q _ H A .rfl b (by erw[ye];exact#[a,c,rfl,m,l])]]
 .cases f:yQ st v with
  |none=>rw[f]at e;cases e
  |some p=>
   rw[f]at e
   cases e
   let#[a,c,rfl,h,l]:=zbv b d f;exact zbO D s C H _ j Q I r #[a,c,rfl,.inl #[h,λt g=>q _ _ A (.upd g) (b.upd g) (.tup_new g b l)]]
def zkr:yaf X (.type "list") (rB S X .list):=by
 rintro D s C H m f Q I r ⟨B,A,st,n,z,b,l,e,q⟩
 let#[v,rfl]:=za9 e λ_ _=>rfl;let#[x,rfl,g]:=l.one;erw[yX]at e
 cases c:yaM st v with
 |none=>rw[c]at e;cases e
 |some o=>
  rw[c]at e
  cases e
  let#[a,j,rfl,h,l]:=zeW b g c;refine zcc D s C H _ f Q I r #[a,j,rfl,?_,λt d=>q _ _ A (.upd d) (b.upd d) (.lst_new d b l)];exact h
def zjI:∀{vs:Hs PV} {m:Hy},IC.allB vs=AA m->∃a:Hs Hy,vs=a.map .bl/\m=a.all id
 |[],m,h=>by cases h;exact#[[],rfl,rfl]
 |.bl i::r,m,h=>by
  erw[IC.allB]at h;split at h
  .rename_i c e
   cases h
   let#[a,b,d]:=zjI e;exact#[i::a,by rw[b];rfl,by rw[d];rfl]
  .cases h
 |.non::r,m,h=>by cases h
 |.int _::r,m,h=>by cases h
 |.str _::r,m,h=>by cases h
 |.tp _ _::r,m,h=>by cases h
 |.lst _::r,m,h=>by cases h
 |.loc _::r,m,h=>by cases h
 |.fnc _::r,m,h=>by cases h
 |.exn _::r,m,h=>by cases h
 |.scr _::r,m,h=>by cases h
def zjA:∀{vs:Hs PV} {m:Hw},ycQ vs=AA m->∃a:Hs Hw,vs=a.map .int/\m=a.sum
 |[],m,h=>by cases h;exact#[[],rfl,rfl]
 |.int i::r,m,h=>by
  erw[ycQ]at h;split at h
  .rename_i c e
   cases h
   let#[a,b,d]:=zjA e;exact#[i::a,by rw[b];rfl,by rw[d,BO]]
  .cases h
 |.non::r,m,h=>by cases h
 |.bl _::r,m,h=>by cases h
 |.str _::r,m,h=>by cases h
 |.tp _ _::r,m,h=>by cases h
 |.lst _::r,m,h=>by cases h
 |.loc _::r,m,h=>by cases h
 |.fnc _::r,m,h=>by cases h
 |.exn _::r,m,h=>by cases h
 |.scr _::r,m,h=>by cases h
def znf(f:X.calm=AC):yaf X (.builtin "all") (rB S X .all):=by
 rintro D s C H p g Q I r ⟨B,A,st,t,z,d,l,e,q⟩
 let#[v,rfl]:=za9 e λ_ _=>rfl;let#[x,rfl,j]:=l.one;erw[yX]at e
 cases b:yQ st v with
 |none=>rw[b]at e;cases e
 |some n=>
  rw[b]at e;erw[Az]at e
  cases c:IC.allB n with
  |none=>rw[c]at e;cases e
  |some m=>
   rw[c]at e
   cases e
   let#[o,rfl,rfl]:=zjI c;let#[a,u,rfl,h,l]:=zbv d j b;rw[l.bls]at h;exact zik f D s C H _ g Q I r #[a,o,rfl,h,q _ H A .rfl d (by erw[ye])]
def znk(f:X.calm=AC):yaf X (.builtin "sum") (rB S X .sum):=by
 rintro D s C H p g Q I r ⟨B,A,st,t,z,d,l,e,q⟩
 let#[v,rfl]:=za9 e λ_ _=>rfl;let#[x,rfl,j]:=l.one;erw[yX]at e
 cases b:yQ st v with
 |none=>rw[b]at e;cases e
 |some n=>
  rw[b]at e;erw[Az]at e
  cases c:ycQ n with
  |none=>rw[c]at e;cases e
  |some m=>
   rw[c]at e
   cases e
   let#[o,rfl,rfl]:=zjA c;let#[a,u,rfl,h,l]:=zbv d j b;rw[l.ints]at h;exact ziO f D s C H _ g Q I r #[a,o,rfl,h,q _ H A .rfl d (by erw[ye])]
variable {x:AQ}{id T:IM}{k:Blt}
def zny(g:yaf X (.builtin id) (rB S X k))(j:Gl X x)(l:X.mg x=AD)(m:bootBuiltins x=AA (.builtin id))(n:PA X (a::es) (tAs S X ces))(o:x ≠ "__name__":=by decide)(c:(x==("__debug__":AQ))=false:=by decide)
  (r:starEach (a::es) X.env=(AB,eval a X.env)::starEach es X.env:=by rfl) (d:(backTo pos (starEach es X.env)).any (·.1)=false:=by rfl):PE X (.Call (.Name x p) (a::es) [] pos) (tE S X (.blt k ces)):=
 (zcj g j l m n o c r d).imp λC H Q #[B,A,st,Y,t,u,h]=>by erw[ev]at h;refine tAs.bind t u h λG H1 w f A1 I b y D E=>?_;let#[z,e,q]:=zaa E b;exact#[B,A1,f,w,z,b,D,e,q]
def zlv(g:yaf X (.type T) (rB S X k))(j:Gl X x)(l:X.mg x=AD)(m:bootBuiltins x=AA (.type T))(n:PA X (a::es) (tAs S X ces))(o:x ≠ "__name__":=by decide)(c:(x==("__debug__":AQ))=false:=by decide)
  (r:starEach (a::es) X.env=(AB,eval a X.env)::starEach es X.env:=by rfl) (d:(backTo pos (starEach es X.env)).any (·.1)=false:=by rfl):PE X (.Call (.Name x p) (a::es) [] pos) (tE S X (.blt k ces)):=
 (zd8 g j l m n o c r d).imp λC H Q #[B,A,st,Y,t,u,h]=>by erw[ev]at h;refine tAs.bind t u h λG H1 w f A1 I b y D E=>?_;let#[z,e,q]:=zaa E b;exact#[B,A1,f,w,z,b,D,e,q]
end
section
variable {S:Se}{X:Cx}{A:St}{B:AJ->Prop}{C C1:Ph}{H H1:Hp}{st:SO}{Y:IC.Env}{p pos p2 apos:Bq}{a b c d:AX}{ca cb cc:Ce}{es:Hs AX}{ces:Ces}{K:AF}{cl:Ht->AJ}
theorem Step.put{l:AJ}{u:HO}(a:AA l∈C):Step C H C (L2.upd H l u):=
 #[λb o n e=>by rw[zl (show b≠l from λz=>n (by rw[z];exact a))];exact e,AS _,λ_ _ _ e=>e,λ_ h=>.inl h]
theorem yH.put{n:Ht}{l:AJ}{u:HO}{o:Ob}(rs:yH K cl B C H st)(c:C[n]?=AA (AA l))(j:ycp K cl B C (L2.upd H l u) o l):yH K cl B C (L2.upd H l u) (st.set n o):=by
 have p:AA l∈C:=A1 c;have s:Step C H C (L2.upd H l u):=.put p;have d:n<st.length:=by rw[<-rs.len];exact(A3.mp c).1
 refine#[by rw[Ay];exact rs.len,rs.inj,λm a e=>?_,λm f e g=>?_,rs.nb,λa h=>?_]
 .by_cases b:m=n
  .subst b;rw[c]at e;cases e;exact#[o,by rw[As d],j]
  .let#[f,q,r]:=rs.obj m a e;refine#[f,by rw[A7 (BW b)];exact q,r.step s ?_];rw[zl]
   rintro rfl
   exact b (rs.inj m n a e c)
 .by_cases b:m=n
  .subst b;exact#[l,c]
  .rw[A7 (BW b)]at e;exact rs.liv m f e g
 .let#[w,e]:=rs.dom a h
  by_cases z:a=l
  .subst z;exact#[u,zq]
  .exact#[w,by rw[zl z];exact e]
def zoH:1000000<=sizeLine:=by rw[Be];decide
def zds{m:Mth}{v:PV}{st:SO}{D E:Type}{Rel:Ph->Hp->D->E->Prop}{k:Hy->R D}{Q:E->Hp->Prop}(h:Run S X A B C H Rel (onO (yas m st v) k) Q):∃b,yas m st v=AA b/\Run S X A B C H Rel (k b) Q:=by
 cases e:yas m st v with
 |none=>rw[e]at h;exact h.elim
 |some z=>rw[e]at h;exact#[z,rfl,h]
def zgW(U:PE X a (tE S X ca))(Z:PE X b (tE S X cb))(M:starEach [b] X.env=[(AB,eval b X.env)]:=by rfl)(f:attributeBase a "append" X.env (eval a X.env)=eval a X.env:=by rfl)(g:(apos.endLine==pos.line)=true:=by rfl)
  (j:((backTo pos (starEach [b] X.env)).all (λx=>!x.1)&&(backToKw pos (keywordEach [] X.env)).all (λx=>x.1.isSome)&&decide (([b]:Hs AX).length+([]:Hs Br).length+(if ([]:Hs Br).isEmpty then 0 else 1)<30))=true:=by rfl):
  PE X (.Call (.Attribute a "append" apos) [b] [] pos) (tE S X (.mth .append ca (.cons cb .nil))):=
 (zka DH FP PySem.F.type_list_append zdK U (zaO (S:=S) Z zcC M) f j g M rfl).imp λA H Q #[B,C,st,Y,rs,re,h]=>by
  erw[ev]at h;refine tE.bind rs re h λx H1 v m C1 s1 o u N z=>?_;let#[_,D,z]:=zds z;have E:∃r,yQ m v=AA r:=by
   erw[yas]at D
   cases q:yQ m v with
   |none=>rw[q]at D;cases D
   |some r=>exact#[r,rfl]
  let#[r,E]:=E;let#[l,xs,rfl,hl,_]:=zbv o N E;refine#[.inl #[rfl,xs,hl],tAs.bind o u z λys H2 vs st2 C2 s2 p re2 G d=>?_];have I:=N.step s2;rcases vs with _|⟨w,_|⟨w',t⟩⟩
  .exact d.elim
  .let#[y,rfl,rw]:=G.one;unfold ybs at d;erw[yed]at d;split at d
   .rename_i n;split at d
    .rename_i zs hz;split at d
     .rename_i c;let#[l',J,e,L,hx,O]:=p.list I hz
      cases e
      refine#[l,J,y,rfl,rfl,hx,by have:=zoH;have:=O.length;lia,?_];exact d _ _ C2 (.put (A1 L)) (p.put L #[_,zq,(O.append (by erw[yq];exact#[y,[],rfl,rw,rfl])).step (.put (A1 L))]) (by erw[ye])
     .exact d.elim
    .exact d.elim
   .exact d.elim
  .exact d.elim
def zhO(ha:PE X a (tE S X ca))(hb:PE X b (tE S X cb))(O:starEach [b] X.env=[(AB,eval b X.env)]:=by rfl)(f:attributeBase a "extend" X.env (eval a X.env)=eval a X.env:=by rfl)(g:(apos.endLine==pos.line)=true:=by rfl)
  (j:((backTo pos (starEach [b] X.env)).all (λx=>!x.1)&&(backToKw pos (keywordEach [] X.env)).all (λx=>x.1.isSome)&&decide (([b]:Hs AX).length+([]:Hs Br).length+(if ([]:Hs Br).isEmpty then 0 else 1)<30))=true:=by rfl):
  PE X (.Call (.Attribute a "extend" apos) [b] [] pos) (tE S X (.mth .extend ca (.cons cb .nil))):=
 (zka DH FQ PySem.F.type_list_extend zhW ha (zaO (S:=S) hb zcC O) f j g O rfl).imp λA H Q #[B,C,st,Y,rs,re,h]=>by
  erw[ev]at h;refine tE.bind rs re h λx H1 v m C1 s1 o z U D=>?_;let#[_,E,D]:=zds D;have G:∃u,yQ m v=AA u:=by
   erw[yas]at E
   cases q:yQ m v with
   |none=>rw[q]at E;cases E
   |some u=>exact#[u,rfl]
  let#[u,G]:=G;let#[l,xs,rfl,hl,_]:=zbv o U G;refine#[.inl #[rfl,xs,hl],tAs.bind o z D λys H2 vs st2 C2 s2 p re2 I d=>?_];have J:=U.step s2;rcases vs with _|⟨w,_|⟨w',t⟩⟩
  .exact d.elim
  .let#[y,rfl,rw]:=I.one;unfold ybs at d;erw[yfb]at d;split at d
   .rename_i n;split at d
    .rename_i zs hz;split at d
     .rename_i ks;split at d
      .rename_i c;let#[l',L,e,M,hx,Z]:=p.list J hz
       cases e
       erw[ye]at rw;let#[b',N,rfl,rl,r]:=rw;refine#[l,b',L,N,rfl,rfl,hx,rl.1,by have:=zoH;have:=Z.length;have:=r.length;lia,?_];exact d _ _ C2 (.put (A1 M)) (p.put M #[_,zq,(Z.append r).step (.put (A1 M))]) (by erw[ye])
      .exact d.elim
     .exact d.elim
    .exact d.elim
   .exact d.elim
  .exact d.elim
def zma(G:PE X a (tE S X ca)):PE X a (tE S X (.frz ca)):=
 G.imp λA H Q #[B,C,st,Y,I,J,h]=>by
  erw[ev]at h;refine tE.bind I J h λx H1 v L C1 s1 d M y g=>?_;unfold yb4 at g;split at g
  .rename_i n;split at g
   .rename_i vs N;let#[l,O,rfl,w,U,Z]:=d.list y N;have hm:AA l∈C1:=A1 w;have f:n<C1.length:=(A3.mp w).1;have nl:AA l∉C1.set n none:=λz=>by
     let#[m,e]:=DX.mp z
     by_cases c:m=n
     .subst c;rw[As f]at e;cases e
     .rw[A7 (BW c)]at e;exact c (d.inj m n l e w)
    have D:∀b,AA b∈C1.set n AD->AA b∈C1:=λb z=>by
     let#[m,e]:=DX.mp z
     by_cases c:m=n
     .subst c;rw[As f]at e;cases e
     .rw[A7 (BW c)]at e;exact A1 e
    have s:Step C1 H1 (C1.set n AD) H1:=#[λ_ _ _ e=>e,by simp,λm a hm' e=>by
     by_cases c:m=n
     .subst c;rw[As f]at e;cases e
     .rw[A7 (BW c)]at e;exact e,λb z=>.inl (D b z)]
    refine g _ H1 (C1.set n AD) s #[by simp[d.len],λm k a t u=>?_,λm a e=>?_,λm o e E=>?_,λa z=>d.nb a (D a z),d.dom] ?_
    .by_cases j:m=n
     .subst j;rw[As f]at t;cases t
     .by_cases p:k=n
      .subst p;rw[As f]at u;cases u
      .rw[A7 (BW j)]at t;rw[A7 (BW p)]at u;exact d.inj m k a t u
    .by_cases c:m=n
     .subst c;rw[As f]at e;cases e
     .rw[A7 (BW c)]at e;let#[o,q,r]:=d.obj m a e;exact#[o,by rw[A7 (BW c)];exact q,r.step s rfl]
    .by_cases c:m=n
     .subst c;rw[As (by rw[<-d.len];exact f)]at e;cases e;exact IB rfl E
     .rw[A7 (BW c)]at e ⊢;exact d.liv m o e E
    .simp only[ye];exact#[l,O,rfl,#[U,d.nb l hm,nl],Z.step s]
   .exact g.elim
  .exact g.ok d y
end
section
variable (S:Se)(X:Cx)
def yau(B:AJ->Prop)(A:Ph)(H:Hp)(f:Fl)(D:Ends):Prop:=
 match f with
 |.nx g a=>∀d b c,Step A H c b->yH X.K S.cl B c b a->yP X.K S.cl B c b g d->D.nx d b
 |.rt v a=>∀x b c,Step A H c b->yH X.K S.cl B c b a->ye X.K S.cl B c b v x->D.rt x b
 |.bk g a=>∀d b c,Step A H c b->yH X.K S.cl B c b a->yP X.K S.cl B c b g d->D.bk d b
 |.ct g a=>∀d b c,Step A H c b->yH X.K S.cl B c b a->yP X.K S.cl B c b g d->D.ct d b
 |.exc k g a=>∀d A1 j e l,Step A H A1 j->yP X.K S.cl B A1 j g d->ExcAt S X d B A1 j k a e l->X.xe e l
 |.bad=>II
def tS(c:Cs):TS:=λD C H=>∃B A st Y,yH X.K S.cl B A H st/\yP X.K S.cl B A H Y C/\yau S X B A H (ex S.call Y st c) D
def tSs(c:Css):TS:=λD C H=>∃B A st Y,yH X.K S.cl B A H st/\yP X.K S.cl B A H Y C/\yau S X B A H (exs S.call Y st c) D
end
section
variable {S:Se}{X:Cx}{C:St}{B:AJ->Prop}{A A1:Ph}{H H1:Hp}{st:SO}{Y:IC.Env}{D:Ends}{pos p2 px:Bq}{a b c o:AX}{ca cb cc:Ce}{s1:Bf}{ss ss':Hs Bf}{c1:Cs}{cs cs':Css}
theorem yau.on{f:Fl}(s:Step A H A1 H1)(h:yau S X B A H f D):yau S X B A1 H1 f D:=by
 cases f with
 |nx Y st=>exact λa b c t=>h a b c (s.trans t)
 |rt Y st=>exact λa b c t=>h a b c (s.trans t)
 |bk Y st=>exact λa b c t=>h a b c (s.trans t)
 |ct Y st=>exact λa b c t=>h a b c (s.trans t)
 |exc k Y st=>exact λa A2 d e g t=>h a A2 d e g (s.trans t)
 |bad=>exact h
theorem tE.fl{k:PV->SO->Fl}{P:V->Hp->Prop}(rs:yH X.K S.cl B A H st)(c:yP X.K S.cl B A H Y C)(h:yau S X B A H ((ev S.call Y st ca).fl Y k) D)
  (n:∀x H1 v a A1,Step A H A1 H1->yH X.K S.cl B A1 H1 a->yP X.K S.cl B A1 H1 Y C->ye X.K S.cl B A1 H1 v x->yau S X B A1 H1 (k v a) D->P x H1):tE S X ca C H P:=by
 refine#[B,A,st,Y,rs,c,?_]
 cases e:ev S.call Y st ca with
 |ok v b=>
  rw[e]at h;exact λx f g s d j=>n x f v b g s d (c.step s) j (h.on s)
 |exc k b=>
  rw[e]at h;exact λe l x=>h C A H e l .rfl c x
 |bad=>rw[e]at h;exact h
theorem PS.imp{t t':TS}(h:PS X s1 t')(k:∀D C H,t D C H->t' D C H):PS X s1 t:=λE s C H D I q=>h E s C H D I (k D C H q)
theorem PSs.imp{t t':TS}(h:PSs X ss t')(k:∀D C H,t D C H->t' D C H):PSs X ss t:=λE s C H D I q=>h E s C H D I (k D C H q)
theorem yP.set{K:AF}{a:Ht->AJ}(r:yP K a B A H Y C)(i:Ht){v:PV}{x:V}(c:ye K a B A H v x):yP K a B A H (Y.set i (AA v)) (C.set i (AA x)):=by
 refine#[by rw[Ay,Ay];exact r.len,λj w e=>?_]
 by_cases h:j=i
 .subst h
  by_cases b:j<Y.length
  .rw[As b]at e
   cases e
   exact#[x,by rw[As (by rw[<-r.len];exact b)],c]
  .rw[BR (by rw[Ay];lia)]at e
   cases e
 .rw[A7 (BW h)]at e ⊢;exact r.get j w e
def zmH:PSs X [] (tSs S X .nil):=zpd.imp λD C H #[B,A,st,Y,a,b,h]=>by erw[IC.xqq0,IC.xqq1]at h;exact h C H A .rfl a b
def zj4(f:PS X s1 (tS S X c1))(g:PSs X ss (tSs S X cs)):PSs X (s1::ss) (tSs S X (.cons c1 cs)):=
 (ziL f g).imp λD C H #[B,A,st,Y,j,l,h]=>by
  erw[IC.xqq0,IC.xqq1]at h;refine#[B,A,st,Y,j,l,?_]
  cases e:ex S.call Y st c1 with
  |nx b a=>
   rw[e]at h;exact λn o m s c d=>#[B,m,a,b,c,d,h.on s]
  |rt v a=>rw[e]at h;exact h
  |bk b a=>rw[e]at h;exact h
  |ct b a=>rw[e]at h;exact h
  |exc k b a=>rw[e]at h;exact h
  |bad=>rw[e]at h;exact h
def zkK(d:PE X a (tE S X ca))(f:swapsWith a AD pos.line X.env=pure false:=by rfl):PS X (.Expr a pos) (tS S X (.expr ca)):=
 (zld d f).imp λD C H #[B,A,st,Y,g,j,h]=>by erw[ex]at h;exact tE.fl g j h λx H1 v l A1 s b c n m=>m C H1 A1 .rfl b c
def zlK(c:PE X a (tE S X ca)):PS X (.Return (AA a) pos) (tS S X (.ret ca)):=
 (zmO c).imp λD C H #[B,A,st,Y,d,f,h]=>by erw[ex]at h;exact tE.fl d f h λx H1 v g A1 s b j l m=>m x H1 A1 .rfl b l
def zlf:PS X (.Return AD pos) (tS S X (.ret (.cst .non))):=
 zpe.imp λD C H #[B,A,st,Y,a,b,h]=>by erw[ex,ev,R.fl]at h;exact h .non H A .rfl a (by erw[ye])
def zmi{i:Ht}{x:AQ}(d:X.N.Nodup)(f:X.N[i]?=AA x)(g:Loc X.env.scope x)(j:PE X a (tE S X ca))(l:swapsWith a (AA (.Name x px)) pos.line X.env=pure false:=by rfl)
  (hf:X.fn x=AC \/ X.env.scope.names.lookup x=AA .local:=by first|exact .inl rfl|exact .inr rfl|assumption):PS X (.Assign [.Name x px] a pos) (tS S X (.asg (.n i) ca)):=
 (zlY d f g j l hf).imp λD C H #[B,A,st,Y,m,o,h]=>by erw[ex]at h;exact tE.fl m o h λx H1 v p A1 s b c q r=>r _ H1 A1 .rfl b (c.set i q)
theorem flT(r:R PV)(f:Hy->SO->Fl):(r.fl Y λx a=>onF (yaU a x) λk=>f k a)=(ya5 r).fl Y f:=by
 cases r with
 |ok v s=>
  erw[R.fl,ya5,R.bind]
  cases yaU s v<;>rfl
 |exc c s=>rfl
 |bad=>rfl
theorem tTs.fl{k:Hy->SO->Fl}{P:Hy->Hp->Prop}(rs:yH X.K S.cl B A H st)(d:yP X.K S.cl B A H Y C)(h:yau S X B A H ((ya5 (ev S.call Y st ca)).fl Y k) D)
  (n:∀b H1 a A1,Step A H A1 H1->yH X.K S.cl B A1 H1 a->yP X.K S.cl B A1 H1 Y C->yau S X B A1 H1 (k b a) D->P b H1):tTs S X ca C H P:=by
 refine#[B,A,st,Y,rs,d,?_]
 cases e:ya5 (ev S.call Y st ca)with
 |ok v c=>
  rw[e]at h;exact λx g j s f l=>by subst l;exact n v g c j s f (d.step s) (h.on s)
 |exc k c=>
  rw[e]at h;exact λe m x=>h C A H e m .rfl d x
 |bad=>rw[e]at h;exact h
def zn0(g:PT X c (tTs S X cc))(j:PSs X ss (tSs S X cs))(l:PSs X ss' (tSs S X cs')):PS X (.If c ss ss' pos) (tS S X (.ite cc cs cs')):=
 (zog g j l).imp λD C H #[B,A,st,Y,m,n,h]=>by
  erw[ex]at h;rw[flT _ λk a=>cond k (exs S.call Y a cs) (exs S.call Y a cs')]at h;refine tTs.fl m n h λk H1 a A1 s b d f=>?_
  cases k with
  |true=>exact#[B,A1,a,Y,b,d,f]
  |false=>exact#[B,A1,a,Y,b,d,f]
def zmI{i:Ht}{x:AQ}{l:D6}{c:BOp}(o:X.N.Nodup)(p:X.N[i]?=AA x)(r:Loc X.env.scope x)(t:PE X a (tE S X ca))(E:PIp X l (rT2 S X (ybM c)))
  (hf:X.fn x=AC \/ X.env.scope.names.lookup x=AA .local:=by first|exact .inl rfl|exact .inr rfl|assumption) (Q:(x==("__debug__":AQ))=false:=by decide) (G:(x==("__classdict__":AQ))=false:=by decide):PS X (.AugAssign (.Name x px) l a pos) (tS S X (.aug i c ca)):=
 (zmV o p r t E hf).imp λD C H #[B,A,st,Y,I,m,h]=>by
  erw[ex]at h
  cases q:Y[i]? with
  |none=>rw[q]at h;exact h.elim
  |some w=>
   cases w with
   |none=>rw[q]at h;exact h.elim
   |some w=>
    rw[q]at h;let#[y,J,rw]:=m.get i w q;refine#[y,J,tE.fl I m h λz H1 v d A1 s f g L b=>?_]
    cases e:ybM c w v with
    |none=>rw[e]at b;exact b.elim
    |some u=>
     rw[e]at b;exact#[B,A1,d,w,v,u,f,rw.step s,L,e,λU M N n j O=>b _ M N n j ((g.step n).set i O)]
end
section
variable (S:Se)(X:Cx)
structure Drw(B:AJ->Prop)(A0:Ph)(H0:Hp)(xs:Hs PV)(J:It):Prop where
 stop:∀A H,Step A0 H0 A H->J.stop xs.length H
 go:∀(i:Ht) A H,Step A0 H0 A H->i<xs.length->J.go i H
 yld:∀(i:Ht) A H st x H' (B':AJ->Prop),(∀y,B' y->B y \/ H0 y=AD)->Step A0 H0 A H->yH X.K S.cl B' A H st->i<xs.length->J.yld i H x H'->∃v,xs[i]?=AA v/\ye X.K S.cl B' A H' v x/\∀b o,H b=AA o->H' b=AA o
abbrev RD(B:AJ->Prop):Ph->Hp->Hs PV->It->Prop:=λA H=>Drw S X B A H
def tI(c:Cit):TI:=λC H R=>∃B A st Y,yH X.K S.cl B A H st/\yP X.K S.cl B A H Y C/\Run S X C B A H (RD S X B) (evi S.call Y st c) R
end
section
variable {S:Se}{X:Cx}{E:St}{B:AJ->Prop}{C C1:Ph}{H H1:Hp}{st:SO}{Y:IC.Env}{D:Ends}{pos p p2 px:Bq}{a b c o tg l:AX}{ca cb cc:Ce}{es:Hs AX}{ces:Ces}{ss:Hs Bf}{cs:Css}{ci:Cit}{ct:Tg}
def zll:PE X a (tE S X .nope):=λF s E H Q I #[B,C,st,Y,b,c,h]=>by erw[ev]at h;exact h.elim
def zj6{a:Bf}:PS X a (tS S X .nope):=λF s E H D I #[B,C,st,Y,b,c,h]=>by erw[ex]at h;exact h.elim
theorem PI.imp{t t':TI}(h:PI X tg l t')(k:∀E H R,t E H R->t' E H R):PI X tg l t:=λF s E H R I q=>h F s E H R I (k E H R q)
def zjR{r:TE}(t:PE X l r):PI X tg l (λE H R=>r E H λx H1=>∃a,x=.ref a/\(((∃f,SqL X.K H1 a f)/\R (Itl X.K a) H1) \/ ((∃f,SqT X.K H1 a f)/\R (Itt X.K a) H1))):=by
 intro F s E H R I h;refine thn (t F s E H _ I h) λv c u=>?_;let#[x,H1,d,w,j]:=u;let#[a,e,j]:=j;subst e
 cases w
 rcases j with⟨⟨f,m⟩,q⟩|⟨⟨f,m⟩,q⟩
 .let#[g,y,p,z]:=d.list m;refine GS p.isList ?_;refine#[c.heap.objs.size,[c.heap.objs.size],_,_,H1,rfl,d.kept (t':=c.toks) λb o e=>AR _ e,zhl a _,#[_,Af _ rfl,rfl,rfl],λb n=>?_,q];have e:b=c.heap.objs.size:=by simpa using n
  subst e;exact d.fpOk (AS _) (d.hok.fresh (AS _))
 .let#[g,y,p,z]:=d.tuple m;refine CJ (show c.heap.IsTuple a g.toArray from p) ?_;refine#[c.heap.objs.size,[c.heap.objs.size],_,_,H1,rfl,d.kept (t':=c.toks) λb o e=>AR _ e,zfN a _,#[_,Af _ rfl,rfl,rfl],λb n=>?_,q];have e:b=c.heap.objs.size:=by simpa using n
  subst e;exact d.fpOk (AS _) (d.hok.fresh (AS _))
def zkS{k:Hy}{vs:Hs PV}{xs:Hs V}{y:AJ}(rt:ybP X.K B C H k y xs)(l:yq X.K S.cl B C H vs xs):Drw S X B C H vs (Itt X.K y):=by
 have m:=l.length;refine#[λb c s=>#[xs,(rt.step s).sq,by lia],λi b c s d=>#[xs,xs[i]'(),(rt.step s).sq,by simp[show i<xs.length by lia]],λi b c st x n o g s p d q=>?_];let#[rfl,q]:=q;obtain⟨v,f⟩:∃v,vs[i]?=AA v:=#[vs[i],by simp[d]];let#[r,a,j]:=l.get i f;have:=q xs (rt.step s).sq;rw[this]at a
 cases a
 exact#[v,f,(j.moreB g).step s,λ_ _ e=>e]
def zkG{vs:Hs PV}{xs:Hs V}{y:AJ}(rt:yc2 B C H y xs)(l:yq X.K S.cl B C H vs xs):Drw S X B C H vs (Itl X.K y):=by
 have m:=l.length;refine#[λb c s=>#[xs,(rt.step s).sq,by lia],λi b c s d=>#[xs,xs[i]'(),(rt.step s).sq,by simp[show i<xs.length by lia]],λi b c st x n o g s p d q=>?_];let#[rfl,q]:=q;obtain⟨v,f⟩:∃v,vs[i]?=AA v:=#[vs[i],by simp[d]];let#[r,a,j]:=l.get i f;have:=q xs (rt.step s).sq;rw[this]at a
 cases a
 exact#[v,f,(j.moreB g).step s,λ_ _ e=>e]
def zmv(g:PE X l (tE S X ca)):PI X tg l (tI S X (.seq ca)):=
 (zjR g).imp λE H R #[B,C,st,Y,j,m,h]=>by
  erw[IC.vjq0,IC.vjq1,IC.vjq2,IC.vjq3,IC.vjq4,IC.vjq5,IC.vjq6,IC.vjq7,IC.vjq8]at h;refine tE.bind j m h λx H1 v n C1 q a o c d=>?_
  cases v with
  |tp k p=>
   erw[ye]at c;let#[y,f,rfl,b,l]:=c;exact#[y,rfl,.inr #[#[f,b.sq],d.ok a (zkS b l)]]
  |lst p=>
   erw[ye]at c;let#[y,f,rfl,b,l]:=c;exact#[y,rfl,.inl #[#[f,b.sq],d.ok a (zkG b l)]]
  |_=>exact d.elim
def zcV:∀(n:Ht) (lo d:Hw) (i:Ht),(yt n lo d)[i]?=if i<n then AA (.int (lo+i*d))else AD
 |0,lo,d,i=>by simp[yt]
 |n+1,lo,d,0=>by simp[yt]
 |n+1,lo,d,i+1=>by
  erw[yt,Ah];rw[zcV n (lo+d) d i]
  by_cases h:i<n
  .rw[Hz h,Hz (),Hw.natCast_succ,Hw.add_mul,Hw.one_mul,Hw.add_assoc,Hw.add_comm d]
  .rw[IA h,IA ()]
def zbl:∀(n:Ht) (lo d:Hw),(yt n lo d).length=n
 |0,lo,d=>rfl
 |n+1,lo,d=>by simp[yt,zbl n]
def zhd{lo:Hw}{n:Ht}:Drw S X B C H (yt n lo 1) (Itr lo n):=by refine#[λb c s=>by rw[zbl];exact AS _,λi b c s a=>by rw[zbl]at a;exact a,λi b c st x d f g s j a q=>?_];rw[zbl]at a;let#[rfl,rfl]:=q;refine#[.int (lo+i),?_,by erw[ye],λ_ _ e=>e];rw[zcV,Hz a,Hf]
def zgZ{o:Option (Hs PV)}{st:SO}{Q:It->Hp->Prop}(h:Run S X E B C H (RD S X B) (toL o st) Q):∃a,o=AA a/\Run S X E B C H (RD S X B) (.ok a st) Q:=by
 cases o with
 |none=>exact h.elim
 |some z=>exact#[z,rfl,h]
def zib(g:Gl X "range")(l:X.mg "range"=AD)(m:PE X a (tE S X ca))(d:starEach [a] X.env=[(AB,eval a X.env)]:=by rfl):PI X tg (.Call (.Name "range" p) [a] [] pos) (tI S X (.range1 ca)):=
 (zge g l (zan m zoB d) d).imp λE H R #[B,C,st,Y,n,o,h]=>by
  erw[IC.vjq0,IC.vjq1,IC.vjq2,IC.vjq3,IC.vjq4,IC.vjq5,IC.vjq6,IC.vjq7,IC.vjq8]at h;refine tE.bind n o h λx H1 v q C1 t b r f c=>?_;let#[u,e,c]:=zgZ c
  cases v with
  |int j=>
   erw[ybE]at e;split at e
   .cases e
    erw[ye]at f;subst f;exact#[j,rfl,by lia,by lia,c.ok b zhd]
   .cases e
  |_=>cases e
def zcN:∀(xs:Hs PV) (k i:Ht),(yar k xs)[i]?=(xs[i]?).map λx=>.tup [.int ((k+i:Ht):Hw),x]
 |[],k,i=>by simp[yar]
 |x::xs,k,0=>by simp[yar]
 |x::xs,k,i+1=>by
  erw[yar,Ah];rw[zcN xs (k+1) i];have:k+1+i=k+(i+1):=by lia
  rw[this]
def zcu:∀(xs:Hs PV) (k:Ht),(yar k xs).length=xs.length
 |[],k=>rfl
 |x::xs,k=>by simp[yar,zcu xs]
def ziA{k:Hy}{vs:Hs PV}{xs:Hs V}{y:AJ}(rt:ybP X.K B C H k y xs)(l:yq X.K S.cl B C H vs xs):Drw S X B C H (yar 0 vs) (Ite X.K y):=by
 have t:=l.length;have u:=zcu vs 0;refine#[λc d s=>#[xs,(rt.step s).sq,by lia],λi c d s m=>#[xs,xs[i]'(),(rt.step s).sq,by simp[show i<xs.length by lia]],λi c d st x w z n s p m q=>?_];let#[T,f,rfl,q]:=q;obtain⟨v,g⟩:∃v,vs[i]?=AA v:=#[vs[i]'(),by simp[show i<vs.length by lia]];let#[j,a,r]:=l.get i g;have e:=q xs j (rt.step s).sq a;subst e;refine#[.tup [.int i,v],?_,.tup_new f p ?_,λb o e=>by rw[zl (zp e f)];exact e]
 .rw[zcN,g];simp
 .simp only[yq,ye];exact#[_,_,rfl,rfl,j,[],rfl,(r.moreB n).step s,rfl]
def zkh{es:Hs AX}{j:Ht}{tp:Bq}(m:Gl X "enumerate")(n:X.mg "enumerate"=AD)(o:PE X a (tE S X ca))(c:starEach [a] X.env=[(AB,eval a X.env)]:=by rfl):
  PI X (.Tuple es j tp) (.Call (.Name "enumerate" p) [a] [] pos) (tI S X (.enum ca)):=
 (zja m n (zan o zoB c) c).imp λE H R #[B,C,st,Y,q,r,h]=>by
  erw[IC.vjq0,IC.vjq1,IC.vjq2,IC.vjq3,IC.vjq4,IC.vjq5,IC.vjq6,IC.vjq7,IC.vjq8]at h;refine tE.bind q r h λx H1 v t C1 z b u d f=>?_
  cases v with
  |tp k A=>
   erw[ye]at d;let#[y,w,rfl,g,l]:=d;exact#[y,rfl,#[w,g.sq],f.ok b (ziA g l)]
  |_=>exact f.elim
def tG(S:Se)(X:Cx)(t:Tg):TG:=λv E H Q=>∃B C st Y w a,yH X.K S.cl B C H st/\yP X.K S.cl B C H Y E/\ye X.K S.cl B C H w v/\yW t w Y=AA a/\∀b,yP X.K S.cl B C H a b->Q b H
theorem PG.imp{t t':TG}(h:PG X tg t')(k:∀v E H Q,t v E H Q->t' v E H Q):PG X tg t:=λF s E H v u Q I a q=>h F s E H v u Q I a (k v E H Q q)
def zlh{i:Ht}{x:AQ}(a:X.N.Nodup)(b:X.N[i]?=AA x)(c:Loc X.env.scope x)(hf:X.fn x=AC \/ X.env.scope.names.lookup x=AA .local:=by first|exact .inl rfl|exact .inr rfl|assumption):PG X (.Name x pos) (tG S X (.n i)):=
 (zgX a b c hf).imp λv E H Q #[B,C,st,Y,w,g,j,d,f,e,q]=>by
  cases e
  exact q _ (d.set i f)
def gNs(l:Hs Ht):TGs:=λa E H Q=>a.length=l.length/\Q ((l.zip a).foldl (λE p=>E.set p.1 (AA p.2)) E) H
theorem PGs.imp{es:Hs AX}{t t':TGs}(h:PGs X es t')(k:∀v E H Q,t v E H Q->t' v E H Q):PGs X es t:=λF s E H a b Q I c q=>h F s E H a b Q I c (k a E H Q q)
def zle:PGs X [] (gNs []):=zoU.imp λa E H Q #[h,q]=>by
 cases a with
 |nil=>exact#[rfl,q]
 |cons _ _=>cases h
def zjj{es:Hs AX}{l:Hs Ht}{i:Ht}{x:AQ}(b:X.N.Nodup)(c:X.N[i]?=AA x)(d:Loc X.env.scope x)(f:PGs X es (gNs l))(hf:X.fn x=AC \/ X.env.scope.names.lookup x=AA .local:=by first|exact .inl rfl|exact .inr rfl|assumption):PGs X (.Name x pos::es) (gNs (i::l)):=
 (zdz (zgX b c d hf) f).imp λa E H Q #[h,q]=>by
  cases a with
  |nil=>cases h
  |cons v a=>exact#[v,a,rfl,by simpa using h,q]
theorem yP.sets{K:AF}{b:Ht->AJ}:∀(l:Hs Ht) {vs:Hs PV} {xs:Hs V} {Y:IC.Env} {E:St},yP K b B C H Y E->yq K b B C H vs xs ->
  yP K b B C H ((l.zip vs).foldl (λY p=>Y.set p.1 (AA p.2)) Y) ((l.zip xs).foldl (λE p=>E.set p.1 (AA p.2)) E)
 |[],vs,xs,Y,E,a,l=>by simpa using a
 |i::c,[],xs,Y,E,a,l=>by erw[yq]at l;subst l;simpa using a
 |i::c,v::vs,xs,Y,E,a,l=>by erw[yq]at l;let#[y,d,rfl,r,l]:=l;erw[ED,CO];exact yP.sets c (a.set i r) l
def zmQ{es:Hs AX}{l:Hs Ht}{k:Ht}(f:X.calm=AC)(h:PGs X es (gNs l))(g:(assignEach es X.env).length=l.length:=by rfl)(a:(assignEach es X.env).findIdx? (·.1)=none:=by rfl):PG X (.Tuple es k pos) (tG S X (.t l)):=
 (zjO f h g a).imp λv E H Q #[B,C,st,Y,w,o,p,j,b,e,q]=>by
  cases w with
  |tp r u=>
   erw[yW]at e;split at e
   .rename_i c
    cases e
    erw[ye]at b;let#[y,m,rfl,n,d]:=b;have x:=d.length;exact#[y,m,rfl,n.sq,by lia,by lia,q _ (yP.sets l j d)]
   .cases e
  |_=>cases e
def zln{es:Hs AX}{l:Hs Ht}{k:Ht}(j:PE X a (tE S X ca))(m:PG X (.Tuple es k p2) (tG S X (.t l)))(n:swapsWithSole [.Tuple es k p2] a pos.line X.env=pure false:=by rfl)(o:swappedStores [.Tuple es k p2] a X.env=pure none:=by rfl):
  PS X (.Assign [.Tuple es k p2] a pos) (tS S X (.asg (.t l) ca)):=
 (zh6 j m n o).imp λD E H #[B,C,st,Y,p,q,h]=>by
  erw[ex]at h;refine tE.fl p q h λx H1 v d C1 s b f r c=>?_
  cases e:yW (.t l) v Y with
  |none=>rw[e]at c;exact c.elim
  |some u=>
   rw[e]at c;exact#[B,C1,d,Y,v,u,b,f,r,e,λw g=>c w H1 C1 .rfl b g]
theorem tI.fl{k:Hs PV->SO->Fl}{P:It->Hp->Prop}(rs:yH X.K S.cl B C H st)(c:yP X.K S.cl B C H Y E)(h:yau S X B C H ((evi S.call Y st ci).fl Y k) D)
  (n:∀x H1 v a C1,Step C H C1 H1->yH X.K S.cl B C1 H1 a->yP X.K S.cl B C1 H1 Y E->Drw S X B C1 H1 v x->yau S X B C1 H1 (k v a) D->P x H1):tI S X ci E H P:=by
 refine#[B,C,st,Y,rs,c,?_]
 cases e:evi S.call Y st ci with
 |ok v b=>
  rw[e]at h;exact λx f g s d j=>n x f v b g s d (c.step s) j (h.on s)
 |exc k b=>
  rw[e]at h;exact λe l x=>h E C H e l .rfl c x
 |bad=>rw[e]at h;exact h
def zmh(hp:E9 (model X.prog X.w) X.A X.env X.xe)(hc:X.calm=AC)(r:PI X tg l (tI S X ci))(hg:PG X tg (tG S X ct))(hb:PSs X ss (tSs S X cs))(hs:∀x,foldedSetIterable l X.env x=pure x:=by intro _;rfl):
  PS X (.For tg l ss [] pos) (tS S X (.for ct ci cs)):=
 (zlM hp hc r hg hb hs).imp λD E H #[B,C,st,Y,rs,re,h]=>by
  erw[ex]at h;refine tI.fl rs re h λJ H1 f O C1 s1 Q U Z h1=>?_;refine#[λi m E H=>∃C st Y,i+m=f.length/\Step C1 H1 C H/\yH X.K S.cl B C H st/\yP X.K S.cl B C H Y E/\yau S X B C H (forL ct (λt a=>exs S.call t a cs) (f.drop i) Y st) D,
   #[f.length,C1,O,Y,by lia,.rfl,Q,U,by simpa using h1],?_]
  rintro i m E2 w ⟨C2,a,t,hm,y,g,A,j⟩
  by_cases r:i<f.length
  .refine .inr #[Z.go i C2 w y r,λE' G=>∃C st Y,Step C1 H1 C G/\yH X.K S.cl B C G st/\yP X.K S.cl B C G Y E'/\yau S X B C G (forL ct (λt a=>exs S.call t a cs) (f.drop (i+1)) Y st) D,
    λE' G #[C,st,Y,s,q]=>#[m-1,by lia,C,st,Y,by lia,s,q],λx H3 hy=>?_]
   let#[v,hv,rv,kk]:=Z.yld i C2 w a x H3 B (λ_ z=>.inl z) y g r hy;have e:f.drop i=v::f.drop (i+1):=by rw[Cu r];rw[CY r]at hv;rw[Ac hv]
   have N:Step C2 w C2 H3:=#[λb o _ e=>kk b o e,AS _,λ_ _ _ e=>e,λ_ h=>.inl h];have I:yH X.K S.cl B C2 H3 a:=g.same kk;rw[e,forL]at j
   cases eb:yW ct v t with
   |none=>rw[eb]at j;exact j.elim
   |some Y3=>
    rw[eb]at j;refine#[B,C2,a,t,v,Y3,I,A.step N,rv,eb,λE' re'=>#[B,C2,a,Y3,I,re',?_]];have c:=yau.on N j;dsimp only at c
    cases u:exs S.call Y3 a cs with
    |nx L d=>
     rw[u]at c;exact λE4 H4 C4 M n p=>#[C4,d,L,y.trans (N.trans M),n,p,yau.on M c]
    |ct L d=>
     rw[u]at c;exact λE4 H4 C4 M n p=>#[C4,d,L,y.trans (N.trans M),n,p,yau.on M c]
    |bk L d=>rw[u]at c;exact c
    |rt v4 d=>rw[u]at c;exact c
    |exc k L d=>rw[u]at c;exact c
    |bad=>rw[u]at c;exact c
  .have e:i=f.length:=by lia
   subst e;rw[G7,forL]at j;exact .inl #[Z.stop C2 w y,j E2 w C2 .rfl g A]
def ziq(G:E9 (model X.prog X.w) X.A X.env X.xe)(I:PT X c (tTs S X cc))(J:PSs X ss (tSs S X cs)):PS X (.While c ss [] pos) (tS S X (.while cc cs)):=
 (zih G I J).imp λD E H #[B,C,st,Y,L,M,h]=>by
  erw[ex]at h;refine#[λm E H=>∃C st Y,yH X.K S.cl B C H st/\yP X.K S.cl B C H Y E/\yau S X B C H (yaN (λb a=>ev S.call b a cc) (λb a=>exs S.call b a cs) m Y st) D,#[100000,C,st,Y,L,M,h],?_]
  rintro m E2 Q ⟨C2,a,b,x,y,u⟩
  cases m with
  |zero=>exact u.elim
  |succ m=>
   rw[yaN]at u;rw[flT _ λk n=>cond k (yaF (exs S.call b n cs) λb a=>yaN (λb a=>ev S.call b a cc) (λb a=>exs S.call b a cs) m b a) (.nx b n)]at u;refine tTs.fl x y u λk N o C3 U p r d=>?_
   cases k with
   |false=>exact d E2 N C3 .rfl p r
   |true=>
    refine#[λA w=>∃C st Y,yH X.K S.cl B C w st/\yP X.K S.cl B C w Y A/\yau S X B C w (yaN (λb a=>ev S.call b a cc) (λb a=>exs S.call b a cs) m Y st) D,
     λA w q=>#[m,by lia,q],B,C3,o,b,p,r,?_]
    erw[cond_true]at d
    cases l:exs S.call b o cs with
    |nx t f=>
     rw[l]at d;exact λE4 O C4 z g j=>#[C4,f,t,g,j,yau.on z d]
    |ct t f=>
     rw[l]at d;exact λE4 O C4 z g j=>#[C4,f,t,g,j,yau.on z d]
    |bk t f=>rw[l]at d;exact d
    |rt Z f=>rw[l]at d;exact d
    |exc k t f=>rw[l]at d;exact d
    |bad=>rw[l]at d;exact d
end
end L2
namespace IC
open PySem
abbrev Cl:=Ht->Hs PV->SO->R PV
def yaT(call:Cl)(t:Tg)(b:Css)(xs:Hs PV)(Y:Env)(st:SO):Fl:=forL t (λc a=>exs call c a b) xs Y st
def ya3(call:Cl)(c:Ce)(b:Css)(n:Ht)(Y:Env)(st:SO):Fl:=yaN (λd a=>ev call d a c) (λd a=>exs call d a b) n Y st
def yaC(call:Cl)(j:Env)(t:Tg)(c e:Ce)(x:PV)(d:SO):R (Option PV):=match yW t x j with
 |none=>.bad
 |some g=>(ev call g d c).bind λb a=>onO (yaU a b) λk=>cond k ((ev call g a e).bind λy f=>.ok (AA y) f) (.ok AD a)
def yR(call:Cl)(a:Env)(t:Tg)(c e:Ce)(xs:Hs PV)(st:SO):R (Hs PV):=ycC (yaC call a t c e) xs st
def ya0(f:Fl)(k:Env->SO->Fl):Fl:=
 match f with
 |.nx Y st=>k Y st
 |f=>f
def nxO(o:Option Env)(st:SO):Fl:=
 match o with
 |some Y=>.nx Y st
 |none=>.bad
def stO(Y:Env)(o:Option SO):Fl:=
 match o with
 |some st=>.nx Y st
 |none=>.bad
section
variable {call:Cl}{Y:Env}{st:SO}
theorem x_for{t:Tg}{c:Cit}{b:Css}:ex call Y st (.for t c b)=(evi call Y st c).fl Y λd a=>yaT call t b d Y a:=rfl
def zkT{c:Ce}{b:Css}:ex call Y st (.while c b)=ya3 call c b 100000 Y st:=rfl
theorem v_comp{sl:Hs (Option Ht)}{t:Tg}{b:Cit}{c e:Ce}:ev call Y st (.comp sl t b c e)=(evi call Y st b).bind λd a=>ybi (yR call (sl.map λo=>o.bind λj=>(Y[j]?).join) t c e d a):=rfl
def zO{t:Tg}{b:Css}:yaT call t b [] Y st=.nx Y st:=rfl
def zr{t:Tg}{b:Css}{x:PV}{xs:Hs PV}{Y1:Env}(h:yW t x Y=AA Y1):yaT call t b (x::xs) Y st=yaF (exs call Y1 st b) λc a=>yaT call t b xs c a:=by rw[yaT,forL,h];rfl
def zfm{t:Tg}{b:Css}(P:Ht->Env->SO->Prop):∀(xs:Hs PV) (i:Ht) (Y:Env) (st:SO),P i Y st ->
  (∀(j:Ht) (x:PV) (Y:Env) (st:SO),xs[j]?=AA x->P (i+j) Y st->∃g d a,yW t x Y=AA g/\exs call g st b=.nx d a/\P (i+j+1) d a) ->
  ∃f c,yaT call t b xs Y st=.nx f c/\P (i+xs.length) f c
 |[],i,Y,st,h,_=>#[Y,st,zO,h]
 |x::xs,i,Y,st,h,k=>by
  let#[g,d,a,l,m,n]:=k 0 x Y st rfl h;let#[f,c,o,p]:=zfm P xs (i+1) d a n λj y Y st q r=>by have:=k (j+1) y Y st (by simpa using q) (by rw[show i+(j+1)=i+1+j by lia];exact r);rw[show i+(j+1)+1=i+1+j+1 by lia]at this;exact this
  refine#[f,c,?_,by rw[AV,show i+(xs.length+1)=i+1+xs.length by lia];exact p];rw[zr l,m];exact o
def zhc{c:Ce}{b:Css}{n:Ht}{x:PV}{a d:SO}{f:Env}(h:ev call Y st c=.ok x a)(g:yaU a x=AA AC)(j:exs call Y a b=.nx f d):ya3 call c b (n+1) Y st=ya3 call c b n f d:=by rw[ya3,yaN,h];erw[R.fl,g,onF,cond_true,j,yaF];rfl
def zeu{c:Ce}{b:Css}{n:Ht}{x:PV}{a:SO}(h:ev call Y st c=.ok x a)(d:yaU a x=AA AB):ya3 call c b (n+1) Y st=.nx Y a:=by rw[ya3,yaN,h];erw[R.fl,d,onF,cond_false]
def zaG{a:Env}{t:Tg}{c e:Ce}:yR call a t c e [] st=.ok [] st:=rfl
def zH{a:Env}{t:Tg}{c e:Ce}{x:PV}{xs:Hs PV}:yR call a t c e (x::xs) st=(yaC call a t c e x st).bind λo b=>(yR call a t c e xs b).bind λf d=>.ok (ydc o f) d:=rfl
def zX{a:Env}{t:Tg}{c e:Ce}{f:PV->PV}:∀(xs:Hs PV),(∀x∈xs,yaC call a t c e x st=.ok (AA (f x)) st)->yR call a t c e xs st=.ok (xs.map f) st
 |[],_=>zaG
 |x::xs,h=>by rw[zH,h x A6];erw[R.bind];rw[zX xs λy b=>h y (AT _ b)];rfl
theorem xs_nil:exs call Y st .nil=.nx Y st:=rfl
def zbi{s:Cs}{b:Css}:exs call Y st (.cons s b)=ya0 (ex call Y st s) λc a=>exs call c a b:=rfl
theorem x_asg{t:Tg}{e:Ce}:ex call Y st (.asg t e)=(ev call Y st e).fl Y λv a=>nxO (yW t v Y) a:=rfl
theorem x_expr{e:Ce}:ex call Y st (.expr e)=(ev call Y st e).fl Y λ_ a=>.nx Y a:=rfl
theorem x_ret{e:Ce}:ex call Y st (.ret e)=(ev call Y st e).fl Y λv a=>.rt v a:=rfl
def zlo{c:Ce}{a b:Css}:ex call Y st (.ite c a b)=(ev call Y st c).fl Y λx d=>onF (yaU d x) λk=>cond k (exs call Y d a) (exs call Y d b):=rfl
theorem x_raise{c:Ht}{e:Ce}:ex call Y st (.raise c e)=(ev call Y st e).fl Y λ_ a=>.exc c Y a:=rfl
def yfB(i:Ht)(f:Fl):Fl:=
 match f with
 |.nx b a=>.nx (b.set i AD) a
 |.rt v a=>.rt v a
 |_=>.bad
def yfd(b:Hs Ht)(i:Ht)(f:Fl)(k:Env->SO->Ht->Fl):Fl:=
 match f with
 |.exc d c a=>if b.contains d then yfB i (k c a d)else .bad
 |f=>f
theorem x_try{b h:Css}{c:Hs Ht}{i:Ht}:ex call Y st (.try b c i h)=yfd c i (exs call Y st b) λf a d=>exs call (f.set i (AA (.exn d))) a h:=rfl
theorem x_six{o i e:Ce}:ex call Y st (.six o i e)=(ev call Y st e).fl Y λv a=>(ev call Y a o).fl Y λx b=>(ev call Y b i).fl Y λy c=>stO Y (yaE c x y v):=rfl
def ziP{c:Ht}{o e:Ce}{f:AQ}:ex call Y st (.sfl c o f e)=(ev call Y st e).fl Y λv a=>(ev call Y a o).fl Y λx b=>stO Y (yb5 c b x f v):=rfl
def zmF{o i e:Ce}:ex call Y st (.dput o i e)=(ev call Y st e).fl Y λv a=>(ev call Y a o).fl Y λx b=>(ev call Y b i).fl Y λy c=>stO Y (ybJ c x y v):=rfl
def zoc{i:Ht}{o:BOp}{e:Ce}{x:PV}(h:Y[i]?=AA (AA x)):ex call Y st (.aug i o e)=(ev call Y st e).fl Y λy a=>nxO ((ybM o x y).map λz=>Y.set i (AA z)) a:=by
 rw[IC.xrq4,h];show (ev call Y st e).fl Y _=_;refine IJ _ (funext λy=>funext λa=>?_)
 cases ybM o x y<;>rfl
end
def kS(call:Cl)(a:Css)(f:Fl):Fl:=ya0 f λY st=>exs call Y st a
def kJ(call:Cl)(Y:Env)(st:SO)(a b:Css)(o:Option Hy):Fl:=onF o λk=>cond k (exs call Y st a) (exs call Y st b)
def kI(call:Cl)(Y:Env)(a b:Css)(r:R PV):Fl:=r.fl Y λx c=>kJ call Y c a b (yaU c x)
def kB(v:PV)(r:R (Hs PV)):R (Hs PV):=r.bind λb a=>.ok (v::b) a
def kA(call:Cl)(Y:Env)(es:Ces)(r:R PV):R (Hs PV):=r.bind λv a=>kB v (evs call Y a es)
def kY(h:PV->SO->R PV)(r:R PV):R PV:=r.bind λy a=>h y a
def kX(call:Cl)(Y:Env)(b:Ce)(g:PV->PV->SO->R PV)(r:R PV):R PV:=r.bind λx a=>kY (g x) (ev call Y a b)
def kN(call:Cl)(Y:Env)(b:Ce)(r:R PV):R PV:=r.bind λx a=>onBl x λk=>cond k (ev call Y a b) (.ok (.bl AB) a)
def kO(call:Cl)(Y:Env)(b:Ce)(r:R PV):R PV:=r.bind λx a=>onBl x λk=>cond k (.ok (.bl AC) a) (ev call Y a b)
def kF(call:Cl)(Y:Env)(st:SO)(a b:Ce)(o:Option Hy):R PV:=onO o λk=>cond k (ev call Y st a) (ev call Y st b)
def kE(call:Cl)(Y:Env)(a b:Ce)(r:R PV):R PV:=r.bind λx c=>kF call Y c a b (yaU c x)
def kP(call:Cl)(Y:Env)(st:SO)(m:Mth)(es:Ces)(x:PV)(o:Option Hy):R PV:=onO o λ_=>(evs call Y st es).bind λb a=>ybs m a x b
def kM(call:Cl)(Y:Env)(m:Mth)(es:Ces)(r:R PV):R PV:=r.bind λx a=>kP call Y a m es x (yas m a x)
section
variable {call:Cl}{Y:Env}{st:SO}{s:Cs}{ss a b:Css}{c d e:Ce}{es:Ces}{v x y:PV}{n:Ht}{g:PV->PV->SO->R PV}{h:PV->SO->R PV}
theorem xs_conS:exs call Y st (.cons s ss)=kS call ss (ex call Y st s):=rfl
theorem kS1:kS call ss (.nx Y st)=exs call Y st ss:=rfl
theorem kS2:kS call ss (.rt v st)=.rt v st:=rfl
theorem kS3:kS call ss (.exc n Y st)=.exc n Y st:=rfl
theorem kS4:kS call ss (.bk Y st)=.bk Y st:=rfl
theorem kS5:kS call ss (.ct Y st)=.ct Y st:=rfl
theorem x_iteS:ex call Y st (.ite c a b)=kI call Y a b (ev call Y st c):=rfl
theorem kI1:kI call Y a b (.ok x st)=kJ call Y st a b (yaU st x):=rfl
theorem kI2:kI call Y a b (.exc n st)=.exc n Y st:=rfl
theorem kJ1:kJ call Y st a b (AA AC)=exs call Y st a:=rfl
theorem kJ2:kJ call Y st a b (AA AB)=exs call Y st b:=rfl
theorem evs_n:evs call Y st .nil=.ok [] st:=rfl
theorem evs_c:evs call Y st (.cons e es)=kA call Y es (ev call Y st e):=rfl
theorem kA1:kA call Y es (.ok v st)=kB v (evs call Y st es):=rfl
theorem kA2:kA call Y es (.exc n st)=.exc n st:=rfl
theorem kB1{vs:Hs PV}:kB v (.ok vs st)=.ok (v::vs) st:=rfl
theorem kB2:kB v (.exc n st)=.exc n st:=rfl
theorem kX1:kX call Y e g (.ok x st)=kY (g x) (ev call Y st e):=rfl
theorem kX2:kX call Y e g (.exc n st)=.exc n st:=rfl
theorem kY1:kY h (.ok y st)=h y st:=rfl
theorem kY2:kY h (.exc n st)=.exc n st:=rfl
theorem ve3S{o:BOp}:ev call Y st (.bin o c d)=kX call Y d (λx y a=>toR (yO o x y) a) (ev call Y st c):=rfl
theorem ve8S{o:COp}:ev call Y st (.cmp o c d)=kX call Y d (λx y a=>toR (yJ o x y) a) (ev call Y st c):=rfl
theorem ve16S:ev call Y st (.idx c d)=kX call Y d (λx y a=>toR (idxV a x y) a) (ev call Y st c):=rfl
theorem ve6S:ev call Y st (.and c d)=kN call Y d (ev call Y st c):=rfl
theorem kN1:kN call Y d (.ok (.bl AC) st)=ev call Y st d:=rfl
theorem kN2:kN call Y d (.ok (.bl AB) st)=.ok (.bl AB) st:=rfl
theorem ve7S:ev call Y st (.or c d)=kO call Y d (ev call Y st c):=rfl
theorem kO1:kO call Y d (.ok (.bl AC) st)=.ok (.bl AC) st:=rfl
theorem kO2:kO call Y d (.ok (.bl AB) st)=ev call Y st d:=rfl
theorem ve10S:ev call Y st (.ite e c d)=kE call Y c d (ev call Y st e):=rfl
theorem kE1:kE call Y c d (.ok x st)=kF call Y st c d (yaU st x):=rfl
theorem kF1:kF call Y st c d (AA AC)=ev call Y st c:=rfl
theorem kF2:kF call Y st c d (AA AB)=ev call Y st d:=rfl
theorem ve20S{m:Mth}:ev call Y st (.mth m e es)=kM call Y m es (ev call Y st e):=rfl
theorem kM1{m:Mth}:kM call Y m es (.ok x st)=kP call Y st m es x (yas m st x):=rfl
theorem kP1{m:Mth}{k:Hy}:kP call Y st m es x (AA k)=(evs call Y st es).bind λb a=>ybs m a x b:=rfl
end
end IC
namespace L2
open PySem PySem.Spec PyProof.Rows IC
section
variable (S:Se)(K:AF)
def yfR{D E:Type}(B:AJ->Prop)(A:Ph)(H:Hp)(Rel:Ph->Hp->D->E->Prop)(r:R D)(Q:E->Hp->Prop):Prop:=
 match r with
 |.ok v b=>∀x a c,Step A H c a->yH K S.cl B c a b->Rel c a v x->Q x a
 |_=>II
def tE0(c:Ce):TE:=λC H Q=>∃B A st Y,yH K S.cl B A H st/\yP K S.cl B A H Y C/\yfR S K B A H (λA H=>ye K S.cl B A H) (ev S.call Y st c) Q
def tT0(c:Ce):TT:=λC H Q=>∃B A st Y,yH K S.cl B A H st/\yP K S.cl B A H Y C/\yfR S K B A H RB (ya5 (ev S.call Y st c)) Q
def tG0(t:Tg):TG:=λv C H Q=>∃B A st Y w a,yH K S.cl B A H st/\yP K S.cl B A H Y C/\ye K S.cl B A H w v/\yW t w Y=AA a/\∀b,yP K S.cl B A H a b->Q b H
end
section
variable {S:Se}{X:Cx}{K:AF}{cl:Ht->AJ}{A:St}{B:AJ->Prop}{C C1:Ph}{H H1:Hp}{st:SO}{Y:IC.Env}{pos p p2 px:Bq}{a b c o tg l elt iter:AX}{ca cb cc ce:Ce}{ci:Cit}{ct:Tg}
def zgQ(c:X.K=K)(h:PE X a (tE S X ca)):PE X a (tE0 S K ca):=by
 subst c;refine h.imp λA H Q d=>?_;let#[B,C,st,Y,f,g,q]:=d;refine #[B,C,st,Y,f,g,?_]
 cases e:ev S.call Y st ca with
 |ok v b=>rw[e]at q;exact q
 |exc k b=>rw[e]at q;exact q.elim
 |bad=>rw[e]at q;exact q
def zlp(c:X.K=K)(h:PT X a (tTs S X ca)):PTs X [a] (tT0 S K ca):=by
 subst c;refine zk7 (h.imp λA H Q d=>?_);let#[B,C,st,Y,f,g,q]:=d;refine #[B,C,st,Y,f,g,?_]
 cases e:ya5 (ev S.call Y st ca)with
 |ok v b=>rw[e]at q;exact q
 |exc k b=>rw[e]at q;exact q.elim
 |bad=>rw[e]at q;exact q
def zio:PTs X [] (tT0 S K (.cst (.bl AC))):=λE s A H Q I #[B,C,st,Y,a,b,q]=>by refine zhA E s A H Q I ?_;erw[ev,ya5,R.bind,yaU,onO]at q;exact q AC H C .rfl a rfl
def zhr(a:X.K=K)(h:PG X tg (tG S X ct)):PG X tg (tG0 S K ct):=by subst a;exact h
theorem ybP.skip{k:Hy}{D y:AJ}{u:HO}{xs:Hs V}(a:B D)(r:ybP K B C H k y xs):ybP K B C (L2.upd H D u) k y xs:=by
 rcases r with⟨r,b,n⟩|r
 .exact .inl #[by rw[zl (show y≠D from λz=>b (z ▸ a))];exact r,b,n]
 .exact .inr r
mutual
theorem ye.skip{D:AJ}{u:HO}(d:B D):∀(v:PV) (x:V),ye K cl B C H v x->ye K cl B C (L2.upd H D u) v x
 |.non,x,h=>by erw[ye]at h ⊢;exact h
 |.bl b,x,h=>by erw[ye]at h ⊢;exact h
 |.int i,x,h=>by erw[ye]at h ⊢;exact h
 |.str y,x,h=>by erw[ye]at h ⊢;exact h
 |.tp k f,x,h=>by erw[ye]at h ⊢;let#[y,a,e,r,l]:=h;exact#[y,a,e,r.skip d,yq.skip d f a l]
 |.lst f,x,h=>by erw[ye]at h ⊢;let#[y,a,e,#[r,b,n],l]:=h;exact#[y,a,e,#[by rw[zl (show y≠D from λz=>b (z ▸ d))];exact r,b,n],yq.skip d f a l]
 |.loc n,x,h=>by erw[ye]at h ⊢;exact h
 |.fnc j,x,h=>by erw[ye]at h ⊢;exact h
 |.exn c,x,h=>by erw[ye]at h ⊢;let#[y,e,r,b,n]:=h;exact#[y,e,by rw[zl (show y≠D from λz=>b (z ▸ d))];exact r,b,n]
 |.scr f,x,h=>by
  erw[ye]at h ⊢;let#[y,a,e,r,l]:=h;refine#[y,a,e,?_,yq.skip d f a l];rcases r with⟨r,b,n⟩|r
  .refine .inl #[?_,b,n];have g:y≠D:=λz=>b (z ▸ d);rcases r with r|⟨o,r⟩
   .exact .inl (by rw[zl g];exact r)
   .exact .inr #[o,by rw[zl g];exact r]
  .exact .inr r
theorem yq.skip{D:AJ}{u:HO}(a:B D):∀(v:Hs PV) (x:Hs V),yq K cl B C H v x->yq K cl B C (L2.upd H D u) v x
 |[],x,h=>by erw[yq]at h ⊢;exact h
 |v::c,x,h=>by erw[yq]at h ⊢;let#[y,b,e,r,l]:=h;exact#[y,b,e,ye.skip a v y r,yq.skip a c b l]
end
theorem DK.skip{D:AJ}{u:HO}(c:B D):∀{a:Hs (PV×PV)} {b:Hs (Key×V)},DK K cl B C H a b->DK K cl B C (L2.upd H D u) a b
 |[],b,h=>h
 |(k,v)::r,b,h=>by let#[q,x,t,e,m,d,l]:=h;exact#[q,x,t,e,m,d.skip c,DK.skip c l]
theorem DT.skip{D:AJ}{u:HO}(c:B D):∀{a:Hs (PV×PV)} {b:Hs (Hs Key×V)},DT K cl B C H a b->DT K cl B C (L2.upd H D u) a b
 |[],b,h=>h
 |(k,v)::r,b,h=>by let#[q,x,t,e,m,d,l]:=h;exact#[q,x,t,e,m,d.skip c,DT.skip c l]
theorem FS.skip{D:AJ}{u:HO}(c:B D):∀{a:Hs (AQ×PV)} {b:Hs (AQ×V)},FS K cl B C H a b->FS K cl B C (L2.upd H D u) a b
 |[],b,h=>h
 |(k,v)::r,b,h=>by let#[x,t,e,d,l]:=h;exact#[x,t,e,d.skip c,FS.skip c l]
theorem yH.skip{D:AJ}{u:HO}(b:B D)(rs:yH K cl B C H st):yH K cl B C (L2.upd H D u) st:=by
 refine#[rs.len,rs.inj,λn y e=>?_,rs.liv,rs.nb,λy h=>?_]
 .let#[o,q,r]:=rs.obj n y e;have f:y≠D:=λz=>rs.nb y (A1 e) (z ▸ b);refine#[o,q,?_]
  cases o with
  |lst p=>
   let#[d,a,l]:=r;exact#[d,by rw[zl f];exact a,l.skip b]
  |dct t g=>
   cases t with
   |false=>
    let#[d,a,l]:=r;exact#[d,by rw[zl f];exact a,l.skip b]
   |true=>
    let#[d,a,l]:=r;exact#[d,by rw[zl f];exact a,l.skip b]
  |ins c fs=>
   let#[j,#[m,a],l]:=r;exact#[j,#[m,by rw[zl f];exact a],l.skip b]
  |dead=>exact r.elim
 .by_cases z:y=D
  .subst z;exact#[u,zq]
  .let#[w,e]:=rs.dom y h;exact#[w,by rw[zl z];exact e]
theorem yP.skip{D:AJ}{u:HO}(b:B D)(a:yP K cl B C H Y A):yP K cl B C (L2.upd H D u) Y A:=#[a.len,λi v e=>by let#[x,h,q]:=a.get i v e;exact#[x,h,q.skip b]]
def Bx(B:AJ->Prop)(D:AJ):AJ->Prop:=λy=>B y \/ y=D
def zg0{D:AJ}(a:H D=AD):∀y,Bx B D y->B y \/ H y=none:=λy z=>z.elim .inl λq=>.inr (q ▸ a)
theorem ye.more{D:AJ}(a:H D=AD){v:PV}{x:V}(h:ye K cl B C H v x):ye K cl (Bx B D) C H v x:=h.moreB (zg0 a)
theorem yq.more{D:AJ}(a:H D=AD){v:Hs PV}{x:Hs V}(h:yq K cl B C H v x):yq K cl (Bx B D) C H v x:=h.moreB (zg0 a)
mutual
theorem ye.less{D:AJ}:∀(v:PV) (x:V),ye K cl (Bx B D) C H v x->ye K cl B C H v x
 |.non,x,h=>by erw[ye]at h ⊢;exact h
 |.bl b,x,h=>by erw[ye]at h ⊢;exact h
 |.int i,x,h=>by erw[ye]at h ⊢;exact h
 |.str y,x,h=>by erw[ye]at h ⊢;exact h
 |.tp k d,x,h=>by
  erw[ye]at h ⊢;let#[y,a,e,r,l]:=h;refine#[y,a,e,?_,yq.less d a l];rcases r with⟨r,b,n⟩|r
  .exact .inl #[r,λz=>b (.inl z),n]
  .exact .inr r
 |.lst d,x,h=>by erw[ye]at h ⊢;let#[y,a,e,#[r,b,n],l]:=h;exact#[y,a,e,#[r,λz=>b (.inl z),n],yq.less d a l]
 |.loc n,x,h=>by erw[ye]at h ⊢;exact h
 |.fnc j,x,h=>by erw[ye]at h ⊢;exact h
 |.exn c,x,h=>by erw[ye]at h ⊢;let#[y,e,r,b,n]:=h;exact#[y,e,r,λz=>b (.inl z),n]
 |.scr d,x,h=>by
  erw[ye]at h ⊢;let#[y,a,e,r,l]:=h;refine#[y,a,e,?_,yq.less d a l];rcases r with⟨r,b,n⟩|r
  .exact .inl #[r,λz=>b (.inl z),n]
  .exact .inr r
theorem yq.less{D:AJ}:∀(v:Hs PV) (x:Hs V),yq K cl (Bx B D) C H v x->yq K cl B C H v x
 |[],x,h=>by erw[yq]at h ⊢;exact h
 |v::b,x,h=>by erw[yq]at h ⊢;let#[y,a,e,r,l]:=h;exact#[y,a,e,ye.less v y r,yq.less b a l]
end
theorem DK.more{D:AJ}(c:H D=AD):∀{a:Hs (PV×PV)} {b:Hs (Key×V)},DK K cl B C H a b->DK K cl (Bx B D) C H a b
 |[],b,h=>h
 |(k,v)::r,b,h=>by let#[q,x,t,e,m,d,l]:=h;exact#[q,x,t,e,m,d.more c,DK.more c l]
theorem DT.more{D:AJ}(c:H D=AD):∀{a:Hs (PV×PV)} {b:Hs (Hs Key×V)},DT K cl B C H a b->DT K cl (Bx B D) C H a b
 |[],b,h=>h
 |(k,v)::r,b,h=>by let#[q,x,t,e,m,d,l]:=h;exact#[q,x,t,e,m,d.more c,DT.more c l]
theorem FS.more{D:AJ}(c:H D=AD):∀{a:Hs (AQ×PV)} {b:Hs (AQ×V)},FS K cl B C H a b->FS K cl (Bx B D) C H a b
 |[],b,h=>h
 |(k,v)::r,b,h=>by let#[x,t,e,d,l]:=h;exact#[x,t,e,d.more c,FS.more c l]
theorem DK.less{D:AJ}:∀{a:Hs (PV×PV)} {b:Hs (Key×V)},DK K cl (Bx B D) C H a b->DK K cl B C H a b
 |[],b,h=>h
 |(k,v)::r,b,h=>by let#[q,x,t,e,m,c,l]:=h;exact#[q,x,t,e,m,c.less,DK.less l]
theorem DT.less{D:AJ}:∀{a:Hs (PV×PV)} {b:Hs (Hs Key×V)},DT K cl (Bx B D) C H a b->DT K cl B C H a b
 |[],b,h=>h
 |(k,v)::r,b,h=>by let#[q,x,t,e,m,c,l]:=h;exact#[q,x,t,e,m,c.less,DT.less l]
theorem FS.less{D:AJ}:∀{a:Hs (AQ×PV)} {b:Hs (AQ×V)},FS K cl (Bx B D) C H a b->FS K cl B C H a b
 |[],b,h=>h
 |(k,v)::r,b,h=>by let#[x,t,e,c,l]:=h;exact#[x,t,e,c.less,FS.less l]
theorem yH.less{D:AJ}(rs:yH K cl (Bx B D) C H st):yH K cl B C H st:=by
 refine#[rs.len,rs.inj,λn y e=>?_,rs.liv,λy h z=>rs.nb y h (.inl z),λy h=>rs.dom y (.inl h)];let#[o,q,r]:=rs.obj n y e;refine#[o,q,?_]
 cases o with
 |lst g=>let#[b,a,l]:=r;exact#[b,a,l.less]
 |dct t d=>cases t<;>(let#[b,a,l]:=r;exact#[b,a,l.less])
 |ins c fs=>let#[f,a,l]:=r;exact#[f,a,l.less]
 |dead=>exact r.elim
theorem yH.more{D:AJ}{u:HO}(a:H D=AD)(rs:yH K cl B C H st):yH K cl (Bx B D) C (L2.upd H D u) st:=by
 have m:AA D∉C:=λz=>by let#[w,e]:=rs.there z;rw[a]at e;cases e
 have s:Step C H C (L2.upd H D u):=.upd a;have j:=rs.upd (o:=u) a;refine#[rs.len,rs.inj,λn y e=>?_,rs.liv,λy h z=>z.elim (rs.nb y h) λq=>m (q ▸ h),λy h=>?_]
 .let#[o,q,r]:=rs.obj n y e;have f:y≠D:=λz=>m (z ▸ A1 e);have g:Bx B D D:=.inr rfl;refine#[o,q,?_]
  cases o with
  |lst E=>let#[d,b,l]:=r;exact#[d,by rw[zl f];exact b,(l.more a).skip g]
  |dct t p=>
   cases t with
   |false=>let#[d,b,l]:=r;exact#[d,by rw[zl f];exact b,(l.more a).skip g]
   |true=>let#[d,b,l]:=r;exact#[d,by rw[zl f];exact b,(l.more a).skip g]
  |ins c fs=>let#[x,#[A,b],l]:=r;exact#[x,#[A,by rw[zl f];exact b],(l.more a).skip g]
  |dead=>exact r.elim
 .rcases h with h|h
  .exact j.dom y h
  .subst h;exact#[u,zq]
theorem yP.more{D:AJ}{u:HO}(b:H D=AD)(a:yP K cl B C H Y A):yP K cl (Bx B D) C (L2.upd H D u) Y A:=#[a.len,λi v e=>by let#[x,h,q]:=a.get i v e;exact#[x,h,(q.more b).skip (.inr rfl)]]
def yZ:Tg->Hs (Option Ht)->Hy
 |.n i,a=>decide (a[i]?=AA AD)
 |.t l,a=>l.all λi=>decide (a[i]?=AA AD)
def ze3:∀(l:Hs Ht) (vs:Hs PV) (Y:IC.Env) (j:Ht),j∉l->((l.zip vs).foldl (λY p=>Y.set p.1 (AA p.2)) Y)[j]?=Y[j]?
 |[],vs,Y,j,h=>by simp
 |i::a,[],Y,j,h=>by simp
 |i::a,v::vs,Y,j,h=>by
  erw[ED,CO];rw[ze3 a vs _ j λz=>h (AT _ z),A7]
  rintro rfl
  exact h A6
def zfc:∀(l:Hs Ht) (vs:Hs PV) (Y:IC.Env),((l.zip vs).foldl (λY p=>Y.set p.1 (AA p.2)) Y).length=Y.length
 |[],vs,Y=>by simp
 |i::a,[],Y=>by simp
 |i::a,v::vs,Y=>by erw[ED,CO];rw[zfc a vs,Ay]
theorem yP.untgt{sl:Hs (Option Ht)}{c Y1:IC.Env}{v:PV}(hf:yZ ct sl=AC)(d:∀(i:Ht),sl[i]?=AA AD->c[i]?=AA AD)(a:yW ct v c=AA Y1)(b:yP K cl B C H Y1 A):yP K cl B C H c A:=by
 cases ct with
 |n i=>
  cases a
  erw[yZ,Hx]at hf;refine#[by rw[<-b.len,Ay],λj w e=>b.get j w ?_];rw[A7]
  .exact e
  .rintro rfl
   rw[d _ hf]at e;cases e
 |t l=>
  cases v with
  |tp k f=>
   erw[yW]at a;split at a
   .cases a
    erw[yZ,BA,Hx]at hf;refine#[by rw[<-b.len,zfc],λj w e=>b.get j w ?_];rw[ze3]
    .exact e
    .intro z;rw[d _ (hf j z)]at e;cases e
   .cases a
  |_=>cases a
theorem yP.inn{sl:Hs (Option Ht)}(b:yP K cl B C H Y A):yP K cl B C H (sl.map λo=>o.bind λj=>(Y[j]?).join) (L2.inn sl A):=by
 unfold L2.inn;refine#[by simp,λi v e=>?_];rw[Bs]at e ⊢
 cases q:sl[i]? with
 |none=>rw[q]at e;cases e
 |some o=>
  rw[q]at e
  cases o with
  |none=>cases e
  |some j=>
   erw[B5,Az,EV]at e ⊢
   cases a:Y[j]? with
   |none=>rw[a]at e;cases e
   |some w=>
    rw[a]at e;erw[Option.join_some]at e;subst e;let#[x,c,d]:=b.get j v a;exact#[x,by rw[c];rfl,d]
def zoX:1000000<sizeLine:=by rw[Be];decide
def znI{F:Type}{o:Option Hy}{k:Hy->R F}{z:F}{s:SO}(h:onO o k=.ok z s):∃b,o=AA b/\k b=.ok z s:=by
 cases o with
 |none=>cases h
 |some b=>exact#[b,rfl,h]
def zaz{F G:Type}{r:R F}{k:F->SO->R G}{z:G}{s:SO}(h:r.bind k=.ok z s):∃a b,r=.ok a b/\k a b=.ok z s:=by
 cases r with
 |ok a b=>exact#[a,b,rfl,h]
 |exc c s=>cases h
 |bad=>cases h
def zeY{Rel:Ph->Hp->PV->V->Prop}{r:R (Hs PV)}{Q:VK}(h:Run S X A B C H Rel (ybi r) Q):∃b a,r=.ok b a/\b.length<=1000000/\∀x c d,Step C H d c->yH X.K S.cl B d c a->Rel d c (.lst b) x->Q x c:=by
 cases r with
 |ok b a=>
  by_cases f:b.length<=1000000
  .simp only[ybi,Hz f]at h;exact#[b,a,rfl,f,h]
  .simp only[ybi,IA f]at h;exact h.elim
 |exc k s=>exact h.elim
 |bad=>exact h.elim
def zf5{call:Ht->Hs PV->SO->R PV}{l:IC.Env}{xs c:Hs PV}{i:Ht}{v:PV}{m f:SO}(r:xs[i]?=AA v)(j:yR call l ct cc ce (xs.drop i) m=.ok c f):
  ∃n k d,yW ct v l=AA n/\ya5 (ev call n m cc)=.ok k d/\((k=AB/\yR call l ct cc ce (xs.drop (i+1)) d=.ok c f) \/
   (k=AC/\∃y g a,ev call n d ce=.ok y g/\yR call l ct cc ce (xs.drop (i+1)) g=.ok a f/\c=y::a)):=by
 let#[t,e]:=A3.1 r;rw[Cu t,e,zH]at j;let#[o,u,b,j]:=zaz j;let#[a,w,p,j]:=zaz j;injection j with x z;subst x z;unfold yaC at b
 cases q:yW ct v l with
 |none=>rw[q]at b;cases b
 |some n=>
  rw[q]at b;let#[D,d,A,b]:=zaz b;let#[k,B,b]:=znI b;refine#[n,k,d,rfl,by rw[A];erw[ya5,R.bind,B,onO],?_]
  cases k with
  |false=>cases b;exact .inl #[rfl,p]
  |true=>
   let#[y,g,C,b]:=zaz b
   cases b
   exact .inr #[rfl,y,_,a,C,p,rfl]
def yb7(S:Se)(K:AF)(B:AJ->Prop)(D:AJ)(C1:Ph)(H1:Hp)(g:IC.Env)(j:Hs PV->SO->R (Hs PV))(l:Hs PV)(d:SO)(xs:Hs PV)(Ac:St)(ys:Hs V)(b:Hp):Prop:=
 ∃C2 c f a,Step C1 H1 C2 b/\b D=AA (.lst ys)/\AA D∉C2/\yH K S.cl (Bx B D) C2 b c/\yP K S.cl (Bx B D) C2 b g Ac/\yq K S.cl (Bx B D) C2 b f ys/\j xs c=.ok a d/\f++a=l
theorem stays{D:AJ}{C5:Ph}{a:Hp}{u:HO}(s:Step C H C5 a)(n:AA D∉C)(e:H D=AA u):AA D∉C5/\a D=AA u:=by
 refine#[λz=>?_,s.keep D _ n e];rcases s.new D z with q|q
 .exact n q
 .rw[e]at q;cases q
theorem yb7.skip{D:AJ}{m:Hs PV->SO->R (Hs PV)}{n:Hs PV}{c:SO}{xs:Hs PV}{C2 C5:Ph}{d g:Hp}{j Y1:IC.Env}{A4:St}{b:SO}{vs a:Hs PV}{ys:Hs V}{v:PV}(q:Step C1 H1 C2 d)(f:Step C2 d C5 g)(o:AA D∉C2)(p:d D=AA (.lst ys))
  (rs:yH K S.cl (Bx B D) C5 g b) (hf:yZ ct (sl:Hs (Option Ht))=AC) (r:∀(i:Ht),sl[i]?=AA AD->j[i]?=AA AD) (t:yW ct v j=AA Y1) (u:yP K S.cl (Bx B D) C2 d Y1 A4) (l:yq K S.cl (Bx B D) C2 d vs ys) (w:m xs b=.ok a c) (x:vs++a=n):
  yb7 S K B D C1 H1 j m n c xs A4 ys g:=#[C5,b,vs,a,q.trans f,(stays f o p).2,(stays f o p).1,rs,yP.untgt hf r t (u.step f),l.step f,w,x]
theorem yb7.put{D:AJ}{u:Hs PV->SO->R (Hs PV)}{w:Hs PV}{g:SO}{xs:Hs PV}{C2 C5:Ph}{j m:Hp}{t Y1:IC.Env}{A4:St}{d:SO}{vs a:Hs PV}{ys:Hs V}{v y:PV}{p:V}(x:H1 D=AD)(z:Step C1 H1 C2 j)(r:Step C2 j C5 m)(A:AA D∉C2)(C:j D=AA (.lst ys))
  (rs:yH K S.cl (Bx B D) C5 m d) (E:ye K S.cl (Bx B D) C5 m y p) (hf:yZ ct (sl:Hs (Option Ht))=AC) (G:∀(i:Ht),sl[i]?=AA AD->t[i]?=AA AD) (H:yW ct v t=AA Y1) (I:yP K S.cl (Bx B D) C2 j Y1 A4) (l:yq K S.cl (Bx B D) C2 j vs ys) (J:u xs d=.ok a g) (L:vs++y::a=w):
  m D=AA (.lst ys)/\yb7 S K B D C1 H1 t u w g xs A4 (ys++[p]) (L2.upd m D (.lst (ys++[p]))):=by
 let#[M,N]:=stays r A C;have f:Bx B D D:=.inr rfl;have c:=z.trans r;exact#[N,C5,d,vs++[y],a,#[λb o n q=>by rw[zl (zp q x)];exact c.keep b o n q,c.len,c.pre,c.new],zq,M,rs.skip f,(yP.untgt hf G H (I.step r)).skip f,
  ((l.step r).append (by erw[yq];exact#[p,[],rfl,E,rfl])).skip f,J,by rw[B1];exact L]
def zef{sl:Hs (Option Ht)}(i:Ht)(q:sl[i]?=AA AD):(sl.map λo=>o.bind λj=>(Y[j]?).join)[i]?=AA none:=by rw[Bs,q];rfl
def zcU{sl:Hs (Option Ht)}(hf:yZ ct sl=AC){J:It}{xs u:Hs PV}{l c:SO}{Q:Hp->Prop}(n:yH X.K S.cl B C H l)(re1:yP X.K S.cl B C H Y A)(dr:RD S X B C H xs J){D:AJ}(p:H D=AD)
  (e:yR S.call (sl.map λo=>o.bind λj=>(Y[j]?).join) ct cc ce xs l=.ok u c) (hz:u.length<=1000000) (fin:∀C2 a E,Step C H C2 a->a D=AA (.lst E)->¬B D->AA D∉C2->yH X.K S.cl (Bx B D) C2 a c->yq X.K S.cl (Bx B D) C2 a u E->Q a):
  ∃W:Ht->Ht->St->Hs V->Hp->Prop,(∃m,W 0 m (inn sl A) [] (L2.upd H D (.lst [])))/\ycq J D (tG0 S X.K ct) (tT0 S X.K cc) (tE0 S X.K ce) W Q:=by
 have nB:¬B D:=n.nB p;have nD:AA D∉C:=λz=>by let#[w,e]:=n.there z;rw[p]at e;cases e
 have r0:yP X.K S.cl (Bx B D) C (L2.upd H D (.lst [])) (sl.map λo=>o.bind λj=>(Y[j]?).join) (inn sl A):=(yP.inn re1).more p;have h0:=zef (Y:=Y) (sl:=sl);generalize (sl.map λo=>o.bind λj=>(Y[j]?).join)=O at *;refine#[λi m Ac E a=>i+m=xs.length/\yb7 S X.K B D C H O (yR S.call O ct cc ce) u c (xs.drop i) Ac E a,
  #[xs.length,by lia,C,l,[],u,.upd p,zq,nD,n.more p,r0,by erw[yq],by simpa using e,rfl],?_]
 rintro i m Ac E a ⟨hm,C2,r,vs,rest,G,d,t,f,re2,U,ec,Z⟩
 refine#[d,?_]
 by_cases hi:i<xs.length
 .have hzl:=IJ CB Z;rw[AO,U.length]at hzl;refine .inr #[dr.go i C2 a G hi,EF () zoX,λA' I H'=>yb7 S X.K B D C H O (yR S.call O ct cc ce) u c (xs.drop (i+1)) A' I H',λA' I H' q=>#[m-1,by lia,by lia,q],λx H3 hy=>?_];let#[v,hv,rv,L]:=dr.yld i C2 a r x H3 (Bx B D) (λy z=>z.elim .inl λq=>.inr (q ▸ p)) G f hi hy;have M:Step C2 a C2 H3:=#[λb o _ e=>L b o e,AS _,λ_ _ _ e=>e,λ_ h=>.inl h];let#[Y1,k,st6,eb,et,q]:=zf5 hv ec;refine#[Bx B D,C2,r,_,v,Y1,f.same L,re2.step M,rv,eb,λA4 g=>#[Bx B D,C2,r,Y1,f.same L,g,?_]];rw[et]
  rintro k' H5 C5 s5 N rfl
  rcases q with⟨rfl,e2⟩|⟨rfl,y,st7,rest',e5,e2,rfl⟩
  .exact yb7.skip (G.trans M) s5 t (L D _ d) N hf h0 eb g (U.step M) e2 Z
  .refine#[Bx B D,C5,st6,Y1,N,g.step s5,?_];rw[e5];intro y' H6 C6 s6 rs6 ry;exact yb7.put p (G.trans M) (s5.trans s6) t (L D _ d) rs6 ry hf h0 eb g (U.step M) e2 Z
 .have ei:i=xs.length:=by lia
  subst ei;rw[G7]at ec
  cases ec
  exact .inl #[dr.stop C2 a G,fin C2 a E G d nB t f (by rw[<-Z,BE];exact U)]
def zdY{sl:Hs (Option Ht)}(hf:yZ ct sl=AC){H:Hp}{Q:VK}(h:tE S X (.comp sl ct ci cc ce) A H Q):yb2 sl (tI S X ci) (tG0 S X.K ct) (tT0 S X.K cc) (tE0 S X.K ce) A H Q:=by let#[B,C,st,Y,f,d,h]:=h;rw[v_comp]at h;refine#[B,C,st,Y,f,d,(Run.bind h).mono λJ H1 g=>?_];let#[y,j,C1,l,a,m,b]:=g;refine λD n=>?_;let#[z,o,e,p,b]:=zeY b;exact zcU hf a (d.step l) m n e p λC2 q r t u nB w c x=>b (.ref D) q C2 t c.less (by erw[ye];exact#[D,r,rfl,#[u,nB,w],x.less])
def zkq{sc:BU}{NC:Hs AQ}{sl:Hs (Option Ht)}{a:Hs AX}(b:X.calm=AC)(O:yai X sc NC sl)(hf:yZ ct sl=AC)(c:PI X tg iter (tI S X ci))(d:∀j,PG (cxC X sc NC j) tg (tG0 S X.K ct))
  (f:∀j,PTs (cxC X sc NC j) a (tT0 S X.K cc)) (g:∀j,PE (cxC X sc NC j) elt (tE0 S X.K ce)) (l:∀x,foldedSetIterable iter X.env x=pure x:=by intro _;rfl):
  PE X (.ListComp elt [#[tg,iter,a,0]] sc pos) (tE S X (.comp sl ct ci cc ce)):=
 (zgg b O c d f g l).imp λA H Q h=>zdY hf h
def zk1{sc:BU}{NC:Hs AQ}{sl:Hs (Option Ht)}{b:Hs AX}{i:Ht}{x:AQ}{a:Bq}(m:X.N.Nodup)(c:X.N[i]?=AA x)(o:Loc X.env.scope x)(p:X.calm=AC)(O:yai X sc NC sl)(hf:yZ ct sl=AC)(q:PI X tg iter (tI S X ci))(r:∀j,PG (cxC X sc NC j) tg (tG0 S X.K ct))
  (t:∀j,PTs (cxC X sc NC j) b (tT0 S X.K cc)) (u:∀j,PE (cxC X sc NC j) elt (tE0 S X.K ce))
  (d:swapsWith (.ListComp elt [#[tg,iter,b,0]] sc pos) (AA (.Name x px)) a.line X.env=pure true:=by rfl) (w:∀x,foldedSetIterable iter X.env x=pure x:=by intro _;rfl)
  (f:X.fn x=AC \/ X.env.scope.names.lookup x=AA .local:=by first|exact .inl rfl|exact .inr rfl|assumption):PS X (.Assign [.Name x px] (.ListComp elt [#[tg,iter,b,0]] sc pos) a) (tS S X (.asg (.n i) (.comp sl ct ci cc ce))):=
 (zgC m c o p O q r t u d w f).imp λD A H #[B,C,st,Y,y,z,h]=>by refine zdY hf ?_;erw[ex]at h;exact tE.fl y z h λx H1 v E C1 s g l G I=>I _ H1 C1 .rfl g (l.set i G)
end
def spI(K:AF)(g:Ht->AJ)(call:Ht->Hs PV->SO->R PV)(f:Ht):Sp:=λl H Q E=>∃B A st a,yH K g B A H st/\yq K g B A H a l/\match call f a st with
 |.ok v d=>∀x b j,Step A H j b->yH K g B j b d->ye K g B j b v x->Q x b
 |.exc c d=>∀b j,Step A H j b->yH K g B j b d->E (.ref (g c)) AD b
 |.bad=>II
section
variable {S:Se}{X:Cx}{k:Ht}{f:AJ}{fd:BC}{ps ks:Hs AQ}{sp:Sp}{dvs:Hs V}{ds:Hs AG}{x:AQ}{p pos:Bq}{e:AX}{es:Hs AX}{t tk:TA}{CX:CXT}{D:St}{H:Hp}
def zdw{G:Hs (AJ×Bd)}{s:AK}{Q:VK}{us:Hs AG}{vs:Hs V}{E:XK}(F:yaW X.prog X.w X.K X.mg X.base CX k f fd ps sp)(d:yaG k X.A)(g:Binds X.K fd ps ds)(j:Vals dvs ds)
  (I:Inv X G D H s) (r:Vals vs us) (h:sp (vs++dvs) H Q E) (l:∀e b,CX X.stack H s E e b->X.xe e b):Aa (model X.prog X.w) X.A (call (.ref f) us) (EP X G D Q) X.xe s:=by
 have c:Vals (vs++dvs) (us++ds):=r.append j;have m:(us++ds).length=ps.length:=by rw[<-c.length];exact F.len _ _ _ _ h
 refine Gu (Dl (F.run X.A X.stack s H #[us,[]] (us++ds) (vs++dvs) Q E d I.env0 (g s us I.kIn m) c h) λr b a=>?_)
 cases r with
 |error e=>exact l e b a
 |ok fl=>
  cases fl with
  |ret u=>exact I.after a
  |next=>exact BY a
  |brk=>exact BY a
  |cont=>exact BY a
def ycH(CX:CXT)(X:Cx)(sp:Sp)(dvs:Hs V)(t:TA):TE:=λD H Q=>t D H λc a=>∃E:XK,sp (c++dvs) a Q E/\∀G s e b,Inv X G D a s->CX X.stack a s E e b->X.xe e b
def ziT(F:yaW X.prog X.w X.K X.mg X.base CX k f fd ps sp)(g:yaG k X.A)(j:Gl X x)(l:X.mg x=AA (.ref f))(m:Ax X.K (.ref f)=AC)(n:Binds X.K fd ps ds)(o:Vals dvs ds)
  (u:PA X (e::es) t) (a:(x==("__debug__":AQ))=false:=by decide) (w:starEach (e::es) X.env=(AB,eval e X.env)::starEach es X.env:=by rfl) (b:(backTo pos (starEach es X.env)).any (·.1)=false:=by rfl):
  PE X (.Call (.Name x p) (e::es) [] pos) (ycH CX X sp dvs t):=by intro G s D H Q I h;refine B6 (zbx I j l ?_ a);refine Dx (h₀:=X.base) I.ok.mod.kin m (thn (u pos G s D H _ I h) λC y z=>?_) w b;let#[J,L,d,r,E,q,A]:=z;refine #[d.kIn,?_];exact zdw F g n o d r q λe B c=>A G y e B d c
def zhY(F:yaW X.prog X.w X.K X.mg X.base CX k f fd ps sp)(b:yaG k X.A)(d:Gl X x)(g:X.mg x=AA (.ref f))(j:Ax X.K (.ref f)=AC)(l:Binds X.K fd ps ds)(m:Vals dvs ds)
  (a:(x==("__debug__":AQ))=false:=by decide):PE X (.Call (.Name x p) [] [] pos) (ycH CX X sp dvs ydO):=by intro G s D H Q I h;let#[E,q,n]:=h;refine B6 (zbx I d g ?_ a);exact Fa I.kIn j (zdw F b l m I .nil q λe o c=>n G s e o I c)
variable {B:AJ->Prop}{C:Ph}{st:SO}{ces:Ces}{fi:Ht}
def zbP{vs:Hs PV}{xs:Hs V}{Q:VK}(rs:yH X.K S.cl B C H st)(l:yq X.K S.cl B C H vs xs)(h:Run S X D B C H (RV S X B) (S.call fi vs st) Q):
  ∃E:XK,spI X.K S.cl S.call fi xs H Q E/\∀G s e a,Inv X G D H s->CX1 X.prog X.w X.stack H s E e a->X.xe e a:=by
 cases c:S.call fi vs st with
 |ok v b=>
  rw[c]at h;refine#[λ_ _ _=>II,#[B,C,st,vs,rs,l,by rw[c];exact h],λG s e a _ z=>?_];let#[_,_,_,_,_,_,_,_,_,_,_,_,_,_,z]:=z;exact z.elim
 |exc k b=>
  rw[c]at h;refine#[λcls _ f=>cls=.ref (S.cl k)/\∃d,Step C H d f/\yH X.K S.cl B d f b,#[B,C,st,vs,rs,l,by rw[c];exact λf d s r=>#[rfl,d,s,r]],λG s e a I z=>h e a (.inl #[G,H,s,C,I,.rfl,z])]
 |bad=>rw[c]at h;exact h.elim
def zkC(F:yaW X.prog X.w X.K X.mg X.base (CX1 X.prog X.w) k f fd ps (spI X.K S.cl S.call fi))(d:yaG k X.A)(g:Gl X x)(j:X.mg x=AA (.ref f))(l:Ax X.K (.ref f)=AC)(m:Binds X.K fd ps [])
  (n:PA X (e::es) (tAs S X ces)) (a:(x==("__debug__":AQ))=false:=by decide) (o:starEach (e::es) X.env=(AB,eval e X.env)::starEach es X.env:=by rfl) (b:(backTo pos (starEach es X.env)).any (·.1)=false:=by rfl):
  PE X (.Call (.Name x p) (e::es) [] pos) (tE S X (.call fi ces)):=
 (ziT F d g j l m .nil n a o b).imp λD H Q #[B,C,st,Y,q,r,h]=>by erw[ev]at h;refine tAs.bind q r h λz A E t C1 G c u w y=>?_;rw[BE];exact zbP c w y
def zjc(F:yaW X.prog X.w X.K X.mg X.base (CX1 X.prog X.w) k f fd ps (spI X.K S.cl S.call fi))(b:yaG k X.A)(c:Gl X x)(d:X.mg x=AA (.ref f))(g:Ax X.K (.ref f)=AC)(j:Binds X.K fd ps [])
  (a:(x==("__debug__":AQ))=false:=by decide):PE X (.Call (.Name x p) [] [] pos) (tE S X (.call fi .nil)):=
 (zhY F b c d g j .nil a).imp λD H Q #[B,C,st,Y,l,m,h]=>by erw[ev,IC.vsq0,IC.vsq1,R.bind]at h;exact zbP l (by erw[yq];rfl) h
end
section
variable {P:Ae}{w:Aq}{K:AF}{mg:AQ->Option AG}{base:BB}{cl:Ht->AJ}{T:Ht->Option IC.Fn}{fi:Ht}{fn:IC.Fn}{x qual:AQ}{stm:Bf}{f:AJ}{fd:BC}{N ps:Hs AQ}{k:Ht}
theorem CX1.mono{outer:Hs BJ}{H:Hp}{s:AK}{E d:XK}{e:AG}{s':AK}(h:CX1 P w outer H s E e s')(n:∀cls b,E cls AD b->d cls AD b):CX1 P w outer H s d e s':=by let#[a,cls,f,b,g,j,l,m,o,p,q,r,t,r9,c]:=h;exact#[a,cls,f,b,g,j,l,m,o,p,q,r,t,r9,n _ _ c]
theorem yP.start{B:AJ->Prop}{C:Ph}{H:Hp}{args:Hs PV}{vs:Hs V}(l:yq K cl B C H args vs)(n:Ht)(a:N.length-vs.length=n):yP K cl B C H (args.map AA++AL n AD) (L2.start N vs):=by
 have b:=l.length;unfold L2.start;refine#[by simp[b,a],λi v e=>?_]
 by_cases c:i<args.length
 .rw[AY (by simpa using c),Bs]at e
  cases q:args[i]? with
  |none=>rw[q]at e;cases e
  |some g=>
   rw[q]at e
   cases e
   let#[y,d,f]:=l.get i q;exact#[y,by rw[AY (by simp;lia),Bs,d];rfl,f]
 .rw[Ag (by simp;lia),Ec]at e;split at e<;>cases e
theorem leave{N:Hs AQ}{a:BU}{u:AG}{A:Ar}{outer:Hs BJ}{b:AK}{d:Hp}{E:XK}{call:Ht->Hs PV->SO->R PV}{D:St}{B:AJ->Prop}{C:Ph}{H:Hp}{c:Ht}{l:SO}{e:AG}{s':AK}
  (h:ExcAt #[cl,call,AC] (yaY (CX1 P w) P w K mg base N qual a f u A outer b d E) D B C H c l e s') (n:∀j g,Step C H j g->yH K cl B j g l->E (.ref (cl c)) AD g):
  (yaY (CX1 P w) P w K mg base N qual a f u A outer b d E).xe e s':=by
 rcases h with⟨F,m,s,C1,I,o,q⟩|⟨_,F,m,s,C1,z,G,J,I,o,x,y,rfl,rfl⟩|⟨_,F,m,s,I,q⟩
 .exact zpj F D m s e s' I (q.mono λcls g #[p,j,t,r]=>by subst p;exact n j g (o.trans t) r)
 .exact zhv I y (n C1 m o x)
 .exact zpl I (q.mono λcls g #[p,j,t,r]=>by subst p;exact n j g t r)
def zgx(b:T fi=AA fn):∀(args:Hs PV) (st:SO),yc T (k+1) fi args st ≠ .bad->args.length=fn.np:=λargs st a=>by apply Classical.byContradiction;intro c;apply a;rw[yc,b];exact IA c
def zjS(c:T fi=AA fn)(b:ps.length=fn.np){vs:Hs V}{H:Hp}{Q:VK}{E:XK}(h:spI K cl (yc T (k+1)) fi vs H Q E):vs.length=ps.length:=by let#[B,C,st,a,d,l,h]:=h;rw[b,<-l.length];refine zgx (k:=k) c a st λz=>?_;rw[z]at h;exact h
def zkp(Z:T fi=AA fn)(hns:N.length=fn.ns){t:BU}{cdv:AG}{A:Ar}{outer:Hs BJ}{s:AK}{vs:Hs V}{H:Hp}{Q:VK}{E:XK}(h:spI K cl (yc T (k+1)) fi vs H Q E):
  tSs #[cl,yc T k,AC] (yaY (CX1 P w) P w K mg base N qual t f cdv A outer s H E) fn.body {nx:=λ_ j=>Q .non j,rt:=Q} (L2.start N vs) H:=by
 let#[B,C,st,d,D,l,h]:=h;have hl:d.length=fn.np:=zgx (k:=k) Z d st λz=>by rw[z]at h;exact h
 have hlen:=l.length;rw[yc,Z]at h;dsimp only at h;rw[Hz hl]at h
 by_cases hp:fn.pure=AC
 .rw[Hz hp]at h
  by_cases I:nLs d=AC
  .rw[Hz I]at h;have J:yH K cl (λa=>B a \/ AA a∈C) [] H []:=#[rfl,λm n a e=>by simp at e,λn a e=>by simp at e,λn o e=>by simp at e,λa z=>by simp at z,λa z=>z.elim (D.dom a) D.there];have back:∀{r:Ph} {j:Hp},Step [] H r j->Step C H C j/\yH K cl B C j st:=λ{r j} p=>
    have kk:∀b o,H b=AA o->j b=AA o:=λb o e=>p.keep b o (by simp) e
    #[#[λb o _ e=>kk b o e,AS _,λ_ _ _ e=>e,λ_ h=>.inl h],D.same kk]
   refine#[_,[],[],_,J,yP.start (yq.inn D.nb d vs I l) (fn.ns-fn.np) (),?_];show yau _ _ _ _ _ (exs (yc T k) (d.map AA++AL (fn.ns-fn.np) AD) [] fn.body) _
   cases e:exs (yc T k) (d.map AA++AL (fn.ns-fn.np) AD) [] fn.body with
   |nx u g=>
    rw[e]at h;intro L j r p q M;let#[x,G]:=back p;exact h .non j C x G (by erw[ye])
   |rt v g=>
    rw[e]at h;dsimp only at h
    by_cases O:nL v=AC
    .rw[Hz O]at h;intro y j r p q U;let#[x,G]:=back p;exact h y j C x G (ye.out v y O U)
    .rw[IA O]at h;exact h.elim
   |exc c u g=>
    rw[e]at h;intro L C1 H1 ev p X _ ex;refine leave ex λC2 Y x _=>?_;let#[s3,r3]:=back (X.trans x);exact h Y C s3 r3
   |bk u g=>rw[e]at h;exact h.elim
   |ct u g=>rw[e]at h;exact h.elim
   |bad=>rw[e]at h;exact h.elim
  .rw[IA I]at h;exact h.elim
 .rw[IA hp]at h;refine#[B,C,st,_,D,yP.start l (fn.ns-fn.np) (),?_];show yau _ _ _ _ _ (exs (yc T k) (d.map AA++AL (fn.ns-fn.np) AD) st fn.body) _
  cases e:exs (yc T k) (d.map AA++AL (fn.ns-fn.np) AD) st fn.body with
  |nx u g=>
   rw[e]at h;intro L j r p q M;exact h .non j r p q (by erw[ye])
  |rt v g=>
   rw[e]at h;intro y j r p q U;exact h y j r p q U
  |exc c u g=>
   rw[e]at h;intro L C1 H1 ev p X _ ex;exact leave ex λC2 Y x G=>h Y C2 (X.trans x) G
  |bk u g=>rw[e]at h;exact h.elim
  |ct u g=>rw[e]at h;exact h.elim
  |bad=>rw[e]at h;exact h.elim
end
def tyN:Ty->IM
 |.int=>"int" | .bool=>"bool" | .str=>"str" | .tuple=>"tuple" | .list=>"list" | _=>""
structure ye6(K:AF)(t:Ty):Prop where
 n:BL K (.type "NoneType") (.type (tyN t))=AA (yF .non t)
 b:BL K (.type "bool") (.type (tyN t))=AA (yF (.bl AC) t)
 i:BL K (.type "int") (.type (tyN t))=AA (yF (.int 0) t)
 s:BL K (.type "str") (.type (tyN t))=AA (yF (.str G2) t)
 p:BL K (.type "tuple") (.type (tyN t))=AA (yF (.tp AC []) t)
 l:BL K (.type "list") (.type (tyN t))=AA (yF (.lst []) t)
section
variable {S:Se}{X:Cx}{A:St}{B:AJ->Prop}{C:Ph}{H:Hp}{st:SO}{p pos p2 px:Bq}{a b c d o:AX}{ca cb cc:Ce}{t:Ty}
def ygM(S:Se)(X:Cx)(t:Ty):Hs V->Hp->VK->Prop:=λd H Q=>∃B C st v x z,d=[x,.ty (tyN t)]/\yH X.K S.cl B C H st/\ye X.K S.cl B C H v x/\yG v [t]=AA z/\yK t=AC /\
 ∀c a b,Step C H b a->yH X.K S.cl B b a st->ye X.K S.cl B b a z c->Q c a
def znd(Z:ye6 X.K t):yaf X (.builtin "isinstance") (ygM S X t):=by
 rintro E s A H O U Q I r ⟨B,C,st,v,x,z,rfl,w,d,e,f,q⟩
 let#[u,D,rfl,j,G]:=vals2 r
 cases (show D=Dq (tyN t)from G)
 have b:∀(k:Hy) (a:Ht),z=.bl k->EP X E A Q (.bool k) {s with toks:=a}:=λk a J=>#[.bl k,H,I.tok a,rfl,q _ H C .rfl w (by subst J;erw[ye])]
 cases v with
 |non=>
  erw[ye]at d;subst d
  cases (show u=Bv from j)
  erw[yG,f,ID]at e;exact CS PySem.W.kitx_none I.kIn CD Z.n (λz=>nomatch z) λa=>b _ a (by cases e;cases t<;>rfl)
 |bl k=>
  erw[ye]at d;subst d
  cases (show u=Dp k from j)
  erw[yG,f,ID]at e;exact CS PySem.W.kitx_bool I.kIn CD Z.b (λz=>nomatch z) λa=>b _ a (by cases e;cases t<;>rfl)
 |int k=>
  erw[ye]at d;subst d;let#[a,rfl]:=j;erw[yG,f,ID]at e;exact CS PySem.W.kitx_int I.kIn CD Z.i (λz=>nomatch z) λa=>b _ a (by cases e;cases t<;>rfl)
 |str k=>
  erw[ye]at d;subst d;let#[a,rfl]:=j;erw[yG,f,ID]at e;exact CS PySem.W.kitx_str I.kIn CD Z.s (λz=>nomatch z) λa=>b _ a (by cases e;cases t<;>rfl)
 |tp k L=>
  erw[ye]at d;let#[y,p,rfl,m,l]:=d
  cases (show u=Ak y from j)
  erw[yG,f,ID]at e;let#[M,_,#[o,g,c,_,_],_]:=I.tuple m.sq;exact CS PySem.W.kitx_tuple I.kIn #[o,g,c] Z.p (λz=>nomatch z) λa=>b _ a (by cases e;cases t<;>rfl)
 |lst L=>
  erw[ye]at d;let#[y,p,rfl,m,l]:=d
  cases (show u=Ak y from j)
  erw[yG,f,ID]at e;let#[_,_,n,_,N]:=(show yaa X.prog X.w H s.heap y (.lst p)from I.hok y _ m.1);exact CS PySem.W.kitx_list I.kIn #[_,N,rfl] Z.l (λz=>nomatch z) λa=>b _ a (by cases e;cases t<;>rfl)
 |loc n=>cases e
 |scr n=>cases e
 |fnc n=>cases e
 |exn n=>erw[yG,An,CU,f,BM,ID]at e;cases e
def znp{T:AQ}(Z:ye6 X.K t)(n:yK t=AC)(o:Gl X "isinstance")(r:X.mg "isinstance"=AD)(c:Gl X T)(d:X.mg T=AD)(u:bootBuiltins T=AA (.type (tyN t)))(w:PE X a (tE S X ca))(f:T ≠ "__name__":=by decide)(g:(T==("__debug__":AQ))=false:=by decide)
  (m:starEach [a,.Name T p2] X.env=(AB,eval a X.env)::starEach [.Name T p2] X.env:=by rfl) (j:(backTo pos (starEach [.Name T p2] X.env)).any (·.1)=false:=by rfl):
  PE X (.Call (.Name "isinstance" p) [a,.Name T p2] [] pos) (tE S X (.isi ca [t])):=
 (zcj (znd Z) o r C9 (zan w (zan (zgM (v:=.ty (tyN t)) c d u rfl f g) zoB) m) ⋯ ⋯ m j).imp λA H Q #[B,C,st,Y,y,D,h]=>by erw[ev]at h;refine tE.bind y D h λx J v l C1 L b E G I=>?_;let#[z,e,q]:=zaa I b;exact#[B,C1,l,v,x,z,rfl,b,G,e,n,q]
def zfi{b:SO}{x y v:PV}(h:yaE st x y v=AA b):∃n a k j,x=.loc n/\st[n]?=AA (.lst a)/\y=.int k/\ixI a.length k=AA j/\b=st.set n (.lst (a.set j v)):=by
 cases x with
 |loc n=>
  erw[yaE]at h
  cases q:st[n]? with
  |none=>rw[q]at h;cases h
  |some o=>
   rw[q]at h
   cases o with
   |lst a=>
    cases y with
    |int k=>
     dsimp only at h
     cases c:ixI a.length k with
     |none=>rw[c]at h;cases h
     |some j=>rw[c]at h;exact#[n,a,k,j,rfl,q,rfl,c,(Ac h).symm]
    |_=>cases h
   |_=>cases h
 |_=>cases h
theorem yq.put{K:AF}{a:Ht->AJ}:∀{vs:Hs PV} {xs:Hs V} (j:Ht) {v:PV} {x:V},yq K a B C H vs xs->ye K a B C H v x->yq K a B C H (vs.set j v) (xs.set j x)
 |[],xs,j,v,x,l,r=>by erw[yq]at l;subst l;simp[yq]
 |w::vs,xs,0,v,x,l,r=>by erw[yq]at l;let#[y,b,rfl,_,l]:=l;erw[Bk,yq];exact#[x,b,rfl,r,l]
 |w::vs,xs,j+1,v,x,l,r=>by erw[yq]at l;let#[y,b,rfl,c,l]:=l;erw[Bl,yq];exact#[y,b.set j x,rfl,c,yq.put j l r]
def zlS(J:PE X a (tE S X ca))(ho:PE X b (tE S X cb))(hi:PE X c (tE S X cc))(L:swapsWithSole [.Subscript b c px] a pos.line X.env=pure false:=by rfl)(M:swappedStores [.Subscript b c px] a X.env=pure none:=by rfl)
  (N:PG X (.Subscript b c px) (yem (tE S X cb) (tE S X cc) yb6):=by exact ze7 ‹_› ‹_› zce):PS X (.Assign [.Subscript b c px] a pos) (tS S X (.six cb cc ca)):=
 (zh6 J N L M).imp λD A H #[B,C,st,Y,O,Q,h]=>by
  erw[ex]at h;refine tE.fl O Q h λU H1 v Z C1 s1 g m rv h1=>tE.fl g m h1 λx' H2 x st2 C2 s2 o p rx h2=>tE.fl o p h2 λy' u y q C3 w d r z f=>?_
  cases e:yaE q x y v with
  |none=>rw[e]at f;exact f.elim
  |some st4=>
   rw[e]at f;let#[n,xs,k,j,rfl,hn,rfl,hj,rfl]:=zfi e;erw[ye]at z;subst z;let#[l,E,rfl,G,hx,I]:=d.list (rx.step w) hn;refine#[l,E,k,j,rfl,rfl,hx,by rw[<-I.length];exact hj,?_];have t:Step C3 u C3 (L2.upd u l (.lst (E.set j U))):=.put (A1 G);exact f A _ C3 t (d.put G #[_,zq,(I.put j ((rv.step s2).step w)).step t]) (r.step t)
end
section
variable {S:Se}{X:Cx}{C:St}{B:AJ->Prop}{A:Ph}{H:Hp}{st:SO}{p pos p2 px py pt pt2 apos:Bq}{a b c d o:AX}{ca cb cc:Ce}{kt k2:Ht}
def znF{i j:Ht}{x y:AQ}(G:X.calm=AC)(I:X.N.Nodup)(J:X.N[i]?=AA x)(L:X.N[j]?=AA y)(g:i≠j)(h:PS X (.Assign [.Tuple [.Name x px,.Name y py] kt pt] (.Tuple [a,b] k2 pt2) pos) (yf0 i j (tAs S X (.cons ca (.cons cb .nil))))):
  PS X (.Assign [.Tuple [.Name x px,.Name y py] kt pt] (.Tuple [a,b] k2 pt2) pos) (tS S X (.asg (.t [i,j]) (.tup (.cons ca (.cons cb .nil))))):=
 h.imp λD C H #[B,A,st,Y,m,c,h]=>by
  erw[ex,ev]at h;refine#[B,A,st,Y,m,c,?_]
  cases e:evs S.call Y st (.cons ca (.cons cb .nil))with
  |bad=>rw[e]at h;exact h
  |exc k d=>rw[e]at h;exact λe n x=>h C A H e n .rfl c x
  |ok o d=>
   rw[e]at h;intro M p q s f l;erw[R.bind]at h;split at h
   .rcases o with _|⟨v,_|⟨w,_|⟨u,t⟩⟩⟩
    .exact h.elim
    .exact h.elim
    .let#[r,z,rfl,E,rw]:=l.two;refine#[r,z,rfl,?_];exact h _ p q s f (((c.step s).set i E).set j rw)
    .exact h.elim
   .exact h.elim
def zkN{a:BOp}{v w z:PV}(h:ybM a v w=AA z):∃i j,v=.int i/\w=.int j/\IC.binI a i j=AA z:=by
 unfold ybM at h;split at h
 .exact#[_,_,rfl,rfl,h]
 .cases h
def zkJ:PIp X .Add (rT2 S X (ybM .add)):=by
 rintro E s C H x y v u Q I f g ⟨B,A,st,a,b,z,l,c,d,e,q⟩
 let#[i,j,rfl,rfl,e]:=zkN e
 cases e
 erw[ye]at c d;subst c d;exact zlV E s C H _ _ v u Q I f g #[i,j,rfl,rfl,q _ H A .rfl l (by erw[ye])]
end
end L2
namespace WK
open PySem L2 IC
def GC(K:AF)(a:AQ->Option AG)(b:Ht->AJ)(x:AQ)(v:PV):Prop:=∃(y:V) (u:AG),a x=AA u/\RelV y u/\∀B A H,ye K b B A H v y
def zn1{S:Se}{X:Cx}{x:AQ}{v:PV}{pos:Bq}(a:Gl X x)(h:GC X.K X.mg S.cl x v)(b:(x==("__debug__":AQ))=false:=by decide):PE X (.Name x pos) (tE S X (.cst v)):=by
 let#[y,u,c,d,f]:=h;exact(zcB a c d b).imp λC H Q #[B,A,st,Y,g,j,h]=>by erw[ev]at h;exact h.ok g (f B A H)
def zjN:bootBuiltins "int"=AA (.type "int"):=by decide +kernel
def zkc:bootBuiltins "bool"=AA (.type "bool"):=by decide +kernel
def znh:bootBuiltins "str"=AA (.type "str"):=by decide +kernel
def ze6:bootBuiltins "tuple"=AA (.type "tuple"):=by decide +kernel
def zgK:bootBuiltins "list"=AA (.type "list"):=by decide +kernel
def zmK:bootBuiltins "len"=AA (.builtin "len"):=by decide +kernel
def znj:bootBuiltins "abs"=AA (.builtin "abs"):=by decide +kernel
def zme:bootBuiltins "min"=AA (.builtin "min"):=by decide +kernel
def zmU:bootBuiltins "max"=AA (.builtin "max"):=by decide +kernel
def zmM:bootBuiltins "all"=AA (.builtin "all"):=by decide +kernel
def zng:bootBuiltins "sum"=AA (.builtin "sum"):=by decide +kernel
end WK
namespace L2
open PySem PySem.Spec PyProof.Rows IC
def shC:Sum Ce Hw->Option Hw
 |.inl _=>AD
 |.inr i=>AA i
def yba:Hs (Option Hw)->Hs V->Hs V
 |[],_=>[]
 |some i::r,a=>.int i::yba r a
 |none::r,z::a=>z::yba r a
 |none::_,[]=>[]
def pick:Hs (Option Hw)->Hs V->Hs V
 |none::r,v::a=>v::pick r a
 |some _::r,_::a=>pick r a
 |_,_=>[]
def nKw:Hs (Option Hw)->Ht
 |[]=>0
 |none::r=>nKw r+1
 |some _::r=>nKw r
def ycn:Ces->Ht
 |.nil=>0
 |.cons _ r=>ycn r+1
def gK(c:Ht)(a:Hs (Option Hw))(vs b:Hs V):Hs V:=if vs.length=c/\b.length=nKw a then vs++yba a b else []
def zhw{call:Ht->Hs PV->SO->R PV}{Y:IC.Env}:∀(a:Ces) {st b:SO} {vs:Hs PV},evs call Y st a=.ok vs b->vs.length=ycn a
 |.nil,st,b,vs,h=>by erw[IC.vsq0,IC.vsq1]at h;cases h;rfl
 |.cons e r,st,b,vs,h=>by
  erw[IC.vsq0,IC.vsq1]at h
  cases q:ev call Y st e with
  |ok v f=>
   rw[q]at h;erw[R.bind]at h
   cases d:evs call Y f r with
   |ok g j=>
    rw[d]at h
    cases h
    simp[ycn,zhw r d]
   |exc c s=>rw[d]at h;cases h
   |bad=>rw[d]at h;cases h
  |exc c s=>rw[q]at h;cases h
  |bad=>rw[q]at h;cases h
def zgh{call:Ht->Hs PV->SO->R PV}{Y:IC.Env}:∀(a b:Ces) (st:SO),evs call Y st (ycU a b)=(evs call Y st a).bind λg d=>(evs call Y d b).bind λj f=>.ok (g++j) f
 |.nil,b,st=>by
  erw[ycU,IC.vsq0,IC.vsq1,R.bind,BG]
  cases evs call Y st b<;>rfl
 |.cons e r,b,st=>by
  erw[ycU,IC.vsq0,IC.vsq1]
  cases ev call Y st e with
  |ok v d=>
   erw[R.bind];rw[zgh r b d]
   cases evs call Y d r with
   |ok g f=>
    erw[R.bind]
    cases evs call Y f b<;>rfl
   |exc c s=>rfl
   |bad=>rfl
  |exc c s=>rfl
  |bad=>rfl
section
variable {S:Se}{X:Cx}{k:Ht}{f:AJ}{fd:BC}{ps ks:Hs AQ}{sp:Sp}{x:AQ}{p pos kpos:Bq}{e:AX}{es:Hs AX}{kws:Hs Br}{nm:Option AQ}{t tk:TA}{CX:CXT}{ca:Ce}{ces:Ces}{items:Hs (Sum Ce Hw)}{g:Hs AG->Hs AG->Hs AG}{gV:Hs V->Hs V->Hs V}
def zb1{K:AF}{j:Ht->AJ}{B:AJ->Prop}{C:Ph}{H:Hp}{call:Ht->Hs PV->SO->R PV}{Y:IC.Env}:∀(items:Hs (Sum Ce Hw)) {st a:SO} {vs:Hs PV} {xs:Hs V},evs call Y st (yaA items)=.ok vs a->yq K j B C H vs xs->yba (items.map shC) (pick (items.map shC) xs)=xs/\(pick (items.map shC) xs).length=nKw (items.map shC)
 |[],st,a,vs,xs,h,l=>by
  erw[yaA,IC.vsq0,IC.vsq1]at h
  cases h
  erw[yq]at l;subst l;exact#[rfl,rfl]
 |.inl c::r,st,a,vs,xs,h,l=>by
  erw[yaA,IC.vsq0,IC.vsq1]at h;let#[v,m,g,h]:=zaz h;let#[n,o,b,h]:=zaz h
  cases h
  erw[yq]at l;let#[y,p,rfl,_,l]:=l;let#[d,f]:=zb1 r b l;erw[AW,shC,pick,yba,nKw,AV,d,f];exact#[trivial,trivial]
 |.inr i::r,st,a,vs,xs,h,l=>by
  erw[yaA,IC.vsq0,IC.vsq1,ev]at h;let#[v,m,g,h]:=zaz h;let#[n,o,b,h]:=zaz h
  cases h
  cases g
  erw[yq,ye]at l;let#[y,p,rfl,rfl,l]:=l;let#[d,f]:=zb1 r b l;erw[AW,shC,pick,yba,nKw,d,f];exact#[trivial,trivial]
def tK(S:Se)(X:Cx)(items:Hs (Sum Ce Hw)):TA:=λD H Q=>∃B C st Y,yH X.K S.cl B C H st/\yP X.K S.cl B C H Y D/\Run S X D B C H (RL S X B) (evs S.call Y st (yaA items)) λa b=>Q (pick (items.map shC) a) b
theorem PK.imp{t t':TA}(h:PK X kws t')(k:∀D H Q,t D H Q->t' D H Q):PK X kws t:=λpos G s D H Q I q=>h pos G s D H Q I (k D H Q q)
def zmy:PK X [] (tK S X []):=zpf.imp λD H Q #[B,C,st,Y,a,b,h]=>by erw[yaA,IC.vsq0,IC.vsq1]at h;exact h.ok a (x:=[]) (by erw[yq])
def zn9{i:Hw}(h:PK X kws (tK S X items)):PK X kws (tK S X (.inr i::items)):=h.imp λD H Q #[B,C,st,Y,b,d,h]=>by
 erw[yaA,IC.vsq0,IC.vsq1,ev,R.bind]at h;refine#[B,C,st,Y,b,d,?_]
 cases e:evs S.call Y st (yaA items)with
 |ok n f=>
  rw[e]at h;intro g j m s a l;exact h (.int i::g) j m s a (by erw[yq,ye];exact#[_,_,rfl,rfl,l])
 |exc c s=>rw[e]at h;exact h
 |bad=>rw[e]at h;exact h
def zoq(g:PE X e (tE S X ca))(h:PK X kws (tK S X items)):PK X (#[nm,e,kpos] :: kws) (tK S X (.inl ca::items)):=(zlH g h).imp λD H Q #[B,C,st,Y,j,m,h]=>by erw[yaA,IC.vsq0,IC.vsq1]at h;refine tE.bind j m h λx u v a C1 w b c n o=>#[B,C1,a,Y,b,c,?_];refine(Run.bind (Rel:=RL S X B) o).mono λf y p=>?_;let#[z,q,C2,r,d,l,t]:=p;exact t.ok d (x:=x::f) (by erw[yq];exact#[x,f,rfl,n.step r,l])
def ziC{o:Ht}(F:yaW X.prog X.w X.K X.mg X.base (CX1 X.prog X.w) k f fd ps (spI X.K S.cl S.call o))(hr:yaG k X.A)(hg:Gl X x)(hm:X.mg x=AA (.ref f))(hk:Ax X.K (.ref f)=AC){l:Ht}(M:∃g,ybZ X.K fd ps ks g (gK l (items.map shC)))(Z:ycn ces=l)
  (ha:PA X (e::es) (tAs S X ces)) (hkw:PK X kws (tK S X items)) (t:(backToKw pos (keywordEach kws X.env)).all (·.1.isSome)=true:=by rfl) (hks:(backToKw pos (keywordEach kws X.env)).filterMap (·.1)=ks:=by rfl)
  (hdb:(x==("__debug__":AQ))=false:=by decide) (he:starEach (e::es) X.env=(AB,eval e X.env)::starEach es X.env:=by rfl)
  (hpl:((backTo pos (starEach (e::es) X.env)).any (·.1) || (backToKw pos (keywordEach kws X.env)).any (·.1.isNone))=false:=by rfl):
  PE X (.Call (.Name x p) (e::es) kws pos) (tE S X (.call o (ycU ces (yaA items)))):=by
 intro G s D H Q I #[B,C,st,Y,rs,re,h];erw[ev]at h;rw[zgh,R.bind_assoc]at h;refine B6 (zbx I hg hm ?_ hdb);have h0:tAs S X ces D H λd w=>tK S X items D w λzs m=>∃E:XK,spI X.K S.cl S.call o (gK l (items.map shC) d zs) m Q E/\∀G s e N,Inv X G D m s->CX1 X.prog X.w X.stack m s E e N->X.xe e N:=by
  have y:∀d z,evs S.call Y st ces=.ok d z->d.length=l:=λd z q=>(zhw ces q).trans Z;refine#[B,C,st,Y,rs,re,?_]
  cases q:evs S.call Y st ces with
  |exc c s=>rw[q]at h;exact h
  |bad=>rw[q]at h;exact h
  |ok d b=>
  rw[q]at h;intro xs w C1 O rs1 rv;have j:=Run.on O h;have re1:=re.step O;have hv:=y d b q;refine#[B,C1,b,Y,rs1,re1,?_];have j:Run S X D B C1 w (RV S X B) (((evs S.call Y b (yaA items)).bind λa st=>(R.ok (d++a) st:R (Hs PV))).bind λd b=>S.call o d b) Q:=j;rw[R.bind_assoc]at j
  cases e:evs S.call Y b (yaA items)with
  |ok A st2=>
   rw[e]at j;intro ys m C2 n rs2 l2;let#[m1,m2]:=zb1 items e l2;have eg:gK l (items.map shC) xs (pick (items.map shC) ys)=xs++ys:=by unfold gK;rw[Hz #[by rw[<-rv.length];exact hv,m2],m1]
   show ∃E:XK,spI X.K S.cl S.call o (gK l (items.map shC) xs (pick (items.map shC) ys)) m Q E/\_;rw[eg];exact zbP rs2 ((rv.step n).append l2) (Run.on n j)
  |exc c s=>rw[e]at j;exact j
  |bad=>rw[e]at j;exact j
 refine PySem.W.callWith_KW (h₀:=X.base) I.ok.mod.kin hk t (thn (ha pos G s D H _ I h0) λU O kq=>?_) hpl he;let#[d,w,I1,r,q]:=kq;refine thn (hkw pos G O D w _ I1 q) λA n kq=>?_;let#[zs,m,J,rz,E,q2,hx]:=kq;refine #[J.kIn,?_];rw[hks];let#[g,M]:=M;have r2:=M.rel r rz;have hl:(g U A).length=ps.length:=by rw[<-r2.length];exact F.len _ _ _ _ q2
 refine Gu (Dl (F.run X.A X.stack n m #[U,ks.zip A] (g U A) (gK l (items.map shC) d zs) Q E hr J.env0 (M.to n U A J.kIn hl) r2 q2) λr N L=>?_)
 cases r with
 |error e=>exact hx G n e N J L
 |ok fl=>
  cases fl with
  |ret u=>exact J.after L
  |next=>exact BY L
  |brk=>exact BY L
  |cont=>exact BY L
end
structure FnD(K:AF)(mg:AQ->Option AG)(x:AQ)(st:Bf)(ps:Hs AQ)(ds:Hs Hw)(f:AJ)(fd:BC):Prop where
 ex:∃(oc:AG) (od:Option AJ) (dT:AJ) (kV doc pm:AG) (an:Option AJ) (cdv ct:AG) (osl:IH (Option AG)) (o:Bd) (its:IH AG) (n:Ht),
  fd=Bb x x (yaq st) (yad st) (yC st) (.ref dT) kV doc pm an cdv ct/\K.lookup f=AA #[oc,od,.func fd,osl]/\CF K cdv x=AC/\K.lookup dT=AA o/\o.data=.seq its n/\Vals (ds.map V.int) its.toList
 kp:Ax K (.ref f)=AC
 m:mg x=AA (.ref f)
section
variable {P:Ae}{w:Aq}{K:AF}{mg:AQ->Option AG}{base:BB}{cl:Ht->AJ}{T:Ht->Option IC.Fn}{fi:Ht}{fn:IC.Fn}{x:AQ}{stm:Bf}{f:AJ}{fd:BC}{N ps:Hs AQ}{ds:Hs Hw}{k:Ht}
end
def zdA(a b:Key):peq (yaL a) (yaL b)=decide (a=b):=by
 rw[DE]
 cases a with
 |inl i=>cases b with
  |inl j=>show (i==j)=AC ↔ _;simp
  |inr y=>show AB=AC ↔ _;simp
 |inr x=>cases b with
  |inl j=>show AB=AC ↔ _;simp
  |inr y=>show (x==y)=AC ↔ _;simp
def zfa:∀(a b:Hs Key),yci (a.map yaL) (b.map yaL)=decide (a=b)
 |[],[]=>rfl
 |[],y::c=>rfl
 |x::d,[]=>rfl
 |x::d,y::c=>by show (peq (yaL x) (yaL y)&&yci (d.map yaL) (c.map yaL))=_;rw[zdA,zfa d c];rw[DE];simp
def zdD(a b:Hs Key):peq (.tup (a.map yaL)) (.tup (b.map yaL))=decide (a=b):=by exact zfa a b
def zg6{k:PV}(h:ybG k=AC):∃q,k=yaL q:=by
 cases k with
 |int i=>exact#[.inl i,rfl]
 |str i=>exact#[.inr i,rfl]
 |_=>cases h
def zhm:∀{a:Hs PV},a.all ybG=AC->∃b:Hs Key,a=b.map yaL
 |[],_=>#[[],rfl]
 |k::a,h=>by rw[An,AH]at h;let#[q,rfl]:=zg6 h.1;let#[b,rfl]:=zhm h.2;exact#[q::b,rfl]
section
variable {S:Se}{X:Cx}{K:AF}{cl:Ht->AJ}{E:St}{B:AJ->Prop}{C:Ph}{H:Hp}{st:SO}{p pos p2 px apos:Bq}{a b c d o:AX}{ca cb cc:Ce}
def zoM{q:Key}{x:V}:ye K cl B C H (yaL q) x ↔ x=kV q:=by cases q<;>simp[yaL,ye,kV]
def zd5:∀{a:Hs Key} {xs:Hs V},yq K cl B C H (a.map yaL) xs->xs=a.map kV
 |[],xs,l=>by simpa only[BH,yq] using l
 |q::a,xs,l=>by erw[AW,yq]at l;let#[y,b,rfl,r,l]:=l;rw[zoM.mp r,zd5 l];rfl
theorem DK.look{q:Key}:∀{a:Hs (PV×PV)} {b:Hs (Key×V)},DK K cl B C H a b->∀{v:PV} {x:V},ye K cl B C H v x->ye K cl B C H ((IC.look (yaL q) a).getD v) ((ybF b q).getD x)
 |[],b,h,v,x,r=>by cases h;exact r
 |(k,w)::t,b,h,v,x,r=>by
  let#[c,y,s,rfl,rfl,d,l]:=h;erw[IC.look,zdA]
  by_cases e:c=q
  .rw[zbB (p:=(c,y)) e];simp[e,d]
  .rw[zbC (p:=(c,y)) e];erw[Hx,e,IG];exact DK.look l r
theorem DT.look{q:Hs Key}:∀{a:Hs (PV×PV)} {b:Hs (Hs Key×V)},DT K cl B C H a b->∀{v:PV} {x:V},ye K cl B C H v x->ye K cl B C H ((IC.look (.tup (q.map yaL)) a).getD v) ((ybF b q).getD x)
 |[],b,h,v,x,r=>by cases h;exact r
 |(k,w)::t,b,h,v,x,r=>by
  let#[c,y,s,rfl,rfl,d,l]:=h;erw[IC.look,zdD]
  by_cases e:c=q
  .rw[zbB (p:=(c,y)) e];simp[e,d]
  .rw[zbC (p:=(c,y)) e];erw[Hx,e,IG];exact DT.look l r
theorem DK.any{q:Key}:∀{a:Hs (PV×PV)} {b:Hs (Key×V)},DK K cl B C H a b->(a.any λp=>peq p.1 (yaL q))=b.any λc=>decide (c.1=q)
 |[],b,h=>by cases h;rfl
 |(k,w)::t,b,h=>by let#[d,y,s,rfl,rfl,f,l]:=h;erw[Ba,zdA,DK.any l]
theorem DT.any{q:Hs Key}:∀{a:Hs (PV×PV)} {b:Hs (Hs Key×V)},DT K cl B C H a b->(a.any λp=>peq p.1 (.tup (q.map yaL)))=b.any λc=>decide (c.1=q)
 |[],b,h=>by cases h;rfl
 |(k,w)::t,b,h=>by let#[d,y,s,rfl,rfl,f,l]:=h;erw[Ba,zdD,DT.any l]
theorem DK.map{q:Key}{v:PV}{x:V}(r:ye K cl B C H v x):∀{a:Hs (PV×PV)} {b:Hs (Key×V)},DK K cl B C H a b->DK K cl B C H (a.map λp=>if peq p.1 (yaL q)=AC then(p.1,v)else p) (b.map λc=>if c.1=q then(c.1,x)else c)
 |[],b,h=>by cases h;exact rfl
 |(k,w)::t,b,h=>by
  let#[d,y,s,rfl,rfl,f,l]:=h;erw[AW,zdA,Hx]
  by_cases e:d=q
  .simp only[e,ID];exact#[q,x,_,rfl,rfl,r,DK.map r l]
  .simp only[e,IG];exact#[d,y,_,rfl,rfl,f,DK.map r l]
theorem DT.map{q:Hs Key}{v:PV}{x:V}(r:ye K cl B C H v x):∀{a:Hs (PV×PV)} {b:Hs (Hs Key×V)},DT K cl B C H a b->DT K cl B C H (a.map λp=>if peq p.1 (.tup (q.map yaL))=AC then(p.1,v)else p) (b.map λc=>if c.1=q then(c.1,x)else c)
 |[],b,h=>by cases h;exact rfl
 |(k,w)::t,b,h=>by
  let#[d,y,s,rfl,rfl,f,l]:=h;erw[AW,zdD,Hx]
  by_cases e:d=q
  .simp only[e,ID];exact#[q,x,_,rfl,rfl,r,DT.map r l]
  .simp only[e,IG];exact#[d,y,_,rfl,rfl,f,DT.map r l]
theorem DK.snoc{q:Key}{v:PV}{x:V}(r:ye K cl B C H v x):∀{a:Hs (PV×PV)} {b:Hs (Key×V)},DK K cl B C H a b->DK K cl B C H (a++[(yaL q,v)]) (b++[(q,x)])
 |[],b,h=>by cases h;exact#[q,x,[],rfl,rfl,r,rfl]
 |(k,w)::t,b,h=>by let#[c,y,s,rfl,rfl,d,l]:=h;exact#[c,y,_,rfl,rfl,d,DK.snoc r l]
theorem DT.snoc{q:Hs Key}{v:PV}{x:V}(r:ye K cl B C H v x):∀{a:Hs (PV×PV)} {b:Hs (Hs Key×V)},DT K cl B C H a b->DT K cl B C H (a++[(.tup (q.map yaL),v)]) (b++[(q,x)])
 |[],b,h=>by cases h;exact#[q,x,[],rfl,rfl,r,rfl]
 |(k,w)::t,b,h=>by let#[c,y,s,rfl,rfl,d,l]:=h;exact#[c,y,_,rfl,rfl,d,DT.snoc r l]
theorem DK.put{q:Key}{v:PV}{x:V}{a:Hs (PV×PV)}{b:Hs (Key×V)}(l:DK K cl B C H a b)(r:ye K cl B C H v x):DK K cl B C H (IC.put (yaL q) v a) (putK b q x):=by
 unfold IC.put putK;rw[DK.any l];split
 .exact DK.map r l
 .exact DK.snoc r l
theorem DT.put{q:Hs Key}{v:PV}{x:V}{a:Hs (PV×PV)}{b:Hs (Hs Key×V)}(l:DT K cl B C H a b)(r:ye K cl B C H v x):DT K cl B C H (IC.put (.tup (q.map yaL)) v a) (putK b q x):=by
 unfold IC.put putK;rw[DT.any l];split
 .exact DT.map r l
 .exact DT.snoc r l
theorem DK.len:∀{a:Hs (PV×PV)} {b:Hs (Key×V)},DK K cl B C H a b->a.length=b.length
 |[],b,h=>by cases h;rfl
 |(k,w)::t,b,h=>by let#[c,y,s,rfl,rfl,d,l]:=h;simp[DK.len l]
theorem DT.len:∀{a:Hs (PV×PV)} {b:Hs (Hs Key×V)},DT K cl B C H a b->a.length=b.length
 |[],b,h=>by cases h;rfl
 |(k,w)::t,b,h=>by let#[c,y,s,rfl,rfl,d,l]:=h;simp[DT.len l]
theorem yH.dct{n:Ht}{t:Hy}{a:Hs (PV×PV)}{x:V}(rs:yH K cl B C H st)(r:ye K cl B C H (.loc n) x)(h:st[n]?=AA (.dct t a)):∃y,x=.ref y/\C[n]?=AA (AA y)/\ycp K cl B C H (.dct t a) y:=by erw[ye]at r;let#[g,y,rfl,d]:=r;let#[z,b]:=rs.liv n _ h (by intro z;cases z);obtain rfl:=d z b;let#[o,c,f]:=rs.obj n z b;rw[h]at c;cases c;exact#[z,rfl,b,f]
def zdQ{v:PV}{t:Hy}{a:Hs (PV×PV)}(h:ybm st v=AA (t,a)):∃n,v=.loc n/\st[n]?=AA (.dct t a):=by
 cases v with
 |loc n=>
  erw[ybm]at h;split at h
  .rename_i b c q
   cases h
   exact#[n,rfl,q]
  .cases h
 |_=>cases h
def zid{k:PV}(h:isKey AB k=AC):∃q,k=yaL q:=zg6 h
def zgi{k:PV}(h:isKey AC k=AC):∃q:Hs Key,k=.tup (q.map yaL):=by
 cases k with
 |tp b c=>
  cases b with
  |false=>
   let#[a,rfl]:=zhm h;exact#[a,rfl]
  |true=>cases h
 |_=>cases h
def zgv{q:Hs Key}{x:V}(r:ye K cl B C H (.tup (q.map yaL)) x):∃y,x=.ref y/\H y=AA (.tup (q.map kV)):=by
 erw[ye]at r;let#[y,b,rfl,a,l]:=r;rcases a with⟨a,_⟩|⟨z,_⟩
 .exact#[y,rfl,by rw[a,zd5 l]]
 .cases z
def zms(hu:X.A.units+1<cLine)(ha:PE X a (tE S X ca))(hb:PE X b (tE S X cb))(hc:PE X c (tE S X cc))(m:M2 X a "get" apos b c pos:=by exact#[rfl,rfl,rfl,rfl]):PE X (.Call (.Attribute a "get" apos) [b,c] [] pos) (tE S X (.mth .get ca (.cons cb (.cons cc .nil)))):=
 (ziu hu ha hb hc m).imp λE H Q #[B,C,st,Y,rs,re,h]=>by
  erw[ev]at h;refine tE.bind rs re h λx H1 v z C1 s1 p A U w=>?_;let#[_,D,w]:=zds w;erw[yas]at D
  cases q:ybm z v with
  |none=>rw[q]at D;cases D
  |some tk=>
   let#[t,kvs]:=tk;let#[n,rfl,hn]:=zdQ q;let#[y,rfl,hy,Z]:=p.dct U hn;refine#[y,rfl,?_,?_]
   .cases t with
    |false=>let#[f,o,_]:=Z;exact .inl #[f,.inl o]
    |true=>let#[f,o,_]:=Z;exact .inr #[f,.inl o]
   .simp only[evs,R.bind_assoc]at w;refine tE.bind p A w λkx H2 kv st2 C2 s2 G I rk h2=>tE.bind G I h2 λdx H3 dv J C3 s3 g re3 rd d=>?_;erw[R.bind]at d;unfold ybs at d;erw[yd2]at d
    cases L:ybm J (.loc n)with
    |none=>rw[L]at d;exact d.elim
    |some M=>
     let#[t3,kvs3]:=M;rw[L]at d;dsimp only at d;split at d
     .rename_i o;let#[n',e',N]:=zdQ L
      cases e'
      let#[y3,ey,hy3,r]:=g.dct ((U.step s2).step s3) N
      cases ey
      have u:=rk.step s3
      cases t3 with
      |false=>
       let#[q,rfl]:=zid o;let#[f,j,l]:=r;refine#[ybF f q,.inl #[f,q,.inl j,zoM.mp u,rfl],d.ok g (DK.look l rd)]
      |true=>
       let#[q,rfl]:=zgi o;let#[f,j,l]:=r;let#[b',rfl,O]:=zgv u;exact#[ybF f q,.inr #[f,q,b',.inl j,rfl,O,rfl],d.ok g (DT.look l rd)]
     .exact d.elim
def zhi{b:SO}{x y v:PV}(h:ybJ st x y v=AA b):∃n t a,x=.loc n/\st[n]?=AA (.dct t a)/\isKey t y=AC/\a.length<1000000/\b=st.set n (.dct t (IC.put y v a)):=by
 cases x with
 |loc n=>
  erw[ybJ]at h;split at h
  .rename_i t a q;split at h
   .rename_i c;exact#[n,t,a,rfl,q,c.1,c.2,(Ac h).symm]
   .cases h
  .cases h
 |_=>cases h
def zkm(U:X.A.units+1<cLine)(Z:PE X b (tE S X cb))(hi:PE X c (tE S X cc))(hv:PE X a (tE S X ca))(hs:swapsWith a (AA (.Subscript b c px)) pos.line X.env=pure false:=by rfl):PS X (.Assign [.Subscript b c px] a pos) (tS S X (.dput cb cc ca)):=
 (zk8 U Z hi hv hs).imp λD E H #[B,C,st,Y,rs,re,h]=>by
  erw[ex]at h;refine tE.fl rs re h λL H1 v st1 C1 s1 w z rv h1=>tE.fl w z h1 λx' H2 x st2 C2 s2 A G rx h2=>tE.fl A G h2 λy' r y I C3 M d j N m=>?_
  cases e:ybJ I x y v with
  |none=>rw[e]at m;exact m.elim
  |some st4=>
   rw[e]at m;let#[n,t,kvs,rfl,hn,O,hl,rfl]:=zhi e;let#[l,rfl,u,Q]:=d.dct (rx.step M) hn;have o:=(rv.step s2).step M;have hm:=zoH
   cases t with
   |false=>
    let#[q,rfl]:=zid O;let#[p,f,ld]:=Q;have g:Step C3 r C3 (L2.upd r l (.dK (putK p q L))):=.put (A1 u);refine#[l,_,rfl,.inl #[p,q,f,zoM.mp N,by have:=ld.len;lia,rfl],m E _ C3 g (d.put u #[_,zq,(ld.put o).step g]) (j.step g)]
   |true=>
    let#[q,rfl]:=zgi O;let#[p,f,ld]:=Q;let#[b',rfl,J]:=zgv N;have g:Step C3 r C3 (L2.upd r l (.dT (putK p q L))):=.put (A1 u);refine#[l,_,rfl,.inr #[p,q,b',f,rfl,J,by have:=ld.len;lia,rfl],m E _ C3 g (d.put u #[_,zq,(ld.put o).step g]) (j.step g)]
def trC(a:Hs (AQ×Hw)):Hs (TE×TE):=a.map λb=>(tC (.str b.1),tC (.int b.2))
def znE:PPs X pos [] [] (trC []):=zkA
def zlx{b:Hs (Option AX)}{vs:Hs AX}{a:Hs (AQ×Hw)}{x:AQ}{i:Hw}{c d:Ht}{p1 p2:Bq}(h:PPs X pos b vs (trC a)):PPs X pos (AA (.Constant (.str x) c p1)::b) (.Constant (.int i) d p2::vs) (trC ((x,i)::a)):=zi0 zoT zoS h
def zdc:∀(a:Hs (AQ×Hw)) {E:St} {H:Hp} {Q:Hs (V×V)->Hp->Prop},Q (a.map λb=>(.str b.1,.int b.2)) H->yby (trC a) E H Q
 |[],E,H,Q,h=>h
 |b::r,E,H,Q,h=>zdc r (Q:=λc d=>Q ((.str b.1,.int b.2)::c) d) h
theorem DK.fold:∀(c:Hs (AQ×Hw)) {a:Hs (PV×PV)} {d:Hs (Key×V)},DK K cl B C H a d->DK K cl B C H (c.foldl (λa b=>IC.put (.str b.1) (.int b.2) a) a) (yaZ d (c.map λb=>(Dj b.1,.int b.2)))
 |[],a,d,l=>l
 |b::r,a,d,l=>by unfold yaZ;erw[CO,AW];exact DK.fold r (l.put (q:=Dj b.1) (x:=.int b.2) (by erw[ye]))
def zkz{b:Hs (Option AX)}{vs:Hs AX}{a:Hs (AQ×Hw)}(h:PPs X pos b vs (trC a))(d:b.all (·.isSome)=true:=by rfl)(m:b.length=vs.length:=by rfl)(n:b≠[]:=by simp)(f:b.length<=15:=by decide):PE X (.Dict b vs pos) (tE S X (.newd a)):=
 (zlu h d m n f).imp λE H Q #[B,C,st,Y,g,o,h]=>by
  erw[ev]at h;split at h
  .rename_i c;intro p j;refine zdc a #[zq,a.map λl=>(Dj l.1,.int l.2),by simp[kV],by simpa using c,?_];rw[zlC];exact h _ _ (C++[AA p]) (.push j) (g.push j (g.nB j) #[_,zq,DK.fold a rfl]) (.loc_new g)
  .exact h.elim
end
section
variable {S:Se}{X:Cx}{C:St}{B:AJ->Prop}{A:Ph}{H:Hp}{p pos p3 p4:Bq}{a b tg:AX}{ca cb:Ce}
end
end L2
namespace WK
open PySem L2 IC
section
variable {K:AF}{cl:Ht->AJ}{B:AJ->Prop}{A:Ph}{H:Hp}
def zjB:yq K cl B A H [] []:=by erw[yq]
def zic{v:PV}{x:V}{vs:Hs PV}{xs:Hs V}(h:ye K cl B A H v x)(l:yq K cl B A H vs xs):yq K cl B A H (v::vs) (x::xs):=by erw[yq];exact#[x,xs,rfl,h,l]
end
def zl4{P:Ae}{w:Aq}{outer:Hs BJ}{H:Hp}{s:AK}{e:AG}{s':AK}(h:CX1 P w outer H s (λ_ _ _=>II) e s'):II:=by let#[_,_,_,_,_,_,_,_,_,_,_,_,_,_,z]:=h;exact z
def zh0{K:AF}{b:Ht->AJ}{B:AJ->Prop}{A:Ph}{H:Hp}:∀a:Hs Hw,yq K b B A H (a.map .int) (a.map V.int)
 |[]=>zjB
 |n::a=>zic (by erw[ye]) (zh0 a)
def spX(K:AF)(call:Ht->Hs PV->SO->R PV)(a:Ht):Sp:=λb H Q E=>∀c,spI K c call a b H Q E
def zgz{K:AF}{call:Ht->Hs PV->SO->R PV}{c:Ht}{H:Hp}{a:AJ}{ns:Hs Hw}(d:∀ns:Hs Hw,ns.length<=63->call c [.scr (ns.map .int)] []=.ok (.bl AC) [])(f:ns.length<=63)(b:SqL K H a (ns.map V.int)):
  spX K call c [.ref a] H (λv _=>v=.bl AC) λ_ _ _=>II:=by
 intro g;refine#[λ_=>II,[],[],[.scr (ns.map .int)],#[rfl,λm n a e=>by simp at e,λn a e=>by simp at e,λn o e=>by simp at e,λa z=>by simp at z,λa z=>z.elim],zic ?_ zjB,?_]
 .simp only[ye];refine#[a,_,rfl,?_,zh0 ns];rcases b with b|b
  .exact .inl #[b,λz=>z,by simp]
  .exact .inr b
 .rw[d ns f];intro x j l _ _ r;simpa only[ye] using r
end WK
namespace L2
open PySem PySem.Spec PyProof.Rows IC
def zgo{l:Hs AQ}(h:l.Nodup){i j:Ht}(a:i<l.length)(b:j<l.length)(e:l[i]=l[j]):i=j:=by
 rcases Ht.lt_trichotomy i j with q|q|q
 .exact IB e (EN.mp h i j a b q)
 .exact q
 .exact IB e.symm (EN.mp h j i b a q)
section
variable {X:Cx}{B:Hs (AJ×Bd)}{A:St}{H:Hp}{s:AK}
theorem Inv.drop{h':BB}{m:AQ->Option AG}{v:Option AG}{i:Ht}{n:AQ}(I:Inv X B A H s)(E:X.N.Nodup)(G:X.N[i]?=AA n)(hm:s.heap.Ns X.env.locals m)(look:∀(i:Ht) (x:AQ) (v:V),X.N[i]?=AA x->A[i]?=AA (AA v)->Vis X.env.scope x->∃u,RelV v u/\Look X.env s.heap m x u)(J:C6 X.env.locals s.heap h')(L:h'.Ns X.env.locals (λx=>if x=n then v else m x)):Inv X B (A.set i AD) H {s with heap:=h'}:=by
 have k:∀b u,b≠X.env.locals->s.heap.get? b=AA u->h'.get? b=AA u:=λb u l q=>(J.2 b l).trans q;have nl:∀b o,X.s₀.heap.get? b=AA o->b≠X.env.locals:=λb o e=>Aw (Ad (A9 e) I.ok.above);refine#[I.ok,I.os,I.bare,#[λb o q n l d=>k b o (nl b o q) (I.base.keep b o q n l d),λb o q n l d=>?_,I.base.free,λb o q d=>?_,I.base.tups,I.base.frzs,I.base.tbls],#[_,L,λj x v y f M=>?_],λx c e=>?_,I.free,I.freeC,λp N=>?_,λb u e=>?_,?_]
 .let#[O,a]:=I.base.slot b o q n l d;exact#[O,k b _ (nl b o q) a]
 .let#[C,a]:=I.base.there b o q d;exact#[C,k b C (nl b o q) a]
 .have D:j≠i:=λz=>by subst z;rw[Cb]at f;erw[ID]at f;split at f<;>cases f
  rw[A7 (BW D)]at f;have d:x≠n:=λz=>by subst z;let#[Q,U]:=A3.mp y;let#[Y,Z]:=A3.mp G;exact D (zgo E Q Y (U.trans Z.symm))
  let#[u,r,lk]:=look j x v y f M;refine#[u,r,?_];rcases lk with⟨a,g⟩|⟨a,c,g,o,t,w⟩
  .exact .inl #[a,by dsimp only;rw[IA d];exact g]
  .exact .inr #[a,c,g,o,k c o (I.cne x c g) t,w]
 .let#[v,o,ho,hd]:=I.cell x c e;exact#[v,o,k c o (I.cne x c e) ho,hd]
 .let#[a,g,t,w]:=I.pin p N;exact#[k _ _ t a,g,t,w]
 .refine(I.hok b u e).stay (λc v hc q=>k c v (λz=>?_) q) (λ_ q=>q) λ_ _ q=>q;have fr:=I.free;subst z;rcases hc with z|z
  .rw[z,e]at fr
   cases fr
  .rw[z]at fr
   cases fr
 .rw[Ay];exact I.len
end
def ygk(X:Cx)(pn:Hs (AJ×Bd))(P:St->AG->Hp->Prop):AG->AK->Prop:=λe a=>∃B A H s,Inv (cxP X pn) B A H s/\CX1 X.prog X.w X.stack H s (λcls _ b=>P A cls b) e a
abbrev yd0(X:Cx)(pn:Hs (AJ×Bd))(P:St->AG->Hp->Prop):Cx:=(cxP X pn).wish (ygk X pn P)
section
variable {X:Cx}{body suite:Hs Bf}{b₀:Bf}{x n:AQ}{np hpos pos:Bq}{W:AJ}{i:Ht}
def zcv{G:Hs (AJ×Bd)}{F:St}{H:Hp}{s:AK}{Q:IR->AK->Prop}{E:AG->AK->Prop}{A:Ar}(I:Inv X G F H s)(j:X.N.Nodup)(c:X.N[i]?=AA n)(b:X.env.scope.names.lookup n=AA .local)(r:i<F.length)
  (h:∀l,Inv X G (F.set i AD) H l->Q IR.unit l):Aa (model X.prog X.w) A (do bindName X.env n .none;unbindBehindTheSuite X.env n pos) Q E s:=by
 refine AI (FX (zaL I j c (.inl b) (show RelV .non .none from rfl) (λw o=>?_) (.inr b)));let#[m,p,look]:=o.loc;let#[u,x,lk]:=look i n .non c (by rw[Cb];simp[r]) (.inl b);have t:m n=AA u:=by
  rcases lk with⟨_,q⟩|⟨z,_⟩
  .exact q
  .rw[show X.env.kindOf n=AA .local from b]at z;rcases z with z|z<;>cases z
 have d:X.env.kindOf n=AA .local:=b;have a:X.env.scope.kind=.function:=I.ok.kind;unfold unbindBehindTheSuite;refine E3 ?_;unfold unbindName deleteName;refine AI (wpAny_point (AI ?_));erw[d,a];refine AI (m:=nsDel X.env.locals n) (wpAny_nsDel_keeps p λy B f g=>?_);rw[t];refine AZ (wpAny_point ?_);have J:=o.drop j c p look g f;rw[Do]at J;exact h _ J
def zkL{tb:Hs (AJ×Bd)->(St->AG->Hp->Prop)->TS}{ts:Hs (AJ×Bd)->AJ->TS}(Y:∃b,X.stack=X.env::b)(Z:X.ex=[])(hfr:X.env.frame=AA X.env.locals)(hN:X.N.Nodup)(hi:X.N[i]?=AA n)(hx:X.env.scope.names.lookup n=AA .local)(hgx:Gl X x)(hmx:X.mg x=AA (.ref W))
  (hb:∀pn P,PSs (yd0 X pn P) body (tb pn P)) (hs:∀pn a,PSs (cxS X pn a) (b₀::suite) (ts pn a)) (hdb:(x==("__debug__":AQ))=false:=by decide):
  PS X (.Try body [.ExceptHandler (AA (.Name x np)) (AA n) (b₀::suite) hpos] [] [] pos) (λD F H=>∀pn,∃P:St->AG->Hp->Prop,tb pn P D F H/\∀F1 cls d,P F1 cls d->∃C,cls=.ref C/\EG X.K (.ref C) (.ref W)=AA AC /\
   ∀a,d a=AD->ts pn a {nx:=λF2 H2=>D.nx (F2.set i AD) H2,rt:=D.rt} (F1.set i (AA (.ref a))) (upd d a (.ext (ybT a C)))):=by
 intro G s F H D I h;let#[P,L,hex]:=h (X.pn++G);let#[b,N]:=Y;refine wpAny_Try_except (Bj (hb (X.pn++G) P [] s F H D (I.toP.wish _) L) (λf g hf=>?_) λe g hx1=>?_)
 .have cv:SP X G D f g:=by
   cases f with
   |next=>
    let#[O,d,J,q]:=hf;exact#[O,d,Inv.ofP I.ok J.unwish,q]
   |brk=>
    let#[O,d,J,q]:=hf;exact#[O,d,Inv.ofP I.ok J.unwish,q]
   |cont=>
    let#[O,d,J,q]:=hf;exact#[O,d,Inv.ofP I.ok J.unwish,q]
   |ret u=>
    let#[v,O,d,J,r,q]:=hf;exact#[v,O,d,Inv.ofP I.ok J.unwish,r,q]
  cases f with
  |next=>exact D9 cv
  |brk=>exact cv
  |cont=>exact cv
  |ret u=>exact cv
 .let#[pins1,F1,H1,s2,w,a,cls,a0,d,B,rfl,os,A,fl,hok,un,hB,tr,hT,hE]:=hx1;let#[C,rfl,hm,j]:=hex F1 cls d hE;have w:Inv (cxP X (X.pn++G)) [] F1 H1 s2:=w.pins_of λp hp=>IB hp (by simp);have frs':X.A.frames=AA (X.env::b):=by rw[<-N];exact I.ok.frames
  have fl0:Ez B (X.env::b) a (.ref C) a0 g.heap:=by rw[<-N];exact fl
  refine wpAny_looks_onW frs' hfr fl0 λh1 Q up1=>?_;refine wpAny_landsW (s:={g with heap:=h1}) Q λh2 U up2=>?_;have E:g.heap.UpToSlots h2:=up1.trans up2;have I2:Inv (cxP X (X.pn++G)) [] F1 d {g with heap:=h2}:=w.back (t':=g.toks) os A fl hok un hB tr hT U.1 E;let#[ob,hob,hobc]:=U.there;have LT:∀M:HQ,HM M h2 (typeOf (.ref a)) (.ref C):=λM=>hobc ▸ (Ee hob).andThen .now;refine wpAny_handleBy_cons (codeAny_handlers_test ?_) (by intro q;cases q);refine zbx (X:=cxS X (X.pn++G) a) (I2.toS a) hgx hmx ?_ hdb;refine PySem.W.Looks.at (PySem.W.exm_one I2.kIn (LT _) hm) ?_;rw[Hz rfl];refine codeAny_handlers_suite_as ?_;refine lands_againW (s:={g with heap:=h2}) U λh3 l up3=>?_;have up13:=E.trans up3;have I3:Inv (cxP X (X.pn++G)) [] F1 d {g with heap:=h3}:=w.back (t':=g.toks) os A fl hok un hB tr hT l.1 up13;let#[oe,ws,T3,oT,tsx,ge,#[gc,g0],gd,_]:=id l.2.2.2;have nfr:a∉frs X.stack:=λz=>by
   let#[_,o',ho',hd]:=BV l.2.2.1 (by rw[<-N];exact z);rw[ge]at ho'
   cases ho'
   exact hd ws gd
  have nB:B.get? a=none:=l.2.1;have t:∀o,s2.heap.get? a≠AA o:=λo z=>by
   let#[o',q]:=hT a o z nfr;rw[nB]at q
   cases q
  have nH:d a=none:=by
   cases z:d a with
   |none=>rfl
   |some u=>
    let#[o',q]:=tr a u z;rw[nB]at q
    cases q
  have n0:∀o,X.s₀.heap.get? a≠AA o:=λo z=>by
   have hx':a∉X.ex:=by rw[Z];simp
   let#[o',q]:=w.base.there a o z hx';exact t o' q
  have nl:a≠X.env.locals:=λz=>by let#[m,hn,_]:=w.loc;let#[ol,_,_,hol,_]:=hn;exact t ol (z ▸ hol)
  have nc:∀y c,X.env.cells.lookup y=AA c->c≠a:=λy c q z=>by let#[v,oc,hoc,_]:=w.cell y c q;exact t oc (z ▸ hoc)
  have np:∀p∈(cxP X (X.pn++G)).pn++[],p.1≠a:=λp hp z=>t p.2 (z ▸ (w.pin p hp).1);have new:yaa X.prog X.w (upd d a (.ext (ybT a C))) h3 a (.ext (ybT a C)):=#[#[oe,ge,gc],#[oe,ge],λk1 k2 p q=>p.keep q];have I4:Inv (cxP X (X.pn++G)) [] F1 (upd d a (.ext (ybT a C))) {g with heap:=h3}:=I3.track nH n0 nl nc np new;have hln:i<X.N.length:=(A3.mp hi).1;refine zaL (X:=cxS X (X.pn++G) a) (I4.toS a) hN hi (.inl hx) (show RelV (.ref a) (.ref a)from rfl) (λs6 I6=>?_) (.inr hx);refine Bj (hs (X.pn++G) a [] s6 _ _ _ I6 (j a nH)) (λf s7 hf=>?_) λ_ _ z=>z.elim
  cases f with
  |next=>
   let#[F7,H7,J7,q7]:=hf;have J8:Inv X G F7 H7 s7:=Inv.ofS I.ok J7;exact zcv (pos:=hpos) J8 hN hi hx (by rw[J8.len];exact hln) λs8 J9=>#[_,H7,J9,q7]
  |brk=>
   let#[_,_,_,z]:=hf;exact z.elim
  |cont=>
   let#[_,_,_,z]:=hf;exact z.elim
  |ret u=>
   let#[v,F7,H7,J7,r7,q7]:=hf;have J8:Inv X G F7 H7 s7:=Inv.ofS I.ok J7;exact zcv (pos:=hpos) J8 hN hi hx (by rw[J8.len];exact hln) λs8 J9=>#[v,_,H7,J9,r7,q7]
end
section
variable {S:Se}{X:Cx}{E:St}{B:AJ->Prop}{A A1:Ph}{H H1:Hp}{st:SO}{Y:IC.Env}{D:Ends}{body suite:Hs Bf}{b₀:Bf}{x n:AQ}{p p2 np hpos pos cpos:Bq}{W:AJ}{i:Ht}{cb ch:Css}{a e:AX}{es:Hs AX}{ca ce:Ce}{ces:Ces}
theorem yP.drop{K:AF}{a:Ht->AJ}(r:yP K a B A H Y E)(i:Ht):yP K a B A H (Y.set i AD) (E.set i AD):=by
 refine#[by rw[Ay,Ay];exact r.len,λj w e=>?_]
 by_cases h:j=i
 .subst h;rw[Cb]at e;erw[ID]at e;split at e<;>cases e
 .rw[A7 (BW h)]at e ⊢;exact r.get j w e
abbrev Se.quiet(S:Se):Se:={S with may:=AB}
def zlU{Z:Hs Ht}(J:∃l,X.stack=X.env::l)(L:X.ex=[])(hfr:X.env.frame=AA X.env.locals)(hN:X.N.Nodup)(hi:X.N[i]?=AA n)(hx:X.env.scope.names.lookup n=AA .local)(hgx:Gl X x)(hmx:X.mg x=AA (.ref W))(hW:∀c∈Z,EG X.K (.ref (S.cl c)) (.ref W)=AA AC)
  (hb:∀pn P,PSs (yd0 X pn P) body (tSs S.quiet (yd0 X pn P) cb)) (hs:∀pn a,PSs (cxS X pn a) (b₀::suite) (tSs S.quiet (cxS X pn a) ch)) (hdb:(x==("__debug__":AQ))=false:=by decide):
  PS X (.Try body [.ExceptHandler (AA (.Name x np)) (AA n) (b₀::suite) hpos] [] [] pos) (tS S X (.try cb Z i ch)):=by
 refine(zkL (tb:=λpn P=>tSs S.quiet (yd0 X pn P) cb) (ts:=λpn a=>tSs S.quiet (cxS X pn a) ch) J L hfr hN hi hx hgx hmx hb hs hdb).imp λD E H #[B,A,st,Y,M,N,h] pn=>?_;erw[ex]at h
 cases q:exs S.call Y st cb with
 |exc d p b=>
  rw[q]at h;dsimp only at h
  by_cases hd:Z.contains d=AC
  .rw[Hz hd]at h;refine#[λE1 cls r=>cls=.ref (S.cl d)/\∃f,Step A H f r/\yH X.K S.cl B f r b/\yP X.K S.cl B f r p E1,#[B,A,st,Y,M,N,?_],?_]
   .show yau _ _ _ _ _ (exs S.call Y st cb) _;rw[q];intro E' A1 H1 e s' Q u hx;rcases hx with⟨G,O,t,A2,I,g,c⟩|⟨m,_⟩|⟨m,_⟩
    .refine#[G,E',O,t,I.unwish,CX1.mono c λcls r z=>?_];let#[z1,f,z2,z3]:=z;exact#[z1,f,(Q.trans g).trans z2,z3,(u.step g).step z2]
    .cases m
    .cases m
   .rintro E1 cls r ⟨rfl,f,Q,w,u⟩
    refine#[S.cl d,rfl,hW d (by simpa using hd),λa U=>?_];have nB:¬B a:=λz=>by
     let#[o,e]:=w.dom a z;rw[U]at e
     cases e
    have nφ:AA a∉f:=λz=>by
     let#[o,e]:=w.there z;rw[U]at e
     cases e
    have s2:Step f r f (upd r a (.ext (ybT a (S.cl d)))):=.upd U;refine#[B,f,b,p.set i (AA (.exn d)),w.upd U,(u.step s2).set i ?_,?_]
    .simp only[ye];exact#[a,rfl,zq,nB,nφ]
    .show yau _ _ _ _ _ (exs S.call (p.set i (AA (.exn d))) b ch) _
     cases g:exs S.call (p.set i (AA (.exn d))) b ch with
     |nx Y2 j=>
      rw[g]at h;intro E' O A2 s3 C re3;exact h _ O A2 ((Q.trans s2).trans s3) C (re3.drop i)
     |rt v j=>
      rw[g]at h;intro y O A2 s3 C rv;exact h y O A2 ((Q.trans s2).trans s3) C rv
     |bk Y2 j=>rw[g]at h;exact h.elim
     |ct Y2 j=>rw[g]at h;exact h.elim
     |exc k Y2 j=>rw[g]at h;exact h.elim
     |bad=>rw[g]at h;exact h.elim
  .rw[IA hd]at h;exact h.elim
 |nx p b=>
  rw[q]at h;exact#[λ_ _ _=>II,#[B,A,st,Y,M,N,by show yau _ _ _ _ _ (exs S.call Y st cb) _;rw[q];exact h],λ_ _ _ z=>z.elim]
 |rt v b=>
  rw[q]at h;exact#[λ_ _ _=>II,#[B,A,st,Y,M,N,by show yau _ _ _ _ _ (exs S.call Y st cb) _;rw[q];exact h],λ_ _ _ z=>z.elim]
 |bk p b=>
  rw[q]at h;exact#[λ_ _ _=>II,#[B,A,st,Y,M,N,by show yau _ _ _ _ _ (exs S.call Y st cb) _;rw[q];exact h],λ_ _ _ z=>z.elim]
 |ct p b=>
  rw[q]at h;exact#[λ_ _ _=>II,#[B,A,st,Y,M,N,by show yau _ _ _ _ _ (exs S.call Y st cb) _;rw[q];exact h],λ_ _ _ z=>z.elim]
 |bad=>rw[q]at h;exact h.elim
theorem all_nil{P:Ht->Prop}:∀c∈([]:Hs Ht),P c:=λ_ h=>by cases h
theorem all_cons{P:Ht->Prop}{c:Ht}{a:Hs Ht}(h:P c)(t:∀d∈a,P d):∀d∈c::a,P d:=λd b=>by
 rcases AM.mp b with e|e
 .exact e ▸ h
 .exact t d e
structure ycJ(K:AF)(mg:AQ->Option AG)(C:AJ)(x:AQ):Prop where
 m:mg x=AA (.ref C)
 q:D5 K C [.type "ValueError",.type "Exception",.type "BaseException",.type "object"] "ValueError.__new__"=AC
def zit{k:Ht}(Z:ycJ X.K X.mg (S.cl k) x)(f:S.may=AC)(y:X.calm=AC)(z:Gl X x)(J:PE X a (tE S X ca))
  (j:starEach [a] X.env=(AB,eval a X.env)::starEach [] X.env:=by rfl) (l:(backTo cpos (starEach [] X.env)).any (·.1)=false:=by rfl) (m:(x==("__debug__":AQ))=false:=by decide):
  PS X (.Raise (AA (.Call (.Name x np) [a] [] cpos)) AD pos) (tS S X (.raise k ca)):=by
 intro G s E H D I #[B,A,st,Y,L,M,h];erw[ex]at h;have r:=zpk I.ok.mod.kin Z.m Z.q;have FB:=PySem.F.excBase_ValueError;let#[O,Q,nm,q,bs,hdct,sn,sub,ab,col,dd,k0,k1,k2,k3,k5,mN,U,hN,n,t]:=r.obj;refine wpAny_Raise_call_subT (C:=S.cl k) (nm:=nm) (q:=q) (N:=Q) (bs:=bs) (bm:=O) (hdct:=hdct) (sn:=sn) (sub:=sub) (ab:=ab) (col:=col) (dd:=dd) (k0:=k0) (k1:=k1) (k2:=k2) (k3:=k3) (k5:=k5)
  FB (mN:=mN) (t.hasType FB.hasBase) (I.ok.hd y) (by rw[j];show (AB || (backTo cpos (starEach [] X.env)).any (·.1))=AB;rw[l];rfl) n (zbx I z r.bound #[rfl,?_] m)
 have u:=(zan J zoB j) cpos G s E H (λw H1=>∃v,w=[v]/\∃A1 b,Step A H A1 H1/\yH X.K S.cl B A1 H1 b/\yP X.K S.cl B A1 H1 Y E/\yau S X B A1 H1 (.exc k Y b) D) I
  (tE.fl L M h λx H1 v b A1 o c d rv p=>#[x,rfl,A1,b,o,c,d,p])
 rw[j]at u ⊢;refine D7 (thn u λus o kq=>?_);let#[w,H1,g,r1,v,ev,A1,b,t1,c,d,p]:=kq;subst ev;refine#[rfl,by rw[<-r1.length];show 1<=sizeLine;decide,g.bk _ _ U,hN.keeps g.bk,t.keeps g.bk,λh' e' hx=>?_];exact p E A1 H1 _ _ .rfl d (.inr (.inl #[f,G,H1,o,A1,h',e',us,g,.rfl,c,hx,rfl,rfl]))
def tyZ(a:Ht->AJ):Ty->AG
 |.cls d=>.ref (a d)
 |_=>.type "ValueError"
def ybV(a:Ht->AJ):Ty->V
 |.cls d=>.ref (a d)
 |_=>.ty "ValueError"
def zfh{a:Ht->AJ}{t:Ty}{c:AG}(r:RelV (ybV a t) c):c=tyZ a t:=by cases t<;>exact r
def zhP:bootBuiltins "ValueError"=AA (.type "ValueError"):=by decide +kernel
def zlO{d:Ht}{a:Ht->AJ}(b:Gl X x)(c:X.mg x=AA (.ref (a d)))(f:(x==("__debug__":AQ))=false:=by decide):PE X (.Name x pos) (tC (ybV a (.cls d))):=zcB b c rfl f
def zmB{a:Ht->AJ}(b:Gl X "ValueError")(c:X.mg "ValueError"=AD):PE X (.Name "ValueError" pos) (tC (ybV a .val)):=zgM b c zhP rfl
def ycG(K:AF)(a:Ht->AJ)(c:Ht)(t:Ty):Prop:=BL K (.ref (a c)) (tyZ a t)=AA (yF (.exn c) t)
def zhx{K:AF}{a:Ht->AJ}{c:Ht}:∀{ts:Hs Ty},(∀t∈ts,ycG K a c t)->HC K (.ref (a c)) (ts.map (tyZ a))=AA (ts.any (yF (.exn c)))
 |[],_=>rfl
 |t::ts,h=>by
  have b:=h t A6;unfold ycG at b;rw[AW,HC,b,Ba]
  cases yF (.exn c) t with
  |true=>rfl
  |false=>exact zhx λd f=>h d (AT _ f)
abbrev gaE:=PySem.F.attr_ValueError.ga
def zjy{a:Hs Ht}{ts:Hs Ty}{v z:PV}(h:ycy a v ts=AA z):∃c,v=.exn c/\c∈a/\z=.bl (ts.any (yF (.exn c))):=by
 cases v with
 |exn c=>
  erw[ycy]at h;split at h
  .rename_i q;exact#[c,rfl,by simpa using q,(Ac h).symm]
  .cases h
 |_=>cases h
def yh1(S:Se)(X:Cx)(d:Hs Ht)(t:Ty):Hs V->Hp->VK->Prop:=λf H Q=>∃B A st v x z,f=[x,ybV S.cl t]/\yH X.K S.cl B A H st/\ye X.K S.cl B A H v x/\ycy d v [t]=AA z /\
 ∀c a b,Step A H b a->yH X.K S.cl B b a st->ye X.K S.cl B b a z c->Q c a
def zmT{b:Hs Ht}{t:Ty}(Z:∀c∈b,ybC X.K (S.cl c)/\ycG X.K S.cl c t):yaf X (.builtin "isinstance") (yh1 S X b t):=by
 rintro G s E H y C Q I r ⟨B,A,st,v,x,z,rfl,f,d,e,q⟩
 let#[u,D,rfl,g,j]:=vals2 r;let#[c,rfl,l,rfl]:=zjy e
 cases zfh j
 erw[ye]at d;let#[a,rfl,m,_,_]:=d
 cases (show u=Ak a from g)
 let#[n,o]:=Z c l;have p:ybT a (S.cl c) s.heap:=(I.hok a _ m).1;exact CS (zeU n gaE) I.kIn p o (λz=>nomatch z) λw=>#[.bl _,H,I.tok w,rfl,q _ H A .rfl f (by simp[ye])]
def znu{l:Hs Ht}{t:Ty}{b:AX}(Z:∀c∈l,ybC X.K (S.cl c)/\ycG X.K S.cl c t)(n:Gl X "isinstance")(o:X.mg "isinstance"=AD)(r:PE X b (tC (ybV S.cl t)))(u:PE X a (tE S X ca))
  (m:starEach [a,b] X.env=(AB,eval a X.env)::starEach [b] X.env:=by rfl) (f:starEach [b] X.env=(AB,eval b X.env)::starEach [] X.env:=by rfl) (g:(backTo pos (starEach [b] X.env)).any (·.1)=false:=by rfl):
  PE X (.Call (.Name "isinstance" p) [a,b] [] pos) (tE S X (.isx ca l [t])):=
 (zcj (zmT Z) n o C9 (zan u (zan r zoB f) m) ⋯ ⋯ m g).imp λE H Q #[B,A,st,Y,w,y,h]=>by erw[ev]at h;refine tE.bind w y h λx H1 v j A1 I d C D G=>?_;let#[z,e,q]:=zaa G d;exact#[B,A1,j,v,x,z,rfl,d,D,e,q]
abbrev tNs(vs:Hs V):TA:=λ_ H Q=>Q vs H
def zmZ:PA X [] (tNs []):=zoB.imp λE H Q h=>h
def zkj{v:V}{vs:Hs V}(h:PE X e (tC v))(t:PA X es (tNs vs))(a:starEach (e::es) X.env=(AB,eval e X.env)::starEach es X.env:=by rfl):PA X (e::es) (tNs (v::vs)):=(zan h t a).imp λE H Q h=>h
def zhp{a:Ht->AJ}:∀{ts:Hs Ty} {us:Hs AG},Vals (ts.map (ybV a)) us->us=ts.map (tyZ a)
 |[],us,h=>by cases h;rfl
 |t::ts,us,h=>by
  cases h with
  |cons r q=>rw[zfh r,zhp q];rfl
def ye1(S:Se)(X:Cx)(d:Hs Ht)(ts:Hs Ty):Hs V->Hp->VK->Prop:=λf H Q=>∃B A st v x z p,f=[x,.ref p]/\H p=AA (.tup (ts.map (ybV S.cl)))/\yH X.K S.cl B A H st/\ye X.K S.cl B A H v x/\ycy d v ts=AA z /\
 ∀c a b,Step A H b a->yH X.K S.cl B b a st->ye X.K S.cl B b a z c->Q c a
def zj9{d:Hs Ht}{ts:Hs Ty}(Z:∀c∈d,ybC X.K (S.cl c)/\∀t∈ts,ycG X.K S.cl c t):yaf X (.builtin "isinstance") (ye1 S X d ts):=by
 rintro G s E H xs us Q I r ⟨B,A,st,v,x,z,p,rfl,l,m,f,e,q⟩
 let#[u,o,rfl,w,y]:=vals2 r;let#[c,rfl,C,rfl]:=zjy e
 cases (show o=Ak p from y)
 erw[ye]at f;let#[a,rfl,D,_,_]:=f
 cases (show u=Ak a from w)
 let#[J,L]:=Z c C;have pp:ybT a (S.cl c) s.heap:=(I.hok a _ D).1;let#[_,M,N,#[oc,od,O,U],g,b,n,j]:=(show yaa X.prog X.w H s.heap p (.tup (ts.map (ybV S.cl)))from I.hok p _ l);have:=zhp N;dsimp only at b j;subst b j this;exact PySem.W.kia_tup (zeU J gaE) I.kIn pp g (zhx L) (λz=>nomatch z) λY=>#[.bl _,H,I.tok Y,rfl,q _ H A .rfl m (by simp[ye])]
def zkV{l:Hs Ht}{ts:Hs Ty}{k:Ht}{b:Bq}(Z:∀c∈l,ybC X.K (S.cl c)/\∀t∈ts,ycG X.K S.cl c t)(U:ts.length<=1000)(r:Gl X "isinstance")(u:X.mg "isinstance"=AD)(w:PA X es (tNs (ts.map (ybV S.cl))))(y:PE X a (tE S X ca))
  (m:starEach [a,.Tuple es k b] X.env=(AB,eval a X.env)::starEach [.Tuple es k b] X.env:=by rfl) (f:starEach [.Tuple es k b] X.env=(AB,eval (.Tuple es k b) X.env)::starEach [] X.env:=by rfl) (g:(backTo pos (starEach [.Tuple es k b] X.env)).any (·.1)=false:=by rfl):
  PE X (.Call (.Name "isinstance" p) [a,.Tuple es k b] [] pos) (tE S X (.isx ca l ts)):=
 (zcj (zj9 Z) r u C9 (zan y (zan (zgU w) zoB f) m) ⋯ ⋯ m g).imp λE H Q #[B,A,st,Y,C,D,h]=>by erw[ev]at h;refine tE.bind C D h λx H1 v j A1 s1 d G I J=>?_;let#[z,e,q]:=zaa J d;refine#[by rw[Ai,Be];lia,λpp n=>?_];have o:Step A1 H1 A1 (upd H1 pp (.tup (ts.map (ybV S.cl)))):=.upd n;exact#[B,A1,j,v,x,z,pp,rfl,zq,d.upd n,I.step o,e,λL M N O=>q L M N (o.trans O)]
end
def zaq:fillsNumberSlot (.type "tuple") "mul"=pure false:=
 PySem.fillsNumberSlot_seq (id:="tuple.__mul__") (r:=AA (.builtin "tuple.__rmul__")) CA.lookup (by decide +kernel) Ei.lookup (by decide +kernel)
def zbh:seqRepeat? (.type "tuple")=pure (AA (.builtin "tuple.__mul__")):=by unfold seqRepeat?;rw[G8 (T:="tuple") (name:="__mul__") (id:="tuple.__mul__") CA.lookup (by decide +kernel),G8 (T:="tuple") (name:="__rmul__") (id:="tuple.__rmul__") Ei.lookup (by decide +kernel)];rfl
def zaP(a:Hw)(t:HJ)(l:AJ)(items:IH AG)(n:Ht)(dd:Option AJ)(sl:IH (Option AG)):
  Hi (D4.«int.__rmul__» #[[.int a t,.ref l],[]]) (λ_ R s=>s.heap.get? l=AA {cls:=.type "tuple",dict:=dd,data:=.seq items n,slots:=sl}/\R (.ok (.ret Value.notImplemented)) s):=
 .of_wp λb w A R s h=>by let#[c,g,d,f,os]:=s;let#[j,h]:=h;wp_walk;exact#[_,rfl,h]
def zfU(l:AJ)(items:IH AG)(n:Ht)(dd:Option AJ)(sl:IH (Option AG))(x:Hw)(u:HJ)(a:¬(decide (x < -(2^63)) || decide (x ≥ 2^63))=AC)(b:¬(items.isEmpty || x==1)=AC)(c:¬(decide (x<=0) || items.isEmpty)=AC)(f:¬(items.size:Hw)*x > (2^63-1)/8)(j:¬EH ((items.size:Hw)*x)=AC)
  (hsz:((AL x.toNat items).foldl (·++·) (Hs.toArray [])).size<=sizeLine):
  Hi (D4.«tuple.__mul__» #[[.ref l,.int x u],[]]) (λ_ R s=>s.heap.get? l=AA {cls:=.type "tuple",dict:=dd,data:=.seq items n,slots:=sl}/\R (.ok (.ret (Ak s.heap.objs.size))) {s with heap:=s.heap.push {cls:=Dq "tuple",data:=Hh ((AL x.toNat items).foldl (·++·) (Hs.toArray []))},toks:=s.toks}):=
 .of_wp λo w A R s h=>by
  let#[p,g,d,q,os]:=s;let#[r,h]:=h;have y:=Ej;have z:=DA
  have t:Gp (#[p,g,d,q,os]:AK).heap l items:=#[_,r,rfl,n,rfl]
  wp_walk
  rw[IA a];refine AI (C5 t ?_);rw[IA b];rw[IA c];rw[IA f];rw[IA j];exact AI (m:=B3 _) (BS (AZ #[_,rfl,h]) hsz)
def zfK(l:AJ)(items:IH AG)(n:Ht)(dd:Option AJ)(sl:IH (Option AG))(u:HJ):
  Hi (D4.«tuple.__mul__» #[[.ref l,.int 1 u],[]]) (λ_ R s=>s.heap.get? l=AA {cls:=.type "tuple",dict:=dd,data:=.seq items n,slots:=sl}/\R (.ok (.ret (Ak l))) s):=
 .of_wp λa w A R s h=>by
  let#[b,g,d,c,os]:=s;let#[f,h]:=h;have j:=Ej;have m:=DA
  wp_walk
  exact#[_,rfl,h]
def zfH(l:AJ)(items:IH AG)(n:Ht)(dd:Option AJ)(sl:IH (Option AG))(x:Hw)(u:HJ)(a:¬(decide (x < -(2^63)) || decide (x ≥ 2^63))=AC)(b:¬(items.isEmpty || x==1)=AC)(c:(decide (x<=0) || items.isEmpty)=AC):
  Hi (D4.«tuple.__mul__» #[[.ref l,.int x u],[]]) (λ_ R s=>s.heap.get? l=AA {cls:=.type "tuple",dict:=dd,data:=.seq items n,slots:=sl}/\R (.ok (.ret (Ak s.heap.objs.size))) {s with heap:=s.heap.push {cls:=Dq "tuple",data:=Hh (Hs.toArray [])},toks:=s.toks}):=
 .of_wp λf w A R s h=>by
  let#[j,g,d,o,os]:=s;let#[p,h]:=h;have r:=Ej;have t:=DA
  have q:Gp (#[j,g,d,o,os]:AK).heap l items:=#[_,p,rfl,n,rfl]
  wp_walk
  rw[IA a];refine AI (C5 q ?_);rw[IA b];rw[Hz c];exact AI (m:=B3 _) (BS (AZ #[_,rfl,h]) (show ((Hs.toArray []):IH AG).size<=sizeLine from Ab _))
def zc4(a:Hs AG):∀k:Ht,(AL k a.toArray).foldl (·++·) (Hs.toArray [])=((AL k a).flatten).toArray:=λk=>by have:=listMul_foldl a.toArray k (Hs.toArray []);simpa using this
theorem Vals.repN{xs:Hs V}{us:Hs AG}(r:Vals xs us):∀k:Ht,Vals (AL k xs).flatten (AL k us).flatten
 |0=>.nil
 |k+1=>by rw[Al,Al,Bc,Bc];exact r.append (Vals.repN r k)
section
variable {S:Se}{X:Cx}{p pos p2 px apos:Bq}{a b:AX}{ca cb:Ce}
def zlj:OpR X (binaryOp .Mult) (λx y H Q=>∃a d n,x=.ref a/\y=.int n/\SqT X.K H a d/\d≠[]/\2<=n/\n<=1000/\d.length<=1000/\∀p,H p=AD->Q (.ref p) (upd H p (.tup (AL n.toNat d).flatten))):=by
 intro E s D H x y v u Q I M N h;let#[a,d,n,rfl,rfl,O,Y,h2,hn,hz,q]:=h
 cases M
 let#[t,rfl]:=N;let#[c,l,Z,_]:=I.tuple O;let#[#[cls,A,B,C],f,G,m,J]:=id Z;simp only at G J;subst G J;have hl:=l.length;have g:c≠[]:=λz=>Y (l.nil_iff.mp z);have L:c.length*n.toNat<=1000*1000:=C4 () ();have r:(c.length:Hw)*n<=1000000:=by
  have:((c.length*n.toNat:Ht):Hw)=(c.length:Hw)*n:=by rw[Gi,Cv ()]
  lia
 have w:∀k,((AL k c).flatten).length=k*c.length:=λk=>by simp
 have j:((AL n.toNat d).flatten).length<=sizeLine:=by rw[Hs.length_flatten,Be];erw[Hs.map_replicate,Hs.sum_replicate_nat];rw[hl,GM];lia
 refine Bm (T:="tuple") (U:="int") ⋯ #[_,f,rfl] (λs'=>Ch s' n t) zaq Cq BX zbh Cc.lookup
  (CW BX (Ch s n t) Cd (C8 _ _) (zaP n t a c.toArray m A C)
   #[f,rfl,#[_,f,rfl],CW CA #[_,f,rfl] DI (DB _ _)
    (zfU a c.toArray m A C n t (by simp;lia) (by simp[g];lia) (by simp[g];lia) (by erw[AU];lia) (by erw[EH,AU];simp[Be];lia) (by rw[zc4,AU,w,Be,GM];lia)) #[f,?_]])
 rw[zc4];refine#[.ref s.heap.objs.size,_,I.laid (t':=s.toks) (o:=.tup (AL n.toNat d).flatten) (λb ob q=>AR _ q) (AS _) ?_,rfl,q _ (I.hok.fresh (AS _))];exact#[j,_,l.repN n.toNat,E8 _ _]
def zkH:OpR X (binaryOp .Mult) (λx y H Q=>∃a d,x=.ref a/\y=.int 1/\SqT X.K H a d/\Q (.ref a) H):=by
 intro E s D H x y v u Q I o p h;let#[a,d,rfl,rfl,r,q]:=h
 cases o
 let#[t,rfl]:=p;let#[b,A,w,_]:=I.tuple r;let#[#[cls,f,g,j],c,l,m,n]:=id w;simp only at l n;subst l n;exact Bm (T:="tuple") (U:="int") ⋯ #[_,c,rfl] (λz=>Ch z 1 t) zaq Cq BX zbh Cc.lookup
  (CW BX (Ch s 1 t) Cd (C8 _ _) (zaP 1 t a b.toArray m f j)
   #[c,rfl,#[_,c,rfl],CW CA #[_,c,rfl] DI (DB _ _) (zfK a b.toArray m f j t) #[c,#[.ref a,H,I,rfl,q]]])
def zkt:OpR X (binaryOp .Mult) (λx y H Q=>∃a f,x=.ref a/\y=.int 0/\SqT X.K H a f/\f≠[]/\∀p,H p=AD->Q (.ref p) (upd H p (.tup []))):=by
 intro E s D H x y v u Q I A B h;let#[a,f,rfl,rfl,C,G,q]:=h
 cases A
 let#[t,rfl]:=B;let#[c,J,L,_]:=I.tuple C;let#[#[cls,j,l,n],d,r,m,w]:=id L;simp only at r w;subst r w;have g:c≠[]:=λz=>G (J.nil_iff.mp z);refine Bm (T:="tuple") (U:="int") ⋯ #[_,d,rfl] (λM=>Ch M 0 t) zaq Cq BX zbh Cc.lookup
  (CW BX (Ch s 0 t) Cd (C8 _ _) (zaP 0 t a c.toArray m j n)
   #[d,rfl,#[_,d,rfl],CW CA #[_,d,rfl] DI (DB _ _)
    (zfH a c.toArray m j n 0 t (by simp) (by simp[g]) (by simp)) #[d,?_]])
 refine#[.ref s.heap.objs.size,_,I.laid (t':=s.toks) (o:=.tup []) (λb N q=>AR _ q) (AS _) ?_,rfl,q _ (I.hok.fresh (AS _))];exact#[Ab _,_,.nil,E8 _ _]
theorem yq.rep{K:AF}{a:Ht->AJ}{B:AJ->Prop}{C:Ph}{H:Hp}{vs:Hs PV}{xs:Hs V}(l:yq K a B C H vs xs):∀k:Ht,yq K a B C H (AL k vs).flatten (AL k xs).flatten
 |0=>by simp[yq]
 |k+1=>by rw[Al,Al,Bc,Bc];exact l.append (yq.rep l k)
def zdW(a:IH Ht):∀(k:Ht) (b:IH Ht),((AL k a).foldl (·++·) b).toList=b.toList++(AL k a.toList).flatten
 |0,b=>by simp
 |k+1,b=>by rw[Al,CO,zdW a k (b++a)];simp[Al]
def zlL{x:AQ}{n:Hw}(a:1<=n)(b:1<=x.length):Txt.mul x n=#[(AL n.toNat x.cps.toList).flatten.toArray]:=by
 unfold Txt.mul;rw[IA ()]
 by_cases q:n=1
 .subst q;rw[Hz (by simp)]
  cases x
  simp
 .have:(n==1 || x.length==0)=false:=by simp[q];lia
  rw[IA (by rw[this];simp)]
  congr 1
  apply G9.mp;rw[zdW];simp
def zj8{x:AQ}{n:Hw}(c:1<=n)(d:n<=1000)(f:x.length<=1000)(g:1<=x.length){E:Hs (AJ×Bd)}{s:AK}{D:St}{H:Hp}{t u:HJ}{Q:VK}(I:Inv X E D H s)(q:Q (.str #[(AL n.toNat x.cps.toList).flatten.toArray]) H):
  Aa (model X.prog X.w) X.A (binaryOp .Mult (.str x t) (.int n u)) (EP X E D Q) X.xe s:=by
 have j:x.length*n.toNat<=1000*1000:=C4 f ();refine SB.mul #[by rw[Hu (),Hu ()];rfl,λ_ _=>?_,λ_ _=>?_] λl k=>?_
 .have m:(x.length:Hw)*n<=1000*1000:=HD () d () ();have:=(Hw.le_ediv_iff_mul_le (a:=(x.length:Hw)) (b:=2^63-1) (show (0:Hw)<n by lia)).2 ();lia
 .unfold Builtin.Str.tooLong;rw[Be];exact Hu ()
 .rw[zlL c g];exact#[.str _,H,I.tok k,#[_,rfl],q]
def zmS:OpR X (binaryOp .Mult) (rT2 S X yc5):=by
 rintro E s D H x y v u Q I r w ⟨B,C,st,a,b,z,j,f,g,e,q⟩
 unfold yc5 at e;split at e
 .rename_i a n;split at e
  .rename_i c
   cases e
   erw[ye]at f g;subst f g;let#[M,rfl]:=r;let#[N,rfl]:=w;exact zj8 c.1 c.2.1 c.2.2.1 c.2.2.2 I (q _ H C .rfl j (by erw[ye]))
  .cases e
 .rename_i k J n;split at e
  .rename_i c
   cases e
   subst c;erw[ye]at g;have A:=f;erw[ye]at A;let#[p,m,rfl,o,l]:=A;exact zkH E s D H _ _ v u Q I r w #[p,m,rfl,g,o.sq,q _ H C .rfl j f]
  split at e
  .rename_i c
   cases e
   erw[ye]at f g;subst g;let#[p,m,rfl,o,l]:=f;have G:=l.length;refine zlj E s D H _ _ v u Q I r w #[p,m,n,rfl,rfl,o.sq,?_,c.1,c.2.1,by rw[<-G];exact c.2.2.2,λt d=>q _ _ C (.upd d) (j.upd d) (.tup_new d j (l.rep n.toNat))]
   rintro rfl
   cases J with
   |nil=>exact IB c.2.2.1 (by simp)
   |cons _ _=>simp at G
  split at e
  .rename_i c
   cases e
   erw[ye]at f g;subst g;let#[p,m,rfl,o,l]:=f;have G:=l.length;let#[rfl,L]:=c;refine zkt E s D H _ _ v u Q I r w #[p,m,rfl,rfl,o.sq,?_,λt d=>q _ _ C (.upd d) (j.upd d) (.tup_new d j (by simp[yq]))]
   rintro rfl
   cases J with
   |nil=>exact IB L (by simp)
   |cons _ _=>simp at G
  .cases e
 .rename_i J n;split at e
  .rename_i c
   cases e
   erw[ye]at f g;subst g;let#[p,m,rfl,o,l]:=f;have G:=l.length;have O:m.length*n.toNat<=1000*1000:=C4 () ();exact zmn E s D H _ _ v u Q I r w #[p,n,m,rfl,rfl,o.1,by lia,by lia,by rw[Be];lia,λt d=>q _ _ C (.upd d) (j.upd d) (.lst_new d j (l.rep n.toNat))]
  .cases e
 .cases e
def zmd(j:PE X a (tE S X ca))(l:PE X b (tE S X cb)):PE X (.BinOp a .Mult b pos) (tE S X (.rep ca cb)):=
 (zlF zmS j l).imp λD H Q #[B,C,st,Y,m,n,h]=>by erw[ev]at h;refine tE.bind m n h λx E v o C1 G d f p r=>tE.bind d f r λy I w g C2 t c u rw A=>?_;let#[z,e,q]:=zaa A c;exact#[B,C2,g,v,w,z,c,p.step t,rw,e,q]
end
end L2
namespace WE
open PySem PySem.Spec PyProof.Rows
section
variable {prog:Ae}{w:Aq}{A:Ar}{E:AG->AK->Prop}{s:AK}
end
end WE
namespace L2
open PySem PySem.Spec PyProof.Rows
end L2
namespace L2
open PySem PySem.Spec PyProof.Rows IC
open Classical in
def eqR(h:BB)(a:PyData)(u:AG):Hy:=decide (∃d b,Reads h u d b/\EC d a=AC)
def zjC{h:BB}{u:AG}{d a:PyData}{f:Hs AJ}(r:Reads h u d f):eqR h a u=EC d a:=by
 unfold eqR
 classical
 cases c:EC d a with
 |true=>exact Hv (p:=∃d f,Reads h u d f/\EC d a=AC) #[d,f,r,c]
 |false=>
  refine Hu ?_
  rintro⟨l,g,j,q⟩
  have:=(reads_det (λb o e _=>e) r j).1;subst this;rw[c]at q
  cases q
section
variable {S:Se}{X:Cx}{E:St}{B:AJ->Prop}{C C1:Ph}{H H1:Hp}{st:SO}{Y:IC.Env}{p pos p2 px py pt pt2:Bq}{a b c d o a' b' c' d':AX}{ca cb cc cd ce cf:Ce}{F:Hs (AJ×Bd)}{s:AK}{kt k2:Ht}{es:Hs AX}{ces:Ces}{x:AQ}
def zen(I:Inv X F E H s)(w:PV)(a:shd 60 w=AC):∀(vs:Hs PV) (xs:Hs V) (us:Hs AG),ybj 60 vs=AC->yq X.K S.cl B C H vs xs->Vals xs us->us.any (eqR s.heap (toD w))=inL w vs
 |[],xs,us,h,r,q=>by erw[yq]at r;subst r;cases q;rfl
 |v::vs,xs,us,h,r,q=>by
  erw[yq]at r;let#[y,b,rfl,c,l]:=r;erw[ybj,AH]at h
  cases q with
  |cons d f=>
   let#[j,g]:=zaK (S:=S) I v 60 y _ h.1 c d;rw[Ba,zen I w a vs b _ h.2 l f,zjC g,zdG v w 60 60 h.1 a];rfl
def zep(I:Inv X F E H s)(w:PV)(c:shd 60 w=AC){d:AG}{bs:Hs AJ}(f:Reads s.heap d (toD w) bs)(a:X.A.units+64<cLine):∀(vs:Hs PV) (xs:Hs V) (us:Hs AG),ybj 60 vs=AC->yq X.K S.cl B C H vs xs->Vals xs us->∀u∈us,Gy X.A.in1 s u d (eqR s.heap (toD w) u)
 |[],xs,us,h,r,q=>by erw[yq]at r;subst r;cases q;intro u a;cases a
 |v::vs,xs,us,h,r,q=>by
  erw[yq]at r;let#[y,j,rfl,m,l]:=r;erw[ybj,AH]at h
  cases q with
  |cons n o=>
   let#[p,g]:=zaK (S:=S) I v 60 y _ h.1 m n;intro u b;rcases AM.mp b with rfl|b
   .rw[zjC g];let#[t,z]:=zdu v 60 h.1;let#[x,A]:=zdu w 60 c;refine SeqAt.eqAt_reads _ _ X.A.in1 s _ _ p bs g f t x ?_;show X.A.units+1+_<_;lia
   .exact zep I w c f a vs j _ h.2 l o u b
def rTs(S:Se)(X:Cx)(f:SO->PV->PV->Option PV):R2:=λx y H Q=>∃B C st v w z,yH X.K S.cl B C H st/\ye X.K S.cl B C H v x/\ye X.K S.cl B C H w y/\f st v w=AA z /\
 ∀c a b,Step C H b a->yH X.K S.cl B b a st->ye X.K S.cl B b a z c->Q c a
def zjG(A:X.A.units+64<cLine):OpR X (compareOp .NotIn) (rTs S X ycr):=by
 rintro F s E H x y v u Q I G J ⟨B,C,st,a,b,z,n,L,M,e,q⟩
 erw[ycr]at e
 cases o:yaM st b with
 |none=>rw[o]at e;cases e
 |some g=>
  rw[o]at e;dsimp only at e;split at e
  .rename_i c;rw[AH]at c
   cases e
   let#[l,j,rfl,f,m]:=zeW n M o
   cases (show u=Ak l from J)
   let#[bs,D]:=zaK (S:=S) I a 60 x v c.1 L G;rcases f with f|f
   .let#[d,r,p,N]:=I.list f;refine SeqAt.notIn_listAt (eqR s.heap (toD a)) p.isList (λw t=>zep (S:=S) I a c.1 D A g j d c.2 m r w (by simpa using t)) #[.bl _,H,I,rfl,?_];rw[show d.toArray.any (eqR s.heap (toD a))=d.any (eqR s.heap (toD a))by simp,zen (S:=S) I a c.1 g j d c.2 m r];exact q _ H C .rfl n (by erw[ye])
   .let#[d,r,p,N]:=I.tuple f;refine SeqAt.notIn_tupleAt (eqR s.heap (toD a)) p (λw t=>zep (S:=S) I a c.1 D A g j d c.2 m r w (by simpa using t)) #[.bl _,H,I,rfl,?_];rw[show d.toArray.any (eqR s.heap (toD a))=d.any (eqR s.heap (toD a))by simp,zen (S:=S) I a c.1 g j d c.2 m r];exact q _ H C .rfl n (by erw[ye])
  .cases e
def zmP(j:X.A.units+64<cLine)(l:PE X a (tE S X ca))(m:PE X b (tE S X cb))(n:behindInMarks .NotIn b=AB):PE X (.Compare a [.NotIn] [b] pos) (tE S X (.nin ca cb)):=
 (zet (zjG j) l m n).imp λE H Q #[B,C,st,Y,o,p,h]=>by erw[ev]at h;refine tE.bind o p h λx H1 v r C1 I d f t u=>tE.bind d f u λy J w g C2 A c D rw G=>?_;let#[z,e,q]:=zaa G c;exact#[B,C2,g,v,w,z,c,t.step A,rw,e,q]
def zkF{st:SO}{x y z:PV}(h:ycr st x y=AA z):∃k,z=.bl k:=by
 unfold ycr at h;split at h
 .split at h
  .cases h;exact#[_,rfl]
  .cases h
 .cases h
def zl2(n:X.A.units+64<cLine)(o:PE X a (tE S X ca))(p:PE X b (tE S X cb))(q:behindInMarks .NotIn b=AB):PT X (.Compare a [.NotIn] [b] pos) (tTs S X (.nin ca cb)):=
 (zhM (zjG n) o p q).imp λE H Q #[B,C,st,Y,r,t,h]=>by
  erw[ev,ya5,R.bind_assoc]at h;refine tE.bind r t h λx H1 v u C1 N f g A D=>tE.bind f g D λy O w c C2 G j I rw d=>?_
  cases e:ycr c v w with
  |none=>rw[e]at d;exact d.elim
  |some z=>
   let#[k,rfl]:=zkF e;rw[e]at d;refine#[B,C2,c,v,w,.bl k,j,A.step G,rw,e,λU J L M l m=>?_];erw[ye]at m;exact#[k,m,d k J L M l rfl]
def zjl(o:Gl X "list")(q:X.mg "list"=AD)(r:bootBuiltins "list"=AA (.type "list"))(t:PA X [a] (tAs S X (.cons ca .nil)))
  (u:starEach [a] X.env=(AB,eval a X.env)::starEach [] X.env:=by rfl) (g:(backTo pos (starEach [] X.env)).any (·.1)=false:=by rfl):PE X (.Call (.Name "list" p) [a] [] pos) (tE S X (.thw (.blt .list (.cons ca .nil)))):=
 (zd8 zcc o q r t ⋯ ⋯ u g).imp λE H Q #[B,C,st,Y,w,A,h]=>by
  erw[ev,R.bind_assoc]at h;refine tAs.bind w A h λM H1 G c C1 N b I J d=>?_
  cases e:yX .list c G with
  |none=>rw[e]at d;exact d.elim
  |some z=>
   rw[e]at d;let#[v,rfl]:=za9 e λ_ _=>rfl;let#[x,rfl,j]:=J.one;erw[yX]at e
   cases m:yaM c v with
   |none=>rw[m]at e;cases e
   |some O=>
    rw[m]at e
    cases e
    let#[y,n,rfl,L,l]:=zeW b j m;refine#[y,n,rfl,L,λD f=>?_];erw[toR,R.bind,ycb]at d;exact d _ _ (C1++[AA D]) (.push f) (b.push f (b.nB f) #[n,zq,l.step (.push f)]) (.loc_new b)
theorem tAs.fl{D:Ends}{k:Hs PV->SO->Fl}{P:Hs V->Hp->Prop}(rs:yH X.K S.cl B C H st)(c:yP X.K S.cl B C H Y E)(h:yau S X B C H ((evs S.call Y st ces).fl Y k) D)
  (n:∀x H1 v a C1,Step C H C1 H1->yH X.K S.cl B C1 H1 a->yP X.K S.cl B C1 H1 Y E->yq X.K S.cl B C1 H1 v x->yau S X B C1 H1 (k v a) D->P x H1):tAs S X ces E H P:=by
 refine#[B,C,st,Y,rs,c,?_]
 cases e:evs S.call Y st ces with
 |ok v b=>
  rw[e]at h;exact λx f g s d j=>n x f v b g s d (c.step s) j (h.on s)
 |exc k b=>
  rw[e]at h;exact λe l x=>h E C H e l .rfl c x
 |bad=>rw[e]at h;exact h
def zg1{D:Ends}{k:SO->Fl}{P:Hp->Prop}{x y v:PV}{f g c:V}(rs:yH X.K S.cl B C H st)(t:yP X.K S.cl B C H Y E)(u:ye X.K S.cl B C H x f)(m:ye X.K S.cl B C H y g)(w:ye X.K S.cl B C H v c)
  (h:yau S X B C H (match yaE st x y v with
   |none=>.bad
   |some d=>k d) D)
  (n:∀H1 a,Step C H C H1->yH X.K S.cl B C H1 a->yP X.K S.cl B C H1 Y E->yau S X B C H1 (k a) D->P H1):yb6 f g c H P:=by
 cases e:yaE st x y v with
 |none=>rw[e]at h;exact h.elim
 |some z=>
  rw[e]at h;let#[M,A,G,j,rfl,I,rfl,J,rfl]:=zfi e;erw[ye]at m;subst m;let#[l,p,rfl,q,L,r]:=rs.list u I;refine#[l,p,G,j,rfl,rfl,L,by rw[<-r.length];exact J,?_];have b:Step C H C (L2.upd H l (.lst (p.set j c))):=.put (A1 q);exact n _ _ b (rs.put (o:=.lst (A.set j v)) q #[_,zq,(r.put j w).step b]) (t.step b) (h.on b)
def zlt(hc:X.calm=AC)(he:PA X [a,b] (tAs S X (.cons ca (.cons cb .nil))))(ho:PE X c (tE S X cc))(hi:PE X d (tE S X cd))(ho2:PE X c' (tE S X ce))(hi2:PE X d' (tE S X cf))
  (L:PG X (.Subscript c d px) (yem (tE S X cc) (tE S X cd) yb6)) (M:PG X (.Subscript c' d' py) (yem (tE S X ce) (tE S X cf) yb6))
  (hs:swapsWithSole [.Tuple [.Subscript c d px,.Subscript c' d' py] kt pt] (.Tuple [a,b] k2 pt2) pos.line X.env=pure false:=by rfl) (hw:swappedStores [.Tuple [.Subscript c d px,.Subscript c' d' py] kt pt] (.Tuple [a,b] k2 pt2) X.env=pure none:=by rfl):
  PS X (.Assign [.Tuple [.Subscript c d px,.Subscript c' d' py] kt pt] (.Tuple [a,b] k2 pt2) pos) (tS S X (.six2 cc cd ce cf ca cb)):=
 (zh6 (zgU he) (zjO hc (zdz L (zdz M zoU))) hs hw).imp λD E H #[B,C,st,Y,rs,re,h]=>by
  erw[ex]at h
  have h':yau S X B C H ((evs S.call Y st (.cons ca (.cons cb .nil))).fl Y λN j=>match N with
   |[v,w]=>(ev S.call Y j cc).fl Y λx l=>(ev S.call Y l cd).fl Y λy m=>match yaE m x y v with
    |none=>.bad
    |some n=>(ev S.call Y n ce).fl Y λr o=>(ev S.call Y o cf).fl Y λz g=>match yaE g r z w with
     |some f=>.nx Y f
     |none=>.bad
   |_=>.bad) D:=by
   erw[IC.vsq0,IC.vsq1]
   cases e:ev S.call Y st ca with
   |ok v q=>
    rw[e]at h;erw[R.bind,R.fl]at h ⊢
    cases O:ev S.call Y q cb with
    |ok w j=>rw[O]at h;exact h
    |exc k s=>rw[O]at h;exact h
    |bad=>rw[O]at h;exact h
   |exc k s=>rw[e]at h;exact h
   |bad=>rw[e]at h;exact h
  refine tAs.fl rs re h' λxs H1 N q C1 s1 Q U rl A=>?_;rcases N with _|⟨v,_|⟨w,_|⟨u,t⟩⟩⟩
  .exact A.elim
  .exact A.elim
  .let#[Z,G,rfl,rv,rw]:=rl.two;refine#[by show 2<=sizeLine;decide,λp hp=>#[p,[Z,G],rfl,.inl (.inl zq),rfl,Z,[G],rfl,?_]];have I:Step C1 H1 C1 (L2.upd H1 p (.tup [Z,G])):=.upd hp;refine tE.fl (Q.upd hp) (U.step I) (A.on I) λx' H3 x l C3 s3 rs3 re3 rx h3=>tE.fl rs3 re3 h3 λy' H4 y m C4 s4 rs4 re4 ry h4=>?_;refine zg1 rs4 re4 (rx.step s4) ry (((rv.step I).step s3).step s4) h4 λH5 n s5 rs5 re5 h5=>#[G,[],rfl,?_];refine tE.fl rs5 re5 h5 λx2' H6 r o C6 s6 rs6 re6 rx2 h6=>tE.fl rs6 re6 h6 λy2' H7 z g C7 s7 rs7 re7 ry2 J=>?_
   have h7':yau S X B C7 H7 (match yaE g r z w with
    |none=>.bad
    |some f=>.nx Y f) D:=by
    cases e:yaE g r z w with
    |none=>rw[e]at J;exact J
    |some f=>rw[e]at J;exact J
   refine zg1 rs7 re7 (rx2.step s7) ry2 ((((((rw.step I).step s3).step s4).step s5).step s6).step s7) h7' λH8 f s8 rs8 re8 h8=>#[rfl,?_];exact h8 E _ C7 .rfl rs8 re8
  .exact A.elim
end
end L2
namespace IC
open PySem
end IC
namespace L2
open PySem PySem.Spec PyProof.Rows IC
section
variable {S:Se}{X:Cx}{C:St}{B:AJ->Prop}{A:Ph}{H:Hp}{p p2 pos pos2 apos:Bq}{a b tg:AX}{ca cb:Ce}
end
end L2
namespace WE
open PySem PySem.Spec PyProof.Rows
section
variable {pg:Ae}{wd:Aq}{A:Ar}{Er:AG->AK->Prop}{s:AK}
theorem tit_keep{h h':BB}{i t:AJ}{j:Ht}(u:h.IsTupleIter i t j)(k:∀o,h.get? i=AA o->h'.get? i=AA o):h'.IsTupleIter i t j:=let #[o,g,r]:=u;#[o,k o g,r]
def zch{h h':BB}{t:AJ}{xs:IH AG}(u:h.IsTuple t xs)(k:∀o,h.get? t=AA o->h'.get? t=AA o):h'.IsTuple t xs:=let #[o,g,r]:=u;#[o,k o g,r]
def Kz(z TO a b:AJ)(h h':BB):Prop:=∀c o,c≠z->c≠TO->c≠a->c≠b->h.get? c=AA o->h'.get? c=AA o
def zgb{z TI TO g l t u:AJ}{j:Ht}{xs ys:IH AG}{x y a b:AG}{Q:AG->AK->Prop}(D:GT z TI TO g l t u)
  (w:EW s.heap z TI TO .none) (gI:CZ s.heap TI (.ref g) (.ref l)) (gO:CZ s.heap TO a b) (u1:s.heap.IsTupleIter g t j) (u2:s.heap.IsTupleIter l u j) (t1:s.heap.IsTuple t xs) (t2:s.heap.IsTuple u ys) (ex:xs[j]?=AA x) (ey:ys[j]?=AA y)
  (k:∀m,EW m z TI TO (rawInt s.heap.objs.size)->CZ m TO x y->m.IsTupleIter g t (j+1)->m.IsTupleIter l u (j+1)->CZ m s.heap.objs.size x y->m.objs.size=s.heap.objs.size+1->Kz z TO g l s.heap m->Q (.ref s.heap.objs.size) {s with heap:=m}):
  Aa (model pg wd) A (D4.«zip.__next__» #[[.ref z],[]]) (λf s'=>∃v,f=.done (.ret v)/\Q v s') Er s:=by
 show Aa _ _ (field (.ref z) 2 >>= _) _ _ _;refine AI (BQ w rfl (x:=.bool AB) rfl ?_);show Aa _ _ (field (.ref z) 3 >>= _) _ _ _;refine AI (BQ w rfl (x:=.ref TI) rfl ?_);refine AI (C3 gI rfl ?_);show Aa _ _ (B4 (.ref z) >>= _) _ _ _;refine AI ?_;unfold B4;refine AI (BQ w rfl (x:=.none) rfl (AZ ?_));erw[ID];refine AI (Eo ?_);refine AI (BQ w rfl (x:=.ref TO) rfl ?_);refine AI (C7 w (by simp) λha N n=>?_)
 replace N:EW ha z TI TO .ellipsis:=N
 refine AI ?_;erw[Ga,Gj,FH,HE];refine AI (AI (E3 ?_));show Aa _ _ (BN (.ref g) >>= _) _ _ _;refine AI (zb2 (tit_keep u1 λo e=>n.extBut _ _ D.i1z e) (zch t1 λo e=>n.extBut _ _ D.l1z e) ex λhb ub q=>AZ ?_);have ob:CZ hb TO a b:=q.extBut _ _ D.TOi1 (n.extBut _ _ D.TOz gO);refine AI (C3 ob rfl ?_);refine AI (F0 ob λhc O r=>?_)
 replace O:CZ hc TO x b:=O
 refine AI (wpAny_letGo (AZ ?_));refine AI (AI (E3 ?_));show Aa _ _ (BN (.ref l) >>= _) _ _ _;refine AI (zb2 (tit_keep u2 λo e=>r.extBut _ _ D.TOi2.symm (q.extBut _ _ D.i12.symm (n.extBut _ _ D.i2z e))) (zch t2 λo e=>r.extBut _ _ D.l2TO (q.extBut _ _ D.l2i1 (n.extBut _ _ D.l2z e))) ey λhd ud B=>AZ ?_);have od:CZ hd TO x b:=B.extBut _ _ D.TOi2 O;refine AI (C3 od rfl ?_);refine AI (F0 od λd H C=>?_)
 replace H:CZ d TO x y:=H
 refine AI (wpAny_letGo (AZ (AZ ?_)));refine AI (C3 H rfl ?_);refine AI (wpAny_newTuple ?_);have sz:d.objs.size=s.heap.objs.size:=by rw[C.1,B.1,r.1,q.1,n.1]
 have ze:EW d z TI TO .ellipsis:=C.extBut _ _ D.TOz.symm (B.extBut _ _ D.i2z.symm (r.extBut _ _ D.TOz.symm (q.extBut _ _ D.i1z.symm N)));have ke:Kz z TO g l s.heap d:=λc o I J U X e=>C.extBut _ _ J (B.extBut _ _ X (r.extBut _ _ J (q.extBut _ _ U (n.extBut _ _ I e))));have v1:d.IsTupleIter g t (j+1):=tit_keep ub λo e=>C.extBut _ _ D.TOi1.symm (B.extBut _ _ D.i12 (r.extBut _ _ D.TOi1.symm e));have v2:d.IsTupleIter l u (j+1):=tit_keep ud λo e=>C.extBut _ _ D.TOi2.symm e;have lz:z<d.objs.size:=A9 ze;show Aa _ _ (Cw (.ref z) (.ref d.objs.size) >>= _) _ _ _;refine AI ?_;unfold Cw;have zf:EW (d.push {cls:=.type "tuple",data:=.seq (Hs.toArray [x,y])}) z TI TO .ellipsis:=AR _ ze;refine AI (C7 zf (by simp) λhg Y Z=>?_)
 replace Y:EW hg z TI TO (rawInt d.objs.size):=Y
 refine C7 Y (by simp) λE L si=>?_
 replace L:EW E z TI TO (rawInt d.objs.size):=L
 have M:∀c o,c≠z->d.get? c=AA o->E.get? c=AA o:=λc o p e=>si.extBut _ _ p (Z.extBut _ _ p (AR _ e));have pn:CZ E d.objs.size x y:=si.extBut _ _ (Ep lz) (Z.extBut _ _ (Ep lz) (Af _ rfl));have G:E.objs.size=d.objs.size+1:=by rw[si.1,Z.1,Bo]
 rw[sz]at L pn G;refine AZ #[_,rfl,?_];show Q (.ref d.objs.size) _;rw[sz];exact k E L (M _ _ D.TOz H) (tit_keep v1 λo e=>M _ o D.i1z e) (tit_keep v2 λo e=>M _ o D.i2z e) pn G λc o I J U X e=>M c o I (ke c o I J U X e)
def ziR{z TI TO d g l C:AJ}{j:Ht}{xs:IH AG}{a b:AG}{Q:Fin->AK->Prop}(E:A.handled=AD)(D:GT z TI TO d g l C)
  (f:EW s.heap z TI TO .none) (G:CZ s.heap TI (.ref d) (.ref g)) (Y:CZ s.heap TO a b) (H:s.heap.IsTupleIter d l j) (I:s.heap.IsTuple l xs) (ex:xs[j]?=AD)
  (k:∀m e,Kz z TO d g s.heap m->(∃o,m.get? e=AA o/\o.cls=.type "StopIteration")->Er (.ref e) {s with heap:=m}):
  Aa (model pg wd) A (D4.«zip.__next__» #[[.ref z],[]]) Q Er s:=by
 show Aa _ _ (field (.ref z) 2 >>= _) _ _ _;refine AI (BQ f rfl (x:=.bool AB) rfl ?_);show Aa _ _ (field (.ref z) 3 >>= _) _ _ _;refine AI (BQ f rfl (x:=.ref TI) rfl ?_);refine AI (C3 G rfl ?_);show Aa _ _ (B4 (.ref z) >>= _) _ _ _;refine AI ?_;unfold B4;refine AI (BQ f rfl (x:=.none) rfl (AZ ?_));erw[ID];refine AI (Eo ?_);refine AI (BQ f rfl (x:=.ref TO) rfl ?_);refine AI (C7 f (by simp) λJ n p=>?_)
 replace n:EW J z TI TO .ellipsis:=n
 refine AI ?_;erw[Ga,Gj,FH,HE];refine AI (AI (E3 ?_));show Aa _ _ (BN (.ref d) >>= _) _ _ _;refine AI (zeh E (tit_keep H λo e=>p.extBut _ _ D.i1z e) (zch I λo e=>p.extBut _ _ D.l1z e) ex λL e t M=>?_);let#[N,r,u]:=M;have w:EW L z TI TO .ellipsis:=t _ _ D.i1z.symm n;have O:e≠z:=λq=>by subst q;rw[w]at r;cases r;simp at u
 exact C7 w (by simp) λU _ y=>k U e (λc o B _ X _ q=>y.extBut _ _ B (t _ _ X (p.extBut _ _ B q))) #[N,y.extBut _ _ O r,u]
theorem pyNext_zipT{z TI TO d f g l:AJ}{j:Ht}{xs ys:IH AG}{x y a b:AG}{Q:Option AG->AK->Prop}(D:GT z TI TO d f g l)
  (m:EW s.heap z TI TO .none) (o:CZ s.heap TI (.ref d) (.ref f)) (p:CZ s.heap TO a b) (q:s.heap.IsTupleIter d g j) (r:s.heap.IsTupleIter f l j) (t:s.heap.IsTuple g xs) (u:s.heap.IsTuple l ys) (ex:xs[j]?=AA x) (w:ys[j]?=AA y)
  (k:∀c,EW c z TI TO (rawInt s.heap.objs.size)->CZ c TO x y->c.IsTupleIter d g (j+1)->c.IsTupleIter f l (j+1)->CZ c s.heap.objs.size x y->c.objs.size=s.heap.objs.size+1->Kz z TO d f s.heap c->Q (AA (.ref s.heap.objs.size)) {s with heap:=c}):
  Aa (model pg wd) A (pyNext (.ref z)) Q Er s:=by have n:s.TypeIs (.ref z) "zip":=#[_,m,rfl];unfold pyNext;exact AI (wpAny_attempt (B7 (name:=AE "__next__") n Dh (C2 Dh n Gb (zgb D m o p q r t u ex w λc B C E G H I J=>AZ (k c B C E G H I J)) (GU _))))
theorem pyNext_zipE{z TI TO c d f n:AJ}{j:Ht}{xs:IH AG}{a b:AG}{Q:Option AG->AK->Prop}(p:A.handled=AD)(D:GT z TI TO c d f n)
  (l:EW s.heap z TI TO .none) (q:CZ s.heap TI (.ref c) (.ref d)) (r:CZ s.heap TO a b) (t:s.heap.IsTupleIter c f j) (u:s.heap.IsTuple f xs) (ex:xs[j]?=AD)
  (k:∀g,Kz z TO c d s.heap g->Q AD {s with heap:=g}):Aa (model pg wd) A (pyNext (.ref z)) Q Er s:=by have m:s.TypeIs (.ref z) "zip":=#[_,l,rfl];unfold pyNext;refine AI (wpAny_attempt (B7 (name:=AE "__next__") m Dh (C2 Dh m Gb (ziR p D l q r t u ex λg e w x=>?_) (GU _))));let#[o,y,B]:=x;exact AI (wpAny_isInstance (T:="StopIteration") (b:=AC) #[o,y,B] isSubtype_stop (AZ (k _ w)))
end
abbrev ti(l:AJ):Obj:={cls:=.type "tuple_iterator",data:=.fields (Hs.toArray [.ref l,.int 0 0])}
abbrev yin(h:BB)(a:AJ):Heap:=h.push (ti a)
abbrev yio(h:BB)(a b:AJ):Heap:=(yin h a).push (ti b)
abbrev yip(h:BB)(a b:AJ):Heap:=(yio h a b).push {cls:=.type "tuple",data:=.seq (Hs.toArray [.ref h.objs.size,.ref (yin h a).objs.size])}
abbrev yiq(h:BB)(a b:AJ):Heap:=(yip h a b).push {cls:=.type "tuple",data:=.seq (Hs.toArray [.none,.none])}
abbrev yh6(h:BB)(a b:AJ):Heap:=(yiq h a b).push {cls:=.type "zip",data:=.fields (Hs.toArray [.none,.bool AB,.bool AB,.ref (yio h a b).objs.size,.ref (yip h a b).objs.size])}
def zga(a b:AJ)(xs ys:IH AG):
  Hi (D4.«zip.__new__» #[[.type "zip",.ref a,.ref b],[]]) (λ_ R s=>s.heap.IsTuple a xs/\s.heap.IsTuple b ys/\R (.ok (.ret (.ref (yiq s.heap a b).objs.size))) {s with heap:=yh6 s.heap a b}):=
 .of_wp λc w A R s h=>by
  let#[f,g,d,j,os]:=s;let#[m,n,h]:=h;have l:=sub_zip;have T1:GP (Ge #[f,g,d,j,os]) a xs:=m;have T2:GP (Ge #[f.push (ti a),g,d,j,os]) b ys:=zch n λo e=>AR _ e
  wp_walk using CJ T1,CJ T2
  exact#[_,rfl,h]
theorem call_zipT{pg:Ae}{wd:Aq}{A:Ar}{w:AG->AK->Prop}{s:AK}{a c:AJ}{xs ys:IH AG}{Q:AG->AK->Prop}(x:s.heap.IsTuple a xs)(y:s.heap.IsTuple c ys)
  (k:∀f,EW f (s.heap.objs.size+4) (s.heap.objs.size+2) (s.heap.objs.size+3) .none->CZ f (s.heap.objs.size+2) (.ref s.heap.objs.size) (.ref (s.heap.objs.size+1))->CZ f (s.heap.objs.size+3) .none .none->f.IsTupleIter s.heap.objs.size a 0->f.IsTupleIter (s.heap.objs.size+1) c 0 ->
   (∀b o,s.heap.get? b=AA o->f.get? b=AA o)->Q (.ref (s.heap.objs.size+4)) {s with heap:=f}):Aa (model pg wd) A (call (.type "zip") [.ref a,.ref c]) Q w s:=by
 refine callType_new F.called_zip ⋯ (F.typeCall_zip_2 _ _) (F.newCall_zip_2 _ _) (λg=>F.args_object_init_3 g _ _) F.entry_zip_new (zga a c xs ys) #[x,y,?_];have j:(yin s.heap a).objs.size=s.heap.objs.size+1:=Bo ..;have l:(yio s.heap a c).objs.size=s.heap.objs.size+2:=by rw[Bo,j]
 have m:(yip s.heap a c).objs.size=s.heap.objs.size+3:=by rw[Bo,l]
 have p:(yiq s.heap a c).objs.size=s.heap.objs.size+4:=by rw[Bo,m]
 have d:∀{h:BB} {o:Bd} {b:AJ} {u:Bd},h.get? b=AA u->(h.push o).get? b=AA u:=λe=>AR _ e;have n:(yh6 s.heap a c).get? (yiq s.heap a c).objs.size=AA _:=Af _ rfl;have q:(yh6 s.heap a c).get? (yip s.heap a c).objs.size=AA _:=d (Af _ rfl);have r:(yh6 s.heap a c).get? (yio s.heap a c).objs.size=AA _:=d (d (Af _ rfl));have t:(yh6 s.heap a c).get? (yin s.heap a).objs.size=AA _:=d (d (d (Af _ rfl)));have z:(yh6 s.heap a c).get? s.heap.objs.size=AA _:=d (d (d (d (Af _ rfl))));rw[l,m,p]at n;rw[j,l]at r;rw[m]at q;rw[j]at t;show _/\_;rw[p];exact#[#[_,n,rfl],k _ n r q #[_,z,rfl,rfl] #[_,t,rfl,rfl] λb o e=>d (d (d (d (d e))))]
end WE
namespace L2
open PySem PySem.Spec PyProof.Rows
def Itz(K:AF)(a b:AJ):It:=
 #[λi H=>∃c d x y,SqT K H a c/\SqT K H b d/\c[i]?=AA x/\d[i]?=AA y,λi H v f=>∃T,H T=AD/\v=.ref T/\∀c d x y,SqT K H a c->SqT K H b d->c[i]?=AA x->d[i]?=AA y->f=upd H T (.tup [x,y]),λi H=>∃c,SqT K H a c/\c.length=i]
def zhG{P:Ae}{w:Aq}{K:AF}{es:Hs AX}{kk:Ht}{pos:Bq}(z TI TO t C a b:AJ)(D:GT z TI TO t C a b):
  Turn P w K (.Tuple es kk pos) (Itz K a b) [z,TI,TO,t,C] z (λi h=>EW h z TI TO .none/\CZ h TI (.ref t) (.ref C)/\(∃p q,CZ h TO p q)/\h.IsTupleIter t a i/\h.IsTupleIter C b i) where
 mem:=by simp
 obj:=λi h st c g=>by
  let#[j,l,#[p,q,n],#[o3,r,_,d3],#[o4,G,_,d4]]:=st;erw[AM,AN,IE]at g;rcases g with rfl|rfl|rfl|rfl|rfl
  .exact#[_,j,λv y=>nomatch y]
  .exact#[_,l,λv y=>nomatch y]
  .exact#[_,n,λv y=>nomatch y]
  .exact#[o3,r,λv y=>by rw[d3]at y;cases y]
  .exact#[o4,G,λv y=>by rw[d4]at y;cases y]
 keep:=λi h h' st k=>by let#[j,l,#[p,q,n],r,G]:=st;exact#[k z (by simp) _ j,k TI (by simp) _ l,#[p,q,k TO (by simp) _ n],WE.tit_keep r λo e=>k t (by simp) o e,WE.tit_keep G λo e=>k C (by simp) o e]
 item:=by
  intro X O Q U g i B s A H E I hf st Y;subst O Q U;let#[xs,ys,x,y,m,L,Z,hy]:=Y;let#[its,rv,p1,_]:=I.tuple m;let#[jts,rw',p2,_]:=I.tuple L;let#[j,l,#[p,q,n],r,G]:=st;let#[u,hu,ru]:=rv.get Z;let#[v,hv,rv2]:=rw'.get hy;refine WE.pyNext_zipT D j l n r G p1 p2 (by simpa using hu) (by simpa using hv) λh1 a1 a2 a3 a4 a5 a6 a7=>#[_,rfl,?_];refine wpAny_letOwnedTupleGo_zip a1 λh2 b1 J=>?_;have lt:∀{c o},s.heap.get? c=AA o->s.heap.objs.size≠c:=λe=>Ep (A9 e);have hTz:s.heap.objs.size≠z:=lt j;have hch:∀c o,c∉[z,TI,TO,t,C]->s.heap.get? c=AA o->h2.get? c=AA o:=λc o f e=>J.extBut _ _ (λd=>f (by simp[d])) (a7 c o (λd=>f (by simp[d])) (λd=>f (by simp[d])) (λd=>f (by simp[d])) (λd=>f (by simp[d])) e);have new:yaa X.prog X.w (upd H s.heap.objs.size (.tup [x,y])) h2 s.heap.objs.size (.tup [x,y]):=#[by show 2<=sizeLine;decide,[u,v],.cons ru (.cons rv2 .nil),_,J.extBut _ _ hTz a5,rfl,_,rfl];have I2:=I.turnLaid (t':=s.toks) hf hch (AS _) new;have gI:CZ h1 TI (.ref t) (.ref C):=a7 _ _ D.TIz D.TITO D.TIi1 D.TIi2 l;refine#[.ref s.heap.objs.size,_,I2,rfl,#[s.heap.objs.size,I.hok.fresh (AS _),rfl,λxs' ys' x' y' hx1 hy1 M N=>?_],#[b1,J.extBut _ _ D.TIz gI,#[_,_,J.extBut _ _ D.TOz a2],WE.tit_keep a3 λo e=>J.extBut _ _ D.i1z e,WE.tit_keep a4 λo e=>J.extBut _ _ D.i2z e],λc g=>?_]
  .rw[I.tuple_inj hx1 m,Z]at M;rw[I.tuple_inj hy1 L,hy]at N
   cases M
   cases N
   rfl
  .have hne:c≠s.heap.objs.size:=λd=>by
    subst d;let#[o3,e3,_]:=r;let#[o4,e4,_]:=G;erw[AM,AN,IE]at g;rcases g with d | d | d | d | d
    .exact lt j d
    .exact lt l d
    .exact lt n d
    .exact lt e3 d
    .exact lt e4 d
   rw[zl hne];exact(hf c g).1
 done:=by intro X O Q U g i B s A H E I hf st Y;subst O Q U;let#[xs,m,Z]:=Y;let#[its,rv,p1,_]:=I.tuple m;let#[j,l,#[p,q,n],r,G]:=st;have hl:=rv.length;refine WE.pyNext_zipE (I.ok.hd g) D j l n r p1 (by simp;lia) λh' kz=>#[rfl,I.turnedL (t':=s.toks) hf λc o f e=>kz c o (λd=>f (by simp[d])) (λd=>f (by simp[d])) (λd=>f (by simp[d])) (λd=>f (by simp[d])) e]
 self:=λ_ _ _ _ _ st q=>Gc st.1 q
def ygb(K:AF)(d:TA):TI:=λA H R=>d A H λf c=>∃a b,f=[.ref a,.ref b]/\(∃g,SqT K c a g)/\(∃j,SqT K c b j)/\R (Itz K a b) c
def zj3{X:Cx}{a b:AX}{es:Hs AX}{C:Ht}{D:Bq}{x:TA}{p pos:Bq}(E:Gl X "zip")(G:X.mg "zip"=AD)(J:PA X [a,b] x)(L:starEach [a,b] X.env=[(AB,eval a X.env),(AB,eval b X.env)]:=by rfl)(f:starEach [b] X.env=[(AB,eval b X.env)]:=by rfl):
  PI X (.Tuple es C D) (.Call (.Name "zip" p) [a,b] [] pos) (ygb X.K x):=by
 intro B s A H R I h;refine B6 (zc0 I E G boot_zip ?_);refine Bz (thn (J pos B s A H _ I h) λus d M=>?_) (by rw[L,f]) (by rw[f];rfl);let#[vs,N,g,O,Q]:=M;let#[o,t,rfl,#[xs,u],#[ys,w],q]:=Q
 cases O with
 |cons r U=>
  cases U with
  |cons Y Z=>
   cases Z
   cases (show _=Ak o from r)
   cases (show _=Ak t from Y)
   let#[its,rv,j,_]:=g.tuple u;let#[jts,rv2,l,_]:=g.tuple w;have b1:o<d.heap.objs.size:=by let#[_,e,_]:=j;exact A9 e
   have b2:t<d.heap.objs.size:=by let#[_,e,_]:=l;exact A9 e
   refine WE.call_zipT j l λh1 y g1 g2 g3 g4 kp=>?_;refine Gc y ?_;refine#[_,[d.heap.objs.size+4,d.heap.objs.size+2,d.heap.objs.size+3,d.heap.objs.size,d.heap.objs.size+1],_,_,N,rfl,g.kept (t':=d.toks) kp,zhG _ _ _ _ _ o t (zipApart_new b1 b2),#[y,g1,#[_,_,g2],g3,g4],λc z=>?_,q];have m:d.heap.objs.size<=c:=by
    erw[AM,AN,IE]at z;rcases z with n | n | n | n | n<;>subst n
    .exact DZ _ 4
    .exact DZ _ 2
    .exact DZ _ 3
    .exact AS _
    .exact DZ _ 1
   exact g.fpOk m (g.hok.fresh m)
end L2
namespace L2
open PySem PySem.Spec PyProof.Rows IC
inductive ycw(K:AF)(cl:Ht->AJ)(w:Aq):Hs (AQ×PV)->Hs CP->Prop
 |nil:ycw K cl w [] []
 |cons {k:AQ} {v:PV} {t:HJ} {u:AG} {x:V} {D:Hs (AQ×PV)} {es:Hs CP} (hr:RelV x u) (hv:∀B A H,ye K cl B A H v x) (h:ycw K cl w D es):ycw K cl w ((k,v)::D) (#[EI w.params k,.str k t,u] :: es)
def GD(K:AF)(w:Aq)(b:AQ->Option AG)(c:Ht->AJ)(x:AQ)(D:Hs (AQ×PV)):Prop:=
 ∃(y:AJ) (a:IH CP) (d:Ht),b x=AA (.ref y)/\K.lookup y=AA #[.type "dict",AD,.dict a d,(Hs.toArray [])]/\(y==sysModules)=AB/\ycw K c w D a.toList/\(D.map (·.1)).Nodup
theorem ycw.pairs{K:AF}{d:Ht->AJ}{P:Ae}{w:Aq}{D:Hs (AQ×PV)}{es:Hs CP}(h:ycw K d w D es):
  ∃a:Hs (AQ×AG),Pairs (strKind P w) es a/\(∀e∈es,∃k,(strKind P w).is k e.key=AC/\e.hash=(strKind P w).hash k)/\a.map (·.1)=D.map (·.1) /\
   (∀s,(valueAt a s).isSome=(yab s D).isSome)/\∀s v,yab s D=AA v->∃u x,valueAt a s=AA u/\RelV x u/\∀B A H,ye K d B A H v x:=by
 induction h with
 |nil=>exact#[[],.nil,λe b=>(by cases b),rfl,λs=>rfl,λs v e=>by cases e]
 |@cons k v t u x D es f g h ih=>
  let#[a,j,l,m,n,o]:=ih;have c:∀s,valueAt ((k,u)::a) s=if k=s then AA u else valueAt a s:=λs=>by
   unfold valueAt;rw[CQ]
   by_cases e:k=s
   .simp[e]
   .simp[e]
  refine#[(k,u)::a,.cons (Fx P w k t) rfl j,λe b=>?_,by rw[AW,AW,m],λs=>?_,λs p e=>?_]
  .rcases AM.1 b with rfl|b
   .exact#[k,Fx P w k t,rfl]
   .exact l e b
  .rw[c,yab]
   by_cases e:k=s
   .rw[Hz e,Hz (by simpa using e)];rfl
   .rw[IA e,IA (by simpa using e),n]
  .rw[yab]at e;rw[c]
   by_cases q:k=s
   .rw[Hz (by simpa using q)]at e
    cases e
    exact#[u,x,by rw[Hz q],f,g]
   .rw[IA (by simpa using q)]at e;let#[r,y,z,C,E]:=o s p e;exact#[r,y,by rw[IA q];exact z,C,E]
section
variable {S:Se}{X:Cx}{C:St}{B:AJ->Prop}{A:Ph}{H:Hp}{st:SO}{pos p:Bq}{a b i:AX}{ca cb:Ce}{x:AQ}{D:Hs (AQ×PV)}{ty:TE}
def zhu{y:AJ}{es:IH CP}{a:Ht}{E:Hs (AJ×Bd)}{s:AK}(I:Inv X E C H s)(b:X.K.lookup y=AA #[.type "dict",AD,.dict es a,(Hs.toArray [])])(c:(D.map (·.1)).Nodup){vs:Hs (AQ×AG)}(d:Pairs (strKind X.prog X.w) es.toList vs)
  (f:∀e∈es.toList,∃k,(strKind X.prog X.w).is k e.key=AC/\e.hash=(strKind X.prog X.w).hash k) (g:vs.map (·.1)=D.map (·.1)):s.heap.DictOf (strKind X.prog X.w) y vs:=
 #[_,es,a,I.kIn y _ b,#[rfl,rfl,rfl],rfl,λe j=>f e (by simpa using j),d,by rw[g];exact c]
def ye0(S:Se)(X:Cx)(D:Hs (AQ×PV))(ty:TE):TE:=λC H Q=>ty C H λz b=>∃s v,z=.str s/\yab s D=AA v/\∀a,(∀B A H,ye X.K S.cl B A H v a)->Q a b
def zk2(n:Gl X x)(h:GD X.K X.w X.mg S.cl x D)(o:PE X i ty)(q:yel i)(r:(x==("__debug__":AQ))=false:=by decide):PE X (.Subscript (.Name x p) i pos) (ye0 S X D ty):=by let#[y,es,ep,w,G,J,L,M]:=h;let#[vs,N,O,U,h4,Y]:=L.pairs (P:=X.prog);intro E s C H Q I Z;refine zlq PySem.F.slot_dict_getitem.lookup q (thn (zcB (v:=.ref y) n w rfl r E s C H (λz b=>z=.ref y/\ty C b λz c=>∃s v,z=.str s/\yab s D=AA v/\∀a,(∀B A H,ye X.K S.cl B A H v a)->Q a c) I #[rfl,Z]) λu s1 d=>?_);let#[z,b,I1,rz,ez,q1]:=d;refine thn (o E s1 C b _ I1 q1) λiv s2 d=>?_;let#[z2,c,j,f,l,v,g,e,q2]:=d;subst ez;subst g;obtain rfl:u=Ak y:=rz;let#[t,rfl]:=f;have m:=zhu j G M N O U;let#[u',a,e1,e2,e3]:=Y l v e;exact#[m.typeIs,wpAny_getItem_of (Fx X.prog X.w l t) m.mapOf e1 #[a,c,j.tok _,e2,q2 a e3]]
def zlX(d:Gl X x)(h:GD X.K X.w X.mg S.cl x D)(f:PE X b (tE S X cb))(g:yel b:=by exact λ_ _=>rfl)(j:(x==("__debug__":AQ))=false:=by decide):PE X (.Subscript (.Name x p) b pos) (tE S X (.dix D cb)):=
 (zk2 d h f g j).imp λC H Q #[B,A,st,Y,l,m,h]=>by
  erw[ev]at h;refine tE.bind l m h λz n v o A1 G a r c t=>?_;let#[w,e,q]:=zaa t a
  cases v with
  |str u=>
   erw[ye]at c;exact#[u,w,c,e,λy E=>q y n A1 .rfl a (E _ _ _)]
  |_=>cases e
def yhB(y:AJ)(D:Hs (AQ×PV)):R2:=λx z H Q=>z=.ref y/\∃s,x=.str s/\Q (.bl (yab s D).isSome) H
def zmt(l:Gl X x)(h:GD X.K X.w X.mg S.cl x D)(m:PE X a (tE S X ca))(n:behindInMarks .In (.Name x p)=false:=by ac_rfl)(o:(x==("__debug__":AQ))=false:=by decide):PE X (.Compare a [.In] [.Name x p] pos) (tE S X (.din ca D)):=by
 let#[y,es,ep,d,r,f,G,J]:=h;let#[vs,g,L,M,N,h5]:=G.pairs (P:=X.prog);have O:OpR X (compareOp .In) (yhB y D):=by intro E s C H z1 z2 v u Q I U Z #[ez,c,ex,q];subst ez;subst ex;obtain rfl:u=Ak y:=Z;let#[t,rfl]:=U;have dd:=zhu I r J g L M;refine wpAny_in_of (Fx X.prog X.w c t) f dd.mapOf #[.bl (yab c D).isSome,H,I.tok _,?_,q];rw[N];rfl
 refine(zet O m (zcB (v:=.ref y) l d rfl o) n).imp λC H Q kq=>?_;let#[B,A,st,Y,rs,re,h]:=kq;erw[ev]at h;refine tE.bind rs re h λz H1 v st1 A1 s1 b re1 j g=>?_;let#[w,e,q]:=zaa g b
 cases v with
 |str c=>
  erw[ye]at j
  cases e
  exact#[rfl,c,j,q _ H1 A1 .rfl b (by erw[ye])]
 |_=>cases e
def zd6:∀(xs ys:Hs PV) (i:Ht) {x y:PV},xs[i]?=AA x->ys[i]?=AA y->(yag xs ys)[i]?=AA (.tup [x,y])
 |[],_,i,_,_,h,_=>by simp at h
 |_::_,[],i,_,_,_,h=>by simp at h
 |x::xs,y::ys,0,_,_,a,b=>by simp at a b;simp[yag,a,b]
 |x::xs,y::ys,i+1,_,_,a,b=>by erw[Ah]at a b;erw[yag,Ah];exact zd6 xs ys i a b
def zej:∀(xs ys:Hs PV),xs.length<=ys.length->(yag xs ys).length=xs.length
 |[],_,_=>by simp[yag]
 |_::_,[],h=>by simp at h
 |x::xs,y::ys,h=>by erw[yag,AV,zej xs ys (by simpa using h)]
def zkn{k j:Hy}{vs a:Hs PV}{xs ys:Hs V}{y z:AJ}(rt:ybP X.K B A H k y xs)(l:yq X.K S.cl B A H vs xs)(c:ybP X.K B A H j z ys)(p:yq X.K S.cl B A H a ys)(d:vs.length<=a.length):Drw S X B A H (yag vs a) (Itz X.K y z):=by have N:=l.length;have I:=p.length;have O:=zej vs a d;refine#[λr t s=>#[xs,(rt.step s).sq,by lia],λi r t s J=>#[xs,ys,xs[i]'(),ys[i]'(),(rt.step s).sq,(c.step s).sq,by simp[show i<xs.length by lia],by simp[show i<ys.length by lia]],λi r t st x Q U u s L J q=>?_];let#[T,C,rfl,q]:=q;obtain⟨v,D⟩:∃v,vs[i]?=AA v:=#[vs[i]'(),by simp[show i<vs.length by lia]];obtain⟨w,E⟩:∃w,a[i]?=AA w:=#[a[i]'(),by simp[show i<a.length by lia]];let#[G,f,M]:=l.get i D;let#[g,m,n]:=p.get i E;have e:=q xs ys G g (rt.step s).sq (c.step s).sq f m;subst e;refine#[.tup [v,w],zd6 vs a i D E,.tup_new C L ?_,λb o e=>by rw[zl (zp e C)];exact e];erw[yq];exact#[G,[g],rfl,(M.moreB u).step s,g,[],rfl,(n.moreB u).step s,rfl]
def zlI{es:Hs AX}{z:Ht}{tp:Bq}(D:Gl X "zip")(E:X.mg "zip"=AD)(G:PE X a (tE S X ca))(I:PE X b (tE S X cb))(r:starEach [a,b] X.env=[(AB,eval a X.env),(AB,eval b X.env)]:=by rfl)(c:starEach [b] X.env=[(AB,eval b X.env)]:=by rfl):
  PI X (.Tuple es z tp) (.Call (.Name "zip" p) [a,b] [] pos) (tI S X (.zip ca cb)):=
 (zj3 D E (zan G (zan I zoB c) (by rw[r,c])) r c).imp λC H R #[B,A,st,Y,J,L,h]=>by
  erw[IC.vjq0,IC.vjq1,IC.vjq2,IC.vjq3,IC.vjq4,IC.vjq5,IC.vjq6,IC.vjq7,IC.vjq8]at h;refine tE.bind J L h λx H1 v M A1 s1 g m t N=>tE.bind g m N λy H2 w O A2 n o Q rw q=>?_;let#[zs,e,q]:=zgZ q
  cases v with
  |tp k U=>
   cases w with
   |tp j Z=>
    erw[yey]at e
    by_cases d:U.length<=Z.length
    .rw[Hz d]at e
     cases e
     erw[ye]at t rw;let#[a1,xs,rfl,u,l]:=t;let#[a2,ys,rfl,f,l2]:=rw;exact#[a1,a2,rfl,#[xs,(u.step n).sq],#[ys,f.sq],q.ok o (zkn (u.step n) (l.step n) f l2 d)]
    .rw[IA d]at e
     cases e
   |_=>cases e
  |_=>cases e
end
section
variable {K:AF}{cl:Ht->AJ}{B:AJ->Prop}{A:Ph}{H:Hp}{st:SO}
theorem nth{D y:AJ}(b:¬Bx B D y)(n:AA y∉A):¬B y/\AA y∉A++[AA D]:=#[λz=>b (.inl z),λz=>by
 rcases Am.1 z with z|z
 .exact n z
 .simp only[AM,AN,IE,EV]at z;exact b (.inr z)]
mutual
theorem ye.thaw{D:AJ}:∀(v:PV) (x:V),ye K cl (Bx B D) A H v x->ye K cl B (A++[AA D]) H v x
 |.non,x,h=>by erw[ye]at h ⊢;exact h
 |.bl b,x,h=>by erw[ye]at h ⊢;exact h
 |.int i,x,h=>by erw[ye]at h ⊢;exact h
 |.str y,x,h=>by erw[ye]at h ⊢;exact h
 |.tp k d,x,h=>by
  erw[ye]at h ⊢;let#[y,a,e,r,l]:=h;refine#[y,a,e,?_,yq.thaw d a l];rcases r with⟨r,b,n⟩|r
  .exact .inl #[r,nth b n]
  .exact .inr r
 |.lst d,x,h=>by erw[ye]at h ⊢;let#[y,a,e,#[r,b,n],l]:=h;exact#[y,a,e,#[r,nth b n],yq.thaw d a l]
 |.loc n,x,h=>by erw[ye]at h ⊢;let#[f,y,e,q]:=h;exact#[by simp;lia,y,e,λb z=>q b (by rw[AY f]at z;exact z)]
 |.fnc j,x,h=>by erw[ye]at h ⊢;exact h
 |.exn c,x,h=>by erw[ye]at h ⊢;let#[y,e,r,b,n]:=h;exact#[y,e,r,nth b n]
 |.scr d,x,h=>by
  erw[ye]at h ⊢;let#[y,a,e,r,l]:=h;refine#[y,a,e,?_,yq.thaw d a l];rcases r with⟨r,b,n⟩|r
  .exact .inl #[r,nth b n]
  .exact .inr r
theorem yq.thaw{D:AJ}:∀(v:Hs PV) (x:Hs V),yq K cl (Bx B D) A H v x->yq K cl B (A++[AA D]) H v x
 |[],x,h=>by erw[yq]at h ⊢;exact h
 |v::b,x,h=>by erw[yq]at h ⊢;let#[y,a,e,r,l]:=h;exact#[y,a,e,ye.thaw v y r,yq.thaw b a l]
end
theorem DK.thaw{D:AJ}:∀{a:Hs (PV×PV)} {b:Hs (Key×V)},DK K cl (Bx B D) A H a b->DK K cl B (A++[AA D]) H a b
 |[],b,h=>h
 |(k,v)::r,b,h=>by let#[q,x,t,e,m,c,l]:=h;exact#[q,x,t,e,m,c.thaw,DK.thaw l]
theorem DT.thaw{D:AJ}:∀{a:Hs (PV×PV)} {b:Hs (Hs Key×V)},DT K cl (Bx B D) A H a b->DT K cl B (A++[AA D]) H a b
 |[],b,h=>h
 |(k,v)::r,b,h=>by let#[q,x,t,e,m,c,l]:=h;exact#[q,x,t,e,m,c.thaw,DT.thaw l]
theorem FS.thaw{D:AJ}:∀{a:Hs (AQ×PV)} {b:Hs (AQ×V)},FS K cl (Bx B D) A H a b->FS K cl B (A++[AA D]) H a b
 |[],b,h=>h
 |(k,v)::r,b,h=>by let#[x,t,e,c,l]:=h;exact#[x,t,e,c.thaw,FS.thaw l]
theorem yH.thaw{D:AJ}{u:Hs PV}{ys:Hs V}(rs:yH K cl (Bx B D) A H st)(nB:¬B D)(G:H D=AA (.lst ys))(I:AA D∉A)(l:yq K cl (Bx B D) A H u ys):yH K cl B (A++[AA D]) H (st++[.lst u]):=by
 have w:A.length=st.length:=rs.len;have b:∀{n:Ht} {a:AJ},(A++[AA D])[n]?=AA (AA a)->(n<A.length/\A[n]?=AA (AA a)) \/ (n=A.length/\a=D):=λ{n a} e=>by
  by_cases g:n<A.length
  .rw[AY g]at e;exact .inl #[g,e]
  .rw[Ag ()]at e;rcases (by lia:n-A.length=0 \/ 0<n-A.length)with q|q
   .rw[q]at e;simp at e;exact .inr #[by lia,e.symm]
   .rw[BR (by simp;lia)]at e;cases e
 have E:∀{n:Ht} {a:AJ},A[n]?=AA (AA a)->a≠D:=λe z=>I (z ▸ A1 e);refine#[by simp[w],λm n a d j=>?_,λn a e=>?_,λn o e J=>?_,λa h=>?_,λa h=>rs.dom a (.inl h)]
 .rcases b d with⟨p,d⟩|⟨p,x⟩<;>rcases b j with⟨L,j⟩|⟨L,M⟩
  .exact rs.inj m n a d j
  .exact IB M (E d)
  .exact IB x (E j)
  .lia
 .rcases b e with⟨p,d⟩|⟨p,x⟩
  .let#[o,q,r]:=rs.obj n a d;refine#[o,by rw[AY ()];exact q,?_]
   cases o with
   |lst Q=>let#[y,f,l]:=r;exact#[y,f,l.thaw]
   |dct t N=>cases t<;>(let#[y,f,l]:=r;exact#[y,f,l.thaw])
   |ins c fs=>let#[O,f,l]:=r;exact#[O,f,l.thaw]
   |dead=>exact r.elim
  .subst x;exact#[.lst u,by rw[p,w,Ag (AS _)];simp,ys,G,l.thaw]
 .by_cases g:n<st.length
  .rw[AY g]at e;let#[a,q]:=rs.liv n o e J;exact#[a,by rw[AY ()];exact q]
  .have C:n=st.length:=by
    rcases (by lia:n=st.length \/ st.length<n)with q|q
    .exact q
    .rw[BR (by simp;lia)]at e;cases e
   exact#[D,by rw[C,<-w,Ag (AS _)];simp]
 .rcases Am.1 h with h|h
  .exact λz=>rs.nb a h (.inl z)
  .simp only[AM,AN,IE,EV]at h;subst h;exact nB
end
section
variable {S:Se}{X:Cx}{K:AF}{cl:Ht->AJ}{C:St}{B:AJ->Prop}{A A1:Ph}{H H1:Hp}{st:SO}{Y:IC.Env}{pos p p2 px:Bq}{a b c o tg l elt iter:AX}{ca cb cc ce:Ce}{ci:Cit}{ct:Tg}
def zho{Rel:Ph->Hp->PV->V->Prop}{r:R (Hs PV)}{Q:VK}(h:Run S X C B A H Rel ((ybi r).bind ycb) Q):∃b a,r=.ok b a/\b.length<=1000000/\∀x c d,Step A H d c->yH X.K S.cl B d c (a++[.lst b])->Rel d c (.loc a.length) x->Q x c:=by
 cases r with
 |ok b a=>
  by_cases f:b.length<=1000000
  .simp only[ybi,Hz f]at h;exact#[b,a,rfl,f,h]
  .simp only[ybi,IA f]at h;exact h.elim
 |exc k s=>exact h.elim
 |bad=>exact h.elim
def zfP{sl:Hs (Option Ht)}(hf:yZ ct sl=AC){H:Hp}{Q:VK}(h:tE S X (.thw (.comp sl ct ci cc ce)) C H Q):yb2 sl (tI S X ci) (tG0 S X.K ct) (tT0 S X.K cc) (tE0 S X.K ce) C H Q:=by
 let#[B,A,st,Y,l,g,h]:=h;rw[show ev S.call Y st (.thw (.comp sl ct ci cc ce))=(ev S.call Y st (.comp sl ct ci cc ce)).bind ycb from rfl,v_comp,R.bind_assoc]at h;refine#[B,A,st,Y,l,g,(Run.bind h).mono λJ H1 m=>?_];let#[G,p,A1,r,d,t,f]:=m;refine λD j=>?_;let#[I,u,e,w,f]:=zho f;refine zcU hf d (g.step r) t j e w λA2 x L c y nB z a E=>f (.ref D) x (A2++[AA D]) #[λb o n q=>c.keep b o n q,BK c.len (by simp),λn b h e=>by rw[AY (Ad h c.len)]at e;exact c.pre n b h e,λb h=>by
   rcases Am.1 h with h|h
   .exact c.new b h
   .obtain rfl:=Ac (Hs.mem_singleton.1 h);exact .inr j] (yH.thaw a nB y z E) ?_
 erw[ye];refine#[by simp[a.len],D,rfl,λb e=>?_];rw[<-a.len,Ag (AS _)]at e;simpa using e.symm
def ziX{sc:BU}{NC:Hs AQ}{sl:Hs (Option Ht)}{b:Hs AX}{i:Ht}{x:AQ}{a:Bq}(m:X.N.Nodup)(c:X.N[i]?=AA x)(o:Loc X.env.scope x)(p:X.calm=AC)(O:yai X sc NC sl)(hf:yZ ct sl=AC)(q:PI X tg iter (tI S X ci))(r:∀j,PG (cxC X sc NC j) tg (tG0 S X.K ct))
  (t:∀j,PTs (cxC X sc NC j) b (tT0 S X.K cc)) (u:∀j,PE (cxC X sc NC j) elt (tE0 S X.K ce))
  (d:swapsWith (.ListComp elt [#[tg,iter,b,0]] sc pos) (AA (.Name x px)) a.line X.env=pure true:=by rfl) (w:∀x,foldedSetIterable iter X.env x=pure x:=by intro _;rfl)
  (f:X.fn x=AC \/ X.env.scope.names.lookup x=AA .local:=by first|exact .inl rfl|exact .inr rfl|assumption):PS X (.Assign [.Name x px] (.ListComp elt [#[tg,iter,b,0]] sc pos) a) (tS S X (.asg (.n i) (.thw (.comp sl ct ci cc ce)))):=
 (zgC m c o p O q r t u d w f).imp λD C H #[B,A,st,Y,y,z,h]=>by refine zfP hf ?_;erw[ex]at h;exact tE.fl y z h λx H1 v E A1 s g l G I=>I _ H1 A1 .rfl g (l.set i G)
end
section
variable {K:AF}{cl:Ht->AJ}{B:AJ->Prop}{A:Ph}{H:Hp}{st:SO}
theorem FS.lookup{f:AQ}:∀{fs:Hs (AQ×PV)} {a:Hs (AQ×V)},FS K cl B A H fs a->(∀v,fs.lookup f=AA v->∃x,a.lookup f=AA x/\ye K cl B A H v x)/\(fs.lookup f=AD->a.lookup f=AD)
 |[],a,h=>by
  cases (show a=[]from h)
  exact#[nofun,λ_=>rfl]
 |(k,v)::r,a,h=>by
  let#[x,s,rfl,b,l]:=h;let#[c,d]:=FS.lookup (f:=f) l;erw[CT]
  cases e:f==k with
  |true=>exact#[λw z=>by cases z;exact#[x,rfl,b],λz=>by cases z]
  |false=>exact#[c,d]
theorem FS.put{f:AQ}{v:PV}{x:V}(r:ye K cl B A H v x):∀{fs:Hs (AQ×PV)} {a:Hs (AQ×V)},FS K cl B A H fs a->FS K cl B A H (ycv f v fs) (ya7 f x a)
 |[],a,h=>by
  cases (show a=[]from h)
  exact#[x,[],rfl,r,rfl]
 |(k,w)::q,a,h=>by
  let#[y,s,rfl,b,l]:=h;erw[ycv,ya7]
  by_cases c:k=f
  .rw[Hz c,Hz c];exact#[x,s,rfl,r,l]
  .rw[IA c,IA c];exact#[y,_,rfl,b,FS.put r l]
theorem FS.len:∀{fs:Hs (AQ×PV)} {a:Hs (AQ×V)},FS K cl B A H fs a->fs.length=a.length
 |[],a,h=>by cases (show a=[]from h);rfl
 |(k,w)::q,a,h=>by let#[y,s,rfl,b,l]:=h;simp[FS.len l]
theorem yH.ins{n c:Ht}{fs:Hs (AQ×PV)}{x:V}(rs:yH K cl B A H st)(r:ye K cl B A H (.loc n) x)(h:st[n]?=AA (.ins c fs)):∃y b d,x=.ref y/\A[n]?=AA (AA y)/\H y=AA (.ins (cl c) d b)/\FS K cl B A H fs b:=by
 erw[ye]at r;let#[p,y,rfl,j]:=r;let#[a,f]:=rs.liv n _ h (by intro z;cases z);let#[o,g,m]:=rs.obj n a f;have e:=j a f;subst e;rw[h]at g
 cases g
 let#[b,#[d,q],l]:=m;exact#[a,b,d,rfl,f,q,l]
end
section
variable {S:Se}{X:Cx}{J:St}{B:AJ->Prop}{G G1:Ph}{H H1:Hp}{st:SO}{Y:IC.Env}{p pos pos' p2 apos:Bq}{a b d o e:AX}{ca cb cc:Ce}{es:Hs AX}{ces:Ces}{c i k:Ht}{f m x:AQ}{fa:AJ}{fd:BC}{ps:Hs AQ}
def ze5{st:SO}{x v:PV}(h:ybt c st x f=AA v):∃n fs,x=.loc n/\st[n]?=AA (.ins c fs)/\fs.lookup f=AA v:=by
 cases x with
 |loc n=>
  erw[ybt]at h;split at h
  .rename_i a fs e;split at h
   .rename_i q;subst q;exact#[n,fs,rfl,e,h]
   .cases h
  .cases h
 |_=>cases h
def zfD{st a:SO}{x v:PV}(h:yb5 c st x f v=AA a):∃n fs,x=.loc n/\st[n]?=AA (.ins c fs)/\fs.length<1000/\a=st.set n (.ins c (ycv f v fs)):=by
 cases x with
 |loc n=>
  erw[yb5]at h;split at h
  .rename_i d fs e;split at h
   .rename_i q;let#[q,b]:=q;subst q
    cases h
    exact#[n,fs,rfl,e,b,rfl]
   .cases h
  .cases h
 |_=>cases h
def zi2{st:SO}{x:PV}{t:Hy}(h:ycB c m st x=AA t):∃n fs,x=.loc n/\st[n]?=AA (.ins c fs)/\fs.lookup m=none:=by
 cases x with
 |loc n=>
  erw[ycB]at h;split at h
  .rename_i b fs e;split at h
   .rename_i q;let#[q,a]:=q;subst q;exact#[n,fs,rfl,e,a]
   .cases h
  .cases h
 |_=>cases h
def zmf(g:Cls X.K (S.cl c))(j:yay X.K (S.cl c) f)(m:PE X a (tE S X ca))(o:attributeBase a f X.env (eval a X.env)=eval a X.env:=by rfl):PE X (.Attribute a f pos) (tE S X (.fld c ca f)):=
 (zlZ m o).imp λJ H Q #[B,G,st,Y,p,r,h]=>by erw[ev]at h;refine tE.bind p r h λx H1 v t G1 N b u w A=>?_;let#[z,e,q]:=zaa A b;let#[n,fs,rfl,d,l]:=ze5 e;let#[y,C,D,rfl,_,E,I]:=b.ins w d;let#[x,L,M]:=I.lookup.1 z l;exact#[y,S.cl c,D,C,x,rfl,E,g,j,L,q x H1 G1 .rfl b M]
def znt(C:Cls X.K (S.cl c))(E:yay X.K (S.cl c) f)(I:PE X a (tE S X ca))(L:PE X b (tE S X cb))(M:swapsWith b (AA (.Attribute a f pos')) pos.line X.env=pure false:=by rfl):PS X (.Assign [.Attribute a f pos'] b pos) (tS S X (.sfl c ca f cb)):=
 (zmp I L M).imp λD J H #[B,G,st,Y,N,O,h]=>by
  erw[ex]at h;refine tE.fl N O h λQ H1 v U G1 s1 j l Z h1=>tE.fl j l h1 λx' u x m G2 s2 d p rx g=>?_
  cases e:yb5 c m x f v with
  |none=>rw[e]at g;exact g.elim
  |some st4=>
   rw[e]at g;let#[n,fs,rfl,q,hl,rfl]:=zfD e;let#[y,w,r,rfl,z,hy,A]:=d.ins rx q;refine#[y,S.cl c,r,w,rfl,hy,C,E,by rw[<-A.len];exact hl,?_];have t:Step G2 u G2 (L2.upd u y (.ins (S.cl c) r (ya7 f Q w))):=.put (A1 z);exact g J _ G2 t (d.put (o:=.ins c (ycv f v fs)) z #[_,#[r,zq],(FS.put (Z.step s2) A).step t]) (p.step t)
theorem noX:ybD (CX1 X.prog X.w) X (λ_ _ _=>II):=λL J H s e a _ z=>by let#[_,_,_,_,_,_,_,_,_,_,_,_,_,_,z]:=z;exact z.elim
def zhe{vs:Hs PV}{xs:Hs V}{Q:VK}{rs:yH X.K S.cl B G H st}(l:yq X.K S.cl B G H vs xs)(h:Run S X J B G H (RV S X B) ((ybw (S.call i (.loc st.length::vs) (st++[.ins c []]))).bind λv g=>newV st.length v g) Q):
  ∀x a,H x=AD->H a=AD->a≠x->spI X.K S.cl S.call i (.ref x::xs) (L2.upd (L2.upd H a (.own x)) x (.ins (S.cl c) a [])) (λv t=>v=.non/\Q (.ref x) t) (λ_ _ _=>II):=by
 intro x a u f w;have b:L2.upd H a (.own x) x=none:=by rw[zl (BW w)];exact u
 have n:Step G H G (L2.upd H a (.own x)):=.upd f;have d:=rs.upd (o:=.own x) f;have p:Step G (L2.upd H a (.own x)) (G++[AA x]) (L2.upd (L2.upd H a (.own x)) x (.ins (S.cl c) a [])):=.push b;have j:=d.push b (d.nB b) (o:=.ins c []) #[[],#[a,zq],rfl];have q:ye X.K S.cl B (G++[AA x]) (L2.upd (L2.upd H a (.own x)) x (.ins (S.cl c) a [])) (.loc st.length) (.ref x):=.loc_new d;refine#[B,G++[AA x],st++[.ins c []],.loc st.length::vs,j,?_,?_]
 .simp only[yq];exact#[.ref x,xs,rfl,q,(l.step n).step p]
 .cases e:S.call i (.loc st.length::vs) (st++[.ins c []])with
  |ok v y=>
   rw[e]at h;erw[ybw,R.bind]at h
   cases v with
   |non=>
    intro z A C s m r;erw[ye]at r;exact#[r,h (.ref x) A C ((n.trans p).trans s) m (q.step s)]
   |_=>exact h.elim
  |exc k s=>rw[e]at h;exact h.elim
  |bad=>rw[e]at h;exact h.elim
def zm4(M:Mk X.K (S.cl c) fa)(F:yaW X.prog X.w X.K X.mg X.base (CX1 X.prog X.w) k fa fd ps (spI X.K S.cl S.call i))(f:yaG (k+1) X.A)(g:Gl X x)(j:X.mg x=AA (.ref (S.cl c)))(l:Binds X.K fd ps [])
  (m:PA X (e::es) (tAs S X ces)) (a:(x==("__debug__":AQ))=false:=by decide) (n:starEach (e::es) X.env=(AB,eval e X.env)::starEach es X.env:=by rfl) (b:(backTo pos (starEach es X.env)).any (·.1)=false:=by rfl):
  PE X (.Call (.Name x p) (e::es) [] pos) (tE S X (.new c i ces)):=
 (zlw M F f g j l .nil noX m a n b).imp λJ H Q #[B,G,st,Y,rs,o,h]=>by erw[ev]at h;refine tAs.bind rs o h λw H1 y q G1 z d r t u=>?_;rw[BE];exact zhe (rs:=d) t u
def yce(CX:CXT)(X:Cx)(C:AJ)(m:AQ)(sp:Sp)(c:TE)(t:TA):TE:=λJ H Q=>c J H λx H1=>∃y d fs,x=.ref y/\H1 y=AA (.ins C d fs)/\fs.lookup m=AD/\t J H1 λf a=>∃E:XK,sp (.ref y::f) a Q E/\∀L s e b,Inv X L J a s->CX X.stack a s E e b->X.xe e b
def zij{CX:CXT}{sp:Sp}{C:AJ}{j:TE}{t:TA}{pl:HR Hy}(A:PE X o j)(c:Cls X.K C)(n:Meth X.K C m fa)(F:yaW X.prog X.w X.K X.mg X.base CX k fa fd ps sp)(B:yaG k X.A)(D:Binds X.K fd ps [])(G:PA X (e::es) t)
  (a:starEach (e::es) X.env=(AB,eval e X.env)::starEach es X.env:=by rfl) (b:(backTo pos (starEach es X.env)).any (·.1)=false:=by rfl)
  (M:eval (.Call (.Attribute o m apos) (e::es) [] pos) X.env=(do
   let p <-eval o X.env
   standAt apos.atName
   let (f,first) <-holding [p] (getMethod p m pl)
   callWith pos f first (backTo pos (starEach (e::es) X.env)) (backToKw pos (keywordEach [] X.env))):=by rfl):
  PE X (.Call (.Attribute o m apos) (e::es) [] pos) (yce CX X C m sp j t):=by intro L s J H Q I h;refine FT (pl:=pl) (thn (A L s J H _ I h) λu N d=>?_) M;let#[x,H1,w,O,y,dx,fs,ex,U,l,q]:=d;subst ex;obtain rfl:u=Ak y:=O;refine zc6 w U c n l ?_;refine Dx (first:=[.ref y]) (h₀:=X.base) I.ok.mod.kin n.kp (thn (G pos L N J H1 _ w q) λus Y d=>?_) a b;let#[vs,H2,g,r,E,Z,hx]:=d;refine #[g.kIn,?_];exact zdw (us:=.ref y::us) (vs:=.ref y::vs) F B D .nil g (.cons rfl r) (by rw[BE];exact Z) λe s' z=>hx L Y e s' g z
def zgd{CX:CXT}{sp:Sp}{C:AJ}{b:TE}{pl:HR Hy}(j:PE X o b)(c:Cls X.K C)(d:Meth X.K C m fa)(F:yaW X.prog X.w X.K X.mg X.base CX k fa fd ps sp)(n:yaG k X.A)(p:Binds X.K fd ps [])
  (q:eval (.Call (.Attribute o m apos) [] [] pos) X.env=(do
   let g <-eval o X.env
   standAt apos.atName
   let (f,first) <-holding [g] (getMethod g m pl)
   callWith pos f first (backTo pos (starEach [] X.env)) (backToKw pos (keywordEach [] X.env))):=by rfl):
  PE X (.Call (.Attribute o m apos) [] [] pos) (yce CX X C m sp b ydO):=by intro L s J H Q I h;refine FT (pl:=pl) (thn (j L s J H _ I h) λu r t=>?_) q;let#[x,H1,a,w,y,M,fs,ex,A,l,E,B,D]:=t;subst ex;obtain rfl:u=Ak y:=w;refine zc6 a A c d l ?_;exact Fa (first:=[.ref y]) a.kIn d.kp (zdw (us:=[.ref y]) (vs:=[.ref y]) F n p .nil a (.cons rfl .nil) B λe G z=>D L r e G a z)
def zd3{Q:VK}{t:TA}(z:∀{H1:Hp} {G1:Ph} {a:SO} {P:Hs V->Hp->Prop} {u:Hs PV->SO->R PV},yH X.K S.cl B G1 H1 a->yP X.K S.cl B G1 H1 Y J->Run S X J B G1 H1 (RV S X B) ((evs S.call Y a ces).bind u) Q ->
   (∀o f g d G2,Step G1 H1 G2 f->yH X.K S.cl B G2 f d->yP X.K S.cl B G2 f Y J->yq X.K S.cl B G2 f g o->Run S X J B G2 f (RV S X B) (u g d) Q->P o f)->t J H1 P)
  (rs:yH X.K S.cl B G H st) (A:yP X.K S.cl B G H Y J) (h:Run S X J B G H (RV S X B) ((ev S.call Y st ca).bind λx a=>onO (ycB c m a x) λ_=>(evs S.call Y a ces).bind λg d=>S.call i (x::g) d) Q):
  yce (CX1 X.prog X.w) X (S.cl c) m (spI X.K S.cl S.call i) (tE S X ca) t J H Q:=by
 refine tE.bind rs A h λx H1 v a G1 s1 j p w l=>?_
 cases q:ycB c m a v with
 |none=>rw[q]at l;exact l.elim
 |some b=>
  rw[q]at l;erw[onO]at l;let#[n,fs,rfl,C,D]:=zi2 q;let#[y,E,I,rfl,_,L,M]:=j.ins w C;refine#[y,I,E,rfl,L,M.lookup.2 D,z j p l λo f g d G2 N r O U Z=>?_];exact zbP r (by erw[yq];exact#[.ref y,o,rfl,w.step N,U]) Z
def zmC{pl:HR Hy}(l:Cls X.K (S.cl c))(p:Meth X.K (S.cl c) m fa)(F:yaW X.prog X.w X.K X.mg X.base (CX1 X.prog X.w) k fa fd ps (spI X.K S.cl S.call i))(q:yaG k X.A)(r:Binds X.K fd ps [])
  (t:PE X o (tE S X ca)) (u:PA X (e::es) (tAs S X ces))
  (a:starEach (e::es) X.env=(AB,eval e X.env)::starEach es X.env:=by rfl) (b:(backTo pos (starEach es X.env)).any (·.1)=false:=by rfl)
  (w:eval (.Call (.Attribute o m apos) (e::es) [] pos) X.env=(do
   let j <-eval o X.env
   standAt apos.atName
   let (f,first) <-holding [j] (getMethod j m pl)
   callWith pos f first (backTo pos (starEach (e::es) X.env)) (backToKw pos (keywordEach [] X.env))):=by rfl):
  PE X (.Call (.Attribute o m apos) (e::es) [] pos) (tE S X (.mcl c i m ca ces)):=
 (zij t l p F q r u a b w).imp λJ H Q #[B,G,st,Y,x,y,h]=>by erw[ev]at h;exact zd3 (λd g z n=>tAs.bind d g z n) x y h
def zlz{pl:HR Hy}(l:Cls X.K (S.cl c))(p:Meth X.K (S.cl c) m fa)(F:yaW X.prog X.w X.K X.mg X.base (CX1 X.prog X.w) k fa fd ps (spI X.K S.cl S.call i))(q:yaG k X.A)(r:Binds X.K fd ps [])
  (u:PE X o (tE S X ca))
  (w:eval (.Call (.Attribute o m apos) [] [] pos) X.env=(do
   let g <-eval o X.env
   standAt apos.atName
   let (f,first) <-holding [g] (getMethod g m pl)
   callWith pos f first (backTo pos (starEach [] X.env)) (backToKw pos (keywordEach [] X.env))):=by rfl):
  PE X (.Call (.Attribute o m apos) [] [] pos) (tE S X (.mcl c i m ca .nil)):=
 (zgd u l p F q r w).imp λJ H Q #[B,G,st,Y,x,y,h]=>by erw[ev]at h;refine zd3 (t:=ydO) (λ{H1 G1 a P z} b d j n=>?_) x y h;erw[IC.vsq0,IC.vsq1,R.bind]at j;exact n [] H1 [] a G1 .rfl b d (by erw[yq]) j
end
inductive yc0(w:Aq)(fa:Ht->AJ):Hs (AQ×Ht)->Hs CP->Prop
 |nil:yc0 w fa [] []
 |cons {k:AQ} {i:Ht} {t:HJ} {D:Hs (AQ×Ht)} {es:Hs CP} (h:yc0 w fa D es):yc0 w fa ((k,i)::D) (#[EI w.params k,.str k t,.ref (fa i)] :: es)
def GDF(K:AF)(w:Aq)(b:AQ->Option AG)(c:Ht->AJ)(x:AQ)(D:Hs (AQ×Ht)):Prop:=
 ∃(y:AJ) (a:IH CP) (d:Ht),b x=AA (.ref y)/\K.lookup y=AA #[.type "dict",AD,.dict a d,(Hs.toArray [])]/\yc0 w c D a.toList/\(D.map (·.1)).Nodup
section
variable {S:Se}{X:Cx}{C:St}{B:AJ->Prop}{A:Ph}{H:Hp}{st:SO}{Y:IC.Env}{pos p p1 p2 p3 p4 p5 p6 p7:Bq}{a b i e n:AX}{es:Hs AX}{ca cn:Ce}{ces:Ces}{x y:AQ}{D:Hs (AQ×Ht)}{ty:TE}{t:TA}{fa:Ht->AJ}{fdd:Ht->BC}{ps:Ht->Hs AQ}{k ix:Ht}
structure Makers(S:Se)(X:Cx)(k:Ht)(D:Hs (AQ×Ht))(fa:Ht->AJ)(fdd:Ht->BC)(ps:Ht->Hs AQ):Prop where
 F:∀s j,D.lookup s=AA j->yaW X.prog X.w X.K X.mg X.base (CX1 X.prog X.w) k (fa j) (fdd j) (ps j) (spI X.K S.cl S.call j)
 kp:∀s j,D.lookup s=AA j->Ax X.K (.ref (fa j))=AC
 b:∀s j,D.lookup s=AA j->Binds X.K (fdd j) (ps j) []
end
section
variable {P:Ae}{w:Aq}{K:AF}{mg:AQ->Option AG}{base:BB}{cl:Ht->AJ}{T:Ht->Option IC.Fn}{fi:Ht}{fn:IC.Fn}{x qual:AQ}{stm:Bf}{f:AJ}{fd:BC}{N ps:Hs AQ}{k m:Ht}
def zii:yaW P w K mg base (CX1 P w) m f fd ps (spI K cl (yc T 0) fi):=
 #[λc H Q E #[_,_,_,_,_,_,h]=>by rw[yc]at h;exact h.elim,λA a s H b d c Q E _ _ _ _ #[_,_,_,_,_,_,h]=>by rw[yc]at h;exact h.elim]
end
theorem yaK.units{k:Ht}{A:Ar}(r:yaK k A):A.units+64<cLine:=by have:=r.un;lia
section
variable {P:Ae}{w:Aq}{K:AF}{mg:AQ->Option AG}{base:BB}{cl:Ht->AJ}{T:Ht->Option IC.Fn}{fi:Ht}{fn:IC.Fn}{x qual:AQ}{stm:Bf}{f:AJ}{fd:BC}{N ps:Hs AQ}{k m:Ht}
def zi1(u:T fi=AA fn)(E:N.length=fn.ns)(o:fn.pure=AB){d:BU}{cdv:AG}{A:Ar}{outer:Hs BJ}{s:AK}{vs:Hs V}{H:Hp}{Q:VK}(h:spI K cl (yc T (k+1)) fi vs H Q E0):
  tSs #[cl,yc T k,AB] (ybH P w K mg base N qual d f cdv A outer s H) fn.body {nx:=λ_ g=>Q .non g,rt:=Q} (L2.start N vs) H:=by
 let#[B,C,st,a,G,l,h]:=h;have J:a.length=fn.np:=zgx (k:=k) u a st λz=>by rw[z]at h;exact h
 have x:=l.length;rw[yc,u]at h;dsimp only at h;rw[Hz J,o,IA (by simp)]at h;refine#[B,C,st,_,G,yP.start l (fn.ns-fn.np) (),?_];show yau _ _ _ _ _ (exs (yc T k) (a.map AA++AL (fn.ns-fn.np) AD) st fn.body) _
 cases e:exs (yc T k) (a.map AA++AL (fn.ns-fn.np) AD) st fn.body with
 |nx p b=>
  rw[e]at h;intro L g m n j M;exact h .non g m n j (by erw[ye])
 |rt v b=>
  rw[e]at h;intro y g m n j O;exact h y g m n j O
 |exc c p b=>
  rw[e]at h;intro L C1 Z ev n U _ ex;rcases ex with⟨D,H2,s2,C2,I,X,q⟩|⟨t,_⟩|⟨t,_⟩
  .let#[_,cls,_,g,_,_,_,_,_,_,_,_,_,_,e1,m,Y,r]:=q;exact(h g m (U.trans (X.trans Y)) r).elim
  .cases t
  .cases t
 |bk p b=>rw[e]at h;exact h.elim
 |ct p b=>rw[e]at h;exact h.elim
 |bad=>rw[e]at h;exact h.elim
def znS(g:T fi=AA fn)(F:Fun K x qual stm f fd)(j:yaV N ps (yC stm))(b:ps.length=fn.np)(c:N.length=fn.ns)(d:fn.pure=AB)
  (a:∀(cdv:AG) (A:Ar) (outer:Hs BJ) (s:AK) (H:Hp),yaK m (A.deeper (envOfC qual (yC stm) s.heap.objs.size f cdv)) ->
   PSs (ybH P w K mg base N qual (yC stm) f cdv A outer s H) (yad stm) (tSs #[cl,yc T k,AB] (ybH P w K mg base N qual (yC stm) f cdv A outer s H) fn.body)):
  ycg P w K mg base (m+1) f fd ps (spI K cl (yc T (k+1)) fi):=
 F.okH j (λl H Q E h=>zjS g b h) λcdv A outer s H l Q n h=>#[_,a cdv A outer s H n,zi1 g c d h]
def zi7:ycg P w K mg base m f fd ps (spI K cl (yc T 0) fi):=
 #[λc H Q E #[_,_,_,_,_,_,h]=>by rw[yc]at h;exact h.elim,λA a s H b d c Q _ _ _ _ #[_,_,_,_,_,_,h]=>by rw[yc]at h;exact h.elim]
end
section
variable {S:Se}{X:Cx}{C:St}{B:AJ->Prop}{A:Ph}{H:Hp}{st:SO}{Y:IC.Env}{p pos:Bq}{e:AX}{es:Hs AX}{ces:Ces}{fi k:Ht}{x:AQ}{f:AJ}{fd:BC}{ps:Hs AQ}
end
end L2
namespace L2
open PySem IC
def zk4{v w:PV}{d:Hs PV}(h:yO .add v w=AA (.lst d)):∃a b,v=.lst a/\w=.lst b/\d=a++b/\a.length+b.length<=sizeMax:=by
 unfold yO at h;split at h
 .unfold binI at h;simp at h
 .simp at h
 .simp only at h;split at h
  .cases h
  .cases h
 .simp only at h;split at h
  .unfold yeg at h
   repeat' split at h
   all_goals cases h
  .cases h
 .rename_i a b;simp only at h;split at h
  .rename_i c
   cases h
   exact#[a,b,rfl,rfl,rfl,c]
  .cases h
 .cases h
section
variable {S:Se}{X:Cx}{C:St}{B:AJ->Prop}{A A1:Ph}{H H1:Hp}{st:SO}{Y:IC.Env}{p pos p2 px py pt pt2:Bq}{a b c d o a' b' c' d':AX}{ca cb cc cd ce cf:Ce}{E:Hs (AJ×Bd)}{s:AK}{kt k2:Ht}{es:Hs AX}{ces:Ces}{x:AQ}
def zkl(q:PE X a (tE S X ca))(r:PE X b (tE S X cb)):PE X (.BinOp a .Add b pos) (tE S X (.thw (.bin .add ca cb))):=
 (zlF zjL q r).imp λC H Q #[B,A,st,Y,t,u,h]=>by
  erw[ev,R.bind_assoc]at h;refine tE.bind t u h λx H1 v E A1 s1 l m G I=>tE.bind l m I λy H2 w J A2 L d M rw f=>?_
  cases e:yO .add v w with
  |none=>rw[e]at f;exact f.elim
  |some z=>
   rw[e]at f
   cases z with
   |lst zs=>
    let#[vs,ws,rfl,rfl,rfl,c]:=zk4 e;have g:=G.step L;erw[ye]at g rw;let#[p,N,rfl,O,n]:=g;let#[U,Z,rfl,r2,o]:=rw;have n1:=n.length;have n2:=o.length;refine#[p,U,N,Z,rfl,rfl,O.1,r2.1,by rw[<-zJ];lia,λD j=>?_];erw[toR,R.bind,ycb]at f;exact f _ _ (A2++[AA D]) (.push j) (d.push j (d.nB j) #[_,zq,(n.append o).step (.push j)]) (.loc_new d)
   |_=>exact f.elim
end
end L2
namespace L2
open PySem PySem.Spec PyProof.Rows
section
variable {X:Cx}
def zjf{i:Hw}(a:0<=i)(b:i<=sizeLine):(!Builtin.List.listFitsIndex i)=false:=by
 unfold HF;have:sizeLine<=9000000000000000000:=by decide
 simp;lia
def ycV:V->Hs V->Hp->VK->Prop:=λx b H Q=>∃l i a y,x=.ref l/\b=[.int i,y]/\H l=AA (.lst a)/\0<=i/\i<=a.length/\a.length<sizeLine/\Q .non (upd H l (.lst (a.take i.toNat++y::a.drop i.toNat)))
def zhB:MtM X "list.insert" ycV:=by
 intro B s A H x m v o Q I c d h;let#[l,i,p,y,rfl,rfl,b,f,t,C,q]:=h
 cases c
 let#[u,w,rfl,g,rw]:=d.two;let#[j,rfl]:=g;let#[z,a,n,r,D,e]:=I.lstM b;refine CW FU #[_,e,rfl] F.entry_list_insert (F.args_list_insert_3 _ _ _) (AutoSeq1.list_insert_list_int_val_1 l a.toArray n i j w (by rw[zjf f ()];exact A4) (by rw[AU];lia)) #[e,?_];refine#[.non,_,I.lset (its':=a.take i.toNat++w::a.drop i.toNat) b e ?_ ((r.take i.toNat).append (.cons rw (r.drop i.toNat))) ?_,rfl,q]
 .show (a.toArray.extract 0 (if i<0 then(i+(a.toArray.size:Hw)).toNat else min i.toNat a.toArray.size)).push w++a.toArray.extract (if i<0 then(i+(a.toArray.size:Hw)).toNat else min i.toNat a.toArray.size)=_;rw[IA (),AU,Ht.min_eq_left ()];apply G9.mp;simp;exact FA (by simp)
 .rw[AO,AV,CC,Cp];lia
end
end L2
namespace L2
open PySem PySem.Spec PyProof.Rows IC
section
variable {S:Se}{X:Cx}{A:St}{B:AJ->Prop}{C C1:Ph}{H H1:Hp}{st:SO}{Y:IC.Env}{p pos p2 apos:Bq}{a b c d:AX}{ca cb cc:Ce}{es:Hs AX}{ces:Ces}{K:AF}{cl:Ht->AJ}
def zgI(ha:PE X a (tE S X ca))(hb:PE X b (tE S X cb))(hc:PE X c (tE S X cc))(hs:starEach [b,c] X.env=[(AB,eval b X.env),(AB,eval c X.env)]:=by rfl)(f:starEach [c] X.env=[(AB,eval c X.env)]:=by rfl)(g:attributeBase a "insert" X.env (eval a X.env)=eval a X.env:=by rfl)(j:(apos.endLine==pos.line)=true:=by rfl)(m:((backTo pos (starEach [c] X.env)).any λx=>x.1)=false:=by rfl)
  (o:((backTo pos (starEach [b,c] X.env)).all (λx=>!x.1)&&(backToKw pos (keywordEach [] X.env)).all (λx=>x.1.isSome)&&decide (([b,c]:Hs AX).length+([]:Hs Br).length+(if ([]:Hs Br).isEmpty then 0 else 1)<30))=true:=by rfl):
  PE X (.Call (.Attribute a "insert" apos) [b,c] [] pos) (tE S X (.mth .insert ca (.cons cb (.cons cc .nil)))):=
 (zka DH FU PySem.F.type_list_insert zhB ha (zaO (S:=S) hb (zaO (S:=S) hc zcC f) (by rw[hs,f])) g o j (by rw[hs,f]) m).imp λA H Q #[B,C,st,Y,rs,re,h]=>by
  erw[ev]at h;refine tE.bind rs re h λx H1 v p C1 s1 r E rv G=>?_;let#[_,I,G]:=zds G;have J:∃D,yQ p v=AA D:=by
   erw[yas]at I
   cases q:yQ p v with
   |none=>rw[q]at I;cases I
   |some D=>exact#[D,rfl]
  let#[D,J]:=J;let#[l,xs,rfl,hl,_]:=zbv r rv J;refine#[.inl #[rfl,xs,hl],tAs.bind r E G λys H2 vs st2 C2 s2 u re2 L d=>?_];have M:=rv.step s2;rcases vs with _|⟨w,_|⟨w',_|⟨w'',t⟩⟩⟩
  .exact d.elim
  .exact d.elim
  .let#[y,N,rfl,rw,O]:=L.two;unfold ybs at d;erw[yep]at d;split at d
   .rename_i n;split at d
    .rename_i zs hz;split at d
     .rename_i k;split at d
      .rename_i c;let#[l',z,e,U,hx,Z]:=u.list M hz
       cases e
       erw[ye]at rw;subst rw;have hln:=Z.length;refine#[l,k,z,N,rfl,rfl,hx,c.1,by lia,by have:=zoH;lia,?_];exact d _ _ C2 (.put (A1 U)) (u.put U #[_,zq,((Z.take k.toNat).append (show yq _ _ _ _ _ (w'::zs.drop k.toNat) (N::z.drop k.toNat)by erw[yq];exact#[N,_,rfl,O,Z.drop k.toNat])).step (.put (A1 U))]) (by erw[ye])
      .exact d.elim
     .exact d.elim
    .exact d.elim
   .exact d.elim
  .exact d.elim
end
section
variable {S:Se}{X:Cx}{a b:AX}{c i:Ht}{j:Hw}{f:AQ}{pos tpos:Bq}
def zmR(hc:Cls X.K (S.cl c))(hn:yay X.K (S.cl c) f)(ha:PE X a (tE S X (.var i)))(hv:PE X b (tE S X (.cst (.int j)))):
  PS X (.AugAssign (.Attribute a f tpos) .Add b pos) (tS S X (.sfl c (.var i) f (.bin .add (.fld c (.var i) f) (.cst (.int j))))):=
 (zhS ha hv zlP).imp λD A H #[B,C,st,Y,rs,Q,h]=>by
  erw[ex,ev]at h
  cases q:Y[i]? with
  |none=>rw[q]at h;exact h.elim
  |some o=>
   cases o with
   |none=>rw[q]at h;exact h.elim
   |some x=>
    rw[q]at h;dsimp only[R.bind]at h;refine#[B,C,st,Y,rs,Q,?_];erw[ev,q];intro x' H1 C1 U m Z;have p:=Q.step U;have h:=yau.on U h
    cases e:ybt c st x f with
    |none=>rw[e]at h;exact h.elim
    |some v=>
     rw[e]at h;let#[n,fs,rfl,d,l]:=ze5 e;let#[y,ks,dx,rfl,hp,hy,lr]:=m.ins Z d;let#[x,hx,r]:=lr.lookup.1 v l;refine#[y,S.cl c,dx,ks,x,rfl,hy,hc,hn,hx,#[B,C1,st,Y,m,p,?_]];erw[ev];intro y' H2 C2 I t ry;erw[ye]at ry;subst ry
     cases v with
     |int k=>
      erw[ye]at r;subst r;refine#[k,j,rfl,rfl,?_];have h:yau S X B C1 H1 (match yb5 c st (.loc n) f (.int (k+j))with|some J=>Fl.nx Y J|none=>Fl.bad) D:=h;have h:=yau.on I h;have L:=Z.step I;let#[y2,u,g,e2,w,M,E]:=t.ins L d
      cases e2
      cases N:yb5 c st (.loc n) f (.int (k+j))with
      |none=>rw[N]at h;exact h.elim
      |some st4=>
       rw[N]at h;let#[n',fs',z,G,hl,rfl]:=zfD N
       cases z
       rw[d]at G
       cases G
       refine#[g,u,M,by rw[<-E.len];exact hl,?_];have O:Step C2 H2 C2 (L2.upd H2 y (.ins (S.cl c) g (ya7 f (.int (k+j)) u))):=.put (A1 w);exact h A _ C2 O (t.put (o:=.ins c (ycv f (.int (k+j)) fs)) w #[_,#[g,zq],(FS.put (by erw[ye]) E).step O]) ((p.step I).step O)
     |_=>exact h.elim
end
end L2
namespace HT
open PySem PySem.Spec PyProof.Rows
section
variable {prog:Ae}{w:Aq}{A:Ar}{E:AG->AK->Prop}{s:AK}
end
end HT
namespace L2
open PySem PySem.Spec PyProof.Rows IC
section
variable {S:Se}{X:Cx}{pos p2:Bq}{e e3:AX}{te t3:TE}{a:AX}{ca c3:Ce}
end
section
variable {X:Cx}{prog:Ae}{w:Aq}{A:Ar}{E:AG->AK->Prop}{s:AK}
end
section
variable {S:Se}{X:Cx}{pos px:Bq}{a:AX}{ca:Ce}
end
section
variable {X:Cx}
end
section
variable {S:Se}{X:Cx}{C:St}{B:AJ->Prop}{A A1:Ph}{H H1:Hp}{st:SO}{Y:IC.Env}{p pos p2 apos:Bq}{a b:AX}{ca cb:Ce}{K:AF}{cl:Ht->AJ}
end
section
variable {S:Se}{X:Cx}{C:St}{B:AJ->Prop}{A:Ph}{H:Hp}{st:SO}{p pos p2 px apos:Bq}{a b c d o tg l:AX}{ca cb cc:Ce}{ct:Tg}{ss:Hs Bf}{cs:Css}
end
section
variable {S:Se}{X:Cx}{C:St}{B:AJ->Prop}{A A1:Ph}{H H1:Hp}{st:SO}{Y:IC.Env}{pos:Bq}{a b tg elt iter:AX}{ca cb ce:Ce}{ct:Tg}
def ydj(call:Ht->Hs PV->SO->R PV)(c:IC.Env)(t:Tg)(e:Ce)(x:PV)(a:SO):R (Option PV):=match yW t x c with
 |none=>.bad
 |some d=>(ev call d a e).bind λy b=>.ok (AA y) b
def zcW{call:Ht->Hs PV->SO->R PV}{q:IC.Env}{c:Hs PV}{n m i:Ht}{d f:SO}(b:yaX (ydj call q ct ce) n m i d=.ok c f):
  ∃p u,m=u+1/\d[n]?=AA (.lst p)/\((p.length<=i/\c=[]/\d=f) \/ ∃v r y g a,p[i]?=AA v/\yW ct v q=AA r/\ev call r d ce=.ok y g/\yaX (ydj call q ct ce) n u (i+1) g=.ok a f/\c=y::a):=by
 cases m with
 |zero=>cases b
 |succ m=>
  unfold yaX at b
  cases w:d[n]? with
  |none=>rw[w]at b;cases b
  |some x=>
   rw[w]at b
   cases x with
   |lst p=>
    refine#[p,m,rfl,rfl,?_];dsimp only at b
    cases j:p[i]? with
    |none=>
     rw[j]at b
     cases b
     exact .inl #[Hs.getElem?_eq_none_iff.1 j,rfl,rfl]
    |some v=>
     rw[j]at b;let#[o,z,l,b]:=zaz b;let#[a,A,B,b]:=zaz b;injection b with C D;subst C D;unfold ydj at l
     cases t:yW ct v q with
     |none=>rw[t]at l;cases l
     |some r=>
      rw[t]at l;let#[y,g,E,l]:=zaz l
      cases l
      exact .inr #[v,r,y,_,a,rfl,t,E,B,rfl]
   |_=>cases b
def zf3{sl:Hs (Option Ht)}(hf:yZ ct sl=AC){H:Hp}{Q:VK}(h:tE S X (.cml sl ct ca ce) C H Q):
  yb2 sl (λC H R=>tE S X ca C H λx H1=>∃a,x=.ref a/\(((∃g,SqL X.K H1 a g)/\R (Itl X.K a) H1) \/ ((∃g,SqT X.K H1 a g)/\R (Itt X.K a) H1))) (tG0 S X.K ct) yfn (tE0 S X.K ce) C H Q:=by
 let#[B,A,st,Y,rs,re,h]:=h;erw[ev]at h;refine tE.bind rs re h λx H1 v E A1 s1 d Z rv N=>?_
 cases v with
 |loc n=>
  let#[zs,G,e,hz,N]:=zeY (r:=yaX (ydj S.call (sl.map λo=>o.bind λj=>(Y[j]?).join) ct ce) n 1000000 0 E) N;let#[ws0,_,_,I,_]:=zcW e;have lo:∀{A2 f c g} {B2:AJ->Prop},yH X.K S.cl B2 A2 f c->ye X.K S.cl B2 A2 f (.loc n) x->c[n]?=AA (.lst g)->∃a t,x=.ref a/\SqL X.K f a t/\yq X.K S.cl B2 A2 f g t:=λb rv2 O=>zbv b rv2 (by erw[yQ,O]);let#[y,us0,rfl,hq0,_]:=lo d rv I;refine#[y,rfl,.inl #[#[us0,hq0],λD u=>?_]];have nB:¬B D:=d.nB u;have nD:AA D∉A1:=λz=>by let#[w,e]:=d.there z;rw[u]at e;cases e
  have r0:yP X.K S.cl (Bx B D) A1 (L2.upd H1 D (.lst [])) (sl.map λo=>o.bind λj=>(Y[j]?).join) (inn sl _):=(yP.inn Z).more u;have h0:=zef (Y:=Y) (sl:=sl);generalize (sl.map λo=>o.bind λj=>(Y[j]?).join)=U at *;refine#[λi m Cc ys f=>yb7 S X.K B D A1 H1 U (λ_=>yaX (ydj S.call U ct ce) n m i) zs G [] Cc ys f,
   #[1000000,A1,E,[],zs,.upd u,zq,nD,d.more u,r0,by erw[yq],e,rfl],?_]
  rintro i m Cc ys f ⟨A2,c,vs,rest,s2,p,J,b,re2,l2,ec,ez⟩
  refine#[p,?_];let#[g,m,rfl,eo,q]:=zcW ec;have rvB:ye X.K S.cl (Bx B D) A2 f (.loc n) (.ref y):=by have q:=rv.step s2;erw[ye]at q ⊢;exact q
  let#[y',t,ey,hq,l]:=lo b rvB eo
  cases ey
  rcases q with⟨hle,rfl,rfl⟩|⟨v,Y1,yv,st6,rest',hv,eb,e5,e2,rfl⟩
  .refine .inl #[#[t,hq,by rw[<-l.length];exact hle],N (.ref D) f A2 s2 b.less ?_];erw[ye];exact#[D,ys,rfl,#[p,nB,J],by rw[<-ez,BE];exact l2.less]
  .let#[x,O,rx]:=l.get i hv;have hzl:=IJ CB ez;rw[AO,l2.length,AV]at hzl;refine .inr #[#[t,x,hq,O],EF () zoX,λC' L H'=>yb7 S X.K B D A1 H1 U (λ_=>yaX (ydj S.call U ct ce) n m (i+1)) zs G [] C' L H',λC' L H' q=>#[m,Eb m,q],λx' H3 hy=>?_];let#[e3,hy]:=hy;subst e3;have:=hy t hq;rw[O]at this
   cases this
   refine#[Bx B D,A2,c,_,v,Y1,b,re2,rx,eb,λC4 M=>?_];dsimp only[yfn];rw[Hz rfl];refine#[Bx B D,A2,c,Y1,b,M,?_];rw[e5];intro y' H6 A6 s6 rs6 ry;exact yb7.put u s2 s6 J p rs6 ry hf h0 eb M l2 e2 ez
 |_=>exact N.elim
def znb{sc:BU}{NC:Hs AQ}{sl:Hs (Option Ht)}(a:X.calm=AC)(O:yai X sc NC sl)(hf:yZ ct sl=AC)(b:PE X iter (tE S X ca))(c:∀j,PG (cxC X sc NC j) tg (tG0 S X.K ct))
  (d:∀j,PE (cxC X sc NC j) elt (tE0 S X.K ce)) (f:∀x,foldedSetIterable iter X.env x=pure x:=by intro _;rfl):
  PE X (.ListComp elt [#[tg,iter,[],0]] sc pos) (tE S X (.cml sl ct ca ce)):=
 (zgg a O (zjR b) c (λj=>zhA) d f).imp λC H Q h=>zf3 hf h
end
end L2
namespace L2
open PySem PySem.Spec PyProof.Rows IC WK
inductive GK where
 |fn (i:Ht)|fnD (i:Ht)|cst (v:PV)|dct (D:Hs (AQ×PV))|exc (c:Ht)|cls (c i:Ht)
structure Gs where
 g:AQ->Option GK
 b:AQ->Hy
 t:Ty->Hy
 fl:Ht->AQ->Hy
 me:Ht->AQ->Option Ht
 kb:Ht->Ht->Hs AQ->Option (Hs (Option Hw))
 mr:AQ->Option (Hs (AQ×Ht))
 fv:AQ->Ht->Hy
 xk:Ht->Ty->Hy
 xc:Ht->AQ->Hy
 xm:Ht->AQ->Hy
 qf:Ht->Hy
structure Kx where
 N:Hs AQ
 sc:BU
 own:Hy
 h:Hy
def Fo(m:Ht)(S:Se)(X:Cx)(i:Ht)(f:AJ)(a:BC)(ps:Hs AQ):Prop:=yaW X.prog X.w X.K X.mg X.base (CX1 X.prog X.w) m f a ps (spI X.K S.cl S.call i)
structure Glo(J:Gs)(m:Ht)(S:Se)(X:Cx):Prop where
 F:∀x i,J.g x=AA (.fn i)->∃f fd ps,Fo m S X i f fd ps/\X.mg x=AA (.ref f)/\Ax X.K (.ref f)=AC/\Binds X.K fd ps []
 Q:∀x i np ks sh,J.g x=AA (.fnD i)->J.kb i np ks=AA sh->∃f fd ps,Fo m S X i f fd ps/\X.mg x=AA (.ref f)/\Ax X.K (.ref f)=AC/\∃g,ybZ X.K fd ps ks g (gK np sh)
 C:∀x v,J.g x=AA (.cst v)->GC X.K X.mg S.cl x v
 D:∀x d,J.g x=AA (.dct d)->GD X.K X.w X.mg S.cl x d
 E:∀x c,J.g x=AA (.exc c)->ycJ X.K X.mg (S.cl c) x
 N:∀x c i,J.g x=AA (.cls c i)->X.mg x=AA (.ref (S.cl c))/\∃f fd ps,Mk X.K (S.cl c) f/\Fo m S X i f fd ps/\Binds X.K fd ps []
 B:∀x,J.b x=AC->X.mg x=AD
 T:∀t,J.t t=AC->ye6 X.K t
 A:∀c f,J.fl c f=AC->Cls X.K (S.cl c)/\yay X.K (S.cl c) f
 M:∀c n i,J.me c n=AA i->Cls X.K (S.cl c)/\∃f fd ps,Meth X.K (S.cl c) n f/\Fo m S X i f fd ps/\Binds X.K fd ps []
 K:∀y D,J.mr y=AA D->∃fa fdd ps,Makers S X m D fa fdd ps/\GDF X.K X.w X.mg fa y D
 V:∀x i,J.g x=AA (.fn i)->J.fv x i=AC->X.mg x=AA (.ref (S.cl (1000+i)))
 I:∀c t,J.xk c t=AC->ybC X.K (S.cl c)/\ycG X.K S.cl c t
 L:∀d x,J.xc d x=AC->X.mg x=AA (.ref (S.cl d))
 H:∀c x,J.xm c x=AC->∃W,X.mg x=AA (.ref W)/\EG X.K (.ref (S.cl c)) (.ref W)=AA AC
 Z:∀x i,J.g x=AA (.fn i)->J.qf i=AC->∃f fd ps,ycg X.prog X.w X.K X.mg X.base m f fd ps (spI X.K S.cl S.call i)/\X.mg x=AA (.ref f)/\Ax X.K (.ref f)=AC/\Binds X.K fd ps []
structure Good(J:Gs)(R:Kx)(m:Ht)(S:Se)(X:Cx):Prop where
 n:X.N=R.N
 sc:X.env.scope=R.sc
 calm:R.h=AB->X.calm=AC
 room:yaK (m+1) X.A
 hd:R.h=AB->X.A.handled=AD
 own:R.own=AC->E9 (model X.prog X.w) X.A X.env X.xe/\(∀x,X.fn x=AC)/\S.may=AC
 top:R.own=AC->(∃outer,X.stack=X.env::outer)/\X.ex=[]/\X.env.frame=AA X.env.locals
 glo:Glo J m S X
theorem Good.rm{J:Gs}{R:Kx}{m:Ht}{S:Se}{X:Cx}(G:Good J R m S X)(h:R.h=AB):yaG (m+1) X.A:=#[G.hd h,G.room.dp,G.room.un]
def zju{k:Ht}{A:Ar}(r:yaK k A):A.units+1<cLine:=by have:=r.units;lia
abbrev Pr(P:Prop):Type:=Option (PLift P)
abbrev YE(J:Gs)(R:Kx)(e:AX)(c:Ce):Prop:=∀m S X,Good J R m S X->PE X e (tE S X c)
abbrev YT(J:Gs)(R:Kx)(e:AX)(c:Ce):Prop:=∀m S X,Good J R m S X->PT X e (tTs S X c)
abbrev YW(J:Gs)(R:Kx)(e:AX)(c:Ce):Prop:=∀m S X,Good J R m S X->PW X e (tTs S X c)
abbrev YA(J:Gs)(R:Kx)(e:Hs AX)(c:Ces):Prop:=∀m S X,Good J R m S X->PA X e (tAs S X c)
abbrev YO(J:Gs)(R:Kx)(e:Option AX)(c:Ce):Prop:=∀m S X,Good J R m S X->PO X e (tO S X c)
abbrev YS(J:Gs)(R:Kx)(s:Bf)(c:Cs):Prop:=∀m S X,Good J R m S X->PS X s (tS S X c)
abbrev YSs(J:Gs)(R:Kx)(s:Hs Bf)(c:Css):Prop:=∀m S X,Good J R m S X->PSs X s (tSs S X c)
def an{P Q:Prop}(a:Pr P)(k:P->Pr Q):Pr Q:=match a with
 |some h=>k h.down
 |none=>AD
def ok{P:Prop}(h:P):Pr P:=AA #[h]
def ask(p:Prop)[Decidable p]:Pr p:=if h:p then AA #[h]else AD
def nst:AX->Hy
 |.Starred _ _=>AB
 |_=>AC
def zow{a:AX}{es:Hs AX}{env:BJ}(h:nst a=AC):starEach (a::es) env=(AB,eval a env)::starEach es env:=by cases a<;>first|rfl|cases h
def yb1(es:Hs AX):Hy:=es.all nst
theorem stars{pos:Bq}{env:BJ}:∀{es:Hs AX},yb1 es=AC->(backTo pos (starEach es env)).any (·.1)=AB
 |[],_=>rfl
 |a::es,h=>by erw[yb1,An,AH]at h;rw[zow h.1];have:=stars (pos:=pos) (env:=env) (es:=es) h.2;simpa [backTo] using this
def nco:AX->Hy
 |.ListComp ..=>AB
 |.SetComp ..=>AB
 |.DictComp ..=>AB
 |_=>AC
theorem swp{a:AX}{t:Option AX}{l:Ht}{env:BJ}(h:nco a=AC):swapsWith a t l env=pure false:=by cases a<;>first|rfl|cases h
def nse:AX->Hy
 |.Set ..=>AB
 |_=>AC
theorem fse{a:AX}{env:BJ}(h:nse a=AC):∀x,foldedSetIterable a env x=pure x:=by cases a<;>first|exact λ_=>rfl|cases h
theorem nmk{b:Fc}{a:AX}(h:nse a=AC):behindInMarks b a=false:=by cases a<;>first|rfl|cases h
def nsl:AX->Hy
 |.Slice ..=>AB
 |_=>AC
theorem pix{a:AX}(h:nsl a=AC):ybv a:=by cases a<;>first|exact λ_ _=>rfl|cases h
theorem nos{a:AX}(h:nsl a=AC):yel a:=pix h
def ntu:AX->Hy
 |.Tuple ..=>AB
 |_=>AC
def nte:AX->Hy
 |.UnaryOp ..=>AB
 |.BoolOp ..=>AB
 |.IfExp ..=>AB
 |.Compare ..=>AB
 |_=>AC
theorem itr{a:AX}{env:BJ}(h:nte a=AC):∀b,isTrue a env b=(do let v <-b;standAt a.pos;holding [v] (truthy v)):=by cases a<;>first|exact λ_=>rfl|cases h
def nca:AX->Hy
 |.Call ..=>AB
 |_=>AC
def zoD{a:AX}{f:AQ}{env:BJ}{w:HR AG}(h:nca a=AC):attributeBase a f env w=w:=by cases a<;>first|rfl|cases h
def mOp(a:D6)(o:BOp):Pr (∀S X,OpR X (binaryOp a) (rT2 S X (yO o))):=
 match a,o with
 |.Add,.add=>ok (λ_ _=>znr)
 |.Sub,.sub=>ok (λ_ _=>zmJ)
 |.Mult,.mul=>ok (λ_ _=>zmr)
 |.FloorDiv,.fdiv=>ok (λ_ _=>zk9)
 |.Mod,.mod=>ok (λ_ _=>zmx)
 |.Pow,.pow=>ok (λ_ _=>zmm)
 |_,_=>AD
def mCm(a:Fc)(o:COp):Pr (∀m S X,yaK m X.A->OpR X (compareOp a) (rT2 S X (yJ o))):=
 match a,o with
 |.Eq,.eq=>ok (λ_ _ _ r=>zol r.units)
 |.NotEq,.ne=>ok (λ_ _ _ r=>zos r.units)
 |.Lt,.lt=>ok (λ_ _ _ _=>zn2)
 |.LtE,.le=>ok (λ_ _ _ _=>zoa)
 |.Gt,.gt=>ok (λ_ _ _ _=>zot)
 |.GtE,.ge=>ok (λ_ _ _ _=>zoh)
 |.In,.isin=>ok (λ_ _ _ _=>zoj)
 |_,_=>AD
def yeW(sc:BU)(x:AQ):Hy:=match sc.names.lookup x with
 |some .local=>AC
 |some .cell=>AC
 |some .free=>AC
 |_=>AB
def zkx{sc:BU}{x:AQ}(h:yeW sc x=AC):Vis sc x:=by
 unfold yeW at h;split at h
 .exact .inl ‹_›
 .exact .inr (.inl ‹_›)
 .exact .inr (.inr ‹_›)
 .cases h
def yeh(sc:BU)(x:AQ):Hy:=match sc.names.lookup x with
 |some .local=>AC
 |some .cell=>AC
 |_=>AB
def zgO{sc:BU}{x:AQ}(h:yeh sc x=AC):Loc sc x:=by
 unfold yeh at h;split at h
 .exact .inl ‹_›
 .exact .inr ‹_›
 .cases h
def pln(x:AQ):Hy:=!(x==("__debug__":AQ))&&!(x==("__classdict__":AQ))&&!(x==("__name__":AQ))
def zoz{x:AQ}(h:pln x=AC):(x==("__debug__":AQ))=false:=by erw[pln,AH,Bt]at h;exact h.1.1
def zoY{x:AQ}(h:pln x=AC):(x==("__classdict__":AQ))=false:=by erw[pln,AH,Bt]at h;exact h.1.2
def zoN{x:AQ}(h:pln x=AC):x ≠ "__name__":=by erw[pln,AH,Bt]at h;intro e;rw[e]at h;exact IB h.2 ⋯
def hf(R:Kx){P:Prop}(f:R.h=AB->Pr P):Pr P:=if h:R.h=AB then f h else AD
def glB(R:Kx)(x:AQ):Hy:=decide (R.sc.names.lookup x=AA .globalImplicit)&&pln x
def z4{J:Gs}{R:Kx}{m:Ht}{S:Se}{X:Cx}(G:Good J R m S X){x:AQ}(h:glB R x=AC):Gl X x:=by erw[glB,AH,Hx]at h;show X.env.scope.names.lookup x=_;rw[G.sc];exact h.1
def zbc{R:Kx}{x:AQ}(h:glB R x=AC):pln x=true:=by erw[glB,AH]at h;exact h.2
def setB(R:Kx)(i:Ht)(x:AQ):Hy:=decide (R.N[i]?=AA x)&&decide R.N.Nodup&&yeh R.sc x&&(R.own || decide (R.sc.names.lookup x=AA .local))&&pln x
structure yfs(X:Cx)(i:Ht)(x:AQ):Prop where
 d:X.N.Nodup
 i:X.N[i]?=AA x
 l:Loc X.env.scope x
 f:X.fn x=AC \/ X.env.scope.names.lookup x=AA .local
 p:pln x=AC
def za6{J:Gs}{R:Kx}{m:Ht}{S:Se}{X:Cx}(G:Good J R m S X){i:Ht}{x:AQ}(h:setB R i x=AC):yfs X i x:=by
 erw[setB,AH,Dg,Hx]at h;let#[#[#[#[b,c],d],a],f]:=h;refine#[by rw[G.n];exact c,by rw[G.n];exact b,by rw[G.sc];exact zgO d,?_,f];rcases a with a|a
 .exact .inl ((G.own a).2.1 x)
 .exact .inr (by rw[G.sc];exact a)
def gFn(J:Gs)(x:AQ)(i:Ht):Pr (J.g x=AA (.fn i)):=match h:J.g x with
 |some (.fn j)=>if e:j=i then AA #[by subst e;rfl]else AD
 |_=>AD
section
variable {J:Gs}{R:Kx}{ca cb cc:Ce}{ces:Ces}
def yfS(v:PV)(e:AX):Pr (YE J R e (.cst v)):=
 match e with
 |.Constant (.int i) _ _=>match v with
  |.int j=>an (ask (i=j)) λh=>ok (λ_ _ _ _=>by cases h;exact zlJ)
  |_=>AD
 |.Constant (.bool i) _ _=>match v with
  |.bl j=>an (ask (i=j)) λh=>ok (λ_ _ _ _=>by cases h;exact zor)
  |_=>AD
 |.Constant .none _ _=>match v with
  |.non=>ok (λ_ _ _ _=>zmg)
  |_=>AD
 |.Constant (.str i) _ _=>match v with
  |.str j=>an (ask (i=j)) λh=>ok (λ_ _ _ _=>by cases h;exact znL)
  |_=>AD
 |_=>AD
def yfJ(i:Ht)(e:AX):Pr (YE J R e (.var i)):=
 match e with
 |.Name x _=>an (ask (R.N[i]?=AA x/\yeW R.sc x=AC/\pln x=AC)) λh=>ok (λ_ _ _ G=>znq (by rw[G.n];exact h.1) (by rw[G.sc];exact zkx h.2.1) (zoz h.2.2) (zoY h.2.2))
 |_=>AD
def yhO(o:BOp)(e:AX)(c:∀x,Pr (YE J R x ca))(d:∀x,Pr (YE J R x cb)):Pr (YE J R e (.bin o ca cb)):=
 match e with
 |.BinOp a f b _=>
  an (mOp f o) λg=>an (c a) λj=>an (d b) λl=>ok (λm S X G=>znK (g S X) (j m S X G) (l m S X G))
 |_=>AD
def ygu(e:AX)(c:∀x,Pr (YE J R x ca))(d:∀x,Pr (YE J R x cb)):Pr (YE J R e (.rep ca cb)):=
 match e with
 |.BinOp a .Mult b _=>an (c a) λf=>an (d b) λg=>ok (λm S X G=>zmd (f m S X G) (g m S X G))
 |_=>AD
def yht(e:AX)(b:∀x,Pr (YE J R x ca)):Pr (YE J R e (.neg ca)):=
 match e with
 |.UnaryOp .USub a _=>
  an (b a) λc=>ok (λm S X G=>zmA (c m S X G))
 |_=>AD
def yhc(e:AX)(b:∀x,Pr (YE J R x ca)):Pr (YE J R e (.not ca)):=
 match e with
 |.UnaryOp .Not a _=>
  an (b a) λc=>ok (λm S X G=>znw (c m S X G))
 |_=>AD
def yhn(o:COp)(e:AX)(c:∀x,Pr (YE J R x ca))(d:∀x,Pr (YE J R x cb)):Pr (YE J R e (.cmp o ca cb)):=
 match e with
 |.Compare a [f] [b] _=>
  an (mCm f o) λg=>an (ask (nse b=AC)) λj=>an (c a) λl=>an (d b) λn=>ok (λm S X G=>znQ (g _ S X G.room) (l m S X G) (n m S X G) (nmk j))
 |_=>AD
def ye7(o:COp)(e:AX)(c:∀x,Pr (YE J R x ca))(d:∀x,Pr (YE J R x cb)):Pr (YT J R e (.cmp o ca cb)):=
 match e with
 |.Compare a [f] [b] _=>
  an (mCm f o) λg=>an (ask (nse b=AC)) λj=>an (c a) λl=>an (d b) λn=>ok (λm S X G=>zmD (g _ S X G.room) (l m S X G) (n m S X G) (nmk j))
 |_=>AD
theorem lmk{d a:Fc}{b c:AX}(h:nse c=AC):lastMarks [d,a] [b,c]=false:=nmk h
def yg9(o p:COp)(e:AX)(f:∀x,Pr (YE J R x ca))(g:∀x,Pr (YE J R x cb))(j:∀x,Pr (YE J R x cc)):Pr (YE J R e (.chain o p ca cb cc)):=
 match e with
 |.Compare a [l,d] [b,c] _=>
  an (mCm l o) λn=>an (mCm d p) λq=>an (ask (nse c=AC)) λr=>an (f a) λt=>an (g b) λu=>an (j c) λw=>ok (λm S X G=>ziB (n _ S X G.room) (q _ S X G.room) (t m S X G) (u m S X G) (w m S X G) (lmk r))
 |_=>AD
def yeP(o p:COp)(e:AX)(f:∀x,Pr (YE J R x ca))(g:∀x,Pr (YE J R x cb))(j:∀x,Pr (YE J R x cc)):Pr (YT J R e (.chain o p ca cb cc)):=
 match e with
 |.Compare a [l,d] [b,c] _=>
  an (mCm l o) λn=>an (mCm d p) λq=>an (ask (nse c=AC)) λr=>an (f a) λt=>an (g b) λu=>an (j c) λw=>ok (λm S X G=>zi6 (n _ S X G.room) (q _ S X G.room) (t m S X G) (u m S X G) (w m S X G) (lmk r))
 |_=>AD
def ygl(e:AX)(d:∀x,Pr (YT J R x cc))(f:∀x,Pr (YE J R x ca))(g:∀x,Pr (YE J R x cb)):Pr (YE J R e (.ite cc ca cb)):=
 match e with
 |.IfExp c a b _=>
  an (d c) λj=>an (f a) λl=>an (g b) λn=>ok (λm S X G=>zl9 (j m S X G) (l m S X G) (n m S X G))
 |_=>AD
def ygf(e:AX)(a:∀x,Pr (YA J R x ces)):Pr (YE J R e (.tup ces)):=
 match e with
 |.Tuple b _ _=>
  an (a b) λc=>ok (λm S X G=>zmW (c m S X G))
 |_=>AD
def yhd(e:AX)(a:∀x,Pr (YA J R x ces)):Pr (YE J R e (.lst ces)):=
 match e with
 |.List b _=>
  an (a b) λc=>ok (λm S X G=>zmb (c m S X G))
 |_=>AD
def yeY(e:AX)(a:∀x,Pr (YA J R x ces)):Pr (YE J R e (.newl ces)):=
 match e with
 |.List b _=>
  an (a b) λc=>ok (λm S X G=>zky (c m S X G))
 |_=>AD
def mIdx(e:AX)(c:∀x,Pr (YE J R x ca))(d:∀x,Pr (YE J R x cb)):Pr (YE J R e (.idx ca cb)):=
 match e with
 |.Subscript a b _=>
  an (ask (nsl b=AC)) λf=>an (c a) λg=>an (d b) λj=>ok (λm S X G=>zmz (g m S X G) (j m S X G) (pix f))
 |_=>AD
def yhM(e:AX)(b:∀x,Pr (YE J R x ca))(c:∀x,Pr (YO J R x cb))(d:∀x,Pr (YO J R x cc)):Pr (YE J R e (.slc ca cb cc)):=
 match e with
 |.Subscript a (.Slice l h AD _) _=>
  an (b a) λf=>an (c l) λg=>an (d h) λj=>ok (λm S X G=>zml (f m S X G) (g m S X G) (j m S X G))
 |_=>AD
def yfY(c:Ce)(e:Option AX)(b:∀x,Pr (YE J R x c)):Pr (YO J R e c):=
 match e with
 |none=>match c with
  |.cst .non=>ok (λ_ _ _ _=>zkZ)
  |_=>AD
 |some a=>
  an (b a) λd=>ok (λm S X G=>zj5 (d m S X G))
inductive Fs(J:Gs)(R:Kx):Ces->Type where
 |nil:Fs J R .nil
 |cons {c:Ce} {cs:Ces} (f:∀x,Pr (YE J R x c)) (r:Fs J R cs):Fs J R (.cons c cs)
def ybd:{ces:Ces}->Fs J R ces->(es:Hs AX)->Pr (YA J R es ces)
 |_,.nil,[]=>ok λ_ _ _ _=>zcC
 |_,.cons f r,a::es=>an (ask (nst a=AC)) λb=>an (f a) λc=>an (ybd r es) λd=>ok λm S X G=>zaO (c m S X G) (d m S X G) (zow b)
 |_,_,_=>AD
structure Sp2(J:Gs)(R:Kx)(ces:Ces)(np:Ht) where
 c1:Ces
 c2:Ces
 f1:Fs J R c1
 f2:Fs J R c2
 h:ycU c1 c2=ces
 l:ycn c1=np
def ycK:(a:Ht)->{ces:Ces}->Fs J R ces->Option (Sp2 J R ces a)
 |0,ces,F=>AA #[.nil,ces,.nil,F,rfl,rfl]
 |n+1,_,.cons f r=>match ycK n r with
  |some s=>AA #[.cons _ s.c1,s.c2,.cons f s.f1,s.f2,by rw[ycU,s.h],by rw[ycn,s.l]]
  |none=>AD
 |_,_,_=>AD
structure It2(J:Gs)(R:Kx)(ces:Ces)(sh:Hs (Option Hw))(kws:Hs Br) where
 it:Hs (Sum Ce Hw)
 h:yaA it=ces
 s:it.map shC=sh
 k:∀m S X,Good J R m S X->PK X kws (tK S X it)
def ybY:(a:Hs (Option Hw))->{ces:Ces}->Fs J R ces->(kws:Hs Br)->Option (It2 J R ces a kws)
 |[],_,.nil,[]=>AA #[[],rfl,rfl,λ_ _ _ _=>zmy]
 |none::a,.cons c _,.cons f r,#[_,e,_] :: kws=>match f e,ybY a r kws with
  |some h,AA q=>AA #[.inl c::q.it,by rw[yaA,q.h],by rw[AW,q.s];rfl,λm S X G=>zoq (h.down m S X G) (q.k m S X G)]
  |_,_=>AD
 |some i::a,.cons (.cst (.int j)) _,.cons _ r,kws=>if e:i=j then match ybY a r kws with
  |some q=>AA #[.inr i::q.it,by rw[yaA,q.h,e],by rw[AW,q.s];rfl,λm S X G=>zn9 (q.k m S X G)]
  |none=>AD
  else AD
 |_,_,_,_=>AD
def kwN:Hs Br->Hs AQ
 |[]=>[]
 |#[AA x,_,_] :: r=>x::kwN r
 |_::r=>kwN r
def kwB:Hs Br->Hy
 |[]=>AC
 |#[AA _,_,_] :: r=>kwB r
 |_=>AB
def zlQ{pos:Bq}{env:BJ}:∀{kws:Hs Br},kwB kws=AC->(backToKw pos (keywordEach kws env)).all (·.1.isSome)=AC/\(backToKw pos (keywordEach kws env)).filterMap (·.1)=kwN kws/\(backToKw pos (keywordEach kws env)).any (·.1.isNone)=AB
 |[],_=>#[rfl,rfl,rfl]
 |#[AA x,e,_] :: r,h=>by let#[a,b,c]:=zlQ (pos:=pos) (env:=env) (kws:=r) h;erw[backToKw]at a b c ⊢;erw[keywordEach,AW,An,C0,Ba,a,b,c,kwN];simp
def yf7(d:R.h=AB)(i:Ht)(F:Fs J R ces)(e:AX):Pr (YE J R e (.call i ces)):=
 match e with
 |.Call (.Name x _) [] [] _=>match F with
  |.nil=>an (ask (glB R x=AC)) λb=>an (gFn J x i) λhf=>ok λm S X G=>by let#[f,t,u,l,n,o,g]:=G.glo.F x i hf;exact zjc l ((G.rm d).mono (DF m)) (z4 G b) n o g (zoz (zbc b))
  |_=>AD
 |.Call (.Name x _) (a::es) c _=>an (ask (glB R x=AC/\nst a=AC/\yb1 es=AC)) λb=>
  match y:J.g x with
  |some (.fn j)=>match c with
   |[]=>an (ask (j=i)) λA=>an (ybd F (a::es)) λp=>ok λm S X G=>by subst A;let#[f,t,u,l,n,o,g]:=G.glo.F x j y;exact zkC l ((G.rm d).mono (DF m)) (z4 G b.1) n o g (p m S X G) (zoz (zbc b.1)) (zow b.2.1) (stars b.2.2)
   |_=>AD
  |some (.fnD j)=>match B:J.kb j (es.length+1) (kwN c)with
   |none=>AD
   |some z=>match ycK (es.length+1) F with
    |none=>AD
    |some s=>match ybY z s.f2 c with
     |none=>AD
     |some q=>an (ask (kwB c=AC/\j=i)) λr=>an (ybd s.f1 (a::es)) λp=>ok λm S X G=>by
      let#[r,rfl]:=r;let#[f,t,u,l,n,o,g]:=G.glo.Q x j _ _ z y B;rw[<-s.h,<-q.h];rw[<-q.s]at g;have w:=λ{pos}=>zlQ (pos:=pos) (env:=X.env) r;exact ziC l ((G.rm d).mono (DF m)) (z4 G b.1) n o g s.l (p m S X G) (q.k m S X G) w.1 w.2.1 (zoz (zbc b.1)) (zow b.2.1) (by rw[w.2.2,Fe];exact stars (es:=a::es) (by erw[yb1,An,b.2.1,A2];exact b.2.2))
  |_=>AD
 |_=>AD
abbrev yeV(b:Blt)(x:AQ):Prop:=∀S X,X.calm=AC->(∃id,yaf X (.builtin id) (rB S X b)/\bootBuiltins x=AA (.builtin id)) \/ ∃T,yaf X (.type T) (rB S X b)/\bootBuiltins x=AA (.type T)
def ygC(b:Blt)(x:AQ):Pr (yeV b x):=
 match b with
 |.len=>an (ask (x="len")) λh=>ok λ_ _ _=>.inl #[_,zl0,h ▸ zmK]
 |.int=>an (ask (x="int")) λh=>ok λ_ _ _=>.inr #[_,zlN,h ▸ zjN]
 |.abs=>an (ask (x="abs")) λh=>ok λ_ _ _=>.inl #[_,zl6,h ▸ znj]
 |.min=>an (ask (x="min")) λh=>ok λ_ _ c=>.inl #[_,znc c,h ▸ zme]
 |.max=>an (ask (x="max")) λh=>ok λ_ _ c=>.inl #[_,zmX c,h ▸ zmU]
 |.tuple=>an (ask (x="tuple")) λh=>ok λ_ _ _=>.inr #[_,zil,h ▸ ze6]
 |.list=>an (ask (x="list")) λh=>ok λ_ _ _=>.inr #[_,zkr,h ▸ zgK]
 |.all=>an (ask (x="all")) λh=>ok λ_ _ c=>.inl #[_,znf c,h ▸ zmM]
 |.sum=>an (ask (x="sum")) λh=>ok λ_ _ c=>.inl #[_,znk c,h ▸ zng]
 |_=>AD
def yhS(b:Blt)(F:Fs J R ces)(e:AX):Pr (YE J R e (.blt b ces)):=
 match e with
 |.Call (.Name x _) (a::j) [] _=>hf R λd=>an (ask (glB R x=AC/\nst a=AC/\yb1 j=AC/\J.b x=AC)) λc=>an (ygC b x) λn=>an (ybd F (a::j)) λl=>ok λm S X G=>by
  rcases n S X (G.calm d)with⟨id,f,g⟩|⟨T,f,g⟩
  .exact zny f (z4 G c.1) (G.glo.B x c.2.2.2) g (l m S X G) (zoN (zbc c.1)) (zoz (zbc c.1)) (zow c.2.1) (stars c.2.2.1)
  .exact zlv f (z4 G c.1) (G.glo.B x c.2.2.2) g (l m S X G) (zoN (zbc c.1)) (zoz (zbc c.1)) (zow c.2.1) (stars c.2.2.1)
 |_=>AD
def ygH(b:Blt)(F:Fs J R ces)(e:AX):Pr (YE J R e (.blt b ces)):=
 match b with
 |b=>yhS b F e
def tyB(t:Ty)(x:AQ):Pr (yK t=AC/\bootBuiltins x=AA (.type (tyN t))):=
 match t with
 |.int=>an (ask (x="int")) λh=>ok #[rfl,h ▸ zjN]
 |.bool=>an (ask (x="bool")) λh=>ok #[rfl,h ▸ zkc]
 |.str=>an (ask (x="str")) λh=>ok #[rfl,h ▸ znh]
 |.tuple=>an (ask (x="tuple")) λh=>ok #[rfl,h ▸ ze6]
 |_=>AD
def ygE(ts:Hs Ty)(e:AX)(d:∀x,Pr (YE J R x ca)):Pr (YE J R e (.isi ca ts)):=
 match ts,e with
 |[t],.Call (.Name n _) [a,.Name x _] [] _=>an (ask (n="isinstance"/\glB R n=AC/\J.b n=AC/\glB R x=AC/\J.b x=AC/\J.t t=AC/\nst a=AC)) λh=>an (tyB t x) λc=>an (d a) λf=>ok λm S X G=>by let#[rfl,g,j,b,l,o,p]:=h;exact znp (G.glo.T t o) c.1 (z4 G g) (G.glo.B _ j) (z4 G b) (G.glo.B _ l) c.2 (f m S X G) (zoN (zbc b)) (zoz (zbc b)) (zow p) rfl
 |_,_=>AD
mutual
noncomputable def yeA:(a b:PV)->Pr (a=b)
 |.non,.non=>ok rfl
 |.bl a,.bl b=>an (ask (a=b)) λh=>ok (by rw[h])
 |.int a,.int b=>an (ask (a=b)) λh=>ok (by rw[h])
 |.str a,.str b=>an (ask (a=b)) λh=>ok (by rw[h])
 |.tp k a,.tp j b=>an (ask (k=j)) λh=>an (yc9 a b) λg=>ok (by rw[h,g])
 |.lst a,.lst b=>an (yc9 a b) λg=>ok (by rw[g])
 |_,_=>AD
noncomputable def yc9:(a b:Hs PV)->Pr (a=b)
 |[],[]=>ok rfl
 |a::x,b::y=>an (yeA a b) λh=>an (yc9 x y) λg=>ok (by rw[h,g])
 |_,_=>AD
end
def eqD:(a b:Hs (AQ×PV))->Pr (a=b)
 |[],[]=>ok rfl
 |(k,a)::x,(j,b)::y=>an (ask (k=j)) λe=>an (yeA a b) λh=>an (eqD x y) λg=>ok (by rw[e,h,g])
 |_,_=>AD
def ygS(v:PV)(e:AX):Pr (YE J R e (.cst v)):=
 match e with
 |.Name x _=>match h:J.g x with
  |some (.cst u)=>an (ask (glB R x=AC)) λa=>an (yeA u v) λc=>ok λm S X G=>by subst c;exact zn1 (z4 G a) (G.glo.C x u h) (zoz (zbc a))
  |some (.fn i)=>match v with
   |.fnc j=>an (ask (glB R x=AC/\J.fv x i=AC/\i=j)) λa=>ok λm S X G=>by let#[b,d,rfl]:=a;exact zj2 (z4 G b) (G.glo.V x i h d) (λB O H=>by erw[ye]) (zoz (zbc b))
   |_=>AD
  |_=>AD
 |e=>yfS v e
def ygD(D:Hs (AQ×PV))(e:AX)(c:∀x,Pr (YE J R x cb)):Pr (YE J R e (.dix D cb)):=
 match e with
 |.Subscript (.Name x _) b _=>match h:J.g x with
  |some (.dct E)=>an (ask (glB R x=AC/\nsl b=AC)) λa=>an (eqD E D) λd=>an (c b) λf=>ok λm S X G=>by subst d;exact zlX (z4 G a.1) (G.glo.D x E h) (f m S X G) (nos a.2) (zoz (zbc a.1))
  |_=>AD
 |_=>AD
def yhR(D:Hs (AQ×PV))(e:AX)(c:∀x,Pr (YE J R x ca)):Pr (YE J R e (.din ca D)):=
 match e with
 |.Compare a [.In] [.Name x _] _=>match h:J.g x with
  |some (.dct E)=>an (ask (glB R x=AC)) λb=>an (eqD E D) λd=>an (c a) λf=>ok λm S X G=>by subst d;exact zmt (z4 G b) (G.glo.D x E h) (f m S X G) rfl (zoz (zbc b))
  |_=>AD
 |_=>AD
def zoZ{pos:Bq}{env:BJ}:∀{es:Hs AX},yb1 es=AC->((backTo pos (starEach es env)).all λx=>!x.1)=AC
 |[],_=>rfl
 |a::es,h=>by erw[yb1,An,AH]at h;have:=zoZ (pos:=pos) (env:=env) (es:=es) h.2;erw[backTo]at this ⊢;rw[zow h.1,AW,An,this];rfl
def zjs{o:AX}{n:AQ}{ap pos:Bq}{es:Hs AX}{env:BJ}(b:nca o=AC)(c:yb1 es=AC)(d:es.length<30)(g:(ap.endLine==pos.line)=AC):
  eval (.Call (.Attribute o n ap) es [] pos) env=(do
   let a <-eval o env
   standAt ap.atName
   let (f,first) <-holding [a] (getMethod a n (do return (<-importBound o env).getD AC))
   callWith pos f first (backTo pos (starEach es env)) (backToKw pos (keywordEach [] env))):=by
 have hf:methodCallForm (es.length+([]:Hs Br).length) (backTo pos (starEach es env)) (backToKw pos (keywordEach [] env))=true:=by erw[methodCallForm,zoZ c,A2];simp[backToKw,keywordEach,d]
 rw[arm_eval_Call,zoD b];erw[methodCall,calleeOf,methodCallPos,hf,g,ID,BP,Hy.or_true,pure_bind]
def yha(c:Ht)(f:AQ)(e:AX)(d:∀x,Pr (YE J R x ca)):Pr (YE J R e (.fld c ca f)):=
 match e with
 |.Attribute a g _=>an (ask (g=f/\J.fl c f=AC/\nca a=AC)) λh=>an (d a) λj=>ok λm S X G=>by let#[rfl,b,l]:=h;exact zmf (G.glo.A c g b).1 (G.glo.A c g b).2 (j m S X G) (zoD l)
 |_=>AD
def ygo(b:R.h=AB)(c i:Ht)(F:Fs J R ces)(e:AX):Pr (YE J R e (.new c i ces)):=
 match e with
 |.Call (.Name x _) (a::d) [] _=>match h:J.g x with
  |some (.cls g j)=>an (ask (g=c/\j=i/\glB R x=AC/\nst a=AC/\yb1 d=AC)) λn=>an (ybd F (a::d)) λo=>ok λm S X G=>by let#[rfl,rfl,l,p,r]:=n;let#[q,f,y,z,t,u,w]:=G.glo.N x g j h;exact zm4 t u (G.rm b) (z4 G l) q w (o m S X G) (zoz (zbc l)) (zow p) (stars r)
  |_=>AD
 |_=>AD
def ygw(b:R.h=AB)(c i:Ht)(n:AQ)(F:Fs J R ces)(e:AX)(w:∀x,Pr (YE J R x ca)):Pr (YE J R e (.mcl c i n ca ces)):=
 match e with
 |.Call (.Attribute (.Name x p) d ap) [] [] pos=>match F with
  |.nil=>an (ask (d=n/\J.me c n=AA i/\(ap.endLine==pos.line)=AC)) λh=>an (w (.Name x p)) λg=>ok λm S X G=>by let#[rfl,j,l]:=h;let#[q,f,A,B,o,r,t]:=G.glo.M c d i j;exact zlz q o r ((G.rm b).mono (DF m)) t (g m S X G) (zjs rfl rfl (Ht.zero_lt_succ _) l)
  |_=>AD
 |.Call (.Attribute (.Name x p) d ap) (a::u) [] pos=>an (ask (d=n/\J.me c n=AA i/\nst a=AC/\yb1 u=AC/\(ap.endLine==pos.line)=AC/\(a::u).length<30)) λh=>an (w (.Name x p)) λg=>an (ybd F (a::u)) λC=>ok λm S X G=>by let#[rfl,j,y,z,l,D]:=h;let#[q,f,A,B,o,r,t]:=G.glo.M c d i j;exact zmC q o r ((G.rm b).mono (DF m)) t (g m S X G) (C m S X G) (zow y) (stars z) (zjs rfl (by erw[yb1,An,y,A2];exact z) D l)
 |_=>AD
def zo0{pos:Bq}{env:BJ}{b:AX}(h:nst b=AC):((backTo pos (starEach [b] env)).all (λx=>!x.1)&&(backToKw pos (keywordEach [] env)).all (λx=>x.1.isSome)&&decide (([b]:Hs AX).length+([]:Hs Br).length+(if ([]:Hs Br).isEmpty then 0 else 1)<30))=true:=by rw[zow h];rfl
def ygZ(k:Mth)(F:Fs J R ces)(e:AX)(q:∀x,Pr (YE J R x ca)):Pr (YE J R e (.mth k ca ces)):=
 match k,e,F with
 |.append,.Call (.Attribute a n ap) [b] [] pos,.cons f .nil=>an (ask (n="append"/\nca a=AC/\nst b=AC/\(ap.endLine==pos.line)=AC)) λh=>an (q a) λg=>an (f b) λj=>ok λm S X G=>by let#[rfl,l,d,o]:=h;exact zgW (g m S X G) (j m S X G) (zow d) (zoD l) o (zo0 d)
 |.extend,.Call (.Attribute a n ap) [b] [] pos,.cons f .nil=>an (ask (n="extend"/\nca a=AC/\nst b=AC/\(ap.endLine==pos.line)=AC)) λh=>an (q a) λg=>an (f b) λj=>ok λm S X G=>by let#[rfl,l,d,o]:=h;exact zhO (g m S X G) (j m S X G) (zow d) (zoD l) o (zo0 d)
 |.get,.Call (.Attribute a n ap) [b,c] [] pos,.cons f (.cons r .nil)=>an (ask (n="get"/\nca a=AC/\nst b=AC/\nst c=AC/\(ap.endLine==pos.line)=AC)) λh=>an (q a) λg=>an (f b) λj=>an (r c) λt=>ok λm S X G=>by let#[rfl,l,d,p,o]:=h;exact zms (zju G.room) (g m S X G) (j m S X G) (t m S X G) #[zoD l,by rw[zow d,zow p];rfl,o,by rw[zow d,zow p];rfl]
 |.insert,.Call (.Attribute a n ap) [b,c] [] pos,.cons f (.cons r .nil)=>an (ask (n="insert"/\nca a=AC/\nst b=AC/\nst c=AC/\(ap.endLine==pos.line)=AC)) λh=>an (q a) λg=>an (f b) λj=>an (r c) λt=>ok λm S X G=>by let#[rfl,l,d,p,o]:=h;exact zgI (g m S X G) (j m S X G) (t m S X G) (by rw[zow d,zow p];rfl) (by rw[zow p];rfl) (zoD l) o (by rw[zow p];rfl) (by rw[zow d,zow p];rfl)
 |_,_,_=>AD
def yhG(e:AX)(c:∀x,Pr (YE J R x ca))(d:∀x,Pr (YE J R x cb)):Pr (YE J R e (.nin ca cb)):=
 match e with
 |.Compare a [.NotIn] [b] _=>an (ask (behindInMarks .NotIn b=AB)) λh=>an (c a) λf=>an (d b) λg=>ok λm S X G=>zmP G.room.units (f m S X G) (g m S X G) h
 |_=>AD
def yeI(e:AX)(c:∀x,Pr (YE J R x ca))(d:∀x,Pr (YE J R x cb)):Pr (YT J R e (.nin ca cb)):=
 match e with
 |.Compare a [.NotIn] [b] _=>an (ask (behindInMarks .NotIn b=AB)) λh=>an (c a) λf=>an (d b) λg=>ok λm S X G=>zl2 G.room.units (f m S X G) (g m S X G) h
 |_=>AD
def yg4(e:AX)(c:∀x,Pr (YE J R x ca)):Pr (YE J R e (.thw (.blt .list (.cons ca .nil)))):=
 match e with
 |.Call (.Name x _) [a] [] _=>an (ask (x="list"/\glB R x=AC/\nst a=AC/\J.b x=AC)) λh=>an (c a) λd=>ok λm S X G=>by let#[rfl,f,b,g]:=h;exact zjl (z4 G f) (G.glo.B _ g) zgK (zaO (d m S X G) zcC (zow b)) (zow b) rfl
 |_=>AD
def yfp(e:AX)(c:∀x,Pr (YE J R x ca))(d:∀x,Pr (YE J R x cb)):Pr (YE J R e (.thw (.bin .add ca cb))):=
 match e with
 |.BinOp a .Add b _=>an (c a) λf=>an (d b) λg=>ok λm S X G=>zkl (f m S X G) (g m S X G)
 |_=>AD
def mCn(t:Ty)(e:AX):Pr (∀m S X,Good J R m S X->PE X e (tC (ybV S.cl t))):=
 match t,e with
 |.cls d,.Name y _=>an (ask (J.xc d y=AC/\glB R y=AC)) λh=>ok λm S X G=>zlO (z4 G h.2) (G.glo.L d y h.1) (zoz (zbc h.2))
 |.val,.Name y _=>an (ask (y="ValueError"/\J.b y=AC/\glB R y=AC)) λh=>ok λm S X G=>by let#[rfl,a,b]:=h;exact zmB (z4 G b) (G.glo.B _ a)
 |_,_=>AD
def mNs:(ts:Hs Ty)->(es:Hs AX)->Pr (∀m S X,Good J R m S X->PA X es (tNs (ts.map (ybV S.cl))))
 |[],[]=>ok λ_ _ _ _=>zmZ
 |t::ts,e::es=>an (ask (nst e=AC)) λh=>an (mCn t e) λa=>an (mNs ts es) λb=>ok λm S X G=>zkj (a m S X G) (b m S X G) (zow h)
 |_,_=>AD
def xkB(J:Gs)(a:Hs Ht)(ts:Hs Ty):Hy:=a.all λc=>ts.all λt=>J.xk c t
def zjz{J:Gs}{m:Ht}{S:Se}{X:Cx}(G:Glo J m S X){a:Hs Ht}{ts:Hs Ty}(h:xkB J a ts=AC)(d:ts≠[]):∀c∈a,ybC X.K (S.cl c)/\∀t∈ts,ycG X.K S.cl c t:=λc b=>by
 erw[xkB,BA]at h;refine#[?_,λt f=>(G.I c t (h c b t f)).2]
 cases ts with
 |nil=>exact IB rfl d
 |cons t ts=>exact(G.I c t (h c b t A6)).1
def yh3(b:Hs Ht)(ts:Hs Ty)(e:AX)(o:∀x,Pr (YE J R x ca)):Pr (YE J R e (.isx ca b ts)):=
 match e with
 |.Call (.Name x _) [a,.Tuple p _ _] [] _=>an (ask (x="isinstance"/\glB R x=AC/\J.b x=AC/\nst a=AC/\xkB J b ts=AC/\ts.length<=1000/\ts≠[])) λh=>an (o a) λd=>an (mNs (J:=J) (R:=R) ts p) λf=>ok λm S X G=>by let#[rfl,g,j,l,n,q,r]:=h;exact zkV (zjz G.glo n r) q (z4 G g) (G.glo.B _ j) (f m S X G) (d m S X G) (zow l) rfl rfl
 |.Call (.Name x _) [a,.Name y u] [] _=>match ts with
  |[t]=>an (ask (x="isinstance"/\glB R x=AC/\J.b x=AC/\nst a=AC/\xkB J b [t]=AC)) λh=>an (o a) λd=>an (mCn (J:=J) (R:=R) t (.Name y u)) λf=>ok λm S X G=>by let#[rfl,g,j,l,n]:=h;exact znu (λc w=>let z:=zjz G.glo n (by simp) c w;#[z.1,z.2 t A6]) (z4 G g) (G.glo.B _ j) (f m S X G) (d m S X G) (zow l) rfl rfl
  |_=>AD
 |_=>AD
end
structure Ev(J:Gs)(c:Ce) where
 e:∀R x,Pr (YE J R x c)
 t:∀R x,Pr (YT J R x c)
 w:∀R op l pos,Pr (YW J R (.BoolOp op l pos) c)
section
variable {J:Gs}{ca cb cc:Ce}
def w1{c:Ce}(t:∀R x,Pr (YT J R x c))(R:Kx)(b:Hb)(l:Hs AX)(pos:Bq):Pr (YW J R (.BoolOp b l pos) c):=
 match b,l with
 |.And,[a]=>an (t R a) λh=>ok λm S X G=>zjZ (h m S X G)
 |.Or,[a]=>an (t R a) λh=>ok λm S X G=>zl5 (h m S X G)
 |_,_=>AD
def plT{c:Ce}(e:∀R x,Pr (YE J R x c))(R:Kx)(x:AX):Pr (YT J R x c):=an (ask (nte x=AC)) λh=>an (e R x) λa=>ok λm S X G=>zm3 (a m S X G) (itr h)
def plain{c:Ce}(e:∀R x,Pr (YE J R x c)):Ev J c:=#[e,plT e,w1 (plT e)]
def ycj{c:Ce}(e:∀R x,Pr (YE J R x c))(t:∀R x,Pr (YT J R x c)):Ev J c:=#[e,t,w1 t]
def yhF(A:Ev J ca)(R:Kx)(e:AX):Pr (YT J R e (.not ca)):=
 match e with
 |.UnaryOp .Not a _=>an (A.t R a) λh=>ok λm S X G=>zno (h m S X G)
 |_=>AD
def ygB(A:Ev J ca)(B:Ev J cb)(R:Kx)(e:AX):Pr (YE J R e (.and ca cb)):=
 match e with
 |.BoolOp .And (a::b::[]) _=>an (A.e R a) λd=>an (B.e R b) λf=>ok λm S X G=>zjU (d m S X G) (zjW (f m S X G))
 |.BoolOp .And (a::b::c::r) p=>an (A.e R a) λd=>an (B.e R (.BoolOp .And (b::c::r) p)) λf=>ok λm S X G=>zjU (d m S X G) (f m S X G)
 |_=>AD
def orE(A:Ev J ca)(B:Ev J cb)(R:Kx)(e:AX):Pr (YE J R e (.or ca cb)):=
 match e with
 |.BoolOp .Or (a::b::[]) _=>an (A.e R a) λd=>an (B.e R b) λf=>ok λm S X G=>zl1 (d m S X G) (zjW (f m S X G))
 |.BoolOp .Or (a::b::c::r) p=>an (A.e R a) λd=>an (B.e R (.BoolOp .Or (b::c::r) p)) λf=>ok λm S X G=>zl1 (d m S X G) (f m S X G)
 |_=>AD
def yeQ(A:Ev J ca)(B:Ev J cb)(R:Kx)(c:Hb)(l:Hs AX)(pos:Bq):Pr (YW J R (.BoolOp c l pos) (.and ca cb)):=
 match c,l with
 |.And,a::b::r=>an (A.t R a) λd=>an (B.w R .And (b::r) pos) λf=>ok λm S X G=>zl3 (d m S X G) (f m S X G)
 |_,_=>AD
def orW(A:Ev J ca)(B:Ev J cb)(R:Kx)(c:Hb)(l:Hs AX)(pos:Bq):Pr (YW J R (.BoolOp c l pos) (.or ca cb)):=
 match c,l with
 |.Or,a::b::r=>an (A.t R a) λd=>an (B.w R .Or (b::r) pos) λf=>ok λm S X G=>zn3 (d m S X G) (f m S X G)
 |_,_=>AD
def ptW{c:Ce}(w:∀R a l pos,Pr (YW J R (.BoolOp a l pos) c))(R:Kx)(e:AX):Pr (YT J R e c):=
 match e with
 |.BoolOp a l p=>an (w R a l p) λh=>ok λm S X G=>PW.pt (h m S X G)
 |_=>AD
def yfU{c:Ce}(t:∀R x,Pr (YT J R x c))(w:∀R b l pos,Pr (YW J R (.BoolOp b l pos) c))(R:Kx)(b:Hb)(l:Hs AX)(pos:Bq):Pr (YW J R (.BoolOp b l pos) c):=
 match l with
 |[a]=>w1 t R b [a] pos
 |l=>w R b l pos
def yeM(A:Ev J ca)(B:Ev J cb):Ev J (.and ca cb):=#[ygB A B,ptW (yeQ A B),yfU (ptW (yeQ A B)) (yeQ A B)]
def ygt(A:Ev J ca)(B:Ev J cb):Ev J (.or ca cb):=#[orE A B,ptW (orW A B),yfU (ptW (orW A B)) (orW A B)]
end
abbrev YI(J:Gs)(R:Kx)(tg l:AX)(c:Cit):Prop:=∀m S X,Good J R m S X->PI X tg l (tI S X c)
abbrev YG(J:Gs)(R:Kx)(tg:AX)(c:Tg):Prop:=∀m S X,Good J R m S X->PG X tg (tG S X c)
section
variable {J:Gs}{R:Kx}{ca cb cc ce:Ce}{ci:Cit}
def yg2(e:∀x,Pr (YE J R x ca))(tg l:AX):Pr (YI J R tg l (.seq ca)):=an (e l) λh=>ok λm S X G=>zmv (h m S X G)
def iR1(b:∀x,Pr (YE J R x ca))(tg l:AX):Pr (YI J R tg l (.range1 ca)):=
 match l with
 |.Call (.Name x _) [a] [] _=>an (ask (x="range"/\glB R x=AC/\J.b x=AC/\nst a=AC)) λh=>an (b a) λc=>ok λm S X G=>by let#[rfl,d,f,g]:=h;exact zib (z4 G d) (G.glo.B _ f) (c m S X G) (zow g)
 |_=>AD
def yez(b:∀x,Pr (YE J R x ca))(tg l:AX):Pr (YI J R tg l (.enum ca)):=
 match tg,l with
 |.Tuple _ _ _,.Call (.Name x _) [a] [] _=>an (ask (x="enumerate"/\glB R x=AC/\J.b x=AC/\nst a=AC)) λh=>an (b a) λc=>ok λm S X G=>by let#[rfl,d,f,g]:=h;exact zkh (z4 G d) (G.glo.B _ f) (c m S X G) (zow g)
 |_,_=>AD
def yhW(d:∀x,Pr (YE J R x ca))(f:∀x,Pr (YE J R x cb))(tg l:AX):Pr (YI J R tg l (.zip ca cb)):=
 match tg,l with
 |.Tuple _ _ _,.Call (.Name x _) [a,b] [] _=>an (ask (x="zip"/\glB R x=AC/\J.b x=AC/\nst a=AC/\nst b=AC)) λh=>an (d a) λg=>an (f b) λj=>ok λm S X G=>by let#[rfl,n,o,p,c]:=h;exact zlI (z4 G n) (G.glo.B _ o) (g m S X G) (j m S X G) (by rw[zow p,zow c];rfl) (zow c)
 |_,_=>AD
def gNm(R:Kx):(l:Hs Ht)->(es:Hs AX)->Pr (∀m S X,Good J R m S X->PGs X es (gNs l)/\(assignEach es X.env).length=l.length/\(assignEach es X.env).findIdx? (·.1)=AD)
 |[],[]=>ok λ_ _ _ _=>#[zle,rfl,rfl]
 |i::l,.Name x _::es=>an (ask (setB R i x=AC)) λh=>an (gNm R l es) λa=>ok λm S X G=>by
  have s:=za6 G h;let#[b,c,d]:=a m S X G;refine#[zjj s.d s.i s.l b s.f,?_,?_]
  .simp only[assignEach,AV,c]
  .simp only[assignEach,Hs.findIdx?_cons,d];rfl
 |_,_=>AD
def mTg(ct:Tg)(tg:AX):Pr (YG J R tg ct):=
 match ct,tg with
 |.n i,.Name x _=>an (ask (setB R i x=AC)) λh=>ok λm S X G=>let s:=za6 G h;zlh s.d s.i s.l s.f
 |.t l,.Tuple b _ _=>hf R λa=>an (gNm R l b) λh=>ok λm S X G=>zmQ (G.calm a) (h m S X G).1 (h m S X G).2.1 (h m S X G).2.2
 |_,_=>AD
def tgN:AX->Hs AQ
 |.Name x _=>[x]
 |.Tuple a _ _=>a.filterMap fun
  |.Name x _=>AA x
  |_=>AD
 |_=>[]
def ycA(N:Hs AQ)(sl:Hs (Option Ht))(tg:AX):Hs Str:=tgN tg++(sl.drop (tgN tg).length).filterMap λo=>o.bind λj=>N[j]?
def ybN(sc a:BU):Scope:={sc with names:=sc.names.map λ(n,k)=>if (k==Ca&&a.kind==.function&&a.names.lookup n==AA .cell)then(n,Ff)else(n,k)}
def yR(N:Hs AQ)(a sc:BU)(NC:Hs AQ)(sl:Hs (Option Ht)):Hy:=
 decide (sc.kind=.function)&&(sc.names.all λy=>y.2 != .local || decide (sc.names.lookup y.1=AA .local))&&(sc.names.all λy=>y.2 != .cell)&&(sc.names.all λy=>y.2 != .free || decide (a.names.lookup y.1=AA .cell)) &&
  ((NC.zip sl).all λp=>p.2.all λj=>decide (N[j]?=AA p.1/\sc.names.lookup p.1=AA .free))&&decide (sl.length=NC.length)
def zfE{X:Cx}{sc:BU}{NC:Hs AQ}{sl:Hs (Option Ht)}(h:yR X.N X.env.scope sc NC sl=AC):yai X sc NC sl:=by erw[yR,AH,Hx,BA,Dg,bne_iff_ne,ne_eq]at h;let#[#[#[#[#[b,c],d],f],g],j]:=h;exact zpi _ _ rfl rfl b (λy a e=>(c y a).resolve_left λz=>z e) d (λy a e=>(f y a).resolve_left λz=>z e) (λp l=>by simpa using g p l) j
theorem Good.comp{m:Ht}{S:Se}{X:Cx}(G:Good J R m S X)(sc:BU)(NC:Hs AQ)(j:CI):Good J #[NC,ybN sc R.sc,AB,R.h] m S (cxC X sc NC j):=by refine#[rfl,?_,G.calm,G.room,G.hd,(λh=>nomatch h),(λh=>nomatch h),#[G.glo.F,G.glo.Q,G.glo.C,G.glo.D,G.glo.E,G.glo.N,G.glo.B,G.glo.T,G.glo.A,G.glo.M,λy D h=>let #[b,a,c,M,d]:=G.glo.K y D h;#[b,a,c,#[M.F,M.kp,M.b],d],G.glo.V,G.glo.I,G.glo.L,G.glo.H,G.glo.Z]];show relabel sc X.env=_;rw[<-G.sc];rfl
def yhE(c:Ce)(f:∀x,Pr (YT J R x c))(b:Hs AX):Pr (∀m S X,Good J R m S X->PTs X b (tT0 S X.K c)):=
 match b with
 |[]=>match c with
  |.cst (.bl AC)=>ok λ_ _ _ _=>zio
  |_=>AD
 |[a]=>an (f a) λh=>ok λm S X G=>zlp rfl (h m S X G)
 |_=>AD
structure ycY(J:Gs)(R:Kx)(sl:Hs (Option Ht))(ct:Tg)(ci:Cit)(cc ce:Ce)(elt tg it:AX)(ifs:Hs AX)(sc:BU):Prop where
 q:∀m S X,Good J R m S X->∃NC,yai X sc NC sl/\PI X tg it (tI S X ci)/\(∀j,PG (cxC X sc NC j) tg (tG0 S X.K ct))/\(∀j,PTs (cxC X sc NC j) ifs (tT0 S X.K cc))/\∀j,PE (cxC X sc NC j) elt (tE0 S X.K ce)
 f:yZ ct sl=AC
 s:nse it=AC
def mCo(sl:Hs (Option Ht))(ct:Tg)(d:∀tg l,Pr (YI J R tg l ci))(C:Ev J cc)(E:Ev J ce)(a tg c:AX)(b:Hs AX)(sc:BU):Pr (ycY J R sl ct ci cc ce a tg c b sc):=
 an (ask (yR R.N R.sc sc (ycA R.N sl tg) sl=AC/\yZ ct sl=AC/\nse c=AC)) λh=>an (d tg c) λf=>an (mTg (J:=J) (R:=#[ycA R.N sl tg,ybN sc R.sc,AB,R.h]) ct tg) λg=>
  an (yhE (J:=J) (R:=#[ycA R.N sl tg,ybN sc R.sc,AB,R.h]) cc (C.t _) b) λn=>an (E.e #[ycA R.N sl tg,ybN sc R.sc,AB,R.h] a) λo=>ok #[λm S X G=>#[ycA R.N sl tg,by rw[<-G.n,<-G.sc]at h;rw[<-G.n];exact zfE h.1,f m S X G,λj=>zhr rfl (g m S _ (G.comp sc _ j)),λj=>n m S _ (G.comp sc _ j),λj=>zgQ rfl (o m S _ (G.comp sc _ j))],h.2.1,h.2.2]
def yeC(sl:Hs (Option Ht))(ct:Tg)(f:∀a l,Pr (YI J R a l ci))(C:Ev J cc)(E:Ev J ce)(e:AX):Pr (YE J R e (.comp sl ct ci cc ce)):=
 match e with
 |.ListComp b [#[a,g,c,0]] j _=>hf R λd=>an (mCo sl ct f C E b a g c j) λh=>ok λm S X G=>by let#[t,n,o,p,q,r]:=h.q m S X G;exact zkq (G.calm d) n h.f o p q r (fse h.s)
 |_=>AD
def ygJ(sl:Hs (Option Ht))(ct:Tg)(g:∀x,Pr (YE J R x ca))(E:Ev J ce)(e:AX):Pr (YE J R e (.cml sl ct ca ce)):=
 match e with
 |.ListComp c [#[a,f,[],0]] b _=>hf R λd=>an (ask (yR R.N R.sc b (ycA R.N sl a) sl=AC/\yZ ct sl=AC/\nse f=AC)) λh=>an (g f) λl=>an (mTg (J:=J) (R:=#[ycA R.N sl a,ybN b R.sc,AB,R.h]) ct a) λn=>
  an (E.e #[ycA R.N sl a,ybN b R.sc,AB,R.h] c) λo=>ok λm S X G=>znb (NC:=ycA R.N sl a) (G.calm d) (by rw[<-G.n,<-G.sc]at h;rw[<-G.n];exact zfE h.1) h.2.1 (l m S X G) (λj=>zhr rfl (n m S _ (G.comp b _ j))) (λj=>zgQ rfl (o m S _ (G.comp b _ j))) (fse h.2.2)
 |_=>AD
end
section
variable {J:Gs}{R:Kx}
def mPp:(a:Hs (AQ×Hw))->(b:Hs (Option AX))->(vs:Hs AX)->Pr (∀X pos,PPs X pos b vs (trC a))
 |[],[],[]=>ok λ_ _=>znE
 |(x,i)::r,AA (.Constant (.str y) _ _)::b,.Constant (.int j) _ _::vs=>an (ask (y=x/\j=i)) λh=>an (mPp r b vs) λc=>ok λX pos=>by let#[rfl,rfl]:=h;exact zlx (c X pos)
 |_,_,_=>AD
def ye2(a:Hs (AQ×Hw))(e:AX):Pr (YE J R e (.newd a)):=
 match e with
 |.Dict b c pos=>an (mPp a b c) λh=>an (ask (b.all (·.isSome)=AC/\b.length=c.length/\b.length≠0/\b.length<=15)) λq=>ok λm S X G=>zkz (h X pos) q.1 q.2.1 (λz=>q.2.2.1 (by rw[z];rfl)) q.2.2.2
 |_=>AD
end
mutual
noncomputable def ch(J:Gs):(c:Ce)->Ev J c
 |.cst v=>plain λR x=>ygS v x
 |.var i=>plain λR x=>yfJ i x
 |.bin o a b=>plain λR x=>yhO o x ((ch J a).e R) ((ch J b).e R)
 |.rep a b=>plain λR x=>ygu x ((ch J a).e R) ((ch J b).e R)
 |.neg a=>plain λR x=>yht x ((ch J a).e R)
 |.not a=>ycj (λR x=>yhc x ((ch J a).e R)) (yhF (ch J a))
 |.and a b=>yeM (ch J a) (ch J b)
 |.or a b=>ygt (ch J a) (ch J b)
 |.cmp o a b=>ycj (λR x=>yhn o x ((ch J a).e R) ((ch J b).e R)) (λR x=>ye7 o x ((ch J a).e R) ((ch J b).e R))
 |.chain o p a b c=>ycj (λR x=>yg9 o p x ((ch J a).e R) ((ch J b).e R) ((ch J c).e R)) (λR x=>yeP o p x ((ch J a).e R) ((ch J b).e R) ((ch J c).e R))
 |.ite c a b=>plain λR x=>ygl x ((ch J c).t R) ((ch J a).e R) ((ch J b).e R)
 |.tup d=>plain λR x=>ygf x (ybd (chs J d R))
 |.lst d=>plain λR x=>yhd x (ybd (chs J d R))
 |.newl d=>plain λR x=>yeY x (ybd (chs J d R))
 |.newd g=>plain λR x=>ye2 g x
 |.idx a i=>plain λR x=>mIdx x ((ch J a).e R) ((ch J i).e R)
 |.slc a l h=>plain λR x=>yhM x ((ch J a).e R) (λo=>yfY l o ((ch J l).e R)) (λo=>yfY h o ((ch J h).e R))
 |.call f d=>plain λR x=>hf R λh=>yf7 h f (chs J d R) x
 |.isx a u j=>plain λR x=>yh3 u j x ((ch J a).e R)
 |.nin a b=>ycj (λR x=>yhG x ((ch J a).e R) ((ch J b).e R)) (λR x=>yeI x ((ch J a).e R) ((ch J b).e R))
 |.thw (.bin .add a b)=>plain λR x=>yfp x ((ch J a).e R) ((ch J b).e R)
 |.thw (.blt .list (.cons a .nil))=>plain λR x=>yg4 x ((ch J a).e R)
 |.blt b d=>plain λR x=>ygH b (chs J d R) x
 |.mth k o d=>plain λR x=>ygZ k (chs J d R) x ((ch J o).e R)
 |.isi a j=>plain λR x=>ygE j x ((ch J a).e R)
 |.comp q r w c e=>plain λR x=>yeC q r (chi J w R) (ch J c) (ch J e) x
 |.cml q r i e=>plain λR x=>ygJ q r ((ch J i).e R) (ch J e) x
 |.frz a=>plain λR x=>an ((ch J a).e R x) λh=>ok λm S X G=>zma (h m S X G)
 |.nope=>plain λR x=>ok λ_ _ _ _=>zll
 |.dix D a=>plain λR x=>ygD D x ((ch J a).e R)
 |.din a D=>plain λR x=>yhR D x ((ch J a).e R)
 |.fld c a f=>plain λR x=>yha c f x ((ch J a).e R)
 |.new c i d=>plain λR x=>hf R λh=>ygo h c i (chs J d R) x
 |.mcl c i n o d=>plain λR x=>hf R λh=>ygw h c i n (chs J d R) x ((ch J o).e R)
 |_=>plain λ_ _=>AD
noncomputable def chs(J:Gs):(a:Ces)->(R:Kx)->Fs J R a
 |.nil,_=>.nil
 |.cons c a,R=>.cons (λx=>(ch J c).e R x) (chs J a R)
noncomputable def chi(J:Gs):(c:Cit)->(R:Kx)->∀d l,Pr (YI J R d l c)
 |.seq a,R=>yg2 ((ch J a).e R)
 |.range1 a,R=>iR1 ((ch J a).e R)
 |.enum a,R=>yez ((ch J a).e R)
 |.zip a b,R=>yhW ((ch J a).e R) ((ch J b).e R)
 |_,_=>λ_ _=>AD
end
section
variable {J:Gs}{R:Kx}{ca cb cc ce:Ce}{ci:Cit}{ct:Tg}{cs cs':Css}{ces:Ces}
def swB(a:BU)(x:AQ)(b pos:Bq)(sc:BU):Hy:=(if a.kind.isAnnotationScope then EJ else a.kind)==.function&&a.names.lookup x==AA .local&&b.line==pos.line&&!(sc.names.any λ(n,k)=>n==x&&(k==.local || k==.cell))
def zo1{a:AX}{gs:Hs Comprehension}{sc:BU}{pos b:Bq}{x:AQ}{l:Ht}{env:BJ}:swapsWith (.ListComp a gs sc pos) (AA (.Name x b)) l env=pure (swB env.scope x b pos sc):=rfl
def yeG(f:∀x,Pr (YE J R x ca))(s:Bf):Pr (YS J R s (.expr ca)):=
 match s with
 |.Expr a _=>an (ask (nco a=AC)) λb=>an (f a) λh=>ok λm S X G=>zkK (h m S X G) (swp b)
 |_=>AD
def yhj(i:Ht)(f:∀x,Pr (YE J R x ca))(s:Bf):Pr (YS J R s (.asg (.n i) ca)):=
 match s with
 |.Assign [.Name x _] a _=>an (ask (nco a=AC/\setB R i x=AC)) λb=>an (f a) λh=>ok λm S X G=>let q:=za6 G b.2;zmi q.d q.i q.l (h m S X G) (swp b.1) q.f
 |_=>AD
def yfc(i:Ht)(sl:Hs (Option Ht))(ct:Tg)(j:∀a l,Pr (YI J R a l ci))(C:Ev J cc)(E:Ev J ce)(s:Bf):Pr (YS J R s (.asg (.n i) (.comp sl ct ci cc ce))):=
 match s with
 |.Assign [.Name x o] (.ListComp b [#[a,r,c,0]] f p) _=>hf R λd=>an (ask (setB R i x=AC/\swB R.sc x o p f=AC)) λg=>an (mCo sl ct j C E b a r c f) λh=>ok λm S X G=>by let#[A,t,u,w,y,z]:=h.q m S X G;have q:=za6 G g.1;exact zk1 q.d q.i q.l (G.calm d) t h.f u w y z (by rw[zo1,G.sc,g.2]) (fse h.s) q.f
 |_=>AD
def ydQ(i:Ht)(sl:Hs (Option Ht))(ct:Tg)(j:∀a l,Pr (YI J R a l ci))(C:Ev J cc)(E:Ev J ce)(s:Bf):Pr (YS J R s (.asg (.n i) (.thw (.comp sl ct ci cc ce)))):=
 match s with
 |.Assign [.Name x o] (.ListComp b [#[a,r,c,0]] f p) _=>hf R λd=>an (ask (setB R i x=AC/\swB R.sc x o p f=AC)) λg=>an (mCo sl ct j C E b a r c f) λh=>ok λm S X G=>by let#[A,t,u,w,y,z]:=h.q m S X G;have q:=za6 G g.1;exact ziX q.d q.i q.l (G.calm d) t h.f u w y z (by rw[zo1,G.sc,g.2]) (fse h.s) q.f
 |_=>AD
def zoI{a:AX}(h:nst a=AC):(match (generalizing:=false) a with | .Starred _ _=>AC|_=>AB)=false:=by revert h;cases a<;>intro h<;>first|rfl|cases h
def swD(c:BU)(x y:AQ)(d f:Bq)(a b:AX):Hy:=(if c.kind.isAnnotationScope then EJ else c.kind)==.function&&c.names.lookup x==AA .local&&c.names.lookup y==AA .local&&f.line==d.line&&nst a&&nst b&&!(x==y)&&!(foldedForSure 8 a&&foldedForSure 8 b)&&!(constantsAlone 8 a&&constantsAlone 8 b)
def zpn{x y:AQ}{c d pt f:Bq}{n k2:Ht}{a b:AX}{env:BJ}(h:swD env.scope x y c d a b=AC):
  swappedStores [.Tuple [.Name x c,.Name y d] n pt] (.Tuple [a,b] k2 f) env=pure (AA [x,y]):=by
 erw[swD,AH,Bt]at h;let#[#[#[#[#[#[#[#[o,p],q],r],t],u],w],g],j]:=h;have A:(env.blockKind != .function)=false:=by show (!((if env.scope.kind.isAnnotationScope then EJ else env.scope.kind)==.function))=AB;rw[o];rfl
 have k2:env.kindOf x=AA .local:=eq_of_beq p;have B:env.kindOf y=AA .local:=eq_of_beq q;have C:d.line=c.line:=eq_of_beq r;have D:¬y=x:=λz=>by subst z;simp at w
 have l:=zoI t;have m:=zoI u;have E:¬(foldedForSure 8 a=AC/\foldedForSure 8 b=AC):=λz=>by rw[z.1,z.2]at g;cases g
 have c9:¬(constantsAlone 8 a=AC/\constantsAlone 8 b=AC):=λz=>by rw[z.1,z.2]at j;cases j
 have G:(Expr.Name x c).pos=c:=rfl;have H:(Expr.Name y d).pos=d:=rfl;unfold swappedStores;simp[A,l,m,k2,B,C,Hs.eraseDups_cons,D,G,H,E,c9,C0];intro z;exfalso;rcases z with z|z
 .exact A4 (l.symm.trans z)
 .exact A4 (m.symm.trans z)
def yhU(i j:Ht)(l:∀x,Pr (YE J R x ca))(n:∀x,Pr (YE J R x cb))(s:Bf):Pr (YS J R s (.asg (.t [i,j]) (.tup (.cons ca (.cons cb .nil))))):=
 match s with
 |.Assign [.Tuple [.Name x o,.Name y p] _ _] (.Tuple [a,b] _ _) _=>hf R λc=>an (ask (setB R i x=AC/\setB R j y=AC/\i≠j/\swD R.sc x y o p a b=AC)) λh=>an (l a) λu=>an (n b) λw=>ok λm S X G=>by
  let#[z,A,f,g]:=h;have q:=za6 G z;have r:=za6 G A;have d:=g;erw[swD,AH]at d;have B:X.env.scope.names.lookup x=AA .local:=by rw[G.sc];exact eq_of_beq d.1.1.1.1.1.1.1.2
  have C:X.env.scope.names.lookup y=AA .local:=by rw[G.sc];exact eq_of_beq d.1.1.1.1.1.1.2
  exact znF (G.calm c) q.d q.i r.i f (zm6 (G.calm c) q.d q.i r.i f B C (zaO (u m S X G) (zaO (w m S X G) zcC (zow d.1.1.1.2)) (zow d.1.1.1.1.2)) (zpn (by rw[G.sc];exact g)))
 |_=>AD
theorem sw0{es:Hs AX}{k:Ht}{p:Bq}{a:AX}{env:BJ}(h:ntu a=AC):swappedStores [.Tuple es k p] a env=pure none:=by cases a<;>first|rfl|cases h
theorem sw1{b c:AX}{p:Bq}{a:AX}{env:BJ}:swappedStores [.Subscript b c p] a env=pure none:=by cases a<;>rfl
def zoO{t a:AX}{l:Ht}{env:BJ}(h:nco a=AC):swapsWithSole [t] a l env=pure false:=by show swapsWith a (AA t) l env=_;exact swp h
theorem asS{b c:AX}{pos:Bq}{env:BJ}(h:nsl c=AC):∀v,assign (.Subscript b c pos) env v=(do
   let a <-holding [v] (eval b env)
   let d <-holding [v,a] (eval c env)
   standAt pos
   holding [v,a,d] (setItem a d v)
   release [v,a,d] []):=by cases c<;>first|exact λ_=>rfl|cases h
def yh0(l:Hs Ht)(f:∀x,Pr (YE J R x ca))(s:Bf):Pr (YS J R s (.asg (.t l) ca)):=
 match s with
 |.Assign [.Tuple c k p] a _=>an (ask (nco a=AC/\ntu a=AC)) λb=>an (mTg (J:=J) (R:=R) (.t l) (.Tuple c k p)) λd=>an (f a) λh=>ok λm S X G=>zln (h m S X G) (d m S X G) (zoO b.1) (sw0 b.2)
 |_=>AD
def ygi(f:∀x,Pr (YE J R x cc))(l:∀x,Pr (YE J R x ca))(n:∀x,Pr (YE J R x cb))(s:Bf):Pr (YS J R s (.six ca cb cc)):=
 match s with
 |.Assign [.Subscript b c _] a _=>an (ask (nco a=AC/\nsl c=AC)) λd=>an (f a) λh=>an (l b) λg=>an (n c) λj=>ok λm S X G=>zlS (h m S X G) (g m S X G) (j m S X G) (zoO d.1) sw1 (ze7 (g m S X G) (j m S X G) zce (asS d.2))
 |_=>AD
theorem sw2{c d g d' a b:AX}{j l pt f:Bq}{m k2:Ht}{env:BJ}(n:nst a=AC)(o:nst b=AC):swappedStores [.Tuple [.Subscript c d j,.Subscript g d' l] m pt] (.Tuple [a,b] k2 f) env=pure none:=by have p:=zoI n;have q:=zoI o;unfold swappedStores;simp[p,q]
def yff{ca cb cc j ce l:Ce}(t:∀x,Pr (YE J R x ca))(u:∀x,Pr (YE J R x cb))(w:∀x,Pr (YE J R x cc))(y:∀x,Pr (YE J R x j))(z:∀x,Pr (YE J R x ce))(A:∀x,Pr (YE J R x l))(s:Bf):Pr (YS J R s (.six2 cc j ce l ca cb)):=
 match s with
 |.Assign [.Tuple [.Subscript c d _,.Subscript B n _] _ _] (.Tuple [a,b] _ _) _=>hf R λg=>an (ask (nst a=AC/\nst b=AC/\nsl d=AC/\nsl n=AC)) λf=>an (t a) λC=>an (u b) λD=>an (w c) λo=>an (y d) λp=>an (z B) λq=>an (A n) λr=>ok λm S X G=>
  zlt (G.calm g) (zaO (C m S X G) (zaO (D m S X G) zcC (zow f.2.1)) (zow f.1)) (o m S X G) (p m S X G) (q m S X G) (r m S X G) (ze7 (o m S X G) (p m S X G) zce (asS f.2.2.1)) (ze7 (q m S X G) (r m S X G) zce (asS f.2.2.2)) (zoO rfl) (sw2 f.1 f.2.1)
 |_=>AD
def yeF(f:∀x,Pr (YE J R x cc))(d:∀x,Pr (YE J R x ca))(g:∀x,Pr (YE J R x cb))(s:Bf):Pr (YS J R s (.dput ca cb cc)):=
 match s with
 |.Assign [.Subscript b c _] a _=>an (ask (nco a=AC)) λj=>an (f a) λh=>an (d b) λl=>an (g c) λn=>ok λm S X G=>zkm (zju G.room) (l m S X G) (n m S X G) (h m S X G) (swp j)
 |_=>AD
def yhZ(a:D6)(o:BOp):Pr (∀S X,PIp X a (rT2 S X (ybM o))):=
 match a,o with
 |.Add,.add=>ok λ_ _=>zkJ
 |_,_=>AD
def ygp(i:Ht)(o:BOp)(f:∀x,Pr (YE J R x ca))(s:Bf):Pr (YS J R s (.aug i o ca)):=
 match s with
 |.AugAssign (.Name x _) b a _=>an (ask (setB R i x=AC)) λh=>an (yhZ b o) λc=>an (f a) λd=>ok λm S X G=>let q:=za6 G h;zmI q.d q.i q.l (d m S X G) (c S X) q.f (zoz q.p) (zoY q.p)
 |_=>AD
def yho(c:Ce)(f:∀x,Pr (YE J R x c))(s:Bf):Pr (YS J R s (.ret c)):=
 match s with
 |.Return (AA a) _=>an (f a) λh=>ok λm S X G=>zlK (h m S X G)
 |.Return AD _=>match c with
  |.cst .non=>ok λ_ _ _ _=>zlf
  |_=>AD
 |_=>AD
def sIf(d:∀x,Pr (YT J R x cc))(f:∀x,Pr (YSs J R x cs))(g:∀x,Pr (YSs J R x cs'))(s:Bf):Pr (YS J R s (.ite cc cs cs')):=
 match s with
 |.If c a b _=>an (d c) λj=>an (f a) λl=>an (g b) λn=>ok λm S X G=>zn0 (j m S X G) (l m S X G) (n m S X G)
 |_=>AD
def ygW(ct:Tg)(f:∀a l,Pr (YI J R a l ci))(g:∀x,Pr (YSs J R x cs))(s:Bf):Pr (YS J R s (.for ct ci cs)):=
 match s with
 |.For a l b [] _=>hf R λc=>an (ask (R.own=AC/\nse l=AC)) λd=>an (f a l) λj=>an (mTg (J:=J) (R:=R) ct a) λn=>an (g b) λo=>ok λm S X G=>zmh (G.own d.1).1 (G.calm c) (j m S X G) (n m S X G) (o m S X G) (fse d.2)
 |_=>AD
def sWh(a:∀x,Pr (YT J R x cc))(d:∀x,Pr (YSs J R x cs))(s:Bf):Pr (YS J R s (.while cc cs)):=
 match s with
 |.While c b [] _=>an (ask (R.own=AC)) λf=>an (a c) λg=>an (d b) λj=>ok λm S X G=>ziq (G.own f).1 (g m S X G) (j m S X G)
 |_=>AD
def yhH(k:Ht)(f:∀x,Pr (YE J R x ca))(s:Bf):Pr (YS J R s (.raise k ca)):=
 match s with
 |.Raise (AA (.Call (.Name x _) [a] [] _)) AD _=>hf R λb=>match g:J.g x with
  |some (.exc c)=>an (ask (c=k/\R.own=AC/\glB R x=AC/\nst a=AC)) λh=>an (f a) λj=>ok λm S X G=>by let#[rfl,l,d,n]:=h;exact zit (G.glo.E x c g) (G.own l).2.2 (G.calm b) (z4 G d) (j m S X G) (zow n) rfl (zoz (zbc d))
  |_=>AD
 |_=>AD
def yga(c:Ht)(f:AQ)(j:∀x,Pr (YE J R x ca))(l:∀x,Pr (YE J R x cb))(s:Bf):Pr (YS J R s (.sfl c ca f cb)):=
 match s with
 |.Assign [.Attribute a g _] b _=>an (ask (g=f/\J.fl c f=AC/\nco b=AC)) λh=>an (j a) λn=>an (l b) λo=>ok λm S X G=>by let#[rfl,d,p]:=h;exact znt (G.glo.A c g d).1 (G.glo.A c g d).2 (n m S X G) (o m S X G) (swp p)
 |_=>AD
def ygy(c i:Ht)(f:AQ)(j:Hw)(l:∀x,Pr (YE J R x (.var i)))(n:∀x,Pr (YE J R x (.cst (.int j))))(s:Bf):Pr (YS J R s (.sfl c (.var i) f (.bin .add (.fld c (.var i) f) (.cst (.int j))))):=
 match s with
 |.AugAssign (.Attribute a g _) .Add b _=>an (ask (g=f/\J.fl c f=AC)) λh=>an (l a) λo=>an (n b) λp=>ok λm S X G=>by let#[rfl,d]:=h;exact zmR (G.glo.A c g d).1 (G.glo.A c g d).2 (o m S X G) (p m S X G)
 |_=>AD
def ygG(c:Ht)(o:Ce)(f:AQ)(e:Ce)(O:Ev J o)(E:Ev J e)(s:Bf):Pr (YS J R s (.sfl c o f e)):=
 match s with
 |.AugAssign t a b p=>match o,e with
  | .var i,.bin .add (.fld d (.var g) l) (.cst (.int j))=>an (ask (d=c/\g=i/\l=f)) λh=>an (ygy (J:=J) (R:=R) c i f j (λx=>yfJ i x) (λx=>yfS (.int j) x) (.AugAssign t a b p)) λq=>ok (by let#[rfl,rfl,rfl]:=h;exact q)
  |_,_=>AD
 |s=>yga c f (O.e R) (E.e R) s
theorem Good.tb{m:Ht}{S:Se}{X:Cx}(G:Good J R m S X)(a:R.h=AB)(pn:Hs (AJ×Bd))(P:St->AG->Hp->Prop):Good J #[R.N,R.sc,AB,AB] m S.quiet (yd0 X pn P):=
 #[G.n,G.sc,λ_=>G.calm a,G.room,λ_=>G.hd a,(λh=>nomatch h),(λh=>nomatch h),#[G.glo.F,G.glo.Q,G.glo.C,G.glo.D,G.glo.E,G.glo.N,G.glo.B,G.glo.T,G.glo.A,G.glo.M,λy D h=>let #[c,b,f,M,d]:=G.glo.K y D h;#[c,b,f,#[M.F,M.kp,M.b],d],G.glo.V,G.glo.I,G.glo.L,G.glo.H,G.glo.Z]]
theorem Good.th{m:Ht}{S:Se}{X:Cx}(G:Good J R m S X)(pn:Hs (AJ×Bd))(a:AJ):Good J #[R.N,R.sc,AB,AC] m S.quiet (cxS X pn a):=
 #[G.n,G.sc,(λh=>nomatch h),G.room.mark,(λh=>nomatch h),(λh=>nomatch h),(λh=>nomatch h),#[G.glo.F,G.glo.Q,G.glo.C,G.glo.D,G.glo.E,G.glo.N,G.glo.B,G.glo.T,G.glo.A,G.glo.M,λy D h=>let #[c,b,f,M,d]:=G.glo.K y D h;#[c,b,f,#[M.F,M.kp,M.b],d],G.glo.V,G.glo.I,G.glo.L,G.glo.H,G.glo.Z]]
def yhl(cs:Hs Ht)(i:Ht){cb ch:Css}(p:∀s,Pr (YSs J #[R.N,R.sc,AB,AB] s cb))(r:∀s,Pr (YSs J #[R.N,R.sc,AB,AC] s ch))(s:Bf):Pr (YS J R s (.try cb cs i ch)):=
 match s with
 |.Try b [.ExceptHandler (AA (.Name x _)) (AA n) (d::suite) _] [] [] _=>hf R λf=>an (ask (R.own=AC/\R.N.Nodup/\R.N[i]?=AA n/\R.sc.names.lookup n=AA .local/\glB R x=AC/\(cs.all λc=>J.xm c x)=AC/\cs≠[])) λh=>an (p b) λt=>an (r (d::suite)) λu=>ok λm S X G=>by
  let#[g,w,y,z,l,j,A]:=h;erw[BA]at j;obtain⟨W,o⟩:∃W,X.mg x=AA (.ref W):=by
   cases cs with
   |nil=>exact IB rfl A
   |cons c cs=>let#[W,q,_]:=G.glo.H c x (j c A6);exact#[W,q]
  refine zlU (G.top g).1 (G.top g).2.1 (G.top g).2.2 (by rw[G.n];exact w) (by rw[G.n];exact y) (by rw[G.sc];exact z) (z4 G l) o (λc B=>?_) (λpn P=>t m _ _ (G.tb f pn P)) (λpn a=>u m _ _ (G.th pn a)) (zoz (zbc l));let#[C,q,e]:=G.glo.H c x (j c B);rw[o]at q
  cases q
  exact e
 |_=>AD
end
mutual
noncomputable def chS(J:Gs):(c:Cs)->(R:Kx)->∀s,Pr (YS J R s c)
 |.expr e,R=>yeG ((ch J e).e R)
 |.asg (.n i) (.comp d g m q r),R=>yfc i d g (chi J m R) (ch J q) (ch J r)
 |.asg (.n i) (.thw (.comp d g m q r)),R=>ydQ i d g (chi J m R) (ch J q) (ch J r)
 |.asg (.n i) c,R=>yhj i ((ch J c).e R)
 |.asg (.t [i,j]) (.tup (.cons a (.cons b .nil))),R=>yhU i j ((ch J a).e R) ((ch J b).e R)
 |.asg (.t l) c,R=>yh0 l ((ch J c).e R)
 |.six o i e,R=>ygi ((ch J e).e R) ((ch J o).e R) ((ch J i).e R)
 |.six2 o i p j e f,R=>yff ((ch J e).e R) ((ch J f).e R) ((ch J o).e R) ((ch J i).e R) ((ch J p).e R) ((ch J j).e R)
 |.dput o i e,R=>yeF ((ch J e).e R) ((ch J o).e R) ((ch J i).e R)
 |.aug i o e,R=>ygp i o ((ch J e).e R)
 |.ret e,R=>yho e ((ch J e).e R)
 |.ite c a b,R=>sIf ((ch J c).t R) (ycm J a R) (ycm J b R)
 |.for t u b,R=>ygW t (chi J u R) (ycm J b R)
 |.while c b,R=>sWh ((ch J c).t R) (ycm J b R)
 |.nope,_=>λ_=>ok λ_ _ _ _=>zj6
 |.try b w i h,R=>yhl w i (ycm J b #[R.N,R.sc,AB,AB]) (ycm J h #[R.N,R.sc,AB,AC])
 |.raise k e,R=>yhH k ((ch J e).e R)
 |.sfl c o f e,R=>ygG c o f e (ch J o) (ch J e)
noncomputable def ycm(J:Gs):(c:Css)->(R:Kx)->∀s,Pr (YSs J R s c)
 |.nil,_,[]=>ok λ_ _ _ _=>zmH
 |.cons c a,R,s::b=>an (chS J c R s) λh=>an (ycm J a R b) λd=>ok λm S X G=>zj4 (h m S X G) (d m S X G)
 |_,_,_=>AD
end
inductive Dk where
 |fn|fd (ds:Hs Hw)|me (c:Ht)|ini (c:Ht)
structure Df where
 gn:AQ
 nm:AQ
 q:AQ
 st:Bf
 N:Hs AQ
 ps:Hs AQ
 fn:IC.Fn
 k:Dk
def scB(N P:Hs AQ)(sc:BU):Hy:=decide (sc.kind=.function)&&!sc.isCoroutine&&!sc.isGenerator&&decide N.Nodup&&decide (N.take P.length=P)&&P.all (yeh sc)&&sc.names.all λy=>y.2 != .free
def zjt{N P:Hs AQ}{sc:BU}(h:scB N P sc=AC):yaV N P sc:=by erw[scB,AH,Hx,Bt,BA,bne_iff_ne,ne_eq]at h;let#[#[#[#[#[#[a,b],c],d],f],g],j]:=h;exact#[a,b,c,d,f,λx l=>zgO (g x l),j]
def okD(J:Gs)(d:Df):Hy:=scB d.N d.ps (yC d.st)&&decide (d.ps.length=d.fn.np)&&decide (d.N.length=d.fn.ns)&&(ycm J d.fn.body #[d.N,yC d.st,AC,AB] (yad d.st)).isSome
def ybX{A:Type}(P:A->Prop):Hs A->Prop
 |[]=>True
 |d::r=>P d/\ybX P r
theorem ybX.get{A:Type}{P:A->Prop}:∀{l:Hs A},ybX P l->∀d∈l,P d
 |_::_,h,d,hd=>by
  rcases AM.1 hd with rfl|hd
  .exact h.1
  .exact h.2.get d hd
def ybx:Hs AQ->(Hs AG->Prop)->Prop
 |[],P=>P []
 |_::r,P=>∀a,ybx r λb=>P (a::b)
theorem ybx.get:∀{ps:Hs AQ} {P:Hs AG->Prop},ybx ps P->∀b,b.length=ps.length->P b
 |[],P,h,[],_=>h
 |_::r,P,h,a::b,e=>(h a).get b (by simpa using e)
def ybe(d:Df):Prop:=∀(kV doc c:AG) (an:Option AJ) (a f:AG),ybx d.ps λb=>bindArgs (Bb d.nm d.q (yaq d.st) (yad d.st) (yC d.st) .none kV doc c an a f) #[b,[]]=pure (d.ps.zip b)
structure ycx(K:AF)(d:Df)(dv:AG)(f:AJ)(fd:BC):Prop where
 ex:∃(oc:AG) (od:Option AJ) (kV doc pm:AG) (an:Option AJ) (cdv ct:AG) (osl:IH (Option AG)),
  fd=Bb d.nm d.q (yaq d.st) (yad d.st) (yC d.st) dv kV doc pm an cdv ct/\K.lookup f=AA #[oc,od,.func fd,osl]/\CF K cdv d.q=AC
 kp:Ax K (.ref f)=AC
def At(K:AF)(cn:Ht->AQ)(d:Df)(f:AJ):Prop:=
 match d.k with
 |.fn=>BI K mainGlobals d.gn=AA (AA (.ref f))/\ybe d
 |.fd _=>BI K mainGlobals d.gn=AA (AA (.ref f))
 |.me c=>ybe d/\∃q,BI K mainGlobals (cn c)=AA (AA (.ref q))/\Ao K (.ref q) d.nm=AA (AA (.ref f))/\Co K (.ref f)=AC
 |.ini c=>ybe d/\∃q,BI K mainGlobals (cn c)=AA (AA (.ref q))/\Ao K (.ref q) d.nm=AA (AA (.ref f))/\Co K (.ref f)=AC/\Da K q=AC/\Ax K (.ref q)=AC
def DvP(K:AF)(d:Df)(b:AG):Prop:=
 match d.k with
 |.fd f=>∃c o a n,b=.ref c/\K.lookup c=AA o/\o.data=.seq a n/\Vals (f.map V.int) a.toList
 |_=>b=.none
def ydi(K:AF)(cn:Ht->AQ)(d:Df):Prop:=∃a f b,ycx K d a f b/\At K cn d f/\DvP K d a
section
variable {K:AF}{cn:Ht->AQ}{gn nm:AQ}{st:Bf}{N ps:Hs AQ}{fn:IC.Fn}{f:AJ}{oc:AG}{od:Option AJ}{kV doc pm:AG}{an:Option AJ}{cdv ct:AG}{osl:IH (Option AG)}
theorem rowFn(a:BI K mainGlobals gn=AA (AA (.ref f)))(l:K.lookup f=AA #[oc,od,.func (Bb nm nm (yaq st) (yad st) (yC st) .none kV doc pm an cdv ct),osl])
  (c:CF K cdv nm=AC) (p:Ax K (.ref f)=AC) (b:ybe #[gn,nm,nm,st,N,ps,fn,.fn]):ydi K cn #[gn,nm,nm,st,N,ps,fn,.fn]:=
 #[.none,f,_,#[#[oc,od,kV,doc,pm,an,cdv,ct,osl,rfl,l,c],p],#[a,b],rfl]
theorem rowFd{j:Hs Hw}{g:AJ}{o:Bd}{b:IH AG}{n:Ht}(a:BI K mainGlobals gn=AA (AA (.ref f)))(l:K.lookup f=AA #[oc,od,.func (Bb nm nm (yaq st) (yad st) (yC st) (.ref g) kV doc pm an cdv ct),osl])
  (c:CF K cdv nm=AC) (p:Ax K (.ref f)=AC) (d:K.lookup g=AA o) (e:o.data=.seq b n) (v:Vals (j.map V.int) b.toList):ydi K cn #[gn,nm,nm,st,N,ps,fn,.fd j]:=
 #[.ref g,f,_,#[#[oc,od,kV,doc,pm,an,cdv,ct,osl,rfl,l,c],p],a,g,o,b,n,rfl,d,e,v]
theorem rowMe{qn:AQ}{d:Ht}{q:AJ}(z:BI K mainGlobals (cn d)=AA (AA (.ref q)))(a:Ao K (.ref q) nm=AA (AA (.ref f)))(i:Co K (.ref f)=AC)(l:K.lookup f=AA #[oc,od,.func (Bb nm qn (yaq st) (yad st) (yC st) .none kV doc pm an cdv ct),osl])
  (c:CF K cdv qn=AC) (p:Ax K (.ref f)=AC) (b:ybe #[gn,nm,qn,st,N,ps,fn,.me d]):ydi K cn #[gn,nm,qn,st,N,ps,fn,.me d]:=
 #[.none,f,_,#[#[oc,od,kV,doc,pm,an,cdv,ct,osl,rfl,l,c],p],#[b,q,z,a,i],rfl]
theorem rowIni{qn:AQ}{d:Ht}{q:AJ}(z:BI K mainGlobals (cn d)=AA (AA (.ref q)))(a:Ao K (.ref q) nm=AA (AA (.ref f)))(i:Co K (.ref f)=AC)(l:K.lookup f=AA #[oc,od,.func (Bb nm qn (yaq st) (yad st) (yC st) .none kV doc pm an cdv ct),osl])
  (c:CF K cdv qn=AC) (p:Ax K (.ref f)=AC) (b:ybe #[gn,nm,qn,st,N,ps,fn,.ini d]) (g:Da K q=AC) (j:Ax K (.ref q)=AC):ydi K cn #[gn,nm,qn,st,N,ps,fn,.ini d]:=
 #[.none,f,_,#[#[oc,od,kV,doc,pm,an,cdv,ct,osl,rfl,l,c],p],#[b,q,z,a,i,g,j],rfl]
theorem gdf_mk{w:Aq}{h:BB}{b:AQ->Option AG}{x:AQ}{D:Hs (AQ×Ht)}{c:Ht->AJ}{y:AJ}{es:IH CP}{d:Ht}(X:K.In h)(G:h.Ns mainGlobals b)(a:BI K mainGlobals x=AA (AA (.ref y)))(l:K.lookup y=AA #[.type "dict",AD,.dict es d,(Hs.toArray [])])
  (r:yc0 w c D es.toList) (n:(D.map (·.1)).Nodup):GDF K w b c x D:=#[y,es,d,E4 X G a,l,r,n]
theorem gd_mk{w:Aq}{h:BB}{b:AQ->Option AG}{x:AQ}{D:Hs (AQ×PV)}{c:Ht->AJ}{y:AJ}{es:IH CP}{d:Ht}(X:K.In h)(G:h.Ns mainGlobals b)(a:BI K mainGlobals x=AA (AA (.ref y)))(l:K.lookup y=AA #[.type "dict",AD,.dict es d,(Hs.toArray [])])
  (s:(y==sysModules)=AB) (r:ycw K c w D es.toList) (n:(D.map (·.1)).Nodup):GD K w b c x D:=#[y,es,d,E4 X G a,l,s,r,n]
end
abbrev KoV(K:AF)(v:PV)(u:AG):Prop:=∃x:V,RelV x u/\∀a B A H,ye K a B A H v x
abbrev KoL(K:AF)(vs:Hs PV)(us:Hs AG):Prop:=∃a:Hs V,Vals a us/\∀b B A H,yq K b B A H vs a
mutual
noncomputable def yeL(K:AF):(v:PV)->(u:AG)->Pr (KoV K v u)
 |.int i,.int j t=>an (ask (i=j)) λh=>ok #[.int i,#[t,by rw[h]],λ_ _ _ _=>by erw[ye]]
 |.str i,.str j t=>an (ask (i=j)) λh=>ok #[.str i,#[t,by rw[h]],λ_ _ _ _=>by erw[ye]]
 |.tp AC d,.ref a=>match h:K.lookup a with
  |some #[c,_,.seq b n,_]=>an (ask (c=.type "tuple"/\b.size<=sizeLine)) λq=>an (ydK K d b.toList) λr=>ok (by let#[f,g,l]:=r;refine#[.ref a,rfl,λm B A H=>?_];erw[ye];exact#[a,f,rfl,.inr #[rfl,_,b,n,h,q.1,rfl,q.2,g],l m B A H])
  |_=>AD
 |_,_=>AD
noncomputable def ydK(K:AF):(vs:Hs PV)->(us:Hs AG)->Pr (KoL K vs us)
 |[],[]=>ok #[[],.nil,λ_ _ _ _=>by erw[yq]]
 |v::vs,u::us=>an (yeL K v u) λh=>an (ydK K vs us) λr=>ok (by let#[x,c,d]:=h;let#[a,f,g]:=r;refine#[x::a,.cons c f,λb B A H=>?_];erw[yq];exact#[x,a,rfl,d b B A H,g b B A H])
 |_,_=>AD
end
theorem con_row{K:AF}{a:Ht->AJ}{w:Aq}{k:AQ}{v:PV}{b:HJ}{u:AG}{D:Hs (AQ×PV)}{es:Hs CP}(c:(yeL K v u).isSome=AC)(h:ycw K a w D es):ycw K a w ((k,v)::D) (#[EI w.params k,.str k b,u] :: es):=by let#[#[x,r,q],_]:=Aj.1 c;exact .cons r (q a) h
theorem frow_cons{w:Aq}{b:Ht->AJ}{k:AQ}{i:Ht}{c:HJ}{a:AJ}{D:Hs (AQ×Ht)}{es:Hs CP}(e:b i=a)(h:yc0 w b D es):yc0 w b ((k,i)::D) (#[EI w.params k,.str k c,.ref a] :: es):=by subst e;exact .cons h
structure Tb where
 tbl:Hs Df
 al:Hs (AQ×GK)
 bs:Hs AQ
 ts:Hs Ty
 fl:Hs (Ht×AQ)
 me:Hs ((Ht×AQ)×Ht)
 kb:Hs ((Ht×Ht×Hs AQ)×Hs (Option Hw))
 cn:Hs (Ht×AQ)
 dd:Hs (AQ×Hs (AQ×PV))
 ml:Hs (AQ×Hs (AQ×Ht))
 xs:Hs (Ht×Ty)
 xc:Hs (Ht×AQ)
 xm:Hs (Ht×AQ)
 qh:Hs AQ
abbrev eF(x:AQ)(i:Ht):AQ×GK:=(x,.fn i)
abbrev eC(x:AQ)(v:PV):AQ×GK:=(x,.cst v)
abbrev eG(x:AQ)(g:GK):AQ×GK:=(x,g)
abbrev eN(c:Ht)(x:AQ):Ht×Str:=(c,x)
abbrev eM(c:Ht)(x:AQ)(i:Ht):(Ht×AQ)×Ht:=((c,x),i)
abbrev eB(x:AQ)(d:Hs (AQ×PV)):AQ×Hs (AQ×PV):=(x,d)
def tyE:Ty->Ty->Hy
 |.int,.int=>AC
 |.bool,.bool=>AC
 |.str,.str=>AC
 |.tuple,.tuple=>AC
 |.list,.list=>AC
 |_,_=>AB
def znO{a b:Ty}(h:tyE a b=AC):a=b:=by cases a<;>cases b<;>first|rfl|cases h
def tyX:Ty->Ty->Hy
 |.cls a,.cls b=>a==b
 |.val,.val=>AC
 |_,_=>AB
def zm7{a b:Ty}(h:tyX a b=AC):a=b:=by cases a<;>cases b<;>first|rfl|(cases h;done)|(rw[eq_of_beq (show _=AC from h)])
def Tb.gs(t:Tb):Gs:=#[λx=>t.al.lookup x,λx=>t.bs.contains x,λy=>t.ts.any (tyE y),λc f=>t.fl.contains (c,f),λc n=>t.me.lookup (c,n),λi n a=>t.kb.lookup (i,n,a),λx=>t.ml.lookup x,λx i=>decide (t.cn.lookup (1000+i)=AA x),λc y=>t.xs.any λp=>p.1==c&&tyX p.2 y,λd x=>t.xc.contains (d,x),λc x=>t.xm.contains (c,x),λi=>match t.tbl[i]? with
 |some d=>t.qh.contains d.gn
 |none=>AB]
def nmA(K:AF)(x:AQ):Option Addr:=match BI K mainGlobals x with
 |some (AA (.ref q))=>AA q
 |_=>AD
def clA(K:AF)(t:Tb)(c:Ht):Addr:=((t.cn.lookup c).bind (nmA K)).getD 0
def cnm(t:Tb)(c:Ht):Str:=(t.cn.lookup c).getD ""
def faA(K:AF)(t:Tb)(i:Ht):Addr:=match t.tbl[i]? with
 |some d=>match d.k with
  |.fn=>(nmA K d.gn).getD 0
  |.fd _=>(nmA K d.gn).getD 0
  |.me c=>match Ao K (.ref (clA K t c)) d.nm with
   |some (AA (.ref f))=>f
   |_=>0
  |.ini c=>match Ao K (.ref (clA K t c)) d.nm with
   |some (AA (.ref f))=>f
   |_=>0
 |none=>0
def yda:Dk->Hy
 |.fn=>AC
 |_=>AB
def yeR:Dk->Hy
 |.fd _=>AC
 |_=>AB
def alB(K:AF)(t:Tb):AQ×GK->Hy
 |(x,.fn i)=>match t.tbl[i]? with
  |some d=>yda d.k&&(decide (x=d.gn) || decide (nmA K x=nmA K d.gn))
  |none=>AB
 |(x,.fnD i)=>match t.tbl[i]? with
  |some d=>yeR d.k&&(decide (x=d.gn) || decide (nmA K x=nmA K d.gn))
  |none=>AB
 |(x,.cst v)=>match BI K mainGlobals x with
  |some (AA u)=>(yeL K v u).isSome
  |_=>AB
 |(x,.dct d)=>t.dd.any λp=>decide (p.1=x)&&(eqD p.2 d).isSome
 |(x,.exc c)=>decide (t.cn.lookup c=AA x)&&(nmA K x).any λq=>D5 K q [.type "ValueError",.type "Exception",.type "BaseException",.type "object"] "ValueError.__new__"
 |(x,.cls c i)=>decide (t.cn.lookup c=AA x)&&(nmA K x).isSome&&match t.tbl[i]? with
  |some d=>match d.k with
   |.ini a=>decide (a=c)&&decide (d.nm="__init__")
   |_=>AB
  |none=>AB
def yfE(K:AF)(t:Ty):Hy:=
 decide (BL K (.type "NoneType") (.type (tyN t))=AA (yF .non t))&&decide (BL K (.type "bool") (.type (tyN t))=AA (yF (.bl AC) t))&&decide (BL K (.type "int") (.type (tyN t))=AA (yF (.int 0) t))&&decide (BL K (.type "str") (.type (tyN t))=AA (yF (.str G2) t))&&decide (BL K (.type "tuple") (.type (tyN t))=AA (yF (.tp AC []) t))&&decide (BL K (.type "list") (.type (tyN t))=AA (yF (.lst []) t))
def yex(K:AF)(q:AJ):Hy:=Cn K q G2&&DL K q&&ER K q&&decide (Ao K (.ref q) "__setattr__"=AA (AA (.builtin "object.__setattr__")))
def zgj{K:AF}{q:AJ}(h:yex K q=AC):Cls K q:=by erw[yex,AH,Hx]at h;exact#[h.1.1.1,h.1.1.2,h.1.2,h.2]
def ye5(K:AF)(q:AJ):Hy:=decide (Ao K (.ref q) "__getattribute__"=AA (AA (.builtin "BaseException.__getattribute__")))&&decide (Ao K (.ref q) "__getattr__"=AA AD)&&decide (Ao K (.ref q) "__class__"=AA (AA (.builtin "object.__class__")))&&decide (HK K (.ref q) (.type "BaseException")=AA AC)&&decide (HL K q (.type "object")=AA AC)&&(EZ K q).isSome
def zlG{K:AF}{q:AJ}(h:ye5 K q=AC):ybC K q:=by erw[ye5,AH,Hx]at h;let#[#[#[#[#[a,b],c],d],f],g]:=h;exact#[a,b,c,d,f,Aj.1 g]
def yf1(K:AF)(t:Tb):Hy:=
 t.xs.all (λp=>ye5 K (clA K t p.1)&&decide (BL K (.ref (clA K t p.1)) (tyZ (clA K t) p.2)=AA (yF (.exn p.1) p.2))) &&
  t.xc.all (λp=>decide (t.cn.lookup p.1=AA p.2)&&(nmA K p.2).isSome) &&
  t.xm.all λp=>(nmA K p.2).any λW=>decide (EG K (.ref (clA K t p.1)) (.ref W)=AA AC)
def yds(K:AF)(t:Tb):Hy:=
 t.al.all (alB K t)&&t.bs.all (λx=>decide (BI K mainGlobals x=AA AD))&&t.ts.all (yfE K) &&
  t.fl.all (λp=>(t.cn.lookup p.1).isSome&&(nmA K (cnm t p.1)).any λq=>yex K q&&decide (Ao K (.ref q) p.2=AA AD)) &&
  t.me.all (λp=>(t.cn.lookup p.1.1).isSome&&(nmA K (cnm t p.1.1)).any λq=>yex K q&&match t.tbl[p.2]? with
   |some d=>(match d.k with
    |.me c=>decide (c=p.1.1)
    |_=>AB)&&decide (d.nm=p.1.2)
   |none=>AB) &&
  t.ml.all λp=>p.2.all λq=>match t.tbl[q.2]? with
   |some d=>yda d.k
   |none=>AB
def yfa(K:AF)(t:Tb):Hy:=yds K t&&yf1 K t
def fd0:FuncData:=Bb "" "" (yaq (.Pass #[0,0,0,0])) [] (yC (.Pass #[0,0,0,0])) .none .none .none .none AD .none .none
def fdA(K:AF)(t:Tb)(i:Ht):FuncData:=match K.lookup (faA K t i)with
 |some #[_,_,.func a,_]=>a
 |_=>fd0
def psA(t:Tb)(i:Ht):Hs Str:=match t.tbl[i]? with
 |some d=>d.ps
 |none=>[]
theorem lkm{A B:Type}[BEq A][LawfulBEq A]{x:A}{k:B}:∀{l:Hs (A×B)},l.lookup x=AA k->(x,k)∈l
 |[],h=>nomatch h
 |y::l,h=>by
  rw[B8]at h
  cases a:x==y.1 with
  |true=>rw[a]at h;cases h;rw[eq_of_beq a];exact A6
  |false=>rw[a]at h;exact AT _ (lkm h)
def KbP(t:Tb)(p:(Ht×Ht×Hs AQ)×Hs (Option Hw)):Prop:=∀d a,t.tbl[p.1.1]?=AA d->d.k=.fd a->∀(K:AF) (c:AQ->Option AG) (f:AJ) (b:BC),FnD K c d.nm d.st d.ps a f b->∃g,ybZ K b d.ps p.1.2.2 g (gK p.1.2.1 p.2)
structure Fact(t:Tb)(w:Aq)(K:AF)(mg:AQ->Option AG):Prop where
 X:∀x u,BI K mainGlobals x=AA u->mg x=u
 R:ybX (ydi K (cnm t)) t.tbl
 B:yfa K t=AC
 D:ybX (λp=>∀cl,GD K w mg cl p.1 p.2) t.dd
 Kb:ybX (KbP t) t.kb
 Ml:ybX (λp=>GDF K w mg (faA K t) p.1 p.2) t.ml
def zmk{K:AF}{x:AQ}{q:AJ}(h:nmA K x=AA q):BI K mainGlobals x=AA (AA (.ref q)):=by
 unfold nmA at h;split at h
 .cases h;assumption
 .cases h
def zbr{K:AF}{x:AQ}{q:AJ}(h:BI K mainGlobals x=AA (AA (.ref q))):nmA K x=AA q:=by erw[nmA,h]
def ze9{K:AF}{t:Tb}{c:Ht}{q:AJ}(h:nmA K (cnm t c)=AA q)(a:(t.cn.lookup c).isSome=AC):clA K t c=q:=by let#[x,e]:=Aj.1 a;erw[clA,e,Az];erw[cnm,e,B9]at h;rw[h];rfl
def okH(t:Tb)(d:Df):Hy:=(ycm t.gs d.fn.body #[d.N,yC d.st,AB,AC] (yad d.st)).isSome&&!d.fn.pure&&yda d.k
def okT(t:Tb)(d:Df):Hy:=okD t.gs d&&(!t.qh.contains d.gn || okH t d)&&match d.k with
 |.fn=>AC
 |.fd _=>decide (d.q=d.nm)
 |.me c=>(t.cn.lookup c).isSome
 |.ini c=>(t.cn.lookup c).isSome&&decide (d.nm="__init__")
section
variable {t:Tb}{w:Aq}{K:AF}{mg:AQ->Option AG}{T:Ht->Option IC.Fn}{P:Ae}{base:BB}{k:Ht}
def zb6(F:Fact t w K mg)(O:∀d∈t.tbl,okT t d=AC){i:Ht}{d:Df}(h:t.tbl[i]?=AA d):∃b fd,ycx K d b (faA K t i) fd/\At K (cnm t) d (faA K t i)/\DvP K d b:=by
 have l:=A1 h;let#[b,f,fd,m,a,n]:=F.R.get d l;have e:f=faA K t i:=by
  have o:=O d l;erw[okT,AH]at o;have o:=o.2;erw[faA,h];unfold At at a
  cases q:d.k with
  |fn=>
   rw[q]at a;erw[zbr a.1,B9]
  |fd r=>
   rw[q]at a;have a:BI K mainGlobals d.gn=AA (AA (.ref f)):=a;erw[zbr a,B9]
  |me c=>
   rw[q]at a o;let#[_,p,g,j,_]:=a;erw[ze9 (zbr g) o,j]
  |ini c=>
   rw[q]at a o;let#[_,p,g,j,_]:=a;erw[AH]at o;erw[ze9 (zbr g) o.1,j]
 subst e;exact#[b,fd,m,a,n]
theorem ycx.binds{d:Df}{f:AJ}{c:BC}(R:ycx K d .none f c)(b:ybe d):Binds K c d.ps []:=
 Fun.binds #[R.ex,R.kp] λkV doc g an a j l m=>(b kV doc g an a j).get l m
theorem ycx.ok{d:Df}{p:AG}{f:AJ}{j:BC}{l m:Ht}{n:Ht->AJ}(R:ycx K d p f j)(o:T l=AA d.fn)(q:yaV d.N d.ps (yC d.st))(b:d.ps.length=d.fn.np)(c:d.N.length=d.fn.ns)
  (a:∀(cdv:AG) (A:Ar) (outer:Hs BJ) (s:AK) (H:Hp) (E:XK),yaG m (A.deeper (envOfC d.q (yC d.st) s.heap.objs.size f cdv)) ->
   PSs (yaY (CX1 P w) P w K mg base d.N d.q (yC d.st) f cdv A outer s H E) (yad d.st) (tSs #[n,yc T k,AC] (yaY (CX1 P w) P w K mg base d.N d.q (yC d.st) f cdv A outer s H E) d.fn.body)):
  yaW P w K mg base (CX1 P w) (m+1) f j d.ps (spI K n (yc T (k+1)) l):=by let#[x,y,kV,doc,z,an,cdv,B,r,rfl,lk,g]:=R.ex;exact znV lk g q (λt H Q E h=>zjS o b h) λA outer s H t Q E u h=>#[_,a cdv A outer s H E u,zkp o c h]
def Fn2(t:Tb)(P:Ae)(w:Aq)(K:AF)(mg:AQ->Option AG)(base:BB)(T:Ht->Option IC.Fn)(k:Ht):Prop:=
 ∀i d b a,t.tbl[i]?=AA d->ycx K d b (faA K t i) a->yaW P w K mg base (CX1 P w) (2*k) (faA K t i) a d.ps (spI K (clA K t) (yc T k) i)
def FnH(t:Tb)(P:Ae)(w:Aq)(K:AF)(mg:AQ->Option AG)(base:BB)(T:Ht->Option IC.Fn)(k:Ht):Prop:=
 ∀i d a,t.tbl[i]?=AA d->t.qh.contains d.gn=AC->ycx K d .none (faA K t i) a->ycg P w K mg base (2*k) (faA K t i) a d.ps (spI K (clA K t) (yc T k) i)
def zfd(F:Fact t w K mg)(O:∀d∈t.tbl,okT t d=AC)(C:Fn2 t P w K mg base T k)(CH:FnH t P w K mg base T k){N:Hs AQ}{q:AQ}{sc:BU}{f:AJ}{cdv:AG}{A:Ar}{outer:Hs BJ}{s:AK}{H:Hp}{E:XK}:
  Glo t.gs (2*k) #[clA K t,yc T k,AC] (yaY (CX1 P w) P w K mg base N q sc f cdv A outer s H E):=by
 have B:=F.B;erw[yfa,AH]at B;let#[B,B2]:=B;erw[yds,AH,BA]at B;erw[yf1,AH,BA]at B2;let#[#[#[#[#[b1,b2],b3],b4],b5],b6]:=B;let#[#[b7,b8],b9]:=B2;have U:∀{x:AQ} {a:AJ},nmA K x=AA a->mg x=AA (.ref a):=λh=>F.X _ _ (zmk h);have same:∀{x y:AQ} {a:AJ},(decide (x=y) || decide (nmA K x=nmA K y))=AC->nmA K y=AA a->nmA K x=AA a:=λ{x y a} h e=>by
  erw[Dg,Hx]at h;rcases h with rfl|h
  .exact e
  .rw[h];exact e
 refine#[λx i h=>?_,λx i np ks sh h I=>?_,λx v h=>?_,λx d h=>?_,λx c h=>?_,λx c i h=>?_,λx h=>?_,λy h=>?_,λc n h=>?_,λc n i h=>?_,λy D h=>?_,λx i h hv=>?_,λc y h=>?_,λd x h=>?_,λc x h=>?_,λx i h hq=>?_]
 .have q:=b1 _ (lkm h);erw[alB]at q;split at q
  .rename_i d m;erw[AH]at q;let#[Y,l,G,L,Q]:=zb6 F O m;have I:d.k=.fn:=by cases e:d.k<;>rw[e]at q<;>first|rfl|cases q.1
   erw[At,I]at L;erw[DvP,I]at Q;subst Q;exact#[_,l,d.ps,C i d _ l m G,U (same q.2 (zbr L.1)),G.kp,G.binds L.2]
  .cases q
 .have q:=b1 _ (lkm h);erw[alB]at q;split at q
  .rename_i d m;erw[AH]at q;let#[Y,l,G,L,Q]:=zb6 F O m;obtain⟨ds,hk'⟩:∃ds,d.k=.fd ds:=by cases e:d.k<;>rw[e]at q<;>first|exact#[_,rfl]|cases q.1
   erw[At,hk']at L;erw[DvP,hk']at Q;let#[dT,o,its,n,rfl,e1,e2,e3]:=Q;have oo:=O d (A1 m);erw[okT,hk',AH,Hx]at oo;have D:FnD K (λ_=>AA (.ref (faA K t i))) d.nm d.st d.ps ds (faA K t i) l:=by let#[oc,od,kV,doc,pm,an,cdv,ct,osl,z1,z2,z3]:=G.ex;rw[oo.2]at z1 z3;exact#[#[oc,od,dT,kV,doc,pm,an,cdv,ct,osl,o,its,n,z1,z2,z3,e1,e2,e3],G.kp,rfl]
   exact#[_,l,d.ps,C i d _ l m G,U (same q.2 (zbr L)),G.kp,F.Kb.get _ (lkm I) d ds m hk' K _ _ _ D]
  .cases q
 .have q:=b1 _ (lkm h);erw[alB]at q;split at q
  .rename_i u hu;let#[#[y,r,z],_]:=Aj.1 q;exact#[y,u,F.X _ _ hu,r,λB J H=>z _ B J H]
  .cases q
 .have q:=b1 _ (lkm h);erw[alB,DY,AH,Hx]at q;let#[p,hp,rfl,q]:=q;let#[#[e],_]:=Aj.1 q;rw[<-e];exact F.D.get p hp _
 .have q:=b1 _ (lkm h);erw[alB,AH,Hx,Ck]at q;let#[q1,q2,X]:=q;let#[a,M]:=Aj.1 q2;have e:clA K t c=a:=by erw[clA,q1,Az,M,B9]
  erw[M,FJ]at X;exact#[by show mg x=AA (.ref (clA K t c));rw[e];exact U M,by show D5 K (clA K t c) _ _=AC;rw[e];exact X]
 .have q:=b1 _ (lkm h);erw[alB,AH,Hx]at q;let#[#[q1,q2],X]:=q;let#[a,M]:=Aj.1 q2;have e:clA K t c=a:=by erw[clA,q1,Az,M,B9]
  split at X
  .rename_i d m
   cases I:d.k with
   |ini c'=>
    rw[I]at X;erw[AH,Hx]at X;let#[rfl,hn]:=X;let#[Y,l,G,L,Q]:=zb6 F O m;erw[At,I]at L;erw[DvP,I]at Q;subst Q;let#[r0,q',r4,r5,r6,r7,r8]:=L;have e2:q'=a:=by have:nmA K (cnm t c')=AA q':=zbr r4;erw[cnm,q1,B9,M]at this;exact(Ac this).symm
    subst e2;rw[hn]at r5;refine#[by show mg x=AA (.ref (clA K t c'));rw[e];exact U M,_,l,d.ps,?_,C i d _ l m G,G.binds r0];show Mk K (clA K t c') _;rw[e];exact#[r7,r5,r6,r8]
   |_=>rw[I]at X;cases X
  .cases X
 .have q:x∈t.bs:=by simpa [Tb.gs] using h
  have:=b2 x q;erw[Hx]at this;exact F.X _ _ this
 .simp only[Tb.gs,DY]at h;let#[y',hy,e]:=h;have:=znO e;subst this;have q:=b3 y hy;erw[yfE,AH,Hx]at q;exact#[q.1.1.1.1.1,q.1.1.1.1.2,q.1.1.1.2,q.1.1.2,q.1.2,q.2]
 .have q:(c,n)∈t.fl:=by simpa [Tb.gs] using h
  have q:=b4 _ q;erw[AH,Ck,Hx]at q;let#[q1,q2,X]:=q;let#[a,M]:=Aj.1 q2;erw[M,FJ]at X;have e:clA K t c=a:=ze9 M q1;show Cls K (clA K t c)/\yay K (clA K t c) n;rw[e];exact#[zgj X.1,X.2]
 .have q:=b5 _ (lkm h);erw[AH,Ck,Hx]at q;let#[q1,q2,X,Z]:=q;let#[a,M]:=Aj.1 q2;erw[M,FJ]at X;have e:clA K t c=a:=ze9 M q1;split at Z
  .rename_i d m;erw[AH,Hx]at Z;let#[Z,hn]:=Z
   cases I:d.k with
   |me c'=>
    rw[I]at Z;have Z:c'=c:=by simpa using Z
    subst Z;let#[Y,l,G,L,Q]:=zb6 F O m;erw[At,I]at L;erw[DvP,I]at Q;subst Q;let#[r0,q',r4,r5,r6]:=L;have e2:q'=a:=Ac ((zbr r4).symm.trans M);subst e2;refine#[by show Cls K (clA K t c');rw[e];exact zgj X,_,l,d.ps,?_,C i d _ l m G,G.binds r0];show Meth K (clA K t c') n _;rw[e,<-hn];exact#[r5,r6,G.kp]
   |_=>rw[I]at Z;cases Z
  .cases Z
 .have q:=b6 _ (lkm h);have g:∀s j,D.lookup s=AA j->∃d Y l,t.tbl[j]?=AA d/\ycx K d Y (faA K t j) l/\Y=.none/\ybe d/\l=fdA K t j/\d.ps=psA t j:=λs j hj=>by
   have q:=q _ (lkm hj);split at q
   .rename_i d m;let#[Y,l,G,L,Q]:=zb6 F O m;have I:d.k=.fn:=by cases e:d.k<;>rw[e]at q<;>first|rfl|cases q
    erw[At,I]at L;erw[DvP,I]at Q;let#[oc,od,kV,doc,pm,an,cdv,ct,osl,_,lk,_]:=G.ex;exact#[d,Y,l,m,G,Q,L.2,by erw[fdA,lk],by erw[psA,m]]
   .cases q
  refine#[faA K t,fdA K t,psA t,#[λs j hj=>?_,λs j hj=>?_,λs j hj=>?_],F.Ml.get _ (lkm h)]
  .let#[d,Y,l,h1,h2,h3,h4,h5,h6]:=g s j hj;rw[<-h5,<-h6];exact C j d Y l h1 h2
  .let#[d,Y,l,h1,h2,h3,h4,h5,h6]:=g s j hj;exact h2.kp
  .let#[d,Y,l,h1,h2,h3,h4,h5,h6]:=g s j hj;subst h3;rw[<-h5,<-h6];exact h2.binds h4
 .have q:=b1 _ (lkm h);erw[alB]at q;split at q
  .rename_i d m;erw[AH]at q;let#[Y,l,G,L,Q]:=zb6 F O m;have I:d.k=.fn:=by cases e:d.k<;>rw[e]at q<;>first|rfl|cases q.1
   erw[At,I]at L;have hn:=same q.2 (zbr L.1);have e:t.cn.lookup (1000+i)=AA x:=IQ hv;have z:clA K t (1000+i)=faA K t i:=by erw[clA,e,Az,hn,B9]
   show mg x=AA (.ref (clA K t (1000+i)));rw[z];exact U hn
  .cases q
 .let#[p,hp,q]:=DY.1 h;erw[AH,IL]at q;let#[rfl,q]:=q;have:=zm7 q;subst this;have b:=b7 p hp;erw[Hx]at b;exact#[zlG b.1,b.2]
 .have b:=b8 _ (FV.1 h);erw[Hx]at b;let#[a,M]:=Aj.1 b.2;have e:clA K t d=a:=by erw[clA,b.1,Az,M,B9]
  show mg x=AA (.ref (clA K t d));rw[e];exact U M
 .have b:=b9 _ (FV.1 h)
  cases M:nmA K x with
  |none=>rw[M]at b;cases b
  |some W=>
   rw[M]at b;exact#[W,U M,IQ b]
 .have q:=b1 _ (lkm h);erw[alB]at q;split at q
  .rename_i d m;erw[AH]at q;let#[Y,l,G,L,Q]:=zb6 F O m;have I:d.k=.fn:=by cases e:d.k<;>rw[e]at q<;>first|rfl|cases q.1
   erw[At,I]at L;erw[DvP,I]at Q;subst Q;have hq:t.qh.contains d.gn=true:=by simpa only[Tb.gs,m] using hq
   exact#[_,l,d.ps,CH i d l m hq G,U (same q.2 (zbr L.1)),G.kp,G.binds L.2]
  .cases q
def zgB(F:Fact t w K mg)(O:∀d∈t.tbl,okT t d=AC)(b:∀i d,t.tbl[i]?=AA d->T i=AA d.fn):∀k,Fn2 t P w K mg base T k/\FnH t P w K mg base T k
 |0=>#[λi d u c _ _=>zii,λi d c _ _ _=>zi7]
 |k+1=>by
  have ih:=zgB F O b k;refine#[λi d u c h R=>?_,λi d c h x R=>?_]
  .have o:=O d (A1 h);erw[okT,okD,AH,Hx]at o;let#[#[#[#[#[g,j],l],z],_],_]:=o;let#[#[y],_]:=Aj.1 z;exact R.ok (m:=2*k+1) (b i d h) (zjt g) j l λ_ _ _ _ _ _ a=>y (2*k) _ _ #[rfl,rfl,λ_=>rfl,a.h,λ_=>a.hd,λ_=>#[own1,λ_=>rfl,rfl],λ_=>#[#[_,rfl],rfl,rfl],zfd F O ih.1 ih.2]
  .have o:=O d (A1 h);erw[okT,okD,AH,Hx]at o;let#[#[#[#[#[g,j],l],_],r],_]:=o;have n:okH t d=true:=by rw[x]at r;simpa using r
   erw[okH,AH,Bt]at n;let#[#[y],_]:=Aj.1 n.1.1;refine znS (m:=2*k+1) (b i d h) #[R.ex,R.kp] (zjt g) j l n.1.2 λcdv A outer s H a=>y (2*k) _ _ #[rfl,rfl,(λh=>nomatch h),a,(λh=>nomatch h),(λh=>nomatch h),(λh=>nomatch h),?_];have G:=zfd (N:=d.N) (q:=d.q) (sc:=yC d.st) (f:=faA K t i) (cdv:=cdv) (A:=A) (outer:=outer) (s:=s) (H:=H) (E:=E0) F O ih.1 ih.2;exact#[G.F,G.Q,G.C,G.D,G.E,G.N,G.B,G.T,G.A,G.M,λy D h=>let #[B,p,C,M,d]:=G.K y D h;#[B,p,C,#[M.F,M.kp,M.b],d],G.V,G.I,G.L,G.H,G.Z]
def zls(F:Fact t w K mg)(O:∀d∈t.tbl,okT t d=AC)(a:∀i d,t.tbl[i]?=AA d->T i=AA d.fn)(k:Ht):Fn2 t P w K mg base T k:=(zgB F O a k).1
theorem all_mk2{h:BB}{l:AJ}(X:K.In h)(G:h.Ns mainGlobals mg)(f:mg "law"=AA (.ref l))(R:ybX (ydi K (cnm t)) t.tbl)(B:yfa K t=AC)(D:ybX (λp=>∀q,GD K w mg q p.1 p.2) t.dd)(r:ybX (KbP t) t.kb)(Ml:ybX (λp=>GDF K w mg (faA K t) p.1 p.2) t.ml)
  (O:t.tbl.all (okT t)=AC) (y:∀i d,t.tbl[i]?=AA d->T i=AA d.fn) {L:Ht} {st:Bf} {N:Hs AQ} {fn:IC.Fn} (m:t.tbl[L]?=AA #["law","law","law",st,N,["_law_script"],fn,.fn]) (a:Ht):
  ∃b:BC,(∀(s:AK) (v:AG),Es s b #[[v],[]] [("_law_script",v)])/\∀base:BB,K.In base->base.Ns mainGlobals mg->yaW P w K mg base (CX1 P w) (2*a) l b ["_law_script"] (spX K (yc T a) L):=by
 have F:Fact t w K mg:=#[λx u e=>by
  cases u with
  |none=>exact PySem.W.mg_none_of X G e
  |some v=>exact E4 X G e,R,B,D,r,Ml]
 have n:=BA.1 O;let#[z,b,o,c,g]:=zb6 F n m;have g:z=.none:=g;subst g;have c:BI K mainGlobals "law"=AA (AA (.ref (faA K t L)))/\ybe _:=c;have e:=HN (Ac (f.symm.trans (E4 X G c.1)));subst e;refine#[b,λs v=>?_,λbase _ _=>(zls F n y a L _ _ b m o).imp λ_ _ _ _ h=>h _];let#[H,I,kV,doc,A,an,j,C,E,rfl,_]:=o.ex;exact .of_eq (c.2 kV doc A an j C v)
end
end L2
namespace IC
open PySem
def yiI:PV:=(.int 10000000000000000000000000000000000000000)
def yi4:PV:=(.int 2)
def yiJ:PV:=(.int 4000)
def yiK:PV:=(.int 4000)
def yi5:PV:=(.int 20)
def yi6:PV:=(.int 2)
def yif:PV:=(.int 200)
def yb:Hs (AQ×PV):=[(AE "set",(.tp AC [(.str "cell"),(.str "figure")])),(AE "move",(.tp AC [(.str "cell"),(.str "cell")])),(AE "bare",(.tp AC [(.str "cell"),(.str "cell")])),(AE "sum",(.tp AC [(.str "cell"),(.str "cell"),(.str "cell")])),(AE "less",(.tp AC [(.str "cell"),(.str "cell"),(.str "cell")])),(AE "both",(.tp AC [(.str "cell"),(.str "cell"),(.str "cell")])),(AE "any",(.tp AC [(.str "cell"),(.str "cell"),(.str "cell")])),(AE "odd",(.tp AC [(.str "cell"),(.str "cell"),(.str "cell")])),(AE "twice",(.tp AC [(.str "cell"),(.str "cell")])),(AE "half",(.tp AC [(.str "cell"),(.str "cell")])),(AE "times",(.tp AC [(.str "cell"),(.str "cell"),(.str "cell"),(.str "cell")])),(AE "mark",(.tp AC [(.str "figure")])),(AE "ask",(.tp AC [(.str "cell")]))]
section zq
local macro_rules|`(#[$x,*])=>do
 let mut a←`(.e)
 for y in x.getElems.reverse do a←`(.k $y $a)
 pure a
def yn:Fn:=⟨3,3,AC,#[.ret (.and (.isi (.v 0) [.int]) (.and (.not (.isi (.v 0) [.bool])) (.chain .le .le (.v 1) (.v 0) (.v 2))))]⟩
def yk:Fn:=⟨1,1,AC,#[.ret (.and (.isi (.v 0) [.str]) (.and (.cmp .eq (.blt .len #[.v 0]) (.i 1)) (.chain .le .le (.s "a") (.v 0) (.s "z"))))]⟩
def yy:Fn:=⟨2,2,AC,#[.ite (.or (.not (.isi (.v 0) [.tuple])) (.cmp .ne (.blt .len #[.v 0]) (.v 1))) #[.ret (.cst (.bl AB))] .e,.ret (.blt .all #[.comp [AD] (.n 0) (.seq (.v 0)) (.cst (.bl AC)) (.call 0 #[.v 0,.neg (.cst yif),.cst yif])])]⟩
def yir:Fn:=⟨1,1,AC,#[.ret (.call 5 #[.v 0,.cst (.bl AB)])]⟩
def yis:Fn:=⟨1,1,AC,#[.ret (.call 5 #[.v 0,.cst (.bl AC)])]⟩
def yN:Fn:=⟨2,4,AC,#[.ite (.or (.not (.call 6 #[.v 0])) (.cmp .ne (.blt .len #[.v 0]) (.bin .add (.blt .len #[.dix yb (.idx (.v 0) (.i 0))]) (.i 1)))) #[.ret (.cst (.bl AB))] .e,.for (.t [2,3]) (.zip (.dix yb (.idx (.v 0) (.i 0))) (.slc (.v 0) (.i 1) (.cst .non))) #[.ite (.not (.call 7 #[.v 2,.v 3,.v 1])) #[.ret (.cst (.bl AB))] .e],.ret (.or (.cmp .ne (.idx (.v 0) (.i 0)) (.s "times")) (.cmp .ne (.idx (.v 0) (.i 1)) (.idx (.v 0) (.i 2))))]⟩
def ygr:Fn:=⟨1,1,AC,#[.ret (.and (.isi (.v 0) [.tuple]) (.and (.cmp .gt (.blt .len #[.v 0]) (.i 0)) (.and (.isi (.idx (.v 0) (.i 0)) [.str]) (.din (.idx (.v 0) (.i 0)) yb))))]⟩
def yig:Fn:=⟨3,3,AC,#[.ite (.cmp .eq (.v 0) (.s "figure")) #[.ret (.call 0 #[.v 1,.i 0,.i 1])] .e,.ret (.ite (.v 2) (.call 9 #[.v 1]) (.call 8 #[.v 1]))]⟩
def yh7:Fn:=⟨1,1,AC,#[.ret (.and (.call 10 #[.v 0]) (.call 0 #[.idx (.v 0) (.i 1),.i 0,.i 99]))]⟩
def y6:Fn:=⟨1,1,AC,#[.ret (.and (.call 10 #[.v 0]) (.call 2 #[.idx (.v 0) (.i 1),.i 4]))]⟩
def y7:Fn:=⟨1,1,AC,#[.ret (.and (.isi (.v 0) [.tuple]) (.and (.cmp .eq (.blt .len #[.v 0]) (.i 2)) (.call 1 #[.idx (.v 0) (.i 0)])))]⟩
def yz:Fn:=⟨1,1,AC,#[.ret (.and (.isi (.v 0) [.tuple]) (.and (.cmp .le (.blt .len #[.v 0]) (.cst yi5)) (.blt .all #[.comp [AD] (.n 0) (.seq (.v 0)) (.cst (.bl AC)) (.call 13 #[.v 0])])))]⟩
def yit:Fn:=⟨4,4,AC,#[.ret (.bin .add (.bin .add (.bin .add (.idx (.v 0) (.i 0)) (.bin .mul (.idx (.v 0) (.i 1)) (.v 2))) (.bin .mul (.idx (.v 0) (.i 2)) (.v 3))) (.bin .mul (.idx (.v 0) (.i 3)) (.v 1)))]⟩
def yl:Fn:=⟨1,4,AC,#[.ite (.or (.not (.isi (.v 0) [.tuple])) (.cmp .ne (.blt .len #[.v 0]) (.i 3))) #[.ret (.cst (.bl AB))] .e,.asg (.t [1,2,3]) (.v 0),.ret (.and (.call 0 #[.v 1,.bin .sub (.i 1) (.cst yiI),.bin .sub (.cst yiI) (.i 1)]) (.and (.call 2 #[.v 2,.i 6]) (.call 14 #[.v 3])))]⟩
def yA:Fn:=⟨1,1,AC,#[.ret (.and (.isi (.v 0) [.tuple]) (.and (.cmp .le (.blt .len #[.v 0]) (.cst yi6)) (.blt .all #[.comp [AD] (.n 0) (.seq (.v 0)) (.cst (.bl AC)) (.call 15 #[.v 0])])))]⟩
def yf:Fn:=⟨1,1,AC,#[.ite (.or (.not (.isi (.v 0) [.tuple])) (.cmp .eq (.blt .len #[.v 0]) (.i 0))) #[.ret (.cst (.bl AB))] .e,.ite (.cmp .eq (.idx (.v 0) (.i 0)) (.s "mark")) #[.ret (.cmp .eq (.blt .len #[.v 0]) (.i 1))] .e,.ite (.or (.cmp .ne (.idx (.v 0) (.i 0)) (.s "slice")) (.or (.cmp .ne (.blt .len #[.v 0]) (.i 4)) (.not (.call 1 #[.idx (.v 0) (.i 1)])))) #[.ret (.cst (.bl AB))] .e,.ret (.and (.call 2 #[.idx (.v 0) (.i 2),.i 4]) (.call 2 #[.idx (.v 0) (.i 3),.i 4]))]⟩
def yiL:Fn:=⟨3,3,AB,#[.sfl 20 (.v 0) (AE "w") (.v 1),.sfl 20 (.v 0) (AE "n") (.v 2),.sfl 20 (.v 0) (AE "steps") (.newl .e),.sfl 20 (.v 0) (AE "rows") (.i 0),.sfl 20 (.v 0) (AE "rounds") (.i 0)]⟩
def yj:Fn:=⟨3,4,AB,#[.for (.n 3) (.seq (.v 1)) #[.ite (.cmp .eq (.idx (.v 3) (.i 0)) (.s "row")) #[.expr (.mcl 20 20 (AE "add_row") (.v 0) #[.idx (.v 3) (.i 1),.v 2])] #[.expr (.mcl 20 18 (AE "go_rounds") (.v 0) #[.v 3,.v 2])]]]⟩
def yg:Fn:=⟨3,5,AB,#[.asg (.n 3) (.blt .max #[.i 0,.mcl 20 19 (AE "count_of") (.v 0) #[.idx (.v 1) (.i 1)]]),.for (.n 4) (.range1 (.v 3)) #[.expr (.mcl 20 22 (AE "add_asked") (.v 0) #[.idx (.v 1) (.i 2),.bin .add (.v 2) (.tup #[.v 4])]),.expr (.mcl 20 21 (AE "add_round") (.v 0) .e),.expr (.mcl 20 17 (AE "go_parts") (.v 0) #[.idx (.v 1) (.i 3),.bin .add (.v 2) (.tup #[.v 4])])],.expr (.mcl 20 22 (AE "add_asked") (.v 0) #[.idx (.v 1) (.i 2),.bin .add (.v 2) (.tup #[.v 3])])]⟩
def yiu:Fn:=⟨2,5,AB,#[.asg (.t [2,3,4]) (.v 1),.ret (.bin .add (.bin .add (.v 2) (.bin .mul (.v 3) (.fld 20 (.v 0) (AE "n")))) (.bin .mul (.bin .mul (.v 4) (.fld 20 (.v 0) (AE "w"))) (.fld 20 (.v 0) (AE "n"))))]⟩
def y8:Fn:=⟨3,6,AB,#[.asg (.t [3,4]) (.call 28 #[.v 2]),.asg (.n 5) (.blt .tuple #[.comp [AD,AA 3,AA 4,AA 0] (.n 0) (.seq (.v 1)) (.cst (.bl AC)) (.call 29 #[.v 0,.fld 20 (.v 3) (AE "n"),.v 1,.v 2])]),.sfl 20 (.v 0) (AE "rows") (.bin .add (.fld 20 (.v 0) (AE "rows")) (.i 1)),.ite (.or (.not (.call 3 #[.v 5])) (.cmp .gt (.fld 20 (.v 0) (AE "rows")) (.cst yiK))) #[.raise 5 (.s "what comes is no row, or one row too many")] .e,.expr (.mth .append (.fld 20 (.v 0) (AE "steps")) #[.tup #[.s "row",.v 5]])]⟩
def y9:Fn:=⟨1,1,AB,#[.sfl 20 (.v 0) (AE "rounds") (.bin .add (.fld 20 (.v 0) (AE "rounds")) (.i 1)),.ite (.cmp .gt (.fld 20 (.v 0) (AE "rounds")) (.cst yiJ)) #[.raise 5 (.s "there are too many rounds")] .e]⟩
def yiv:Fn:=⟨3,5,AB,#[.asg (.t [3,4]) (.call 28 #[.v 2]),.expr (.mth .append (.fld 20 (.v 0) (AE "steps")) #[.tup #[.s "asked",.v 1,.v 3,.v 4]])]⟩
def yiw:Fn:=⟨1,1,AC,#[.ret (.call 26 #[.v 0,.cst yi4])]⟩
def yfK:Fn:=⟨3,3,AC,#[.ret (.blt .tuple #[.comp [AD] (.n 0) (.seq (.call 25 #[.v 0,.v 1,.v 2])) (.cmp .eq (.idx (.v 0) (.i 0)) (.s "row")) (.idx (.v 0) (.i 1))])]⟩
def yfO:Fn:=⟨3,4,AC,#[.ite (.not (.call 23 #[.v 0])) #[.raise 5 (.s "this is no telling")] .e,.asg (.n 3) (.new 20 16 #[.v 1,.v 2]),.expr (.mcl 20 17 (AE "go_parts") (.v 3) #[.v 0,.tup .e]),.ret (.frz (.fld 20 (.v 3) (AE "steps")))]⟩
def yih:Fn:=⟨2,2,AC,#[.ret (.and (.isi (.v 0) [.tuple]) (.blt .all #[.comp [AD,AA 1] (.n 0) (.seq (.v 0)) (.cst (.bl AC)) (.call 27 #[.v 0,.v 1])]))]⟩
def yD:Fn:=⟨2,2,AC,#[.ite (.or (.not (.isi (.v 0) [.tuple])) (.cmp .eq (.blt .len #[.v 0]) (.i 0))) #[.ret (.cst (.bl AB))] .e,.ite (.cmp .eq (.idx (.v 0) (.i 0)) (.s "row")) #[.ret (.and (.cmp .eq (.blt .len #[.v 0]) (.i 2)) (.call 4 #[.idx (.v 0) (.i 1)]))] .e,.ite (.or (.cmp .ne (.idx (.v 0) (.i 0)) (.s "rounds")) (.or (.cmp .ne (.blt .len #[.v 0]) (.i 4)) (.cmp .eq (.v 1) (.i 0)))) #[.ret (.cst (.bl AB))] .e,.ret (.and (.call 2 #[.idx (.v 0) (.i 1),.i 3]) (.and (.call 11 #[.idx (.v 0) (.i 2)]) (.call 26 #[.idx (.v 0) (.i 3),.bin .sub (.v 1) (.i 1)])))]⟩
def yii:Fn:=⟨1,1,AC,#[.ret (.slc (.bin .add (.v 0) (.tup #[.i 0,.i 0])) (.cst .non) (.i 2))]⟩
def ygv:Fn:=⟨4,4,AC,#[.ite (.not (.isi (.v 0) [.tuple])) #[.ret (.v 0)] .e,.ret (.tup #[.idx (.v 0) (.i 0),.call 12 #[.idx (.v 0) (.i 1),.v 1,.v 2,.v 3]])]⟩
def yix:Fn:=⟨1,1,AB,#[.ret (.newl #[.slc (.v 0) (.cst .non) (.i 63),.i 0,.i 0,.cst (.bl AB)])]⟩
def yaD:Fn:=⟨1,8,AC,#[.asg (.n 1) (.tup #[.i 2147483647,.i 2147483629,.i 2147483587,.i 2147483579,.i 2147483563]),.asg (.n 2) (.i 0),.for (.t [3,4]) (.enum (.v 1)) #[.asg (.n 5) (.bin .add (.v 0) (.idx (.tup #[.i 11,.i 101,.i 1009,.i 10007,.i 100003]) (.v 3))),.asg (.n 5) (.bin .mod (.bin .mul (.v 5) (.bin .add (.i 48271) (.bin .mul (.i 2) (.v 3)))) (.v 4)),.asg (.n 6) (.bin .mod (.bin .mul (.v 5) (.v 5)) (.v 4)),.asg (.n 7) (.bin .mod (.bin .mul (.bin .mod (.bin .mul (.v 6) (.v 6)) (.v 4)) (.v 5)) (.v 4)),.asg (.n 2) (.bin .add (.bin .mul (.v 2) (.v 4)) (.v 7))],.ret (.v 2)]⟩
def yan:Fn:=⟨1,4,AB,#[.asg (.t [1,2]) (.tup #[.idx (.v 0) (.i 0),.idx (.v 0) (.i 1)]),.asg (.n 3) (.bin .add (.bin .mul (.i 31) (.v 2)) (.i 7)),.ite (.cmp .gt (.blt .len #[.v 1]) (.i 0)) #[.asg (.n 3) (.bin .mul (.i 104729) (.bin .fdiv (.v 2) (.blt .len #[.v 1]))),.asg (.n 3) (.bin .add (.v 3) (.idx (.v 1) (.bin .mod (.v 2) (.blt .len #[.v 1]))))] .e,.six (.v 0) (.i 1) (.bin .add (.v 2) (.i 1)),.six (.v 0) (.i 3) (.or (.cmp .ge (.v 2) (.blt .len #[.v 1])) (.cmp .lt (.v 3) (.bin .pow (.i 10) (.i 18)))),.ite (.idx (.v 0) (.i 3)) #[.six (.v 0) (.i 2) (.call 31 #[.v 3])] #[.six (.v 0) (.i 2) (.bin .sub (.v 3) (.bin .pow (.i 10) (.i 18)))]]⟩
def yah:Fn:=⟨2,4,AB,#[.asg (.n 2) (.i 0),.while (.and (.cmp .lt (.v 2) (.i 64)) (.or (.cmp .eq (.idx (.v 0) (.i 2)) (.i 0)) (.and (.idx (.v 0) (.i 3)) (.cmp .lt (.idx (.v 0) (.i 2)) (.bin .mul (.v 1) (.i 4096)))))) #[.expr (.call 32 #[.v 0]),.aug 2 .add (.i 1),.ite (.and (.idx (.v 0) (.i 3)) (.cmp .lt (.idx (.v 0) (.i 2)) (.bin .mul (.v 1) (.i 4096)))) #[.six (.v 0) (.i 2) (.bin .add (.idx (.v 0) (.i 2)) (.bin .mul (.bin .mul (.v 1) (.i 4096)) (.bin .add (.i 1) (.bin .mod (.idx (.v 0) (.i 2)) (.i 4093)))))] .e],.asg (.n 3) (.bin .mod (.idx (.v 0) (.i 2)) (.v 1)),.six (.v 0) (.i 2) (.bin .fdiv (.idx (.v 0) (.i 2)) (.v 1)),.ret (.v 3)]⟩
def yiy:Fn:=⟨2,2,AB,#[.ret (.tup #[.bin .add (.i 4) (.call 33 #[.v 0,.i 13]),.bin .add (.i 1) (.call 33 #[.v 0,.v 1])])]⟩
def yiz:Fn:=⟨1,1,AC,#[.ret (.and (.isi (.v 0) [.int]) (.not (.isi (.v 0) [.bool])))]⟩
def yh8:Fn:=⟨3,3,AC,#[.ite (.or (.not (.isi (.v 0) [.tuple])) (.cmp .ne (.blt .len #[.v 0]) (.v 1))) #[.ret (.cst (.bl AB))] .e,.ret (.blt .all #[.comp [AD,AA 2] (.n 0) (.seq (.v 0)) (.cst (.bl AC)) (.and (.call 35 #[.v 0]) (.chain .le .le (.bin .sub (.i 0) (.v 1)) (.v 0) (.v 1)))])]⟩
def yh9:Fn:=⟨1,1,AC,#[.ret (.and (.isi (.v 0) [.str]) (.and (.cmp .eq (.blt .len #[.v 0]) (.i 1)) (.cmp .isin (.v 0) (.s "abcdefghijklmnopqrstuvwxyz"))))]⟩
def yY:Fn:=⟨1,1,AC,#[.ret (.and (.isi (.v 0) [.tuple]) (.and (.cmp .eq (.blt .len #[.v 0]) (.i 2)) (.and (.call 37 #[.idx (.v 0) (.i 0)]) (.call 36 #[.idx (.v 0) (.i 1),.i 4,.i 200]))))]⟩
def yd:Fn:=⟨1,2,AC,#[.ite (.or (.not (.isi (.v 0) [.tuple])) (.or (.cmp .lt (.blt .len #[.v 0]) (.i 2)) (.not (.isi (.idx (.v 0) (.i 0)) [.str])))) #[.ret (.cst (.bl AB))] .e,.ite (.cmp .eq (.idx (.v 0) (.i 0)) (.s "mark")) #[.ret (.and (.cmp .eq (.blt .len #[.v 0]) (.i 2)) (.and (.call 35 #[.idx (.v 0) (.i 1)]) (.cmp .isin (.idx (.v 0) (.i 1)) (.tup #[.i 0,.i 1]))))] .e,.ite (.cmp .eq (.idx (.v 0) (.i 0)) (.s "ask")) #[.ret (.and (.cmp .eq (.blt .len #[.v 0]) (.i 2)) (.call 38 #[.idx (.v 0) (.i 1)]))] .e,.ite (.cmp .eq (.idx (.v 0) (.i 0)) (.s "set")) #[.ret (.and (.cmp .eq (.blt .len #[.v 0]) (.i 3)) (.and (.call 38 #[.idx (.v 0) (.i 1)]) (.and (.call 35 #[.idx (.v 0) (.i 2)]) (.cmp .isin (.idx (.v 0) (.i 2)) (.tup #[.i 0,.i 1])))))] .e,.asg (.n 1) (.newd [("move",3),("bare",3),("twice",3),("half",3),("sum",4),("less",4),("both",4),("any",4),("odd",4)]),.dput (.v 1) (.s "times") (.i 5),.ite (.or (.cmp .ne (.mth .get (.v 1) #[.idx (.v 0) (.i 0),.i 0]) (.blt .len #[.v 0])) (.not (.blt .all #[.comp [AD] (.n 0) (.seq (.slc (.v 0) (.i 1) (.cst .non))) (.cst (.bl AC)) (.call 38 #[.v 0])]))) #[.ret (.cst (.bl AB))] .e,.ret (.or (.cmp .ne (.idx (.v 0) (.i 0)) (.s "times")) (.cmp .ne (.idx (.v 0) (.i 1)) (.idx (.v 0) (.i 2))))]⟩
def yet:Fn:=⟨1,1,AC,#[.ite (.cmp .eq (.v 0) (.tup #[.s "mark"])) #[.ret (.cst (.bl AC))] .e,.ite (.or (.not (.isi (.v 0) [.tuple])) (.or (.cmp .ne (.blt .len #[.v 0]) (.i 4)) (.or (.cmp .ne (.idx (.v 0) (.i 0)) (.s "slice")) (.not (.call 37 #[.idx (.v 0) (.i 1)]))))) #[.ret (.cst (.bl AB))] .e,.ret (.and (.call 36 #[.idx (.v 0) (.i 2),.i 4,.i 200]) (.call 36 #[.idx (.v 0) (.i 3),.i 4,.i 200]))]⟩
def yu:Fn:=⟨1,2,AC,#[.ite (.or (.not (.isi (.v 0) [.tuple])) (.cmp .gt (.blt .len #[.v 0]) (.i 20))) #[.ret (.cst (.bl AB))] .e,.for (.n 1) (.seq (.v 0)) #[.ite (.or (.not (.isi (.v 1) [.tuple])) (.or (.cmp .ne (.blt .len #[.v 1]) (.i 3)) (.not (.call 36 #[.idx (.v 1) (.i 1),.i 6,.i 200])))) #[.ret (.cst (.bl AB))] .e,.ite (.or (.not (.call 35 #[.idx (.v 1) (.i 0)])) (.or (.cmp .ge (.blt .abs #[.idx (.v 1) (.i 0)]) (.bin .pow (.i 10) (.i 40))) (.not (.isi (.idx (.v 1) (.i 2)) [.tuple])))) #[.ret (.cst (.bl AB))] .e,.ite (.or (.cmp .gt (.blt .len #[.idx (.v 1) (.i 2)]) (.i 2)) (.not (.blt .all #[.comp [AD] (.n 0) (.seq (.idx (.v 1) (.i 2))) (.cst (.bl AC)) (.call 40 #[.v 0])]))) #[.ret (.cst (.bl AB))] .e],.ret (.cst (.bl AC))]⟩
def yL:Fn:=⟨2,2,AC,#[.ite (.or (.not (.isi (.v 0) [.tuple])) (.cmp .lt (.blt .len #[.v 0]) (.i 2))) #[.ret (.cst (.bl AB))] .e,.ite (.cmp .eq (.idx (.v 0) (.i 0)) (.s "row")) #[.ret (.and (.cmp .eq (.blt .len #[.v 0]) (.i 2)) (.call 39 #[.idx (.v 0) (.i 1)]))] .e,.ite (.or (.cmp .ne (.idx (.v 0) (.i 0)) (.s "rounds")) (.or (.cmp .ne (.blt .len #[.v 0]) (.i 4)) (.or (.cmp .gt (.v 1) (.i 1)) (.not (.call 36 #[.idx (.v 0) (.i 1),.i 3,.i 200]))))) #[.ret (.cst (.bl AB))] .e,.ite (.or (.not (.call 41 #[.idx (.v 0) (.i 2)])) (.not (.isi (.idx (.v 0) (.i 3)) [.tuple]))) #[.ret (.cst (.bl AB))] .e,.ret (.blt .all #[.comp [AD,AA 1] (.n 0) (.seq (.idx (.v 0) (.i 3))) (.cst (.bl AC)) (.call 42 #[.v 0,.bin .add (.v 1) (.i 1)])])]⟩
def yij:Fn:=⟨1,1,AC,#[.ret (.and (.isi (.v 0) [.tuple]) (.blt .all #[.comp [AD] (.n 0) (.seq (.v 0)) (.cst (.bl AC)) (.call 42 #[.v 0,.i 0])]))]⟩
def yiA:Fn:=⟨3,3,AC,#[.ret (.bin .add (.bin .add (.idx (.v 0) (.i 0)) (.bin .mul (.idx (.v 0) (.i 1)) (.v 2))) (.bin .mul (.bin .mul (.idx (.v 0) (.i 2)) (.v 1)) (.v 2)))]⟩
def yiB:Fn:=⟨1,1,AB,#[.ret (.idx (.s "abcdefghijklmnopqrstuvwxyz") (.call 33 #[.v 0,.i 26]))]⟩
def yw:Fn:=⟨2,6,AB,#[.asg (.n 2) (.tup #[.s "set",.s "move",.s "bare",.s "sum",.s "less",.s "both",.s "any",.s "odd",.s "twice",.s "half",.s "times",.s "mark",.s "ask"]),.asg (.n 3) (.idx (.v 2) (.call 33 #[.v 0,.i 13])),.asg (.n 4) (.call 33 #[.v 0,.i 2]),.asg (.n 5) (.thw (.comp [AD,AA 1,AA 0] (.n 0) (.range1 (.i 4)) (.cst (.bl AC)) (.idx (.v 1) (.call 33 #[.v 2,.blt .len #[.v 1]])))),.ite (.cmp .eq (.v 3) (.s "mark")) #[.ret (.tup #[.v 3,.v 4])] .e,.ite (.cmp .eq (.v 3) (.s "ask")) #[.ret (.tup #[.v 3,.idx (.v 5) (.i 0)])] .e,.ite (.cmp .eq (.v 3) (.s "set")) #[.ret (.tup #[.v 3,.idx (.v 5) (.i 0),.v 4])] .e,.ite (.cmp .eq (.v 3) (.s "times")) #[.ite (.cmp .eq (.idx (.v 5) (.i 0)) (.idx (.v 5) (.i 1))) #[.six2 (.v 5) (.i 0) (.v 5) (.i 1) (.idx (.v 1) (.i 0)) (.idx (.v 1) (.i 1))] .e,.ret (.tup #[.v 3,.idx (.v 5) (.i 0),.idx (.v 5) (.i 1),.idx (.v 5) (.i 2),.idx (.v 5) (.i 3)])] .e,.ite (.cmp .isin (.v 3) (.tup #[.s "move",.s "bare",.s "twice",.s "half"])) #[.ret (.tup #[.v 3,.idx (.v 5) (.i 0),.idx (.v 5) (.i 1)])] .e,.ret (.tup #[.v 3,.idx (.v 5) (.i 0),.idx (.v 5) (.i 1),.idx (.v 5) (.i 2)])]⟩
def yI:Fn:=⟨1,4,AB,#[.asg (.n 1) (.call 45 #[.v 0]),.asg (.n 2) (.bin .add (.i 100) (.bin .mul (.call 33 #[.v 0,.i 3]) (.call 33 #[.v 0,.bin .pow (.i 10) (.i 9)]))),.asg (.n 3) (.newl #[.cst .non,.cst (.bl AC),.cst (.bl AB),.neg (.i 1),.v 2,.s "",.v 1,.bin .add (.v 1) (.v 1),.s "A",.s "?",.tup .e,.tup #[.v 1]]),.expr (.mth .extend (.v 3) #[.lst #[.tup #[.v 1,.i 0,.i 0],.tup #[.v 1,.neg (.i 1)],.tup #[.v 1,.v 2],.tup #[.s "A",.i 0],.tup #[.bin .add (.v 1) (.s "b"),.i 0]]]),.expr (.mth .extend (.v 3) #[.lst #[.tup #[.s "",.i 0],.tup #[.v 1,.cst (.bl AC)],.tup #[.v 1,.s "0"],.lst #[.v 1,.i 0],.tup #[.v 1,.tup #[.i 0,.i 0,.i 0,.i 0]]]]),.expr (.mth .extend (.v 3) #[.lst #[.i 0,.i 1,.i 2,.tup #[.v 1,.i 0],.s "sum",.s "marks",.tup #[.s "mark",.i 0],.tup #[.tup #[.v 1,.i 0],.i 1]]]),.ret (.idx (.v 3) (.call 33 #[.v 0,.blt .len #[.v 3]]))]⟩
def yh:Fn:=⟨2,8,AB,#[.asg (.n 2) (.call 33 #[.v 0,.i 6]),.asg (.n 3) (.call 33 #[.v 0,.bin .add (.blt .len #[.v 1]) (.i 1)]),.asg (.n 4) (.call 47 #[.v 0]),.asg (.n 5) (.blt .min #[.v 3,.bin .sub (.blt .len #[.v 1]) (.i 1)]),.ite (.or (.cmp .eq (.blt .len #[.v 1]) (.i 0)) (.cmp .eq (.v 2) (.i 0))) #[.ret (.bin .add (.bin .add (.slc (.v 1) (.cst .non) (.v 3)) (.tup #[.v 4])) (.slc (.v 1) (.v 3) (.cst .non)))] .e,.ite (.cmp .eq (.v 2) (.i 1)) #[.ret (.bin .add (.slc (.v 1) (.cst .non) (.v 5)) (.slc (.v 1) (.bin .add (.v 5) (.i 1)) (.cst .non)))] .e,.ite (.cmp .eq (.v 2) (.i 2)) #[.ret (.bin .add (.bin .add (.slc (.v 1) (.cst .non) (.v 5)) (.tup #[.idx (.v 1) (.v 5)])) (.slc (.v 1) (.v 5) (.cst .non)))] .e,.ite (.cmp .eq (.v 2) (.i 3)) #[.asg (.n 6) (.call 33 #[.v 0,.blt .len #[.v 1]]),.asg (.n 7) (.thw (.blt .list #[.v 1])),.six2 (.v 7) (.v 5) (.v 7) (.v 6) (.idx (.v 7) (.v 6)) (.idx (.v 7) (.v 5)),.ret (.blt .tuple #[.v 7])] .e,.ret (.bin .add (.bin .add (.slc (.v 1) (.cst .non) (.v 5)) (.tup #[.v 4])) (.slc (.v 1) (.bin .add (.v 5) (.i 1)) (.cst .non)))]⟩
def yia:Fn:=⟨1,4,AB,#[.asg (.n 1) (.call 33 #[.v 0,.i 8]),.asg (.n 2) (.call 33 #[.v 0,.i 100]),.asg (.n 3) (.comp [AD,AA 0] (.n 0) (.range1 (.i 3)) (.cst (.bl AC)) (.bin .sub (.call 33 #[.v 1,.i 4]) (.i 1))),.ite (.cmp .lt (.v 1) (.i 4)) #[.ret (.tup #[.v 2,.i 0,.i 0,.i 0])] .e,.ite (.cmp .lt (.v 1) (.i 7)) #[.ret (.tup #[.bin .add (.i 10) (.bin .mod (.v 2) (.i 60)),.idx (.v 3) (.i 0),.idx (.v 3) (.i 1),.idx (.v 3) (.i 2)])] .e,.ret (.blt .tuple #[.lst #[.idx (.tup #[.i 200,.neg (.i 200),.v 2,.i 0]) (.call 33 #[.v 0,.i 4]),.idx (.v 3) (.i 0),.idx (.v 3) (.i 1),.idx (.v 3) (.i 2)]])]⟩
def yo:Fn:=⟨1,4,AB,#[.asg (.n 1) (.newl .e),.for (.n 2) (.range1 (.bin .add (.i 2) (.call 33 #[.v 0,.i 3]))) #[.asg (.n 3) (.tup #[.call 45 #[.v 0],.call 49 #[.v 0]]),.ite (.nin (.v 3) (.v 1)) #[.expr (.mth .append (.v 1) #[.v 3])] .e],.ite (.cmp .eq (.blt .len #[.v 1]) (.i 1)) #[.expr (.mth .append (.v 1) #[.tup #[.idx (.idx (.v 1) (.i 0)) (.i 0),.tup #[.bin .add (.bin .mod (.idx (.idx (.idx (.v 1) (.i 0)) (.i 1)) (.i 0)) (.i 90)) (.i 1),.i 0,.i 0,.i 1]]])] .e,.ret (.call 46 #[.v 0,.v 1])]⟩
def yp:Fn:=⟨1,9,AB,#[.asg (.n 1) (.newl .e),.for (.n 2) (.range1 (.blt .max #[.i 0,.bin .sub (.call 33 #[.v 0,.i 6]) (.i 2)])) #[.asg (.n 3) (.newl .e),.for (.n 4) (.range1 (.call 33 #[.v 0,.i 3])) #[.asg (.n 5) (.tup #[.s "mark"]),.ite (.cmp .gt (.call 33 #[.v 0,.i 4]) (.i 0)) #[.asg (.n 5) (.tup #[.s "slice",.call 45 #[.v 0],.call 49 #[.v 0],.call 49 #[.v 0]])] .e,.expr (.mth .append (.v 3) #[.v 5])],.asg (.n 6) (.bin .mul (.call 33 #[.v 0,.bin .pow (.i 10) (.i 40)]) (.bin .sub (.i 1) (.bin .mul (.i 2) (.call 33 #[.v 0,.i 2])))),.asg (.n 7) (.idx (.tup #[.bin .sub (.call 33 #[.v 0,.i 7]) (.i 3),.v 6]) (.call 33 #[.v 0,.i 2])),.asg (.n 8) (.thw (.comp [AD,AA 0] (.n 0) (.range1 (.i 6)) (.cst (.bl AC)) (.bin .sub (.call 33 #[.v 1,.i 5]) (.i 1)))),.six (.v 8) (.call 33 #[.v 0,.i 6]) (.idx (.tup #[.i 0,.i 1,.i 200,.neg (.i 200)]) (.call 33 #[.v 0,.i 4])),.expr (.mth .append (.v 1) #[.tup #[.v 7,.blt .tuple #[.v 8],.blt .tuple #[.v 3]]])],.ret (.blt .tuple #[.v 1])]⟩
def yE:Fn:=⟨3,6,AB,#[.asg (.n 3) (.blt .int #[.and (.cmp .lt (.bin .mul (.v 1) (.v 2)) (.i 13)) (.cmp .eq (.call 33 #[.v 0,.i 4]) (.i 0))]),.asg (.n 4) (.tup #[.bin .mul (.call 33 #[.v 0,.i 4]) (.bin .sub (.i 1) (.v 3)),.bin .mul (.call 33 #[.v 0,.i 3]) (.bin .sub (.i 1) (.v 3)),.v 3]),.asg (.n 5) (.call 33 #[.v 0,.i 8]),.ite (.cmp .eq (.v 5) (.i 0)) #[.asg (.n 4) (.tup #[.bin .sub (.i 0) (.call 33 #[.v 0,.i 201]),.i 0,.i 0])] .e,.ite (.cmp .eq (.v 5) (.i 1)) #[.asg (.n 4) (.tup #[.bin .sub (.i 0) (.call 33 #[.v 0,.i 4]),.i 2,.i 0])] .e,.ite (.cmp .eq (.v 5) (.i 2)) #[.asg (.n 4) (.tup #[.bin .add (.i 4) (.call 33 #[.v 0,.i 8]),.bin .sub (.neg (.i 1)) (.call 33 #[.v 0,.i 2]),.i 0])] .e,.ret (.v 4)]⟩
def yr:Fn:=⟨3,8,AB,#[.asg (.n 3) (.newl .e),.for (.n 4) (.range1 (.call 33 #[.v 0,.i 4])) #[.ite (.cmp .eq (.call 33 #[.v 0,.i 2]) (.i 0)) #[.expr (.mth .append (.v 3) #[.tup #[.s "row",.call 50 #[.v 0]]])] #[.asg (.n 5) (.newl .e),.for (.n 6) (.range1 (.call 33 #[.v 0,.i 3])) #[.asg (.n 7) (.comp [AD,AA 0] (.n 0) (.range1 (.call 33 #[.v 0,.i 3])) (.cst (.bl AC)) (.tup #[.s "row",.call 50 #[.v 1]])),.ite (.cmp .eq (.call 33 #[.v 0,.i 2]) (.i 0)) #[.asg (.n 5) (.thw (.bin .add (.frz (.v 5)) (.slc (.v 7) (.cst .non) (.i 1))))] #[.expr (.mth .append (.v 5) #[.tup #[.s "rounds",.call 52 #[.v 0,.v 1,.v 2],.call 51 #[.v 0],.blt .tuple #[.v 7]]])]],.expr (.mth .append (.v 3) #[.tup #[.s "rounds",.call 52 #[.v 0,.v 1,.v 2],.call 51 #[.v 0],.blt .tuple #[.v 5]]])]],.ret (.blt .tuple #[.v 3])]⟩
def yx:Fn:=⟨3,4,AB,#[.asg (.n 3) (.call 33 #[.v 0,.blt .max #[.i 1,.blt .len #[.v 1]]]),.ite (.and (.cmp .lt (.v 2) (.i 9)) (.and (.cmp .gt (.call 33 #[.v 0,.i 3]) (.i 0)) (.and (.cmp .lt (.v 3) (.blt .len #[.v 1])) (.isi (.idx (.v 1) (.v 3)) [.tuple])))) #[.ret (.bin .add (.bin .add (.slc (.v 1) (.cst .non) (.v 3)) (.tup #[.call 54 #[.v 0,.idx (.v 1) (.v 3),.bin .add (.v 2) (.i 1)]])) (.slc (.v 1) (.bin .add (.v 3) (.i 1)) (.cst .non)))] .e,.ret (.call 48 #[.v 0,.v 1])]⟩
def yib:Fn:=⟨3,5,AC,#[.asg (.n 3) (.neg (.i 2)),.try #[.asg (.n 3) (.blt .len #[.call 24 #[.v 0,.v 1,.v 2]])] [5] 4 #[.ite (.and (.isx (.v 4) [5] [.cls 5]) (.and (.isx (.v 4) [5] [.val]) (.not (.isx (.v 4) [5] [.cls 4,.cls 2,.cls 3,.cls 0])))) #[.asg (.n 3) (.neg (.i 1))] .e],.ret (.v 3)]⟩
def yae:Fn:=⟨3,9,AB,#[.asg (.n 3) (.bin .add (.i 3998) (.call 33 #[.v 0,.i 6])),.asg (.n 4) (.newl .e),.for (.n 5) (.range1 (.i 40)) #[.asg (.n 6) (.blt .min #[.i 200,.bin .fdiv (.v 3) (.bin .mul (.v 1) (.v 2))]),.asg (.n 7) (.blt .min #[.i 200,.bin .fdiv (.bin .sub (.v 3) (.bin .mul (.bin .mul (.v 6) (.v 1)) (.v 2))) (.v 2)]),.asg (.n 8) (.blt .min #[.i 200,.bin .sub (.bin .sub (.v 3) (.bin .mul (.bin .mul (.v 6) (.v 1)) (.v 2))) (.bin .mul (.v 7) (.v 2))]),.ite (.cmp .gt (.v 3) (.i 0)) #[.expr (.mth .append (.v 4) #[.tup #[.v 8,.v 7,.v 6]])] .e,.asg (.n 3) (.bin .sub (.bin .sub (.bin .sub (.v 3) (.v 8)) (.bin .mul (.v 7) (.v 2))) (.bin .mul (.bin .mul (.v 6) (.v 1)) (.v 2)))],.ret (.frz (.v 4))]⟩
def yao:Fn:=⟨1,16,AC,#[.asg (.n 1) (.call 30 #[.v 0]),.asg (.t [2,3]) (.call 34 #[.v 1,.i 4]),.ite (.cmp .eq (.call 33 #[.v 1,.i 8]) (.i 0)) #[.asg (.n 4) (.call 45 #[.v 1]),.asg (.n 5) (.tup #[.s "row",.tup #[.s "move",.tup #[.v 4,.tup #[.i 0,.i 0,.i 0,.i 0]],.tup #[.v 4,.tup #[.call 33 #[.v 1,.i 100],.i 0,.i 0,.i 0]]]]),.asg (.n 6) (.call 33 #[.v 1,.i 2]),.asg (.n 7) (.idx (.tup #[.v 5,.tup #[.s "rounds",.tup #[.i 1,.i 0,.i 0],.tup .e,.tup #[.v 5]]]) (.call 33 #[.v 1,.i 2])),.asg (.n 8) (.bin .add (.tup #[.tup #[.s "rounds",.tup #[.i 200,.i 0,.i 0],.tup .e,.rep (.tup #[.v 5]) (.i 20)]]) (.rep (.tup #[.v 7]) (.v 6))),.ret (.cmp .eq (.call 55 #[.v 8,.v 2,.v 3]) (.idx (.tup #[.i 4000,.neg (.i 1)]) (.v 6)))] .e,.asg (.n 9) (.thw (.comp [AD] (.n 0) (.seq (.call 56 #[.v 1,.v 2,.v 3])) (.cst (.bl AC)) (.tup #[.s "rounds",.v 0,.tup .e,.tup .e]))),.expr (.mth .insert (.v 9) #[.call 33 #[.v 1,.bin .add (.blt .len #[.v 9]) (.i 1)],.tup #[.s "rounds",.tup #[.bin .sub (.i 0) (.call 33 #[.v 1,.i 201]),.i 0,.i 0],.tup .e,.tup .e]]),.asg (.n 10) (.blt .sum #[.cml [AD,AA 2,AA 3] (.n 0) (.v 9) (.blt .max #[.i 0,.call 44 #[.idx (.v 0) (.i 1),.v 1,.v 2]])]),.expr (.mth .insert (.v 9) #[.call 33 #[.v 1,.bin .add (.blt .len #[.v 9]) (.i 1)],.tup #[.s "row",.tup #[.s "mark",.call 33 #[.v 1,.i 2]]]]),.ite (.cmp .ne (.call 55 #[.blt .tuple #[.v 9],.v 2,.v 3]) (.idx (.tup #[.i 1,.neg (.i 1)]) (.blt .int #[.cmp .gt (.v 10) (.i 4000)]))) #[.nope] .e,.ite (.cmp .eq (.call 33 #[.v 1,.i 4]) (.i 0)) #[.asg (.n 11) (.bin .add (.i 19) (.call 33 #[.v 1,.i 3])),.asg (.n 12) (.bin .sub (.i 200) (.call 33 #[.v 1,.i 3])),.asg (.n 13) (.tup #[.s "rounds",.tup #[.v 12,.i 0,.i 0],.tup .e,.tup .e]),.asg (.n 8) (.tup #[.tup #[.s "rounds",.tup #[.v 11,.i 0,.i 0],.tup .e,.tup #[.v 13]]]),.ret (.cmp .eq (.call 55 #[.v 8,.v 2,.v 3]) (.idx (.tup #[.i 0,.neg (.i 1)]) (.blt .int #[.cmp .gt (.bin .add (.v 11) (.bin .mul (.v 11) (.v 12))) (.i 4000)])))] .e,.asg (.n 14) (.call 54 #[.v 1,.call 53 #[.v 1,.v 2,.v 3],.i 0]),.ite (.cmp .eq (.call 33 #[.v 1,.i 6]) (.i 0)) #[.asg (.n 14) (.call 47 #[.v 1])] .e,.for (.n 15) (.range1 (.i 2)) #[.ite (.and (.not (.call 43 #[.v 14])) (.cmp .ne (.call 55 #[.v 14,.v 2,.v 3]) (.neg (.i 1)))) #[.nope] .e],.ret (.and (.cmp .eq (.call 55 #[.tup .e,.v 2,.v 3]) (.i 0)) (.cmp .eq (.call 55 #[.slc (.frz (.v 9)) (.cst .non) (.i 1),.v 2,.v 3]) (.neg (.i 1))))]⟩
end zq
def Tl:Hs Fn:=[yn,yk,yy,yir,yis,yN,ygr,yig,yh7,y6,y7,yz,yit,yl,yA,yf,yiL,yj,yg,yiu,y8,y9,yiv,yiw,yfK,yfO,yih,yD,yii,ygv,yix,yaD,yan,yah,yiy,yiz,yh8,yh9,yY,yd,yet,yu,yL,yij,yiA,yiB,yw,yI,yh,yia,yo,yp,yE,yr,yx,yib,yae,yao]
def T(i:Ht):Option Fn:=Tl[i]?
abbrev yiC:Ht:=0
abbrev yi7:Ht:=1
abbrev ygK:Ht:=2
abbrev yeN:Ht:=3
abbrev yi8:Ht:=4
abbrev yi9:Ht:=5
abbrev yiD:Ht:=6
abbrev yja:Ht:=7
abbrev yjb:Ht:=8
abbrev yjc:Ht:=9
abbrev yjd:Ht:=10
abbrev yje:Ht:=11
abbrev yjf:Ht:=12
abbrev yiM:Ht:=13
abbrev yjg:Ht:=14
abbrev yiN:Ht:=15
abbrev yjh:Ht:=16
abbrev yic:Ht:=17
abbrev yB:Ht:=18
abbrev yiO:Ht:=19
abbrev yiE:Ht:=20
abbrev yik:Ht:=21
abbrev yiP:Ht:=22
abbrev yT:Ht:=23
abbrev yfX:Ht:=24
abbrev yid:Ht:=25
abbrev yie:Ht:=26
abbrev ygO:Ht:=27
abbrev yiF:Ht:=28
abbrev ygX:Ht:=29
abbrev yiQ:Ht:=30
abbrev yiR:Ht:=31
abbrev yji:Ht:=32
abbrev ya:Ht:=33
abbrev yiS:Ht:=34
abbrev yil:Ht:=35
abbrev yhL:Ht:=36
abbrev yjj:Ht:=37
abbrev yiT:Ht:=38
abbrev yjk:Ht:=39
abbrev yiU:Ht:=40
abbrev yjl:Ht:=41
abbrev ygq:Ht:=42
abbrev yiV:Ht:=43
abbrev yim:Ht:=44
abbrev yiW:Ht:=45
abbrev yiX:Ht:=46
abbrev yiY:Ht:=47
abbrev yiZ:Ht:=48
abbrev yjm:Ht:=49
abbrev yi0:Ht:=50
abbrev yjn:Ht:=51
abbrev yiG:Ht:=52
abbrev yi1:Ht:=53
abbrev yi2:Ht:=54
abbrev yes:Ht:=55
abbrev yi3:Ht:=56
abbrev yiH:Ht:=57
end IC
namespace WK
open PySem L2 IC
def top(i:Ht):Stmt:=EM.main.body.getD i (.Pass #[0,0,0,0])
def tbQ:Tb where
 tbl:=[#["is_whole","is_whole","is_whole",top 9,["thing","low","high"],["thing","low","high"],yn,.fn],#["is_letter","is_letter","is_letter",top 10,["thing"],["thing"],yk,.fn],#["are_told","are_told","are_told",top 11,["thing","many"],["thing","many"],yy,.fn],#["is_row","is_row","is_row",top 14,["thing"],["thing"],yir,.fn],#["is_told_row","is_told_row","is_told_row",top 15,["thing"],["thing"],yis,.fn],#["has_form","has_form","has_form",top 16,["thing","told","kind","operand"],["thing","told"],yN,.fn],#["is_named","is_named","is_named",top 17,["thing"],["thing"],ygr,.fn],#["is_operand","is_operand","is_operand",top 18,["kind","thing","told"],["kind","thing","told"],yig,.fn],#["is_cell","is_cell","is_cell",top 19,["thing"],["thing"],yh7,.fn],#["is_told_cell","is_told_cell","is_told_cell",top 20,["thing"],["thing"],y6,.fn],#["is_lettered","is_lettered","is_lettered",top 21,["thing"],["thing"],y7,.fn],#["is_sentence","is_sentence","is_sentence",top 26,["thing"],["thing"],yz,.fn],#["place_of","place_of","place_of",top 27,["told","n","i","j"],["told","n","i","j"],yit,.fn],#["is_term","is_term","is_term",top 28,["thing","f","exponent","things"],["thing"],yl,.fn],#["are_things","are_things","are_things",top 29,["thing"],["thing"],yA,.fn],#["is_thing","is_thing","is_thing",top 30,["thing"],["thing"],yf,.fn],#["","__init__","Unrolling.__init__",inClass (top 35) 0,["self","w","n"],["self","w","n"],yiL,.ini 20],#["","go_parts","Unrolling.go_parts",inClass (top 35) 1,["self","parts","gone","part"],["self","parts","gone"],yj,.me 20],#["","go_rounds","Unrolling.go_rounds",inClass (top 35) 2,["self","part","gone","count","at"],["self","part","gone"],yg,.me 20],#["","count_of","Unrolling.count_of",inClass (top 35) 3,["self","told","c","m","t"],["self","told"],yiu,.me 20],#["","add_row","Unrolling.add_row",inClass (top 35) 4,["self","told","gone","i","j","row"],["self","told","gone"],y8,.me 20],#["","add_round","Unrolling.add_round",inClass (top 35) 5,["self"],["self"],y9,.me 20],#["","add_asked","Unrolling.add_asked",inClass (top 35) 6,["self","sentence","gone","i","j"],["self","sentence","gone"],yiv,.me 20],#["is_telling","is_telling","is_telling",top 36,["thing"],["thing"],yiw,.fn],#["unrolled","unrolled","unrolled",top 37,["telling","w","n"],["telling","w","n"],yfK,.fn],#["steps_of","steps_of","steps_of",top 38,["telling","w","n","unrolling"],["telling","w","n"],yfO,.fn],#["are_parts","are_parts","are_parts",top 39,["thing","nests"],["thing","nests"],yih,.fn],#["is_part","is_part","is_part",top 40,["thing","nests"],["thing","nests"],yD,.fn],#["both_gone","both_gone","both_gone",top 41,["gone"],["gone"],yii,.fn],#["placed","placed","placed",top 42,["thing","n","i","j"],["thing","n","i","j"],ygv,.fn],#["_law_fresh","_law_fresh","_law_fresh",top 44,["_law_script"],["_law_script"],yix,.fn],#["_law_mixed","_law_mixed","_law_mixed",top 45,["_law_seed","_law_primes","_law_number","_law_k","_law_prime","_law_far","_law_square","_law_power"],["_law_seed"],yaD,.fn],#["_law_fill","_law_fill","_law_fill",top 46,["_law_state","_law_cells","_law_at","_law_seed"],["_law_state"],yan,.fn],#["_law_take","_law_take","_law_take",top 47,["_law_state","_law_many_here","_law_turns","_law_digit"],["_law_state","_law_many_here"],yah,.fn],#["_law_sizes","_law_sizes","_law_sizes",top 48,["_law_state","_law_most"],["_law_state","_law_most"],yiy,.fn],#["_law_whole","_law_whole","_law_whole",top 49,["_law_thing_here"],["_law_thing_here"],yiz,.fn],#["_law_wholes","_law_wholes","_law_wholes",top 50,["_law_thing_here","_law_many_here","_law_most"],["_law_thing_here","_law_many_here","_law_most"],yh8,.fn],#["_law_letter","_law_letter","_law_letter",top 51,["_law_thing_here"],["_law_thing_here"],yh9,.fn],#["_law_index_cell","_law_index_cell","_law_index_cell",top 52,["_law_thing_here"],["_law_thing_here"],yY,.fn],#["_law_telling_row","_law_telling_row","_law_telling_row",top 53,["_law_row","_law_lengths"],["_law_row"],yd,.fn],#["_law_thing","_law_thing","_law_thing",top 54,["_law_thing_here"],["_law_thing_here"],yet,.fn],#["_law_is_sentence","_law_is_sentence","_law_is_sentence",top 55,["_law_told","_law_term"],["_law_told"],yu,.fn],#["_law_part","_law_part","_law_part",top 56,["_law_part_here","_law_deep"],["_law_part_here","_law_deep"],yL,.fn],#["_law_is_telling","_law_is_telling","_law_is_telling",top 57,["_law_told"],["_law_told"],yij,.fn],#["_law_count","_law_count","_law_count",top 58,["_law_count_here","_law_w","_law_n"],["_law_count_here","_law_w","_law_n"],yiA,.fn],#["_law_some_letter","_law_some_letter","_law_some_letter",top 59,["_law_state"],["_law_state"],yiB,.fn],#["_law_some_row","_law_some_row","_law_some_row",top 60,["_law_state","_law_cells","_law_kinds","_law_kind","_law_digit","_law_some"],["_law_state","_law_cells"],yw,.fn],#["_law_strange","_law_strange","_law_strange",top 61,["_law_state","_law_letter_here","_law_great","_law_some"],["_law_state"],yI,.fn],#["_law_spoilt_tuple","_law_spoilt_tuple","_law_spoilt_tuple",top 62,["_law_state","_law_told","_law_way","_law_at","_law_strange_here","_law_here","_law_other","_law_row"],["_law_state","_law_told"],yh,.fn],#["_law_some_index","_law_some_index","_law_some_index",top 63,["_law_state","_law_way","_law_first","_law_small"],["_law_state"],yia,.fn],#["_law_some_telling_row","_law_some_telling_row","_law_some_telling_row",top 64,["_law_state","_law_cells","_law_k","_law_spot"],["_law_state"],yo,.fn],#["_law_some_sentence","_law_some_sentence","_law_some_sentence",top 65,["_law_state","_law_terms","_law_k","_law_things","_law_j","_law_thing_here","_law_far","_law_factor","_law_numbers"],["_law_state"],yp,.fn],#["_law_some_count","_law_some_count","_law_some_count",top 66,["_law_state","_law_w","_law_n","_law_t","_law_count_here","_law_way"],["_law_state","_law_w","_law_n"],yE,.fn],#["_law_some_telling","_law_some_telling","_law_some_telling",top 67,["_law_state","_law_w","_law_n","_law_parts","_law_k","_law_inner","_law_j","_law_deep"],["_law_state","_law_w","_law_n"],yr,.fn],#["_law_spoilt_within","_law_spoilt_within","_law_spoilt_within",top 68,["_law_state","_law_told","_law_deep","_law_at"],["_law_state","_law_told","_law_deep"],yx,.fn],#["_law_many","_law_many","_law_many",top 69,["_law_told","_law_w","_law_n","_law_many_here","e"],["_law_told","_law_w","_law_n"],yib,.fn],#["_law_counts","_law_counts","_law_counts",top 70,["_law_state","_law_w","_law_n","_law_left","_law_counts_here","_law_k","_law_t","_law_m","_law_c"],["_law_state","_law_w","_law_n"],yae,.fn],#["law","law","law",top 71,["_law_script","_law_state","_law_w","_law_n","_law_letter_here","_law_row","_law_more","_law_last","_law_told","_law_parts","_law_rounds","_law_outer","_law_inner","_law_deep","_law_spoilt","_law_turn"],["_law_script"],yao,.fn]]
 al:=[eF "is_whole" 0,eF "is_letter" 1,eF "are_told" 2,eF "is_row" 3,eF "is_told_row" 4,eF "has_form" 5,eF "is_named" 6,eF "is_operand" 7,eF "is_cell" 8,eF "is_told_cell" 9,eF "is_lettered" 10,eF "is_sentence" 11,eF "place_of" 12,eF "is_term" 13,eF "are_things" 14,eF "is_thing" 15,eF "is_telling" 23,eF "unrolled" 24,eF "steps_of" 25,eF "are_parts" 26,eF "is_part" 27,eF "both_gone" 28,eF "placed" 29,eF "_law_fresh" 30,eF "_law_mixed" 31,eF "_law_fill" 32,eF "_law_take" 33,eF "_law_sizes" 34,eF "_law_whole" 35,eF "_law_wholes" 36,eF "_law_letter" 37,eF "_law_index_cell" 38,eF "_law_telling_row" 39,eF "_law_thing" 40,eF "_law_is_sentence" 41,eF "_law_part" 42,eF "_law_is_telling" 43,eF "_law_count" 44,eF "_law_some_letter" 45,eF "_law_some_row" 46,eF "_law_strange" 47,eF "_law_spoilt_tuple" 48,eF "_law_some_index" 49,eF "_law_some_telling_row" 50,eF "_law_some_sentence" 51,eF "_law_some_count" 52,eF "_law_some_telling" 53,eF "_law_spoilt_within" 54,eF "_law_many" 55,eF "_law_counts" 56,eF "law" 57,eC "FACTOR_LIMIT" (.int (10000000000000000000000000000000000000000)),eC "MOST_NESTS" (.int (2)),eC "MOST_ROUNDS" (.int (4000)),eC "MOST_ROWS" (.int (4000)),eC "MOST_TERMS" (.int (20)),eC "MOST_THINGS" (.int (2)),eC "MOST_TOLD" (.int (200)),eG "ROWS" (.dct yb),eG "NoTelling" (.exc 5),eG "Unrolling" (.cls 20 16)]
 bs:=["ValueError","abs","all","bool","enumerate","int","isinstance","len","list","max","min","range","str","sum","tuple","zip"]
 ts:=[.bool,.int,.str,.tuple]
 fl:=[eN 20 "n",eN 20 "rounds",eN 20 "rows",eN 20 "steps",eN 20 "w"]
 me:=[eM 20 "go_parts" 17,eM 20 "go_rounds" 18,eM 20 "count_of" 19,eM 20 "add_row" 20,eM 20 "add_round" 21,eM 20 "add_asked" 22]
 kb:=[]
 cn:=[eN 20 "Unrolling",eN 5 "NoTelling",eN 0 "NoFit",eN 2 "NoCell",eN 3 "NoWord",eN 4 "NoRow"]
 dd:=[eB "ROWS" yb]
 ml:=[]
 xs:=[(5,.cls 0),(5,.cls 2),(5,.cls 3),(5,.cls 4),(5,.cls 5),(5,.val)]
 xc:=[eN 0 "NoFit",eN 2 "NoCell",eN 3 "NoWord",eN 4 "NoRow",eN 5 "NoTelling"]
 xm:=[eN 5 "WordError"]
 qh:=[]
theorem ok_all:tbQ.tbl.all (okT tbQ)=true:=by decide +kernel
theorem T_ok:∀i d,tbQ.tbl[i]?=AA d->T i=AA d.fn:=λi d h=>by have e:Tl=tbQ.tbl.map (·.fn):=rfl;rw[T,e,Bs,h];rfl
theorem kb_all:ybX (KbP tbQ) tbQ.kb:=trivial
theorem cn_20:cnm tbQ 20="Unrolling":=rfl
def chS(c:Ht):Str:=#[(Hs.toArray [c])]
def yc6(c:Ht)(i:Hw):PV:=.tup [.str (chS c),.int i]
abbrev Mem:=Ht->Hw->Hw
def upd(M:Mem)(c:Ht)(i v:Hw):Mem:=λd j=>if d=c/\j=i then v else M d j
def Rel(a:Hs (PV×PV))(M:Mem):Prop:=∀c i,(look (yc6 c i) a).getD (.int 0)=.int (M c i)
def zi8{st:SO}{n:Ht}{o:Ob}(h:st[n]?=AA o):st=st.set n o:=by
 refine GV λi=>?_;rw[Cb];split
 .rename_i e;subst e;split
  .exact h
  .rename_i z;rw[BR ()]at h
   cases h
 .rfl
def zeT(i:Hw):shp (.int i)=true:=rfl
section
variable {st:SO}{k:Hy}{a b c d e:PV}{r:Hs PV}{i j:Hw}
theorem ix0:idxV st (.tp k (a::r)) (.int 0)=AA a:=by simp[idxV,yaQ,at?,ixI]
theorem ix1:idxV st (.tp k (a::b::r)) (.int 1)=AA b:=by
 have:(1:Hw)<(r.length:Hw)+1+1:=by lia
 simp[idxV,yaQ,at?,ixI,this]
theorem ix2:idxV st (.tp k (a::b::c::r)) (.int 2)=AA c:=by
 have:(2:Hw)<(r.length:Hw)+1+1+1:=by lia
 simp[idxV,yaQ,at?,ixI,this]
theorem ix3:idxV st (.tp k (a::b::c::d::r)) (.int 3)=AA d:=by
 have:(3:Hw)<(r.length:Hw)+1+1+1+1:=by lia
 simp[idxV,yaQ,at?,ixI,this]
theorem b_add:yO .add (.int i) (.int j)=AA (.int (i+j)):=rfl
theorem b_sub:yO .sub (.int i) (.int j)=AA (.int (i-j)):=rfl
def zi4(h:i.natAbs<18446744073709551616 \/ j.natAbs<18446744073709551616):yO .mul (.int i) (.int j)=AA (.int (i*j)):=by
 have:ya2 i j=true:=by simpa [ya2] using h
 simp[yO,binI,this]
def zat(h:i.natAbs<18446744073709551616):yO .mul (.int i) (.int j)=AA (.int (i*j)):=zi4 (.inl h)
def zbt(h:j.natAbs<18446744073709551616):yO .mul (.int i) (.int j)=AA (.int (i*j)):=zi4 (.inr h)
theorem b_mul2:yO .mul (.int 2) (.int j)=AA (.int (2*j)):=zi4 (.inl ⋯)
def zku(h:0<j)(b:j<18446744073709551616*18446744073709551616):yO .fdiv (.int i) (.int j)=AA (.int (i/j)):=by
 have a:j<10000000000000000000000000000000000000000000000000000000000000000000000:=by lia
 simp[yO,binI,h,a]
theorem b_div2:yO .fdiv (.int i) (.int 2)=AA (.int (i/2)):=rfl
def ziW(h:0<j):yO .mod (.int i) (.int j)=AA (.int (i%j)):=Hz h
theorem toR_some{v:PV}:toR (AA v) st=.ok v st:=rfl
def zkg:peq (.int i) (.int j)=(i==j):=rfl
theorem c_ne:yJ .ne (.int i) (.int j)=AA (.bl (!(i==j))):=rfl
theorem c_eq:yJ .eq (.int i) (.int j)=AA (.bl (i==j)):=rfl
theorem c_lt:yJ .lt (.int i) (.int j)=AA (.bl (decide (i<j))):=rfl
theorem c_le:yJ .le (.int i) (.int j)=AA (.bl (decide (i<=j))):=rfl
theorem c_gt:yJ .gt (.int i) (.int j)=AA (.bl (decide (j<i))):=rfl
theorem c_ge:yJ .ge (.int i) (.int j)=AA (.bl (decide (j<=i))):=rfl
theorem t_bl{b:Hy}:yaU st (.bl b)=AA b:=rfl
theorem on_t{f:Hy->Fl}{b:Hy}:onF (AA b) f=f b:=rfl
theorem ono{A:Type}{f:Hy->R A}{b:Hy}:onO (AA b) f=f b:=rfl
def za3{Y:IC.Env}:stO Y (AA st)=.nx Y st:=rfl
theorem nxO_some{Y:IC.Env}:nxO (AA Y) st=.nx Y st:=rfl
theorem fl_ok{A:Type}{a:A}{Y:IC.Env}{k:A->SO->Fl}:(R.ok a st).fl Y k=k a st:=rfl
theorem bd_ok{A B:Type}{a:A}{k:A->SO->R B}:(R.ok a st).bind k=k a st:=rfl
theorem th_nx{Y:IC.Env}{k:IC.Env->SO->Fl}:ya0 (.nx Y st) k=k Y st:=rfl
theorem th_rt{v:PV}{k:IC.Env->SO->Fl}:ya0 (.rt v st) k=.rt v st:=rfl
theorem fl_exc{A:Type}{c:Ht}{Y:IC.Env}{k:A->SO->Fl}:(R.exc c st:R A).fl Y k=.exc c Y st:=rfl
theorem bd_exc{A B:Type}{c:Ht}{k:A->SO->R B}:(R.exc c st:R A).bind k=.exc c st:=rfl
theorem th_exc{c:Ht}{Y:IC.Env}{k:IC.Env->SO->Fl}:ya0 (.exc c Y st) k=.exc c Y st:=rfl
theorem noLocs_ints:∀(l:Hs Hw),nLs (l.map PV.int)=AC
 |[]=>rfl
 |_::l=>by simp[nLs,nL,noLocs_ints l]
theorem bT_n{i:Ht}{v:PV}{Y:IC.Env}:yW (.n i) v Y=AA (Y.set i (AA v)):=rfl
theorem mget{o k d:PV}:ybs .get st o [k,d]=yd2 st o k d:=rfl
end
def yaB:PV:=.tup [.int 2147483647,.int 2147483629,.int 2147483587,.int 2147483579,.int 2147483563]
def yd3:Css:=match yaD.body with
 |.cons _ (.cons _ (.cons (.for _ _ b) _))=>b
 |_=>.nil
def zcq{c:Cl}{s num g p:Hw}{i:Ht}{u5 u6 u7:Option PV}(j:∀st,idxV st (.tup [.int 11,.int 101,.int 1009,.int 10007,.int 100003]) (.int i)=AA (.int g))(u:i<5)(f:0<p)(l:p<18446744073709551616):
  ∃d m n o,exs c [AA (.int s),AA yaB,AA (.int num),AA (.int i),AA (.int p),u5,u6,u7] [] yd3=.nx [AA (.int s),AA yaB,AA (.int d),AA (.int i),AA (.int p),m,n,o] []:=by
 have q:∀z:Hw,yO .mul (.int z) (.int (48271+2*(i:Hw)))=AA (.int (z*(48271+2*(i:Hw)))):=λz=>zbt ();have r:∀z y:Hw,yO .mul (.int z) (.int (y%p))=AA (.int (z*(y%p))):=λz y=>zbt (by have a:=FK y (show p≠0 by lia);have b:=EK y f;lia)
 have t:∀z:Hw,yO .mul (.int z) (.int p)=AA (.int (z*p)):=λz=>zbt ();erw[yd3,yaD,AV,Ap,DV,Fg,ID,zbi,xs_nil,x_asg,IC.ve1,IC.ve2,IC.ve3,IC.ve11,IC.ve16,IC.vsq0,IC.vsq1,Au,Ah,bd_ok,fl_ok,toR_some,bT_n,nxO_some,th_nx,Bk,Bl,sizeMax,Ht.reduceLeDiff,b_add,b_mul2,j,q,r,t,ziW f];exact#[_,_,_,_,rfl]
def ziS{c:Cl}{s num:Hw}{u5 u6 u7:Option PV}(i:Ht)(p:Hw)(h:(i,p)∈[(0,(2147483647:Hw)),(1,2147483629),(2,2147483587),(3,2147483579),(4,2147483563)]):
  ∃a b d f,exs c [AA (.int s),AA yaB,AA (.int num),AA (.int i),AA (.int p),u5,u6,u7] [] yd3=.nx [AA (.int s),AA yaB,AA (.int a),AA (.int i),AA (.int p),b,d,f] []:=by
 erw[AM,Prod.mk.injEq,AN,IE]at h;rcases h with⟨rfl,rfl⟩|⟨rfl,rfl⟩|⟨rfl,rfl⟩|⟨rfl,rfl⟩|⟨rfl,rfl⟩
 .exact zcq (λ_=>rfl) ⋯ ⋯ ⋯
 .exact zcq (λ_=>rfl) ⋯ ⋯ ⋯
 .exact zcq (λ_=>rfl) ⋯ ⋯ ⋯
 .exact zcq (λ_=>rfl) ⋯ ⋯ ⋯
 .exact zcq (λ_=>rfl) ⋯ ⋯ ⋯
def yef:Hs PV:=[.tup [.int 0,.int 2147483647],.tup [.int 1,.int 2147483629],.tup [.int 2,.int 2147483587],.tup [.int 3,.int 2147483579],.tup [.int 4,.int 2147483563]]
theorem mixed(k:Ht)(s:Hw)(st:SO):∃num,yc T (k+1) yiR [.int s] st=.ok (.int num) st:=by
 let#[A,l,h,num,a,b,c,d,e,m,o]:=zfm (call:=yc T k) (t:=.t [3,4]) (b:=yd3) (λ_ Y st=>∃num a b c d e,Y=[AA (.int s),AA yaB,AA (.int num),a,b,c,d,e]/\st=[]) yef 0 [AA (.int s),AA yaB,AA (.int 0),AD,AD,AD,AD,AD] [] #[_,_,_,_,_,_,rfl,rfl] (by
  rintro j x Y st f ⟨num,a,b,c,d,e,rfl,rfl⟩
  have f:=A1 f;have f:∃i p,x=.tup [.int ((i:Ht):Hw),.int p]/\(i,p)∈[(0,(2147483647:Hw)),(1,2147483629),(2,2147483587),(3,2147483579),(4,2147483563)]:=by
   erw[yef,AM,AN,IE]at f;rcases f with rfl|rfl|rfl|rfl|rfl
   .exact#[0,_,rfl,by simp]
   .exact#[1,_,rfl,by simp]
   .exact#[2,_,rfl,by simp]
   .exact#[3,_,rfl,by simp]
   .exact#[4,_,rfl,by simp]
  let#[i,p,rfl,q]:=f;let#[g,B,C,D,r]:=ziS (c:=yc T k) (s:=s) (num:=num) (u5:=c) (u6:=d) (u7:=e) i p q;exact#[_,_,_,rfl,r,_,_,_,_,_,_,rfl,rfl])
 subst m o;refine#[num,?_];rw[yc];have u:yaD.body=.cons (.asg (.n 1) (.tup (.cons (.cst (.int 2147483647)) (.cons (.cst (.int 2147483629)) (.cons (.cst (.int 2147483587)) (.cons (.cst (.int 2147483579)) (.cons (.cst (.int 2147483563)) .nil))))))) (.cons (.asg (.n 2) (.cst (.int 0))) (.cons (.for (.t [3,4]) (.enum (.var 1)) yd3) (.cons (.ret (.var 2)) .nil))):=rfl;have w:T yiR=AA #[1,8,AC,yaD.body]:=rfl;have E:PV.tup [.int 2147483647,.int 2147483629,.int 2147483587,.int 2147483579,.int 2147483563]=yaB:=rfl;rw[w,u];have y:ev (yc T k) [AA (.int s),AD,AD,AD,AD,AD,AD,AD] [] (.tup (.cons (.cst (.int 2147483647)) (.cons (.cst (.int 2147483629)) (.cons (.cst (.int 2147483587)) (.cons (.cst (.int 2147483579)) (.cons (.cst (.int 2147483563)) .nil))))))=.ok yaB []:=by simp[IC.ve1,IC.ve11,IC.vsq0,IC.vsq1,R.bind,sizeMax,yaB]
 have z:evi (yc T k) [AA (.int s),AA yaB,AA (.int 0),AD,AD,AD,AD,AD] [] (.enum (.var 1))=.ok yef []:=by simp[IC.vjq0,IC.vjq1,IC.vjq2,IC.vjq3,IC.vjq4,IC.vjq5,IC.vjq6,IC.vjq7,IC.vjq8,IC.ve2,R.bind,yaB,yar,yef]
 erw[AV,Ap,ID,nLs,nL,BM,AW,BH,DC,AL,BD,BG,zbi,xs_nil,x_asg,x_for,x_ret,y,R.fl,yW,nxO,ya0,Bk,Bl,IC.ve1,z,h,IC.ve2,Au,Ah]
mutual
noncomputable def tam(d m:Ht):PV->Hy
 |.non=>AC
 |.bl _=>AC
 |.int _=>AC
 |.str s=>s.cps.toList.all (· < 128)&&decide (s.cps.toList.length<=m)
 |.tp _ a=>decide (0<d)&&(decide (a.length<=m)&&ybp (d-1) m a)
 |.lst a=>decide (0<d)&&(decide (a.length<=m)&&ybp (d-1) m a)
 |_=>AB
noncomputable def ybp(d m:Ht):Hs PV->Hy
 |[]=>AC
 |x::a=>tam d m x&&ybp d m a
end
def zbQ(d m:Ht):∀a:Hs PV,ybp d m a=AC ↔ ∀x∈a,tam d m x=AC
 |[]=>by simp[ybp]
 |x::a=>by simp[ybp,zbQ d m a]
mutual
theorem zk(d m:Ht):∀v:PV,tam d m v=AC->nL v=AC
 |.non,_=>rfl
 |.bl _,_=>rfl
 |.int _,_=>rfl
 |.str _,_=>rfl
 |.tp _ a,h=>by erw[tam,AH]at h;erw[nL];exact zbX (d-1) m a h.2.2
 |.lst a,h=>by erw[tam,AH]at h;erw[nL];exact zbX (d-1) m a h.2.2
 |.loc _,h=>by simp[tam]at h
 |.fnc _,h=>by simp[tam]at h
 |.exn _,h=>by simp[tam]at h
 |.scr _,h=>by simp[tam]at h
theorem zbX(d m:Ht):∀v:Hs PV,ybp d m v=AC->nLs v=AC
 |[],_=>rfl
 |x::a,h=>by erw[ybp,AH]at h;erw[nLs,AH];exact#[zk d m x h.1,zbX d m a h.2]
end
def zpo{s:AQ}(h:s.cps.toList.all (· < 128)=AC):s.cps.all (· < 0x110000)=true:=by rw[<-IH.all_toList];rw[BA]at h ⊢;intro x a;have:=h x a;erw[Hx]at this ⊢;lia
mutual
theorem zhz(d m:Ht):∀(v:PV) (n:Ht),tam d m v=AC->d<=n->shd n v=AC
 |.non,n,_,_=>rfl
 |.bl _,n,_,_=>rfl
 |.int _,n,_,_=>rfl
 |.str s,n,h,_=>by erw[tam,AH]at h;exact zpo h.1
 |.tp _ a,n,h,l=>by erw[tam,AH,Hx]at h;erw[shd,AH,Hx];exact#[by lia,zcf (d-1) m a (n-1) h.2.2 ()]
 |.lst a,n,h,l=>by erw[tam,AH,Hx]at h;erw[shd,AH,Hx];exact#[by lia,zcf (d-1) m a (n-1) h.2.2 ()]
 |.loc _,n,h,_=>by simp[tam]at h
 |.fnc _,n,h,_=>by simp[tam]at h
 |.exn _,n,h,_=>by simp[tam]at h
 |.scr _,n,h,_=>by simp[tam]at h
theorem zcf(d m:Ht):∀(v:Hs PV) (n:Ht),ybp d m v=AC->d<=n->ybj n v=AC
 |[],n,_,_=>rfl
 |x::a,n,h,l=>by erw[ybp,AH]at h;erw[ybj,AH];exact#[zhz d m x n h.1 l,zcf d m a n h.2 l]
end
mutual
theorem zK{d m d' b:Ht}(f:d<=d')(c:m<=b):∀v:PV,tam d m v=AC->tam d' b v=AC
 |.non,_=>rfl
 |.bl _,_=>rfl
 |.int _,_=>rfl
 |.str s,h=>by erw[tam,AH,Hx]at h ⊢;exact#[h.1,by lia]
 |.tp _ a,h=>by erw[tam,AH,Hx]at h ⊢;exact#[by lia,by lia,zeQ () c a h.2.2]
 |.lst a,h=>by erw[tam,AH,Hx]at h ⊢;exact#[by lia,by lia,zeQ () c a h.2.2]
 |.loc _,h=>by simp[tam]at h
 |.fnc _,h=>by simp[tam]at h
 |.exn _,h=>by simp[tam]at h
 |.scr _,h=>by simp[tam]at h
theorem zeQ{d m d' a:Ht}(b:d<=d')(c:m<=a):∀v:Hs PV,ybp d m v=AC->ybp d' a v=AC
 |[],_=>rfl
 |x::f,h=>by erw[ybp,AH]at h ⊢;exact#[zK b c x h.1,zeQ b c f h.2]
end
def zt{d m:Ht}{k:Hy}{xs:Hs PV}:tam d m (.tp k xs)=AC ↔ 0<d/\xs.length<=m/\∀x∈xs,tam (d-1) m x=true:=by erw[tam,AH,Hx,zbQ]
def zkR{d m:Ht}{xs:Hs PV}:tam d m (.lst xs)=AC ↔ 0<d/\xs.length<=m/\∀x∈xs,tam (d-1) m x=true:=by erw[tam,AH,Hx,zbQ]
def zbb{d m:Ht}{v:PV}(h:tam d m v=AC)(a:d<=60):shp v=true:=zhz d m v 60 h a
def zfk(f:PV->Hy):∀a:Hs PV,allB (a.map λx=>.bl (f x))=AA (a.all f)
 |[]=>rfl
 |x::a=>by simp[allB,zfk f a]
def zV(ys:Hs PV)(h:ys.length<=1000000)(st:SO):ybi (.ok ys st)=.ok (.lst ys) st:=by simp[ybi,h]
def zaV(f:PV->Hy)(xs:Hs PV)(st:SO):yX .all st [.lst (xs.map λx=>.bl (f x))]=AA (.bl (xs.all f)):=by simp[yX,yQ,zfk]
def zbj(n:Ht)(h:n<1000):ybE (.int (n:Hw))=AA (yt n 0 1):=by simp[ybE];lia
def zbU{z:Hw}(h:0<=z):∃n:Ht,z=n:=#[z.toNat,by lia]
def ydY(st:SO)(f:Fl):R PV:=
 match f with
 |.rt v _=>if nL v then .ok v st else .bad
 |.nx _ _=>.ok .non st
 |.exc c _ _=>.exc c st
 |_=>.bad
def zh{T:Ht->Option IC.Fn}{k f:Ht}{fn:IC.Fn}{args:Hs PV}{st:SO}(a:T f=AA fn)(b:fn.pure=AC)(c:args.length=fn.np)(d:nLs args=AC):
  yc T (k+1) f args st=ydY st (exs (yc T k) (args.map AA++AL (fn.ns-fn.np) AD) [] fn.body):=by rw[yc,a];dsimp only;rw[Hz c,Hz b,Hz d];rfl
def outI(f:Fl):R PV:=
 match f with
 |.rt v a=>.ok v a
 |.nx _ a=>.ok .non a
 |.exc c _ a=>.exc c a
 |_=>.bad
def zo{T:Ht->Option IC.Fn}{k f:Ht}{fn:IC.Fn}{args:Hs PV}{st:SO}(a:T f=AA fn)(b:fn.pure=AB)(c:args.length=fn.np):
  yc T (k+1) f args st=outI (exs (yc T k) (args.map AA++AL (fn.ns-fn.np) AD) st fn.body):=by rw[yc,a];dsimp only;rw[Hz c,b,IA (by simp)];rfl
def zM{st:SO}{v:PV}:outI (.rt v st)=.ok v st:=rfl
def zc{st s:SO}{b:Hy}:ydY st (.rt (.bl b) s)=.ok (.bl b) st:=rfl
def zg2{st s:SO}{b:Hw}:ydY st (.rt (.int b) s)=.ok (.int b) st:=rfl
def zeo{A:Type}{xs:Hs A}{lo a:Option Hw}{x:A}(h:x∈cut xs lo a):x∈xs:=F1 (F2 h)
def zeq{A:Type}(xs:Hs A)(lo a:Option Hw):(cut xs lo a).length<=xs.length:=by unfold cut;rw[CC,Cp];lia
def zfv{k:Hy}{xs:Hs PV}(a b:Option Hw):∃j c,ybh (.tp k xs) a b=AA (.tp j c)/\c.length<=xs.length/\∀y∈c,y∈xs:=by
 erw[ybh];split
 .exact#[k,xs,rfl,AS _,λ_ h=>h]
 .exact#[AB,_,rfl,zeq xs a b,λ_ h=>zeo h]
def zgR{k j:Hy}{a b:Hs PV}(h:a.length+b.length<=sizeMax):∃i c,yO .add (.tp k a) (.tp j b)=AA (.tp i c)/\c.length=a.length+b.length/\∀y∈c,y∈a \/ y∈b:=by
 erw[yO,Hz h,yeg]
 cases a with
 |nil=>exact#[j,b,rfl,by simp,λy h=>.inr h]
 |cons x a=>
  cases b with
  |nil=>exact#[k,x::a,rfl,by simp,λy h=>.inl h]
  |cons z b=>exact#[AB,_,rfl,by rw[AO],λy h=>Am.1 h]
set_option backward.eqns.nonrecursive true
local macro_rules | `(tactic| simp! [$xs,*])=>do
 let l<-("IC.xs_conS IC.kS1 IC.kS2 IC.kS3 IC.kS4 IC.kS5 IC.xs_nil IC.x_asg IC.x_iteS IC.kI1 IC.kI2 IC.kJ1 IC.kJ2 IC.x_ret IC.x_expr IC.x_for IC.x_six IC.x_try IC.x_raise IC.evs_n IC.evs_c IC.kA1 IC.kA2 IC.kB1 IC.kB2 IC.evi IC.ve1 IC.ve2 IC.ve3S IC.kX1 IC.kX2 IC.kY1 IC.kY2 IC.ve4 IC.ve5 IC.ve6S IC.kN1 IC.kN2 IC.ve7S IC.kO1 IC.kO2 IC.ve8S IC.ve9 IC.ve10S IC.kE1 IC.kF1 IC.kF2 IC.ve11 IC.ve12 IC.ve13 IC.ve14 IC.ve16S IC.ve17 IC.ve18 IC.ve19 IC.ve20S IC.kM1 IC.kP1 IC.ve21 IC.ve22 IC.ve24 IC.ve25 IC.ve28 IC.v_comp List.getElem?_cons_zero List.getElem?_cons_succ WK.bd_ok WK.fl_ok WK.bd_exc WK.fl_exc WK.toR_some IC.toL WK.bT_n WK.nxO_some WK.th_nx WK.th_rt WK.th_exc List.set_cons_zero List.set_cons_succ WK.on_t WK.t_bl WK.ono IC.onBl cond_true cond_false List.length_cons List.length_nil Nat.zero_add Nat.reduceAdd Nat.reduceSub Nat.reduceLeDiff if_true IC.nL IC.nLs WK.noLocs_ints Bool.and_self Bool.not_true Bool.not_false List.map_cons List.map_nil List.replicate List.cons_append List.nil_append List.append_nil Option.bind_none Option.bind_some Option.join_some WK.b_add WK.b_sub WK.b_mul2 WK.b_div2 WK.c_lt WK.c_le WK.c_gt WK.c_ge WK.c_eq WK.c_ne IC.PV.tup IC.sizeMax".splitOn " ").toArray.mapM λs=>`(Lean.Parser.Tactic.simpLemma| $(Lean.mkIdent s.toName):term)
 `(tactic| simp only[$l,*,$xs,*])
theorem rdS{st:SO}{n:Ht}{o x:Ob}(h:st[n]?=AA o):(st.set n x)[n]?=AA x:=by
 have:n<st.length:=by
  rcases FE n st.length with a|a
  .exact a
  .rw[BR a]at h;cases h
 rw[As this]
def znv(ns:Hs Hw)(a:Hw)(h:ns≠[]):∃v,yaQ (ns.map PV.int) (.int (a%(ns.length:Hw)))=AA (.int v):=by
 have f:0<ns.length:=Fb.2 h;have b:=FK a (show (ns.length:Hw)≠0 by lia);have c:=EK a (show (0:Hw)<ns.length by lia);have d:(a%(ns.length:Hw)).toNat<ns.length:=by lia
 refine#[ns[(a%(ns.length:Hw)).toNat],?_];simp[yaQ,at?,ixI,b,c,d]
def flT:Css:=match yan.body with
 |.cons _ (.cons _ (.cons _ t))=>t
 |x=>x
abbrev flS(l:PV)(a p:Hw)(f:Hy):Ob:=.lst [l,.int a,.int p,.bl f]
def zof{st:SO}{n:Ht}{l:PV}{a p v:Hw}{f:Hy}(h:st[n]?=AA (flS l a p f)):yaE st (.loc n) (.int 1) (.int v)=AA (st.set n (flS l v p f)):=by erw[yaE,h];rfl
def zou{st:SO}{n:Ht}{l:PV}{a p v:Hw}{f:Hy}(h:st[n]?=AA (flS l a p f)):yaE st (.loc n) (.int 2) (.int v)=AA (st.set n (flS l a v f)):=by erw[yaE,h];rfl
def zok{st:SO}{n:Ht}{l:PV}{a p:Hw}{f g:Hy}(h:st[n]?=AA (flS l a p f)):yaE st (.loc n) (.int 3) (.bl g)=AA (st.set n (flS l a p g)):=by erw[yaE,h];rfl
def zpp{st:SO}{n:Ht}{l:PV}{a p:Hw}{f:Hy}(h:st[n]?=AA (flS l a p f)):idxV st (.loc n) (.int 0)=AA l:=by erw[idxV,h];rfl
def zpq{st:SO}{n:Ht}{l:PV}{a p:Hw}{f:Hy}(h:st[n]?=AA (flS l a p f)):idxV st (.loc n) (.int 1)=AA (.int a):=by erw[idxV,h];rfl
def zpr{st:SO}{n:Ht}{l:PV}{a p:Hw}{f:Hy}(h:st[n]?=AA (flS l a p f)):idxV st (.loc n) (.int 3)=AA (.bl f):=by erw[idxV,h];rfl
theorem p18:yO .pow (.int 10) (.int 18)=AA (.int 1000000000000000000):=by ac_rfl
def ze8(k n:Ht){l:PV}{m a v p q:Hw}{f g:Hy}{st:SO}(h:st[n]?=AA (flS l a p f))(A:∀st,yX .len st [l]=AA (.int m))(d:(decide (a ≥ m) || decide (v<1000000000000000000))=g)
  (o:g=AC->yc T (k+1) yiR [.int v] (st.set n (flS l (a+1) p AC))=.ok (.int q) (st.set n (flS l (a+1) p AC))) (t:g=AB->q=v-1000000000000000000):
  exs (yc T (k+1)) [AA (.loc n),AA l,AA (.int a),AA (.int v)] st flT=.nx [AA (.loc n),AA l,AA (.int a),AA (.int v)] (st.set n (flS l (a+1) q g)):=by
 have B:=zof h (v:=a+1);have C:=rdS h (x:=flS l (a+1) p f);have u:=zok C (g:=g);have w:=rdS C (x:=flS l (a+1) p g);have j:=zou w (v:=q);have z:=zpr w;rw[Do]at u j z w;rw[Do]at j
 have D:flT=(match flT with
  |.cons a (.cons (.six x y _) r)=>.cons a (.cons (.six x y (.or (.cmp .ge (.var 2) (.blt .len (.cons (.var 1) .nil))) (.cmp .lt (.var 3) (.bin .pow (.cst (.int 10)) (.cst (.int 18)))))) r)
  |x=>x):=rfl
 have b:∀st,ev (yc T (k+1)) [AA (.loc n),AA l,AA (.int a),AA (.int v)] st (.or (.cmp .ge (.var 2) (.blt .len (.cons (.var 1) .nil))) (.cmp .lt (.var 3) (.bin .pow (.cst (.int 10)) (.cst (.int 18)))))=.ok (.bl g) st:=λst=>by
  cases c:decide (a ≥ m)
  .rw[c,E2]at d;simp! [A,c,p18,d]
  .rw[c,Cr]at d;subst d;simp! [A,c]
 generalize G:(Ce.or (.cmp .ge (.var 2) (.blt .len (.cons (.var 1) .nil))) (.cmp .lt (.var 3) (.bin .pow (.cst (.int 10)) (.cst (.int 18)))))=E at *
 cases g with
 |true=>
  have o:=o rfl;rw[D];simp! [flT,yan,stO,B,b,u,z,o,j]
 |false=>
  have t:=t rfl;subst t;rw[D];simp! [flT,yan,stO,B,b,u,z,p18,j]
theorem fill(k n:Ht)(ns:Hs Hw)(A:ns.length<=1000)(a p:Hw)(J:0<=a)(f:Hy)(st:SO)(h:st[n]?=AA (.lst [.lst (ns.map .int),.int a,.int p,.bl f])):
  ∃B C,yc T (k+2) yji [.loc n] st=.ok .non (st.set n (.lst [.lst (ns.map .int),.int (a+1),.int B,.bl C])):=by
 have r:T yji=AA #[1,4,AB,yan.body]:=rfl;have g:∀st,yX .len st [.lst (ns.map .int)]=AA (.int (ns.length:Hw)):=λst=>by show AA (PV.int (((ns.map PV.int).length:Ht):Hw))=_;simp
 have u:=zpp h;have w:=zpq h;have y:∀(a b:PV) (Y:IC.Env),yW (.t [1,2]) (.tp AB [a,b]) Y=AA ((Y.set 1 (AA a)).set 2 (AA b)):=λ_ _ _=>rfl
 have z:yan.body=(match yan.body with
  |.cons a (.cons b (.cons c _))=>.cons a (.cons b (.cons c flT))
  |x=>x):=rfl
 have d:yO .mul (.int 31) (.int a)=AA (.int (31*a)):=zat ⋯;obtain⟨v,l⟩:∃v,exs (yc T (k+1)) [AA (.loc n),AD,AD,AD] st yan.body=exs (yc T (k+1)) [AA (.loc n),AA (.lst (ns.map .int)),AA (.int a),AA (.int v)] st flT:=by
  by_cases m:ns=[]
  .have o:decide ((ns.length:Hw) > 0)=false:=by subst m;rfl
   refine#[31*a+7,?_];rw[z];generalize flT=F,ns.map PV.int=L at *;simp! [yan,u,w,y,d,g,o]
  .have M:0<ns.length:=Fb.2 m;let#[v,l]:=znv ns a m;have o:decide ((ns.length:Hw) > 0)=true:=Hv ();have D:=zku (i:=a) (j:=(ns.length:Hw)) () ();have E:=ziW (i:=a) (j:=(ns.length:Hw)) ();have G:yO .mul (.int 104729) (.int (a/(ns.length:Hw)))=AA (.int (104729*(a/(ns.length:Hw)))):=zat ⋯;have H:∀st,idxV st (.lst (ns.map .int)) (.int (a%(ns.length:Hw)))=AA (.int v):=λ_=>l;refine#[104729*(a/(ns.length:Hw))+v,?_];rw[z];generalize flT=F,ns.map PV.int=L at *;simp! [yan,u,w,y,d,g,o,D,E,G,H]
 cases c:(decide (a ≥ (ns.length:Hw)) || decide (v<1000000000000000000))with
 |true=>
  let#[q,I]:=mixed k v (st.set n (flS (.lst (ns.map .int)) (a+1) p AC));refine#[q,AC,?_];rw[zo r rfl rfl];have e:=ze8 k n h g c (λ_=>I) (λh=>nomatch h);rw[<-l]at e;exact(IJ _ e).trans rfl
 |false=>
  refine#[v-1000000000000000000,AB,?_];rw[zo r rfl rfl];have e:=ze8 k n h g c (λh=>nomatch h) (λ_=>rfl);rw[<-l]at e;exact(IJ _ e).trans rfl
def ybu:Ce:=match yah.body with
 |.cons _ (.cons (.while c _) _)=>c
 |_=>.nope
def ybQ:Css:=match yah.body with
 |.cons _ (.cons (.while _ b) _)=>b
 |_=>.nil
def zgF{c:Cl}{n:Ht}{ns:Hs Hw}{a p m t:Hw}{f:Hy}{u:Option PV}{st:SO}(h:st[n]?=AA (.lst [.lst (ns.map .int),.int a,.int p,.bl f])):
  ∃B,ev c [AA (.loc n),AA (.int m),AA (.int t),u] st ybu=.ok (.bl B) st/\(B=AC->t<64):=by
 by_cases b:t<64
 .by_cases d:p=0
  .refine#[AC,?_,λ_=>b];erw[ybu,yah,IC.ve1,IC.ve2,IC.ve3,IC.ve6,IC.ve7,IC.ve8,IC.ve16,R.bind,Au,Ah,h,idxV,yaQ,at?,ixI,yO,binI,ya2,toR,yJ,ycf,onBl];simp[b,d,zeT,zkg]
  .have d:(p==0)=false:=by simp[d]
   cases f
   .refine#[AB,?_,λ_=>b];erw[ybu,yah,IC.ve1,IC.ve2,IC.ve3,IC.ve6,IC.ve7,IC.ve8,IC.ve16,R.bind,Au,Ah,h,idxV,yaQ,at?,ixI,yO,binI,ya2,toR,yJ,ycf,onBl];simp[h,b,d,zeT,zkg]
   .refine#[decide (p<m*4096),?_,λ_=>b];erw[ybu,yah,IC.ve1,IC.ve2,IC.ve3,IC.ve6,IC.ve7,IC.ve8,IC.ve16,R.bind,Au,Ah,h,idxV,yaQ,at?,ixI,yO,binI,ya2,toR,yJ,ycf,onBl];simp[h,b,d,zeT,zkg]
 .refine#[AB,?_,λz=>by cases z];erw[ybu,yah,IC.ve1,IC.ve2,IC.ve3,IC.ve6,IC.ve7,IC.ve8,IC.ve16,R.bind,Au,Ah,h,idxV,yaQ,at?,ixI,yO,binI,ya2,toR,yJ,ycf,onBl];simp[b]
def zhf(k:Ht){n:Ht}{ns:Hs Hw}(c:ns.length<=1000){a p m t:Hw}(l:0<=a){f:Hy}{u:Option PV}{st:SO}(h:st[n]?=AA (.lst [.lst (ns.map .int),.int a,.int p,.bl f])):
  ∃o r,exs (yc T (k+2)) [AA (.loc n),AA (.int m),AA (.int t),u] st ybQ=.nx [AA (.loc n),AA (.int m),AA (.int (t+1)),u] (st.set n (.lst [.lst (ns.map .int),.int (a+1),.int o,.bl r])):=by
 let#[q,g,d]:=fill k n ns c a p l f st h;have w:(1+q%4093).natAbs<18446744073709551616:=by lia
 have b:∀st,ex (yc T (k+2)) [AA (.loc n),AA (.int m),AA (.int t),u] st (.aug 2 .add (.cst (.int 1)))=.nx [AA (.loc n),AA (.int m),AA (.int (t+1)),u] st:=λst=>by rw[zoc (x:=.int t) rfl];simp[IC.ve1,R.fl,ybM,yO,binI,nxO]
 cases g
 .refine#[q,AB,?_];erw[ybQ,yah,zbi,xs_nil,x_expr,zlo,x_six,b,ya0,nxO,IC.ve1,IC.ve2,IC.ve3,IC.ve6,IC.ve8,IC.ve16,IC.ve18,IC.vsq0,IC.vsq1,R.fl,R.bind,d,ybM,yO,binI,B5,Bk,Bl,Au,Ah,rdS h,idxV,yaQ,at?,ixI,ya2,toR,yJ,ycf,onBl,onF,yaU];simp[rdS h]
 .by_cases j:q<m*4096
  .refine#[q+m*4096*(1+q%4093),AC,?_];erw[ybQ,yah,zbi,xs_nil,x_expr,zlo,x_six,b,ya0,nxO,IC.ve1,IC.ve2,IC.ve3,IC.ve6,IC.ve8,IC.ve16,IC.ve18,IC.vsq0,IC.vsq1,R.fl,R.bind,d,ybM,yO,binI,B5,Bk,Bl,Au,Ah,rdS h,idxV,yaQ,at?,ixI,ya2,toR,yJ,ycf,onBl,onF,yaU,stO,yaE];simp[rdS h,j,w]
  .refine#[q,AC,?_];erw[ybQ,yah,zbi,xs_nil,x_expr,zlo,x_six,b,ya0,nxO,IC.ve1,IC.ve2,IC.ve3,IC.ve6,IC.ve8,IC.ve16,IC.ve18,IC.vsq0,IC.vsq1,R.fl,R.bind,d,ybM,yO,binI,B5,Bk,Bl,Au,Ah,rdS h,idxV,yaQ,at?,ixI,ya2,toR,yJ,ycf,onBl,onF,yaU];simp[rdS h,j]
def zdZ(k:Ht){n:Ht}{ns:Hs Hw}(b:ns.length<=1000){m:Hw}{u:Option PV}:∀(r N:Ht) (t a p:Hw) (f:Hy) (st:SO),r<=N->64-t<=r->0<=a->st[n]?=AA (.lst [.lst (ns.map .int),.int a,.int p,.bl f]) ->
  ∃g d j l,0<=d/\ya3 (yc T (k+2)) ybu ybQ (N+1) [AA (.loc n),AA (.int m),AA (.int t),u] st=.nx [AA (.loc n),AA (.int m),AA (.int g),u] (st.set n (.lst [.lst (ns.map .int),.int d,.int j,.bl l]))
 |r,N,t,a,p,f,st,I,w,o,h=>by
  let#[B,q,x]:=zgF (c:=yc T (k+2)) (m:=m) (t:=t) (u:=u) h;have y:st.set n (.lst [.lst (ns.map .int),.int a,.int p,.bl f])=st:=by
   refine GV λi=>?_;rw[Cb];split
   .rename_i e;subst e;split
    .exact h.symm
    .rename_i z;rw[BR ()]at h
     cases h
   .rfl
  cases B with
  |false=>exact#[t,a,p,f,o,by rw[zeu q rfl,y]]
  |true=>
   have A:=x rfl
   match r,N with
   |0,_=>exact IB w ()
   |r+1,N+1=>
    let#[C,D,E]:=zhf k b (m:=m) (t:=t) o (u:=u) h;let#[g,d,j,l,G,H]:=zdZ k b (m:=m) (u:=u) r N (t+1) (a+1) C D _ () () () (rdS h);refine#[g,d,j,l,G,?_];rw[zhc q rfl E,H,Do]
theorem take(k n:Ht)(ns:Hs Hw)(j:ns.length<=1000)(a p m:Hw)(q:0<=a)(l:0<m)(b:m<10000000000000000000000000000000000000000000000000000000000000000000000)(f:Hy)(st:SO)(h:st[n]?=AA (.lst [.lst (ns.map .int),.int a,.int p,.bl f])):
  ∃d c g o,0<=d/\d<m/\0<=c/\yc T (k+3) ya [.loc n,.int m] st=.ok (.int d) (st.set n (.lst [.lst (ns.map .int),.int c,.int g,.bl o])):=by let#[y,c,g,o,r,t]:=zdZ k j (m:=m) (u:=AD) 64 99999 0 a p f st () () q h;refine#[g%m,c,g/m,o,FK _ (),EK _ l,r,?_];have w:yah.body=.cons (.asg (.n 2) (.cst (.int 0))) (.cons (.while ybu ybQ) (.cons (.asg (.n 3) (.bin .mod (.idx (.var 0) (.cst (.int 2))) (.var 1))) (.cons (.six (.var 0) (.cst (.int 2)) (.bin .fdiv (.idx (.var 0) (.cst (.int 2))) (.var 1))) (.cons (.ret (.var 3)) .nil)))):=rfl;have x:T ya=AA #[2,4,AB,yah.body]:=rfl;rw[yc,x,w];erw[AV,Ap,ID,AW,BH,DC,AL,BD,BG,zbi,xs_nil,x_asg,zkT,x_six,x_ret,ya0,nxO,stO,IC.ve1,IC.ve2,IC.ve3,IC.ve16,R.fl,R.bind,yW,Bk,Bl,Au,Ah,t,rdS h,idxV,yaQ,at?,ixI,yO,binI,l,b,and_self,toR,yaE];simp[rdS h,l,b]
def Drw(ns:Hs Hw)(n:Ht)(st:SO):Prop:=∃a p f,0<=a/\st[n]?=AA (.lst [.lst (ns.map .int),.int a,.int p,.bl f])
def Onl(ns:Hs Hw)(n:Ht)(st b:SO):Prop:=∃a p f,0<=a/\b=st.set n (.lst [.lst (ns.map .int),.int a,.int p,.bl f])
theorem Onl.drw{ns:Hs Hw}{n:Ht}{st c:SO}(h:Drw ns n st)(o:Onl ns n st c):Drw ns n c:=by let#[a,p,f,j,h]:=h;let#[b,q,g,d,rfl]:=o;exact#[b,q,g,d,rdS h]
theorem Onl.trans{ns:Hs Hw}{n:Ht}{st a d:SO}(o:Onl ns n st a)(o2:Onl ns n a d):Onl ns n st d:=by let#[b,q,g,l,rfl]:=o;let#[c,r,j,f,rfl]:=o2;exact#[c,r,j,f,by rw[Do]]
def zoy(k:Ht){n:Ht}{ns:Hs Hw}(c:ns.length<=1000){m:Hw}(j:0<m)(g:m<10000000000000000000000000000000000000000000000000000000000000000000000){st:SO}(h:Drw ns n st):
  ∃d b,0<=d/\d<m/\Onl ns n st b/\yc T (k+3) ya [.loc n,.int m] st=.ok (.int d) b:=by let#[a,p,f,l,h]:=h;let#[d,u,w,x,o,q,r,t]:=take k n ns c a p m l j g f st h;exact#[d,_,o,q,#[_,_,_,r,rfl],t]
theorem fresh(k:Ht)(ns:Hs Hw)(h:ns.length<=63)(st:SO):∃v,yc T (k+1) yiQ [.scr (ns.map .int)] st=.ok (.loc st.length) (st++[v])/\v=.lst [.lst (ns.map .int),.int 0,.int 0,.bl AB]:=by
 have a:T yiQ=AA yix:=rfl;refine#[_,?_,rfl];rw[yc,a];erw[yix,AV,Ap,ID,AW,BH,DC,AL,BD,BG,zbi,xs_nil,x_ret,ya0,ev,IC.vsq0,IC.vsq1,R.fl,R.bind,Au,toR];have b:ycl (.scr (ns.map PV.int)) AD (.int 63)=AA (.lst (ns.map .int)):=by
  have c:ybk ns.length 63=ns.length:=by show min 63 ns.length=ns.length;lia
  simp[ycl,yb9,ybh,cut,ycP,yct,c]
  try rw[<-Ai (f:=PV.int),G6]
 simp[yb9,onP,b,sizeMax]
theorem Drw.refl{ns:Hs Hw}{n:Ht}{st:SO}(h:Drw ns n st):Onl ns n st st:=by let#[a,p,f,b,h]:=h;exact#[a,p,f,b,zi8 h]
theorem Drw.pos{ns:Hs Hw}{st:SO}(h:Drw ns 0 st):0<st.length:=by
 let#[a,p,f,b,h]:=h;rcases FE 0 st.length with z|z
 .exact z
 .rw[BR z]at h;cases h
theorem Drw.app{ns:Hs Hw}{st:SO}(h:Drw ns 0 st)(o:Ob):Drw ns 0 (st++[o]):=by have b:=h.pos;let#[a,p,f,c,h]:=h;exact#[a,p,f,c,by rw[AY b];exact h]
theorem Drw.put{ns:Hs Hw}{st:SO}(h:Drw ns 0 st){L:Ht}(b:L≠0)(o:Ob):Drw ns 0 (st.set L o):=by let#[a,p,f,c,h]:=h;exact#[a,p,f,c,by rw[A7 b];exact h]
theorem Onl.get{ns:Hs Hw}{st b:SO}(o:Onl ns 0 st b){L:Ht}(c:L≠0):b[L]?=st[L]?:=by let#[a,p,f,d,rfl]:=o;rw[A7 (BW c)]
def zfZ(l:Hs Hw):nLs [PV.scr (l.map .int)]=true:=by simp[nLs,nL,noLocs_ints]
theorem Onl.len{ns:Hs Hw}{n:Ht}{st b:SO}(o:Onl ns n st b):b.length=st.length:=by let#[a,p,f,c,rfl]:=o;rw[Ay]
local macro_rules | `(tactic| simp! [$xs,*])=>do
 let l<-("IC.xs_conS IC.kS1 IC.kS2 IC.kS3 IC.kS4 IC.kS5 IC.xs_nil IC.x_asg IC.x_iteS IC.kI1 IC.kI2 IC.kJ1 IC.kJ2 IC.x_ret IC.x_expr IC.x_for IC.x_six IC.x_try IC.x_raise IC.evs_n IC.evs_c IC.kA1 IC.kA2 IC.kB1 IC.kB2 IC.evi IC.ve1 IC.ve2 IC.ve3S IC.kX1 IC.kX2 IC.kY1 IC.kY2 IC.ve4 IC.ve5 IC.ve6S IC.kN1 IC.kN2 IC.ve7S IC.kO1 IC.kO2 IC.ve8S IC.ve9 IC.ve10S IC.kE1 IC.kF1 IC.kF2 IC.ve11 IC.ve12 IC.ve13 IC.ve14 IC.ve16S IC.ve17 IC.ve18 IC.ve19 IC.ve20S IC.kM1 IC.kP1 IC.ve21 IC.ve22 IC.ve24 IC.ve25 IC.v_comp List.getElem?_cons_zero List.getElem?_cons_succ WK.bd_ok WK.fl_ok WK.bd_exc WK.fl_exc WK.toR_some IC.toL WK.bT_n WK.nxO_some WK.th_nx WK.th_rt WK.th_exc List.set_cons_zero List.set_cons_succ WK.on_t WK.t_bl WK.ono IC.onBl cond_true cond_false List.length_cons List.length_nil Nat.zero_add Nat.reduceAdd Nat.reduceSub Nat.reduceLeDiff if_true IC.nL IC.nLs WK.noLocs_ints Bool.and_self Bool.not_true Bool.not_false List.map_cons List.map_nil List.replicate List.cons_append List.nil_append List.append_nil Option.bind_none Option.bind_some Option.join_some WK.b_add WK.b_sub WK.b_mul2 WK.b_div2 WK.c_lt WK.c_le WK.c_gt WK.c_ge WK.c_eq WK.c_ne IC.PV.tup IC.sizeMax".splitOn " ").toArray.mapM λs=>`(Lean.Parser.Tactic.simpLemma| $(Lean.mkIdent s.toName):term)
 `(tactic| simp only[$l,*,$xs,*])
def wh(lo a:Hw):PV->Hy
 |.int i=>decide (lo<=i)&&decide (i<=a)
 |_=>AB
def ltr:PV->Hy
 |.str s=>match s.cps.toList with
  |[c]=>decide (97<=c)&&decide (c<=122)
  |_=>AB
 |_=>AB
def told(n:Ht):PV->Hy
 |.tp _ a=>decide (a.length=n)&&a.all (wh (-200) 200)
 |_=>AB
def zaU(k:Ht){d m:Ht}{v:PV}(a:tam d m v=AC)(lo c:Hw)(st:SO):yc T (k+1) yiC [v,.int lo,.int c] st=.ok (.bl (wh lo c v)) st:=by
 have f:T yiC=AA yn:=rfl;have g:=zk d m v a;rw[zh f rfl rfl (by simp[nLs,nL,g])]
 cases v with
 |int i=>
  by_cases h:lo<=i
  .simp! [yn,zc,yG,yF,yK,blO,Hv h,wh,A2]
  .simp! [yn,zc,yG,yF,yK,blO,Hu h,wh,A8]
 |bl b=>simp! [yn,zc,yG,yF,yK,wh]
 |non=>simp! [yn,zc,yG,yF,yK,wh]
 |str s=>simp! [yn,zc,yG,yF,yK,wh]
 |tp b j=>simp! [yn,zc,yG,yF,yK,wh]
 |lst j=>simp! [yn,zc,yG,yF,yK,wh]
 |loc _=>simp[tam]at a
 |exn _=>simp[tam]at a
 |fnc _=>simp[tam]at a
 |scr _=>simp[tam]at a
def zjv(c d:Ht):decide ([c] < [d])=decide (c<d):=by
 have:[c] < [d] ↔ c<d:=by rw[Hs.cons_lt_cons_iff];simp
 exact IK.mpr this
def zl8:(AE "a").cps.toList=[97]:=by decide +kernel
def zna:(AE "z").cps.toList=[122]:=by decide +kernel
def zjo{s:AQ}{st:SO}(h:s.cps.toList.length<=1000000):yX .len st [.str s]=AA (.int s.cps.toList.length):=by
 have:s.length=s.cps.toList.length:=by simp[Gw]
 erw[yX,lenV,this];rw[Hz (by erw[sizeMax];lia)]
def zb8(k:Ht){d m:Ht}{v:PV}(g:tam d m v=AC)(u:m<=1000)(st:SO):yc T (k+1) yi7 [v] st=.ok (.bl (ltr v)) st:=by
 have o:T yi7=AA yk:=rfl;have p:=zk d m v g;rw[zh o rfl rfl (by simp[nLs,nL,p])]
 cases v with
 |str s=>
  erw[tam,AH,Hx]at g;have f:=zjo (s:=s) (st:=[]) ()
  cases a:s.cps.toList with
  |nil=>
   rw[a]at f;simp! [yk,zc,yG,yF,yK,f,ltr,a];rfl
  |cons c r=>
   cases r with
   |nil=>
    rw[a]at f;have l:yJ .le (.str "a") (.str s)=AA (.bl (decide (97<=c))):=by
     erw[yJ,ydG,a,zl8,zjv]
     by_cases q:c<97
     .rw[Hv q,Hu ()];rfl
     .rw[Hu q,Hv ()];rfl
    have n:yJ .le (.str s) (.str "z")=AA (.bl (decide (c<=122))):=by
     erw[yJ,ydG,a,zna,zjv]
     by_cases q:122<c
     .rw[Hv q,Hu ()];rfl
     .rw[Hu q,Hv ()];rfl
    have j:(((1:Ht):Hw)==1)=true:=rfl
    by_cases q:97<=c
    .simp! [yk,zc,yG,yF,yK,f,j,ltr,a,l,n,blO,Hv q,A2]
    .simp! [yk,zc,yG,yF,yK,f,j,ltr,a,l,n,blO,Hu q,A8]
   |cons e r=>
    rw[a]at f;have j:((((c::e::r:Hs Ht).length:Ht):Hw)==1)=false:=by rw[IF];erw[AV];lia
    erw[AV]at f j;simp! [yk,zc,yG,yF,yK,f,j,ltr,a]
 |int i=>simp! [yk,zc,yG,yF,yK,ltr]
 |bl b=>simp! [yk,zc,yG,yF,yK,ltr]
 |non=>simp! [yk,zc,yG,yF,yK,ltr]
 |tp b t=>simp! [yk,zc,yG,yF,yK,ltr]
 |lst t=>simp! [yk,zc,yG,yF,yK,ltr]
 |loc _=>simp[tam]at g
 |exn _=>simp[tam]at g
 |fnc _=>simp[tam]at g
 |scr _=>simp[tam]at g
def zbe(a b:Ht):yJ .ne (.int a) (.int b)=AA (.bl (!decide (a=b))):=by
 rw[c_ne]
 by_cases h:a=b
 .subst h;simp
 .rw[Hu h,show ((a:Hw)==b)=AB by rw[IF];lia]
def zd{k:Hy}{xs:Hs PV}{st:SO}:yX .len st [.tp k xs]=AA (.int xs.length):=rfl
def zaA(k:Ht){d m:Ht}{v:PV}(c:tam d m v=AC)(r:m<=1000)(n:Ht)(st:SO):yc T (k+2) ygK [v,.int n] st=.ok (.bl (told n v)) st:=by
 have g:T ygK=AA yy:=rfl;have j:=zk d m v c;rw[zh g rfl rfl (by simp[nLs,nL,j])]
 cases v with
 |tp b f=>
  let#[t,u,l]:=zt.1 c;have o:yR (yc T (k+1)) [AD] (.n 0) (.cst (.bl AC)) (.call yiC (.cons (.var 0) (.cons (.neg (.cst yif)) (.cons (.cst yif) .nil)))) f []=.ok (f.map λx=>.bl (wh (-200) 200 x)) []:=by refine zX _ λp q=>?_;have:=zaU k (l p q) (-200) 200 [];have c:yif=.int 200:=rfl;simp! [yaC,c,this]
  have a:=zbe f.length n
  by_cases h:f.length=n
  .rw[Hv h]at a;simp! [yy,zc,yG,yF,yK,zd,a,o];rw[zV _ (by rw[Ai];lia)];simp! [zaV,zc,told,Hv h,A2]
  .rw[Hu h]at a;simp! [yy,zc,yG,yF,yK,zd,a,told,Hu h,A8]
 |int i=>simp! [yy,zc,yG,yF,yK,told]
 |bl b=>simp! [yy,zc,yG,yF,yK,told]
 |non=>simp! [yy,zc,yG,yF,yK,told]
 |str s=>simp! [yy,zc,yG,yF,yK,told]
 |lst f=>simp! [yy,zc,yG,yF,yK,told]
 |loc _=>simp[tam]at c
 |exn _=>simp[tam]at c
 |fnc _=>simp[tam]at c
 |scr _=>simp[tam]at c
abbrev yal:Str:=AE "mark"
abbrev yaw:Str:=AE "slice"
def thg:PV->Hy
 | .tp _ (x::r)=>if peq x (.str yal)then r.isEmpty else if peq x (.str yaw)then(match r with
  |[l,a,b]=>ltr l&&(told 4 a&&told 4 b)
  |_=>AB)else AB
 |_=>AB
def ths:PV->Hy
 |.tp _ a=>decide (a.length<=2)&&a.all thg
 |_=>AB
def trm:PV->Hy
 |.tp _ [f,e,t]=>wh (1-10^40) (10^40-1) f&&(told 6 e&&ths t)
 |_=>AB
def sen:PV->Hy
 |.tp _ a=>decide (a.length<=20)&&a.all trm
 |_=>AB
def zoA{d m:Ht}{v:PV}(a:tam d m v=AC)(b:d<=60)(s:AQ)(c:s.cps.all (· < 0x110000)=AC):yJ .eq v (.str s)=AA (.bl (peq v (.str s))):=by have f:shp v=true:=zbb a b;have g:shp (.str s)=true:=c;erw[yJ];rw[Hz (by rw[f,g];rfl)]
def zoE{d m:Ht}{v:PV}(a:tam d m v=AC)(b:d<=60)(s:AQ)(c:s.cps.all (· < 0x110000)=AC):yJ .ne v (.str s)=AA (.bl (!peq v (.str s))):=by have f:shp v=true:=zbb a b;have g:shp (.str s)=true:=c;erw[yJ];rw[Hz (by rw[f,g];rfl)]
def zoe:yal.cps.all (· < 0x110000)=true:=by decide +kernel
def zmj:yaw.cps.all (· < 0x110000)=true:=by decide +kernel
def zbf(a b:Ht):yJ .eq (.int a) (.int b)=AA (.bl (decide (a=b))):=by
 rw[c_eq]
 by_cases h:a=b
 .subst h;simp
 .rw[Hu h,show ((a:Hw)==b)=AB by rw[IF];lia]
def zeR(k:Ht){d m:Ht}{v:PV}(u:tam d m v=AC)(M:d<=60)(A:m<=1000)(st:SO):yc T (k+3) yiN [v] st=.ok (.bl (thg v)) st:=by
 have I:T yiN=AA yf:=rfl;have J:=zk d m v u;rw[zh I rfl rfl (by simp[nLs,nL,J])]
 cases v with
 |tp b C=>
  let#[N,O,y]:=zt.1 u
  cases C with
  |nil=>
   have f:yJ .eq (.int (([]:Hs PV).length:Hw)) (.int 0)=AA (.bl AC):=rfl;simp! [yf,zc,yG,yF,yK,zd,f,thg];rfl
  |cons x r=>
   have D:=y x A6;have f:yJ .eq (.int ((r.length+1:Ht):Hw)) (.int 0)=AA (.bl AB):=by have:=zbf (r.length+1) 0;rw[Hu ()]at this;exact this
   have g:=zoA D () yal zoe;have j:=zoE D () yaw zmj;have n:∀st,idxV st (.tp b (x::r)) (.int 0)=AA x:=λst=>ix0
   by_cases q:peq x (.str yal)=AC
   .have B:yJ .eq (.int ((r.length+1:Ht):Hw)) (.int 1)=AA (.bl r.isEmpty):=by
     have:=zbf (r.length+1) 1;have e:decide (r.length+1=1)=r.isEmpty:=by cases r<;>simp
     rw[e]at this;exact this
    rw[q]at g;have p:thg (.tp b (x::r))=r.isEmpty:=by erw[thg,q,ID]
    rw[p];simp! [yf,zc,yG,yF,yK,zd,f,n,g,B]
   .have q:peq x (.str yal)=false:=by simpa using q
    rw[q]at g
    by_cases t:peq x (.str yaw)=AC
    .rw[t]at j
     by_cases E:r.length=3
     .obtain⟨l,a,c,rfl⟩:∃l a c,r=[l,a,c]:=by
       match r,E with
       |[l,a,c],_=>exact#[l,a,c,rfl]
      have o:yJ .ne (.int ((([l,a,c]:Hs PV).length+1:Ht):Hw)) (.int 4)=AA (.bl AB):=rfl;have w:=zb8 (k+1) (y l (by simp)) A [];have z:=(show yc T (k+2) ygK [a,.int 4] []=_ from zaA k (y a (by simp)) A 4 []);have L:=(show yc T (k+2) ygK [c,.int 4] []=_ from zaA k (y c (by simp)) A 4 []);have p:thg (.tp b [x,l,a,c])=(ltr l&&(told 4 a&&told 4 c)):=by erw[thg,q,t,ID,A5,IG]
      rw[p];erw[AV,Ap,DV,Fg]at f o
      cases G:ltr l with
      |false=>
       rw[G]at w;simp! [yf,zc,yG,yF,yK,zd,f,n,g,j,o,ix1,w,A8]
      |true=>
       rw[G]at w
       cases H:told 4 a with
       |false=>
        rw[H]at z;simp! [yf,zc,yG,yF,yK,zd,f,n,g,j,o,ix1,ix2,ix3,w,A2,A8,z]
       |true=>
        rw[H]at z;simp! [yf,zc,yG,yF,yK,zd,f,n,g,j,o,ix1,ix2,ix3,w,A2,z,L]
     .have o:yJ .ne (.int ((r.length+1:Ht):Hw)) (.int 4)=AA (.bl AC):=by have:=zbe (r.length+1) 4;rw[Hu ()]at this;exact this
      have p:thg (.tp b (x::r))=false:=by
       erw[thg,q,t,ID,A5,IG];split
       .simp at E
       .rfl
      rw[p];simp! [yf,zc,yG,yF,yK,zd,f,n,g,j,o]
    .have t:peq x (.str yaw)=false:=by simpa using t
     rw[t]at j;have p:thg (.tp b (x::r))=false:=by erw[thg,q,t,A5,IG]
     rw[p];simp! [yf,zc,yG,yF,yK,zd,f,n,g,j]
 |int i=>simp! [yf,zc,yG,yF,yK,thg]
 |bl b=>simp! [yf,zc,yG,yF,yK,thg]
 |non=>simp! [yf,zc,yG,yF,yK,thg]
 |str s=>simp! [yf,zc,yG,yF,yK,thg]
 |lst C=>simp! [yf,zc,yG,yF,yK,thg]
 |loc _=>simp[tam]at u
 |exn _=>simp[tam]at u
 |fnc _=>simp[tam]at u
 |scr _=>simp[tam]at u
def zjD(a b:Ht):yJ .le (.int a) (.int b)=AA (.bl (decide (a<=b))):=by
 rw[c_le]
 by_cases h:a<=b
 .rw[Hv h,Hv ()]
 .rw[Hu h,Hu ()]
def zdl(k:Ht){d m:Ht}{v:PV}(c:tam d m v=AC)(u:d<=60)(j:m<=1000)(st:SO):yc T (k+4) yjg [v] st=.ok (.bl (ths v)) st:=by
 have l:T yjg=AA yA:=rfl;have o:=zk d m v c;have g:yi6=.int ((2:Ht):Hw):=rfl;rw[zh l rfl rfl (by simp[nLs,nL,o])]
 cases v with
 |tp b f=>
  let#[w,y,q]:=zt.1 c;have r:yR (yc T (k+3)) [AD] (.n 0) (.cst (.bl AC)) (.call yiN (.cons (.var 0) .nil)) f []=.ok (f.map λx=>.bl (thg x)) []:=by refine zX _ λp t=>?_;have:=zeR k (q p t) () j [];simp! [yaC,this]
  have a:=zjD f.length 2
  by_cases h:f.length<=2
  .rw[Hv h]at a;simp! [yA,zc,yG,yF,yK,zd,g,a,r];rw[zV _ (by rw[Ai];lia)];simp! [zaV,zc,ths,Hv h,A2]
  .rw[Hu h]at a;simp! [yA,zc,yG,yF,yK,zd,g,a,ths,Hu h,A8]
 |int i=>simp! [yA,zc,yG,yF,yK,ths]
 |bl b=>simp! [yA,zc,yG,yF,yK,ths]
 |non=>simp! [yA,zc,yG,yF,yK,ths]
 |str s=>simp! [yA,zc,yG,yF,yK,ths]
 |lst f=>simp! [yA,zc,yG,yF,yK,ths]
 |loc _=>simp[tam]at c
 |exn _=>simp[tam]at c
 |fnc _=>simp[tam]at c
 |scr _=>simp[tam]at c
def zf4(k:Ht){d m:Ht}{v:PV}(g:tam d m v=AC)(B:d<=60)(u:m<=1000)(st:SO):yc T (k+5) yiM [v] st=.ok (.bl (trm v)) st:=by
 have y:T yiM=AA yl:=rfl;have z:=zk d m v g;have n:yiI=.int (10^40):=rfl;rw[zh y rfl rfl (by simp[nLs,nL,z])]
 cases v with
 |tp b a=>
  let#[C,D,o]:=zt.1 g
  by_cases c:a.length=3
  .obtain⟨f,e,t,rfl⟩:∃f e t,a=[f,e,t]:=by
    match a,c with
    |[f,e,t],_=>exact#[f,e,t,rfl]
   have c:yJ .ne (.int ((3:Ht):Hw)) (.int 3)=AA (.bl AB):=rfl;have j:=zaU (k+3) (o f (by simp)) (1-10^40) (10^40-1) [];have l:=(show yc T (k+4) ygK [e,.int 6] []=_ from zaA (k+2) (o e (by simp)) u 6 []);have A:=zdl k (o t (by simp)) () u [];have p:yW (.t [1,2,3]) (.tp b [f,e,t]) [AA (.tp b [f,e,t]),AD,AD,AD]=AA [AA (.tp b [f,e,t]),AA f,AA e,AA t]:=rfl;have q:trm (.tp b [f,e,t])=(wh (1-10^40) (10^40-1) f&&(told 6 e&&ths t)):=rfl;rw[q]
   cases w:wh (1-10^40) (10^40-1) f with
   |false=>
    rw[w]at j;simp! [yl,zc,yG,yF,yK,zd,c,p,n,j,A8]
   |true=>
    rw[w]at j
    cases x:told 6 e with
    |false=>
     rw[x]at l;simp! [yl,zc,yG,yF,yK,zd,c,p,n,j,l,A2,A8]
    |true=>
     rw[x]at l;simp! [yl,zc,yG,yF,yK,zd,c,p,n,j,l,A,A2]
  .have r:yJ .ne (.int (a.length:Hw)) (.int 3)=AA (.bl AC):=by have:=zbe a.length 3;rw[Hu c]at this;exact this
   have q:trm (.tp b a)=false:=by
    unfold trm;split
    .rename_i e
     cases e
     simp at c
    .rfl
   rw[q];simp! [yl,zc,yG,yF,yK,zd,r]
 |int i=>simp! [yl,zc,yG,yF,yK,trm]
 |bl b=>simp! [yl,zc,yG,yF,yK,trm]
 |non=>simp! [yl,zc,yG,yF,yK,trm]
 |str s=>simp! [yl,zc,yG,yF,yK,trm]
 |lst a=>simp! [yl,zc,yG,yF,yK,trm]
 |loc _=>simp[tam]at g
 |exn _=>simp[tam]at g
 |fnc _=>simp[tam]at g
 |scr _=>simp[tam]at g
def zcQ(k:Ht){d m:Ht}{v:PV}(c:tam d m v=AC)(u:d<=60)(j:m<=1000)(st:SO):yc T (k+6) yje [v] st=.ok (.bl (sen v)) st:=by
 have l:T yje=AA yz:=rfl;have o:=zk d m v c;have g:yi5=.int ((20:Ht):Hw):=rfl;rw[zh l rfl rfl (by simp[nLs,nL,o])]
 cases v with
 |tp b f=>
  let#[w,y,q]:=zt.1 c;have r:yR (yc T (k+5)) [AD] (.n 0) (.cst (.bl AC)) (.call yiM (.cons (.var 0) .nil)) f []=.ok (f.map λx=>.bl (trm x)) []:=by refine zX _ λp t=>?_;have:=zf4 k (q p t) () j [];simp! [yaC,this]
  have a:=zjD f.length 20
  by_cases h:f.length<=20
  .rw[Hv h]at a;simp! [yz,zc,yG,yF,yK,zd,g,a,r];rw[zV _ (by rw[Ai];lia)];simp! [zaV,zc,sen,Hv h,A2]
  .rw[Hu h]at a;simp! [yz,zc,yG,yF,yK,zd,g,a,sen,Hu h,A8]
 |int i=>simp! [yz,zc,yG,yF,yK,sen]
 |bl b=>simp! [yz,zc,yG,yF,yK,sen]
 |non=>simp! [yz,zc,yG,yF,yK,sen]
 |str s=>simp! [yz,zc,yG,yF,yK,sen]
 |lst f=>simp! [yz,zc,yG,yF,yK,sen]
 |loc _=>simp[tam]at c
 |exn _=>simp[tam]at c
 |fnc _=>simp[tam]at c
 |scr _=>simp[tam]at c
def isI:PV->Hy
 |.int _=>AC
 |_=>AB
def zaI(k:Ht){d m:Ht}{v:PV}(a:tam d m v=AC)(st:SO):yc T (k+1) yil [v] st=.ok (.bl (isI v)) st:=by
 have b:T yil=AA yiz:=rfl;have c:=zk d m v a;rw[zh b rfl rfl (by simp[nLs,nL,c])]
 cases v with
 |loc _=>simp[tam]at a
 |exn _=>simp[tam]at a
 |fnc _=>simp[tam]at a
 |scr _=>simp[tam]at a
 |_=>simp! [yiz,zc,yG,yF,yK,isI]
def zaf(k:Ht){d m:Ht}{v:PV}(f:tam d m v=AC)(w:m<=1000)(n:Ht)(st:SO):yc T (k+2) yhL [v,.int n,.int 200] st=.ok (.bl (told n v)) st:=by
 have o:T yhL=AA yh8:=rfl;have r:=zk d m v f;rw[zh o rfl rfl (by simp[nLs,nL,r])]
 cases v with
 |tp b l=>
  let#[y,z,t]:=zt.1 f;have u:yR (yc T (k+1)) [AD,AA (.int 200)] (.n 0) (.cst (.bl AC)) (.and (.call yil (.cons (.var 0) .nil)) (.chain .le .le (.bin .sub (.cst (.int 0)) (.var 1)) (.var 0) (.var 1))) l []=.ok (l.map λx=>.bl (wh (-200) 200 x)) []:=by
   refine zX _ λp c=>?_;have c:=t p c;have g:=zaI k c [];have j:(0:Hw)-200=-200:=rfl
   cases p with
   |int i=>
    have g:yc T (k+1) yil [.int i] []=.ok (.bl AC) []:=g
    by_cases q:-200<=i
    .simp! [yaC,g,j,blO,Hv q,wh,A2]
    .simp! [yaC,g,j,blO,Hu q,wh,A8]
   |loc _=>simp[tam]at c
   |exn _=>simp[tam]at c
   |fnc _=>simp[tam]at c
   |scr _=>simp[tam]at c
   |_=>erw[isI]at g;simp! [yaC,g,wh]
  have a:=zbe l.length n
  by_cases h:l.length=n
  .rw[Hv h]at a;simp! [yh8,zc,yG,yF,yK,zd,a,u];rw[zV _ (by rw[Ai];lia)];simp! [zaV,zc,told,Hv h,A2]
  .rw[Hu h]at a;simp! [yh8,zc,yG,yF,yK,zd,a,told,Hu h,A8]
 |loc _=>simp[tam]at f
 |exn _=>simp[tam]at f
 |fnc _=>simp[tam]at f
 |scr _=>simp[tam]at f
 |_=>simp! [yh8,zc,yG,yF,yK,told]
abbrev ycN:Str:=AE "abcdefghijklmnopqrstuvwxyz"
def zkM:(En 128).all (λc=>inS #[(Hs.toArray [c])] ycN==(decide (97<=c)&&decide (c<=122)))=true:=by decide +kernel
def zk6{c:Ht}(h:c<128):inS #[(Hs.toArray [c])] ycN=(decide (97<=c)&&decide (c<=122)):=by have:=BA.mp zkM c (by simpa using h);exact eq_of_beq this
def zly(s:AQ){l:Hs Ht}(h:s.cps.toList=l):s=#[l.toArray]:=by let#[#[c]]:=s;simp at h;rw[h]
def zbH(k:Ht){d m:Ht}{v:PV}(a:tam d m v=AC)(t:m<=1000)(st:SO):yc T (k+1) yjj [v] st=.ok (.bl (ltr v)) st:=by
 have o:T yjj=AA yh9:=rfl;have p:=zk d m v a;rw[zh o rfl rfl (by simp[nLs,nL,p])]
 cases v with
 |str s=>
  erw[tam,AH,Hx]at a;have g:=zjo (s:=s) (st:=[]) ()
  by_cases j:s.cps.toList.length=1
  .obtain⟨c,f⟩:∃c,s.cps.toList=[c]:=by
    match h:s.cps.toList,j with
    |[c],_=>exact#[c,rfl]
   have q:c<128:=by have:=BA.1 a.1 c (by rw[f];simp);simpa using this
   have l:yJ .isin (.str s) (.str ycN)=AA (.bl (decide (97<=c)&&decide (c<=122))):=by rw[zly s f];exact IJ (λb=>AA (PV.bl b)) (zk6 q)
   rw[f]at g;have n:(((1:Ht):Hw)==1)=true:=rfl;simp! [yh9,zc,yG,yF,yK,g,n,l,ltr,f]
  .have n:(((s.cps.toList.length:Ht):Hw)==1)=false:=by rw[IF];lia
   have r:ltr (.str s)=false:=by
    unfold ltr;dsimp only;split
    .rename_i e;rw[e]at j;simp at j
    .rfl
   rw[r];simp! [yh9,zc,yG,yF,yK,g,n]
 |loc _=>simp[tam]at a
 |exn _=>simp[tam]at a
 |fnc _=>simp[tam]at a
 |scr _=>simp[tam]at a
 |_=>simp! [yh9,zc,yG,yF,yK,ltr]
def zdV(k:Ht){d m:Ht}{v:PV}(p:tam d m v=AC)(G:d<=60)(z:m<=1000)(st:SO):yc T (k+3) yiU [v] st=.ok (.bl (thg v)) st:=by
 have H:T yiU=AA yet:=rfl;have I:=zk d m v p;have f:yJ .eq v (.tp AB [.str yal])=AA (.bl (peq v (.tp AB [.str yal]))):=by
  have B:shp v=true:=zbb p G;have u:shp (.tp AB [.str yal])=true:=by decide +kernel
  erw[yJ];rw[Hz (by rw[B,u];rfl)]
 rw[zh H rfl rfl (by simp[nLs,nL,I])]
 cases v with
 |tp b J=>
  let#[O,B,u]:=zt.1 p
  cases J with
  |nil=>
   have f:yJ .eq (.tp b []) (.tp AB [.str yal])=AA (.bl AB):=f;have g:(((0:Ht):Hw)==4)=false:=rfl;simp! [yet,zc,yG,yF,yK,zd,f,g,thg]
  |cons x r=>
   have L:=u x A6;have j:=zoE L () yaw zmj;have n:∀st,idxV st (.tp b (x::r)) (.int 0)=AA x:=λst=>ix0;have A:peq (.tp b (x::r)) (.tp AB [.str yal])=(peq x (.str yal)&&r.isEmpty):=by cases r<;>simp[peq,yci]
   rw[A]at f
   by_cases q:(peq x (.str yal)&&r.isEmpty)=AC
   .rw[q]at f;erw[AH]at q;have t:thg (.tp b (x::r))=true:=by erw[thg,q.1,ID,q.2]
    rw[t];simp! [yet,zc,yG,yF,yK,f]
   .have q:(peq x (.str yal)&&r.isEmpty)=false:=by simpa using q
    rw[q]at f
    by_cases C:r.length=3
    .obtain⟨l,a,c,rfl⟩:∃l a c,r=[l,a,c]:=by
      match r,C with
      |[l,a,c],_=>exact#[l,a,c,rfl]
     have g:yJ .ne (.int ((4:Ht):Hw)) (.int 4)=AA (.bl AB):=rfl;have w:=zbH (k+1) (u l (by simp)) z [];have y:yc T (k+2) yhL [a,.int 4,.int 200] []=_:=zaf k (u a (by simp)) z 4 [];have M:yc T (k+2) yhL [c,.int 4,.int 200] []=_:=zaf k (u c (by simp)) z 4 []
     by_cases o:peq x (.str yaw)=AC
     .have N:peq x (.str yal)=false:=by
       cases x with
       |str s=>
        erw[peq]at o ⊢;rw[eq_of_beq o];decide +kernel
       |_=>simp[peq]at o
      have t:thg (.tp b [x,l,a,c])=(ltr l&&(told 4 a&&told 4 c)):=by erw[thg,N,o,ID,A5,IG]
      rw[t];rw[o]at j
      cases D:ltr l with
      |false=>
       rw[D]at w;simp! [yet,zc,yG,yF,yK,zd,n,f,j,g,ix1,w,A8]
      |true=>
       rw[D]at w
       cases E:told 4 a with
       |false=>
        rw[E]at y;simp! [yet,zc,yG,yF,yK,zd,n,f,j,g,ix1,ix2,ix3,w,A2,A8,y]
       |true=>
        rw[E]at y;simp! [yet,zc,yG,yF,yK,zd,n,f,j,g,ix1,ix2,ix3,w,A2,y,M]
     .have o:peq x (.str yaw)=false:=by simpa using o
      have t:thg (.tp b [x,l,a,c])=false:=by erw[thg,o,A5,IG,ET];split<;>rfl
      rw[t];rw[o]at j;simp! [yet,zc,yG,yF,yK,zd,n,f,j,g]
    .have g:yJ .ne (.int ((r.length+1:Ht):Hw)) (.int 4)=AA (.bl AC):=by have:=zbe (r.length+1) 4;rw[Hu ()]at this;exact this
     have t:thg (.tp b (x::r))=false:=by
      erw[thg];split
      .rename_i e;rw[e,A2]at q;exact q
      .split
       .split
        .simp at C
        .rfl
       .rfl
     rw[t];simp! [yet,zc,yG,yF,yK,zd,f,g]
 |loc _=>simp[tam]at p
 |exn _=>simp[tam]at p
 |fnc _=>simp[tam]at p
 |scr _=>simp[tam]at p
 |_=>erw[peq]at f;simp! [yet,zc,yG,yF,yK,f,thg]
def ycd:Css:=match yu.body with
 |.cons _ (.cons (.for _ _ b) _)=>b
 |_=>.nil
def zhq(a b:Ht):yJ .gt (.int a) (.int b)=AA (.bl (decide (b<a))):=by
 rw[c_gt]
 by_cases h:b<a
 .rw[Hv h,Hv ()]
 .rw[Hu h,Hu ()]
def zjg(k:Ht){d m:Ht}{v p0:PV}(A:tam d m v=AC)(N:d<=60)(E:m<=1000):exs (yc T (k+3)) [AA p0,AA v] [] ycd=if trm v then .nx [AA p0,AA v] []else .rt (.bl AB) []:=by
 cases v with
 |tp b y=>
  let#[O,Q,w]:=zt.1 A
  by_cases B:y.length=3
  .obtain⟨f,e,t,rfl⟩:∃f e t,y=[f,e,t]:=by
    match y,B with
    |[f,e,t],_=>exact#[f,e,t,rfl]
   have a:yJ .ne (.int ((3:Ht):Hw)) (.int 3)=AA (.bl AB):=rfl;have r:yc T (k+3) yhL [e,.int 6,.int 200] []=_:=zaf (k+1) (w e (by simp)) E 6 [];have u:=zaI (k+2) (w f (by simp)) [];have l:yO .pow (.int 10) (.int 40)=AA (.int (10^40)):=rfl;have C:trm (.tp b [f,e,t])=(wh (1-10^40) (10^40-1) f&&(told 6 e&&ths t)):=rfl;rw[C]
   cases G:told 6 e with
   |false=>
    rw[G]at r;have:(if (wh (1-10^40) (10^40-1) f&&(AB&&ths t))=AC then Fl.nx [AA p0,AA (.tp b [f,e,t])] []else .rt (.bl AB) [])=.rt (.bl AB) []:=by simp
    rw[this];simp! [ycd,yu,yG,yF,yK,zd,a,ix1,r]
   |true=>
    rw[G]at r;have I:∀i,f=.int i->yX .abs [] [f]=AA (.int (if i<0 then -i else i)):=λi e=>by rw[e];rfl
    cases f with
    |int i=>
     have u:yc T (k+3) yil [.int i] []=.ok (.bl AC) []:=u;have o:yX .abs [] [.int i]=AA (.int (if i<0 then -i else i)):=rfl
     by_cases q:(10^40:Hw)<=(if i<0 then -i else i)
     .have D:wh (1-10^40) (10^40-1) (.int i)=false:=by
       erw[wh];split at q
       .rw[Hu (),A8]
       .rw[Hu (show ¬i<=10^40-1 by lia),DQ]
      rw[D];simp! [ycd,yu,yG,yF,yK,zd,a,ix1,r,ix0,u,o,l,Hv q,A8,A5,IG]
     .have D:wh (1-10^40) (10^40-1) (.int i)=true:=by
       erw[wh];split at q
       .rw[Hv (),Hv ()];rfl
       .rw[Hv (),Hv ()];rfl
      rw[D];have g:=w t (by simp)
      cases t with
      |tp H j=>
       let#[U,X,J]:=zt.1 g;have L:yR (yc T (k+3)) [AD] (.n 0) (.cst (.bl AC)) (.call yiU (.cons (.var 0) .nil)) j []=.ok (j.map λx=>.bl (thg x)) []:=by refine zX _ λp M=>?_;have:=zdV k (J p M) () E [];simp! [yaC,this]
       have c:=zhq j.length 2;have c:yJ .gt (.int (j.length:Hw)) (.int 2)=AA (.bl (decide (2<j.length))):=c
       by_cases h:j.length<=2
       .rw[Hu ()]at c;have:ths (.tp H j)=j.all thg:=by simp[ths,h]
        rw[this];simp! [ycd,yu,yG,yF,yK,zd,a,ix1,r,ix0,u,o,l,Hu q,ix2,c,L];rw[zV _ (by rw[Ai];lia)];simp! [zaV,A2]
        cases j.all thg<;>rfl
       .rw[Hv ()]at c;have:ths (.tp H j)=false:=by simp[ths,h]
        rw[this];simp! [ycd,yu,yG,yF,yK,zd,a,ix1,r,ix0,u,o,l,Hu q,ix2,c,DQ,A5,IG]
      |loc _=>simp[tam]at g
      |exn _=>simp[tam]at g
      |fnc _=>simp[tam]at g
      |scr _=>simp[tam]at g
      |_=>simp! [ycd,yu,yG,yF,yK,zd,a,ix1,r,ix0,u,o,l,Hu q,ix2,ths,DQ,A5,IG]
    |loc z=>have:=w (.loc z) (by simp);simp[tam]at this
    |exn z=>have:=w (.exn z) (by simp);simp[tam]at this
    |fnc z=>have:=w (.fnc z) (by simp);simp[tam]at this
    |scr z=>have:=w (.scr z) (by simp);simp[tam]at this
    |_=>erw[isI]at u;simp! [ycd,yu,yG,yF,yK,zd,a,ix1,r,ix0,u,wh,A8,A5,IG]
  .have a:yJ .ne (.int (y.length:Hw)) (.int 3)=AA (.bl AC):=by have:=zbe y.length 3;rw[Hu B]at this;exact this
   have C:trm (.tp b y)=false:=by
    unfold trm;split
    .rename_i e
     cases e
     simp at B
    .rfl
   rw[C];simp! [ycd,yu,yG,yF,yK,zd,a,A5,IG]
 |loc _=>simp[tam]at A
 |exn _=>simp[tam]at A
 |fnc _=>simp[tam]at A
 |scr _=>simp[tam]at A
 |_=>simp! [ycd,yu,yG,yF,yK,trm,A5,IG]
def zfj(k:Ht){d m:Ht}{p0:PV}(b:d<=60)(c:m<=1000):∀(xs:Hs PV) (u:Option PV),(∀x∈xs,tam d m x=AC) ->
  ∃a,yaT (yc T (k+3)) (.n 1) ycd xs [AA p0,u] []=if xs.all trm then .nx [AA p0,a] []else .rt (.bl AB) []
 |[],u,_=>#[u,by rw[zO];rfl]
 |x::xs,u,h=>by
  let#[a,e]:=zfj k b c xs (AA x) λy f=>h y (AT _ f);refine#[a,?_];rw[zr (Y1:=[AA p0,AA x]) rfl,zjg k (h x A6) b c]
  cases q:trm x with
  |true=>
   erw[ID,yaF,An,q,A2];exact e
  |false=>
   erw[A5,IG,yaF,An,q,A8]
def zfY(k:Ht){d m:Ht}{v:PV}(g:tam d m v=AC)(u:d<=60)(l:m<=1000)(st:SO):yc T (k+4) yjl [v] st=.ok (.bl (sen v)) st:=by
 have n:T yjl=AA #[1,2,AC,yu.body]:=rfl;have o:=zk d m v g
 have p:yu.body=(match yu.body with
  |.cons a (.cons (.for t i _) r)=>.cons a (.cons (.for t i ycd) r)
  |_=>.nil):=rfl
 rw[zh n rfl rfl (by simp[nLs,nL,o])];dsimp only;rw[p]
 cases v with
 |tp b c=>
  let#[w,x,q]:=zt.1 g;have f:yJ .gt (.int (c.length:Hw)) (.int 20)=AA (.bl (decide (20<c.length))):=zhq c.length 20
  by_cases h:c.length<=20
  .rw[Hu ()]at f;let#[y,e]:=zfj k (p0:=.tp b c) (d:=d-1) () l c AD q;have j:sen (.tp b c)=c.all trm:=by simp[sen,h]
   rw[j];simp! [yu,yG,yF,yK,zd,f,e]
   cases c.all trm<;>rfl
  .rw[Hv ()]at f;have j:sen (.tp b c)=false:=by simp[sen,h]
   rw[j];simp! [yu,zc,yG,yF,yK,zd,f]
 |loc _=>simp[tam]at g
 |exn _=>simp[tam]at g
 |fnc _=>simp[tam]at g
 |scr _=>simp[tam]at g
 |_=>simp! [yu,zc,yG,yF,yK,sen]
def zal{A:Type}{i:Hw}{k:Option Hw->R A}:onP (yb9 (.int i)) k=k (AA i):=rfl
def za7{A:Type}{k:Option Hw->R A}:onP (yb9 .non) k=k none:=rfl
def zfb{n:Ht}{i:Hw}(a:0<=i)(b:i<n):ixI n i=AA i.toNat:=by simp[ixI,a,b]
def zeJ{st:SO}{xs:Hs PV}{i:Hw}(b:0<=i)(c:i<xs.length):∃x,x∈xs/\idxV st (.lst xs) (.int i)=AA x:=by
 have a:i.toNat<xs.length:=by lia
 refine#[xs[i.toNat],Ek a,?_];erw[idxV,yaQ,at?,zfb b c,Az];exact CY a
def zc7{k:Hy}{xs:Hs PV}{i:Hw}(b:0<=i)(c:i<xs.length):∃x,x∈xs/\∀st,idxV st (.tp k xs) (.int i)=AA x:=by
 have a:i.toNat<xs.length:=by lia
 refine#[xs[i.toNat],Ek a,λst=>?_];erw[idxV,yaQ,at?,zfb b c,Az];exact CY a
def zdI{c d m:Ht}(h:c<128)(a:1<=m):tam d m (.str #[(Hs.toArray [c])])=true:=by simp[tam,h];lia
def zkf:ycN.cps.toList.length=26:=by decide +kernel
def zcd{x:PV}{o:Option Hw}{i:Hw}:ycl x o (.int i)=ybh x o (AA i):=rfl
def zdd{x:PV}{o:Option Hw}:ycl x o .non=ybh x o none:=rfl
abbrev yaS:Str:=AE "figure"
abbrev yac:Str:=AE "times"
def plS(b:Hy)(a:PV):Hy:=match b with
 |true=>told 4 a
 |false=>wh 0 99 a
def yaI(b:Hy):PV->Hy
 |.tp _ [l,a]=>ltr l&&plS b a
 |_=>AB
def yb0:PV->Hy
 |.tp _ [l,_]=>ltr l
 |_=>AB
def ycO:PV->Hy
 |.tp _ (.str s::_)=>(yab s yb).isSome
 |_=>AB
def opS(a:Hy)(k x:PV):Hy:=if peq k (.str yaS)then wh 0 1 x else yaI a x
def prS(a:Hy):PV->Hy
 |.tp _ [k,x]=>opS a k x
 |_=>AB
def unl:Hs PV->Hy
 |a::b::_=>!peq a b
 |_=>AC
def yat(b:Hy):PV->Hy
 |.tp _ (.str s::r)=>match yab s yb with
  |some (.tp _ a)=>decide (r.length=a.length)&&((yag a r).all (prS b)&&(!decide (s=yac) || unl r))
  |_=>AB
 |_=>AB
def zct(k:Ht){d m:Ht}{v:PV}(c:tam d m v=AC)(j:m<=1000)(st:SO):yc T (k+2) yjd [v] st=.ok (.bl (yb0 v)) st:=by
 have n:T yjd=AA y7:=rfl;have o:=zk d m v c;rw[zh n rfl rfl (by simp[nLs,nL,o])]
 cases v with
 |tp b f=>
  let#[t,u,p]:=zt.1 c
  by_cases h:f.length=2
  .obtain⟨l,a,rfl⟩:∃l a,f=[l,a]:=by
    match f,h with
    |[l,a],_=>exact#[l,a,rfl]
   have g:yJ .eq (.int ((2:Ht):Hw)) (.int 2)=AA (.bl AC):=rfl;have q:=zb8 k (p l (by simp)) j [];simp! [y7,zc,yG,yF,yK,zd,g,ix0,q,yb0]
  .have g:yJ .eq (.int (f.length:Hw)) (.int 2)=AA (.bl AB):=by have:=zbf f.length 2;rw[Hu h]at this;exact this
   have r:yb0 (.tp b f)=false:=by
    unfold yb0;split
    .rename_i e;cases e;simp at h
    .rfl
   rw[r];simp! [y7,zc,yG,yF,yK,zd,g]
 |loc _=>simp[tam]at c
 |exn _=>simp[tam]at c
 |fnc _=>simp[tam]at c
 |scr _=>simp[tam]at c
 |_=>simp! [y7,zc,yG,yF,yK,yb0]
def zcD(k:Ht){d m:Ht}{v:PV}(f:tam d m v=AC)(o:m<=1000)(st:SO):yc T (k+3) yjc [v] st=.ok (.bl (yaI AC v)) st:=by
 have q:T yjc=AA y6:=rfl;have r:=zk d m v f;have c:=zct k f o [];rw[zh q rfl rfl (by simp[nLs,nL,r])]
 by_cases g:∃b l a,v=.tp b [l,a]
 .let#[b,l,a,rfl]:=g;let#[w,p,j]:=zt.1 f;have t:yc T (k+2) ygK [a,.int 4] []=.ok (.bl (told 4 a)) []:=zaA k (j a (by simp)) o 4 [];have u:yaI AC (.tp b [l,a])=(ltr l&&told 4 a):=rfl;rw[u];have n:yb0 (.tp b [l,a])=ltr l:=rfl;rw[n]at c
  cases e:ltr l with
  |false=>
   rw[e]at c;simp! [y6,zc,c,A8]
  |true=>
   rw[e]at c;simp! [y6,zc,c,ix1,t,A2]
 .have p:yb0 v=false:=by
   unfold yb0;split
   .rename_i b l a;exact IB #[b,l,a,rfl] g
   .rfl
  have j:yaI AC v=false:=by
   unfold yaI;split
   .rename_i b l a;exact IB #[b,l,a,rfl] g
   .rfl
  rw[p]at c;rw[j];simp! [y6,zc,c]
def zf0(k:Ht){d m:Ht}{v:PV}(f:tam d m v=AC)(p:m<=1000)(st:SO):yc T (k+3) yjb [v] st=.ok (.bl (yaI AB v)) st:=by
 have q:T yjb=AA yh7:=rfl;have r:=zk d m v f;have c:=zct k f p [];rw[zh q rfl rfl (by simp[nLs,nL,r])]
 by_cases g:∃b l a,v=.tp b [l,a]
 .let#[b,l,a,rfl]:=g;let#[w,o,j]:=zt.1 f;have t:yc T (k+2) yiC [a,.int 0,.int 99] []=.ok (.bl (wh 0 99 a)) []:=zaU (k+1) (j a (by simp)) 0 99 [];have u:yaI AB (.tp b [l,a])=(ltr l&&wh 0 99 a):=rfl;rw[u];have n:yb0 (.tp b [l,a])=ltr l:=rfl;rw[n]at c
  cases e:ltr l with
  |false=>
   rw[e]at c;simp! [yh7,zc,c,A8]
  |true=>
   rw[e]at c;simp! [yh7,zc,c,ix1,t,A2]
 .have o:yb0 v=false:=by
   unfold yb0;split
   .rename_i b l a;exact IB #[b,l,a,rfl] g
   .rfl
  have j:yaI AB v=false:=by
   unfold yaI;split
   .rename_i b l a;exact IB #[b,l,a,rfl] g
   .rfl
  rw[o]at c;rw[j];simp! [yh7,zc,c]
def znJ:yaS.cps.all (· < 0x110000)=true:=by decide +kernel
def zfC:yac.cps.all (· < 0x110000)=true:=by decide +kernel
def zdo(k:Ht)(f:Hy){d m d' n:Ht}{v a:PV}(b:tam d m v=AC)(o:m<=1000)(p:tam d' n a=AC)(q:d'<=60)(st:SO):yc T (k+4) yja [a,v,.bl f] st=.ok (.bl (opS f a v)) st:=by
 have r:T yja=AA yig:=rfl;have t:=zk d m v b;have g:=zk d' n a p;have c:=zoA p q yaS znJ;have u:=zaU (k+2) b 0 1 [];have j:=zcD k b o [];have l:=zf0 k b o [];rw[zh r rfl rfl (by simp[nLs,nL,t,g])];unfold opS
 cases e:peq a (.str yaS)with
 |true=>
  rw[e]at c;simp! [yig,zc,c,u]
 |false=>
  rw[e]at c
  cases f<;>simp! [yig,zc,c,j,l,A5,IG]
def ziw:∀p∈yb,∃a,p.2=.tp AC a/\a.length<=4/\1<=a.length/\∀x∈a,tam 1 10 x=true:=by intro p c;erw[yb,AM,AN,IE]at c;rcases c with rfl|rfl|rfl|rfl|rfl|rfl|rfl|rfl|rfl|rfl|rfl|rfl|rfl<;>refine#[_,rfl,by simp,by simp,λx b=>?_]<;>erw[AM,AN,IE]at b<;>(repeat' rcases b with rfl|b)<;>first|(subst b;decide +kernel)|decide +kernel
def zd9{s:AQ}{v:PV}:∀{D:Hs (AQ×PV)},yab s D=AA v->(s,v)∈D
 |[],h=>by cases h
 |(a,b)::r,h=>by
  rw[yab]at h
  by_cases e:a=s
  .rw[Hz (by simpa using e)]at h
   cases h
   rw[e];exact A6
  .rw[IA (by simpa using e)]at h;exact AT _ (zd9 h)
def zfA{s:AQ}{v:PV}(h:yab s yb=AA v):∃a,v=.tp AC a/\a.length<=4/\1<=a.length/\∀x∈a,tam 1 10 x=true:=ziw _ (zd9 h)
def zev(k:Ht){d m:Ht}{v:PV}(a:tam d m v=AC)(st:SO):yc T (k+1) yiD [v] st=.ok (.bl (ycO v)) st:=by
 have g:T yiD=AA ygr:=rfl;have j:=zk d m v a;rw[zh g rfl rfl (by simp[nLs,nL,j])]
 cases v with
 |tp b l=>
  cases l with
  |nil=>
   have c:yJ .gt (.int (([]:Hs PV).length:Hw)) (.int 0)=AA (.bl AB):=rfl;simp! [ygr,zc,yG,yF,yK,zd,c,ycO];rfl
  |cons x r=>
   let#[_,_,n]:=zt.1 a;have f:=n x (by simp);have c:decide ((0:Hw)<((r.length+1:Ht):Hw))=true:=Hv ()
   cases x with
   |str s=>simp! [ygr,zc,yG,yF,yK,zd,c,ix0,IC.ve29,yfw,ycO]
   |loc _=>simp[tam]at f
   |exn _=>simp[tam]at f
   |fnc _=>simp[tam]at f
   |scr _=>simp[tam]at f
   |_=>simp! [ygr,zc,yG,yF,yK,zd,c,ix0,ycO]
 |loc _=>simp[tam]at a
 |exn _=>simp[tam]at a
 |fnc _=>simp[tam]at a
 |scr _=>simp[tam]at a
 |_=>simp! [ygr,zc,yG,yF,yK,ycO]
def ydp:Css:=match yN.body with
 |.cons _ (.cons (.for _ _ b) _)=>b
 |_=>.nil
def zfo(k:Ht)(a:Hy){d m:Ht}{p0:Option PV}(o:m<=1000):∀(c r:Hs PV) (u w:Option PV),(∀x∈c,tam 1 10 x=AC)->(∀x∈r,tam d m x=AC) ->
  ∃g j,yaT (yc T (k+4)) (.t [2,3]) ydp (yag c r) [p0,AA (.bl a),u,w] []=if (yag c r).all (prS a)then .nx [p0,AA (.bl a),g,j] []else .rt (.bl AB) []
 |[],r,u,w,_,_=>#[u,w,by erw[yag,CU,ID];rw[zO]]
 |b::c,[],u,w,_,_=>#[u,w,by erw[yag,CU,ID];rw[zO]]
 |b::c,x::r,u,w,p,z=>by
  let#[g,j,e]:=zfo k a (p0:=p0) o c r (AA b) (AA x) (λy l=>p y (AT _ l)) λy l=>z y (AT _ l);refine#[g,j,?_];have f:=zdo k a (z x A6) o (p b A6) () [];have A:prS a (.tup [b,x])=opS a b x:=rfl;have n:exs (yc T (k+4)) [p0,AA (.bl a),AA b,AA x] [] ydp=if opS a b x then .nx [p0,AA (.bl a),AA b,AA x] []else .rt (.bl AB) []:=by
   cases q:opS a b x with
   |true=>rw[q]at f;simp! [ydp,yN,f]
   |false=>rw[q]at f;simp! [ydp,yN,f,A5,IG]
  rw[yag,zr (Y1:=[p0,AA (.bl a),AA b,AA x]) rfl,n,An,A]
  cases q:opS a b x with
  |true=>erw[ID,yaF,A2];exact e
  |false=>erw[A5,IG,yaF,A8]
def zoJ{b:Hy}{x:PV}{r:Hs PV}:ycl (.tp b (x::r)) (AA 1) .non=AA (.tp AB r):=by
 have h:ybk (r.length+1) 1=1:=by show min 1 (r.length+1)=1;lia
 erw[ycl,yb9,ybh,ycP,yct,AV,h];rw[IA ()];simp[cut,ycP,yct,h]
def znN{d m d' b:Ht}{v w:PV}(c:tam d m v=AC)(f:d<=60)(g:tam d' b w=AC)(a:d'<=60):yJ .ne v w=AA (.bl (!peq v w)):=by have j:shp v=true:=zbb c f;have l:shp w=true:=zbb g a;erw[yJ];rw[Hz (by rw[j,l];rfl)]
def z7(a b:AQ):peq (.str a) (.str b)=decide (a=b):=by erw[peq];rw[DE];simp
def zhK:yab yac yb=AA (.tp AC [.str "cell",.str "cell",.str "cell",.str "cell"]):=by ac_rfl
def zcJ(k:Ht)(p:Hy){d m:Ht}{v:PV}(C:tam d m v=AC)(hd:d<=60)(M:m<=1000)(st:SO):yc T (k+5) yi9 [v,.bl p] st=.ok (.bl (yat p v)) st:=by
 have N:T yi9=AA #[2,4,AC,yN.body]:=rfl;have O:=zk d m v C;have l:=zev (k+3) C []
 have Q:yN.body=(match yN.body with
  |.cons a (.cons (.for t i _) r)=>.cons a (.cons (.for t i ydp) r)
  |_=>.nil):=rfl
 rw[zh N rfl rfl (by simp[nLs,nL,O])];dsimp only;rw[Q]
 by_cases y:∃b s r,v=.tp b (.str s::r)/\(yab s yb).isSome=AC
 .let#[b,s,r,rfl,J]:=y;let#[h0,L,w]:=zt.1 C;let#[kv,j]:=Aj.1 J;let#[f,rfl,U,X,D]:=zfA j;have l:yc T (k+4) yiD [.tp b (.str s::r)] []=.ok (.bl AC) []:=by rw[l];erw[ycO,J]
  have z:yat p (.tp b (.str s::r))=(decide (r.length=f.length)&&((yag f r).all (prS p)&&(!decide (s=yac) || unl r))):=by erw[yat,j]
  rw[z];have n:∀st,toR (yec yb (.str s)) st=.ok (.tp AC f) st:=λst=>by erw[yec,j,toR]
  have g:yJ .ne (.int ((r.length+1:Ht):Hw)) (.int ((f.length:Hw)+1))=AA (.bl (!decide (r.length=f.length))):=by have:=zbe (r.length+1) (f.length+1);rw[show decide (r.length+1=f.length+1)=decide (r.length=f.length)from IK.mpr ()]at this;exact this
  by_cases B:r.length=f.length
  .rw[Hv B]at g ⊢;let#[u',w',e]:=zfo k p (p0:=AA (.tp b (.str s::r))) (d:=d-1) M f r AD AD D (λx y=>w x (AT _ y));have E:yey (.tp AC f) (.tp AB r)=AA (yag f r):=by erw[yey];rw[Hz ()]
   have A:=zoE (w (.str s) A6) () yac zfC;rw[z7]at A
   cases o:(yag f r).all (prS p)with
   |false=>
    rw[o]at e;simp! [yN,l,zd,ix0,IC.ve28,n,g,zal,zoJ,E,e,A5,IG,A2,A8,zc]
   |true=>
    rw[o]at e
    by_cases u:s=yac
    .subst u;have Y:f.length=4:=by rw[zhK]at j;cases j;rfl
     obtain⟨a,c,G,H,Z,ha,hc⟩:∃a c,(∀st,idxV st (.tp b (.str yac::r)) (.int 1)=AA a)/\(∀st,idxV st (.tp b (.str yac::r)) (.int 2)=AA c)/\unl r=!peq a c/\a∈r/\c∈r:=by
      rw[Y]at B
      match r,B with
      |a::c::r',_=>exact#[a,c,λst=>ix1,λst=>ix2,rfl,by simp,by simp]
     have I:=znN (w a (AT _ ha)) () (w c (AT _ hc)) ();rw[Hv rfl]at A;simp! [yN,l,zd,ix0,G,H,IC.ve28,n,g,zal,zoJ,E,e,A2,zc,A,I,Z,IS,E2]
    .rw[Hu u]at A;simp! [yN,l,zd,ix0,IC.ve28,n,g,zal,zoJ,E,e,A2,zc,A,Hu u,Cr]
  .rw[Hu B]at g ⊢;simp! [yN,l,zd,ix0,IC.ve28,n,g,A8,zc]
 .have L:ycO v=false:=by
   unfold ycO;split
   .rename_i b s r
    cases q:(yab s yb).isSome with
    |false=>rfl
    |true=>exact IB #[b,s,r,rfl,q] y
   .rfl
  have w:yat p v=false:=by
   unfold yat;split
   .rename_i b s r;split
    .rename_i f q;exact IB #[b,s,r,rfl,by rw[q];rfl] y
    .rfl
   .rfl
  have l:yc T (k+4) yiD [v] []=.ok (.bl AB) []:=by rw[l,L]
  rw[w];simp! [yN,l,zc]
def zcR(k:Ht){d m:Ht}{v:PV}(a:tam d m v=AC)(b:d<=60)(c:m<=1000)(st:SO):yc T (k+6) yi8 [v] st=.ok (.bl (yat AC v)) st:=by have f:T yi8=AA yis:=rfl;have g:=zk d m v a;have j:=zcJ k AC a b c [];rw[zh f rfl rfl (by simp[nLs,nL,g])];simp! [yis,j,zc]
def zgy(k:Ht){d m:Ht}{v:PV}(a:tam d m v=AC)(b:d<=60)(c:m<=1000)(st:SO):yc T (k+6) yeN [v] st=.ok (.bl (yat AB v)) st:=by have f:T yeN=AA yir:=rfl;have g:=zk d m v a;have j:=zcJ k AB a b c [];rw[zh f rfl rfl (by simp[nLs,nL,g])];simp! [yir,j,zc]
def zcw(k:Ht){d m:Ht}{v:PV}(c:tam d m v=AC)(n:m<=1000)(st:SO):yc T (k+3) yiT [v] st=.ok (.bl (yaI AC v)) st:=by
 have p:T yiT=AA yY:=rfl;have q:=zk d m v c;rw[zh p rfl rfl (by simp[nLs,nL,q])]
 cases v with
 |tp b f=>
  let#[w,x,o]:=zt.1 c
  by_cases h:f.length=2
  .obtain⟨l,a,rfl⟩:∃l a,f=[l,a]:=by
    match f,h with
    |[l,a],_=>exact#[l,a,rfl]
   have g:yJ .eq (.int ((2:Ht):Hw)) (.int 2)=AA (.bl AC):=rfl;have j:=zbH (k+1) (o l (by simp)) n [];have r:yc T (k+2) yhL [a,.int 4,.int 200] []=.ok (.bl (told 4 a)) []:=zaf k (o a (by simp)) n 4 [];have t:yaI AC (.tp b [l,a])=(ltr l&&told 4 a):=rfl;rw[t]
   cases e:ltr l with
   |false=>
    rw[e]at j;simp! [yY,zc,yG,yF,yK,zd,g,ix0,j,A8]
   |true=>
    rw[e]at j;simp! [yY,zc,yG,yF,yK,zd,g,ix0,ix1,j,r,A2]
  .have g:yJ .eq (.int (f.length:Hw)) (.int 2)=AA (.bl AB):=by have:=zbf f.length 2;rw[Hu h]at this;exact this
   have u:yaI AC (.tp b f)=false:=by
    unfold yaI;split
    .rename_i e;cases e;simp at h
    .rfl
   rw[u];simp! [yY,zc,yG,yF,yK,zd,g]
 |loc _=>simp[tam]at c
 |exn _=>simp[tam]at c
 |fnc _=>simp[tam]at c
 |scr _=>simp[tam]at c
 |_=>simp! [yY,zc,yG,yF,yK,yaI]
def ycc:Hs (PV×PV):=[(.str "move",.int 3),(.str "bare",.int 3),(.str "twice",.int 3),(.str "half",.int 3),(.str "sum",.int 4),(.str "less",.int 4),(.str "both",.int 4),(.str "any",.int 4),(.str "odd",.int 4)]
def ybf:Hs (PV×PV):=ycc++[(.str "times",.int 5)]
def newE:Ce:=match yd.body with
 |.cons _ (.cons _ (.cons _ (.cons _ (.cons (.asg _ e) _))))=>e
 |_=>.nope
def znH{call:Cl}{Y:IC.Env}:ev call Y [] newE=.ok (.loc 0) [.dct AB ycc]:=by ac_rfl
def znm:ybJ [.dct AB ycc] (.loc 0) (.str "times") (.int 5)=AA [.dct AB ybf]:=by ac_rfl
def yc7(s:AQ):Hw:=match look (.str s) ybf with
 |some (.int i)=>i
 |_=>0
def ziy:∀p∈ybf,∃i,p.2=.int i:=by intro p a;erw[ybf,ycc,BD,BG,AM,AN,IE]at a;rcases a with rfl|rfl|rfl|rfl|rfl|rfl|rfl|rfl|rfl|rfl<;>exact#[_,rfl]
def zfB{k v:PV}:∀{D:Hs (PV×PV)},look k D=AA v->∃p∈D,p.2=v
 |[],h=>by cases h
 |(a,b)::r,h=>by
  rw[look]at h
  by_cases e:peq a k=AC
  .rw[Hz e]at h;exact#[(a,b),A6,Ac h]
  .rw[IA e]at h;let#[p,c,q]:=zfB h;exact#[p,AT _ c,q]
def zeV(s:AQ):yd2 [.dct AB ybf] (.loc 0) (.str s) (.int 0)=.ok (.int (yc7 s)) [.dct AB ybf]:=by
 have a:isKey AB (.str s)=true:=rfl;have b:ybm [.dct AB ybf] (.loc 0)=AA (AB,ybf):=rfl;erw[yd2,b,a,ID,yc7]
 cases q:look (.str s) ybf with
 |none=>rfl
 |some v=>
  let#[p,c,e]:=zfB q;let#[i,d]:=ziy p c;rw[d]at e;subst e;rfl
abbrev yaz:PV:=.str "cell"
theorem cls(s:AQ)(p:s≠AE "mark")(q:s≠AE "ask")(r:s≠AE "set"):
  (yab s yb=AD/\yc7 s=0) \/ ∃n,2<=n/\n<=4/\yab s yb=AA (.tp AC (AL n yaz))/\yc7 s=((n+1:Ht):Hw):=by
 by_cases a:s=AE "move"
 .subst a;exact .inr #[2,by lia,by lia,by ac_rfl,by ac_rfl]
 by_cases b:s=AE "bare"
 .subst b;exact .inr #[2,by lia,by lia,by ac_rfl,by ac_rfl]
 by_cases d:s=AE "twice"
 .subst d;exact .inr #[2,by lia,by lia,by ac_rfl,by ac_rfl]
 by_cases f:s=AE "half"
 .subst f;exact .inr #[2,by lia,by lia,by ac_rfl,by ac_rfl]
 by_cases g:s=AE "times"
 .subst g;exact .inr #[4,by lia,by lia,by ac_rfl,by ac_rfl]
 by_cases j:s=AE "sum"
 .subst j;exact .inr #[3,by lia,by lia,by ac_rfl,by ac_rfl]
 by_cases l:s=AE "less"
 .subst l;exact .inr #[3,by lia,by lia,by ac_rfl,by ac_rfl]
 by_cases m:s=AE "both"
 .subst m;exact .inr #[3,by lia,by lia,by ac_rfl,by ac_rfl]
 by_cases a9:s=AE "any"
 .subst a9;exact .inr #[3,by lia,by lia,by ac_rfl,by ac_rfl]
 by_cases o:s=AE "odd"
 .subst o;exact .inr #[3,by lia,by lia,by ac_rfl,by ac_rfl]
 have c:∀{x:AQ},¬s=x->¬x=s:=λh e=>h e.symm;refine .inl #[?_,?_]
 .simp only[yb,yab,Hx,c p,c q,c r,c a,c b,c d,c f,c g,c j,c l,c m,c a9,c o,IG]
 .simp only[yc7,ybf,ycc,BD,BG,look,z7,Hx,c a,c b,c d,c f,c g,c j,c l,c m,c a9,c o,IG]
def zcx:∀(n:Ht) (r:Hs PV),r.length=n->(yag (AL n yaz) r).all (prS AC)=r.all (yaI AC)
 |0,[],_=>rfl
 |n+1,x::r,h=>by
  have a:prS AC (.tup [yaz,x])=yaI AC x:=by
   have:peq yaz (.str yaS)=false:=by rw[z7];decide +kernel
   erw[prS,opS,this,A5,IG]
  rw[Al,yag,An,An,a,zcx n r (by simpa using h)]
 |0,_::_,h=>by simp at h
 |n+1,[],h=>by simp at h
def zo2{d m:Ht}{v:PV}(a:tam d m v=AC):(isI v=AC->yJ .isin v (.tp AB [.int 0,.int 1])=AA (.bl (wh 0 1 v)))/\(isI v=AB->wh 0 1 v=AB):=by
 cases v with
 |int i=>
  refine#[λ_=>?_,λz=>(by cases z)];show AA (PV.bl (inL (.int i) [.int 0,.int 1]))=_
  congr 2
  erw[inL,peq,wh,Fe];rw[DE];simp;lia
 |_=>exact#[λz=>(by cases z),λ_=>rfl]
def zh8(a b:Ht):yJ .lt (.int a) (.int b)=AA (.bl (decide (a<b))):=by
 rw[c_lt]
 by_cases h:a<b
 .rw[Hv h,Hv ()]
 .rw[Hu h,Hu ()]
def yee:Css:=match yd.body with | .cons _ r=>r|x=>x
def ydz:Css:=match yee with | .cons _ r=>r|x=>x
def ydv:Css:=match ydz with | .cons _ r=>r|x=>x
def ydf:Css:=match ydv with | .cons _ r=>r|x=>x
def yeq:Css:=match ydf with | .cons _ (.cons _ r)=>r|x=>x
def yen:Css:=match yeq with | .cons _ r=>r|x=>x
def zo3:yd.body=(match yd.body with | .cons a _=>.cons a yee|x=>x):=rfl
def zps:yee=(match yd.body with | .cons _ (.cons a _)=>.cons a ydz|x=>x):=rfl
def zpt:ydz=(match yd.body with | .cons _ (.cons _ (.cons a _))=>.cons a ydv|x=>x):=rfl
def zpu:ydv=(match yd.body with | .cons _ (.cons _ (.cons _ (.cons a _)))=>.cons a ydf|x=>x):=rfl
def zpv:ydf=(match yd.body with | .cons _ (.cons _ (.cons _ (.cons _ (.cons (.asg t _) (.cons b _)))))=>.cons (.asg t newE) (.cons b yeq)|x=>x):=rfl
def zpw:yeq=(match yd.body with | .cons _ (.cons _ (.cons _ (.cons _ (.cons _ (.cons _ (.cons a _))))))=>.cons a yen|x=>x):=rfl
def zpx:yen=(match yd.body with | .cons _ (.cons _ (.cons _ (.cons _ (.cons _ (.cons _ (.cons _ a))))))=>a|x=>x):=rfl
def zfX(k:Ht){d m:Ht}{v:PV}(I:tam d m v=AC)(hd:d<=60)(hm:m<=1000)(st:SO):yc T (k+4) yjk [v] st=.ok (.bl (yat AC v)) st:=by
 have hT:T yjk=AA #[1,2,AC,yd.body]:=rfl;have hn:=zk d m v I;rw[zh hT rfl rfl (by simp[nLs,nL,hn])];dsimp only;have hE:Hs.map AA [v]++AL (2-1) AD=[AA v,AD]:=rfl;rw[hE]
 by_cases hx:∃b s x r,v=.tp b (.str s::x::r)
 .let#[b,s,x,r,rfl]:=hx;let#[h0,h1,B]:=zt.1 I;have g:yJ .lt (.int ((r.length+1+1:Ht):Hw)) (.int 2)=AA (.bl AB):=by have:=zh8 (r.length+1+1) 2;rw[Hu ()]at this;exact this
  have em:=zoA (B (.str s) A6) () (AE "mark") (by decide +kernel);have O:=zoA (B (.str s) A6) () (AE "ask") (by decide +kernel);have E:=zoA (B (.str s) A6) () (AE "set") (by decide +kernel);rw[z7]at em O E;have C:=B x (by simp);have Q:=zcw k C hm [];have Z:=zaI (k+2) C [];have g0:exs (yc T (k+3)) [AA (.tp b (.str s::x::r)),AD] [] yd.body=exs (yc T (k+3)) [AA (.tp b (.str s::x::r)),AD] [] yee:=by rw[zo3];simp! [yd,yG,yF,yK,zd,g,ix0]
  rw[g0,zps]
  by_cases c1:s=AE "mark"
  .have c:yat AC (.tp b (.str s::x::r))=(decide (r.length=0)&&wh 0 1 x):=by
    subst c1;have G:yab (AE "mark") yb=AA (.tp AC [.str yaS]):=by ac_rfl
    have u:decide (AE "mark"=yac)=false:=by decide +kernel
    have J:prS AC (.tup [.str yaS,x])=wh 0 1 x:=by
     have:peq (.str yaS) (.str yaS)=true:=by rw[z7];simp
     erw[prS,opS,this,ID]
    cases r with
    |nil=>simp[yat,G,yag,J,u]
    |cons y r=>simp[yat,G]
   rw[c];rw[Hv c1]at em;have f:=zbf (r.length+1+1) 2;rw[show decide (r.length+1+1=2)=decide (r.length=0)from IK.mpr ()]at f;have f:yJ .eq (.int ((r.length+1+1:Ht):Hw)) (.int 2)=AA (.bl (decide (r.length=0))):=f;let#[L,i2]:=zo2 C
   cases q:decide (r.length=0)with
   |false=>
    rw[q]at f;simp! [yd,zc,zd,ix0,em,f,A8]
   |true=>
    rw[q]at f
    cases w:isI x with
    |false=>
     rw[w]at Z;rw[i2 w];simp! [yd,zc,zd,ix0,ix1,em,f,Z,A2]
    |true=>
     rw[w]at Z;have L:=L w;simp! [yd,zc,zd,ix0,ix1,em,f,Z,L,A2]
  .rw[Hu c1]at em;have g1:exs (yc T (k+3)) [AA (.tp b (.str s::x::r)),AD] [] (match yd.body with | .cons _ (.cons a _)=>.cons a ydz|x=>x)=exs (yc T (k+3)) [AA (.tp b (.str s::x::r)),AD] [] ydz:=by simp! [yd,ix0,em]
   rw[g1,zpt]
   by_cases c2:s=AE "ask"
   .have c:yat AC (.tp b (.str s::x::r))=(decide (r.length=0)&&yaI AC x):=by
     subst c2;have G:yab (AE "ask") yb=AA (.tp AC [yaz]):=by ac_rfl
     have u:decide (AE "ask"=yac)=false:=by decide +kernel
     have J:prS AC (.tup [yaz,x])=yaI AC x:=by
      have:peq yaz (.str yaS)=false:=by rw[z7];decide +kernel
      erw[prS,opS,this,A5,IG]
     cases r with
     |nil=>simp[yat,G,yag,J,u]
     |cons y r=>simp[yat,G]
    rw[c];rw[Hv c2]at O;have f:=zbf (r.length+1+1) 2;rw[show decide (r.length+1+1=2)=decide (r.length=0)from IK.mpr ()]at f;have f:yJ .eq (.int ((r.length+1+1:Ht):Hw)) (.int 2)=AA (.bl (decide (r.length=0))):=f
    cases q:decide (r.length=0)with
    |false=>
     rw[q]at f;simp! [yd,zc,zd,ix0,O,f,A8]
    |true=>
     rw[q]at f;simp! [yd,zc,zd,ix0,ix1,O,f,Q,A2]
   .rw[Hu c2]at O;have g2:exs (yc T (k+3)) [AA (.tp b (.str s::x::r)),AD] [] (match yd.body with | .cons _ (.cons _ (.cons a _))=>.cons a ydv|x=>x)=exs (yc T (k+3)) [AA (.tp b (.str s::x::r)),AD] [] ydv:=by simp! [yd,ix0,O]
    rw[g2,zpu]
    by_cases U:s=AE "set"
    .have J:prS AC (.tup [yaz,x])=yaI AC x:=by
      have:peq yaz (.str yaS)=false:=by rw[z7];decide +kernel
      erw[prS,opS,this,A5,IG]
     have G:yab s yb=AA (.tp AC [yaz,.str yaS]):=by subst U;ac_rfl
     have u:decide (s=yac)=false:=by subst U;decide +kernel
     rw[Hv U]at E;have f:=zbf (r.length+1+1) 3;rw[show decide (r.length+1+1=3)=decide (r.length=1)from IK.mpr ()]at f;have f:yJ .eq (.int ((r.length+1+1:Ht):Hw)) (.int 3)=AA (.bl (decide (r.length=1))):=f
     by_cases q:r.length=1
     .obtain⟨y,rfl⟩:∃y,r=[y]:=by
       match r,q with
       |[y],_=>exact#[y,rfl]
      have M:=B y (by simp);have D:=zaI (k+2) M [];let#[L,i2]:=zo2 M;have hp2:prS AC (.tup [.str yaS,y])=wh 0 1 y:=by
       have:peq (.str yaS) (.str yaS)=true:=by rw[z7];simp
       erw[prS,opS,this,ID]
      have c:yat AC (.tp b (.str s::x::[y]))=(yaI AC x&&wh 0 1 y):=by simp[yat,G,yag,J,hp2,u]
      rw[c];have f:yJ .eq (.int ((3:Ht):Hw)) (.int 3)=AA (.bl AC):=rfl;have g:yJ .lt (.int ((3:Ht):Hw)) (.int 2)=AA (.bl AB):=rfl
      cases z:yaI AC x with
      |false=>
       rw[z]at Q;simp! [yd,zc,zd,ix0,ix1,E,f,Q,A8]
      |true=>
       rw[z]at Q
       cases w:isI y with
       |false=>
        rw[w]at D;rw[i2 w];simp! [yd,zc,zd,ix0,ix1,ix2,E,f,Q,D,A2]
       |true=>
        rw[w]at D;have L:=L w;simp! [yd,zc,zd,ix0,ix1,ix2,E,f,Q,D,L,A2]
     .rw[Hu q]at f;have c:yat AC (.tp b (.str s::x::r))=false:=by erw[yat,G];rw[Hu (by simp;exact q)];rfl
      rw[c];simp! [yd,zc,zd,ix0,E,f]
    .rw[Hu U]at E;have g3:exs (yc T (k+3)) [AA (.tp b (.str s::x::r)),AD] [] (match yd.body with | .cons _ (.cons _ (.cons _ (.cons a _)))=>.cons a ydf|x=>x)=exs (yc T (k+3)) [AA (.tp b (.str s::x::r)),AD] [] ydf:=by simp! [yd,ix0,E]
     have g4:exs (yc T (k+3)) [AA (.tp b (.str s::x::r)),AD] [] ydf=exs (yc T (k+3)) [AA (.tp b (.str s::x::r)),AA (.loc 0)] [.dct AB ybf] yeq:=by rw[zpv];simp! [yd,znH,zmF,znm,za3]
     rw[g3,g4,zpw];have t:∀(o:PV),yas .get [.dct AB ybf] (.loc 0)=AA true:=λ_=>rfl;have t:=t .non;have H:=zoJ (b:=b) (x:=.str s) (r:=x::r);have A:yR (yc T (k+3)) [AD] (.n 0) (.cst (.bl AC)) (.call yiT (.cons (.var 0) .nil)) (x::r) [.dct AB ybf]=.ok ((x::r).map λy=>.bl (yaI AC y)) [.dct AB ybf]:=by refine zX _ λp J=>?_;have:=zcw k (B p (AT _ J)) hm [.dct AB ybf];simp! [yaC,this]
     have N:ybi (.ok ((x::r).map λy=>PV.bl (yaI AC y)) [.dct AB ybf])=.ok (.lst ((x::r).map λy=>.bl (yaI AC y))) [.dct AB ybf]:=zV _ (by rw[Ai];erw[AV]at h1 ⊢;lia) _;have u:=zoE (B (.str s) A6) () yac zfC;rw[z7]at u;rcases cls s c1 c2 U with⟨k0,l0⟩|⟨n,n2,n4,k0,l0⟩
     .have c:yat AC (.tp b (.str s::x::r))=false:=by erw[yat,k0]
      rw[c];have l:yJ .ne (.int (yc7 s)) (.int ((r.length+1+1:Ht):Hw))=AA (.bl AC):=by have:=zbe 0 (r.length+1+1);rw[Hu ()]at this;rw[l0];exact this
      simp! [yd,zc,zd,ix0,t,mget,zeV,l]
     .have l:yJ .ne (.int (yc7 s)) (.int ((r.length+1+1:Ht):Hw))=AA (.bl (!decide (r.length+1=n))):=by have:=zbe (n+1) (r.length+1+1);rw[show decide (n+1=r.length+1+1)=decide (r.length+1=n)from IK.mpr ()]at this;rw[l0];exact this
      by_cases f:r.length+1=n
      .have c:yat AC (.tp b (.str s::x::r))=((x::r).all (yaI AC)&&(!decide (s=yac) || unl (x::r))):=by erw[yat,k0,Bg];rw[Hv (by simpa using f),zcx n (x::r) (by simpa using f),A2]
       rw[c];rw[Hv f]at l;have j:=λst=>zaV (yaI AC) (x::r) st;erw[AW]at N j A
       cases z:(x::r).all (yaI AC)with
       |false=>
        rw[z]at j;simp! [yd,zc,zd,ix0,t,mget,zeV,l,zal,H,A,N,j,A8]
       |true=>
        rw[z]at j;have g5:exs (yc T (k+3)) [AA (.tp b (.str s::x::r)),AA (.loc 0)] [.dct AB ybf] (match yd.body with | .cons _ (.cons _ (.cons _ (.cons _ (.cons _ (.cons _ (.cons a _))))))=>.cons a yen|x=>x)=exs (yc T (k+3)) [AA (.tp b (.str s::x::r)),AA (.loc 0)] [.dct AB ybf] yen:=by simp! [yd,zd,ix0,t,mget,zeV,l,zal,H,A,N,j]
        rw[g5,zpx]
        by_cases X:s=yac
        .obtain⟨y,Y,rfl⟩:∃y Y,r=y::Y:=by
          cases r with
          |nil=>simp at f;lia
          |cons y Y=>exact#[y,Y,rfl]
         have hac:=znN C () (B y (by simp)) ();rw[Hv X]at u ⊢;have hu:unl (x::y::Y)=!peq x y:=rfl;rw[hu]
         skip
         simp! [yd,zc,ix0,ix1,ix2,u,hac,A2,E2]
        .rw[Hu X]at u ⊢;simp! [yd,zc,ix0,u,A2,Cr]
      .have c:yat AC (.tp b (.str s::x::r))=false:=by erw[yat,k0,Bg];rw[Hu (by simpa using f)];rfl
       rw[c];rw[Hu f]at l;simp! [yd,zc,zd,ix0,t,mget,zeV,l]
 .have c:yat AC v=false:=by
   unfold yat;split
   .rename_i b s r;split
    .rename_i k1 ks q;let#[ks',e,_,h1,_]:=zfA q
     cases e
     cases r with
     |nil=>rw[Hu (by simp;lia)];rfl
     |cons x r=>exact IB #[b,s,x,r,rfl] hx
    .rfl
   .rfl
  rw[c,zo3]
  cases v with
  |tp b xs=>
   let#[h0,h1,B]:=zt.1 I
   cases xs with
   |nil=>
    have g:yJ .lt (.int (([]:Hs PV).length:Hw)) (.int 2)=AA (.bl AC):=rfl;simp! [yd,zc,yG,yF,yK,zd,g];rfl
   |cons y r=>
    cases r with
    |nil=>
     have g:yJ .lt (.int ((1:Ht):Hw)) (.int 2)=AA (.bl AC):=rfl;simp! [yd,zc,yG,yF,yK,zd,g]
    |cons x r=>
     have g:yJ .lt (.int ((r.length+1+1:Ht):Hw)) (.int 2)=AA (.bl AB):=by have:=zh8 (r.length+1+1) 2;rw[Hu ()]at this;exact this
     have M:=B y (by simp)
     cases y with
     |str s=>exact IB #[b,s,x,r,rfl] hx
     |loc _=>simp[tam]at M
     |exn _=>simp[tam]at M
     |fnc _=>simp[tam]at M
     |scr _=>simp[tam]at M
     |_=>simp! [yd,zc,yG,yF,yK,zd,g,ix0]
  |loc _=>simp[tam]at I
  |exn _=>simp[tam]at I
  |fnc _=>simp[tam]at I
  |scr _=>simp[tam]at I
  |_=>simp! [yd,zc,yG,yF,yK]
abbrev ya4:Str:=AE "row"
abbrev yaH:Str:=AE "rounds"
def zgJ:ya4.cps.all (· < 0x110000)=true:=by decide +kernel
def zg3:yaH.cps.all (· < 0x110000)=true:=by decide +kernel
def yaj(f:PV->Hy):PV->Hy
 |.tp _ a=>a.all f
 |_=>AB
def in1:Hs PV->Hy
 |[x]=>yat AC x
 |_=>AB
def in3(ok:Hy)(f:PV->Hy):Hs PV->Hy
 |[c,s,a]=>ok&&(told 3 c&&(sen s&&yaj f a))
 |_=>AB
def prt(ok:Hy)(f:PV->Hy):PV->Hy
 |.tp _ (h::r)=>if peq h (.str ya4)then in1 r else peq h (.str yaH)&&in3 ok f r
 |_=>AB
def zjr{r:Hs PV}(h:¬r.length=1):in1 r=false:=by
 match r with
 |[]=>rfl
 |[x]=>simp at h
 |_::_::_=>rfl
def zjx{ok:Hy}{f:PV->Hy}{r:Hs PV}(h:¬r.length=3):in3 ok f r=false:=by
 match r with
 |[]=>rfl
 |[_]=>rfl
 |[_,_]=>rfl
 |[c,s,a]=>simp at h
 |_::_::_::_::_=>rfl
def zaM(j n:Ht){d m:Ht}{g:PV->Hy}{v:PV}(a:tam d m v=AC)(u:m<=1000)(l:∀x,tam (d-1) m x=AC->yc T j ygO [x,.int n] []=.ok (.bl (g x)) [])(st:SO):
  yc T (j+1) yie [v,.int n] st=.ok (.bl (yaj g v)) st:=by
 have o:T yie=AA yih:=rfl;have q:=zk d m v a;rw[zh o rfl rfl (by simp[nLs,nL,q])]
 cases v with
 |tp b f=>
  let#[w,y,r]:=zt.1 a;have t:yR (yc T j) [AD,AA (.int n)] (.n 0) (.cst (.bl AC)) (.call ygO (.cons (.var 0) (.cons (.var 1) .nil))) f []=.ok (f.map λx=>.bl (g x)) []:=by refine zX _ λp c=>?_;have:=l p (r p c);simp! [yaC,this]
  simp! [yih,zc,yG,yF,yK,t];rw[zV _ (by rw[Ai];lia)];simp! [zaV,zc,yaj]
 |loc _=>simp[tam]at a
 |exn _=>simp[tam]at a
 |fnc _=>simp[tam]at a
 |scr _=>simp[tam]at a
 |_=>simp! [yih,zc,yG,yF,yK,yaj]
def ydZ:Css:=match yD.body with | .cons _ r=>r|x=>x
def yea:Css:=match ydZ with | .cons _ r=>r|x=>x
def yei:Css:=match yea with | .cons _ r=>r|x=>x
def zpy:yD.body=(match yD.body with | .cons a _=>.cons a ydZ|x=>x):=rfl
def zpz:ydZ=(match yD.body with | .cons _ (.cons a _)=>.cons a yea|x=>x):=rfl
def zpA:yea=(match yD.body with | .cons _ (.cons _ (.cons a _))=>.cons a yei|x=>x):=rfl
def zpB:yei=(match yD.body with | .cons _ (.cons _ (.cons _ a))=>a|x=>x):=rfl
def za8(k n:Ht){d m:Ht}{f:PV->Hy}{v:PV}(p:tam d m v=AC)(Z:d<=60)(A:m<=1000)(J:0<n->∀x,tam (d-1) m x=AC->yc T (k+6) yie [x,.int ((n:Hw)-1)] []=.ok (.bl (yaj f x)) [])(st:SO):
  yc T (k+7) ygO [v,.int n] st=.ok (.bl (prt (decide (0<n)) f v)) st:=by
 have L:T ygO=AA #[2,2,AC,yD.body]:=rfl;have M:=zk d m v p;rw[zh L rfl rfl (by simp[nLs,nL,M])];dsimp only;rw[zpy]
 cases v with
 |tp b N=>
  let#[h0,h1,u]:=zt.1 p
  cases N with
  |nil=>
   have l:yJ .eq (.int ((0:Ht):Hw)) (.int 0)=AA (.bl AC):=rfl;simp! [yD,zc,yG,yF,yK,zd,l,prt]
  |cons h r=>
   have D:=u h (by simp);have B:yJ .eq (.int ((r.length+1:Ht):Hw)) (.int 0)=AA (.bl AB):=by have:=zbf (r.length+1) 0;rw[Hu ()]at this;exact this
   have w:=zoA D () ya4 zgJ;have O:exs (yc T (k+6)) [AA (.tp b (h::r)),AA (.int n)] [] (match yD.body with | .cons a _=>.cons a ydZ|x=>x)=exs (yc T (k+6)) [AA (.tp b (h::r)),AA (.int n)] [] ydZ:=by simp! [yD,yG,yF,yK,zd,B]
   erw[AW,BH,AL,DC,BE];rw[O,zpz]
   cases e:peq h (.str ya4)with
   |true=>
    rw[e]at w;have o:prt (decide (0<n)) f (.tp b (h::r))=in1 r:=by erw[prt,e,ID]
    rw[o]
    by_cases q:r.length=1
    .obtain⟨x,rfl⟩:∃x,r=[x]:=by
      match r,q with
      |[x],_=>exact#[x,rfl]
     have Q:=zcR k (u x (by simp)) () A [];have l:yJ .eq (.int ((2:Ht):Hw)) (.int 2)=AA (.bl AC):=rfl;simp! [yD,zc,zd,l,ix0,ix1,w,Q,in1]
    .have l:yJ .eq (.int ((r.length+1:Ht):Hw)) (.int 2)=AA (.bl AB):=by have:=zbf (r.length+1) 2;rw[Hu ()]at this;exact this
     rw[zjr q];simp! [yD,zc,zd,l,ix0,w]
   |false=>
    rw[e]at w;have o:prt (decide (0<n)) f (.tp b (h::r))=(peq h (.str yaH)&&in3 (decide (0<n)) f r):=by erw[prt,e,A5,IG]
    rw[o];have g:=zoE D () yaH zg3;have U:exs (yc T (k+6)) [AA (.tp b (h::r)),AA (.int n)] [] (match yD.body with | .cons _ (.cons a _)=>.cons a yea|x=>x)=exs (yc T (k+6)) [AA (.tp b (h::r)),AA (.int n)] [] yea:=by simp! [yD,ix0,w]
    rw[U,zpA]
    cases E:peq h (.str yaH)with
    |false=>
     rw[E]at g;simp! [yD,zc,ix0,g,A8,CK]
    |true=>
     rw[E]at g;rw[A2]
     by_cases q:r.length=3
     .obtain⟨c,s,j,rfl⟩:∃c s j,r=[c,s,j]:=by
       match r,q with
       |[c,s,j],_=>exact#[c,s,j,rfl]
      have l:yJ .ne (.int ((4:Ht):Hw)) (.int 4)=AA (.bl AB):=rfl;have t:=zbf n 0;have t:yJ .eq (.int (n:Hw)) (.int 0)=AA (.bl (decide (n=0))):=t
      by_cases G:n=0
      .rw[Hv G]at t;have C:in3 (decide (0<n)) f [c,s,j]=false:=by rw[Hu ()];rfl
       rw[C];simp! [yD,zc,zd,l,ix0,g,t,BP]
      .rw[Hu G]at t;have C:in3 (decide (0<n)) f [c,s,j]=(told 3 c&&(sen s&&yaj f j)):=by rw[Hv ()];rfl
       rw[C];have y:yc T (k+6) ygK [c,.int 3] []=.ok (.bl (told 3 c)) []:=zaA (k+4) (u c (by simp)) A 3 [];have z:=zcQ k (u s (by simp)) () A [];have X:=J () j (u j (by simp));have Y:exs (yc T (k+6)) [AA (.tp b [h,c,s,j]),AA (.int n)] [] (match yD.body with | .cons _ (.cons _ (.cons a _))=>.cons a yei|x=>x)=exs (yc T (k+6)) [AA (.tp b [h,c,s,j]),AA (.int n)] [] yei:=by simp! [yD,zd,l,ix0,g,t,BP]
       rw[Y,zpB]
       cases H:told 3 c with
       |false=>
        rw[H]at y;simp! [yD,zc,ix1,y,BP,A8]
       |true=>
        rw[H]at y
        cases I:sen s with
        |false=>
         rw[I]at z;simp! [yD,zc,ix1,ix2,y,z,BP,A8,A2]
        |true=>
         rw[I]at z;simp! [yD,zc,ix1,ix2,ix3,y,z,b_sub,X,BP,A2]
     .have l:yJ .ne (.int ((r.length+1:Ht):Hw)) (.int 4)=AA (.bl AC):=by have:=zbe (r.length+1) 4;rw[Hu ()]at this;exact this
      rw[zjx q];simp! [yD,zc,zd,l,ix0,g,BP]
 |loc _=>simp[tam]at p
 |exn _=>simp[tam]at p
 |fnc _=>simp[tam]at p
 |scr _=>simp[tam]at p
 |_=>simp! [yD,zc,yG,yF,yK,prt]
def ydm:Css:=match yL.body with | .cons _ r=>r|x=>x
def ydS:Css:=match ydm with | .cons _ r=>r|x=>x
def yew:Css:=match ydS with | .cons _ r=>r|x=>x
def zpC:yL.body=(match yL.body with | .cons a _=>.cons a ydm|x=>x):=rfl
def zpD:ydm=(match yL.body with | .cons _ (.cons a _)=>.cons a ydS|x=>x):=rfl
def zpE:ydS=(match yL.body with | .cons _ (.cons _ (.cons a _))=>.cons a yew|x=>x):=rfl
def zpF:yew=(match yL.body with | .cons _ (.cons _ (.cons _ a))=>a|x=>x):=rfl
def za0(k n:Ht){d m:Ht}{f:PV->Hy}{v:PV}(u:tam d m v=AC)(hd:d<=60)(C:m<=1000)(O:n<=1->∀x,tam (d-1-1) m x=AC->yc T (k+4) ygq [x,.int ((n:Hw)+1)] []=.ok (.bl (f x)) [])(st:SO):
  yc T (k+5) ygq [v,.int n] st=.ok (.bl (prt (decide (n<=1)) f v)) st:=by
 have Q:T ygq=AA #[2,2,AC,yL.body]:=rfl;have U:=zk d m v u;rw[zh Q rfl rfl (by simp[nLs,nL,U])];dsimp only;rw[zpC]
 cases v with
 |tp b X=>
  let#[h0,h1,w]:=zt.1 u
  cases X with
  |nil=>
   have g:yJ .lt (.int ((0:Ht):Hw)) (.int 2)=AA (.bl AC):=rfl;simp! [yL,zc,yG,yF,yK,zd,g,prt]
  |cons h r=>
   have H:=w h (by simp)
   cases r with
   |nil=>
    have g:yJ .lt (.int ((1:Ht):Hw)) (.int 2)=AA (.bl AC):=rfl;have j:prt (decide (n<=1)) f (.tp b [h])=false:=by erw[prt,in1,in3,DQ,ite_self]
    rw[j];simp! [yL,zc,yG,yF,yK,zd,g]
   |cons y r=>
   have D:yJ .lt (.int ((r.length+1+1:Ht):Hw)) (.int 2)=AA (.bl AB):=by have:=zh8 (r.length+1+1) 2;rw[Hu ()]at this;exact this
   have z:=zoA H () ya4 zgJ;have Y:exs (yc T (k+4)) [AA (.tp b (h::y::r)),AA (.int n)] [] (match yL.body with | .cons a _=>.cons a ydm|x=>x)=exs (yc T (k+4)) [AA (.tp b (h::y::r)),AA (.int n)] [] ydm:=by simp! [yL,yG,yF,yK,zd,D]
   erw[AW,BH,AL,DC,BE];rw[Y,zpD]
   cases e:peq h (.str ya4)with
   |true=>
    rw[e]at z;have j:prt (decide (n<=1)) f (.tp b (h::y::r))=in1 (y::r):=by erw[prt,e,ID]
    rw[j]
    by_cases q:r.length=0
    .obtain rfl:r=[]:=Eh.1 q;have Z:=zfX k (w y (by simp)) () C [];have g:yJ .eq (.int ((2:Ht):Hw)) (.int 2)=AA (.bl AC):=rfl;simp! [yL,zc,zd,g,ix0,ix1,z,Z,in1]
    .have g:yJ .eq (.int ((r.length+1+1:Ht):Hw)) (.int 2)=AA (.bl AB):=by have:=zbf (r.length+1+1) 2;rw[Hu ()]at this;exact this
     rw[zjr (by simpa using q)];simp! [yL,zc,zd,g,ix0,z]
   |false=>
    rw[e]at z;have j:prt (decide (n<=1)) f (.tp b (h::y::r))=(peq h (.str yaH)&&in3 (decide (n<=1)) f (y::r)):=by erw[prt,e,A5,IG]
    rw[j];have c:=zoE H () yaH zg3;have r1:exs (yc T (k+4)) [AA (.tp b (h::y::r)),AA (.int n)] [] (match yL.body with | .cons _ (.cons a _)=>.cons a ydS|x=>x)=exs (yc T (k+4)) [AA (.tp b (h::y::r)),AA (.int n)] [] ydS:=by simp! [yL,ix0,z]
    rw[r1,zpE]
    cases I:peq h (.str yaH)with
    |false=>
     rw[I]at c;simp! [yL,zc,ix0,c,A8,CK]
    |true=>
     rw[I]at c;rw[A2]
     by_cases q:r.length=2
     .obtain⟨s,l,rfl⟩:∃s l,r=[s,l]:=by
       match r,q with
       |[s,l],_=>exact#[s,l,rfl]
      have g:yJ .ne (.int ((4:Ht):Hw)) (.int 4)=AA (.bl AB):=rfl;have t:=zhq n 1;have t:yJ .gt (.int (n:Hw)) (.int 1)=AA (.bl (decide (1<n))):=t
      by_cases J:1<n
      .rw[Hv J]at t;have E:in3 (decide (n<=1)) f [y,s,l]=false:=by rw[Hu ()];rfl
       rw[E];simp! [yL,zc,zd,g,ix0,c,t,BP]
      .rw[Hu J]at t;have E:in3 (decide (n<=1)) f [y,s,l]=(told 3 y&&(sen s&&yaj f l)):=by rw[Hv ()];rfl
       rw[E];have B:yc T (k+4) yhL [y,.int 3,.int 200] []=.ok (.bl (told 3 y)) []:=zaf (k+2) (w y (by simp)) C 3 [];have A:=zfY k (w s (by simp)) () C []
       cases L:told 3 y with
       |false=>
        rw[L]at B;simp! [yL,zc,zd,g,ix0,ix1,c,t,B,BP,CK,A8]
       |true=>
        rw[L]at B;have r2:exs (yc T (k+4)) [AA (.tp b [h,y,s,l]),AA (.int n)] [] (match yL.body with | .cons _ (.cons _ (.cons a _))=>.cons a yew|x=>x)=exs (yc T (k+4)) [AA (.tp b [h,y,s,l]),AA (.int n)] [] yew:=by simp! [yL,zd,g,ix0,ix1,c,t,B,BP]
        rw[r2,zpF]
        cases M:sen s with
        |false=>
         rw[M]at A;simp! [yL,zc,ix2,A,BP,CK,A8,A2]
        |true=>
         rw[M]at A;have o:=w l (by simp)
         cases l with
         |tp b' N=>
          let#[g0,g1,g2]:=zt.1 o;have hc:yR (yc T (k+4)) [AD,AA (.int n)] (.n 0) (.cst (.bl AC)) (.call ygq (.cons (.var 0) (.cons (.bin .add (.var 1) (.cst (.int 1))) .nil))) N []=.ok (N.map λx=>.bl (f x)) []:=by refine zX _ λp G=>?_;have:=O () p (g2 p G);simp! [yaC,b_add,this]
          simp! [yL,zc,yG,yF,yK,ix2,ix3,A,hc,BP,A2];rw[zV _ (by rw[Ai];lia)];simp! [zaV,zc,yaj,A2]
         |loc _=>simp[tam]at o
         |exn _=>simp[tam]at o
         |fnc _=>simp[tam]at o
         |scr _=>simp[tam]at o
         |_=>simp! [yL,zc,yG,yF,yK,ix2,ix3,A,BP,CK,A2,yaj]
     .have g:yJ .ne (.int ((r.length+1+1:Ht):Hw)) (.int 4)=AA (.bl AC):=by have:=zbe (r.length+1+1) 4;rw[Hu ()]at this;exact this
      rw[zjx (by simp;lia)];simp! [yL,zc,zd,g,ix0,c,BP]
 |loc _=>simp[tam]at u
 |exn _=>simp[tam]at u
 |fnc _=>simp[tam]at u
 |scr _=>simp[tam]at u
 |_=>simp! [yL,zc,yG,yF,yK,prt]
def ycT:PV->Hy:=prt AB λ_=>AB
def ybU:PV->Hy:=prt AC ycT
def yaR:PV->Hy:=prt AC ybU
def zcS(k:Ht){d m:Ht}{v:PV}(a:tam d m v=AC)(C:d<=60)(g:m<=1000)(st:SO):yc T (k+8) yiV [v] st=.ok (.bl (yaj yaR v)) st:=by
 have q:T yiV=AA yij:=rfl;have r:=zk d m v a;have t:∀{d:Ht} (x:PV),d<=60->tam d m x=AC->yc T (k+5) ygq [x,.int (2:Ht)] []=.ok (.bl (ycT x)) []:=λx h c=>za0 k 2 (f:=λ_=>AB) c h g (λz=>IB z ()) [];have u:∀{d:Ht} (x:PV),d<=60->tam d m x=AC->yc T (k+6) ygq [x,.int (1:Ht)] []=.ok (.bl (ybU x)) []:=λx h c=>za0 (k+1) 1 (f:=ycT) c h g (λ_ y j=>t y () j) [];have w:∀{d:Ht} (x:PV),d<=60->tam d m x=AC->yc T (k+7) ygq [x,.int 0] []=.ok (.bl (yaR x)) []:=λx h c=>za0 (k+2) 0 (f:=ybU) c h g (λ_ y j=>u y () j) [];rw[zh q rfl rfl (by simp[nLs,nL,r])]
 cases v with
 |tp b o=>
  let#[D,E,A]:=zt.1 a;have B:yR (yc T (k+7)) [AD] (.n 0) (.cst (.bl AC)) (.call ygq (.cons (.var 0) (.cons (.cst (.int 0)) .nil))) o []=.ok (o.map λx=>.bl (yaR x)) []:=by refine zX _ λp l=>?_;have:=w p () (A p l);simp! [yaC,this]
  simp! [yij,zc,yG,yF,yK,B];rw[zV _ (by rw[Ai];lia)];simp! [zaV,zc,yaj]
 |loc _=>simp[tam]at a
 |exn _=>simp[tam]at a
 |fnc _=>simp[tam]at a
 |scr _=>simp[tam]at a
 |_=>simp! [yij,zc,yG,yF,yK,yaj]
def zbI(k:Ht){d m:Ht}{v:PV}(g:tam d m v=AC)(w:d<=60)(c:m<=1000)(st:SO):yc T (k+13) yT [v] st=.ok (.bl (yaj yaR v)) st:=by have j:T yT=AA yiw:=rfl;have l:=zk d m v g;have n:∀{d:Ht} (x:PV),d<=60->tam d m x=AC->yc T (k+7) ygO [x,.int (0:Ht)] []=.ok (.bl (ycT x)) []:=λx h a=>za8 k 0 (f:=λ_=>AB) a h c (λz=>IB z ()) [];have o:∀{d:Ht} (x:PV),d<=60->tam d m x=AC->yc T (k+8) yie [x,.int (0:Ht)] []=.ok (.bl (yaj ycT x)) []:=λx h a=>zaM (k+7) 0 a c (λy b=>n y () b) [];have p:∀{d:Ht} (x:PV),d<=60->tam d m x=AC->yc T (k+9) ygO [x,.int (1:Ht)] []=.ok (.bl (ybU x)) []:=λx h a=>za8 (k+2) 1 (f:=ycT) a h c (λ_ y b=>o y () b) [];have q:∀{d:Ht} (x:PV),d<=60->tam d m x=AC->yc T (k+10) yie [x,.int (1:Ht)] []=.ok (.bl (yaj ybU x)) []:=λx h a=>zaM (k+9) 1 a c (λy b=>p y () b) [];have r:∀{d:Ht} (x:PV),d<=60->tam d m x=AC->yc T (k+11) ygO [x,.int (2:Ht)] []=.ok (.bl (yaR x)) []:=λx h a=>za8 (k+4) 2 (f:=ybU) a h c (λ_ y b=>q y () b) [];have t:yc T (k+12) yie [v,.int 2] []=.ok (.bl (yaj yaR v)) []:=zaM (k+11) 2 g c (λy b=>r y () b) [];have u:yi4=.int 2:=rfl;rw[zh j rfl rfl (by simp[nLs,nL,l])];simp! [yiw,zc,u,t]
structure Frm(ns:Hs Hw)(B st:SO):Prop where
 dr:Drw ns 0 st
 len:B.length<=st.length
 get:∀m,m≠0->m<B.length->st[m]?=B[m]?
section
variable {ns:Hs Hw}{B st st':SO}
theorem Frm.refl(h:Drw ns 0 st):Frm ns st st:=#[h,AS _,λ_ _ _=>rfl]
theorem Frm.pos(h:Frm ns B st):0<st.length:=h.dr.pos
theorem Frm.app(h:Frm ns B st)(o:Ob):Frm ns B (st++[o]):=#[h.dr.app o,by have:=h.len;simp;lia,λm a b=>by have:=h.len;rw[AY ()];exact h.get m a b]
theorem Frm.put(h:Frm ns B st){L:Ht}(a:L≠0)(d:B.length<=L)(o:Ob):Frm ns B (st.set L o):=#[h.dr.put a o,by rw[Ay];exact h.len,λm b c=>by rw[A7 ()];exact h.get m b c]
theorem Onl.frm(h:Frm ns B st)(o:Onl ns 0 st st'):Frm ns B st':=#[o.drw h.dr,by rw[o.len];exact h.len,λm a b=>by rw[o.get a];exact h.get m a b]
theorem Frm.trans{C:SO}(h:Frm ns B st)(g:Frm ns st C):Frm ns B C:=#[g.dr,BK h.len g.len,λm a b=>by have:=h.len;rw[g.get m a ()];exact h.get m a b]
def zox(k:Ht)(a:ns.length<=1000){m:Hw}(c:0<m)(b:m<10000000000000000000000000000000000000000000000000000000000000000000000)(h:Frm ns B st):
  ∃d st',0<=d/\d<m/\Onl ns 0 st st'/\yc T (k+3) ya [.loc 0,.int m] st=.ok (.int d) st':=zoy k a c b h.dr
end
def smE:Ce:=.bin .sub (.call ya (.cons (.var 1) (.cons (.cst (.int 4)) .nil))) (.cst (.int 1))
def zo4{ns:Hs Hw}(b:ns.length<=1000)(k:Ht){B:SO}:∀(N:Ht) (a:Hw) (st:SO),Frm ns B st->∃c d,c.length=N/\(∀y∈c,∃i:Hw,y=.int i/\-1<=i/\i<=2)/\Frm ns B d /\
  yR (yc T (k+3)) [AD,AA (.loc 0)] (.n 0) (.cst (.bl AC)) smE (yt N a 1) st=.ok c d
 |0,a,st,h=>#[[],st,rfl,by simp,h,by rw[yt,zaG]]
 |N+1,a,st,h=>by
  let#[w,g,u,w1,j,o]:=zox k b (m:=4) () () h;let#[c,p,l,t,q,r]:=zo4 b k N (a+1) g (j.frm h);refine#[.int (w-1)::c,p,by simp[l],λy f=>?_,q,?_]
  .rcases AM.1 f with rfl|f
   .exact#[w-1,rfl,by lia,by lia]
   .exact t y f
  .have one:yaC (yc T (k+3)) [AD,AA (.loc 0)] (.n 0) (.cst (.bl AC)) smE (.int a) st=.ok (AA (.int (w-1))) g:=by simp! [yaC,smE,o]
   rw[yt,zH,one,bd_ok,r,bd_ok];rfl
def zeC{n:Ht}{b:Hy}{xs:Hs PV}(a:xs.length=n)(h:∀x∈xs,∃i:Hw,x=.int i/\-200<=i/\i<=200):told n (.tp b xs)=true:=by erw[told,AH,Hx,BA];refine#[a,λx c=>?_];let#[i,rfl,d,f]:=h x c;erw[wh];rw[Hv d,Hv f];rfl
def ydg(v:PV):Prop:=∃a b c d:Hw,v=.tp AB [.int a,.int b,.int c,.int d]/\-200<=a/\a<=200/\-200<=b/\b<=200/\-200<=c/\c<=200/\-200<=d/\d<=200
def zeA{v:PV}(h:ydg v):told 4 v=true:=by
 let#[a,b,c,d,rfl,h]:=h;refine zeC rfl λx f=>?_;erw[AM,AN,IE]at f;rcases f with rfl|rfl|rfl|rfl
 .exact#[a,rfl,by lia,by lia]
 .exact#[b,rfl,by lia,by lia]
 .exact#[c,rfl,by lia,by lia]
 .exact#[d,rfl,by lia,by lia]
def zgs{v:PV}(h:ydg v):tam 1 10 v=true:=by let#[a,b,c,d,rfl,h]:=h;rfl
def zbZ{ns:Hs Hw}(d:ns.length<=1000)(k:Ht){B st:SO}(h:Frm ns B st):∃v j,ydg v/\Frm ns B j/\yc T (k+4) yjm [.loc 0] st=.ok v j:=by
 have x:T yjm=AA yia:=rfl;let#[w,s1,w0,w1,o1,y]:=zox k d (m:=8) () () h;have L:=o1.frm h;let#[f,M,f0,f1,o2,A]:=zox k d (m:=100) () () L;have g2:=o2.frm L;let#[N,o,l,t,r,p]:=zo4 d k 3 0 M g2;obtain⟨C,D,E,rfl⟩:∃C D E,N=[C,D,E]:=by
  match N,l with
  |[a,b,c],_=>exact#[a,b,c,rfl]
 let#[a,rfl,a0,a1]:=t C (by simp);let#[b,rfl,b0,b1]:=t D (by simp);let#[c,rfl,c0,c1]:=t E (by simp);have G:ybE (.int 3)=AA (yt 3 0 1):=rfl;have H:ybi (.ok [PV.int a,.int b,.int c] o)=.ok (.lst [.int a,.int b,.int c]) o:=zV _ (by simp) _;have p:yR (yc T (k+3)) [AD,AA (.loc 0)] (.n 0) (.cst (.bl AC)) (.bin .sub (.call 33 (.cons (.var 1) (.cons (.cst (.int 4)) .nil))) (.cst (.int 1))) (yt 3 0 1) M=.ok [.int a,.int b,.int c] o:=p;have O:∀s,idxV s (.lst [.int a,.int b,.int c]) (.int 0)=AA (.int a):=λs=>by simp[idxV,yaQ,at?,ixI]
 have Q:∀s,idxV s (.lst [.int a,.int b,.int c]) (.int 1)=AA (.int b):=λs=>by simp[idxV,yaQ,at?,ixI]
 have U:∀s,idxV s (.lst [.int a,.int b,.int c]) (.int 2)=AA (.int c):=λs=>by simp[idxV,yaQ,at?,ixI]
 by_cases X:w<4
 .refine#[_,o,#[f,0,0,0,rfl,by lia,by lia,by lia,by lia,by lia,by lia,by lia,by lia],r,?_];have u:decide (w<4)=true:=Hv X;rw[zo x rfl rfl];simp! [yia,zM,y,A,G,p,H,u,Ab]
 have u:decide (w<4)=false:=Hu X
 by_cases Z:w<7
 .have g:decide (w<7)=true:=Hv Z;refine#[_,o,#[10+f%60,a,b,c,rfl,by lia,by lia,by lia,by lia,by lia,by lia,by lia,by lia],r,?_];have hm:yO .mod (.int f) (.int 60)=AA (.int (f%60)):=ziW ();rw[zo x rfl rfl];simp! [yia,zM,y,A,G,p,H,u,g,hm,O,Q,U,Ab]
 have g:decide (w<7)=false:=Hu Z;let#[q,s4,q0,q1,o4,e4]:=zox k d (m:=4) () () r;let#[z,zm,zi]:=zc7 (k:=AB) (xs:=[.int 200,.int (-200),.int f,.int 0]) q0 (show q<((4:Ht):Hw)from q1);obtain⟨i,rfl,i0,i1⟩:∃i:Hw,z=.int i/\-200<=i/\i<=200:=by
  erw[AM,AN,IE]at zm;rcases zm with rfl|rfl|rfl|rfl
  .exact#[200,rfl,by lia,by lia]
  .exact#[-200,rfl,by lia,by lia]
  .exact#[f,rfl,by lia,by lia]
  .exact#[0,rfl,by lia,by lia]
 refine#[_,s4,#[i,a,b,c,rfl,by lia,by lia,by lia,by lia,by lia,by lia,by lia,by lia],o4.frm r,?_];have I:∀s,yX .tuple s [.lst [.int i,.int a,.int b,.int c]]=AA (.tp AB [.int i,.int a,.int b,.int c]):=λs=>rfl;have J:∀Y s,ev (yc T (k+3)) Y s (.neg (.cst (.int 200)))=.ok (.int (-200)) s:=λY s=>by erw[ev,R.bind]
 rw[zo x rfl rfl];simp! [yia,zM,y,A,G,p,H,u,g,J,e4,zi,O,Q,U,I,Ab]
def znR:∀n:Fin 26,ycN.cps.toList[n.val]?=AA (97+n.val):=by decide +kernel
def zk0{i:Hw}(a:0<=i)(g:i<26):∃c,97<=c/\c<=122/\∀st,idxV st (.str ycN) (.int i)=AA (.str #[(Hs.toArray [c])]):=by
 let#[n,rfl]:=zbU a;have b:n<26:=by lia
 have d:ycN.length<=sizeMax:=by decide +kernel
 refine#[97+n,by lia,by lia,λst=>?_];have e:=znR #[n,b];have f:ixI ycN.cps.toList.length (n:Hw)=AA n:=by rw[zkf];simp[ixI];lia
 erw[idxV,Hz d,yaQ,at?,f,Az,e,B5]
def za4{ns:Hs Hw}(b:ns.length<=1000)(k:Ht){st:SO}(h:Drw ns 0 st):∃c a,97<=c/\c<=122/\Onl ns 0 st a/\yc T (k+4) yiW [.loc 0] st=.ok (.str #[(Hs.toArray [c])]) a:=by have d:T yiW=AA yiB:=rfl;let#[w,f,g,w1,j,l]:=zoy k b (m:=26) () () h;let#[c,n,o,p]:=zk0 g w1;refine#[c,f,n,o,j,?_];rw[zo d rfl rfl];simp! [yiB,zM,l,p]
def ydF(v:PV):Prop:=∃a b c:Hw,v=.tp AB [.int a,.int b,.int c]/\-200<=a/\a<=200/\-200<=b/\b<=200/\-200<=c/\c<=200
def zdt{v:PV}(h:ydF v):told 3 v=true:=by
 let#[a,b,c,rfl,h]:=h;refine zeC rfl λx d=>?_;erw[AM,AN,IE]at d;rcases d with rfl|rfl|rfl
 .exact#[a,rfl,by lia,by lia]
 .exact#[b,rfl,by lia,by lia]
 .exact#[c,rfl,by lia,by lia]
def znx{v:PV}(h:ydF v):tam 1 10 v=true:=by let#[a,b,c,rfl,h]:=h;rfl
def cnT:Css:=match yE.body with
 |.cons _ r=>r
 |_=>.nil
theorem cnE:yE.body=(match yE.body with | .cons a _=>.cons a cnT|x=>x):=rfl
def ydw:Css:=match yE.body with
 |.cons _ (.cons _ (.cons _ r))=>r
 |_=>.nil
def zpG:cnT=(match yE.body with | .cons _ (.cons a (.cons b _))=>.cons a (.cons b ydw)|x=>x):=rfl
def zfe{ns:Hs Hw}(f:ns.length<=1000)(k:Ht){B st:SO}(h:Frm ns B st){t:Hw}(t0:0<=t)(t1:t<=1){p1 p2:Option PV}:∃v o,ydF v/\Frm ns B o/\exs (yc T (k+3)) [AA (.loc 0),p1,p2,AA (.int t),AD,AD] st cnT=.rt v o:=by
 let#[a,s1,a0,a1,M,r]:=zox k f (m:=4) () () h;have C:=M.frm h;let#[b,s2,b0,b1,N,u]:=zox k f (m:=3) () () C;have D:=N.frm C;let#[w,O,w0,w1,Q,x]:=zox k f (m:=8) () () D;have n:=Q.frm D;have y:yO .mul (.int a) (.int (1-t))=AA (.int (a*(1-t))):=zbt ();have z:yO .mul (.int b) (.int (1-t))=AA (.int (b*(1-t))):=zbt ();have r1:0<=a*(1-t)/\a*(1-t)<=3/\0<=b*(1-t)/\b*(1-t)<=2:=by
  rcases (show t=0 \/ t=1 by lia)with rfl|rfl
  .simp;lia
  .simp
 rw[zpG]
 by_cases E:w=0
 .let#[c,A,G,H,p,q]:=zox k f (m:=201) () () n;have l:(w==0)=true:=by simp[E]
  have j:(w==1)=false:=by simp;lia
  have g:(w==2)=false:=by simp;lia
  refine#[_,A,#[0-c,0,0,rfl,by lia,by lia,by lia,by lia,by lia,by lia],p.frm n,?_];simp! [ydw,yE,r,y,u,z,x,l,q,j,g,Ab]
 have l:(w==0)=false:=IF.2 E
 by_cases I:w=1
 .let#[c,A,G,H,p,q]:=zox k f (m:=4) () () n;have j:(w==1)=true:=by simp[I]
  have g:(w==2)=false:=by simp;lia
  refine#[_,A,#[0-c,2,0,rfl,by lia,by lia,by lia,by lia,by lia,by lia],p.frm n,?_];simp! [ydw,yE,r,y,u,z,x,l,q,j,g,Ab]
 have j:(w==1)=false:=IF.2 I
 by_cases J:w=2
 .let#[c,A,G,H,p,q]:=zox k f (m:=8) () () n;have L:=p.frm n;let#[d,U,d0,d1,X,Z]:=zox k f (m:=2) () () L;have g:(w==2)=true:=by simp[J]
  have hn:∀Y s,ev (yc T (k+3)) Y s (.neg (.cst (.int 1)))=.ok (.int (-1)) s:=λY s=>by erw[ev,R.bind]
  refine#[_,U,#[4+c,-1-d,0,rfl,by lia,by lia,by lia,by lia,by lia,by lia],X.frm L,?_];simp! [ydw,yE,r,y,u,z,x,l,j,g,q,hn,Z,Ab]
 .have g:(w==2)=false:=IF.2 J;refine#[_,O,#[a*(1-t),b*(1-t),t,rfl,by lia,by lia,by lia,by lia,by lia,by lia],n,?_];simp! [ydw,yE,r,y,u,z,x,l,j,g,Ab]
def zcT{ns:Hs Hw}(a:ns.length<=1000)(k:Ht){B st:SO}(h:Frm ns B st){w n:Hw}(z:0<=w)(w1:w<=1000):∃v d,ydF v/\Frm ns B d/\yc T (k+4) yiG [.loc 0,.int w,.int n] st=.ok v d:=by
 have j:T yiG=AA #[3,6,AB,yE.body]:=rfl;have l:yO .mul (.int w) (.int n)=AA (.int (w*n)):=zat ();have o:∀s b,yX .int s [.bl b]=AA (.int (bi b)):=λs b=>rfl
 cases p:decide (w*n<13)with
 |false=>
  let#[v,f,x,g,e]:=zfe a k h (t:=0) () () (p1:=AA (.int w)) (p2:=AA (.int n));refine#[v,f,x,g,?_];have q:bi AB=0:=rfl;rw[zo j rfl rfl];dsimp only;rw[cnE];simp! [yE,l,p,o,q,e,zM]
 |true=>
  let#[c,A,C,D,r,u]:=zox k a (m:=4) () () h;have y:=r.frm h;let#[v,f,x,g,e]:=zfe a k y (t:=bi (c==0)) (by cases (c==0)<;>decide) (by cases (c==0)<;>decide) (p1:=AA (.int w)) (p2:=AA (.int n));refine#[v,f,x,g,?_];rw[zo j rfl rfl];dsimp only;rw[cnE];simp! [yE,l,p,u,o,e,zM]
def zba{st:SO}{L:Ht}{xs:Hs PV}{v:PV}(h:st[L]?=AA (.lst xs))(a:xs.length<1000):yas .append st (.loc L)=AA AC/\ybs .append st (.loc L) [v]=.ok .non (st.set L (.lst (xs++[v]))):=by
 constructor
 .simp[yas,yQ,h]
 .simp only[ybs,yed,h];rw[Hz ()]
def isT(v:PV):Prop:=thg v=AC/\tam 2 10 v=AC
def znC:isT (.tp AB [.str yal]):=by refine#[by ac_rfl,by decide +kernel]
def zkI{c:Ht}(j:97<=c)(l:c<=122){a b:PV}(d:ydg a)(f:ydg b):isT (.tp AB [.str yaw,.str #[(Hs.toArray [c])],a,b]):=by
 have m:peq (.str yaw) (.str yal)=false:=by ac_rfl
 have n:peq (.str yaw) (.str yaw)=true:=by ac_rfl
 have o:ltr (.str #[(Hs.toArray [c])])=true:=by simp[ltr,j,l]
 refine#[?_,zt.2 #[by lia,by simp,λx g=>?_]]
 .simp only[thg,m,n,A5,IG,ID,o,zeA d,zeA f,BM]
 .simp only[AM,AN,IE]at g;rcases g with rfl|rfl|rfl|rfl
  .decide +kernel
  .exact zdI () ()
  .exact zgs d
  .exact zgs f
def snB:Css:=match yp.body with
 |.cons _ (.cons (.for _ _ b) _)=>b
 |_=>.nil
def ycI:Css:=match snB with
 |.cons _ (.cons (.for _ _ b) _)=>b
 |_=>.nil
theorem things{ns:Hs Hw}(f:ns.length<=1000)(k:Ht){B:SO}{L:Ht}(o:L≠0)(O:B.length<=L){p1 p2:Option PV}{r:Hs (Option PV)}:∀(N:Ht) (a:Hw) (b:Hs PV) (p4 p5:Option PV) (st:SO),Frm ns B st->st[L]?=AA (.lst b)->b.length+N<=900->(∀y∈b,isT y) ->
  ∃d C D g,d.length=b.length+N/\(∀y∈d,isT y)/\Frm ns B g/\g[L]?=AA (.lst d) /\
   yaT (yc T (k+4)) (.n 4) ycI (yt N a 1) (AA (.loc 0)::p1::p2::AA (.loc L)::p4::p5::r) st=.nx (AA (.loc 0)::p1::p2::AA (.loc L)::C::D::r) g
 |0,a,b,p4,p5,st,h,p,X,E=>#[b,p4,p5,st,rfl,E,h,p,by rw[yt,zO]]
 |N+1,a,b,p4,p5,st,h,p,X,E=>by
  let#[w,Y,w0,w1,t,u]:=zox (k+1) f (m:=4) () () h;have G:=t.frm h;have u:yc T (k+4) ya [.loc 0,.int 4] st=_:=u;obtain⟨v,j,Z,z,H,I⟩:∃v j,isT v/\Frm ns B j/\j[L]?=AA (.lst b)/\exs (yc T (k+4)) (AA (.loc 0)::p1::p2::AA (.loc L)::AA (.int a)::p5::r) st ycI=exs (yc T (k+4)) (AA (.loc 0)::p1::p2::AA (.loc L)::AA (.int a)::AA v::r) j (match ycI with | .cons _ (.cons _ r)=>r|x=>x):=by
   cases Q:decide (0<w)with
   |false=>
    refine#[_,Y,znC,G,by rw[t.get o];exact p,?_];simp! [ycI,snB,yp,Ab,u,Q]
   |true=>
    let#[c,j,c0,c1,J,I]:=za4 f k G.dr;have z:=J.frm G;have M:L<st.length:=(A3.1 p).1;have q:L<j.length:=by rw[J.len,t.len];exact M
    let#[x,s3,hx,A,e3]:=zbZ f k (Frm.refl z.dr);let#[y,s4,l,U,e4]:=zbZ f k (Frm.refl A.dr);have l3:=A.len;refine#[_,s4,zkI c0 c1 hx l,(z.trans A).trans U,by rw[U.get L o (),A.get L o q,J.get o,t.get o];exact p,?_];simp! [ycI,snB,yp,Ab,u,Q,I,e3,e4]
  let#[m1,n1]:=zba (v:=v) H ();have q:L<j.length:=(A3.1 H).1;let#[d,C,D,g,r1,r2,r3,r4,r5]:=things f k o O (p1:=p1) (p2:=p2) (r:=r) N (a+1) (b++[v]) (AA (.int a)) (AA v) (j.set L (.lst (b++[v]))) (z.put o O _) (rdS H) (by simp;lia) (λy l=>by
   rcases Am.1 l with l|l
   .exact E y l
   .simp only[AM,AN,IE]at l;rw[l];exact Z)
  refine#[d,C,D,g,by rw[r1];simp;lia,r2,r3,r4,?_];have hb:exs (yc T (k+4)) (AA (.loc 0)::p1::p2::AA (.loc L)::AA (.int a)::p5::r) st ycI=.nx (AA (.loc 0)::p1::p2::AA (.loc L)::AA (.int a)::AA v::r) (j.set L (.lst (b++[v]))):=by rw[I];simp! [ycI,snB,yp,m1,n1]
  rw[yt,zr (Y1:=AA (.loc 0)::p1::p2::AA (.loc L)::AA (.int a)::p5::r) rfl,hb];exact r5
def fiE:Ce:=.bin .sub (.call ya (.cons (.var 1) (.cons (.cst (.int 5)) .nil))) (.cst (.int 1))
def zo5{ns:Hs Hw}(c:ns.length<=1000)(k:Ht){B:SO}:∀(N:Ht) (a:Hw) (st:SO),Frm ns B st->∃d b,d.length=N/\(∀y∈d,∃i:Hw,y=.int i/\-200<=i/\i<=200)/\Frm ns B b/\Onl ns 0 st b /\
  yR (yc T (k+4)) [AD,AA (.loc 0)] (.n 0) (.cst (.bl AC)) fiE (yt N a 1) st=.ok d b
 |0,a,st,h=>#[[],st,rfl,by simp,h,h.dr.refl,by rw[yt,zaG]]
 |N+1,a,st,h=>by
  let#[w,j,x,w1,o,f]:=zox (k+1) c (m:=5) () () h;have f:yc T (k+4) ya [.loc 0,.int 5] st=_:=f;let#[d,p,l,t,q,r,u]:=zo5 c k N (a+1) j (o.frm h);refine#[.int (w-1)::d,p,by simp[l],λy g=>?_,q,o.trans r,?_]
  .rcases AM.1 g with rfl|g
   .exact#[w-1,rfl,by lia,by lia]
   .exact t y g
  .have one:yaC (yc T (k+4)) [AD,AA (.loc 0)] (.n 0) (.cst (.bl AC)) fiE (.int a) st=.ok (AA (.int (w-1))) j:=by simp! [yaC,fiE,f]
   rw[yt,zH,one,bd_ok,u,bd_ok];rfl
def isM(v:PV):Prop:=trm v=AC/\tam 4 10 v=AC
def zpH{f:Hw}{ns ts:Hs PV}(d:1-10^40<=f)(g:f<=10^40-1)(j:ns.length=6)(b:∀x∈ns,∃i:Hw,x=.int i/\-200<=i/\i<=200)(l:ts.length<=2)(c:∀y∈ts,isT y):isM (.tp AB [.int f,.tp AB ns,.tp AB ts]):=by
 constructor
 .simp only[trm,wh,zeC j b,ths];rw[Hv d,Hv g,Hv l,BA.2 λx a=>(c x a).1];rfl
 .refine zt.2 #[by lia,by simp,λx a=>?_];erw[AM,AN,IE]at a;rcases a with rfl|rfl|rfl
  .rfl
  .refine zt.2 #[by lia,by lia,λx a=>?_];let#[i,rfl,_]:=b x a;rfl
  .refine zt.2 #[by lia,by lia,λx a=>zK () () _ (c x a).2]
def isS(v:PV):Prop:=sen v=AC/\tam 5 10 v=AC
def zpI{ts:Hs PV}(c:ts.length<=10)(b:∀y∈ts,isM y):isS (.tp AB ts):=by
 constructor
 .simp only[sen];rw[Hv (by lia:ts.length<=20),BA.2 λx a=>(b x a).1];rfl
 .exact zt.2 #[by lia,by lia,λx a=>zK () () _ (b x a).2]
def snT:Css:=match snB with
 |.cons _ (.cons _ r)=>r
 |x=>x
def yfi:Css:=match snT with
 |.cons _ (.cons _ r)=>r
 |x=>x
theorem snE:snB=(match yp.body with
 |.cons _ (.cons (.for _ _ (.cons a (.cons (.for t i _) _))) _)=>.cons a (.cons (.for t i ycI) snT)
 |x=>x):=rfl
def zpJ:snT=(match yp.body with
 |.cons _ (.cons (.for _ _ (.cons _ (.cons _ (.cons a (.cons b _))))) _)=>.cons a (.cons b yfi)
 |x=>x):=rfl
def zpK:yfi=(match yp.body with
 |.cons _ (.cons (.for _ _ (.cons _ (.cons _ (.cons _ (.cons _ (.cons (.asg t (.thw (.comp a b c d _))) r)))))) _)=>.cons (.asg t (.thw (.comp a b c d fiE))) r
 |x=>x):=rfl
def zji{ns:Hs Hw}(n:ns.length<=1000)(k:Ht){B st:SO}(h:Frm ns B st){L1 L3:Ht}(M:L1≠0)(h3:L3≠0)(hB:B.length<=L1)(hne:L1≠L3){c ts:Hs PV}(N:st[L1]?=AA (.lst c))(hl:c.length<900)(q:st[L3]?=AA (.lst ts))(tl:ts.length<=2)(ht:∀y∈ts,isT y){f:Hw}(f0:1-10^40<=f)(f1:f<=10^40-1){p2 p4 p5 p6 p8:Option PV}:
  ∃v q8 p,isM v/\Frm ns B p/\p[L1]?=AA (.lst (c++[v])) /\
   exs (yc T (k+4)) [AA (.loc 0),AA (.loc L1),p2,AA (.loc L3),p4,p5,p6,AA (.int f),p8] st yfi=.nx [AA (.loc 0),AA (.loc L1),p2,AA (.loc L3),p4,p5,p6,AA (.int f),q8] p:=by
 let#[a,b,l1,t1,A,O,e1]:=zo5 n k 6 0 st h;have C:L1<st.length:=(A3.1 N).1;have D:L3<st.length:=(A3.1 q).1;have ln1:=O.len;have Q:=A.app (.lst a);let#[w,s2,w0,w1,t,E]:=zox (k+1) n (m:=4) () () Q;have E:yc T (k+4) ya [.loc 0,.int 4] (b++[.lst a])=_:=E;have U:=t.frm Q;let#[u,r,u0,u1,x,G]:=zox (k+1) n (m:=6) () () U;have G:yc T (k+4) ya [.loc 0,.int 6] s2=_:=G;have g4:=x.frm U;let#[z,X,zi]:=zc7 (k:=AB) (xs:=[.int 0,.int 1,.int 200,.int (-200)]) w0 (show w<((4:Ht):Hw)from w1);have hz:∃i:Hw,z=.int i/\-200<=i/\i<=200:=by
  erw[AM,AN,IE]at X;rcases X with rfl|rfl|rfl|rfl
  .exact#[0,rfl,by lia,by lia]
  .exact#[1,rfl,by lia,by lia]
  .exact#[200,rfl,by lia,by lia]
  .exact#[-200,rfl,by lia,by lia]
 have pos:0<b.length:=A.pos;have H:=t.len;have ln3:=x.len;rw[AO,Bi]at H;have j:r[b.length]?=AA (.lst a):=by rw[x.get (),t.get ()];simp
 have hx:ixI a.length u=AA u.toNat:=zfb u0 ();have l:yaE r (.loc b.length) (.int u) z=AA (r.set b.length (.lst (a.set u.toNat z))):=by erw[yaE,j,hx]
 have Z:∀m,m≠0->m<st.length->∀o,(r.set b.length o)[m]?=st[m]?:=λm I ml o=>by rw[A7 (),x.get I,t.get I,AY (),O.get I]
 have hb:∀y∈a.set u.toNat z,∃i:Hw,y=.int i/\-200<=i/\i<=200:=λy j=>by
  rcases EO j with j|j
  .exact t1 y j
  .rw[j];exact hz
 obtain⟨g,d⟩:∃g,g=r.set b.length (.lst (a.set u.toNat z)):=#[_,rfl];rw[<-d]at l;have j1:g[L1]?=AA (.lst c):=by rw[d,Z L1 M C];exact N
 have j3:g[L3]?=AA (.lst ts):=by rw[d,Z L3 h3 D];exact q
 have jn:g[b.length]?=AA (.lst (a.set u.toNat z)):=by rw[d];exact rdS j
 have g5:Frm ns B g:=by rw[d];exact g4.put () (by have:=A.len;lia) _
 have tu:yX .tuple g [.loc b.length]=AA (.tp AB (a.set u.toNat z)):=by simp[yX,ycs,yQ,jn]
 have tt:yX .tuple g [.loc L3]=AA (.tp AB ts):=by simp[yX,ycs,yQ,j3]
 let#[m1,n1]:=zba (v:=.tp AB [.int f,.tp AB (a.set u.toNat z),.tp AB ts]) j1 ();refine#[_,AA (.loc b.length),g.set L1 (.lst (c++[.tp AB [.int f,.tp AB (a.set u.toNat z),.tp AB ts]])),zpH f0 f1 (by rw[Ay];exact l1) hb tl ht,g5.put M hB _,rdS j1,?_];have hr:ybE (.int 6)=AA (yt 6 0 1):=rfl;have hE:ybi (.ok a b)=.ok (.lst a) b:=zV _ () _;have J:ycb (.lst a) b=.ok (.loc b.length) (b++[.lst a]):=rfl;have L:∀Y s,ev (yc T (k+4)) Y s (.neg (.cst (.int 200)))=.ok (.int (-200)) s:=λY s=>by erw[ev,R.bind]
 rw[zpK];simp! [yp,IC.ve30,hr,e1,hE,J,L,E,zi,G,l,stO,m1,tu,tt,n1,Ab]
def zjh{ns:Hs Hw}(a:ns.length<=1000)(k:Ht){B st:SO}(h:Frm ns B st){L1:Ht}(o:L1≠0)(hB:B.length<=L1){b:Hs PV}(D:st[L1]?=AA (.lst b))(hl:b.length<900){p2 p3 p4 p5 p6 p7 p8:Option PV}:
  ∃v q3 p q q6 q7 E c,isM v/\Frm ns B c/\c[L1]?=AA (.lst (b++[v])) /\
   exs (yc T (k+4)) [AA (.loc 0),AA (.loc L1),p2,p3,p4,p5,p6,p7,p8] st snB=.nx [AA (.loc 0),AA (.loc L1),p2,q3,p,q,q6,q7,E] c:=by
 have d:L1<st.length:=(A3.1 D).1;have pos:=h.pos;have U:=h.app (.lst []);let#[n,t,n0,n1,g,G]:=zox (k+1) a (m:=3) () () U;have G:yc T (k+4) ya [.loc 0,.int 3] (st++[.lst []])=_:=G;have g1:=g.frm U;let#[n,rfl]:=zbU n0;have hs1:t[L1]?=AA (.lst b):=by rw[g.get o,AY d];exact D
 have H:t[st.length]?=AA (.lst []):=by rw[g.get ()];simp
 obtain⟨l,X⟩:∃l,l=t.set st.length .dead:=#[_,rfl];have I:=g.len;rw[AO,Bi]at I;let#[ts,p,q,A,l2,t2,Y,r2,e2]:=things a k (B:=st) (L:=st.length) () (AS _) (p1:=AA (.loc L1)) (p2:=p2) (r:=[p6,p7,p8]) n 0 [] p4 p5 t (g.frm ((Frm.refl h.dr).app (.lst []))) H (by simp;lia) (by simp);erw[Ap,DV]at l2;have Z:Frm ns B A:=h.trans Y;have k1:A[L1]?=AA (.lst b):=by rw[Y.get L1 o d];exact D
 let#[w,s3,w0,w1,o3,J]:=zox (k+1) a (m:=10000000000000000000000000000000000000000) () () Z;have J:yc T (k+4) ya [.loc 0,.int 10000000000000000000000000000000000000000] A=_:=J;have g3:=o3.frm Z;let#[u,s4,u0,u1,o4,M]:=zox (k+1) a (m:=2) () () g3;have M:yc T (k+4) ya [.loc 0,.int 2] s3=_:=M;have g4:=o4.frm g3;let#[x,s5,x0,x1,o5,N]:=zox (k+1) a (m:=7) () () g4;have N:yc T (k+4) ya [.loc 0,.int 7] s4=_:=N;have g5:=o5.frm g4;let#[y,s6,y0,y1,o6,O]:=zox (k+1) a (m:=2) () () g5;have O:yc T (k+4) ya [.loc 0,.int 2] s5=_:=O;have g6:=o6.frm g5;have mu:yO .mul (.int w) (.int (1-2*u))=AA (.int (w*(1-2*u))):=zbt ();have Q:yO .mul (.int 2) (.int u)=AA (.int (2*u)):=zat ();have hw:-w<=w*(1-2*u)/\w*(1-2*u)<=w:=by
  rcases (show u=0 \/ u=1 by lia)with rfl|rfl
  .simp;lia
  .simp;lia
 let#[z,zm,zi]:=zc7 (k:=AB) (xs:=[.int (x-3),.int (w*(1-2*u))]) y0 (show y<((2:Ht):Hw)from y1);obtain⟨f,rfl,f0,f1⟩:∃f:Hw,z=.int f/\1-10^40<=f/\f<=10^40-1:=by
  erw[AM,AN,IE]at zm;rcases zm with rfl|rfl
  .exact#[x-3,rfl,by lia,by lia]
  .exact#[_,rfl,by lia,by lia]
 have j:∀m,m≠0->s6[m]?=A[m]?:=λm C=>by rw[o6.get C,o5.get C,o4.get C,o3.get C]
 let#[v,E,s7,hv,g7,r7,e7]:=zji a k g6 (L3:=st.length) o () hB () (by rw[j L1 o];exact k1) hl (by rw[j _ ()];exact r2) () t2 f0 f1 (p2:=p2) (p4:=p) (p5:=q) (p6:=AA (.int (w*(1-2*u)))) (p8:=p8);refine#[v,AA (.loc st.length),p,q,AA (.int (w*(1-2*u))),AA (.int f),E,s7,hv,g7,r7,?_];have hp:yO .pow (.int 10) (.int 40)=AA (.int 10000000000000000000000000000000000000000):=rfl;have hr:=zbj n ();rw[snE];simp! [yp,Ab,G,hr,e2];rw[zpJ];simp! [yp,Ab,hp,J,Q,M,mu,N,O,zi,e7]
def zea{ns:Hs Hw}(g:ns.length<=1000)(k:Ht){B:SO}{L1:Ht}(m:L1≠0)(o:B.length<=L1):∀(N:Ht) (a:Hw) (c:Hs PV) (p2 p3 p4 p5 p6 p7 p8:Option PV) (st:SO),Frm ns B st->st[L1]?=AA (.lst c)->c.length+N<=10->(∀y∈c,isM y) ->
  ∃b Y d,b.length<=10/\(∀y∈b,isM y)/\Frm ns B d/\d[L1]?=AA (.lst b) /\
   yaT (yc T (k+4)) (.n 2) snB (yt N a 1) [AA (.loc 0),AA (.loc L1),p2,p3,p4,p5,p6,p7,p8] st=.nx (AA (.loc 0)::AA (.loc L1)::Y) d
 |0,a,c,p2,p3,p4,p5,p6,p7,p8,st,h,j,p,l=>#[c,_,st,by lia,l,h,j,by rw[yt,zO]]
 |N+1,a,c,p2,p3,p4,p5,p6,p7,p8,st,h,j,p,l=>by
  let#[v,q,r,t,u,w,x,z,A,C,D,E]:=zjh g k h m o j () (p2:=AA (.int a)) (p3:=p3) (p4:=p4) (p5:=p5) (p6:=p6) (p7:=p7) (p8:=p8);let#[b,Y,d,G,H,I,J,L]:=zea g k m o N (a+1) (c++[v]) (AA (.int a)) q r t u w x z C D (by simp;lia) (λy f=>by
   rcases Am.1 f with f|f
   .exact l y f
   .simp only[AM,AN,IE]at f;rw[f];exact A)
  refine#[b,Y,d,G,H,I,J,?_];rw[yt,zr (Y1:=[AA (.loc 0),AA (.loc L1),AA (.int a),p3,p4,p5,p6,p7,p8]) rfl,E];exact L
def zbM{ns:Hs Hw}(b:ns.length<=1000)(k:Ht){B st:SO}(h:Frm ns B st):∃v c,isS v/\Frm ns B c/\yc T (k+5) yjn [.loc 0] st=.ok v c:=by
 have q:T yjn=AA #[1,9,AB,yp.body]:=rfl;have pos:=h.pos;have j:=h.app (.lst []);let#[n,l,I,J,o,d]:=zox (k+1) b (m:=6) () () j;have d:yc T (k+4) ya [.loc 0,.int 6] (st++[.lst []])=_:=d;have u:=o.frm j;have f:l[st.length]?=AA (.lst []):=by rw[o.get ()];simp
 have g:∀s,yX .max s [.int 0,.int (n-2)]=AA (.int ((n-2).toNat:Ht)):=λs=>by
  erw[yX,maxV]
  congr 2
  split<;>lia
 let#[w,Y,p,y,z,A,C,D]:=zea b k (L1:=st.length) () h.len (n-2).toNat 0 [] AD AD AD AD AD AD AD l u f (by simp;lia) (by simp);have E:=zbj (n-2).toNat ();have G:yX .tuple p [.loc st.length]=AA (.tp AB w):=by simp[yX,ycs,yQ,C]
 refine#[_,p,zpI y z,A,?_]
 have H:yp.body=(match yp.body with
  |.cons a (.cons (.for t i _) r)=>.cons a (.cons (.for t i snB) r)
  |x=>x):=rfl
 rw[zo q rfl rfl];dsimp only;rw[H];simp! [yp,zM,Ab,d,g,E,D,G]
def ybW(v:PV):Prop:=∃c x,97<=c/\c<=122/\ydg x/\v=.tp AB [.str #[(Hs.toArray [c])],x]
def zjT{v:PV}(h:ybW v):yaI AC v=true:=by
 let#[c,x,a,b,d,rfl]:=h;have f:ltr (.str #[(Hs.toArray [c])])=true:=by simp[ltr,a,b]
 erw[yaI,plS,f,zeA d,BM]
def zc8{v:PV}(h:ybW v):tam 2 10 v=true:=by
 let#[c,x,d,f,b,rfl]:=h;refine zt.2 #[by lia,by simp,λy a=>?_];erw[AM,AN,IE]at a;rcases a with rfl|rfl
 .exact zdI () ()
 .exact zgs b
def two(xs:Hs PV):Prop:=xs.Pairwise λa b=>peq a b=AB
def zlm{xs:Hs PV}(h:∀y∈xs,ybW y):ybj 60 xs=true:=zcf 2 10 xs 60 ((zbQ 2 10 xs).2 λx a=>zc8 (h x a)) ()
def zd2{v:PV}:∀{xs:Hs PV},inL v xs=AB->∀y∈xs,peq y v=AB
 |[],_=>λy a=>by cases a
 |x::xs,h=>λy a=>by
  erw[inL,Hy.or_eq_false_iff]at h;rcases AM.1 a with rfl|a
  .exact h.1
  .exact zd2 h.2 y a
def zgf{xs:Hs PV}{v:PV}(h:two xs)(d:inL v xs=AB):two (xs++[v]):=by refine Hs.pairwise_append.2 #[h,by simp,λa f b c=>?_];erw[AM,AN,IE]at c;subst c;exact zd2 d a f
def someE:Ce:=.idx (.var 1) (.call ya (.cons (.var 2) (.cons (.blt .len (.cons (.var 1) .nil)) .nil)))
theorem ycn{xs:Hs PV}{st:SO}{C:Ht}(h:st[C]?=AA (.lst xs)):yX .len st [.loc C]=AA (.int xs.length):=by simp[yX,lenV,yaM,h]
def zoP{xs:Hs PV}{st:SO}{C:Ht}(h:st[C]?=AA (.lst xs))(i:PV):idxV st (.loc C) i=idxV st (.lst xs) i:=by erw[idxV,h]
def zo6{ns:Hs Hw}(b:ns.length<=1000)(k:Ht){xs:Hs PV}{C:Ht}(o:C≠0)(z:0<xs.length)(p:xs.length<=1000):∀(N:Ht) (a:Hw) (st:SO),Drw ns 0 st->st[C]?=AA (.lst xs)->∃c d,c.length=N/\(∀y∈c,y∈xs)/\Onl ns 0 st d /\
  yR (yc T (k+3)) [AD,AA (.loc C),AA (.loc 0)] (.n 0) (.cst (.bl AC)) someE (yt N a 1) st=.ok c d
 |0,a,st,h,f=>#[[],st,rfl,by simp,h.refl,by rw[yt,zaG]]
 |N+1,a,st,h,f=>by
  let#[w,g,A,w1,j,B]:=zoy k b (m:=(xs.length:Hw)) () () h;let#[x,q,D]:=zeJ (st:=g) A w1;have r:g[C]?=AA (.lst xs):=by rw[j.get o];exact f
  let#[c,E,l,t,G,H]:=zo6 b k o z p N (a+1) g (j.drw h) (by rw[j.get o];exact f);refine#[x::c,E,by simp[l],λy u=>?_,j.trans G,?_]
  .rcases AM.1 u with rfl|u
   .exact q
   .exact t y u
  .have one:yaC (yc T (k+3)) [AD,AA (.loc C),AA (.loc 0)] (.n 0) (.cst (.bl AC)) someE (.int a) st=.ok (AA x) g:=by simp! [yaC,someE,ycn f,B,zoP r,D]
   rw[yt,zH,one,bd_ok,H,bd_ok];rfl
def names13:Hs PV:=[.str "set",.str "move",.str "bare",.str "sum",.str "less",.str "both",.str "any",.str "odd",.str "twice",.str "half",.str "times",.str "mark",.str "ask"]
def four:Hs PV:=[.str "move",.str "bare",.str "twice",.str "half"]
def zfF:∀x∈names13,∃s,x=.str s/\tam 1 10 (.str s)=AC/\(s=AE "mark" \/ s=AE "ask" \/ s=AE "set" \/ s=AE "times" \/
  ((s≠AE "mark"/\s≠AE "ask"/\s≠AE "set"/\s≠AE "times")/\((s=AE "move" \/ s=AE "bare" \/ s=AE "twice" \/ s=AE "half")/\inL (.str s) four=AC \/ (s=AE "sum" \/ s=AE "less" \/ s=AE "both" \/ s=AE "any" \/ s=AE "odd")/\inL (.str s) four=AB))):=by
 intro x a;erw[names13,AM,AN,IE]at a;rcases a with rfl|rfl|rfl|rfl|rfl|rfl|rfl|rfl|rfl|rfl|rfl|rfl|rfl<;>refine#[_,rfl,by decide +kernel,?_]
 case inl=>exact .inr (.inr (.inl rfl))
 case inr.inr.inr.inr.inr.inr.inr.inr.inr.inr.inl=>exact .inr (.inr (.inr (.inl rfl)))
 case inr.inr.inr.inr.inr.inr.inr.inr.inr.inr.inr.inl=>exact .inl rfl
 case inr.inr.inr.inr.inr.inr.inr.inr.inr.inr.inr.inr=>exact .inr (.inl rfl)
 all_goals refine .inr (.inr (.inr (.inr #[#[by decide +kernel,by decide +kernel,by decide +kernel,by decide +kernel],?_])))
 all_goals first|exact .inl #[by simp,by decide +kernel]|exact .inr #[by simp,by decide +kernel]
inductive Rww(xs:Hs PV):AQ->Hs PV->Prop
 |mark {q:Hw} (q0:0<=q) (q1:q<2):Rww xs (AE "mark") [.int q]
 |ask {c:PV} (hc:c∈xs):Rww xs (AE "ask") [c]
 |set {c:PV} {q:Hw} (hc:c∈xs) (q0:0<=q) (q1:q<2):Rww xs (AE "set") [c,.int q]
 |times {a b c d:PV} (ha:a∈xs) (hb:b∈xs) (hc:c∈xs) (hd:d∈xs) (hn:peq a b=AB):Rww xs (AE "times") [a,b,c,d]
 |one {s:AQ} {a b:PV} (hs:s=AE "move" \/ s=AE "bare" \/ s=AE "twice" \/ s=AE "half") (ha:a∈xs) (hb:b∈xs):Rww xs s [a,b]
 |two {s:AQ} {a b c:PV} (hs:s=AE "sum" \/ s=AE "less" \/ s=AE "both" \/ s=AE "any" \/ s=AE "odd") (ha:a∈xs) (hb:b∈xs) (hc:c∈xs):Rww xs s [a,b,c]
def zoF{s:AQ}{n:Ht}{ps:Hs PV}(b:yab s yb=AA (.tp AC (AL n yaz)))(a:ps.length=n)(d:∀p∈ps,ybW p)(f:s=yac->unl ps=AC):yat AC (.tp AB (.str s::ps))=true:=by
 erw[yat,b,Bg];rw[Hv a,zcx n ps a,BA.2 λp g=>zjT (d p g)]
 by_cases c:s=yac
 .rw[f c];simp
 .rw[Hu c];simp
def srT:Css:=match yw.body with
 |.cons _ (.cons _ (.cons _ (.cons _ r)))=>r
 |_=>.nil
def ydH:Css:=match srT with | .cons _ r=>r|x=>x
def yd4:Css:=match ydH with | .cons _ r=>r|x=>x
def ydJ:Css:=match yd4 with | .cons _ r=>r|x=>x
def yfk:Css:=match ydJ with | .cons _ r=>r|x=>x
theorem sS0:srT=(match yw.body with | .cons _ (.cons _ (.cons _ (.cons _ (.cons a _))))=>.cons a ydH|x=>x):=rfl
theorem sS1:ydH=(match yw.body with | .cons _ (.cons _ (.cons _ (.cons _ (.cons _ (.cons a _)))))=>.cons a yd4|x=>x):=rfl
theorem sS2:yd4=(match yw.body with | .cons _ (.cons _ (.cons _ (.cons _ (.cons _ (.cons _ (.cons a _))))))=>.cons a ydJ|x=>x):=rfl
theorem sS3:ydJ=(match yw.body with | .cons _ (.cons _ (.cons _ (.cons _ (.cons _ (.cons _ (.cons _ (.cons a _)))))))=>.cons a yfk|x=>x):=rfl
theorem sS4:yfk=(match yw.body with | .cons _ (.cons _ (.cons _ (.cons _ (.cons _ (.cons _ (.cons _ (.cons _ a)))))))=>a|x=>x):=rfl
def yeK(o:Option SO)(k:SO->Fl):Fl:=match o with
 |none=>.bad
 |some st=>k st
def zfn{st:SO}{k:SO->Fl}:yeK (AA st) k=k st:=rfl
def zjn{call:Cl}{Y:IC.Env}{st:SO}{o i p j e f:Ce}:ex call Y st (.six2 o i p j e f)=(ev call Y st e).fl Y λv c=>(ev call Y c f).fl Y λw d=>(ev call Y d o).fl Y λx g=>(ev call Y g i).fl Y λy a=>yeK (yaE a x y v) λl=>(ev call Y l p).fl Y λn m=>(ev call Y m j).fl Y λq b=>stO Y (yaE b n q w):=by
 rw[ex];refine IJ _ (funext λv=>funext λc=>IJ _ (funext λw=>funext λd=>IJ _ (funext λx=>funext λg=>IJ _ (funext λy=>funext λa=>?_))))
 cases yaE a x y v with
 |none=>rfl
 |some l=>
  dsimp only[yeK];refine IJ _ (funext λn=>funext λm=>IJ _ (funext λq=>funext λb=>?_))
  cases yaE b n q w<;>rfl
def znG{xs:Hs PV}{s:AQ}{ps:Hs PV}(h:Rww xs s ps)(g:∀x∈xs,ybW x):yat AC (.tp AB (.str s::ps))=AC/\tam 4 10 (.tp AB (.str s::ps))=true:=by
 have ti:∀d i,tam d 10 (.int i)=true:=λ_ _=>rfl;have m:∀{c:PV},c∈xs->tam 3 10 c=true:=λj=>zK () () _ (zc8 (g _ j));have big:∀{s:AQ} {ps:Hs PV},tam 3 10 (.str s)=AC->ps.length<=4->(∀p∈ps,tam 3 10 p=AC)->tam 4 10 (.tp AB (.str s::ps))=true:=λ{s ps} a b c=>zt.2 #[by lia,by simp;lia,λx g=>by
  rcases AM.1 g with rfl|g
  .exact a
  .exact c x g]
 have o:∀{q:Hw},0<=q->q<2->prS AC (.tup [.str yaS,.int q])=true:=λ{q} r t=>by
  have:peq (.str yaS) (.str yaS)=true:=by rw[z7];simp
  erw[prS,opS,this,ID,wh];rw[Hv r,Hv ()];rfl
 cases h with
 |mark r t=>
  refine#[?_,big (by decide +kernel) (by simp) λp f=>by simp at f;rw[f];exact ti _ _];have u:yab (AE "mark") yb=AA (.tp AC [.str yaS]):=by ac_rfl
  have w:decide (AE "mark"=yac)=false:=by decide +kernel
  simp[yat,u,yag,o r t,w]
 |ask j=>
  refine#[zoF (n:=1) (by ac_rfl) rfl (λp f=>by simp at f;rw[f];exact g _ j) (λe=>IB e (by decide +kernel)),big (by decide +kernel) (by simp) λp f=>by simp at f;rw[f];exact m j]
 |@set c q j r t=>
  refine#[?_,big (by decide +kernel) (by simp) λp f=>by
   erw[AM,AN,IE]at f;rcases f with rfl|rfl
   .exact m j
   .exact ti _ _]
  have u:yab (AE "set") yb=AA (.tp AC [yaz,.str yaS]):=by ac_rfl
  have w:decide (AE "set"=yac)=false:=by decide +kernel
  have f:prS AC (.tup [yaz,c])=true:=by
   have:peq yaz (.str yaS)=false:=by rw[z7];decide +kernel
   erw[prS,opS,this,A5,IG];exact zjT (g _ j)
  simp[yat,u,yag,f,o r t,w]
 |@times a b c d z A j C B=>
  have l:∀p∈[a,b,c,d],p∈xs:=λp f=>by erw[AM,AN,IE]at f;rcases f with rfl|rfl|rfl|rfl<;>assumption
  exact#[zoF (n:=4) (by ac_rfl) rfl (λp f=>g p (l p f)) (λ_=>by show (!peq a b)=AC;rw[B];rfl),big (by decide +kernel) (by simp) λp f=>m (l p f)]
 |@one s a b y z A=>
  have l:∀p∈[a,b],p∈xs:=λp f=>by erw[AM,AN,IE]at f;rcases f with rfl|rfl<;>assumption
  rcases y with rfl|rfl|rfl|rfl<;>exact#[zoF (n:=2) (by ac_rfl) rfl (λp f=>g p (l p f)) (λe=>IB e (by decide +kernel)),big (by decide +kernel) (by simp) λp f=>m (l p f)]
 |@two s a b c y z A j=>
  have l:∀p∈[a,b,c],p∈xs:=λp f=>by erw[AM,AN,IE]at f;rcases f with rfl|rfl|rfl<;>assumption
  rcases y with rfl|rfl|rfl|rfl|rfl<;>exact#[zoF (n:=3) (by ac_rfl) rfl (λp f=>g p (l p f)) (λe=>IB e (by decide +kernel)),big (by decide +kernel) (by simp) λp f=>m (l p f)]
def zix(k:Ht){s:AQ}{f m:PV}{xs:Hs PV}{q:Hw}{p2:Option PV}{d c a b:PV}{st:SO}{C:Ht}(O:st[C]?=AA (.lst (f::m::xs)))(Q:∀x∈f::m::xs,ybW x)(L:two (f::m::xs))(B:∀y∈[d,c,a,b],y∈f::m::xs)(U:0<=q)(X:q<2)
  (ts:tam 1 10 (.str s)=AC) (l:s=AE "mark" \/ s=AE "ask" \/ s=AE "set" \/ s=AE "times" \/
  ((s≠AE "mark"/\s≠AE "ask"/\s≠AE "set"/\s≠AE "times")/\((s=AE "move" \/ s=AE "bare" \/ s=AE "twice" \/ s=AE "half")/\inL (.str s) four=AC \/ (s=AE "sum" \/ s=AE "less" \/ s=AE "both" \/ s=AE "any" \/ s=AE "odd")/\inL (.str s) four=AB))):
  ∃Y zs,Rww (f::m::xs) s Y/\exs (yc T (k+3)) [AA (.loc 0),AA (.loc C),p2,AA (.str s),AA (.int q),AA (.loc st.length)] (st++[.lst [d,c,a,b]]) srT=.rt (.tp AB (.str s::Y)) (st++[.lst zs]):=by
 have n:∀g j,(st++[Ob.lst [g,j,a,b]])[st.length]?=AA (.lst [g,j,a,b]):=λg j=>by simp
 have p:∀g j,idxV (st++[Ob.lst [g,j,a,b]]) (.loc st.length) (.int 0)=AA g:=λg j=>by erw[idxV,n];rfl
 have D:∀g j,idxV (st++[Ob.lst [g,j,a,b]]) (.loc st.length) (.int 1)=AA j:=λg j=>by erw[idxV,n];rfl
 have M:∀g j,idxV (st++[Ob.lst [g,j,a,b]]) (.loc st.length) (.int 2)=AA a:=λg j=>by erw[idxV,n];rfl
 have Z:∀g j,idxV (st++[Ob.lst [g,j,a,b]]) (.loc st.length) (.int 3)=AA b:=λg j=>by erw[idxV,n];rfl
 have hc:∀o,(st++[o])[C]?=AA (.lst (f::m::xs)):=λo=>by rw[AY (A3.1 O).1];exact O
 have j0:∀o,idxV (st++[o]) (.loc C) (.int 0)=AA f:=λo=>by
  rw[zoP (hc o)];have:ixI (f::m::xs).length 0=AA 0:=by simp[ixI];lia
  erw[idxV,yaQ,at?,this];rfl
 have j1:∀o,idxV (st++[o]) (.loc C) (.int 1)=AA m:=λo=>by
  rw[zoP (hc o)];have:ixI (f::m::xs).length 1=AA 1:=by simp[ixI];lia
  erw[idxV,yaQ,at?,this];rfl
 have em:=zoA ts () (AE "mark") (by decide +kernel);have w:=zoA ts () (AE "ask") (by decide +kernel);have z:=zoA ts () (AE "set") (by decide +kernel);have r:=zoA ts () (AE "times") (by decide +kernel);rw[z7]at em w z r;have t:=B d (by simp);have E:=B c (by simp);have N:=B a (by simp);have m3:=B b (by simp)
 by_cases G:s=AE "mark"
 .refine#[[.int q],[d,c,a,b],G ▸ .mark U X,?_];rw[Hv G]at em;rw[sS0];simp! [yw,em]
 rw[Hu G]at em;have r0:exs (yc T (k+3)) [AA (.loc 0),AA (.loc C),p2,AA (.str s),AA (.int q),AA (.loc st.length)] (st++[.lst [d,c,a,b]]) srT=exs (yc T (k+3)) [AA (.loc 0),AA (.loc C),p2,AA (.str s),AA (.int q),AA (.loc st.length)] (st++[.lst [d,c,a,b]]) ydH:=by rw[sS0];simp! [yw,em]
 rw[r0]
 by_cases H:s=AE "ask"
 .refine#[[d],[d,c,a,b],H ▸ .ask t,?_];rw[Hv H]at w;rw[sS1];simp! [yw,w,p]
 rw[Hu H]at w;have r1:exs (yc T (k+3)) [AA (.loc 0),AA (.loc C),p2,AA (.str s),AA (.int q),AA (.loc st.length)] (st++[.lst [d,c,a,b]]) ydH=exs (yc T (k+3)) [AA (.loc 0),AA (.loc C),p2,AA (.str s),AA (.int q),AA (.loc st.length)] (st++[.lst [d,c,a,b]]) yd4:=by rw[sS1];simp! [yw,w]
 rw[r1]
 by_cases I:s=AE "set"
 .refine#[[d,.int q],[d,c,a,b],I ▸ .set t U X,?_];rw[Hv I]at z;rw[sS2];simp! [yw,z,p]
 rw[Hu I]at z;have r2:exs (yc T (k+3)) [AA (.loc 0),AA (.loc C),p2,AA (.str s),AA (.int q),AA (.loc st.length)] (st++[.lst [d,c,a,b]]) yd4=exs (yc T (k+3)) [AA (.loc 0),AA (.loc C),p2,AA (.str s),AA (.int q),AA (.loc st.length)] (st++[.lst [d,c,a,b]]) ydJ:=by rw[sS2];simp! [yw,z]
 rw[r2]
 by_cases A:s=AE "times"
 .rw[Hv A]at r;have J:yJ .eq d c=AA (.bl (peq d c)):=by erw[yJ];rw[Hz (by rw[zbb (zc8 (Q _ t)) (),zbb (zc8 (Q _ E)) ()];rfl)]
  cases e:peq d c with
  |false=>
   rw[e]at J;refine#[[d,c,a,b],[d,c,a,b],A ▸ .times t E N m3 e,?_];rw[sS3];simp! [yw,r,p,D,M,Z,J]
  |true=>
   rw[e]at J;refine#[[f,m,a,b],[f,m,a,b],A ▸ .times (by simp) (by simp) N m3 (Hs.rel_of_pairwise_cons L (by simp)),?_];have s0:yaE (st++[Ob.lst [d,c,a,b]]) (.loc st.length) (.int 0) f=AA (st++[.lst [f,c,a,b]]):=by erw[yaE,n];rw[show ixI ([d,c,a,b]:Hs PV).length 0=AA 0 from rfl];simp
   have s1:yaE (st++[Ob.lst [f,c,a,b]]) (.loc st.length) (.int 1) m=AA (st++[.lst [f,m,a,b]]):=by erw[yaE,n];rw[show ixI ([f,c,a,b]:Hs PV).length 1=AA 1 from rfl];simp
   rw[sS3];simp! [yw,r,p,D,M,Z,J,zjn,j0,j1,s0,zfn,s1,za3]
 rw[Hu A]at r;have r3:exs (yc T (k+3)) [AA (.loc 0),AA (.loc C),p2,AA (.str s),AA (.int q),AA (.loc st.length)] (st++[.lst [d,c,a,b]]) ydJ=exs (yc T (k+3)) [AA (.loc 0),AA (.loc C),p2,AA (.str s),AA (.int q),AA (.loc st.length)] (st++[.lst [d,c,a,b]]) yfk:=by rw[sS3];simp! [yw,r]
 rw[r3,sS4];rcases l with l|l|l|l|⟨_,l⟩
 .exact IB l G
 .exact IB l H
 .exact IB l I
 .exact IB l A
 have u:yJ .isin (.str s) (.tp AB four)=AA (.bl (inL (.str s) four)):=rfl;rcases l with⟨l,e⟩|⟨l,e⟩
 .rw[e]at u;erw[four]at u;refine#[[d,c],[d,c,a,b],.one l t E,?_];simp! [yw,u,p,D]
 .rw[e]at u;erw[four]at u;refine#[[d,c,a],[d,c,a,b],.two l t E N,?_];simp! [yw,u,p,D,M]
def ziH{ns:Hs Hw}(n:ns.length<=1000)(k:Ht){st:SO}(h:Drw ns 0 st){xs:Hs PV}{C:Ht}(o:C≠0)(I:st[C]?=AA (.lst xs))(O:∀x∈xs,ybW x)(B:two xs)(Q:2<=xs.length)(U:xs.length<=30):
  ∃s r d D,Rww xs s r/\Onl ns 0 st d/\yc T (k+4) yiX [.loc 0,.loc C] st=.ok (.tp AB (.str s::r)) (d++[.lst D]):=by
 have X:T yiX=AA #[2,6,AB,yw.body]:=rfl;let#[w,s1,Y,w1,p,Z]:=zoy k n (m:=13) () () h;let#[x,E,J]:=zc7 (k:=AB) (xs:=names13) Y (show w<((13:Ht):Hw)from w1);let#[s,rfl,ts,hk]:=zfF x E;let#[q,s2,q0,q1,u,e2]:=zoy k n (m:=2) () () (p.drw h);let#[L,d,l3,t3,M,e3]:=zo6 n k (xs:=xs) o () () 4 0 s2 (u.drw (p.drw h)) (by rw[u.get o,p.get o];exact I);obtain⟨y,z,A,rfl⟩:∃y z A,xs=y::z::A:=by
  match xs,Q with
  |y::z::A,_=>exact#[y,z,A,rfl]
 obtain⟨f,g,j,l,rfl⟩:∃f g j l,L=[f,g,j,l]:=by
  match L,l3 with
  |[f,g,j,l],_=>exact#[f,g,j,l,rfl]
 let#[r,D,r4,N]:=zix k (st:=d) (p2:=AA (.tp AB names13)) (C:=C) (by rw[M.get o,u.get o,p.get o];exact I) O B t3 q0 q1 ts hk;refine#[s,r,d,D,r4,(p.trans u).trans M,?_];have hr:ybE (.int 4)=AA (yt 4 0 1):=rfl;have G:ybi (.ok [f,g,j,l] d)=.ok (.lst [f,g,j,l]) d:=zV _ (by simp) _;have H:ycb (.lst [f,g,j,l]) d=.ok (.loc d.length) (d++[.lst [f,g,j,l]]):=rfl
 have hb:yw.body=(match yw.body with
  |.cons a (.cons b (.cons c (.cons (.asg t (.thw (.comp sl tg it c2 _))) _)))=>.cons a (.cons b (.cons c (.cons (.asg t (.thw (.comp sl tg it c2 someE))) srT)))
  |_=>.nil):=rfl
 rw[zo X rfl rfl];dsimp only;rw[hb];erw[names13]at J N;simp! [yw,zM,Ab,Z,J,e2,IC.ve30,hr,e3,G,H,N]
def trB:Css:=match yo.body with
 |.cons _ (.cons (.for _ _ b) _)=>b
 |_=>.nil
def trT:Css:=match yo.body with
 |.cons _ (.cons _ r)=>r
 |_=>.nil
def zex{ns:Hs Hw}(g:ns.length<=1000)(k:Ht){B:SO}{L:Ht}(t:L≠0)(E:B.length<=L):∀(N:Ht) (a:Hw) (b:Hs PV) (p2 p3:Option PV) (st:SO),(∀y∈b,ybW y)->two b->b.length+N<=20->Frm ns B st->st[L]?=AA (.lst b) ->
  ∃d u w f,(∀y∈d,ybW y)/\two d/\d.length<=b.length+N/\(0<b.length+N->0<d.length)/\Frm ns B f/\f[L]?=AA (.lst d) /\
   yaT (yc T (k+4)) (.n 2) trB (yt N a 1) [AA (.loc 0),AA (.loc L),p2,p3] st=.nx [AA (.loc 0),AA (.loc L),u,w] f
 |0,a,b,p2,p3,st,z,A,h3,h,C=>#[b,p2,p3,st,z,A,by lia,by lia,h,C,by rw[yt,zO]]
 |N+1,a,b,p2,p3,st,z,A,h3,h,C=>by
  let#[c,s1,c0,c1,G,U]:=za4 g k h.dr;have X:=G.frm h;have hL1:L<st.length:=(A3.1 C).1;have ln1:=G.len;let#[x,m,hx,Y,Z]:=zbZ g k (Frm.refl X.dr);have g2:=X.trans Y;have j:m[L]?=AA (.lst b):=by rw[Y.get L t (),G.get t];exact C
  obtain⟨v,l⟩:∃v:PV,v=.tp AB [.str ⟨(Hs.toArray [c])⟩,x]:=#[_,rfl];have hv:ybW v:=#[c,x,c0,c1,hx,l];have o:ycr m v (.loc L)=AA (.bl (!inL v b)):=by erw[ycr,yaM,j];rw[Hz (by rw[zbb (zc8 hv) (),zlm z];rfl)]
  cases q:inL v b with
  |true=>
   rw[q]at o;let#[d,u,w,f,H,I,r3,D,J,M,O]:=zex g k t E N (a+1) b (AA (.int a)) (AA v) m z A () g2 j;have:0<b.length:=by
    cases b with
    |nil=>simp[inL]at q
    |cons x r=>simp
   refine#[d,u,w,f,H,I,by lia,λ_=>D (),J,M,?_];rw[l]at o;have Q:exs (yc T (k+4)) [AA (.loc 0),AA (.loc L),AA (.int a),p3] st trB=.nx [AA (.loc 0),AA (.loc L),AA (.int a),AA v] m:=by rw[l];simp! [trB,yo,U,Z,IC.ve31,o,Ab]
   rw[yt,zr (Y1:=[AA (.loc 0),AA (.loc L),AA (.int a),p3]) rfl,Q];exact O
  |false=>
   rw[q]at o;let#[m1,m2]:=zba (v:=v) j ();let#[d,u,w,f,H,I,r3,D,J,M,O]:=zex g k t E N (a+1) (b++[v]) (AA (.int a)) (AA v) (m.set L (.lst (b++[v]))) (λy p=>by
    rcases Am.1 p with p|p
    .exact z y p
    .simp at p;rw[p];exact hv) (zgf A q) (by simp;lia) (g2.put t E _) (rdS j)
   rw[AO,Bi]at r3 D;refine#[d,u,w,f,H,I,by lia,λ_=>D (),J,M,?_];have Q:exs (yc T (k+4)) [AA (.loc 0),AA (.loc L),AA (.int a),p3] st trB=.nx [AA (.loc 0),AA (.loc L),AA (.int a),AA v] (m.set L (.lst (b++[v]))):=by rw[l]at o m2 ⊢;simp! [trB,yo,U,Z,IC.ve31,o,m1,m2,Ab]
   rw[yt,zr (Y1:=[AA (.loc 0),AA (.loc L),AA (.int a),p3]) rfl,Q];exact O
def isR(v:PV):Prop:=yat AC v=AC/\tam 4 10 v=AC
def zjY{ns:Hs Hw}(b:ns.length<=1000)(k:Ht){B st:SO}(h:Frm ns B st){L:Ht}(g:L≠0){xs:Hs PV}(j:st[L]?=AA (.lst xs))(f:∀x∈xs,ybW x)(c:two xs)(l:2<=xs.length)(d:xs.length<=30):∃v a,isR v/\Frm ns B a/\yc T (k+4) yiX [.loc 0,.loc L] st=.ok v a:=by let#[s,m,n,p,r,o,e]:=ziH b k h.dr g j f c l d;exact#[_,_,znG r f,(o.frm h).app _,e]
def zee{ns:Hs Hw}(g:ns.length<=1000)(k:Ht){B st:SO}(h:Frm ns B st):∃v l,isR v/\Frm ns B l/\yc T (k+5) yi0 [.loc 0] st=.ok v l:=by
 have M:T yi0=AA #[1,4,AB,yo.body]:=rfl;have pos:=h.pos;have u:st.length≠0:=by lia
 have N:=h.app (.lst []);let#[n,O,n0,n1,Q,z]:=zox (k+1) g (m:=3) () () N;have z:yc T (k+4) ya [.loc 0,.int 3] (st++[.lst []])=_:=z;have g1:=Q.frm N;have C:O[st.length]?=AA (.lst []):=by rw[Q.get ()];simp
 let#[n,rfl]:=zbU n0;let#[A,q2,q3,U,D,X,r3,Y,Z,o,r7]:=zex g k u h.len (2+n) 0 [] AD AD O (by simp) GN (by simp;lia) g1 C;have Y:=Y ();erw[Ap,DV]at r3;have hr:ybE (.int (2+(n:Hw)))=AA (yt (2+n) 0 1):=by have:=zbj (2+n) ();rw[<-this];congr 2
 have hb:yo.body=(match yo.body with
  |.cons a (.cons (.for t i _) _)=>.cons a (.cons (.for t i trB) trT)
  |x=>x):=rfl
 have f:=ycn o
 by_cases cz:A.length=1
 .obtain⟨x,rfl⟩:∃x,A=[x]:=by
   match A,cz with
   |[x],_=>exact#[x,rfl]
  let#[c,x4,c0,c1,p,rfl]:=D x (by simp);have hx4':=p;let#[a,b,d,e,rfl,b1,b2,b3,b4,b5,b6,b7,b8]:=p;have i0:idxV U (.loc st.length) (.int 0)=AA (.tp AB [.str #[(Hs.toArray [c])],.tp AB [.int a,.int b,.int d,.int e]]):=by erw[idxV,o];rfl
  have q:yO .mod (.int a) (.int 90)=AA (.int (a%90)):=ziW ();obtain⟨v,E⟩:∃v:PV,v=.tp AB [.str ⟨(Hs.toArray [c])⟩,.tp AB [.int (a%90+1),.int 0,.int 0,.int 1]]:=#[_,rfl];have cv:ybW v:=#[c,_,c0,c1,#[a%90+1,0,0,1,rfl,by lia,by lia,by lia,by lia,by lia,by lia,by lia,by lia],E];let#[m1,G]:=zba (v:=v) o (by simp);let#[w,H,I,J,r]:=zjY g k (Z.put u h.len (.lst ([.tp AB [.str #[(Hs.toArray [c])],.tp AB [.int a,.int b,.int d,.int e]]]++[v]))) u (rdS o) (λy j=>by
   rcases Am.1 j with j|j
   .exact D y j
   .simp at j;rw[j];exact cv) (zgf X (by
    rw[E];have:(a==a%90+1)=false:=by simp;lia
    simp[inL,peq,yci,this])) (by simp) (by simp)
  refine#[w,H,I,J,?_];rw[zo M rfl rfl];dsimp only;rw[hb];have f:yX .len U [.loc st.length]=AA (.int 1):=f;rw[E]at G r;erw[BD,BG]at G r;simp! [yo,zM,Ab,z,hr,r7];simp! [trT,yo,zM,f,c_eq,IP,m1,i0,ix0,ix1,q,G,r,Ab]
 .let#[w,H,I,J,r]:=zjY g k Z u o D X () ();refine#[w,H,I,J,?_];rw[zo M rfl rfl];dsimp only;rw[hb];have L:((A.length:Hw)==1)=false:=by simp;lia
  simp! [yo,zM,Ab,z,hr,r7];simp! [trT,yo,zM,f,L,r]
def zcn{ok:Hy}{f:PV->Hy}{r:PV}(h:yat AC r=AC):prt ok f (.tp AB [.str ya4,r])=true:=by
 have a:peq (.str ya4) (.str ya4)=true:=by ac_rfl
 erw[prt,a,ID,in1,h]
def zbR{f:PV->Hy}{c s:PV}{ps:Hs PV}(a:told 3 c=AC)(b:sen s=AC)(d:∀p∈ps,f p=AC):prt AC f (.tp AB [.str yaH,c,s,.tp AB ps])=true:=by
 have g:peq (.str yaH) (.str ya4)=false:=by ac_rfl
 have j:peq (.str yaH) (.str yaH)=true:=by ac_rfl
 erw[prt,g,j,A5,IG,in3,a,b,yaj,BA.2 d,BM]
def isQ(f:PV->Hy)(d:Ht)(v:PV):Prop:=f v=AC/\tam d 10 v=AC
def zkB{ok:Hy}{f:PV->Hy}{r:PV}{d:Ht}(b:5<=d)(h:isR r):isQ (prt ok f) d (.tp AB [.str ya4,r]):=by
 refine#[zcn h.1,zt.2 #[by lia,by simp,λx a=>?_]];erw[AM,AN,IE]at a;rcases a with rfl|rfl
 .exact zK (d:=0) (m:=10) () () _ (by decide +kernel)
 .exact zK () () _ h.2
def zni{f:PV->Hy}{c s:PV}{ps:Hs PV}{d:Ht}(l:5<=d)(b:ydF c)(g:isS s)(n:ps.length<=10)(j:∀p∈ps,isQ f d p):isQ (prt AC f) (d+2) (.tp AB [.str yaH,c,s,.tp AB ps]):=by
 refine#[zbR (zdt b) g.1 λp h=>(j p h).1,zt.2 #[by lia,by simp,λx a=>?_]];erw[AM,AN,IE]at a;rcases a with rfl|rfl|rfl|rfl
 .exact zK (d:=0) (m:=10) () () _ (by decide +kernel)
 .exact zK () () _ (znx b)
 .exact zK () () _ g.2
 .exact zt.2 #[by lia,by lia,λx a=>zK () () _ (j x a).2]
def deE:Ce:=.tup (.cons (.cst (.str ya4)) (.cons (.call yi0 (.cons (.var 1) .nil)) .nil))
def zo7{ns:Hs Hw}(b:ns.length<=1000)(k:Ht){B:SO}:∀(N:Ht) (a:Hw) (st:SO),Frm ns B st->∃c d,c.length=N/\(∀y∈c,∃r,isR r/\y=.tp AB [.str ya4,r])/\Frm ns B d /\
  yR (yc T (k+5)) [AD,AA (.loc 0)] (.n 0) (.cst (.bl AC)) deE (yt N a 1) st=.ok c d
 |0,a,st,h=>#[[],st,rfl,by simp,h,by rw[yt,zaG]]
 |N+1,a,st,h=>by
  let#[r,g,j,m,o]:=zee b k h;let#[c,p,l,t,q,u]:=zo7 b k N (a+1) g m;refine#[.tp AB [.str ya4,r]::c,p,by simp[l],λy f=>?_,q,?_]
  .rcases AM.1 f with rfl|f
   .exact#[r,j,rfl]
   .exact t y f
  .have one:yaC (yc T (k+5)) [AD,AA (.loc 0)] (.n 0) (.cst (.bl AC)) deE (.int a) st=.ok (AA (.tp AB [.str ya4,r])) g:=by simp! [yaC,deE,o,Ab]
   rw[yt,zH,one,bd_ok,u,bd_ok];rfl
def teB:Css:=match yr.body with
 |.cons _ (.cons (.for _ _ b) _)=>b
 |_=>.nil
def inB:Css:=match teB with
 |.cons (.ite _ _ (.cons _ (.cons (.for _ _ b) _))) _=>b
 |_=>.nil
def inT:Css:=match inB with
 |.cons _ r=>r
 |x=>x
theorem inE:inB=(match yr.body with
 |.cons _ (.cons (.for _ _ (.cons (.ite _ _ (.cons _ (.cons (.for _ _ (.cons (.asg t (.comp a b d c _)) _)) _))) _)) _)=>.cons (.asg t (.comp a b d c deE)) inT
 |x=>x):=rfl
def zgG{ns:Hs Hw}(g:ns.length<=1000)(k:Ht){w n:Hw}(w0:0<=w)(w1:w<=1000){B st:SO}(h:Frm ns B st){L:Ht}(q:L≠0)(H:B.length<=L){a:Hs PV}(hs:st[L]?=AA (.lst a))(hl:a.length<9)(ha:∀y∈a,isQ ybU 7 y){p3 p4 p6 p7:Option PV}:
  ∃z j q7 l,z≠0/\B.length<=z/\j.length<=a.length+1/\(∀y∈j,isQ ybU 7 y)/\Frm ns B l/\l[z]?=AA (.lst j) /\
   exs (yc T (k+5)) [AA (.loc 0),AA (.int w),AA (.int n),p3,p4,AA (.loc L),p6,p7] st inB=.nx [AA (.loc 0),AA (.int w),AA (.int n),p3,p4,AA (.loc z),p6,q7] l:=by
 have I:L<st.length:=(A3.1 hs).1;let#[m,s1,m0,m1,o1,J]:=zox (k+2) g (m:=3) () () (Frm.refl h.dr);have J:yc T (k+5) ya [.loc 0,.int 3] st=_:=J;let#[m,rfl]:=zbU m0;let#[b,A,l2,t2,f2,e2]:=zo7 g k (B:=st) m 0 s1 (o1.frm (Frm.refl h.dr));let#[u,o,u0,u1,o3,C]:=zox (k+2) g (m:=2) () () f2;have C:yc T (k+5) ya [.loc 0,.int 2] A=_:=C;have D:=o3.frm f2;have p:o[L]?=AA (.lst a):=by rw[D.get L q I];exact hs
 have E:=h.trans D;have t:=zbj m ();have hE:ybi (.ok b A)=.ok (.lst b) A:=zV _ () _;have hd:∀y∈b,isQ ybU 7 y:=λy f=>by let#[r,t,rfl]:=t2 y f;exact zkB () t
 have M:∀y∈b,isQ ycT 5 y:=λy f=>by let#[r,t,rfl]:=t2 y f;exact zkB () t
 have go:exs (yc T (k+5)) [AA (.loc 0),AA (.int w),AA (.int n),p3,p4,AA (.loc L),p6,p7] st inB=exs (yc T (k+5)) [AA (.loc 0),AA (.int w),AA (.int n),p3,p4,AA (.loc L),p6,AA (.lst b)] A inT:=by rw[inE];simp! [yr,J,t,e2,hE]
 rw[go]
 cases hq:(u==0)with
 |true=>
  have cl:=zeq b AD (AA 1);have hf:yb4 (.loc L) o=.ok (.lst a) (o.set L .dead):=by erw[yb4,p]
  have N:ybh (.lst b) AD (AA 1)=AA (.lst (cut b AD (AA 1))):=rfl;have c1:(cut b AD (AA 1)).length<=1:=by
   unfold cut;rw[CC];have:yct b.length (AA 1)<=1:=by simp[yct,ybk];lia
   lia
  have O:yO .add (.lst a) (.lst (cut b AD (AA 1)))=AA (.lst (a++cut b AD (AA 1))):=by erw[yO];rw[Hz (by erw[sizeMax];lia)]
  refine#[(o.set L .dead).length,a++cut b AD (AA 1),AA (.lst b),(o.set L .dead)++[.lst (a++cut b AD (AA 1))],?_,?_,by rw[AO];lia,λy f=>?_,(E.put q H _).app _,by simp,?_]
  .rw[Ay];have:=E.pos;lia
  .rw[Ay];exact E.len
  .rcases Am.1 f with f|f
   .exact ha y f
   .exact hd y (zeo f)
  .have Q:∀v s,ycb (.lst v) s=.ok (.loc s.length) (s++[.lst v]):=λ_ _=>rfl;simp! [inT,inB,teB,yr,C,hq,IC.ve30,hf,za7,zal,zcd,N,O,Q]
 |false=>
  let#[c,s4,hc,G,U]:=zcT (n:=n) g (k+1) (Frm.refl D.dr) w0 w1;let#[s,s5,X,g5,e5]:=zbM g k (Frm.refl G.dr);have U:yc T (k+5) yiG [.loc 0,.int w,.int n] o=_:=U;have ln3:=D.len;have ln4:=G.len;have x:s5[L]?=AA (.lst a):=by rw[g5.get L q (),G.get L q ()];exact p
  have tu:∀s,yX .tuple s [.lst b]=AA (.tp AB b):=λs=>rfl;let#[m1',Y]:=zba (v:=.tp AB [.str yaH,c,s,.tp AB b]) x ();have Z:yas .append o (.loc L)=AA true:=(zba (v:=.non) p ()).1;refine#[L,a++[.tp AB [.str yaH,c,s,.tp AB b]],AA (.lst b),s5.set L (.lst (a++[.tp AB [.str yaH,c,s,.tp AB b]])),q,H,by simp,λy f=>?_,((E.trans G).trans g5).put q H _,rdS x,?_]
  .rcases Am.1 f with f|f
   .exact ha y f
   .simp only[AM,AN,IE]at f;rw[f];exact zni (d:=5) () hc X () M
  .simp! [inT,inB,teB,yr,C,hq,Z,U,e5,tu,Y,Ab]
def zo8{ns:Hs Hw}(f:ns.length<=1000)(k:Ht){w n:Hw}(r:0<=w)(w1:w<=1000){B:SO}{p3 p4:Option PV}:∀(N:Ht) (a:Hw) (c:Hs PV) (L:Ht) (p6 p7:Option PV) (st:SO),Frm ns B st->L≠0->B.length<=L->st[L]?=AA (.lst c)->c.length+N<=9->(∀y∈c,isQ ybU 7 y) ->
  ∃g b m j d,g≠0/\b.length<=9/\(∀y∈b,isQ ybU 7 y)/\Frm ns B d/\d[g]?=AA (.lst b) /\
   yaT (yc T (k+5)) (.n 6) inB (yt N a 1) [AA (.loc 0),AA (.int w),AA (.int n),p3,p4,AA (.loc L),p6,p7] st=.nx [AA (.loc 0),AA (.int w),AA (.int n),p3,p4,AA (.loc g),m,j] d
 |0,a,c,L,p6,p7,st,h,o,t,p,u,q=>#[L,c,p6,p7,st,o,by lia,q,h,p,by rw[yt,zO]]
 |N+1,a,c,L,p6,p7,st,h,o,t,p,u,q=>by let#[x,l,j,z,A,C,X,D,E,G,H]:=zgG (n:=n) f k r w1 h o t p () q (p3:=p3) (p4:=p4) (p6:=AA (.int a)) (p7:=p7);let#[g,b,m,j,d,I,J,M,O,Q,U]:=zo8 (n:=n) f k r w1 (p3:=p3) (p4:=p4) N (a+1) l x (AA (.int a)) j z E A C G () D;refine#[g,b,m,j,d,I,J,M,O,Q,?_];rw[yt,zr (Y1:=[AA (.loc 0),AA (.int w),AA (.int n),p3,p4,AA (.loc L),AA (.int a),p7]) rfl,H];exact U
def teT:Css:=match teB with
 |.cons (.ite _ _ b) _=>b
 |_=>.nil
def yfN:Css:=match teT with
 |.cons _ (.cons _ r)=>r
 |_=>.nil
theorem teE:teB=(match yr.body with
 |.cons _ (.cons (.for _ _ (.cons (.ite c a _) r)) _)=>.cons (.ite c a teT) r
 |x=>x):=rfl
def zpL:teT=(match yr.body with
 |.cons _ (.cons (.for _ _ (.cons (.ite _ _ (.cons a (.cons (.for t i _) _))) _)) _)=>.cons a (.cons (.for t i inB) yfN)
 |x=>x):=rfl
def ziv{ns:Hs Hw}(b:ns.length<=1000)(k:Ht){w n:Hw}(w0:0<=w)(w1:w<=1000){B st:SO}(h:Frm ns B st){L:Ht}(g:L≠0)(hB:B.length<=L){a:Hs PV}(hs:st[L]?=AA (.lst a))(hl:a.length<9)(ha:∀y∈a,isQ yaR 9 y){p4 p5 p6 p7:Option PV}:
  ∃v q5 J M j,isQ yaR 9 v/\Frm ns B j/\j[L]?=AA (.lst (a++[v])) /\
   exs (yc T (k+5)) [AA (.loc 0),AA (.int w),AA (.int n),AA (.loc L),p4,p5,p6,p7] st teB=.nx [AA (.loc 0),AA (.int w),AA (.int n),AA (.loc L),p4,q5,J,M] j:=by
 have N:L<st.length:=(A3.1 hs).1;let#[u,p,u0,u1,o1,D]:=zox (k+2) b (m:=2) () () (Frm.refl h.dr);have D:yc T (k+5) ya [.loc 0,.int 2] st=_:=D;have l:=o1.frm (Frm.refl h.dr);have o:p[L]?=AA (.lst a):=by rw[l.get L g N];exact hs
 have ln1:=o1.len
 cases hq:(u==0)with
 |true=>
  let#[r,q,O,f2,x]:=zee b k (Frm.refl l.dr);have f:q[L]?=AA (.lst a):=by rw[f2.get L g ()];exact o
  have E:=(zba (v:=.non) o ()).1;have Q:=(zba (v:=.tp AB [.str ya4,r]) f ()).2;refine#[_,p5,p6,p7,q.set L (.lst (a++[.tp AB [.str ya4,r]])),zkB () O,((h.trans l).trans f2).put g hB _,rdS f,?_];rw[teE];simp! [yr,D,hq,E,x,Q,Ab]
 |false=>
  have pos:=l.pos;have g0:=l.app (.lst []);let#[m,q,m0,E,o2,x]:=zox (k+2) b (m:=3) () () g0;have x:yc T (k+5) ya [.loc 0,.int 3] (p++[.lst []])=_:=x;let#[m,rfl]:=zbU m0;have g2:Frm ns p q:=o2.frm ((Frm.refl l.dr).app (.lst []));have f:q[p.length]?=AA (.lst []):=by rw[o2.get ()];simp
  let#[t,G,J,M,U,b1,b2,b3,H,b5,e3]:=zo8 (n:=n) b k w0 w1 (B:=p) (p3:=AA (.loc L)) (p4:=p4) m 0 [] p.length p6 p7 q g2 () (AS _) f (by simp;lia) (by simp);have O:=zbj m ();let#[c,s4,hc,z,X]:=zcT (n:=n) b (k+1) (Frm.refl H.dr) w0 w1;have X:yc T (k+5) yiG [.loc 0,.int w,.int n] U=_:=X;let#[s,I,Y,Z,e5]:=zbM b k (Frm.refl z.dr);have ln3:=H.len;have ln4:=z.len;have A:U[L]?=AA (.lst a):=by rw[H.get L g ()];exact o
  have C:I[L]?=AA (.lst a):=by rw[Z.get L g (),z.get L g ()];exact A
  have hL':t < U.length:=(A3.1 b5).1;have hi5:I[t]?=AA (.lst G):=by rw[Z.get t b1 (),z.get t b1 ()];exact b5
  have tu:yX .tuple I [.loc t]=AA (.tp AB G):=by simp[yX,ycs,yQ,hi5]
  have E:=(zba (v:=.non) A ()).1;have Q:=(zba (v:=.tp AB [.str yaH,c,s,.tp AB G]) C ()).2;refine#[_,AA (.loc t),J,M,I.set L (.lst (a++[.tp AB [.str yaH,c,s,.tp AB G]])),zni (d:=7) () hc Y () b3,((((h.trans l).trans H).trans z).trans Z).put g hB _,rdS C,?_];rw[teE];simp! [yr,D,hq];rw[zpL];simp! [yr,Ab,x,O,e3];simp! [yfN,teT,teB,yr,Ab,E,X,e5,tu,Q]
theorem parts{ns:Hs Hw}(g:ns.length<=1000)(k:Ht){w n:Hw}(m:0<=w)(w1:w<=1000){B:SO}{L:Ht}(o:L≠0)(p:B.length<=L):∀(N:Ht) (a:Hw) (c:Hs PV) (p4 p5 p6 p7:Option PV) (st:SO),Frm ns B st->st[L]?=AA (.lst c)->c.length+N<=9->(∀y∈c,isQ yaR 9 y) ->
  ∃b Y d,b.length<=9/\(∀y∈b,isQ yaR 9 y)/\Frm ns B d/\d[L]?=AA (.lst b) /\
   yaT (yc T (k+5)) (.n 4) teB (yt N a 1) [AA (.loc 0),AA (.int w),AA (.int n),AA (.loc L),p4,p5,p6,p7] st=.nx (AA (.loc 0)::AA (.int w)::AA (.int n)::AA (.loc L)::Y) d
 |0,a,c,p4,p5,p6,p7,st,h,l,q,j=>#[c,_,st,by lia,j,h,l,by rw[yt,zO]]
 |N+1,a,c,p4,p5,p6,p7,st,h,l,q,j=>by
  let#[v,r,t,u,x,z,A,C,D]:=ziv (n:=n) g k m w1 h o p l () j (p4:=AA (.int a)) (p5:=p5) (p6:=p6) (p7:=p7);let#[b,Y,d,E,G,H,I,J]:=parts (n:=n) g k m w1 o p N (a+1) (c++[v]) (AA (.int a)) r t u x A C (by simp;lia) (λy f=>by
   rcases Am.1 f with f|f
   .exact j y f
   .simp only[AM,AN,IE]at f;rw[f];exact z)
  refine#[b,Y,d,E,G,H,I,?_];rw[yt,zr (Y1:=[AA (.loc 0),AA (.int w),AA (.int n),AA (.loc L),AA (.int a),p5,p6,p7]) rfl,D];exact J
def zdU{ns:Hs Hw}(c:ns.length<=1000)(k:Ht){w n:Hw}(q:0<=w)(w1:w<=1000){B st:SO}(h:Frm ns B st):∃b d,b.length<=9/\(∀y∈b,isQ yaR 9 y)/\Frm ns B d/\yc T (k+6) yi1 [.loc 0,.int w,.int n] st=.ok (.tp AB b) d:=by
 have u:T yi1=AA #[3,8,AB,yr.body]:=rfl;have pos:=h.pos;have j:=h.app (.lst []);let#[m,l,z,N,o,f]:=zox (k+2) c (m:=4) () () j;have f:yc T (k+5) ya [.loc 0,.int 4] (st++[.lst []])=_:=f;have A:=o.frm j;have g:l[st.length]?=AA (.lst []):=by rw[o.get ()];simp
 let#[m,rfl]:=zbU z;let#[b,Y,p,C,D,E,G,H]:=parts (n:=n) c k q w1 (L:=st.length) () h.len m 0 [] AD AD AD AD l A g (by simp;lia) (by simp);have I:=zbj m ();have J:yX .tuple p [.loc st.length]=AA (.tp AB b):=by simp[yX,ycs,yQ,G]
 refine#[b,p,C,D,E,?_]
 have M:yr.body=(match yr.body with
  |.cons a (.cons (.for t i _) r)=>.cons a (.cons (.for t i teB) r)
  |x=>x):=rfl
 rw[zo u rfl rfl];dsimp only;rw[M];simp! [yr,zM,Ab,f,I,H,J]
def str0(c:Ht)(g:Hw):Hs PV:=[.non,.bl AC,.bl AB,.int (-1),.int g,.str "",.str #[(Hs.toArray [c])],.str ((#[(Hs.toArray [c])]:AQ)++(#[(Hs.toArray [c])]:AQ)),.str "A",.str "?",.tp AB [],.tp AB [.str #[(Hs.toArray [c])]]]
def str1(c:Ht)(g:Hw):Hs PV:=[.tp AB [.str #[(Hs.toArray [c])],.int 0,.int 0],.tp AB [.str #[(Hs.toArray [c])],.int (-1)],.tp AB [.str #[(Hs.toArray [c])],.int g],.tp AB [.str "A",.int 0],.tp AB [.str ((#[(Hs.toArray [c])]:AQ)++AE "b"),.int 0]]
def ybq(c:Ht):Hs PV:=[.tp AB [.str "",.int 0],.tp AB [.str #[(Hs.toArray [c])],.bl AC],.tp AB [.str #[(Hs.toArray [c])],.str "0"],.lst [.str #[(Hs.toArray [c])],.int 0],.tp AB [.str #[(Hs.toArray [c])],.tp AB [.int 0,.int 0,.int 0,.int 0]]]
def ybR(c:Ht):Hs PV:=[.int 0,.int 1,.int 2,.tp AB [.str #[(Hs.toArray [c])],.int 0],.str "sum",.str "marks",.tp AB [.str "mark",.int 0],.tp AB [.tp AB [.str #[(Hs.toArray [c])],.int 0],.int 1]]
def zht(a b:AQ):(a++b).cps.toList=a.cps.toList++b.cps.toList:=by show (a.cps++b.cps).toList=_;simp
def zlr{c:Ht}(h:c<128)(g:Hw):∀x∈str0 c g++str1 c g++ybq c++ybR c,tam 3 10 x=true:=by
 have j:∀d m,1<=m->tam d m (.str #[(Hs.toArray [c])])=true:=λd m l=>zdI h l;have n:∀d,tam d 10 (.str ((#[(Hs.toArray [c])]:AQ)++(#[(Hs.toArray [c])]:AQ)))=true:=λd=>by simp[tam,zht,h]
 have o:∀d,tam d 10 (.str ((#[(Hs.toArray [c])]:AQ)++AE "b"))=true:=λd=>by erw[tam,zht];rw[show (AE "b").cps.toList=[98]by decide +kernel];simp[h]
 have b:∀d,tam d 10 (.str "")=AC/\tam d 10 (.str "A")=AC/\tam d 10 (.str "?")=AC/\tam d 10 (.str "0")=AC/\tam d 10 (.str "sum")=AC/\tam d 10 (.str "marks")=AC/\tam d 10 (.str "mark")=true:=λd=>by erw[tam];exact#[by decide +kernel,by decide +kernel,by decide +kernel,by decide +kernel,by decide +kernel,by decide +kernel,by decide +kernel]
 have p:∀d m i,tam d m (.int i)=true:=λ_ _ _=>rfl;have q:∀d m i,tam d m (.bl i)=true:=λ_ _ _=>rfl;have r:∀d m,tam d m .non=true:=λ_ _=>rfl;have f:∀d m k a,tam (d+1) m (.tp k a)=(decide (a.length<=m)&&ybp d m a):=λd m k a=>by simp[tam]
 have t:∀d m a,tam (d+1) m (.lst a)=(decide (a.length<=m)&&ybp d m a):=λd m a=>by simp[tam]
 rw[<-zbQ];erw[str0,str1,ybq,ybR,BD,BG,ybp,f 2 10,t 2 10,f 1 10,p,q,r,j _ 10 (),n,o,(b _).1,(b _).2.1,(b _).2.2.1,(b _).2.2.2.1,(b _).2.2.2.2.1,(b _).2.2.2.2.2.1,(b _).2.2.2.2.2.2,E5,A2,AV,Ap];rfl
def zke{c:Ht}(g:Hw):∀x∈str0 c g++str1 c g++ybq c++ybR c,yaj yaR x=peq x (.tp AB []):=by
 have d:∀{s:AQ} {r:Hs PV},s.cps.size=1->yaR (.tp AB (.str s::r))=false:=λ{s r} h=>by
  have a:∀u:AQ,u.cps.size≠1->peq (.str s) (.str u)=false:=λu f=>by rw[z7];exact Hu λe=>f (e ▸ h)
  erw[yaR,prt,a ya4 (by decide +kernel),a yaH (by decide +kernel),A8,A5,IG]
 have j:∀s:AQ,yaR (.str s)=false:=λ_=>rfl;have l:∀r:Hs PV,yaR (.tp AB (.str #[(Hs.toArray [c])] :: r))=false:=λr=>d rfl;intro x b;erw[str0,str1,ybq,ybR,BD,BG,AM,AN,IE]at b;rcases b with rfl|rfl|rfl|rfl|rfl|rfl|rfl|rfl|rfl|rfl|rfl|rfl|rfl|rfl|rfl|rfl|rfl|rfl|rfl|rfl|rfl|rfl|rfl|rfl|rfl|rfl|rfl|rfl|rfl|rfl<;>erw[yaj,peq,yci,An,CU,j,l,A8]
def zhV{st:SO}{L:Ht}{xs ys:Hs PV}(h:st[L]?=AA (.lst xs))(a:xs.length+ys.length<=1000):yas .extend st (.loc L)=AA AC/\ybs .extend st (.loc L) [.lst ys]=.ok .non (st.set L (.lst (xs++ys))):=by
 constructor
 .simp[yas,yQ,h]
 .simp only[ybs,yfb,h];rw[Hz ()]
def zlb{a b:Ht}:yO .add (.str #[(Hs.toArray [a])]) (.str #[(Hs.toArray [b])])=AA (.str ((#[(Hs.toArray [a])]:AQ)++(#[(Hs.toArray [b])]:AQ))):=rfl
def znW{a:Ht}:yO .add (.str #[(Hs.toArray [a])]) (.str "b")=AA (.str ((#[(Hs.toArray [a])]:AQ)++AE "b")):=by
 erw[yO];rw[Hz];show _<=16777216;have:(AE "b").length=1:=by decide +kernel
 rw[this];show 1+1<=_;lia
def zo9{call:Cl}{Y:IC.Env}{st:SO}:ev call Y st (.neg (.cst (.int 1)))=.ok (.int (-1)) st:=by erw[ev,R.bind]
def tgS:Css:=match yI.body with
 |.cons _ (.cons _ r)=>r
 |_=>.nil
def ydT:Css:=match tgS with | .cons _ r=>r|x=>x
def ydr:Css:=match ydT with | .cons _ r=>r|x=>x
def ydE:Css:=match ydr with | .cons _ r=>r|x=>x
def yeu:Css:=match ydE with | .cons _ r=>r|x=>x
theorem gS0:tgS=(match yI.body with | .cons _ (.cons _ (.cons a _))=>.cons a ydT|x=>x):=rfl
theorem gS1:ydT=(match yI.body with | .cons _ (.cons _ (.cons _ (.cons a _)))=>.cons a ydr|x=>x):=rfl
theorem gS2:ydr=(match yI.body with | .cons _ (.cons _ (.cons _ (.cons _ (.cons a _))))=>.cons a ydE|x=>x):=rfl
theorem gS3:ydE=(match yI.body with | .cons _ (.cons _ (.cons _ (.cons _ (.cons _ (.cons a _)))))=>.cons a yeu|x=>x):=rfl
theorem gS4:yeu=(match yI.body with | .cons _ (.cons _ (.cons _ (.cons _ (.cons _ (.cons _ r)))))=>r|x=>x):=rfl
theorem strange{B:SO}{ns:Hs Hw}(f:ns.length<=1000)(k:Ht){st:SO}(h:Frm ns B st):∃v p,tam 3 10 v=AC/\yaj yaR v=peq v (.tp AB [])/\Frm ns B p/\yc T (k+5) yiY [.loc 0] st=.ok v p:=by
 have hT:T yiY=AA #[1,4,AB,yI.body]:=rfl;let#[c,s1,c0,c1,C,e1]:=za4 f k h.dr;let#[a,s2,a0,a1,O,D]:=zox (k+1) f (m:=3) () () (C.frm h);let#[b,d,b0,b1,o3,E]:=zox (k+1) f (m:=1000000000) () () (O.frm (C.frm h));have D:yc T (k+4) ya [.loc 0,.int 3] s1=_:=D;have E:yc T (k+4) ya [.loc 0,.int 1000000000] s2=_:=E;have q:=o3.frm (O.frm (C.frm h));have A:d.length≠0:=by have:=q.pos;lia
 have G:yO .pow (.int 10) (.int 9)=AA (.int 1000000000):=by ac_rfl
 have H:yO .mul (.int a) (.int b)=AA (.int (a*b)):=zat ();generalize hg:100+a*b=g
 have hb:yI.body=(match yI.body with
  |.cons a (.cons b _)=>.cons a (.cons b tgS)
  |_=>.nil):=rfl
 have Q:(d++[Ob.lst (str0 c g)])[d.length]?=AA (.lst (str0 c g)):=by simp
 let#[m1,I]:=zhV (ys:=str1 c g) Q (by simp[str0,str1]);obtain⟨r,j⟩:∃t,t=(d++[Ob.lst (str0 c g)]).set d.length (.lst (str0 c g++str1 c g)):=#[_,rfl];have U:r[d.length]?=AA (.lst (str0 c g++str1 c g)):=by rw[j];exact rdS Q
 have d1:Frm ns B r:=by rw[j];exact(q.app _).put A q.len _
 rw[<-j]at I;let#[m2,J]:=zhV (ys:=ybq c) U (by simp[str0,str1,ybq]);obtain⟨u,l⟩:∃t,t=r.set d.length (.lst (str0 c g++str1 c g++ybq c)):=#[_,rfl];have X:u[d.length]?=AA (.lst (str0 c g++str1 c g++ybq c)):=by rw[l];exact rdS U
 have d2:Frm ns B u:=by rw[l];exact d1.put A q.len _
 rw[<-l]at J;let#[m3,L]:=zhV (ys:=ybR c) X (by simp[str0,str1,ybq,ybR]);obtain⟨o,n⟩:∃t,t=u.set d.length (.lst (str0 c g++str1 c g++ybq c++ybR c)):=#[_,rfl];have Y:o[d.length]?=AA (.lst (str0 c g++str1 c g++ybq c++ybR c)):=by rw[n];exact rdS X
 have Z:Frm ns B o:=by rw[n];exact d2.put A q.len _
 rw[<-n]at L;have y:yX .len o [.loc d.length]=AA (.int 30):=by simp[yX,lenV,yaM,Y,str0,str1,ybq,ybR]
 let#[w,z,w0,w1,o4,M]:=zox (k+1) f (m:=30) () () Z;have M:yc T (k+4) ya [.loc 0,.int 30] o=_:=M;have q4:z[d.length]?=AA (.lst (str0 c g++str1 c g++ybq c++ybR c)):=by rw[o4.get A];exact Y
 let#[x,hx,hi]:=zeJ (st:=z) (xs:=str0 c g++str1 c g++ybq c++ybR c) w0 (by simp[str0,str1,ybq,ybR];lia);have N:idxV z (.loc d.length) (.int w)=AA x:=by erw[idxV,q4];erw[idxV]at hi;exact hi
 refine#[x,z,zlr () g x hx,zke g x hx,o4.frm Z,?_];rw[zo hT rfl rfl];dsimp only;rw[hb];have f0:exs (yc T (k+4)) [AA (.loc 0),AA (.str #[(Hs.toArray [c])]),AA (.int g),AD] d tgS=exs (yc T (k+4)) [AA (.loc 0),AA (.str #[(Hs.toArray [c])]),AA (.int g),AA (.loc d.length)] (d++[.lst (str0 c g)]) ydT:=by rw[gS0];simp! [yI,zo9,zlb,Ab,str0]
 have f1:exs (yc T (k+4)) [AA (.loc 0),AA (.str #[(Hs.toArray [c])]),AA (.int g),AA (.loc d.length)] (d++[.lst (str0 c g)]) ydT=exs (yc T (k+4)) [AA (.loc 0),AA (.str #[(Hs.toArray [c])]),AA (.int g),AA (.loc d.length)] r ydr:=by rw[gS1];erw[str1]at I;simp! [yI,zo9,znW,m1,I]
 have f2:exs (yc T (k+4)) [AA (.loc 0),AA (.str #[(Hs.toArray [c])]),AA (.int g),AA (.loc d.length)] r ydr=exs (yc T (k+4)) [AA (.loc 0),AA (.str #[(Hs.toArray [c])]),AA (.int g),AA (.loc d.length)] u ydE:=by rw[gS2];erw[ybq]at J;simp! [yI,m2,J]
 have f3:exs (yc T (k+4)) [AA (.loc 0),AA (.str #[(Hs.toArray [c])]),AA (.int g),AA (.loc d.length)] u ydE=exs (yc T (k+4)) [AA (.loc 0),AA (.str #[(Hs.toArray [c])]),AA (.int g),AA (.loc d.length)] o yeu:=by rw[gS3];erw[ybR]at L;simp! [yI,m3,L]
 have f4:exs (yc T (k+4)) [AA (.loc 0),AA (.str #[(Hs.toArray [c])]),AA (.int g),AA (.loc d.length)] o yeu=.rt x z:=by rw[gS4];simp! [yI,y,M,N]
 simp! [yI,e1,D,G,E,H,hg];rw[f0,f1,f2,f3,f4];rfl
def zoK{b:Hy}{xs:Hs PV}{v:PV}{o1 o2 p1 p2:Option Hw}(G:xs.length<=400):∃a c u j d,ybh (.tp b xs) o1 o2=AA a/\ybh (.tp b xs) p1 p2=AA c/\yO .add a (.tp AB [v])=AA u/\yO .add u c=AA (.tp j d)/\d.length<=2*xs.length+1/\∀y∈d,y∈xs \/ y=v:=by
 let#[g,l,m,H,n]:=zfv (k:=b) (xs:=xs) o1 o2;let#[o,p,q,I,r]:=zfv (k:=b) (xs:=xs) p1 p2;let#[t,w,x,f,z]:=zgR (k:=g) (j:=AB) (a:=l) (b:=[v]) (by simp[sizeMax];lia);let#[A,B,C,J,D]:=zgR (k:=t) (j:=o) (a:=w) (b:=p) (by simp[sizeMax,f];lia);refine#[_,_,_,A,B,m,q,x,C,by erw[Bi]at f;lia,λy E=>?_];rcases D y E with h|h
 .rcases z y h with h|h
  .exact .inl (n y h)
  .exact .inr (by simpa using h)
 .exact .inl (r y h)
def zpM{b:Hy}{xs:Hs PV}{o1 o2 p1 p2:Option Hw}(z:xs.length<=400):∃a c j d,ybh (.tp b xs) o1 o2=AA a/\ybh (.tp b xs) p1 p2=AA c/\yO .add a c=AA (.tp j d)/\d.length<=2*xs.length+1/\∀y∈d,y∈xs:=by
 let#[f,g,l,A,m]:=zfv (k:=b) (xs:=xs) o1 o2;let#[n,o,p,B,q]:=zfv (k:=b) (xs:=xs) p1 p2;let#[r,t,u,C,w]:=zgR (k:=f) (j:=n) (a:=g) (b:=o) (by simp[sizeMax];lia);refine#[_,_,r,t,l,p,u,by lia,λy x=>?_];rcases w y x with h|h
 .exact m y h
 .exact q y h
def tpS:Css:=match yh.body with
 |.cons _ (.cons _ (.cons _ (.cons _ r)))=>r
 |_=>.nil
def ydW:Css:=match tpS with | .cons _ r=>r|x=>x
def ydq:Css:=match ydW with | .cons _ r=>r|x=>x
def ydt:Css:=match ydq with | .cons _ r=>r|x=>x
def yfy:Css:=match ydt with | .cons _ r=>r|x=>x
theorem pS0:tpS=(match yh.body with | .cons _ (.cons _ (.cons _ (.cons _ (.cons a _))))=>.cons a ydW|x=>x):=rfl
theorem pS1:ydW=(match yh.body with | .cons _ (.cons _ (.cons _ (.cons _ (.cons _ (.cons a _)))))=>.cons a ydq|x=>x):=rfl
theorem pS2:ydq=(match yh.body with | .cons _ (.cons _ (.cons _ (.cons _ (.cons _ (.cons _ (.cons a _))))))=>.cons a ydt|x=>x):=rfl
theorem pS3:ydt=(match yh.body with | .cons _ (.cons _ (.cons _ (.cons _ (.cons _ (.cons _ (.cons _ (.cons a _)))))))=>.cons a yfy|x=>x):=rfl
theorem pS4:yfy=(match yh.body with | .cons _ (.cons _ (.cons _ (.cons _ (.cons _ (.cons _ (.cons _ (.cons _ r)))))))=>r|x=>x):=rfl
def zjq{st:SO}{L:Ht}{xs:Hs PV}{i:Hw}{v:PV}(h:st[L]?=AA (.lst xs))(a:0<=i)(b:i<xs.length):yaE st (.loc L) (.int i) v=AA (st.set L (.lst (xs.set i.toNat v))):=by erw[yaE,h,zfb a b]
def zjm{st:SO}{L:Ht}{xs:Hs PV}{i:Hw}(h:st[L]?=AA (.lst xs))(a:0<=i)(b:i<xs.length):∃x,x∈xs/\idxV st (.loc L) (.int i)=AA x:=by let#[x,c,e]:=zeJ (st:=st) a b;refine#[x,c,?_];erw[idxV,h];erw[idxV]at e;exact e
def zg4{xs:Hs PV}{i:Ht}{v y:PV}(h:y∈xs.set i v):y∈xs \/ y=v:=EO h
def zcb{B:SO}{ns:Hs Hw}(r:ns.length<=1000)(k:Ht){b:Hy}{xs:Hs PV}{D M:Ht}(t:∀x∈xs,tam D M x=AC)(hD:3<=D)(hM:10<=M)(hl:xs.length<=400){st:SO}(h:Frm ns B st):
  ∃j g q,(∀y∈g,tam D M y=AC)/\g.length<=2*xs.length+1/\Frm ns B q/\yc T (k+6) yiZ [.loc 0,.tp b xs] st=.ok (.tp j g) q:=by
 have hT:T yiZ=AA #[2,8,AB,yh.body]:=rfl;let#[a,s1,a0,a1,o1,e1]:=zox (k+2) r (m:=6) () () h;have g1:=o1.frm h;let#[w,s2,w0,w1,o2,e2]:=zox (k+2) r (m:=(xs.length:Hw)+1) () () g1;have g2:=o2.frm g1;let#[v,n,tv,_,N,e3]:=strange r k g2;have tv:tam D M v=true:=zK hD hM v tv;have e1:yc T (k+5) ya [.loc 0,.int 6] st=_:=e1;have e2:yc T (k+5) ya [.loc 0,.int ((xs.length:Hw)+1)] s1=_:=e2;obtain⟨f,hr1,X⟩:∃f:Hw,(0<xs.length->0<=f/\f<xs.length)/\∀s,yX .min s [.int w,.int ((xs.length:Hw)-1)]=AA (.int f):=by refine#[if (xs.length:Hw)-1<w then(xs.length:Hw)-1 else w,λhp=>?_,λs=>rfl];split<;>lia
 have hb:yh.body=(match yh.body with
  |.cons a (.cons b (.cons c (.cons d _)))=>.cons a (.cons b (.cons c (.cons d tpS)))
  |_=>.nil):=rfl
 have key:∃j g q,(∀y∈g,tam D M y=AC)/\g.length<=2*xs.length+1/\Frm ns B q/\exs (yc T (k+5)) [AA (.loc 0),AA (.tp b xs),AA (.int a),AA (.int w),AA v,AA (.int f),AD,AD] n tpS=.rt (.tp j g) q:=by
  by_cases c0:xs.length=0 \/ a=0
  .let#[u1,u2,u3,j,g,z,A,C,O,l,m]:=zoK (b:=b) (xs:=xs) (v:=v) (o1:=AD) (o2:=AA w) (p1:=AA w) (p2:=AD) hl;refine#[j,g,n,λy E=>(m y E).elim (t y) (λe=>e ▸ tv),l,N,?_];rw[pS0]
   by_cases c1:xs.length=0
   .have Y:((xs.length:Hw)==0)=true:=by simp[c1]
    simp! [yh,zd,Y,zal,za7,zcd,zdd,z,A,C,O]
   .have Y:((xs.length:Hw)==0)=false:=IF.2 ();have ha:(a==0)=true:=by simp;lia
    simp! [yh,zd,Y,ha,zal,za7,zcd,zdd,z,A,C,O]
  have c1:xs.length≠0:=λe=>c0 (.inl e);have ca:a≠0:=λe=>c0 (.inr e);have Y:((xs.length:Hw)==0)=false:=IF.2 ();have ha:(a==0)=false:=by simp;lia
  let#[h0,h1]:=hr1 ();have r0:exs (yc T (k+5)) [AA (.loc 0),AA (.tp b xs),AA (.int a),AA (.int w),AA v,AA (.int f),AD,AD] n tpS=exs (yc T (k+5)) [AA (.loc 0),AA (.tp b xs),AA (.int a),AA (.int w),AA v,AA (.int f),AD,AD] n ydW:=by rw[pS0];simp! [yh,zd,Y,ha]
  rw[r0]
  by_cases k1:a=1
  .let#[u1,u2,j,g,z,A,C,l,m]:=zpM (b:=b) (xs:=xs) (o1:=AD) (o2:=AA f) (p1:=AA (f+1)) (p2:=AD) hl;refine#[j,g,n,λy E=>t y (m y E),l,N,?_];have G:(a==1)=true:=by simp[k1]
   rw[pS1];simp! [yh,G,zal,za7,zcd,zdd,z,A,C]
  have G:(a==1)=false:=by simp;lia
  have r1:exs (yc T (k+5)) [AA (.loc 0),AA (.tp b xs),AA (.int a),AA (.int w),AA v,AA (.int f),AD,AD] n ydW=exs (yc T (k+5)) [AA (.loc 0),AA (.tp b xs),AA (.int a),AA (.int w),AA v,AA (.int f),AD,AD] n ydq:=by rw[pS1];simp! [yh,G]
  rw[r1]
  by_cases k2:a=2
  .let#[x,xm,xi]:=zc7 (k:=b) (xs:=xs) h0 h1;let#[u1,u2,u3,j,g,z,A,C,O,l,m]:=zoK (b:=b) (xs:=xs) (v:=x) (o1:=AD) (o2:=AA f) (p1:=AA f) (p2:=AD) hl;refine#[j,g,n,λy E=>(m y E).elim (t y) (λe=>e ▸ t x xm),l,N,?_];have H:(a==2)=true:=by simp[k2]
   rw[pS2];simp! [yh,H,zal,za7,zcd,zdd,xi,z,A,C,O]
  have H:(a==2)=false:=by simp;lia
  have r2:exs (yc T (k+5)) [AA (.loc 0),AA (.tp b xs),AA (.int a),AA (.int w),AA v,AA (.int f),AD,AD] n ydq=exs (yc T (k+5)) [AA (.loc 0),AA (.tp b xs),AA (.int a),AA (.int w),AA v,AA (.int f),AD,AD] n ydt:=by rw[pS2];simp! [yh,H]
  rw[r2]
  by_cases k3:a=3
  .let#[o,p,p0,p1,o4,Z]:=zox (k+2) r (m:=(xs.length:Hw)) () () N;have Z:yc T (k+5) ya [.loc 0,.int (xs.length:Hw)] n=_:=Z;have Q:=o4.frm N;have hL:p.length≠0:=by have:=Q.pos;lia
   have t0:(p++[Ob.lst xs])[p.length]?=AA (.lst xs):=by simp
   let#[x,xm,xi]:=zjm t0 p0 p1;let#[y,ym,yi]:=zjm t0 h0 h1;have z1:=zjq (v:=x) t0 h0 h1;obtain⟨s5,I⟩:∃s5,s5=(p++[Ob.lst xs]).set p.length (.lst (xs.set f.toNat x)):=#[_,rfl];have t5:s5[p.length]?=AA (.lst (xs.set f.toNat x)):=by rw[I];exact rdS t0
   have z2:=zjq (v:=y) t5 p0 (by rw[Ay];exact p1);obtain⟨U,J⟩:∃U,U=s5.set p.length (.lst ((xs.set f.toNat x).set o.toNat y)):=#[_,rfl];have t6:U[p.length]?=AA (.lst ((xs.set f.toNat x).set o.toNat y)):=by rw[J];exact rdS t5
   rw[<-I]at z1;rw[<-J]at z2;have g6:Frm ns B U:=by rw[J,I];exact((Q.app _).put hL Q.len _).put hL Q.len _
   have htu:yX .tuple U [.loc p.length]=AA (.tp AB ((xs.set f.toNat x).set o.toNat y)):=by simp[yX,ycs,yQ,t6]
   have hli:∀s,yX .list s [.tp b xs]=AA (.lst xs):=λs=>rfl;have hth:ycb (.lst xs) p=.ok (.loc p.length) (p++[.lst xs]):=rfl;refine#[AB,(xs.set f.toNat x).set o.toNat y,U,λu hu=>?_,by rw[Ay,Ay];lia,g6,?_]
   .rcases zg4 hu with hu|rfl
    .rcases zg4 hu with hu|rfl
     .exact t u hu
     .exact t _ xm
    .exact t _ ym
   .have L:(a==3)=true:=by simp[k3]
    rw[pS3];simp! [yh,L,zd,Z,IC.ve30,hli,hth,zjn,xi,yi,z1,zfn,z2,za3,htu]
  have L:(a==3)=false:=by simp;lia
  have r3:exs (yc T (k+5)) [AA (.loc 0),AA (.tp b xs),AA (.int a),AA (.int w),AA v,AA (.int f),AD,AD] n ydt=exs (yc T (k+5)) [AA (.loc 0),AA (.tp b xs),AA (.int a),AA (.int w),AA v,AA (.int f),AD,AD] n yfy:=by rw[pS3];simp! [yh,L]
  rw[r3];let#[u1,u2,u3,j,g,z,A,C,O,l,m]:=zoK (b:=b) (xs:=xs) (v:=v) (o1:=AD) (o2:=AA f) (p1:=AA (f+1)) (p2:=AD) hl;refine#[j,g,n,λy E=>(m y E).elim (t y) (λe=>e ▸ tv),l,N,?_];rw[pS4];simp! [yh,zal,za7,zcd,zdd,z,A,C,O]
 let#[j,g,p,m,l,Q,Z]:=key;refine#[j,g,p,m,l,Q,?_];rw[zo hT rfl rfl];dsimp only;rw[hb];simp! [yh,zd,e1,e2,e3,X];rw[Z];rfl
def swT:Css:=match yx.body with
 |.cons _ (.cons _ r)=>r
 |_=>.nil
def zdk{ns:Hs Hw}(f:ns.length<=1000)(k:Ht){B:SO}{M:Ht}(hM:10<=M)(hM2:M<=300):∀(j:Ht) (D:Ht) (b:Hy) (xs:Hs PV) (st:SO),j<=9->tam D M (.tp b xs)=AC->Frm ns B st ->
  ∃v n,tam (D+4) (2*M+1) v=AC/\Frm ns B n/\yc T (k+7+j) yi2 [.loc 0,.tp b xs,.int (9-(j:Hw))] st=.ok v n:=by
 have E:T yi2=AA #[3,4,AB,yx.body]:=rfl
 have G:yx.body=(match yx.body with
  |.cons a (.cons b _)=>.cons a (.cons b swT)
  |x=>x):=rfl
 intro j
 induction j with
 |zero=>
  intro D b xs st hj Z h;let#[t0,t1,H]:=zt.1 Z;have d:∀s,yX .max s [.int 1,.int (xs.length:Hw)]=AA (.int (if 1<(xs.length:Hw)then(xs.length:Hw)else 1)):=λs=>rfl;let#[w,s1,w0,w1,o1,o]:=zox (k+3) f (m:=if 1<(xs.length:Hw)then(xs.length:Hw)else 1) (by split<;>lia) (by split<;>lia) h;have o:yc T (k+6) ya [.loc 0,.int (if 1<(xs.length:Hw)then(xs.length:Hw)else 1)] st=_:=o;have Q:=o1.frm h;let#[i,I,s2,m2,l2,U,q]:=zcb f k (b:=b) (xs:=xs) (D:=D+3) (M:=M) (λx p=>zK () () _ (H x p)) () hM () Q;refine#[.tp i I,s2,zt.2 #[by lia,by lia,λx p=>zK () () _ (m2 x p)],U,?_];have A:decide ((9:Hw)-((0:Ht):Hw)<9)=false:=by decide
  show yc T (k+6+1) _ _ _=_;rw[zo E rfl rfl];dsimp only;rw[G];simp! [yx,zd,d,o,A];simp! [swT,yx,q,zM]
 |succ j ih=>
  intro D b xs st hj Z h;let#[t0,t1,H]:=zt.1 Z;have d:∀s,yX .max s [.int 1,.int (xs.length:Hw)]=AA (.int (if 1<(xs.length:Hw)then(xs.length:Hw)else 1)):=λs=>rfl;let#[w,s1,w0,w1,o1,o]:=zox (k+4+j) f (m:=if 1<(xs.length:Hw)then(xs.length:Hw)else 1) (by split<;>lia) (by split<;>lia) h;have o:yc T (k+7+j) ya [.loc 0,.int (if 1<(xs.length:Hw)then(xs.length:Hw)else 1)] st=_:=(show k+7+j=k+4+j+3 by lia) ▸ o;have Q:=o1.frm h;let#[u,s2,u0,u1,o2,q]:=zox (k+4+j) f (m:=3) () () Q;have q:yc T (k+7+j) ya [.loc 0,.int 3] s1=_:=(show k+7+j=k+4+j+3 by lia) ▸ q;have U:=o2.frm Q;have A:decide ((9:Hw)-((j+1:Ht):Hw)<9)=true:=Hv ();have J:∀{s:SO},Frm ns B s->∃v n,tam (D+4) (2*M+1) v=AC/\Frm ns B n/\exs (yc T (k+7+j)) [AA (.loc 0),AA (.tp b xs),AA (.int (9-((j+1:Ht):Hw))),AA (.int w)] s swT=.rt v n:=λ{s} g=>by let#[i,I,L,m3,l3,N,r]:=zcb f (k+1+j) (b:=b) (xs:=xs) (D:=D+3) (M:=M) (λx p=>zK () () _ (H x p)) () hM () g;have r:yc T (k+7+j) yiZ [.loc 0,.tp b xs] s=_:=(show k+7+j=k+1+j+6 by lia) ▸ r;refine#[.tp i I,L,zt.2 #[by lia,by lia,λx p=>zK () () _ (m3 x p)],N,?_];simp! [swT,yx,r]
  let#[v,L,tv,N,r]:=J U
  cases X:decide (0<u)with
  |false=>
   refine#[v,L,tv,N,?_];show yc T (k+7+j+1) _ _ _=_;rw[zo E rfl rfl];dsimp only;rw[G];simp! [yx,zd,d,o,A,q,X,r,zM]
  |true=>
  cases Y:decide (w<(xs.length:Hw))with
  |false=>
   refine#[v,L,tv,N,?_];show yc T (k+7+j+1) _ _ _=_;rw[zo E rfl rfl];dsimp only;rw[G];simp! [yx,zd,d,o,A,q,X,Y,r,zM]
  |true=>
  let#[x,xm,xi]:=zc7 (k:=b) (xs:=xs) w0 (IQ Y);have O:=H x xm
  by_cases p:∃c C,x=.tp c C
  .let#[c,C,rfl]:=p;have hi:yG (.tp c C) [.tuple]=AA (.bl AC):=rfl;let#[y,s4,ty,g4,e4]:=ih (D-1) c C s2 () O U;have t:(9:Hw)-((j+1:Ht):Hw)+1=9-(j:Hw):=by lia
   let#[a1,a2,a3,i,I,q1,q2,q3,q4,l,m]:=zoK (b:=b) (xs:=xs) (v:=y) (o1:=AD) (o2:=AA w) (p1:=AA (w+1)) (p2:=AD) ();refine#[.tp i I,s4,zt.2 #[by lia,by lia,λz hz=>?_],g4,?_]
   .rcases m z hz with hz|rfl
    .exact zK () () _ (H z hz)
    .exact zK () () _ ty
   .show yc T (k+7+j+1) _ _ _=_;rw[zo E rfl rfl];dsimp only;rw[G];simp! [yx,zd,d,o,A,q,X,Y,xi,hi,t,zal,za7,zcd,zdd,e4,q1,q2,q3,q4,zM]
  .have hi:yG x [.tuple]=AA (.bl AB):=by
    cases x with
    |tp c C=>exact IB #[c,C,rfl] p
    |loc _=>simp[tam]at O
    |exn _=>simp[tam]at O
    |fnc _=>simp[tam]at O
    |scr _=>simp[tam]at O
    |_=>rfl
   refine#[v,L,tv,N,?_];show yc T (k+7+j+1) _ _ _=_;rw[zo E rfl rfl];dsimp only;rw[G];simp! [yx,zd,d,o,A,q,X,Y,xi,hi,r,zM]
structure Cx where
 l:Ht
 c:Hw
 i:Hw
 j:Hw
 m:Hw
deriving IN
inductive Op where
 |fig (d:Hw)|cel (x:Cx)
deriving IN
structure Rs where
 nm:AQ
 ops:Hs Op
deriving IN
inductive T2 where
 |row (r:Rs)|rounds (c m t:Hw) (rs:Hs Rs)
deriving IN
inductive T1 where
 |row (r:Rs)|rounds (c m t:Hw) (ps:Hs T2)
deriving IN
def Cx.at(x:Cx)(I J n:Hw):Hw:=x.c+x.i*I+x.j*J+x.m*n
def Op.pv(I J n:Hw):Op->PV
 |.fig d=>.int d
 |.cel x=>yc6 x.l (x.at I J n)
def Rs.pv(r:Rs)(I J n:Hw):PV:=.tup (.str r.nm::r.ops.map (Op.pv I J n))
def cnt(c m t w n:Hw):Ht:=(c+m*n+t*w*n).toNat
def upTo{A:Type}(f:Ht->Hs A):Ht->Hs A
 |0=>[]
 |n+1=>upTo f n++f n
def T2.rows(w n:Hw)(I:Ht):T2->Hs PV
 |.row r=>[r.pv I 0 n]
 |.rounds c m t a=>upTo (λJ=>a.map λr=>r.pv I J n) (cnt c m t w n)
def T2.rnd(w n:Hw):T2->Ht
 |.row _=>0
 |.rounds c m t _=>cnt c m t w n
def yam(w n:Hw)(I:Ht)(ps:Hs T2):Hs PV:=ps.flatMap (T2.rows w n I)
def ya8(w n:Hw)(ps:Hs T2):Ht:=(ps.map (T2.rnd w n)).sum
def T1.rows(w n:Hw):T1->Hs PV
 |.row r=>[r.pv 0 0 n]
 |.rounds c m t a=>upTo (λI=>yam w n I a) (cnt c m t w n)
def T1.rnd(w n:Hw):T1->Ht
 |.row _=>0
 |.rounds c m t a=>cnt c m t w n*(1+ya8 w n a)
def yM(w n:Hw)(ps:Hs T1):Hs PV:=ps.flatMap (T1.rows w n)
def yaJ(w n:Hw)(ps:Hs T1):Ht:=(ps.map (T1.rnd w n)).sum
def sm(i:Hw):Hy:=decide (i.natAbs<=200)
def intOf:PV->Option Hw
 |.int i=>AA i
 |_=>AD
def strOf:PV->Option AQ
 |.str s=>AA s
 |_=>AD
def ych:PV->Option (Hy×Hs PV)
 |.tp k l=>AA (k,l)
 |_=>AD
def ycZ:Hs PV->Option (PV×PV×PV×PV)
 |[a,b,c,d]=>AA (a,b,c,d)
 |_=>AD
def yc3(l:Hs PV):Option (Hw×Hw×Hw×Hw):=(ycZ l).bind λp=>(intOf p.1).bind λi=>(intOf p.2.1).bind λj=>(intOf p.2.2.1).bind λk=>(intOf p.2.2.2).bind λm=>AA (i,j,k,m)
def ydy(l:Hs PV):Option (Hw×Hw×Hw):=(yc3 (l++[.int 0])).bind λz=>AA (z.1,z.2.1,z.2.2.1)
def opC(x y:PV):Option Op:=(strOf x).bind λs=>(ych y).bind λq=>(yc3 q.2).bind λz=>if s=chS (s.cps.getD 0 0)/\(sm z.1&&sm z.2.1&&sm z.2.2.1&&sm z.2.2.2)=AC then AA (.cel #[s.cps.getD 0 0,z.1,z.2.1,z.2.2.1,z.2.2.2])else AD
def yfl:Hs PV->Option (PV×PV)
 |[a,b]=>AA (a,b)
 |_=>AD
def ydk(v:PV):Option Op:=match intOf v with
 |some d=>AA (.fig d)
 |none=>(ych v).bind λp=>(yfl p.2).bind λq=>opC q.1 q.2
def ybb:Hs PV->Option (Hs Op)
 |[]=>AA []
 |v::c=>match ydk v,ybb c with
  |some a,AA b=>AA (a::b)
  |_,_=>AD
def rowOf:PV->Option Rs
 |.tp _ (.str c::b)=>match ybb b with
  |some a=>if b.length<100 then AA #[c,a]else AD
  |none=>AD
 |_=>AD
def yco(s:AQ):Hy:=decide (s=AE "row")
def ybB:PV->Option Rs
 |.tp _ [.str s,v]=>if yco s then rowOf v else AD
 |_=>AD
def deepOf:Hs PV->Option (Hs Rs)
 |[]=>AA []
 |v::c=>match ybB v,deepOf c with
  |some a,AA b=>AA (a::b)
  |_,_=>AD
def ybL(s:AQ):Hy:=decide (s=AE "rounds")
def ybI(v:PV):Option (Hw×Hw×Hw×Hs PV):=(ych v).bind λp=>(ycZ p.2).bind λq=>(strOf q.1).bind λs=>(ych q.2.1).bind λy=>(ydy y.2).bind λc=>(ych q.2.2.2).bind λu=>if (ybL s&&(sm c.1&&sm c.2.1&&sm c.2.2))=AC then AA (c.1,c.2.1,c.2.2,u.2)else AD
def part2(v:PV):Option T2:=match ybI v with
 |some z=>(deepOf z.2.2.2).map (.rounds z.1 z.2.1 z.2.2.1)
 |none=>(ybB v).map .row
def yax:Hs PV->Option (Hs T2)
 |[]=>AA []
 |v::c=>match part2 v,yax c with
  |some a,AA b=>AA (a::b)
  |_,_=>AD
def part1(v:PV):Option T1:=match ybI v with
 |some z=>(yax z.2.2.2).map (.rounds z.1 z.2.1 z.2.2.1)
 |none=>(ybB v).map .row
def yak:Hs PV->Option (Hs T1)
 |[]=>AA []
 |v::c=>match part1 v,yak c with
  |some a,AA b=>AA (a::b)
  |_,_=>AD
theorem bnd{A B:Type}{o:Option A}{f:A->Option B}{b:B}(h:o.bind f=AA b):∃a,o=AA a/\f a=AA b:=by
 cases o with
 |none=>exact nomatch h
 |some a=>exact#[a,rfl,h]
theorem mpd{A B:Type}{o:Option A}{f:A->B}{b:B}(h:o.map f=AA b):∃a,o=AA a/\b=f a:=by
 cases o with
 |none=>exact nomatch h
 |some a=>have h:AA (f a)=AA b:=h;cases h;exact#[a,rfl,rfl]
def zbS{v:PV}{i:Hw}(h:intOf v=AA i):v=.int i:=by
 cases v with
 |int j=>have h:AA j=AA i:=h;cases h;rfl
 |_=>exact nomatch (show AD=AA i from h)
def zfl{v:PV}{i:AQ}(h:strOf v=AA i):v=.str i:=by
 cases v with
 |str j=>have h:AA j=AA i:=h;cases h;rfl
 |_=>exact nomatch (show AD=AA i from h)
def zcF{v:PV}{p:Hy×Hs PV}(h:ych v=AA p):v=.tp p.1 p.2:=by
 cases v with
 |tp k l=>have h:AA (k,l)=AA p:=h;cases h;rfl
 |_=>exact nomatch (show AD=AA p from h)
def zhD{l:Hs PV}{p:PV×PV×PV×PV}(h:ycZ l=AA p):l=[p.1,p.2.1,p.2.2.1,p.2.2.2]:=by
 rcases l with _|⟨a,_|⟨b,_|⟨c,_|⟨d,_|⟨e,l⟩⟩⟩⟩⟩
 case cons.cons.cons.cons.nil=>have h:AA (a,b,c,d)=AA p:=h;cases h;rfl
 all_goals exact nomatch (show AD=AA p from h)
def zlD{l:Hs PV}{p:PV×PV}(h:yfl l=AA p):l=[p.1,p.2]:=by
 rcases l with _|⟨a,_|⟨b,_|⟨c,l⟩⟩⟩
 case cons.cons.nil=>have h:AA (a,b)=AA p:=h;cases h;rfl
 all_goals exact nomatch (show AD=AA p from h)
def zhN{l:Hs PV}{z:Hw×Hw×Hw×Hw}(h:yc3 l=AA z):l=[.int z.1,.int z.2.1,.int z.2.2.1,.int z.2.2.2]:=by
 let#[p,e,h]:=bnd h;let#[i,a,h]:=bnd h;let#[j,b,h]:=bnd h;let#[k,c,h]:=bnd h;let#[m,d,h]:=bnd h;have h:AA (i,j,k,m)=AA z:=h
 cases h
 rw[zhD e,zbS a,zbS b,zbS c,zbS d]
def zkX{l:Hs PV}{z:Hw×Hw×Hw}(h:ydy l=AA z):l=[.int z.1,.int z.2.1,.int z.2.2]:=by
 let#[p,e,h]:=bnd h;have e:=zhN e;have h:AA (p.1,p.2.1,p.2.2.1)=AA z:=h
 cases h
 have e:l++[.int 0]=[.int p.1,.int p.2.1,.int p.2.2.1]++[.int p.2.2.2]:=e;exact(Hs.append_inj' e rfl).1
def zkd{v:PV}{o:Op}(h:ydk v=AA o):(∃d,o=.fig d/\v=.int d) \/ ∃a b x,o=.cel x/\v=.tp a [.str (chS x.l),.tp b [.int x.c,.int x.i,.int x.j,.int x.m]]/\x.i.natAbs<=200/\x.j.natAbs<=200/\x.m.natAbs<=200:=by
 unfold ydk at h
 cases e:intOf v with
 |some d=>rw[e]at h;have h:AA (Op.fig d)=AA o:=h;cases h;exact .inl #[d,rfl,zbS e]
 |none=>
  rw[e]at h;let#[p,g,h]:=bnd h;let#[q,j,h]:=bnd h;let#[s,l,h]:=bnd h;let#[y,m,h]:=bnd h;let#[z,n,h]:=bnd h
  by_cases c:s=chS (s.cps.getD 0 0)/\(sm z.1&&sm z.2.1&&sm z.2.2.1&&sm z.2.2.2)=AC
  .rw[Hz c]at h;have f:=c.2;erw[sm,AH,Hx]at f
   cases h
   refine .inr #[p.1,y.1,_,rfl,?_,f.1.1.2,f.1.2,f.2];rw[zcF g,zlD j,zfl l,zcF m,zhN n];simp only;rw[<-c.1]
  .rw[IA c]at h;cases h
def zgA{v:PV}{z:Hw×Hw×Hw×Hs PV}(h:ybI v=AA z):∃a b sn d,v=.tp a [.str "rounds",.tp b [.int z.1,.int z.2.1,.int z.2.2.1],sn,.tp d z.2.2.2]/\z.1.natAbs<=200/\z.2.1.natAbs<=200/\z.2.2.1.natAbs<=200:=by
 let#[p,f,h]:=bnd h;let#[q,g,h]:=bnd h;let#[s,j,h]:=bnd h;let#[y,l,h]:=bnd h;let#[c,m,h]:=bnd h;let#[u,n,h]:=bnd h
 by_cases k:(ybL s&&(sm c.1&&sm c.2.1&&sm c.2.2))=AC
 .rw[Hz k]at h;erw[ybL,sm,AH,Hx]at k
  cases h
  refine#[p.1,y.1,q.2.2.1,u.1,?_,k.2.1.1,k.2.1.2,k.2.2];rw[zcF f,zhD g,zfl j,zcF l,zkX m,zcF n,k.1]
 .rw[IA k]at h;cases h
def zfq{v:PV}{r:Rs}(h:rowOf v=AA r):∃a b,v=.tp a (.str r.nm::b)/\ybb b=AA r.ops/\b.length<100:=by
 unfold rowOf at h;split at h
 .rename_i a d b;split at h
  .rename_i c q;split at h
   .rename_i z
    cases h;exact#[a,b,rfl,q,z]
   .cases h
  .cases h
 .cases h
def zgY{v:PV}{r:Rs}(h:ybB v=AA r):∃a b,v=.tp a [.str "row",b]/\rowOf b=AA r:=by
 unfold ybB at h;split at h
 .rename_i a s b;split at h
  .rename_i q;have q:s=AE "row":=by simpa [yco] using q
   exact#[a,b,by rw[q],h]
  .cases h
 .cases h
def zfx{v:PV}{p:T2}(h:part2 v=AA p):(∃r,p=.row r/\ybB v=AA r) \/ ∃a b sn d n c m t g,p=.rounds c m t g/\v=.tp a [.str "rounds",.tp b [.int c,.int m,.int t],sn,.tp d n]/\deepOf n=AA g/\c.natAbs<=200/\m.natAbs<=200/\t.natAbs<=200:=by
 unfold part2 at h
 cases e:ybI v with
 |some z=>
  rw[e]at h;let#[a,b,sn,d,q,u,w,x]:=zgA e;let#[g,j,l]:=mpd (f:=T2.rounds z.1 z.2.1 z.2.2.1) (o:=deepOf z.2.2.2) h;exact .inr #[a,b,sn,d,_,_,_,_,g,l,q,j,u,w,x]
 |none=>
  rw[e]at h;let#[r,j,l]:=mpd (f:=T2.row) (o:=ybB v) h;exact .inl #[r,l,j]
def ze1{v:PV}{p:T1}(h:part1 v=AA p):(∃r,p=.row r/\ybB v=AA r) \/ ∃a b sn d l c m t n,p=.rounds c m t n/\v=.tp a [.str "rounds",.tp b [.int c,.int m,.int t],sn,.tp d l]/\yax l=AA n/\c.natAbs<=200/\m.natAbs<=200/\t.natAbs<=200:=by
 unfold part1 at h
 cases e:ybI v with
 |some z=>
  rw[e]at h;let#[a,b,sn,d,q,u,w,x]:=zgA e;let#[y,g,j]:=mpd (f:=T1.rounds z.1 z.2.1 z.2.2.1) (o:=yax z.2.2.2) h;exact .inr #[a,b,sn,d,_,_,_,_,y,j,q,g,u,w,x]
 |none=>
  rw[e]at h;let#[r,g,j]:=mpd (f:=T1.row) (o:=ybB v) h;exact .inl #[r,j,g]
abbrev cU:Ht:=20
abbrev sw:Str:=AE "w"
abbrev sn:Str:=AE "n"
abbrev sst:Str:=AE "steps"
abbrev srw:Str:=AE "rows"
abbrev srd:Str:=AE "rounds"
abbrev ufs(w n:Hw)(l:Ht)(r q:Hw):Hs (AQ×PV):=[(sw,.int w),(sn,.int n),(sst,.loc l),(srw,.int r),(srd,.int q)]
def uob(w n:Hw)(l:Ht)(r q:Hw):Ob:=.ins cU (ufs w n l r q)
structure UM(st:SO)(u l:Ht)(w n r q:Hw)(xs:Hs PV):Prop where
 o:st[u]?=AA (uob w n l r q)
 d:st[l]?=AA (.lst xs)
 ne:u≠l
section
variable {st:SO}{u l:Ht}{w n r q:Hw}{xs:Hs PV}
theorem UM.fw(h:UM st u l w n r q xs):ybt cU st (.loc u) sw=AA (.int w):=by erw[ybt,h.o,uob,ID];ac_rfl
theorem UM.fn(h:UM st u l w n r q xs):ybt cU st (.loc u) sn=AA (.int n):=by erw[ybt,h.o,uob,ID];ac_rfl
theorem UM.fs(h:UM st u l w n r q xs):ybt cU st (.loc u) sst=AA (.loc l):=by erw[ybt,h.o,uob,ID];ac_rfl
theorem UM.fr(h:UM st u l w n r q xs):ybt cU st (.loc u) srw=AA (.int r):=by erw[ybt,h.o,uob,ID];ac_rfl
theorem UM.fq(h:UM st u l w n r q xs):ybt cU st (.loc u) srd=AA (.int q):=by erw[ybt,h.o,uob,ID];ac_rfl
theorem UM.sr(h:UM st u l w n r q xs)(v:Hw):yb5 cU st (.loc u) srw (.int v)=AA (st.set u (uob w n l v q))/\UM (st.set u (uob w n l v q)) u l w n v q xs:=by refine#[?_,rdS h.o,by rw[A7 h.ne];exact h.d,h.ne];erw[yb5,h.o,uob];rw[Hz #[trivial,by simp],show ycv srw (.int v) (ufs w n l r q)=ufs w n l v q by ac_rfl]
theorem UM.sq(h:UM st u l w n r q xs)(v:Hw):yb5 cU st (.loc u) srd (.int v)=AA (st.set u (uob w n l r v))/\UM (st.set u (uob w n l r v)) u l w n r v xs:=by refine#[?_,rdS h.o,by rw[A7 h.ne];exact h.d,h.ne];erw[yb5,h.o,uob];rw[Hz #[trivial,by simp],show ycv srd (.int v) (ufs w n l r q)=ufs w n l r v by ac_rfl]
theorem UM.ap(h:UM st u l w n r q xs)(a:xs.length<1000000)(v:PV):ybs .append st (.loc l) [v]=.ok .non (st.set l (.lst (xs++[v])))/\UM (st.set l (.lst (xs++[v]))) u l w n r q (xs++[v]):=by refine#[?_,by rw[A7 (BW h.ne)];exact h.o,rdS h.d,h.ne];unfold ybs;erw[yed,h.d];rw[Hz a]
theorem UM.ok(h:UM st u l w n r q xs):yas .append st (.loc l)=AA true:=by simp[yas,yQ,h.d]
theorem UM.ins(h:UM st u l w n r q xs)(x:AQ)(a:((ufs 0 0 0 0 0).lookup x).isNone=true:=by decide +kernel):ycB cU x st (.loc u)=AA true:=by
 have e:(ufs w n l r q).lookup x=none:=by
  erw[ufs,CT]at a ⊢
  cases b:x==sw<;>rw[b]at a<;>simp only at a ⊢<;>try cases a
  cases c:x==sn<;>rw[c]at a<;>simp only at a ⊢<;>try cases a
  cases d:x==sst<;>rw[d]at a<;>simp only at a ⊢<;>try cases a
  cases f:x==srw<;>rw[f]at a<;>simp only at a ⊢<;>try cases a
  cases g:x==srd<;>rw[g]at a<;>simp only at a ⊢<;>try cases a
 erw[ycB,h.o,uob];rw[Hz #[trivial,e]]
def zhH(k:Ht)(h:UM st u l w n r q xs)(m:q+1<=4000):∃s,yc T (k+1) yik [.loc u] st=.ok .non s/\UM s u l w n r (q+1) xs:=by have b:T yik=AA y9:=rfl;let#[d,a]:=h.sq (q+1);have c:decide (q+1 > 4000)=false:=Hu ();have f:yiJ=.int 4000:=rfl;refine#[_,?_,a];rw[zo b rfl rfl];have g:=h.fq;have j:=a.fq;simp! [y9,g,ziP,d,za3,j,f,c,IC.ve32,zM];rfl
def zcG(k:Ht):∀(G:Hs Hw),G.length<=2->∀s:SO,yc T (k+1) yiF [.tp AB (G.map .int)] s=.ok (.tp AB [.int (G.headD 0),.int (G.tail.headD 0)]) s
 |[],_,s=>by have c:T yiF=AA yii:=rfl;rw[zh c rfl rfl rfl];rfl
 |[a],_,s=>by have c:T yiF=AA yii:=rfl;rw[zh c rfl rfl rfl];rfl
 |[a,b],_,s=>by have c:T yiF=AA yii:=rfl;rw[zh c rfl rfl rfl];rfl
def zhn(k:Ht)(h:UM st u l w n r q xs)(c:xs.length<1000000)(sen:PV)(G:Hs Hw)(d:G.length<=2):∃s,yc T (k+2) yiP [.loc u,sen,.tp AB (G.map .int)] st=.ok .non s/\UM s u l w n r q (xs++[.tp AB [.str "asked",sen,.int (G.headD 0),.int (G.tail.headD 0)]]):=by have f:T yiP=AA yiv:=rfl;have g:=zcG k G d st;let#[a,m]:=h.ap c (.tp AB [.str "asked",sen,.int (G.headD 0),.int (G.tail.headD 0)]);have p:∀(i j:Ht) (a b:PV) (Y:IC.Env),yW (.t [i,j]) (.tp AB [a,b]) Y=AA ((Y.set i (AA a)).set j (AA b)):=λ_ _ _ _ _=>rfl;refine#[_,?_,m];rw[zo f rfl rfl];have x:=h.fs;have o:=h.ok;generalize PV.tp AB (G.map .int)=y at *;simp! [yiv,g,p,x,o,a,IC.ve32,zM];rfl
def zi9(k:Ht)(h:UM st u l w n r q xs)(d:Hy)(c m t:Hw)(f:yO .mul (.int m) (.int n)=AA (.int (m*n)))(g:yO .mul (.int t) (.int w)=AA (.int (t*w)))(o:yO .mul (.int (t*w)) (.int n)=AA (.int (t*w*n))):
  yc T (k+1) yiO [.loc u,.tp d [.int c,.int m,.int t]] st=.ok (.int (c+m*n+t*w*n)) st:=by have p:T yiO=AA yiu:=rfl;have x:∀(i j k:Ht) (a b c:PV) (Y:IC.Env),yW (.t [i,j,k]) (.tp d [a,b,c]) Y=AA (((Y.set i (AA a)).set j (AA b)).set k (AA c)):=λ_ _ _ _ _ _ _=>rfl;rw[zo p rfl rfl];have y:=h.fw;have z:=h.fn;simp! [yiu,x,y,z,f,g,o,IC.ve32,zM]
def zif(k:Ht){b:Hy}{c i j m I J n:Hw}(p:i.natAbs<=200)(q:j.natAbs<=200)(r:m.natAbs<=200)(s:SO):yc T (k+1) yjf [.tp b [.int c,.int i,.int j,.int m],.int n,.int I,.int J] s=.ok (.int (c+i*I+j*J+m*n)) s:=by
 have a:T yjf=AA yit:=rfl;have d:i.natAbs<18446744073709551616:=by lia
 have f:j.natAbs<18446744073709551616:=by lia
 have g:m.natAbs<18446744073709551616:=by lia
 have l:∀st,idxV st (.tp b [.int c,.int i,.int j,.int m]) (.int 2)=AA (.int j):=λ_=>rfl;have o:∀st,idxV st (.tp b [.int c,.int i,.int j,.int m]) (.int 3)=AA (.int m):=λ_=>rfl;rw[zh a rfl rfl rfl];simp! [yit,ix0,ix1,l,o,zat d,zat f,zat g];rfl
theorem placed(k:Ht){v:PV}{o:Op}(h:ydk v=AA o)(I J n:Hw)(s:SO):yc T (k+2) ygX [v,.int n,.int I,.int J] s=.ok (o.pv I J n) s:=by
 have f:T ygX=AA ygv:=rfl;rcases zkd h with⟨d,rfl,rfl⟩|⟨j,g,x,rfl,rfl,l,m,p⟩
 .rw[zh f rfl rfl rfl];have a:yG (.int d) [.tuple]=AA (.bl AB):=rfl;simp! [ygv,a];rfl
 .have a:yG (.tp j [.str (chS x.l),.tp g [.int x.c,.int x.i,.int x.j,.int x.m]]) [.tuple]=AA (.bl AC):=rfl;have e:=λs=>zif k (b:=g) (c:=x.c) (I:=I) (J:=J) (n:=n) l m p s;rw[zh f rfl rfl rfl];simp! [ygv,a,ix0,ix1,e];rfl
def zc2(k:Ht)(x:AQ)(I J n:Hw)(s:SO):yc T (k+2) ygX [.str x,.int n,.int I,.int J] s=.ok (.str x) s:=by have a:T ygX=AA ygv:=rfl;rw[zh a rfl rfl rfl];have b:yG (.str x) [.tuple]=AA (.bl AB):=rfl;simp! [ygv,b];rfl
def arC:Ce:=.call ygX (.cons (.var 0) (.cons (.fld cU (.var 3) sn) (.cons (.var 1) (.cons (.var 2) .nil))))
def zdq(k:Ht)(h:UM st u l w n r q xs)(I J:Hw):∀(vs:Hs PV) (ops:Hs Op),ybb vs=AA ops->yR (yc T (k+2)) [AD,AA (.int I),AA (.int J),AA (.loc u)] (.n 0) (.cst (.bl AC)) arC vs st=.ok (ops.map (Op.pv I J n)) st
 |[],ops,e=>by cases e;exact zaG
 |v::vs,ops,e=>by
  unfold ybb at e;split at e
  .rename_i a b c d
   cases e
   have f:=placed k c I J n st;have g:=h.fn;have ih:=zdq k h I J vs b d;have one:yaC (yc T (k+2)) [AD,AA (.int I),AA (.int J),AA (.loc u)] (.n 0) (.cst (.bl AC)) arC v st=.ok (AA (a.pv I J n)) st:=by simp! [yaC,arC,g,f,IC.ve32]
   rw[zH,one,bd_ok,ih,bd_ok];rfl
  .cases e
def zez:∀{vs:Hs PV} {ops:Hs Op},ybb vs=AA ops->ops.length=vs.length
 |[],ops,e=>by cases e;rfl
 |v::vs,ops,e=>by
  unfold ybb at e;split at e
  .rename_i a b d c
   cases e
   rw[AV,AV,zez c]
  .cases e
def zlE(k:Ht)(h:UM st u l w n r q xs)(B:xs.length<1000000)(hr:r+1<=4000){v:PV}{rs:Rs}(C:rowOf v=AA rs)(G:Hs Hw)(D:G.length<=2)
  (f:∀s,yc T (k+2) yeN [rs.pv (G.headD 0) (G.tail.headD 0) n] s=.ok (.bl AC) s):
  ∃s,yc T (k+3) yiE [.loc u,v,.tp AB (G.map .int)] st=.ok .non s/\UM s u l w n (r+1) q (xs++[.tp AB [.str "row",rs.pv (G.headD 0) (G.tail.headD 0) n]]):=by
 have E:T yiE=AA y8:=rfl;let#[a,m,rfl,z,hl]:=zfq C;have H:=zcG (k+1) G D st;generalize G.headD 0=I,G.tail.headD 0=J at *;have p:=zez z;have x:yR (yc T (k+2)) [AD,AA (.int I),AA (.int J),AA (.loc u)] (.n 0) (.cst (.bl AC)) arC (.str rs.nm::m) st=.ok (.str rs.nm::rs.ops.map (Op.pv I J n)) st:=by
  have L:=zc2 k rs.nm I J n st;have y:=h.fn;have one:yaC (yc T (k+2)) [AD,AA (.int I),AA (.int J),AA (.loc u)] (.n 0) (.cst (.bl AC)) arC (.str rs.nm) st=.ok (AA (.str rs.nm)) st:=by simp! [yaC,arC,y,L,IC.ve32]
  rw[zH,one,bd_ok,zdq k h I J m rs.ops z,bd_ok];rfl
 have x:yR (yc T (k+2)) [AD,AA (.int I),AA (.int J),AA (.loc u)] (.n 0) (.cst (.bl AC)) (.call ygX (.cons (.var 0) (.cons (.fld cU (.var 3) sn) (.cons (.var 1) (.cons (.var 2) .nil))))) (.str rs.nm::m) st=_:=x;let#[d,g]:=h.sr (r+1);have M:∀st,yX .tuple st [.lst (.str rs.nm::rs.ops.map (Op.pv I J n))]=AA (rs.pv I J n):=λ_=>rfl;let#[b,N]:=g.ap B (.tp AB [.str "row",rs.pv I J n]);have O:∀(i j:Ht) (a b:PV) (Y:IC.Env),yW (.t [i,j]) (.tp AB [a,b]) Y=AA ((Y.set i (AA a)).set j (AA b)):=λ_ _ _ _ _=>rfl;have c:decide (r+1 > 4000)=false:=Hu ();have Q:yiK=.int 4000:=rfl;have y:=h.fr;have U:=g.fr;have X:=g.fs;have o:=g.ok;have Z:=λst=>zV (.str rs.nm::rs.ops.map (Op.pv I J n)) (by simp[p];lia) st;refine#[_,?_,N];rw[zo E rfl rfl];generalize PV.tp AB (G.map .int)=gv,PV.str rs.nm::rs.ops.map (Op.pv I J n)=row,rs.pv I J n=A at *;simp! [y8,H,O,x,Z,M,y,ziP,d,za3,f,U,Q,c,X,o,b,IC.ve32,zM];rfl
end
inductive StR:Hs PV->Hs PV->Prop
 |nil:StR [] []
 |row {xs rs v}:nL v=AC->StR xs rs->StR (xs++[.tp AB [.str "row",v]]) (rs++[v])
 |ask {xs rs a b c}:nLs [a,b,c]=AC->StR xs rs->StR (xs++[.tp AB [.str "asked",a,b,c]]) rs
def US(st:SO)(u l:Ht)(w n:Hw)(R:Hs PV)(q:Hw)(a:Ht):Prop:=∃b,UM st u l w n R.length q b/\StR b R/\b.length<=R.length+a
section
variable {st:SO}{u l:Ht}{w n q:Hw}{R:Hs PV}{a:Ht}
def gpB:Css:=match yj.body with
 |.cons (.for _ _ b) _=>b
 |x=>x
def zb4:yJ .eq (.str "row") (.str "row")=AA (.bl AC):=by ac_rfl
def zcZ:yJ .eq (.str "rounds") (.str "row")=AA (.bl AB):=by ac_rfl
def zin(I J n:Hw)(o:Op):nL (o.pv I J n)=true:=by cases o<;>rfl
def zed(I J n:Hw):∀a:Hs Op,nLs (a.map (Op.pv I J n))=AC
 |[]=>rfl
 |o::os=>by rw[AW,nLs,zin,zed I J n os];rfl
def zhy(r:Rs)(I J n:Hw):nL (r.pv I J n)=true:=by show nLs (PV.str r.nm::r.ops.map (Op.pv I J n))=AC;rw[nLs,zed];rfl
def zeZ(k:Ht)(H:US st u l w n R q a)(o:R.length+1<=4000)(p:a<=500000){v:PV}{r:Rs}(d:ybB v=AA r)(G:Hs Hw)(f:G.length<=2)
  (c:∀s,yc T (k+2) yeN [r.pv (G.headD 0) (G.tail.headD 0) n] s=.ok (.bl AC) s) (p1:Option PV):
  ∃s,exs (yc T (k+3)) [AA (.loc u),p1,AA (.tp AB (G.map .int)),AA v] st gpB=.nx [AA (.loc u),p1,AA (.tp AB (G.map .int)),AA v] s/\US s u l w n (R++[r.pv (G.headD 0) (G.tail.headD 0) n]) q a:=by
 let#[t,h,g,x]:=H;let#[b,y,rfl,j]:=zgY d;let#[s,e,m]:=zlE k h () () j G f c;have ih:=h.ins (AE "add_row");refine#[s,?_,_,?_,.row (zhy _ _ _ _) g,by simp;lia]
 .generalize PV.tp AB (G.map .int)=z at *;simp! [gpB,yj,ix0,ix1,zb4,ih,e,IC.ve37]
 .rw[AO,Bi];exact m
def zhI(k:Ht)(I J:Hw)(p1:Option PV)(g:a<=500000):∀(vs:Hs PV) (rs:Hs Rs) (st:SO) (R:Hs PV) (p3:Option PV),deepOf vs=AA rs->US st u l w n R q a->R.length+rs.length<=4000 ->
  (∀r∈rs,∀s,yc T (k+2) yeN [r.pv I J n] s=.ok (.bl AC) s) ->
  ∃s c,yaT (yc T (k+3)) (.n 3) gpB vs [AA (.loc u),p1,AA (.tp AB [.int I,.int J]),p3] st=.nx [AA (.loc u),p1,AA (.tp AB [.int I,.int J]),c] s/\US s u l w n (R++rs.map λr=>r.pv I J n) q a
 |[],rs,st,R,p3,d,H,_,_=>by
  cases d
  exact#[st,p3,zO,by simpa using H]
 |v::vs,rs,st,R,p3,d,H,m,b=>by
  unfold deepOf at d;split at d
  .rename_i x y o p
   cases d
   erw[AV]at m;let#[j,f,t]:=zeZ k H () g o [I,J] (by simp) (b x (by simp)) p1;have f:exs (yc T (k+3)) [AA (.loc u),p1,AA (.tp AB [.int I,.int J]),AA v] st gpB=.nx [AA (.loc u),p1,AA (.tp AB [.int I,.int J]),AA v] j:=f;let#[z,c,A,B]:=zhI k I J p1 g vs y j _ (AA v) p t (by simp;lia) (λr C=>b r (by simp[C]));refine#[z,c,?_,by simpa using B];rw[zr (Y1:=[AA (.loc u),p1,AA (.tp AB [.int I,.int J]),AA v]) rfl,f];exact A
  .cases d
def zgD{A:Type}(f:Ht->Hs A){i:Ht}:∀n,i<=n->(upTo f i).length<=(upTo f n).length
 |0,h=>by rw[show i=0 by lia];exact AS _
 |n+1,h=>by
  rcases FE i (n+1)with a|a
  .have:=zgD f (i:=i) n ();rw[upTo,AO];lia
  .have:i=n+1:=by lia
   rw[this];exact AS _
theorem US.ask(H:US st u l w n R q a)(k:Ht)(g:a+1<=500000)(j:R.length<=4000)(sen:PV)(b:nL sen=AC)(G:Hs Hw)(c:G.length<=2):∃s,yc T (k+2) yiP [.loc u,sen,.tp AB (G.map .int)] st=.ok .non s/\US s u l w n R q (a+1):=by let#[m,h,d,o]:=H;let#[s,e,f]:=zhn k h () sen G c;exact#[s,e,_,f,.ask (by simp[nLs,nL,b]) d,by simp;lia]
theorem US.rnd(H:US st u l w n R q a)(k:Ht)(b:q+1<=4000):∃s,yc T (k+1) yik [.loc u] st=.ok .non s/\US s u l w n R (q+1) a:=by let#[g,h,c,d]:=H;let#[s,e,f]:=zhH k h b;exact#[s,e,_,f,c,d]
theorem US.ins(H:US st u l w n R q a)(x:AQ)(b:((ufs 0 0 0 0 0).lookup x).isNone=true:=by decide +kernel):ycB cU x st (.loc u)=AA true:=by let#[c,h,_]:=H;exact h.ins x b
def grB:Css:=match yg.body with
 |.cons _ (.cons (.for _ _ b) _)=>b
 |x=>x
def zoQ:∀(G:Hs Hw),G.length<=1->∀J:Hw,yO .add (.tp AB (G.map .int)) (.tp AB [.int J])=AA (.tp AB ((G++[J]).map .int))
 |[],_,J=>rfl
 |[a],_,J=>rfl
def BodyOk(k u l:Ht)(w n:Hw)(d:Hy)(vs:Hs PV)(G:Hs Hw)(f:Ht->Hs PV)(qn an J:Ht):Prop:=
 ∀(st:SO) (R:Hs PV) (q:Hw) (a:Ht),US st u l w n R q a->R.length+(f J).length<=4000->q+qn<=4000->a+an<=500000 ->
  ∃s,yc T k yic [.loc u,.tp d vs,.tp AB ((G++[(J:Hw)]).map .int)] st=.ok .non s/\US s u l w n (R++f J) (q+qn) (a+an)
def zhZ(k:Ht){a1 d:Hy}{s0 cn sn:PV}(c:nL sn=AC){vs:Hs PV}{G:Hs Hw}(o:G.length<=1){f:Ht->Hs PV}{qn an N:Ht}(p:∀J<N,BodyOk (k+2) u l w n d vs G f qn an J)
  (x:R.length+(upTo f N).length<=4000) (y:q+(N*(1+qn):Ht)<=4000) (z:a+N*(1+an)<=500000):∀(M j:Ht) (st:SO) (p4:Option PV),j+M=N->US st u l w n (R++upTo f j) (q+(j*(1+qn):Ht)) (a+j*(1+an)) ->
  ∃s b,yaT (yc T (k+2)) (.n 4) grB (yt M (j:Hw) 1) [AA (.loc u),AA (.tp a1 [s0,cn,sn,.tp d vs]),AA (.tp AB (G.map .int)),AA (.int N),p4] st=.nx [AA (.loc u),AA (.tp a1 [s0,cn,sn,.tp d vs]),AA (.tp AB (G.map .int)),AA (.int N),b] s/\US s u l w n (R++upTo f N) (q+(N*(1+qn):Ht)) (a+N*(1+an))
 |0,j,st,p4,A,H=>by
  have:j=N:=by lia
  subst this;exact#[st,p4,by rw[yt];exact zO,H]
 |M+1,j,st,p4,A,H=>by
  have B:(upTo f (j+1)).length<=(upTo f N).length:=zgD f N ();rw[upTo,AO]at B;have m1:(j+1)*(1+qn)<=N*(1+qn):=D8 _ ();have m2:(j+1)*(1+an)<=N*(1+an):=D8 _ ();have C:(j+1)*(1+qn)=j*(1+qn)+(1+qn):=DR _ _;have D:(j+1)*(1+an)=j*(1+an)+(1+an):=DR _ _;let#[s1,E,r]:=H.ask k () (by rw[AO];lia) sn c (G++[(j:Hw)]) (by simp;lia);let#[I,L,t]:=r.rnd (k+1) ();let#[g,O,m]:=p j () I _ _ _ t (by rw[AO];lia) () ();have m:US g u l w n (R++upTo f (j+1)) (q+((j+1)*(1+qn):Ht)) (a+(j+1)*(1+an)):=by
   rw[upTo,<-B1,C,D];have Q:q+((j*(1+qn)+(1+qn):Ht):Hw)=q+((j*(1+qn):Ht):Hw)+1+(qn:Hw):=by lia
   have U:a+(j*(1+an)+(1+an))=a+j*(1+an)+1+an:=by lia
   rw[Q,U];exact m
  let#[X,b,Y,Z]:=zhZ k (a1:=a1) (s0:=s0) (cn:=cn) (sn:=sn) c o p x y z M (j+1) g (AA (.int j)) () m;refine#[X,b,?_,Z];have i1:=H.ins (AE "add_asked");have i2:=r.ins (AE "add_round");have i3:=t.ins (AE "go_parts");have c1:=zoQ G o (j:Hw);have one:exs (yc T (k+2)) [AA (.loc u),AA (.tp a1 [s0,cn,sn,.tp d vs]),AA (.tp AB (G.map .int)),AA (.int N),AA (.int (j:Hw))] st grB=.nx [AA (.loc u),AA (.tp a1 [s0,cn,sn,.tp d vs]),AA (.tp AB (G.map .int)),AA (.int N),AA (.int (j:Hw))] g:=by generalize PV.tp AB (G.map .int)=gv,PV.tp AB ((G++[(j:Hw)]).map .int)=gw,PV.tp d vs=pv at *;simp! [grB,yg,ix0,ix1,ix2,ix3,c1,i1,i2,i3,E,L,O,IC.ve37]
  rw[yt,zr (Y1:=[AA (.loc u),AA (.tp a1 [s0,cn,sn,.tp d vs]),AA (.tp AB (G.map .int)),AA (.int N),AA (.int (j:Hw))]) rfl,one];exact Y
theorem US.cnt(H:US st u l w n R q a)(k:Ht)(b:Hy){c m t:Hw}(d:m.natAbs<=200)(f:t.natAbs<=200)(g:0<=n)(o:n<=8):yc T (k+1) yiO [.loc u,.tp b [.int c,.int m,.int t]] st=.ok (.int (c+m*n+t*w*n)) st:=by let#[p,h,_]:=H;have zbt:∀{i j:Hw},j.natAbs<18446744073709551616->yO .mul (.int i) (.int j)=AA (.int (i*j)):=λh=>zi4 (.inr h);exact zi9 k h b c m t (zat ()) (zat ()) (zbt ())
def zes(z:Hw)(s:SO):yX .max s [.int 0,.int z]=AA (.int ((z.toNat:Ht):Hw)):=by
 show AA (PV.int (if 0<z then z else 0))=_;split
 .rw[Cv ()]
 .rw[show z.toNat=0 by lia];rfl
def zdX(k:Ht){a1 b d:Hy}{s0 sn:PV}(g:nL sn=AC){vs:Hs PV}{c m t:Hw}{G:Hs Hw}(p:G.length<=1){f:Ht->Hs PV}{qn an N:Ht}(B:N=cnt c m t w n)(C:m.natAbs<=200)(D:t.natAbs<=200)(E:0<=n)(I:n<=8)(L:N<1000000)
  (M:∀J<N,BodyOk (k+2) u l w n d vs G f qn an J) (O:R.length+(upTo f N).length<=4000) (Q:q+(N*(1+qn):Ht)<=4000) (ha:a+N*(1+an)+1<=500000) (H:US st u l w n R q a):
  ∃s,yc T (k+3) yB [.loc u,.tp a1 [s0,.tp b [.int c,.int m,.int t],sn,.tp d vs],.tp AB (G.map .int)] st=.ok .non s/\US s u l w n (R++upTo f N) (q+(N*(1+qn):Ht)) (a+N*(1+an)+1):=by
 have U:T yB=AA #[3,5,AB,yg.body]:=rfl;have X:=H.cnt (k+1) b (c:=c) C D E I;have Y:=H.ins (AE "count_of");let#[s1,p4,j,y]:=zhZ k (a1:=a1) (s0:=s0) (cn:=.tp b [.int c,.int m,.int t]) (sn:=sn) (a:=a) (q:=q) (R:=R) g p M O Q () N 0 st AD () (by simpa [upTo] using H);let#[Z,e3,H3]:=y.ask k () (by rw[AO];lia) sn g (G++[(N:Hw)]) (by simp;lia);have i2:=y.ins (AE "add_asked");have c1:=zoQ G p (N:Hw);have A:=zes (c+m*n+t*w*n) st;have hz:((c+m*n+t*w*n).toNat:Hw)=(N:Hw):=by rw[B];rfl
 rw[hz]at A;have hr:ybE (.int (N:Hw))=AA (yt N 0 1):=by erw[ybE];rw[Hz ()];rfl
 have o:yg.body=(match yg.body with
  |.cons x (.cons (.for t i _) r)=>.cons x (.cons (.for t i grB) r)
  |x=>x):=rfl
 refine#[Z,?_,H3];rw[zo U rfl rfl];dsimp only;rw[o];have j:yaT (yc T (k+2)) (.n 4) grB (yt N 0 1) _ st=_:=j;generalize PV.tp AB (G.map .int)=gv,PV.tp AB ((G++[(N:Hw)]).map .int)=gw,PV.tp d vs=pv,PV.tp b [.int c,.int m,.int t]=cv,c+m*n+t*w*n=z at *;simp! [yg,ix0,ix1,ix2,ix3,Y,X,A,hr,j,c1,i2,e3,IC.ve37,zM];rfl
def zeP(k:Ht){b:Hy}{vs:Hs PV}{a:PV}{s:SO}{p3:Option PV}(e:yaT (yc T k) (.n 3) gpB vs [AA (.loc u),AA (.tp b vs),AA a,AD] st=.nx [AA (.loc u),AA (.tp b vs),AA a,p3] s):
  yc T (k+1) yic [.loc u,.tp b vs,a] st=.ok .non s:=by
 have d:T yic=AA #[3,4,AB,yj.body]:=rfl
 have c:yj.body=(match yj.body with
  |.cons (.for t i _) r=>.cons (.for t i gpB) r
  |x=>x):=rfl
 rw[zo d rfl rfl];dsimp only;rw[c];simp! [yj,e,zM];rfl
def zei(k:Ht){d:Hy}{vs:Hs PV}{rs:Hs Rs}(c:deepOf vs=AA rs)(I:Hw)(J:Ht)(b:∀r∈rs,∀s,yc T (k+2) yeN [r.pv I J n] s=.ok (.bl AC) s):BodyOk (k+4) u l w n d vs [I] (λJ=>rs.map λr=>r.pv I J n) 0 0 J:=by intro st R q a H f j m;let#[s,o,e,g]:=zhI k (a:=a) (q:=q) I J (AA (.tp d vs)) () vs rs st R AD c H (by simpa using f) b;exact#[s,zeP (k+3) e,by simpa using g]
def zjQ(k:Ht)(H:US st u l w n R q a){a1:Hy}{r:Hs PV}{b:PV}{p1:Option PV}{s:SO}(e:yc T k yB [.loc u,.tp a1 (.str "rounds" :: r),b] st=.ok .non s):
  exs (yc T k) [AA (.loc u),p1,AA b,AA (.tp a1 (.str "rounds" :: r))] st gpB=.nx [AA (.loc u),p1,AA b,AA (.tp a1 (.str "rounds" :: r))] s:=by have ih:=H.ins (AE "go_rounds");simp! [gpB,yj,ix0,zcZ,ih,e,IC.ve37]
def ya9(v:PV):Prop:=∀(k:Ht) (s:SO),yc T (10+k) yeN [v] s=.ok (.bl AC) s
def T2.ak(w n:Hw):T2->Ht
 |.row _=>0
 |.rounds c m t _=>cnt c m t w n+1
def ak2(w n:Hw)(ps:Hs T2):Ht:=(ps.map (T2.ak w n)).sum
def zbD{c m t w n:Hw}(a:c.natAbs<=200)(b:m.natAbs<=200)(d:t.natAbs<=200)(o:0<=w)(w1:w<=16)(p:0<=n)(q:n<=8):(c+m*n+t*w*n).natAbs<1000000:=by
 have f:(m*n).natAbs<=200*8:=by rw[F3];exact C4 b ()
 have g:(t*w*n).natAbs<=200*16*8:=by rw[F3,F3];exact C4 (C4 d ()) ()
 have j:=BK (GW (c+m*n) (t*w*n)) (HG (GW c (m*n)) g);have l:c.natAbs+(m*n).natAbs+200*16*8<=200+200*8+200*16*8:=Ht.add_le_add_right (HG a f) _;exact EF (BK j l) ⋯
def zdh{A:Type}{f:Ht->Hs A}{x:A}:∀{N J:Ht},J<N->x∈f J->x∈upTo f N
 |0,_,h,_=>IB h ()
 |N+1,J,h,a=>by
  rw[upTo,Am];rcases FE J N with b|b
  .exact .inl (zdh b a)
  .have:J=N:=by lia
   exact .inr (this ▸ a)
def zie{a b d:Hy}{x c m t sn:PV}{vs:Hs PV}(h:nL (.tp a [x,.tp b [c,m,t],sn,.tp d vs])=AC):nL sn=true:=by erw[nL,nLs,AH]at h;exact h.2.2.1
def zlk{a b d:Hy}{x c m t sn:PV}{vs:Hs PV}(h:nL (.tp a [x,.tp b [c,m,t],sn,.tp d vs])=AC):nLs vs=true:=by erw[nL,nLs,AH]at h;exact h.2.2.2.1
def zar{v:PV}{vs:Hs PV}(h:nLs (v::vs)=AC):nL v=AC/\nLs vs=true:=by simpa only[nLs,AH] using h
def zgE(k:Ht)(D:0<=w)(w1:w<=16)(y:0<=n)(z:n<=8)(I:Ht)(p1:Option PV){v:PV}{p:T2}(E:nL v=AC)(L:part2 v=AA p)(H:US st u l w n R q a)(j:R.length+(p.rows w n I).length<=4000)(A:q+(p.rnd w n:Ht)<=4000)(M:a+p.ak w n<=500000)(g:∀x∈p.rows w n I,ya9 x):
  ∃s,exs (yc T (k+13)) [AA (.loc u),p1,AA (.tp AB [.int I]),AA v] st gpB=.nx [AA (.loc u),p1,AA (.tp AB [.int I]),AA v] s/\US s u l w n (R++p.rows w n I) (q+(p.rnd w n:Ht)) (a+p.ak w n):=by
 rcases zfx L with⟨r,rfl,N⟩|⟨a1,b,sn,d,vs,c,m,t,O,rfl,rfl,Q,U,B,C⟩
 .let#[s,e,o]:=zeZ (k+10) H (by simpa [T2.rows] using j) () N [(I:Hw)] (by simp) (λs=>by have:=g (r.pv I 0 n) (by simp[T2.rows]) (k+2) s;rw[show 10+(k+2)=k+10+2 by lia]at this;exact this) p1
  exact#[s,e,by simpa [T2.rows,T2.rnd,T2.ak] using o]
 .have X:cnt c m t w n<1000000:=by have:=zbD U B C D w1 y z;erw[cnt];lia
  erw[T2.rows,T2.rnd,T2.ak]at j A M g ⊢;let#[s,e,o]:=zdX (k+10) (a1:=a1) (b:=b) (d:=d) (s0:=.str "rounds") (sn:=sn) (zie E) (vs:=vs) (G:=[(I:Hw)]) (by simp) (f:=λJ=>O.map λr=>r.pv I J n) (qn:=0) (an:=0) rfl B C y z X
   (λJ Y=>zei (k+8) Q I J (λr Z s=>by have:=g (r.pv I J n) (zdh Y (GX.2 #[r,Z,rfl])) k s;rw[show 10+k=k+8+2 by lia]at this;exact this)) j (by simpa using A) () H
  have e:yc T (k+13) yB [.loc u,.tp a1 [.str "rounds",.tp b [.int c,.int m,.int t],sn,.tp d vs],.tp AB [.int I]] st=.ok .non s:=e;exact#[s,zjQ (k+13) H e,by simpa [E6] using o]
def zjE(k:Ht)(j:0<=w)(w1:w<=16)(m:0<=n)(o:n<=8)(I:Ht)(p1:Option PV):∀(vs:Hs PV) (ps:Hs T2) (st:SO) (R:Hs PV) (q:Hw) (a:Ht) (p3:Option PV),nLs vs=AC->yax vs=AA ps->US st u l w n R q a->R.length+(yam w n I ps).length<=4000->q+(ya8 w n ps:Ht)<=4000->a+ak2 w n ps<=500000->(∀x∈yam w n I ps,ya9 x) ->
  ∃s c,yaT (yc T (k+13)) (.n 3) gpB vs [AA (.loc u),p1,AA (.tp AB [.int I]),p3] st=.nx [AA (.loc u),p1,AA (.tp AB [.int I]),c] s/\US s u l w n (R++yam w n I ps) (q+(ya8 w n ps:Ht)) (a+ak2 w n ps)
 |[],ps,st,R,q,a,p3,_,d,H,_,_,_,_=>by
  cases d
  exact#[st,p3,zO,by simpa [yam,ya8,ak2] using H]
 |v::vs,ps,st,R,q,a,p3,p,d,H,A,B,C,b=>by
  unfold yax at d;split at d
  .rename_i x y D E
   cases d
   have f:yam w n I (x::y)=x.rows w n I++yam w n I y:=by simp[yam]
   have r:ya8 w n (x::y)=x.rnd w n+ya8 w n y:=by simp[ya8]
   have t:ak2 w n (x::y)=x.ak w n+ak2 w n y:=by simp[ak2]
   rw[f,AO]at A;rw[r]at B;rw[t]at C;rw[f]at b;rw[f,r,t];let#[G,J,L]:=zgE k j w1 m o I p1 (zar p).1 D H () () () (λz g=>b z (by simp[g]));let#[M,c,N,O]:=zjE k j w1 m o I p1 vs y G _ _ _ (AA v) (zar p).2 E L (by rw[AO];lia) () () (λz g=>b z (by simp[g]));refine#[M,c,?_,?_]
   .rw[zr (Y1:=[AA (.loc u),p1,AA (.tp AB [.int I]),AA v]) rfl,J];exact N
   .rw[<-B1,<-E6,show q+((x.rnd w n+ya8 w n y:Ht):Hw)=q+(x.rnd w n:Ht)+(ya8 w n y:Ht)by lia];exact O
  .cases d
def ze0(k:Ht)(c:0<=w)(w1:w<=16)(f:0<=n)(g:n<=8){d:Hy}{vs:Hs PV}{ps:Hs T2}(j:nLs vs=AC)(m:yax vs=AA ps)(I:Ht)(b:∀x∈yam w n I ps,ya9 x):BodyOk (k+14) u l w n d vs [] (λI=>yam w n I ps) (ya8 w n ps) (ak2 w n ps) I:=by intro st R q a H o p r;let#[s,y,e,t]:=zjE k c w1 f g I (AA (.tp d vs)) vs ps st R q a AD j m H o p r b;exact#[s,zeP (k+13) e,t]
def T1.ak(w n:Hw):T1->Ht
 |.row _=>0
 |.rounds c m t a=>cnt c m t w n*(1+ak2 w n a)+1
def ak1(w n:Hw)(ps:Hs T1):Ht:=(ps.map (T1.ak w n)).sum
def zhT(k:Ht)(C:0<=w)(w1:w<=16)(j:0<=n)(o:n<=8)(p1:Option PV){v:PV}{p:T1}(D:nL v=AC)(N:part1 v=AA p)(H:US st u l w n R q a)(y:R.length+(p.rows w n).length<=4000)(E:q+(p.rnd w n:Ht)<=4000)(O:a+p.ak w n<=500000)(g:∀x∈p.rows w n,ya9 x):
  ∃s,exs (yc T (k+15)) [AA (.loc u),p1,AA (.tp AB []),AA v] st gpB=.nx [AA (.loc u),p1,AA (.tp AB []),AA v] s/\US s u l w n (R++p.rows w n) (q+(p.rnd w n:Ht)) (a+p.ak w n):=by
 rcases ze1 N with⟨r,rfl,Q⟩|⟨a1,b,sn,d,vs,c,m,t,A,rfl,rfl,U,X,L,M⟩
 .let#[s,e,B]:=zeZ (k+12) H (by simpa [T1.rows] using y) () Q [] (by simp) (λs=>by have:=g (r.pv 0 0 n) (by simp[T1.rows]) (k+4) s;rw[show 10+(k+4)=k+12+2 by lia]at this;exact this) p1
  exact#[s,e,by simpa [T1.rows,T1.rnd,T1.ak] using B]
 .have Y:cnt c m t w n<1000000:=by have:=zbD X L M C w1 j o;erw[cnt];lia
  erw[T1.rows,T1.rnd,T1.ak]at y E O g ⊢;let#[s,e,B]:=zdX (k+12) (a1:=a1) (b:=b) (d:=d) (s0:=.str "rounds") (sn:=sn) (zie D) (vs:=vs) (G:=[]) (by simp) (f:=λI=>yam w n I A) (qn:=ya8 w n A) (an:=ak2 w n A) rfl L M j o Y
   (λJ Z=>ze0 k C w1 j o (zlk D) U J (λz hz=>g z (zdh Z hz))) y E () H
  have e:yc T (k+15) yB [.loc u,.tp a1 [.str "rounds",.tp b [.int c,.int m,.int t],sn,.tp d vs],.tp AB []] st=.ok .non s:=e;exact#[s,zjQ (k+15) H e,by rw[<-E6];exact B]
def zjH(k:Ht)(j:0<=w)(w1:w<=16)(m:0<=n)(o:n<=8)(p1:Option PV):∀(vs:Hs PV) (ps:Hs T1) (st:SO) (R:Hs PV) (q:Hw) (a:Ht) (p3:Option PV),nLs vs=AC->yak vs=AA ps->US st u l w n R q a->R.length+(yM w n ps).length<=4000->q+(yaJ w n ps:Ht)<=4000->a+ak1 w n ps<=500000->(∀x∈yM w n ps,ya9 x) ->
  ∃s c,yaT (yc T (k+15)) (.n 3) gpB vs [AA (.loc u),p1,AA (.tp AB []),p3] st=.nx [AA (.loc u),p1,AA (.tp AB []),c] s/\US s u l w n (R++yM w n ps) (q+(yaJ w n ps:Ht)) (a+ak1 w n ps)
 |[],ps,st,R,q,a,p3,_,d,H,_,_,_,_=>by
  cases d
  exact#[st,p3,zO,by simpa [yM,yaJ,ak1] using H]
 |v::vs,ps,st,R,q,a,p3,p,d,H,A,B,C,b=>by
  unfold yak at d;split at d
  .rename_i x y D E
   cases d
   have f:yM w n (x::y)=x.rows w n++yM w n y:=by simp[yM]
   have r:yaJ w n (x::y)=x.rnd w n+yaJ w n y:=by simp[yaJ]
   have t:ak1 w n (x::y)=x.ak w n+ak1 w n y:=by simp[ak1]
   rw[f,AO]at A;rw[r]at B;rw[t]at C;rw[f]at b;rw[f,r,t];let#[G,I,J]:=zhT k j w1 m o p1 (zar p).1 D H () () () (λz g=>b z (by simp[g]));let#[L,c,M,N]:=zjH k j w1 m o p1 vs y G _ _ _ (AA v) (zar p).2 E J (by rw[AO];lia) () () (λz g=>b z (by simp[g]));refine#[L,c,?_,?_]
   .rw[zr (Y1:=[AA (.loc u),p1,AA (.tp AB []),AA v]) rfl,I];exact M
   .rw[<-B1,<-E6,show q+((x.rnd w n+yaJ w n y:Ht):Hw)=q+(x.rnd w n:Ht)+(yaJ w n y:Ht)by lia];exact N
  .cases d
end
def zpa(k:Ht)(w n:Hw):yc T (k+1) yjh [.loc 0,.int w,.int n] [.ins cU []]=.ok .non [uob w n 1 0 0,.lst []]:=by have a:T yjh=AA yiL:=rfl;rw[zo a rfl rfl];ac_rfl
def zff(w n:Hw):US [uob w n 1 0 0,.lst []] 0 1 w n [] 0 0:=#[[],#[rfl,rfl,by decide],.nil,by simp]
theorem StR.nl{xs rs:Hs PV}(h:StR xs rs):nLs xs=true:=by
 have ap:∀(a b:Hs PV),nLs a=AC->nLs b=AC->nLs (a++b)=true:=by
  intro a
  induction a with
  |nil=>intro b _ h;exact h
  |cons x a ih=>
   intro b d f;let#[p,q]:=zar d;rw[BD,nLs,p,ih b q f];rfl
 induction h with
 |nil=>rfl
 |row c _ ih=>exact ap _ _ ih (by simp[nLs,nL,c])
 |ask c _ ih=>exact ap _ _ ih (by erw[nLs,nL,E5,A2]at c ⊢;simpa using c)
def zfQ:yJ .eq (.str "asked") (.str "row")=AA (.bl AB):=by ac_rfl
def ziz(k:Ht){b:Hy}{vs:Hs PV}{ps:Hs T1}{w n:Hw}(g:nLs vs=AC)(l:yak vs=AA ps)(m:0<=w)(w1:w<=16)(o:0<=n)(p:n<=8)(q:(yM w n ps).length<=4000)(z:yaJ w n ps<=4000)(A:ak1 w n ps<=500000)(a:∀x∈yM w n ps,ya9 x)
  (d:∀s,yc T (k+16) yT [.tp b vs] s=.ok (.bl AC) s) (st:SO):∃c,yc T (k+17) yid [.tp b vs,.int w,.int n] st=.ok (.lst c) st/\StR c (yM w n ps):=by
 have r:T yid=AA yfO:=rfl;have f:nLs [.tp b vs,.int w,.int n]=true:=by simp[nLs,nL,g]
 let#[s,B,e,c,h,j,_]:=zjH k m w1 o p (AA (.tp b vs)) vs ps [uob w n 1 0 0,.lst []] [] 0 0 AD g l (zff w n) (by simpa using q) () () a;have e:=zeP (k+15) e;have t:=zpa (k+15) w n;have ih:=(zff w n).ins (AE "go_parts");have u:=h.fs;have y:yb4 (.loc 1) s=.ok (.lst c) (s.set 1 .dead):=by simp[yb4,h.d]
 refine#[c,?_,by simpa using j];have nl:=j.nl;rw[zh r rfl rfl f];generalize PV.tp b vs=C at *;simp! [yfO,d,t,ih,e,u,y,IC.ve32,IC.ve33,IC.ve37,ybw,newV];simp[ydY,nL,nl]
def unT:Ce:=.cmp .eq (.idx (.var 0) (.cst (.int 0))) (.cst (.str "row"))
def unE:Ce:=.idx (.var 0) (.cst (.int 1))
def zim(k:Ht){st:SO}{xs rs:Hs PV}(h:StR xs rs):∀(ys b:Hs PV),yR (yc T k) [AD] (.n 0) unT unE ys st=.ok b st->yR (yc T k) [AD] (.n 0) unT unE (xs++ys) st=.ok (rs++b) st:=by
 induction h with
 |nil=>intro ys b e;exact e
 |@row xs rs v a _ ih=>
  intro ys b e;have one:yaC (yc T k) [AD] (.n 0) unT unE (.tp AB [.str "row",v]) st=.ok (AA v) st:=by simp! [yaC,unT,unE,ix0,ix1,zb4]
  have:=ih (.tp AB [.str "row",v]::ys) (v::b) (by rw[zH,one,bd_ok,e,bd_ok];rfl);rw[B1,B1];exact this
 |@ask xs rs x y z a _ ih=>
  intro ys b e;have one:yaC (yc T k) [AD] (.n 0) unT unE (.tp AB [.str "asked",x,y,z]) st=.ok AD st:=by simp! [yaC,unT,unE,ix0,ix1,zfQ]
  have:=ih (.tp AB [.str "asked",x,y,z]::ys) b (by rw[zH,one,bd_ok,e,bd_ok];rfl);rw[B1];exact this
theorem StR.nl2{xs rs:Hs PV}(h:StR xs rs):nLs rs=true:=by
 have ap:∀(a b:Hs PV),nLs a=AC->nLs b=AC->nLs (a++b)=true:=by
  intro a
  induction a with
  |nil=>intro b _ h;exact h
  |cons x a ih=>
   intro b c d;let#[p,q]:=zar c;rw[BD,nLs,p,ih b q d];rfl
 induction h with
 |nil=>rfl
 |row f _ ih=>exact ap _ _ ih (by simp[nLs,f])
 |ask _ _ ih=>exact ih
theorem unrolled(k:Ht){b:Hy}{vs:Hs PV}{ps:Hs T1}{w n:Hw}(g:nLs vs=AC)(l:yak vs=AA ps)(m:0<=w)(w1:w<=16)(o:0<=n)(p:n<=8)(q:(yM w n ps).length<=4000)(r:yaJ w n ps<=4000)(t:ak1 w n ps<=500000)(a:∀x∈yM w n ps,ya9 x)
  (d:∀s,yc T (k+16) yT [.tp b vs] s=.ok (.bl AC) s) (st:SO):yc T (k+18) yfX [.tp b vs,.int w,.int n] st=.ok (.tp AB (yM w n ps)) st:=by
 have u:T yfX=AA yfK:=rfl;have f:nLs [.tp b vs,.int w,.int n]=true:=by simp[nLs,nL,g]
 let#[y,e,j]:=ziz k g l m w1 o p q r t a d [];have c:=zim (k+17) (st:=[]) j [] [] zaG;rw[BE,BE]at c;have c:yR (yc T (k+17)) [AD] (.n 0) (.cmp .eq (.idx (.var 0) (.cst (.int 0))) (.cst (.str "row"))) (.idx (.var 0) (.cst (.int 1))) y []=_:=c;have nl:=j.nl2;have z:=λst=>zV (yM w n ps) () st;have A:∀st,yX .tuple st [.lst (yM w n ps)]=AA (.tp AB (yM w n ps)):=λ_=>rfl;rw[zh u rfl rfl f];generalize PV.tp b vs=B,yM w n ps=rows at *;simp! [yfK,e,c,z,A];simp[ydY,nL,nl]
section
variable {st:SO}{u l:Ht}{w n r q:Hw}{xs:Hs PV}
end
def zjM{A:Type}{f:Ht->Hs A}{x:A}:∀{N:Ht},x∈upTo f N->∃J,J<N/\x∈f J
 |0,h=>by simp[upTo]at h
 |N+1,h=>by
  rcases Am.1 h with h|h
  .let#[J,a,b]:=zjM h;exact#[J,by lia,b]
  .exact#[N,by lia,h]
section
variable {st:SO}{u l:Ht}{w n q:Hw}{R:Hs PV}{a:Ht}
def zcr(k:Ht){b:Hy}{vs:Hs PV}{c:PV}{s:SO}{Y:IC.Env}(e:yaT (yc T k) (.n 3) gpB vs [AA (.loc u),AA (.tp b vs),AA c,AD] st=.exc 5 Y s):
  yc T (k+1) yic [.loc u,.tp b vs,c] st=.exc 5 s:=by
 have d:T yic=AA #[3,4,AB,yj.body]:=rfl
 have a:yj.body=(match yj.body with
  |.cons (.for t i _) r=>.cons (.for t i gpB) r
  |x=>x):=rfl
 rw[zo d rfl rfl];dsimp only;rw[a];simp! [yj,e];rfl
def zfg(k:Ht)(H:US st u l w n R q a){a1:Hy}{r:Hs PV}{b:PV}{p1:Option PV}{s:SO}(e:yc T k yB [.loc u,.tp a1 (.str "rounds" :: r),b] st=.exc 5 s):
  ∃Y s,exs (yc T k) [AA (.loc u),p1,AA b,AA (.tp a1 (.str "rounds" :: r))] st gpB=.exc 5 Y s:=by have ih:=H.ins (AE "go_rounds");refine#[[AA (.loc u),p1,AA b,AA (.tp a1 (.str "rounds" :: r))],s,?_];simp! [gpB,yj,ix0,zcZ,ih,e,IC.ve37]
end
section
variable {st:SO}{u l:Ht}{w n r q:Hw}{xs:Hs PV}
def zeD(k:Ht)(h:UM st u l w n r q xs)(m:4000<q+1):∃s,yc T (k+1) yik [.loc u] st=.exc 5 s:=by have a:T yik=AA y9:=rfl;let#[d,b]:=h.sq (q+1);have c:decide (q+1 > 4000)=true:=Hv ();have f:yiJ=.int 4000:=rfl;refine#[st.set u (uob w n l r (q+1)),?_];rw[zo a rfl rfl];have g:=h.fq;have j:=b.fq;simp! [y9,g,ziP,d,za3,j,f,c,IC.ve32];rfl
def zgN(k:Ht)(h:UM st u l w n r q xs)(U:4000<r+1){v:PV}{rs:Rs}(z:rowOf v=AA rs)(G:Hs Hw)(A:G.length<=2)
  (f:∀s,yc T (k+2) yeN [rs.pv (G.headD 0) (G.tail.headD 0) n] s=.ok (.bl AC) s):
  ∃s,yc T (k+3) yiE [.loc u,v,.tp AB (G.map .int)] st=.exc 5 s:=by
 have B:T yiE=AA y8:=rfl;let#[a,g,rfl,x,X]:=zfq z;have C:=zcG (k+1) G A st;generalize G.headD 0=I,G.tail.headD 0=J at *;have m:=zez x;have o:yR (yc T (k+2)) [AD,AA (.int I),AA (.int J),AA (.loc u)] (.n 0) (.cst (.bl AC)) arC (.str rs.nm::g) st=.ok (.str rs.nm::rs.ops.map (Op.pv I J n)) st:=by
  have D:=zc2 k rs.nm I J n st;have p:=h.fn;have one:yaC (yc T (k+2)) [AD,AA (.int I),AA (.int J),AA (.loc u)] (.n 0) (.cst (.bl AC)) arC (.str rs.nm) st=.ok (AA (.str rs.nm)) st:=by simp! [yaC,arC,p,D,IC.ve32]
  rw[zH,one,bd_ok,zdq k h I J g rs.ops x,bd_ok];rfl
 have o:yR (yc T (k+2)) [AD,AA (.int I),AA (.int J),AA (.loc u)] (.n 0) (.cst (.bl AC)) (.call ygX (.cons (.var 0) (.cons (.fld cU (.var 3) sn) (.cons (.var 1) (.cons (.var 2) .nil))))) (.str rs.nm::g) st=_:=o;let#[d,E]:=h.sr (r+1);have H:∀st,yX .tuple st [.lst (.str rs.nm::rs.ops.map (Op.pv I J n))]=AA (rs.pv I J n):=λ_=>rfl;have L:∀(i j:Ht) (a b:PV) (Y:IC.Env),yW (.t [i,j]) (.tp AB [a,b]) Y=AA ((Y.set i (AA a)).set j (AA b)):=λ_ _ _ _ _=>rfl;have p:=h.fr;have M:=E.fr;have c:decide (r+1 > 4000)=true:=Hv ();have N:yiK=.int 4000:=rfl;have O:=λst=>zV (.str rs.nm::rs.ops.map (Op.pv I J n)) (by simp[m];lia) st;refine#[st.set u (uob w n l (r+1) q),?_];rw[zo B rfl rfl];generalize PV.tp AB (G.map .int)=Z,PV.str rs.nm::rs.ops.map (Op.pv I J n)=Q,rs.pv I J n=y at *;simp! [y8,C,L,o,O,H,p,ziP,d,za3,f,M,N,c,IC.ve32];rfl
end
section
variable {st:SO}{u l:Ht}{w n q:Hw}{R:Hs PV}{a:Ht}
def zdn(k:Ht)(H:US st u l w n R q a)(m:4000<R.length+1){v:PV}{r:Rs}(d:ybB v=AA r)(G:Hs Hw)(f:G.length<=2)
  (c:∀s,yc T (k+2) yeN [r.pv (G.headD 0) (G.tail.headD 0) n] s=.ok (.bl AC) s) (p1:Option PV):
  ∃Y s,exs (yc T (k+3)) [AA (.loc u),p1,AA (.tp AB (G.map .int)),AA v] st gpB=.exc 5 Y s:=by let#[o,h,p,t]:=H;let#[b,g,rfl,j]:=zgY d;let#[s,e]:=zgN k h () j G f c;have ih:=h.ins (AE "add_row");refine#[[AA (.loc u),p1,AA (.tp AB (G.map .int)),AA (.tp b [.str "row",g])],s,?_];generalize PV.tp AB (G.map .int)=x at *;simp! [gpB,yj,ix0,ix1,zb4,ih,e,IC.ve37]
def zdN(k:Ht)(I J:Hw)(p1:Option PV)(m:a<=500000):∀(vs:Hs PV) (rs:Hs Rs) (st:SO) (R:Hs PV) (p3:Option PV),deepOf vs=AA rs->US st u l w n R q a->R.length<=4000->4000<R.length+rs.length ->
  (∀r∈rs,∀s,yc T (k+2) yeN [r.pv I J n] s=.ok (.bl AC) s) ->
  ∃Y s,yaT (yc T (k+3)) (.n 3) gpB vs [AA (.loc u),p1,AA (.tp AB [.int I,.int J]),p3] st=.exc 5 Y s
 |[],rs,st,R,p3,f,H,p,j,_=>by
  cases f
  simp at j;lia
 |v::vs,rs,st,R,p3,f,H,p,j,b=>by
  unfold deepOf at f;split at f
  .rename_i x y o t
   cases f
   erw[AV]at j
   by_cases c:4000<R.length+1
   .let#[Y,g,d]:=zdn k H c o [I,J] (by simp) (b x (by simp)) p1;have d:exs (yc T (k+3)) [AA (.loc u),p1,AA (.tp AB [.int I,.int J]),AA v] st gpB=.exc 5 Y g:=d;exact#[Y,g,by rw[zr (Y1:=[AA (.loc u),p1,AA (.tp AB [.int I,.int J]),AA v]) rfl,d];rfl]
   .let#[g,d,z]:=zeZ k H () m o [I,J] (by simp) (b x (by simp)) p1;have d:exs (yc T (k+3)) [AA (.loc u),p1,AA (.tp AB [.int I,.int J]),AA v] st gpB=.nx [AA (.loc u),p1,AA (.tp AB [.int I,.int J]),AA v] g:=d;let#[Y,A,B]:=zdN k I J p1 m vs y g _ (AA v) t z (by simp;lia) (by simp;lia) (λr C=>b r (by simp[C]));exact#[Y,A,by rw[zr (Y1:=[AA (.loc u),p1,AA (.tp AB [.int I,.int J]),AA v]) rfl,d];exact B]
  .cases f
def yd1(k u l:Ht)(w n:Hw)(d:Hy)(vs:Hs PV)(G:Hs Hw)(f:Ht->Hs PV)(qn an J:Ht):Prop:=
 ∀(st:SO) (R:Hs PV) (q:Hw) (a:Ht),US st u l w n R q a->R.length<=4000->q<=4000->(4000<R.length+(f J).length \/ 4000<q+qn)->a+an<=500000 ->
  ∃s,yc T k yic [.loc u,.tp d vs,.tp AB ((G++[(J:Hw)]).map .int)] st=.exc 5 s
def zdP(k:Ht){a1 d:Hy}{s0 cn sn:PV}(g:nL sn=AC){vs:Hs PV}{G:Hs Hw}(D:G.length<=1){f:Ht->Hs PV}{qn an N:Ht}(p:∀J<N,BodyOk (k+2) u l w n d vs G f qn an J/\yd1 (k+2) u l w n d vs G f qn an J)
  (Q:4000<R.length+(upTo f N).length \/ 4000<q+(N*(1+qn):Ht)) (U:a+N*(1+an)<=500000):∀(M j:Ht) (st:SO) (p4:Option PV),j+M=N->US st u l w n (R++upTo f j) (q+(j*(1+qn):Ht)) (a+j*(1+an))->R.length+(upTo f j).length<=4000->q+(j*(1+qn):Ht)<=4000 ->
  ∃Y s,yaT (yc T (k+2)) (.n 4) grB (yt M (j:Hw) 1) [AA (.loc u),AA (.tp a1 [s0,cn,sn,.tp d vs]),AA (.tp AB (G.map .int)),AA (.int N),p4] st=.exc 5 Y s
 |0,j,st,p4,X,H,Z,h2=>by
  have:j=N:=by lia
  subst this;lia
 |M+1,j,st,p4,X,H,Z,h2=>by
  have m2:(j+1)*(1+an)<=N*(1+an):=D8 _ ();have n1:(j+1)*(1+qn)=j*(1+qn)+(1+qn):=DR _ _;have n2:(j+1)*(1+an)=j*(1+an)+(1+an):=DR _ _;let#[s1,r,t]:=H.ask k () (by rw[AO];lia) sn g (G++[(j:Hw)]) (by simp;lia);have x:=H.ins (AE "add_asked");have y:=t.ins (AE "add_round");have z:=zoQ G D (j:Hw)
  by_cases c:4000<q+(j*(1+qn):Ht)+1
  .let#[ys,hU,_]:=id t;let#[m,o]:=zeD (k+1) hU c;refine#[[AA (.loc u),AA (.tp a1 [s0,cn,sn,.tp d vs]),AA (.tp AB (G.map .int)),AA (.int N),AA (.int (j:Hw))],m,?_];have one:exs (yc T (k+2)) [AA (.loc u),AA (.tp a1 [s0,cn,sn,.tp d vs]),AA (.tp AB (G.map .int)),AA (.int N),AA (.int (j:Hw))] st grB=.exc 5 [AA (.loc u),AA (.tp a1 [s0,cn,sn,.tp d vs]),AA (.tp AB (G.map .int)),AA (.int N),AA (.int (j:Hw))] m:=by generalize PV.tp AB (G.map .int)=E,PV.tp AB ((G++[(j:Hw)]).map .int)=I,PV.tp d vs=pv at *;simp! [grB,yg,ix0,ix1,ix2,ix3,z,x,y,r,o,IC.ve37]
   rw[yt,zr (Y1:=[AA (.loc u),AA (.tp a1 [s0,cn,sn,.tp d vs]),AA (.tp AB (G.map .int)),AA (.int N),AA (.int (j:Hw))]) rfl,one];rfl
  let#[m,o,A]:=t.rnd (k+1) ();have L:=A.ins (AE "go_parts")
  by_cases c':4000<(R++upTo f j).length+(f j).length \/ 4000<q+(j*(1+qn):Ht)+1+qn
  .let#[b,B]:=(p j ()).2 m _ _ _ A (by rw[AO];lia) () c' ();refine#[[AA (.loc u),AA (.tp a1 [s0,cn,sn,.tp d vs]),AA (.tp AB (G.map .int)),AA (.int N),AA (.int (j:Hw))],b,?_];have one:exs (yc T (k+2)) [AA (.loc u),AA (.tp a1 [s0,cn,sn,.tp d vs]),AA (.tp AB (G.map .int)),AA (.int N),AA (.int (j:Hw))] st grB=.exc 5 [AA (.loc u),AA (.tp a1 [s0,cn,sn,.tp d vs]),AA (.tp AB (G.map .int)),AA (.int N),AA (.int (j:Hw))] b:=by generalize PV.tp AB (G.map .int)=E,PV.tp AB ((G++[(j:Hw)]).map .int)=I,PV.tp d vs=pv at *;simp! [grB,yg,ix0,ix1,ix2,ix3,z,x,y,L,r,o,B,IC.ve37]
   rw[yt,zr (Y1:=[AA (.loc u),AA (.tp a1 [s0,cn,sn,.tp d vs]),AA (.tp AB (G.map .int)),AA (.int N),AA (.int (j:Hw))]) rfl,one];rfl
  have O:(R++upTo f j).length+(f j).length<=4000:=by lia
  have c3:q+(j*(1+qn):Ht)+1+qn<=4000:=by lia
  let#[b,B,C]:=(p j ()).1 m _ _ _ A O c3 ();have C:US b u l w n (R++upTo f (j+1)) (q+((j+1)*(1+qn):Ht)) (a+(j+1)*(1+an)):=by
   rw[upTo,<-B1,n1,n2];have x1:q+((j*(1+qn)+(1+qn):Ht):Hw)=q+((j*(1+qn):Ht):Hw)+1+(qn:Hw):=by lia
   have x2:a+(j*(1+an)+(1+an))=a+j*(1+an)+1+an:=by lia
   rw[x1,x2];exact C
  rw[AO]at O;let#[Y,s4,e4]:=zdP k (a1:=a1) (s0:=s0) (cn:=cn) (sn:=sn) g D p Q U M (j+1) b (AA (.int j)) () C (by rw[upTo,AO];lia) ();refine#[Y,s4,?_];have one:exs (yc T (k+2)) [AA (.loc u),AA (.tp a1 [s0,cn,sn,.tp d vs]),AA (.tp AB (G.map .int)),AA (.int N),AA (.int (j:Hw))] st grB=.nx [AA (.loc u),AA (.tp a1 [s0,cn,sn,.tp d vs]),AA (.tp AB (G.map .int)),AA (.int N),AA (.int (j:Hw))] b:=by generalize PV.tp AB (G.map .int)=E,PV.tp AB ((G++[(j:Hw)]).map .int)=I,PV.tp d vs=pv at *;simp! [grB,yg,ix0,ix1,ix2,ix3,z,x,y,L,r,o,B,IC.ve37]
  rw[yt,zr (Y1:=[AA (.loc u),AA (.tp a1 [s0,cn,sn,.tp d vs]),AA (.tp AB (G.map .int)),AA (.int N),AA (.int (j:Hw))]) rfl,one];exact e4
def zcO(k:Ht){a1 b d:Hy}{s0 sn:PV}(g:nL sn=AC){vs:Hs PV}{c m t:Hw}{G:Hs Hw}(y:G.length<=1){f:Ht->Hs PV}{qn an N:Ht}(A:N=cnt c m t w n)(B:m.natAbs<=200)(C:t.natAbs<=200)(D:0<=n)(E:n<=8)(I:N<1000000)
  (L:∀J<N,BodyOk (k+2) u l w n d vs G f qn an J/\yd1 (k+2) u l w n d vs G f qn an J) (M:R.length<=4000) (O:q<=4000) (Q:4000<R.length+(upTo f N).length \/ 4000<q+(N*(1+qn):Ht)) (ha:a+N*(1+an)+1<=500000) (H:US st u l w n R q a):
  ∃s,yc T (k+3) yB [.loc u,.tp a1 [s0,.tp b [.int c,.int m,.int t],sn,.tp d vs],.tp AB (G.map .int)] st=.exc 5 s:=by
 have U:T yB=AA #[3,5,AB,yg.body]:=rfl;have X:=H.cnt (k+1) b (c:=c) B C D E;have Z:=H.ins (AE "count_of");let#[Y,s1,j]:=zdP k (a1:=a1) (s0:=s0) (cn:=.tp b [.int c,.int m,.int t]) (sn:=sn) (a:=a) (q:=q) (R:=R) g y L Q () N 0 st AD () (by simpa [upTo] using H) (by simpa [upTo] using M) (by simpa using O);have p:=zes (c+m*n+t*w*n) st;have hz:((c+m*n+t*w*n).toNat:Hw)=(N:Hw):=by rw[A];rfl
 rw[hz]at p;have hr:ybE (.int (N:Hw))=AA (yt N 0 1):=by erw[ybE];rw[Hz ()];rfl
 have o:yg.body=(match yg.body with
  |.cons x (.cons (.for t i _) r)=>.cons x (.cons (.for t i grB) r)
  |x=>x):=rfl
 refine#[s1,?_];rw[zo U rfl rfl];dsimp only;rw[o];have j:yaT (yc T (k+2)) (.n 4) grB (yt N 0 1) _ st=_:=j;generalize PV.tp AB (G.map .int)=gv,PV.tp d vs=pv,PV.tp b [.int c,.int m,.int t]=cv,c+m*n+t*w*n=z at *;simp! [yg,ix0,ix1,ix2,ix3,Z,X,p,hr,j,IC.ve37];rfl
def zhJ(k:Ht)(M:0<=w)(w1:w<=16)(A:0<=n)(B:n<=8)(I:Ht)(p1:Option PV){v:PV}{p:T2}(N:nL v=AC)(O:part2 v=AA p)(H:US st u l w n R q a)(Q:R.length<=4000)(U:q<=4000)(o:4000<R.length+(p.rows w n I).length \/ 4000<q+(p.rnd w n:Ht))(X:a+p.ak w n<=500000)(g:∀x∈p.rows w n I,ya9 x):
  ∃Y s,exs (yc T (k+13)) [AA (.loc u),p1,AA (.tp AB [.int I]),AA v] st gpB=.exc 5 Y s:=by
 rcases zfx O with⟨r,rfl,y⟩|⟨a1,b,sn,d,vs,c,m,t,z,rfl,rfl,C,Z,D,E⟩
 .exact zdn (k+10) H (by erw[T2.rows,T2.rnd,AV,Ap]at o;lia) y [(I:Hw)] (by simp) (λs=>by have:=g (r.pv I 0 n) (by simp[T2.rows]) (k+2) s;rw[show 10+(k+2)=k+10+2 by lia]at this;exact this) p1
 .have hN:cnt c m t w n<1000000:=by have:=zbD Z D E M w1 A B;erw[cnt];lia
  erw[T2.rows,T2.rnd,T2.ak]at o X g ⊢;have L:∀J<cnt c m t w n,∀r∈z,∀s,yc T (k+8+2) yeN [r.pv I J n] s=.ok (.bl AC) s:=λJ j r hr s=>by have:=g (r.pv I J n) (zdh j (GX.2 #[r,hr,rfl])) k s;rw[show 10+k=k+8+2 by lia]at this;exact this
  let#[s,e]:=zcO (k+10) (a1:=a1) (b:=b) (d:=d) (s0:=.str "rounds") (sn:=sn) (zie N) (vs:=vs) (G:=[(I:Hw)]) (by simp) (f:=λJ=>z.map λr=>r.pv I J n) (qn:=0) (an:=0) rfl D E A B hN
   (λJ j=>#[zei (k+8) C I J (L J j),λst R q a H y h2 h3 h4=>by let#[Y,s,e]:=zdN (k+8) (a:=a) (q:=q) I J (AA (.tp d vs)) () vs z st R AD C H y (by erw[Ai]at h3;lia) (L J j);exact#[s,zcr (k+11) e]]) Q U (by simpa using o) () H
  have e:yc T (k+13) yB [.loc u,.tp a1 [.str "rounds",.tp b [.int c,.int m,.int t],sn,.tp d vs],.tp AB [.int I]] st=.exc 5 s:=e;exact zfg (k+13) H e
def zfp(k:Ht)(g:0<=w)(w1:w<=16)(j:0<=n)(m:n<=8)(I:Ht)(p1:Option PV):∀(vs:Hs PV) (ps:Hs T2) (st:SO) (R:Hs PV) (q:Hw) (a:Ht) (p3:Option PV),nLs vs=AC->yax vs=AA ps->US st u l w n R q a->R.length<=4000->q<=4000->(4000<R.length+(yam w n I ps).length \/ 4000<q+(ya8 w n ps:Ht))->a+ak2 w n ps<=500000->(∀x∈yam w n I ps,ya9 x) ->
  ∃Y s,yaT (yc T (k+13)) (.n 3) gpB vs [AA (.loc u),p1,AA (.tp AB [.int I]),p3] st=.exc 5 Y s
 |[],ps,st,R,q,a,p3,_,d,H,r,t,o,_,_=>by
  cases d
  simp[yam,ya8]at o;lia
 |v::vs,ps,st,R,q,a,p3,p,d,H,r,t,o,C,b=>by
  unfold yax at d;split at d
  .rename_i x y A D
   cases d
   have B:yam w n I (x::y)=x.rows w n I++yam w n I y:=by simp[yam]
   have E:ya8 w n (x::y)=x.rnd w n+ya8 w n y:=by simp[ya8]
   have G:ak2 w n (x::y)=x.ak w n+ak2 w n y:=by simp[ak2]
   rw[B,AO,E]at o;rw[G]at C;rw[B]at b
   by_cases c:4000<R.length+(x.rows w n I).length \/ 4000<q+(x.rnd w n:Ht)
   .let#[Y,s,e]:=zhJ k g w1 j m I p1 (zar p).1 A H r t c () (λz f=>b z (by simp[f]));exact#[Y,s,by rw[zr (Y1:=[AA (.loc u),p1,AA (.tp AB [.int I]),AA v]) rfl,e];rfl]
   .let#[J,L,M]:=zgE k g w1 j m I p1 (zar p).1 A H () () () (λz f=>b z (by simp[f]));let#[Y,N,O]:=zfp k g w1 j m I p1 vs y J _ _ _ (AA v) (zar p).2 D M (by rw[AO];lia) () (by rw[AO];lia) () (λz f=>b z (by simp[f]));exact#[Y,N,by rw[zr (Y1:=[AA (.loc u),p1,AA (.tp AB [.int I]),AA v]) rfl,L];exact O]
  .cases d
def zhX(k:Ht)(A:0<=w)(w1:w<=16)(j:0<=n)(o:n<=8)(p1:Option PV){v:PV}{p:T1}(B:nL v=AC)(Q:part1 v=AA p)(H:US st u l w n R q a)(U:R.length<=4000)(X:q<=4000)(C:4000<R.length+(p.rows w n).length \/ 4000<q+(p.rnd w n:Ht))(Z:a+p.ak w n<=500000)(g:∀x∈p.rows w n,ya9 x):
  ∃Y s,exs (yc T (k+15)) [AA (.loc u),p1,AA (.tp AB []),AA v] st gpB=.exc 5 Y s:=by
 rcases ze1 Q with⟨r,rfl,D⟩|⟨a1,b,sn,d,vs,c,m,t,y,rfl,rfl,L,hc,M,N⟩
 .exact zdn (k+12) H (by erw[T1.rows,T1.rnd,AV,Ap]at C;lia) D [] (by simp) (λs=>by have:=g (r.pv 0 0 n) (by simp[T1.rows]) (k+4) s;rw[show 10+(k+4)=k+12+2 by lia]at this;exact this) p1
 .have hN:cnt c m t w n<1000000:=by have:=zbD hc M N A w1 j o;erw[cnt];lia
  erw[T1.rows,T1.rnd,T1.ak]at C Z g ⊢;let#[s,e]:=zcO (k+12) (a1:=a1) (b:=b) (d:=d) (s0:=.str "rounds") (sn:=sn) (zie B) (vs:=vs) (G:=[]) (by simp) (f:=λI=>yam w n I y) (qn:=ya8 w n y) (an:=ak2 w n y) rfl M N j o hN
   (λJ O=>#[ze0 k A w1 j o (zlk B) L J (λz E=>g z (zdh O E)),λst R q a H D h2 h3 h4=>by let#[Y,s,e]:=zfp k A w1 j o J (AA (.tp d vs)) vs y st R q a AD (zlk B) L H D h2 h3 h4 (λz E=>g z (zdh O E));exact#[s,zcr (k+13) e]]) U X C () H
  have e:yc T (k+15) yB [.loc u,.tp a1 [.str "rounds",.tp b [.int c,.int m,.int t],sn,.tp d vs],.tp AB []] st=.exc 5 s:=e;exact zfg (k+15) H e
def ze2(k:Ht)(g:0<=w)(w1:w<=16)(j:0<=n)(m:n<=8)(p1:Option PV):∀(vs:Hs PV) (ps:Hs T1) (st:SO) (R:Hs PV) (q:Hw) (a:Ht) (p3:Option PV),nLs vs=AC->yak vs=AA ps->US st u l w n R q a->R.length<=4000->q<=4000->(4000<R.length+(yM w n ps).length \/ 4000<q+(yaJ w n ps:Ht))->a+ak1 w n ps<=500000->(∀x∈yM w n ps,ya9 x) ->
  ∃Y s,yaT (yc T (k+15)) (.n 3) gpB vs [AA (.loc u),p1,AA (.tp AB []),p3] st=.exc 5 Y s
 |[],ps,st,R,q,a,p3,_,d,H,r,t,o,_,_=>by
  cases d
  simp[yM,yaJ]at o;lia
 |v::vs,ps,st,R,q,a,p3,p,d,H,r,t,o,C,b=>by
  unfold yak at d;split at d
  .rename_i x y A D
   cases d
   have B:yM w n (x::y)=x.rows w n++yM w n y:=by simp[yM]
   have E:yaJ w n (x::y)=x.rnd w n+yaJ w n y:=by simp[yaJ]
   have G:ak1 w n (x::y)=x.ak w n+ak1 w n y:=by simp[ak1]
   rw[B,AO,E]at o;rw[G]at C;rw[B]at b
   by_cases c:4000<R.length+(x.rows w n).length \/ 4000<q+(x.rnd w n:Ht)
   .let#[Y,s,e]:=zhX k g w1 j m p1 (zar p).1 A H r t c () (λz f=>b z (by simp[f]));exact#[Y,s,by rw[zr (Y1:=[AA (.loc u),p1,AA (.tp AB []),AA v]) rfl,e];rfl]
   .let#[I,J,L]:=zhT k g w1 j m p1 (zar p).1 A H () () () (λz f=>b z (by simp[f]));let#[Y,M,N]:=ze2 k g w1 j m p1 vs y I _ _ _ (AA v) (zar p).2 D L (by rw[AO];lia) () (by rw[AO];lia) () (λz f=>b z (by simp[f]));exact#[Y,M,by rw[zr (Y1:=[AA (.loc u),p1,AA (.tp AB []),AA v]) rfl,J];exact N]
  .cases d
end
def zfG(k:Ht){b:Hy}{vs:Hs PV}{ps:Hs T1}{w n:Hw}(f:nLs vs=AC)(g:yak vs=AA ps)(j:0<=w)(w1:w<=16)(l:0<=n)(m:n<=8)(q:4000<(yM w n ps).length \/ 4000<yaJ w n ps)(r:ak1 w n ps<=500000)(a:∀x∈yM w n ps,ya9 x)
  (c:∀s,yc T (k+16) yT [.tp b vs] s=.ok (.bl AC) s) (st:SO):yc T (k+17) yid [.tp b vs,.int w,.int n] st=.exc 5 st:=by
 have o:T yid=AA yfO:=rfl;have d:nLs [.tp b vs,.int w,.int n]=true:=by simp[nLs,nL,f]
 let#[Y,s,e]:=ze2 k j w1 l m (AA (.tp b vs)) vs ps [uob w n 1 0 0,.lst []] [] 0 0 AD f g (zff w n) (by simp) () (by erw[Ap];lia) () a;have e:=zcr (k+15) e;have p:=zpa (k+15) w n;have ih:=(zff w n).ins (AE "go_parts");rw[zh o rfl rfl d];generalize PV.tp b vs=t at *;simp! [yfO,c,p,ih,e,IC.ve32,IC.ve33,IC.ve37,ybw,newV];rfl
def zfR(k:Ht){b:Hy}{vs:Hs PV}{ps:Hs T1}{w n:Hw}(f:nLs vs=AC)(g:yak vs=AA ps)(j:0<=w)(w1:w<=16)(l:0<=n)(m:n<=8)(o:4000<(yM w n ps).length \/ 4000<yaJ w n ps)(p:ak1 w n ps<=500000)(a:∀x∈yM w n ps,ya9 x)
  (c:∀s,yc T (k+16) yT [.tp b vs] s=.ok (.bl AC) s) (st:SO):yc T (k+18) yfX [.tp b vs,.int w,.int n] st=.exc 5 st:=by
 have q:T yfX=AA yfK:=rfl;have d:nLs [.tp b vs,.int w,.int n]=true:=by simp[nLs,nL,f]
 have e:=zfG k f g j w1 l m o p a c [];rw[zh q rfl rfl d];generalize PV.tp b vs=r at *;simp! [yfK,e];rfl
def zfI(k:Ht){v w n:PV}(b:nLs [v,w,n]=AC)(a:∀s,yc T (k+16) yT [v] s=.ok (.bl AB) s)(st:SO):yc T (k+18) yfX [v,w,n] st=.exc 5 st:=by
 have c:T yfX=AA yfK:=rfl;have d:T yid=AA yfO:=rfl;have e:∀st,yc T (k+17) yid [v,w,n] st=.exc 5 st:=λst=>by rw[zh d rfl rfl b];simp! [yfO,a];rfl
 rw[zh c rfl rfl b];simp! [yfK,e];rfl
def zlc(k:Ht){d w n:PV}{L:Hs PV}(a:nLs [d,w,n]=AC)(E:∀st,yc T k yfX [d,w,n] st=.ok (.tp AB L) st)(st:SO):yc T (k+1) yes [d,w,n] st=.ok (.int L.length) st:=by
 have b:T yes=AA yib:=rfl;rw[zh b rfl rfl a];have c:∀Y s,ev (yc T k) Y s (.neg (.cst (.int 2)))=.ok (.int (-2)) s:=λY s=>by erw[ev,R.bind]
 simp! [yib,c,E,yfd,zd,zg2]
def zfr(k:Ht){d w n:PV}(a:nLs [d,w,n]=AC)(E:∀st,yc T k yfX [d,w,n] st=.exc 5 st)(st:SO):yc T (k+1) yes [d,w,n] st=.ok (.int (-1)) st:=by
 have b:T yes=AA yib:=rfl;have c:([5]:Hs Ht).contains 5=true:=rfl;have f:ycy [5] (.exn 5) [.cls 5]=AA (.bl AC):=rfl;have g:ycy [5] (.exn 5) [.val]=AA (.bl AC):=rfl;have j:ycy [5] (.exn 5) [.cls 4,.cls 2,.cls 3,.cls 0]=AA (.bl AB):=rfl;rw[zh b rfl rfl a];have l:∀Y s,ev (yc T k) Y s (.neg (.cst (.int 2)))=.ok (.int (-2)) s:=λY s=>by erw[ev,R.bind]
 have m:∀Y s,ev (yc T k) Y s (.neg (.cst (.int 1)))=.ok (.int (-1)) s:=λY s=>by erw[ev,R.bind]
 simp! [yib,l,m,E,yfd,c,f,g,j,yfB,zg2]
def zh7{v:PV}(a:tam 60 1000 v=AC)(h:yaj yaR v=AB)(w n:Hw)(st:SO):yc T 24 yes [v,.int w,.int n] st=.ok (.int (-1)) st:=by have b:=zk 60 1000 v a;exact zfr 23 (by simp[nLs,nL,b]) (λst=>zfI 5 (by simp[nLs,nL,b]) (λs=>h ▸ zbI 8 a () () s) st) st
def zck{vs:Hs PV}{ps:Hs T1}{w n:Hw}(d:tam 60 1000 (.tp AB vs)=AC)(h:yaj yaR (.tp AB vs)=AC)(f:yak vs=AA ps)(g:0<=w)(w1:w<=16)(j:0<=n)(l:n<=8)(m:ak1 w n ps<=500000)(a:∀x∈yM w n ps,ya9 x)(st:SO):
  yc T 24 yes [.tp AB vs,.int w,.int n] st=.ok (.int (if (yM w n ps).length<=4000/\yaJ w n ps<=4000 then((yM w n ps).length:Hw)else -1)) st:=by
 have b:nLs vs=true:=zk 60 1000 _ d;have o:nLs [.tp AB vs,.int w,.int n]=true:=by simp[nLs,nL,b]
 have p:∀st,yc T (5+16) yT [.tp AB vs] st=.ok (.bl AC) st:=λst=>h ▸ zbI 8 d () () st
 by_cases c:(yM w n ps).length<=4000/\yaJ w n ps<=4000
 .rw[Hz c];exact zlc 23 o (λst=>unrolled 5 b f g w1 j l c.1 c.2 m a p st) st
 .rw[IA c];exact zfr 23 o (λst=>zfR 5 b f g w1 j l () m a p st) st
def zgP{x:PV}(a:tam 4 10 x=AC)(h:yat AB x=AC):ya9 x:=λk s=>by rw[show 10+k=(4+k)+6 by lia,zgy (4+k) a () () s,h]
def rnP(c m t:Hw):PV:=.tp AB [.str yaH,.tp AB [.int c,.int m,.int t],.tp AB [],.tp AB []]
def zfT{i:Hw}(h:-200<=i/\i<=200):sm i=true:=Hv ()
def zjp{c m t:Hw}(a:-200<=c/\c<=200)(b:-200<=m/\m<=200)(d:-200<=t/\t<=200):part1 (rnP c m t)=AA (.rounds c m t [])/\part2 (rnP c m t)=AA (.rounds c m t [])/\ybU (rnP c m t)=AC/\yaR (rnP c m t)=AC/\tam 4 10 (rnP c m t)=true:=by
 have e:ybL yaH=true:=Hv rfl;have f:ybI (rnP c m t)=AA (c,m,t,[]):=by erw[rnP,ybI,ych,ycZ,strOf,ydy,yc3,intOf,Az,BD,BG,e,zfT a,zfT b,zfT d,BM,ID]
 have g:told 3 (.tp AB [.int c,.int m,.int t])=true:=zdt #[c,m,t,rfl,a.1,a.2,b.1,b.2,d.1,d.2];have j:sen (.tp AB [])=true:=rfl;refine#[by erw[part1,f];rfl,by erw[part2,f];rfl,zbR g j (by simp),zbR g j (by simp),rfl]
def zfw{A:Type}:∀N,upTo (λ_=>([]:Hs A)) N=[]
 |0=>rfl
 |N+1=>by rw[upTo,zfw N];rfl
def zgu{A:Type}{f:Ht->Hs A}{m:Ht}(h:∀J,(f J).length=m):∀N,(upTo f N).length=N*m
 |0=>by simp[upTo]
 |N+1=>by rw[upTo,AO,zgu h N,h,DR]
def zh9{o i w n:Hw}(g:0<=o)(o1:o<=200)(j:0<=i)(G:i<=200)(l:0<=w)(w1:w<=16)(q:0<=n)(r:n<=8)(st:SO):
  yc T 24 yes [.tp AB [.tp AB [.str yaH,.tp AB [.int o,.int 0,.int 0],.tp AB [],.tp AB [rnP i 0 0]]],.int w,.int n] st=.ok (.int (if o+o*i > 4000 then -1 else 0)) st:=by
 let#[H,u,x,I,J]:=zjp (c:=i) (m:=0) (t:=0) () () ();have e:ybL yaH=true:=Hv rfl;have y:sm o=true:=zfT ();have z:sm 0=true:=rfl;have a:part1 (.tp AB [.str yaH,.tp AB [.int o,.int 0,.int 0],.tp AB [],.tp AB [rnP i 0 0]])=AA (.rounds o 0 0 [.rounds i 0 0 []]):=by
  have A:ybI (.tp AB [.str yaH,.tp AB [.int o,.int 0,.int 0],.tp AB [],.tp AB [rnP i 0 0]])=AA (o,0,0,[rnP i 0 0]):=by erw[ybI,ych,ycZ,strOf,ydy,yc3,intOf,Az,BD,BG,e,y,z,BM,ID]
  erw[part1,A,yax,u,B5]
 have B:told 3 (.tp AB [.int o,.int 0,.int 0])=true:=zdt #[o,0,0,rfl,by lia,by lia,by lia,by lia,by lia,by lia];have C:yaR (.tp AB [.str yaH,.tp AB [.int o,.int 0,.int 0],.tp AB [],.tp AB [rnP i 0 0]])=true:=zbR B rfl (λp a=>by erw[AM,AN,IE]at a;rw[a];exact x)
 have b:cnt o 0 0 w n=o.toNat:=by simp[cnt]
 have d:cnt i 0 0 w n=i.toNat:=by simp[cnt]
 have f:yM w n [.rounds o 0 0 [.rounds i 0 0 []]]=[]:=by erw[yM,T1.rows,yam,T2.rows,Bu,D0,BE,BH,zfw]
 have D:yaJ w n [.rounds o 0 0 [.rounds i 0 0 []]]=o.toNat*(1+i.toNat):=by simp[yaJ,ya8,T1.rnd,T2.rnd,b,d]
 have L:o.toNat*(1+(i.toNat+1))<=200*202:=C4 () ();have E:ak1 w n [.rounds o 0 0 [.rounds i 0 0 []]]<=500000:=by simp[ak1,ak2,T1.ak,T2.ak,b,d];lia
 have M:((o.toNat*(1+i.toNat):Ht):Hw)=o+o*i:=by rw[Gi,Hw.natCast_add,Cv g,Cv j,Hw.mul_add];simp
 rw[zck (ps:=[.rounds o 0 0 [.rounds i 0 0 []]]) rfl (by erw[yaj,An,C];rfl) (by erw[yak,a]) l w1 q r E (by rw[f];simp) st,f,D]
 by_cases c:o+o*i > 4000
 .rw[Hz c,IA (by erw[Ap];lia)]
 .rw[IA c,Hz (by erw[Ap];lia)];rfl
abbrev ybK:Str:=AE "move"
def x0V(x:Hw):PV:=.tp AB [.int x,.int 0,.int 0,.int 0]
def mvV(c:Ht)(x:Hw):PV:=.tp AB [.str ybK,.tp AB [.str #[(Hs.toArray [c])],x0V 0],.tp AB [.str #[(Hs.toArray [c])],x0V x]]
def mvP(c:Ht)(x:Hw):PV:=.tp AB [.str ya4,mvV c x]
def mvR(c:Ht)(x:Hw):Rs:=#[ybK,[.cel #[c,0,0,0,0],.cel #[c,x,0,0,0]]]
def zhg{c:Ht}{x:Hw}(a:97<=c)(b:c<=122)(g:0<=x)(j:x<100):yat AC (mvV c x)=true:=by
 have f:yab ybK yb=AA (.tp AC (AL 2 yaz)):=by ac_rfl
 refine zoF f rfl (λp d=>?_) (λh=>IB h (by decide +kernel));erw[AM,AN,IE]at d;rcases d with rfl|rfl
 .exact#[c,_,a,b,#[0,0,0,0,rfl,by lia,by lia,by lia,by lia,by lia,by lia,by lia,by lia],rfl]
 .exact#[c,_,a,b,#[x,0,0,0,rfl,by lia,by lia,by lia,by lia,by lia,by lia,by lia,by lia],rfl]
def zne{c:Ht}{x:Hw}(g:0<=x)(j:x<100):ybB (mvP c x)=AA (mvR c x):=by have e:yco ya4=true:=Hv rfl;have a:sm 0=true:=rfl;have b:sm x=true:=zfT ();have d:(chS c).cps.getD 0 0=c:=rfl;have f:(#[(Hs.toArray [c])]:AQ)=chS c:=rfl;erw[mvP,ybB,e,ID,mvV,rowOf,ybb,ydk,x0V,intOf,ych,yfl,opC,strOf,yc3,ycZ,Az,f,d,a,b,BM,and_self,ID,AV,Ap,mvR];rfl
def zoR{c:Ht}{x:Hw}(j:97<=c)(l:c<=122)(m:0<=x)(o:x<100)(I J n:Hw):ya9 ((mvR c x).pv I J n):=by
 have p:yab ybK yb=AA (.tp AC [yaz,yaz]):=by ac_rfl
 have e:(mvR c x).pv I J n=.tp AB [.str ybK,.tp AB [.str #[(Hs.toArray [c])],.int 0],.tp AB [.str #[(Hs.toArray [c])],.int x]]:=by simp[mvR,Rs.pv,Op.pv,Cx.at,yc6,PV.tup,chS]
 have q:peq yaz (.str yaS)=false:=by rw[z7];decide +kernel
 have r:ltr (.str #[(Hs.toArray [c])])=true:=by simp[ltr,j,l]
 have f:∀i:Hw,0<=i->i<100->yaI AB (.tp AB [.str #[(Hs.toArray [c])],.int i])=true:=λi a b=>by erw[yaI,plS,r,wh,Hv a,Hv (show i<=99 by lia),BM]
 have t:decide (ybK=yac)=false:=by decide +kernel
 rw[e];refine zgP ?_ ?_
 .refine zt.2 #[by lia,by simp,λy g=>?_];erw[AM,AN,IE]at g;rcases g with rfl|rfl|rfl
  .decide +kernel
  .refine zt.2 #[by lia,by simp,λz d=>?_];erw[AM,AN,IE]at d;rcases d with rfl|rfl
   .exact zdI () ()
   .rfl
  .refine zt.2 #[by lia,by simp,λz d=>?_];erw[AM,AN,IE]at d;rcases d with rfl|rfl
   .exact zdI () ()
   .rfl
 .simp only[yat,p,yag,PV.tup,prS,opS,q,An,CU,AV,Ap,A5,IG,f 0 () (),f x m o,t,CK,Cr,BM,IS]
def zdi{v:PV}{p:T2}(h:part2 v=AA p):∀k,yax (AL k v)=AA (AL k p)
 |0=>rfl
 |k+1=>by rw[Al,Al,yax,h,zdi h k]
def zgq{c:Ht}{x:Hw}:ybI (mvP c x)=none:=rfl
section
variable {c:Ht}{x:Hw}(c0:97<=c)(c1:c<=122)(x0:0<=x)(x1:x<100)
include c0 c1 x0 x1
def zjP:tam 5 10 (mvP c x)=true:=by
 have h:tam 4 10 (mvV c x)=true:=by
  refine zt.2 #[by lia,by simp,λy d=>?_];erw[AM,AN,IE]at d;have f:∀i:Hw,0<=i->i<100->tam 3 10 (.tp AB [.str #[(Hs.toArray [c])],x0V i])=true:=λi a b=>zK () () _ (zc8 #[c,_,c0,c1,#[i,0,0,0,rfl,by lia,by lia,by lia,by lia,by lia,by lia,by lia,by lia],rfl]);rcases d with rfl|rfl|rfl
  .decide +kernel
  .exact f 0 () ()
  .exact f x x0 x1
 refine zt.2 #[by lia,by simp,λy d=>?_];erw[AM,AN,IE]at d;rcases d with rfl|rfl
 .decide +kernel
 .exact h
def znU:part2 (mvP c x)=AA (.row (mvR c x)):=by erw[part2,zgq,zne x0 x1,B5]
def zn6:part1 (mvP c x)=AA (.row (mvR c x)):=by erw[part1,zgq,zne x0 x1,B5]
def rmP(N:Hw)(k:Ht)(c:Ht)(x:Hw):PV:=.tp AB [.str yaH,.tp AB [.int N,.int 0,.int 0],.tp AB [],.tp AB (AL k (mvP c x))]
def zmq{N:Hw}{k:Ht}(m:k<=20)(n:0<=N)(o:N<=200):part1 (rmP N k c x)=AA (.rounds N 0 0 (AL k (.row (mvR c x))))/\yaR (rmP N k c x)=AC/\tam 7 30 (rmP N k c x)=true:=by
 have e:ybL yaH=true:=Hv rfl;have b:sm N=true:=zfT ();have d:sm 0=true:=rfl;have f:ybI (rmP N k c x)=AA (N,0,0,AL k (mvP c x)):=by erw[rmP,ybI,ych,ycZ,strOf,ydy,yc3,intOf,Az,BD,BG,e,b,d,BM,ID]
 have g:told 3 (.tp AB [.int N,.int 0,.int 0])=true:=zdt #[N,0,0,rfl,by lia,by lia,by lia,by lia,by lia,by lia];refine#[by erw[part1,f,zdi (znU c0 c1 x0 x1),B5],zbR g rfl (λp j=>?_),?_]
 .rw[(EL.1 j).2];exact zcn (zhg c0 c1 x0 x1)
 .refine zt.2 #[by lia,by simp,λy a=>?_];erw[AM,AN,IE]at a;rcases a with rfl|rfl|rfl|rfl
  .decide +kernel
  .rfl
  .rfl
  .refine zt.2 #[by lia,by rw[Bg];lia,λz l=>?_];rw[(EL.1 l).2];exact zK () () _ (zjP c0 c1 x0 x1)
end
def zdE(w n:Hw)(I:Ht)(r:Rs):∀k,yam w n I (AL k (.row r))=AL k (r.pv I 0 n)
 |0=>rfl
 |k+1=>by have:=zdE w n I r k;rw[Al,Al,<-this];simp[yam,T2.rows]
def zer(w n:Hw)(r:Rs):∀k,ya8 w n (AL k (.row r))=0/\ak2 w n (AL k (.row r))=0
 |0=>#[rfl,rfl]
 |k+1=>by have:=zer w n r k;rw[Al];erw[ya8,ak2,AW,BO,T2.rnd,T2.ak,DV];exact this
def zgl{w n N:Hw}{k:Ht}{r:Rs}(c:0<=N):(T1.rows w n (.rounds N 0 0 (AL k (.row r)))).length=N.toNat*k/\T1.rnd w n (.rounds N 0 0 (AL k (.row r)))=N.toNat/\T1.ak w n (.rounds N 0 0 (AL k (.row r)))=N.toNat+1/\∀y∈T1.rows w n (.rounds N 0 0 (AL k (.row r))),∃I:Ht,y=r.pv I 0 n:=by
 have b:cnt N 0 0 w n=N.toNat:=by simp[cnt]
 refine#[?_,?_,?_,λy a=>?_]
 .simp only[T1.rows,b];exact zgu (λJ=>by rw[zdE,Bg]) _
 .simp only[T1.rnd,b,(zer w n r k).1];lia
 .simp only[T1.ak,b,(zer w n r k).2];lia
 .simp only[T1.rows]at a;let#[J,_,a]:=zjM a;rw[zdE]at a;exact#[J,(EL.1 a).2]
section
variable {c:Ht}{x w n:Hw}(c0:97<=c)(c1:c<=122)(x0:0<=x)(x1:x<100)(w0:0<=w)(w1:w<=16)(n0:0<=n)(n1:n<=8)
include c0 c1 x0 x1 w0 w1 n0 n1
theorem brA{L:Hs PV}{pl:Hs T1}(E:L.length<=1)(d:yak L=AA pl)(f:L.all yaR=AC)(g:∀y∈L,tam 7 30 y=AC)(a1:(yM w n pl).length=L.length)(G:yaJ w n pl<=1)(H:ak1 w n pl<=2)(j:∀y∈yM w n pl,ya9 y)(st:SO):
  yc T 24 yes [.tp AB (rmP 200 20 c x::L),.int w,.int n] st=.ok (.int (if L.length=0 then 4000 else -1)) st:=by
 let#[l,m,o]:=zmq c0 c1 x0 x1 (N:=200) (k:=20) () () ();let#[p,t,u,z]:=zgl (w:=w) (n:=n) (N:=200) (k:=20) (r:=mvR c x) ();have b:yM w n (.rounds 200 0 0 (AL 20 (.row (mvR c x)))::pl)=T1.rows w n (.rounds 200 0 0 (AL 20 (.row (mvR c x))))++yM w n pl:=by erw[yM,Bu]
 have A:yaJ w n (.rounds 200 0 0 (AL 20 (.row (mvR c x)))::pl)=200+yaJ w n pl:=by erw[yaJ,AW,BO,t];rfl
 have B:ak1 w n (.rounds 200 0 0 (AL 20 (.row (mvR c x)))::pl)=201+ak1 w n pl:=by erw[ak1,AW,BO,u];rfl
 have C:tam 60 1000 (.tp AB (rmP 200 20 c x::L))=true:=zt.2 #[by lia,by rw[AV];lia,λy a=>by
  rcases AM.1 a with rfl|a
  .exact zK () () _ o
  .exact zK () () _ (g y a)]
 have D:(yM w n (.rounds 200 0 0 (AL 20 (.row (mvR c x)))::pl)).length=4000+L.length:=by rw[b,AO,p,a1];rfl
 rw[zck (ps:=.rounds 200 0 0 (AL 20 (.row (mvR c x)))::pl) C (by erw[yaj,An,m,f];rfl) (by erw[yak,l,d]) w0 w1 n0 n1 (by rw[B];lia) (λy a=>by
  rw[b]at a;rcases Am.1 a with a|a
  .let#[I,rfl]:=z y a;exact zoR c0 c1 x0 x1 _ _ _
  .exact j y a) st,D,A]
 by_cases q:L.length=0
 .rw[Hz q,Hz (),q];rfl
 .rw[IA q,IA ()]
def zpN(st:SO):yc T 24 yes [.tp AB [rmP 200 20 c x],.int w,.int n] st=.ok (.int 4000) st:=
 brA c0 c1 x0 x1 w0 w1 n0 n1 (L:=[]) (pl:=[]) (by simp) rfl rfl (by simp) rfl (by simp[yaJ]) (by simp[ak1]) (by simp[yM]) st
def zpO(st:SO):yc T 24 yes [.tp AB [rmP 200 20 c x,mvP c x],.int w,.int n] st=.ok (.int (-1)) st:=
 brA c0 c1 x0 x1 w0 w1 n0 n1 (L:=[mvP c x]) (pl:=[.row (mvR c x)]) (by simp) (by erw[yak,zn6 c0 c1 x0 x1]) (by erw[An,CU,E5];exact zcn (zhg c0 c1 x0 x1)) (λy a=>by
  erw[AM,AN,IE]at a;rw[a];exact zK () () _ (zjP c0 c1 x0 x1)) (by simp[yM,T1.rows]) (by simp[yaJ,T1.rnd]) (by simp[ak1,T1.ak]) (λy a=>by erw[yM,T1.rows,Bu,D0,BE,AM,AN,IE]at a;rw[a];exact zoR c0 c1 x0 x1 _ _ _) st
def zpP(st:SO):yc T 24 yes [.tp AB [rmP 200 20 c x,rmP 1 1 c x],.int w,.int n] st=.ok (.int (-1)) st:=by
 let#[b,d,f]:=zmq c0 c1 x0 x1 (N:=1) (k:=1) () () ();let#[g,j,l,m]:=zgl (w:=w) (n:=n) (N:=1) (k:=1) (r:=mvR c x) ();refine brA c0 c1 x0 x1 w0 w1 n0 n1 (L:=[rmP 1 1 c x]) (pl:=[.rounds 1 0 0 (AL 1 (.row (mvR c x)))]) (by simp) (by erw[yak,b]) (by erw[An,CU,E5,d]) (λy a=>by erw[AM,AN,IE]at a;rw[a];exact f) ?_ ?_ ?_ (λy a=>?_) st
 .rw[show yM w n [.rounds 1 0 0 (AL 1 (.row (mvR c x)))]=T1.rows w n (.rounds 1 0 0 (AL 1 (.row (mvR c x))))by erw[yM,Bu,D0,BE],g];rfl
 .simp only[yaJ,AW,BH,BO,FF,j];decide
 .simp only[ak1,AW,BH,BO,FF,l];decide
 .rw[show yM w n [.rounds 1 0 0 (AL 1 (.row (mvR c x)))]=T1.rows w n (.rounds 1 0 0 (AL 1 (.row (mvR c x))))by erw[yM,Bu,D0,BE]]at a;let#[I,rfl]:=m y a;exact zoR c0 c1 x0 x1 _ _ _
end
def cnB:Css:=match yae.body with
 |.cons _ (.cons _ (.cons (.for _ _ b) _))=>b
 |x=>x
def zkW(a b:Hw)(st:SO):yX .min st [.int a,.int b]=AA (.int (if b<a then b else a)):=rfl
def zlA{L w n:Hw}(f:0<=L)(q:1<=w)(r:1<=n):∃t m c:Hw,(if L/(w*n)<200 then L/(w*n)else 200)=t/\(if (L-t*w*n)/n<200 then(L-t*w*n)/n else 200)=m/\(if L-t*w*n-m*n<200 then L-t*w*n-m*n else 200)=c/\0<=t/\t<=200/\0<=m/\m<=200/\0<=c/\c<=200/\0<=L-c-m*n-t*w*n:=by
 have u:0<w*n:=Hk () ();have x:0<=L/(w*n):=Gk f ();have g:L/(w*n)*(w*n)<=L:=Gm L ();refine#[_,_,_,rfl,rfl,rfl,?_];generalize j:(if L/(w*n)<200 then L/(w*n)else 200)=t;have a:0<=t/\t<=200/\t<=L/(w*n):=by subst j;split<;>lia
 have y:t*w*n<=L:=by rw[Hw.mul_assoc];exact GY (D1 a.2.2 ()) g
 have z:0<=(L-t*w*n)/n:=Gk () ();have l:(L-t*w*n)/n*n<=L-t*w*n:=Gm _ ();generalize o:(if (L-t*w*n)/n<200 then(L-t*w*n)/n else 200)=m;have b:0<=m/\m<=200/\m<=(L-t*w*n)/n:=by subst o;split<;>lia
 have A:m*n<=L-t*w*n:=GY (D1 b.2.2 ()) l;generalize p:(if L-t*w*n-m*n<200 then L-t*w*n-m*n else 200)=c;have d:0<=c/\c<=200/\c<=L-t*w*n-m*n:=by subst p;split<;>lia
 exact#[a.1,a.2.1,b.1,b.2.1,d.1,d.2.1,by lia]
def yeb(v:PV):Prop:=∃c m t:Hw,v=.tp AB [.int c,.int m,.int t]/\0<=c/\c<=200/\0<=m/\m<=200/\0<=t/\t<=200
def cOf(w n:Hw):PV->Hw
 |.tp _ [.int c,.int m,.int t]=>c+m*n+t*w*n
 |_=>0
def zeH{ns:Hs Hw}(k:Ht){w n:Hw}(p:1<=w)(w1:w<=16)(r:1<=n)(u:n<=4){B:SO}{A:Ht}(x:A≠0)(z:B.length<=A):∀(N:Ht) (a L:Hw) (d:Hs PV) (p5 p6 p7 p8:Option PV) (st:SO),0<=L->L<=4003->(∀y∈d,yeb y)->d.length+N<=40->Frm ns B st->st[A]?=AA (.lst d) ->
  ∃g b Y f,0<=g/\(∀y∈b,yeb y)/\b.length<=40/\(b.map (cOf w n)).sum+g<=(d.map (cOf w n)).sum+L/\Frm ns B f/\f[A]?=AA (.lst b) /\
   yaT (yc T k) (.n 5) cnB (yt N a 1) [AA (.loc 0),AA (.int w),AA (.int n),AA (.int L),AA (.loc A),p5,p6,p7,p8] st=.nx (AA (.loc 0)::AA (.int w)::AA (.int n)::AA (.int g)::AA (.loc A)::Y) f
 |0,a,L,d,p5,p6,p7,p8,st,C,L1,o,hl,h,l=>#[L,d,_,st,C,o,by lia,Hw.le_refl _,h,l,by rw[yt,zO]]
 |N+1,a,L,d,p5,p6,p7,p8,st,C,L1,o,hl,h,l=>by
  let#[t,m,c,et,em,ec,Z,t1,m0,m1,c0,c1,lf]:=zlA C p r;have p0:0<w*n:=Hk () ();have p1:w*n<=64:=GY (HD w1 u () ()) ();have q1:yO .mul (.int w) (.int n)=AA (.int (w*n)):=zat ();have q2:yO .fdiv (.int L) (.int (w*n))=AA (.int (L/(w*n))):=zku p0 ();have q3:yO .mul (.int t) (.int w)=AA (.int (t*w)):=zat ();have q4:yO .mul (.int (t*w)) (.int n)=AA (.int (t*w*n)):=zbt ();have q5:yO .fdiv (.int (L-t*w*n)) (.int n)=AA (.int ((L-t*w*n)/n)):=zku () ();have q6:yO .mul (.int m) (.int n)=AA (.int (m*n)):=zat ();have D:=λst=>zkW 200 (L/(w*n)) st;have E:=λst=>zkW 200 ((L-t*w*n)/n) st;have G:=λst=>zkW 200 (L-t*w*n-m*n) st;erw[et]at D;erw[em]at E;erw[ec]at G;have hv:yeb (.tp AB [.int c,.int m,.int t]):=#[c,m,t,rfl,c0,c1,m0,m1,Z,t1];have mp:0<=m*n:=Cm m0 ();have tp:0<=t*w*n:=Cm (Cm Z ()) ()
  by_cases q:L > 0
  .have H:decide (L > 0)=true:=Hv q;let#[f1,f2]:=zba (v:=.tp AB [.int c,.int m,.int t]) l ();let#[g,b,Y,f,I,J,M,O,Q,U,X]:=zeH (ns:=ns) k p w1 r u x z N (a+1) (L-c-m*n-t*w*n) (d++[.tp AB [.int c,.int m,.int t]]) (AA (.int a)) (AA (.int t)) (AA (.int m)) (AA (.int c)) (st.set A (.lst (d++[.tp AB [.int c,.int m,.int t]]))) lf () (λy j=>by
    rcases Am.1 j with j|j
    .exact o y j
    .simp only[AM,AN,IE]at j;rw[j];exact hv) (by simp;lia) (h.put x z _) (rdS l)
   refine#[g,b,Y,f,I,J,M,?_,Q,U,?_]
   .rw[FL,FM]at O;erw[AW,BH,BO,FF,cOf]at O;lia
   .have one:exs (yc T k) [AA (.loc 0),AA (.int w),AA (.int n),AA (.int L),AA (.loc A),AA (.int a),p6,p7,p8] st cnB=.nx [AA (.loc 0),AA (.int w),AA (.int n),AA (.int (L-c-m*n-t*w*n)),AA (.loc A),AA (.int a),AA (.int t),AA (.int m),AA (.int c)] (st.set A (.lst (d++[.tp AB [.int c,.int m,.int t]]))):=by simp! [cnB,yae,q1,q2,D,q3,q4,q5,E,q6,G,H,f1,f2]
    rw[yt,zr (Y1:=[AA (.loc 0),AA (.int w),AA (.int n),AA (.int L),AA (.loc A),AA (.int a),p6,p7,p8]) rfl,one];exact X
  .have H:decide (L > 0)=false:=Hu q;let#[g,b,Y,f,I,J,M,O,Q,U,X]:=zeH (ns:=ns) k p w1 r u x z N (a+1) (L-c-m*n-t*w*n) d (AA (.int a)) (AA (.int t)) (AA (.int m)) (AA (.int c)) st lf () o () h l;refine#[g,b,Y,f,I,J,M,by lia,Q,U,?_];have one:exs (yc T k) [AA (.loc 0),AA (.int w),AA (.int n),AA (.int L),AA (.loc A),AA (.int a),p6,p7,p8] st cnB=.nx [AA (.loc 0),AA (.int w),AA (.int n),AA (.int (L-c-m*n-t*w*n)),AA (.loc A),AA (.int a),AA (.int t),AA (.int m),AA (.int c)] st:=by simp! [cnB,yae,q1,q2,D,q3,q4,q5,E,q6,G,H]
   rw[yt,zr (Y1:=[AA (.loc 0),AA (.int w),AA (.int n),AA (.int L),AA (.loc A),AA (.int a),p6,p7,p8]) rfl,one];exact X
theorem counts{ns:Hs Hw}(j:ns.length<=1000)(k:Ht){w n:Hw}(o:1<=w)(w1:w<=16)(p:1<=n)(q:n<=4){B st:SO}(h:Frm ns B st):∃c d,(∀y∈c,yeb y)/\c.length<=40/\(c.map (cOf w n)).sum<=4003/\Frm ns B d/\yc T (k+4) yi3 [.loc 0,.int w,.int n] st=.ok (.lst c) d:=by
 have u:T yi3=AA #[3,9,AB,yae.body]:=rfl;let#[x,f,Q,U,z,C]:=zox k j (m:=6) () () h;have g:=z.frm h;have D:=g.app (.lst []);have pos:=g.pos;let#[X,c,Y,l,Z,E,G,H,I,J,L]:=zeH (ns:=ns) (k+3) o w1 p q (B:=B) (A:=f.length) () g.len 40 0 (3998+x) [] AD AD AD AD (f++[.lst []]) () () (by simp) (by simp) D (by simp);have M:yb4 (.loc f.length) l=.ok (.lst c) (l.set f.length .dead):=by erw[yb4,J]
 refine#[c,l.set f.length .dead,E,G,by erw[BH,FF]at H;lia,I.put () g.len _,?_];have N:ybE (.int 40)=AA (yt 40 0 1):=rfl
 have O:yae.body=(match yae.body with
  |.cons a (.cons b (.cons (.for t i _) r))=>.cons a (.cons b (.cons (.for t i cnB) r))
  |x=>x):=rfl
 rw[zo u rfl rfl];dsimp only;rw[O];simp! [yae,C,N,L,M,zM,Ab]
def mkP(d:Hw):PV:=.tp AB [.str ya4,.tp AB [.str yal,.int d]]
def mkR(d:Hw):Rs:=#[yal,[.fig d]]
inductive Pt:PV->Prop
 |rn {c m t:Hw}:-200<=c/\c<=200->-200<=m/\m<=200->-200<=t/\t<=200->Pt (rnP c m t)
 |mk {d:Hw}:0<=d->d<=1->Pt (mkP d)
def wg(w n:Hw):PV->Ht
 |.tp _ [_,c,_,_]=>(cOf w n c).toNat
 |_=>0
def rwn:PV->Ht
 |.tp _ [_,_,_,_]=>0
 |_=>1
def zpQ{d:Hw}(b:0<=d)(c:d<=1)(I J n:Hw):ya9 ((mkR d).pv I J n):=by
 have f:yab yal yb=AA (.tp AC [.str yaS]):=by ac_rfl
 have g:decide (yal=yac)=false:=by decide +kernel
 have j:peq (.str yaS) (.str yaS)=true:=by rw[z7];simp
 have e:(mkR d).pv I J n=.tp AB [.str yal,.int d]:=rfl;rw[e];refine zgP (zt.2 #[by lia,by simp,λy a=>?_]) ?_
 .simp only[AM,AN,IE]at a;rcases a with rfl|rfl
  .decide +kernel
  .rfl
 .simp only[yat,f,yag,PV.tup,prS,opS,j,wh,An,CU,AV,Ap,ID,Hv b,Hv c,g,CK,Cr,BM,IS]
def zn4{d:Hw}(a:0<=d)(b:d<=1):part1 (mkP d)=AA (.row (mkR d))/\yaR (mkP d)=AC/\tam 4 10 (mkP d)=true:=by
 have e:yco ya4=true:=Hv rfl;have c:yab yal yb=AA (.tp AC [.str yaS]):=by ac_rfl
 have f:decide (yal=yac)=false:=by decide +kernel
 have g:peq (.str yaS) (.str yaS)=true:=by rw[z7];simp
 have j:yat AC (.tp AB [.str yal,.int d])=true:=by erw[yat,c,yag,PV.tup,prS,opS,g,wh,An,CU,AV,Ap,ID,Hv a,Hv b,f,CK,Cr,BM,IS]
 refine#[?_,zcn j,rfl];have l:ybI (mkP d)=none:=rfl;erw[part1,l,mkP,ybB,e,ID,rowOf,ybb,ydk,intOf,AV,Ap,B5,mkR];rfl
def zb3{w n:Hw}:∀b:Hs PV,(∀v∈b,Pt v)->∃f,yak b=AA f/\yaJ w n f=(b.map (wg w n)).sum/\(yM w n f).length=(b.map rwn).sum/\ak1 w n f<=(b.map (wg w n)).sum+b.length/\(∀y∈yM w n f,ya9 y)/\b.all yaR=AC/\∀y∈b,tam 4 10 y=AC
 |[],_=>#[[],rfl,rfl,rfl,by simp[ak1],by simp[yM],rfl,by simp]
 |v::b,h=>by
  let#[f,e,u,x,N,z,A,B]:=zb3 (w:=w) (n:=n) b λy a=>h y (by simp[a]);have g:∃p,part1 v=AA p/\p.rnd w n=wg w n v/\(p.rows w n).length=rwn v/\p.ak w n<=wg w n v+1/\(∀y∈p.rows w n,ya9 y)/\yaR v=AC/\tam 4 10 v=true:=by
   cases h v (by simp)with
   |@rn c m t C D E=>
    let#[j,_,_,l,o]:=zjp C D E;refine#[_,j,?_,?_,?_,?_,l,o]
    .simp[T1.rnd,ya8,wg,rnP,cOf,cnt]
    .simp[T1.rows,yam,rwn,rnP,zfw]
    .simp[T1.ak,ak2,wg,rnP,cOf,cnt]
    .simp[T1.rows,yam,zfw]
   |@mk d q r=>
    let#[j,l,o]:=zn4 q r;refine#[_,j,rfl,rfl,?_,?_,l,o]
    .simp[T1.ak,wg,mkP]
    .intro y a;erw[T1.rows,AM,AN,IE]at a;rw[a];exact zpQ q r _ _ _
  let#[p,G,H,I,O,J,L,M]:=g;refine#[p::f,by erw[yak,G,e],?_,?_,?_,λy a=>?_,by erw[An,L,A,BM],λy a=>?_]
  .rw[yaJ,AW,BO,<-yaJ,H,u];simp
  .rw[yM,Bu,AO,<-yM,I,x];simp
  .rw[ak1,AW,BO,<-ak1];erw[AW,BO,AV];lia
  .rw[yM,Bu]at a;rcases Am.1 a with a|a
   .exact J y a
   .exact z y a
  .rcases AM.1 a with rfl|a
   .exact M
   .exact B y a
def laA:Css:=match yao.body with
 |.cons _ (.cons _ (.cons (.ite _ a _) _))=>a
 |x=>x
def laB:Css:=match yao.body with
 |.cons _ (.cons _ (.cons _ r))=>r
 |x=>x
def zn7{ns:Hs Hw}(a:ns.length<=1000){w n:Hw}(o:0<=w)(w1:w<=16)(p:0<=n)(n1:n<=4){st:SO}(h:Drw ns 0 st){p0:Option PV}{r:Hs (Option PV)}:
  ∃q,exs (yc T 24) (p0::AA (.loc 0)::AA (.int w)::AA (.int n)::AD::AD::AD::AD::AD::r) st laA=.rt (.bl AC) q:=by
 let#[c,E,t,u,N,f]:=za4 a 20 h;have f:yc T 24 yiW [.loc 0] st=.ok (.str #[(Hs.toArray [c])]) E:=f;have G:=N.drw h;let#[x,O,A,B,U,g]:=zoy 21 a (m:=100) () () G;have g:yc T 24 ya [.loc 0,.int 100] E=_:=g;have H:=U.drw G;let#[y,X,y0,y1,Z,j]:=zoy 21 a (m:=2) () () H;have j:yc T 24 ya [.loc 0,.int 2] O=_:=j;have d3:=Z.drw H;let#[z,s4,z0,z1,o4,l]:=zoy 21 a (m:=2) () () d3;have l:yc T 24 ya [.loc 0,.int 2] X=_:=l;have I:∀Y s,ev (yc T 24) Y s (.neg (.cst (.int 1)))=.ok (.int (-1)) s:=λY s=>by erw[ev,R.bind]
 have fold:PV.tp AB [.str "row",.tp AB [.str "move",.tp AB [.str #[(Hs.toArray [c])],.tp AB [.int 0,.int 0,.int 0,.int 0]],.tp AB [.str #[(Hs.toArray [c])],.tp AB [.int x,.int 0,.int 0,.int 0]]]]=mvP c x:=rfl;have b0:=λst=>zpN t u A B o w1 p (show n<=8 by lia) st;have b1:=λst=>zpO t u A B o w1 p (show n<=8 by lia) st;have b2:=λst=>zpP t u A B o w1 p (show n<=8 by lia) st;have b:PV.tp AB [.str "rounds",.tp AB [.int 200,.int 0,.int 0],.tp AB [],.tp AB (AL 20 (mvP c x))]=rmP 200 20 c x:=rfl;have J:PV.tp AB [.str "rounds",.tp AB [.int 1,.int 0,.int 0],.tp AB [],.tp AB [mvP c x]]=rmP 1 1 c x:=rfl;generalize hM:mvP c x=M at *;have d:yc5 (.tp AB [M]) (.int 20)=AA (.tp AB (AL 20 M)):=rfl;have q0:((4000:Hw)==4000)=true:=rfl;have q1:((-1:Hw) == -1)=true:=rfl;have L:z=0 \/ z=1:=by lia
 refine#[s4,?_];generalize rmP 200 20 c x=P,rmP 1 1 c x=Q,hr:AL 20 M=RR at *;rcases (show y=0 \/ y=1 by lia)with rfl|rfl
 .have C:∀v,yc5 (.tp AB [v]) (.int 0)=AA (.tp AB []):=λv=>rfl;have ad:yO .add (.tp AB [P]) (.tp AB [])=AA (.tp AB [P]):=rfl;have D:∀st,idxV st (.tp AB [.int 4000,.int (-1)]) (.int 0)=AA (.int 4000):=λ_=>rfl;rcases L with rfl|rfl<;>simp! [laA,yao,f,g,fold,j,l,J,ix0,ix1,d,b,IC.ve27,C,ad,b0,I,D,q0,Ab]
 .have C:∀v,yc5 (.tp AB [v]) (.int 1)=AA (.tp AB [v]):=λv=>rfl;have ad:∀v,yO .add (.tp AB [P]) (.tp AB [v])=AA (.tp AB [P,v]):=λv=>rfl;have D:∀st,idxV st (.tp AB [.int 4000,.int (-1)]) (.int 1)=AA (.int (-1)):=λ_=>rfl;rcases L with rfl|rfl<;>simp! [laA,yao,f,g,fold,j,l,J,ix0,ix1,d,b,IC.ve27,C,ad,b1,b2,I,D,q1,Ab]
def zhL(k:Ht){b:Hy}{c m t w n:Hw}(j:m.natAbs<=200)(l:t.natAbs<=200)(o:0<=n)(p:n<=8)(st:SO):yc T (k+1) yim [.tp b [.int c,.int m,.int t],.int w,.int n] st=.ok (.int (c+m*n+t*w*n)) st:=by
 have a:T yim=AA yiA:=rfl;have d:m.natAbs<18446744073709551616:=by lia
 have f:t.natAbs<18446744073709551616:=by lia
 have g:n.natAbs<18446744073709551616:=by lia
 rw[yc,a];erw[yiA,AV,Ap,DV,Fg,ID,nLs,nL,BM,AW,BH,DC,AL,BE,BD,BG,zbi,xs_nil,x_ret,IC.ve1,IC.ve2,IC.ve3,IC.ve16,Au,Ah,bd_ok,fl_ok,toR_some,ix0,ix1,ix2,zat d,zat f,zbt g,b_add,th_rt]
def yfj(call:Cl)(c:IC.Env)(tg:Tg)(e:Ce)(x:PV)(a:SO):R (Option PV):=match yW tg x c with
 |none=>.bad
 |some d=>(ev call d a e).bind λy b=>.ok (AA y) b
def zod{call:Cl}{Y:IC.Env}{st:SO}{sl:Hs (Option Ht)}{tg:Tg}{i n:Ht}{e:Ce}(h:Y[i]?=AA (AA (.loc n))):ev call Y st (.cml sl tg (.var i) e)=ybi (yaX (yfj call (sl.map λo=>o.bind λj=>(Y[j]?).join) tg e) n 1000000 0 st):=by rw[IC.ve41,IC.ve2,h];rfl
def zd0{one:PV->SO->R (Option PV)}{f:PV->PV}{A:Ht}{xs:Hs PV}{st:SO}(a:st[A]?=AA (.lst xs))(h:∀x∈xs,one x st=.ok (AA (f x)) st):∀(F i:Ht),i<=xs.length->xs.length<i+F->yaX one A F i st=.ok ((xs.drop i).map f) st
 |0,i,b,c=>by lia
 |F+1,i,b,c=>by
  rw[yaX,a]
  by_cases q:i<xs.length
  .have e:xs[i]?=AA xs[i]:=CY q;erw[e,h xs[i] (Ek q),R.bind,zd0 a h F (i+1) () ()];rw[Cu q,AW];rfl
  .have e:xs[i]?=none:=BR ();erw[e];rw[Hs.drop_eq_nil_of_le ()];rfl
def zeX:∀l:Hs Ht,ycQ (l.map λk=>PV.int ((k:Ht):Hw))=AA ((l.sum:Ht):Hw)
 |[]=>rfl
 |k::l=>by rw[AW,ycQ,zeX l,BO];simp
def smX:Ce:=match laB with
 |.cons _ (.cons _ (.cons (.asg _ e) _))=>e
 |_=>.nope
def Rn(v:PV):Prop:=∃c m t:Hw,v=rnP c m t/\(-200<=c/\c<=200)/\(-200<=m/\m<=200)/\-200<=t/\t<=200
def znA{w n:Hw}(f:0<=n)(C:n<=4){A:Ht}{xs:Hs PV}{st:SO}(g:st[A]?=AA (.lst xs))(l:∀x∈xs,Rn x)(D:xs.length<=100){p0 p1 p4 p5 p6 p7 p8:Option PV}{r:Hs (Option PV)}:
  ev (yc T 24) (p0::p1::AA (.int w)::AA (.int n)::p4::p5::p6::p7::p8::AA (.loc A)::r) st smX=.ok (.int (((xs.map (wg w n)).sum:Ht):Hw)) st:=by
 have one:∀x∈xs,yfj (yc T 24) [AD,AA (.int w),AA (.int n)] (.n 0) (.blt .max (.cons (.cst (.int 0)) (.cons (.call yim (.cons (.idx (.var 0) (.cst (.int 1))) (.cons (.var 1) (.cons (.var 2) .nil)))) .nil))) x st=.ok (AA (.int ((wg w n x:Ht):Hw))) st:=λx a=>by let#[c,m,t,rfl,E,G,H]:=l x a;have p:=zhL 23 (b:=AB) (c:=c) (m:=m) (t:=t) (w:=w) (n:=n) () () f () st;have q:=zes (c+m*n+t*w*n) st;have u:wg w n (rnP c m t)=(c+m*n+t*w*n).toNat:=rfl;rw[u];simp! [yfj,rnP,ix1,p,q]
 have y:=zd0 g one 1000000 0 (Ab _) ();have d:=zod (call:=yc T 24) (Y:=p0::p1::AA (.int w)::AA (.int n)::p4::p5::p6::p7::p8::AA (.loc A)::r) (st:=st) (sl:=[AD,AA 2,AA 3]) (tg:=.n 0) (i:=9) (n:=A) (e:=.blt .max (.cons (.cst (.int 0)) (.cons (.call yim (.cons (.idx (.var 0) (.cst (.int 1))) (.cons (.var 1) (.cons (.var 2) .nil)))) .nil))) rfl;have z:([AD,AA 2,AA 3]:Hs (Option Ht)).map (λo=>o.bind λj=>((p0::p1::AA (.int w)::AA (.int n)::p4::p5::p6::p7::p8::AA (.loc A)::r:Hs (Option PV))[j]?).join)=[AD,AA (.int w),AA (.int n)]:=rfl;rw[z,y,HB,zV _ (by rw[Ai];lia)]at d;have sm:yX .sum st [.lst (xs.map λx=>PV.int ((wg w n x:Ht):Hw))]=AA (.int (((xs.map (wg w n)).sum:Ht):Hw)):=by have:=zeX (xs.map (wg w n));rw[Hs.map_map]at this;show (ycQ _).map PV.int=_;rw[show (xs.map λx=>PV.int ((wg w n x:Ht):Hw))=xs.map ((λk=>PV.int ((k:Ht):Hw)) ∘ wg w n)from rfl,this];rfl
 have B:smX=.blt .sum (.cons (.cml [AD,AA 2,AA 3] (.n 0) (.var 9) (.blt .max (.cons (.cst (.int 0)) (.cons (.call yim (.cons (.idx (.var 0) (.cst (.int 1))) (.cons (.var 1) (.cons (.var 2) .nil)))) .nil)))) .nil):=rfl;rw[B];simp! [d,sm]
def zeF(f:PV->Ht)(xs:Hs PV)(v:PV)(i:Ht):((xs.take i++v::xs.drop i).map f).sum=f v+(xs.map f).sum:=by
 have h:(xs.map f).sum=((xs.take i).map f).sum+((xs.drop i).map f).sum:=by rw[<-FM,<-FL,Hs.take_append_drop]
 rw[FL,FM,AW,BO,h];lia
def zgT{xs:Hs PV}{v x:PV}{i:Ht}(h:x∈xs.take i++v::xs.drop i):x=v \/ x∈xs:=by
 rcases Am.1 h with h|h
 .exact .inr (F2 h)
 .rcases AM.1 h with h|h
  .exact .inl h
  .exact .inr (F1 h)
def zgk(xs:Hs PV)(v:PV){i:Ht}(h:i<=xs.length):(xs.take i++v::xs.drop i).length=xs.length+1:=by rw[AO,AV,CC,Cp];lia
def zjV{st:SO}{A:Ht}{xs:Hs PV}{v:PV}{z:Hw}(h:st[A]?=AA (.lst xs))(a:0<=z)(b:z<xs.length+1)(c:xs.length<=100):ybs .insert st (.loc A) [.int z,v]=.ok .non (st.set A (.lst (xs.take z.toNat++v::xs.drop z.toNat))):=by show yep st (.loc A) (.int z) v=_;erw[yep,h];rw[Hz #[a,by lia,by lia]]
def zjF{st:SO}{A:Ht}{xs:Hs PV}(h:st[A]?=AA (.lst xs)):yas .insert st (.loc A)=AA true:=by simp[yas,yQ,h]
def laC:Css:=match laB with
 |.cons _ (.cons _ (.cons _ (.cons _ (.cons _ r))))=>r
 |x=>x
theorem laE:laB=(match laB with
 |.cons a (.cons b (.cons (.asg t _) (.cons d (.cons e _))))=>.cons a (.cons b (.cons (.asg t smX) (.cons d (.cons e laC))))
 |x=>x):=rfl
def zop{ns:Hs Hw}(u:ns.length<=1000){w n:Hw}(w0:1<=w)(w1:w<=16)(n0:1<=n)(n1:n<=4){st:SO}(h:Drw ns 0 st){p0 p4 p5 p6 p7 p8:Option PV}{r:Hs (Option PV)}:
  ∃A vs S E,(∀v∈vs,Pt v)/\vs.length<=50/\E[A]?=AA (.lst vs)/\A≠0/\Drw ns 0 E/\exs (yc T 24) (p0::AA (.loc 0)::AA (.int w)::AA (.int n)::p4::p5::p6::p7::p8::AD::AD::r) st laB=exs (yc T 24) (p0::AA (.loc 0)::AA (.int w)::AA (.int n)::p4::p5::p6::p7::p8::AA (.loc A)::AA S::r) E laC:=by
 let#[J,o,c1,c2,c3,g1,Z]:=counts u 20 w0 w1 n0 n1 (Frm.refl h);have Z:yc T 24 yi3 [.loc 0,.int w,.int n] st=.ok (.lst J) o:=Z;have pos:=g1.pos;have cm:yR (yc T 24) [AD] (.n 0) (.cst (.bl AC)) (.tup (.cons (.cst (.str "rounds")) (.cons (.var 0) (.cons (.tup .nil) (.cons (.tup .nil) .nil))))) J o=.ok (J.map λy=>.tp AB [.str yaH,y,.tp AB [],.tp AB []]) o:=zX _ λp hp=>by simp! [yaC,Ab]
 obtain⟨f,C⟩:∃f,f=J.map λy=>PV.tp AB [.str yaH,y,.tp AB [],.tp AB []]:=#[_,rfl];rw[<-C]at cm;have l0:f.length<=40:=by rw[C,Ai];exact c2
 have r0:∀x∈f,Rn x:=λx j=>by rw[C]at j;let#[y,hy,rfl]:=GX.1 j;let#[c,m,t,rfl,a]:=c1 y hy;exact#[c,m,t,rfl,by lia,by lia,by lia]
 have w0s:(f.map (wg w n)).sum<=4003:=by
  have key:∀l:Hs PV,(∀y∈l,yeb y)->(((l.map λy=>PV.tp AB [.str yaH,y,.tp AB [],.tp AB []]).map (wg w n)).sum:Ht)=(l.map (cOf w n)).sum:=by
   intro l
   induction l with
   |nil=>intro _;rfl
   |cons y l ih=>
    intro L;let#[c,m,t,rfl,a]:=L y (by simp);have i:=ih λz hz=>L z (by simp[hz]);have p1:0<=m*n:=Cm () ();have p2:0<=t*w*n:=Cm (Cm () ()) ();erw[AW,BO,wg,cOf]at i ⊢;lia
  have:=key J c1;rw[C];lia
 have lr:=zV f () o;have th:ycb (.lst f) o=.ok (.loc o.length) (o++[.lst f]):=rfl;have d2:Drw ns 0 (o++[.lst f]):=(g1.app _).dr;have h2:(o++[Ob.lst f])[o.length]?=AA (.lst f):=by simp
 obtain⟨A,hA⟩:∃A,A=o.length:=#[_,rfl];rw[<-hA]at h2 th;have G:A≠0:=by lia
 generalize o++[Ob.lst f]=s2 at *;have M:yX .len s2 [.loc A]=AA (.int f.length):=by simp[yX,lenV,yaM,h2]
 let#[z1,s3,a0,a1,o3,e3]:=zoy 21 u (m:=(f.length:Hw)+1) () () d2;have e3:yc T 24 ya [.loc 0,.int ((f.length:Hw)+1)] s2=_:=e3;let#[H,s4,b0,b1,o4,e4]:=zoy 21 u (m:=201) () () (o3.drw d2);have e4:yc T 24 ya [.loc 0,.int 201] s3=_:=e4;have h4:s4[A]?=AA (.lst f):=by rw[o4.get G,o3.get G];exact h2
 have N:=zjF h2;have i1:=zjV (v:=rnP (0-H) 0 0) h4 a0 () ();obtain⟨g,D⟩:∃g,g=f.take z1.toNat++rnP (0-H) 0 0::f.drop z1.toNat:=#[_,rfl];rw[<-D]at i1;have l1:g.length=f.length+1:=by rw[D];exact zgk _ _ ()
 have r1:∀x∈g,Rn x:=λx j=>by
  rw[D]at j;rcases zgT j with rfl|j
  .exact#[0-H,0,0,rfl,by lia,by lia,by lia]
  .exact r0 x j
 have w1s:(g.map (wg w n)).sum=(f.map (wg w n)).sum:=by
  rw[D,zeF];have:wg w n (rnP (0-H) 0 0)=0:=by simp[wg,rnP,cOf];lia
  lia
 have h5:(s4.set A (.lst g))[A]?=AA (.lst g):=rdS h4;have d5:Drw ns 0 (s4.set A (.lst g)):=(o4.drw (o3.drw d2)).put G _;generalize s4.set A (.lst g)=s5 at *;have su:=znA (w:=w) (n:=n) () n1 h5 r1 () (p0:=p0) (p1:=AA (.loc 0)) (p4:=p4) (p5:=p5) (p6:=p6) (p7:=p7) (p8:=p8) (r:=AD::r);have O:yX .len s5 [.loc A]=AA (.int g.length):=by simp[yX,lenV,yaM,h5]
 let#[z3,s6,f0,f1,o6,e6]:=zoy 21 u (m:=(g.length:Hw)+1) () () d5;have e6:yc T 24 ya [.loc 0,.int ((g.length:Hw)+1)] s5=_:=e6;let#[d,Q,d0,d1,o7,e7]:=zoy 21 u (m:=2) () () (o6.drw d5);have e7:yc T 24 ya [.loc 0,.int 2] s6=_:=e7;have h7:Q[A]?=AA (.lst g):=by rw[o7.get G,o6.get G];exact h5
 have U:=zjF h5;have i2:=zjV (v:=mkP d) h7 f0 () ();obtain⟨L2,B⟩:∃L2,L2=g.take z3.toNat++mkP d::g.drop z3.toNat:=#[_,rfl];rw[<-B]at i2;have l2:L2.length=g.length+1:=by rw[B];exact zgk _ _ ()
 have r2:∀x∈L2,Pt x:=λx j=>by
  rw[B]at j;rcases zgT j with rfl|j
  .exact .mk d0 ()
  .let#[c,m,t,rfl,a]:=r1 x j;exact .rn a.1 a.2.1 a.2.2
 have w2s:(L2.map (wg w n)).sum=(g.map (wg w n)).sum:=by rw[B,zeF];have:wg w n (mkP d)=0:=rfl;lia
 have k2s:(L2.map rwn).sum=1:=by
  have z:∀l:Hs PV,(∀x∈l,Rn x)->(l.map rwn).sum=0:=by
   intro l
   induction l with
   |nil=>intro _;rfl
   |cons y l ih=>
    intro L;let#[c,m,t,rfl,_]:=L y (by simp);have:=ih λx j=>L x (by simp[j]);erw[AW,BO,this,rwn,rnP]
  rw[B,zeF,z g r1];rfl
 let#[ps,q1,q2,q3,q4,q5,q6,q7]:=zb3 (w:=w) (n:=n) L2 r2;have tv:tam 60 1000 (.tp AB L2)=true:=zt.2 #[by lia,by lia,λy hy=>zK () () _ (q7 y hy)];have h8:(Q.set A (.lst L2))[A]?=AA (.lst L2):=rdS h7;have d8:Drw ns 0 (Q.set A (.lst L2)):=(o7.drw (o6.drw d5)).put G _;have I:=λst=>zck (w:=w) (n:=n) tv q6 q1 () w1 () () () q5 st;have tu:yX .tuple (Q.set A (.lst L2)) [.loc A]=AA (.tp AB L2):=by simp[yX,ycs,yQ,h8]
 generalize Q.set A (.lst L2)=s8 at *;rw[q3,q2,k2s,w2s]at I;refine#[A,L2,.int ((g.map (wg w n)).sum:Ht),s8,r2,by lia,h8,G,d8,?_];generalize (g.map (wg w n)).sum=S at *;have n2:∀Y s,ev (yc T 24) Y s (.neg (.cst (.int 1)))=.ok (.int (-1)) s:=λY s=>by erw[ev,R.bind]
 have fr:PV.tp AB [.str "rounds",.tp AB [.int (0-H),.int 0,.int 0],.tp AB [],.tp AB []]=rnP (0-H) 0 0:=rfl;have fm:PV.tp AB [.str "row",.tp AB [.str "mark",.int d]]=mkP d:=rfl;have hi:∀s b,yX .int s [.bl b]=AA (.int (bi b)):=λs b=>rfl;have j0:∀st,idxV st (.tp AB [.int 1,.int (-1)]) (.int (bi AB))=AA (.int 1):=λ_=>rfl;have j1:∀st,idxV st (.tp AB [.int 1,.int (-1)]) (.int (bi AC))=AA (.int (-1)):=λ_=>rfl;rw[laE];generalize rnP (0-H) 0 0=RN,mkP d=MK,PV.tp AB L2=X at *
 by_cases q:((S:Ht):Hw) > 4000
 .have dq:decide (((S:Ht):Hw) > 4000)=true:=Hv q;have I:∀st,yc T 24 yes [X,.int w,.int n] st=.ok (.int (-1)) st:=λst=>by rw[I st,IA ()]
  have qq:((-1:Hw) == -1)=true:=rfl;simp! [laB,yao,Z,cm,lr,th,M,N,e3,e4,fr,i1,su,U,O,e6,e7,fm,i2,tu,I,n2,dq,hi,j1,qq,IC.ve30,Ab]
 .have dq:decide (((S:Ht):Hw) > 4000)=false:=Hu q;have I:∀st,yc T 24 yes [X,.int w,.int n] st=.ok (.int 1) st:=λst=>by rw[I st,Hz ()];rfl
  have qq:((1:Hw)==1)=true:=rfl;simp! [laB,yao,Z,cm,lr,th,M,N,e3,e4,fr,i1,su,U,O,e6,e7,fm,i2,tu,I,n2,dq,hi,j0,qq,IC.ve30,Ab]
theorem sizes(k:Ht){ns:Hs Hw}(a:ns.length<=1000){st:SO}(h:Drw ns 0 st):∃w z b,4<=w/\w<=16/\1<=z/\z<=4/\Onl ns 0 st b/\yc T (k+4) yiS [.loc 0,.int 4] st=.ok (.tup [.int w,.int z]) b:=by have f:T yiS=AA yiy:=rfl;let#[d,o,p,q,c,g]:=zoy k a (m:=13) () () h;let#[e,j,r,t,l,n]:=zoy k a (m:=4) () () (c.drw h);refine#[4+d,1+e,j,by lia,by lia,by lia,by lia,c.trans l,?_];rw[zo f rfl rfl];simp! [yiy,g,n,zM,Ab]
def laD:Css:=match laC with
 |.cons _ r=>r
 |x=>x
def laF:Css:=match laD with
 |.cons _ (.cons _ (.cons (.for _ _ b) _))=>b
 |x=>x
def laR:Css:=match laD with
 |.cons _ (.cons _ (.cons _ r))=>r
 |x=>x
def zn8{ns:Hs Hw}(d:ns.length<=1000){w n:Hw}(J:0<=w)(w1:w<=16)(L:0<=n)(n1:n<=4){st:SO}(h:Drw ns 0 st){p0 p4 p5 p6 p7 p8 p9 p10 p14 p15:Option PV}:
  (∃c,exs (yc T 24) [p0,AA (.loc 0),AA (.int w),AA (.int n),p4,p5,p6,p7,p8,p9,p10,AD,AD,AD,p14,p15] st laC=.rt (.bl AC) c) \/ ∃c,Onl ns 0 st c/\exs (yc T 24) [p0,AA (.loc 0),AA (.int w),AA (.int n),p4,p5,p6,p7,p8,p9,p10,AD,AD,AD,p14,p15] st laC=exs (yc T 24) [p0,AA (.loc 0),AA (.int w),AA (.int n),p4,p5,p6,p7,p8,p9,p10,AD,AD,AD,p14,p15] c laD:=by
 let#[x,u,x0,x1,A,f]:=zoy 21 d (m:=4) () () h;have f:yc T 24 ya [.loc 0,.int 4] st=_:=f;have B:=A.drw h;have M:laC=(match laC with | .cons a _=>.cons a laD|x=>x):=rfl;rw[M]
 cases p:(x==0)with
 |false=>exact .inr #[u,A,by simp! [laC,laB,yao,f,p]]
 |true=>
  let#[y,N,y0,y1,Q,g]:=zoy 21 d (m:=3) () () B;have g:yc T 24 ya [.loc 0,.int 3] u=_:=g;let#[z,U,z0,z1,o3,j]:=zoy 21 d (m:=3) () () (Q.drw B);have j:yc T 24 ya [.loc 0,.int 3] N=_:=j;have l:=λst=>zh9 (o:=19+y) (i:=200-z) (w:=w) (n:=n) () () () () J w1 L () st;have fr:PV.tp AB [.str "rounds",.tp AB [.int (200-z),.int 0,.int 0],.tp AB [],.tp AB []]=rnP (200-z) 0 0:=rfl;have ft:PV.tp AB [PV.tp AB [.str "rounds",.tp AB [.int (19+y),.int 0,.int 0],.tp AB [],.tp AB [rnP (200-z) 0 0]]]=PV.tp AB [.tp AB [.str yaH,.tp AB [.int (19+y),.int 0,.int 0],.tp AB [],.tp AB [rnP (200-z) 0 0]]]:=rfl;have C:yO .mul (.int (19+y)) (.int (200-z))=AA (.int ((19+y)*(200-z))):=zat ();have D:∀Y s,ev (yc T 24) Y s (.neg (.cst (.int 1)))=.ok (.int (-1)) s:=λY s=>by erw[ev,R.bind]
  have E:∀s b,yX .int s [.bl b]=AA (.int (bi b)):=λs b=>rfl;have X:∀st,idxV st (.tp AB [.int 0,.int (-1)]) (.int (bi AB))=AA (.int 0):=λ_=>rfl;have Z:∀st,idxV st (.tp AB [.int 0,.int (-1)]) (.int (bi AC))=AA (.int (-1)):=λ_=>rfl;refine .inl #[U,?_];generalize G:(19+y)=O,H:(200-z)=I at *;generalize rnP I 0 0=RN at *
  by_cases q:O+O*I > 4000
  .have r:decide (O+O*I > 4000)=true:=Hv q;erw[Hz q]at l;have t:((-1:Hw) == -1)=true:=rfl;simp! [laC,laB,yao,f,p,g,G,j,H,fr,l,C,D,E,r,Z,t,Ab]
  .have r:decide (O+O*I > 4000)=false:=Hu q;erw[IA q]at l;have t:((0:Hw)==0)=true:=rfl;simp! [laC,laB,yao,f,p,g,G,j,H,fr,l,C,D,E,r,X,t,Ab]
def zcA{w n:Hw}{v:PV}(d:tam 60 1000 v=AC){st:SO}{e:Hs (Option PV)}{p15:Option PV}{p0 p1 p4 p5 p6 p7 p8 p9 p10 p11 p12 p13:Option PV}:∀(N:Ht) (a:Hw) (p15:Option PV),∃b,yaT (yc T 24) (.n 15) laF (yt N a 1) [p0,p1,AA (.int w),AA (.int n),p4,p5,p6,p7,p8,p9,p10,p11,p12,p13,AA v,p15] st=.nx [p0,p1,AA (.int w),AA (.int n),p4,p5,p6,p7,p8,p9,p10,p11,p12,p13,AA v,b] st
 |0,a,p15=>#[p15,by rw[yt,zO]]
 |N+1,a,p15=>by
  let#[b,e]:=zcA (st:=st) (e:=e) (p15:=p15) (p0:=p0) (p1:=p1) (p4:=p4) (p5:=p5) (p6:=p6) (p7:=p7) (p8:=p8) (p9:=p9) (p10:=p10) (p11:=p11) (p12:=p12) (p13:=p13) (w:=w) (n:=n) d N (a+1) (AA (.int a));refine#[b,?_];have c:yc T 24 yiV [v] st=.ok (.bl (yaj yaR v)) st:=zcS 16 d () () st;have f:∀Y s,ev (yc T 24) Y s (.neg (.cst (.int 1)))=.ok (.int (-1)) s:=λY s=>by erw[ev,R.bind]
  have one:exs (yc T 24) [p0,p1,AA (.int w),AA (.int n),p4,p5,p6,p7,p8,p9,p10,p11,p12,p13,AA v,AA (.int a)] st laF=.nx [p0,p1,AA (.int w),AA (.int n),p4,p5,p6,p7,p8,p9,p10,p11,p12,p13,AA v,AA (.int a)] st:=by
   cases q:yaj yaR v with
   |true=>rw[q]at c;simp! [laF,laD,laC,laB,yao,c]
   |false=>
    rw[q]at c;have g:=zh7 d q w n st;have j:((-1:Hw) == -1)=true:=rfl;simp! [laF,laD,laC,laB,yao,c,g,f,j]
  rw[yt,zr (Y1:=[p0,p1,AA (.int w),AA (.int n),p4,p5,p6,p7,p8,p9,p10,p11,p12,p13,AA v,AA (.int a)]) rfl,one];exact e
def znl{w n:Hw}(b:0<=w)(w1:w<=16)(c:0<=n)(y:n<=4){A:Ht}{vs:Hs PV}{st:SO}(d:st[A]?=AA (.lst vs))(f:∀v∈vs,Pt v)(z:vs.length<=50){p0 p1 p4 p5 p6 p7 p8 p10 p11 p12 p13 p14 p15:Option PV}:∃a,exs (yc T 24) [p0,p1,AA (.int w),AA (.int n),p4,p5,p6,p7,p8,AA (.loc A),p10,p11,p12,p13,p14,p15] st laR=.rt (.bl AC) a:=by
 have g:∀st,yc T 24 yes [.tp AB [],.int w,.int n] st=.ok (.int 0) st:=λst=>zck (vs:=[]) (ps:=[]) rfl rfl rfl b w1 c () (by simp[ak1]) (by simp[yM]) st;let#[ps,B,C,D,E,G,H,j]:=zb3 (w:=w) (n:=n) vs f;have l:yb4 (.loc A) st=.ok (.lst vs) (st.set A .dead):=by erw[yb4,d]
 have m:ybh (.lst vs) AD (AA 1)=AA (.lst (cut vs AD (AA 1))):=rfl;have o:tam 60 1000 (.lst (cut vs AD (AA 1)))=true:=zkR.2 #[by lia,by have:=zeq vs AD (AA 1);lia,λx p=>zK () () _ (j x (zeo p))];have q:=zh7 o rfl w n (st.set A .dead);have r:∀Y s,ev (yc T 24) Y s (.neg (.cst (.int 1)))=.ok (.int (-1)) s:=λY s=>by erw[ev,R.bind]
 have t:((0:Hw)==0)=true:=rfl;have u:((-1:Hw) == -1)=true:=rfl;exact#[st.set A .dead,by simp! [laR,laD,laC,laB,yao,g,t,l,za7,zal,zcd,m,q,r,u,Ab]]
def zn5{ns:Hs Hw}(c:ns.length<=1000){w n:Hw}(q:0<=w)(w1:w<=16)(G:0<=n)(H:n<=4){A:Ht}(I:A≠0){vs:Hs PV}{st:SO}(h:Drw ns 0 st)(r:st[A]?=AA (.lst vs))(J:∀v∈vs,Pt v)(L:vs.length<=50){p0 p4 p5 p6 p7 p8 p10 p11 p12 p13 p14 p15:Option PV}:
  ∃y,exs (yc T 24) [p0,AA (.loc 0),AA (.int w),AA (.int n),p4,p5,p6,p7,p8,AA (.loc A),p10,p11,p12,p13,p14,p15] st laD=.rt (.bl AC) y:=by
 have N:A<st.length:=(A3.1 r).1;let#[g,z,l2,Z,g2,j]:=zdU (n:=n) c 18 (w:=w) q () (Frm.refl h);have j:yc T 24 yi1 [.loc 0,.int w,.int n] st=.ok (.tp AB g) z:=j;have tx:tam 10 10 (.tp AB g)=true:=zt.2 #[by lia,by lia,λx hx=>(Z x hx).2];let#[v,O,B,Q,l]:=zdk c 8 (M:=10) () () 9 10 AB g z () tx g2;have l:yc T 24 yi2 [.loc 0,.tp AB g,.int 0] z=.ok v O:=l;have B:tam 60 1000 v=true:=zK () () _ B;let#[x,o,x0,x1,o4,p]:=zoy 21 c (m:=6) () () Q.dr;have p:yc T 24 ya [.loc 0,.int 6] O=_:=p;have U:Frm ns st o:=o4.frm Q;have X:ybE (.int 2)=AA (yt 2 0 1):=rfl;have hE:laD=(match laD with | .cons a (.cons b (.cons (.for t i _) _))=>.cons a (.cons b (.cons (.for t i laF) laR))|x=>x):=rfl;rw[hE]
 cases Y:(x==0)with
 |false=>
  have h4:o[A]?=AA (.lst vs):=by rw[U.get A I N];exact r
  let#[d,f]:=zcA (w:=w) (n:=n) B (st:=o) (e:=[]) (p15:=AD) (p0:=p0) (p1:=AA (.loc 0)) (p4:=p4) (p5:=p5) (p6:=p6) (p7:=p7) (p8:=p8) (p9:=AA (.loc A)) (p10:=p10) (p11:=p11) (p12:=p12) (p13:=p13) 2 0 p15;let#[s6,C]:=znl q w1 G H h4 J L (p0:=p0) (p1:=AA (.loc 0)) (p4:=p4) (p5:=p5) (p6:=p6) (p7:=p7) (p8:=p8) (p10:=p10) (p11:=p11) (p12:=p12) (p13:=p13) (p14:=AA v) (p15:=d);exact#[s6,by simp! [laD,laC,laB,yao,j,l,p,Y,X,f,C]]
 |true=>
  let#[u,D,E,_,g5,f]:=strange c 19 U;have f:yc T 24 yiY [.loc 0] o=.ok u D:=f;have E:tam 60 1000 u=true:=zK () () _ E;have h5:D[A]?=AA (.lst vs):=by rw[g5.get A I N];exact r
  let#[d,C]:=zcA (w:=w) (n:=n) E (st:=D) (e:=[]) (p15:=AD) (p0:=p0) (p1:=AA (.loc 0)) (p4:=p4) (p5:=p5) (p6:=p6) (p7:=p7) (p8:=p8) (p9:=AA (.loc A)) (p10:=p10) (p11:=p11) (p12:=p12) (p13:=p13) 2 0 p15;let#[s7,e7]:=znl q w1 G H h5 J L (p0:=p0) (p1:=AA (.loc 0)) (p4:=p4) (p5:=p5) (p6:=p6) (p7:=p7) (p8:=p8) (p10:=p10) (p11:=p11) (p12:=p12) (p13:=p13) (p14:=AA u) (p15:=d);exact#[s7,by simp! [laD,laC,laB,yao,j,l,p,Y,f,X,C,e7]]
def ziN(ns:Hs Hw)(L:ns.length<=63):yc T 25 yiH [.scr (ns.map .int)] []=.ok (.bl AC) []:=by
 let#[o,j,M]:=fresh 23 ns L [];have C:Drw ns 0 [o]:=#[0,0,AB,by lia,by rw[M];rfl];have f:ns.length<=1000:=by lia
 have N:T yiH=AA #[1,16,AC,yao.body]:=rfl;have j:yc T 24 yiQ [.scr (ns.map .int)] []=.ok (.loc 0) [o]:=j;let#[w,z,D,w0,w1,O,q,Q,l]:=sizes 20 f C;have l:yc T 24 yiS [.loc 0,.int 4] [o]=.ok (.tp AB [.int w,.int z]) D:=l;have E:=Q.drw C;let#[x,s2,x0,x1,U,p]:=zoy 21 f (m:=8) () () E;have p:yc T 24 ya [.loc 0,.int 8] D=_:=p;have G:=U.drw E;have g:∀(Y:IC.Env),yW (.t [2,3]) (.tp AB [.int w,.int z]) Y=AA ((Y.set 2 (AA (.int w))).set 3 (AA (.int z))):=λY=>rfl;have X:yao.body=(match yao.body with | .cons a (.cons b (.cons (.ite c _ d) _))=>.cons a (.cons b (.cons (.ite c laA d) laB))|x=>x):=rfl;rw[zh N rfl rfl (zfZ ns)];dsimp only;rw[X]
 cases y:(x==0)with
 |true=>
  let#[Z,u]:=zn7 f (w:=w) (n:=z) () w1 () q G (p0:=AA (.scr (ns.map .int))) (r:=[AD,AD,AD,AD,AD,AD,AD]);simp! [yao,j,l,g,p,y,u,zc]
 |false=>
  let#[A,vs,S,Z,a1,a2,a3,H,I,u]:=zop f (w:=w) (n:=z) () w1 O q G (p0:=AA (.scr (ns.map .int))) (p4:=AD) (p5:=AD) (p6:=AD) (p7:=AD) (p8:=AD) (r:=[AD,AD,AD,AD,AD]);rcases zn8 f (w:=w) (n:=z) () w1 () q I (p0:=AA (.scr (ns.map .int))) (p4:=AD) (p5:=AD) (p6:=AD) (p7:=AD) (p8:=AD) (p9:=AA (.loc A)) (p10:=AA S) (p14:=AD) (p15:=AD)with⟨s4,B⟩|⟨s4,J,B⟩
  .simp! [yao,j,l,g,p,y,u,B,zc]
  .let#[s5,e6]:=zn5 f (w:=w) (n:=z) () w1 () q H (J.drw I) (by rw[J.get H];exact a3) a1 a2 (p0:=AA (.scr (ns.map .int))) (p4:=AD) (p5:=AD) (p6:=AD) (p7:=AD) (p8:=AD) (p10:=AA S) (p11:=AD) (p12:=AD) (p13:=AD) (p14:=AD) (p15:=AD);simp! [yao,j,l,g,p,y,u,B,e6,zc]
theorem walk{l:El}{q:Ae}{c:Hs AQ}{r:(AQ->Option AG)->BB->Prop}{m:Aq->BB->Prop}{d:DefRec}{K:Params->AF}(t:l.most=AA 63)(j:d.params.defaults=[])
  (y:∀(w:Aq) (h:BB),m w h->(K w.params).In h)
  (F:∀(w:Aq) (g:AQ->Option AG) (o:AJ) (h:BB),(K w.params).In h->h.Ns mainGlobals g->g d.name=AA (.ref o) ->
   ∃p:BC,(∀(s:AK) (u:AG),Es s p #[[u],[]] [("_law_script",u)])/\∀b:BB,(K w.params).In b->b.Ns mainGlobals g->yaW l.prog w (K w.params) g b (CX1 l.prog w) (2*25) o p ["_law_script"] (spX (K w.params) (yc T 25) yiH)):
  Go q c r m l.row.toRowW d [] (λf A=>Gz f A):=
 L2.walk_of (n:=63) (k:=2*25) (x:="_law_script") (CX:=λw=>CX1 l.prog w) (sp:=λw=>spX (K w.params) (yc T 25) yiH) t ⋯ j #[rfl,by decide,by decide] y F (λw H a D B _ C=>zgz ziN B C) λ_ _ _ _ _ z=>zl4 z
end WK
end
open PySem PySem.W PyProof.Rows
theorem PySem.Challenge.cw_widewords_k11_unrolled_refuses_holds : PySem.Challenge.rw_widewords_k11_unrolled_refuses.Holds := by
 refine hh.hd (by rfl) (by rfl) (by rfl) ?_
 k_fill
 refine WK.walk (l:=PySem.Challenge.rw_widewords_k11_unrolled_refuses) rfl rfl (λw h Y=>Y) ?F
 case F =>
  intro w mg fa h KX G hmg
  refine' L2.all_mk2 (t:=WK.tbQ) KX G hmg ?R ?B ?D WK.kb_all ?Ml WK.ok_all WK.T_ok (L:=57) rfl 25
  case R =>
   repeat' (first|exact trivial|apply And.intro|(refine' L2.rowFn ?a9 ?l9 ?c9 ?p9 ?b9;(case a9|l9|c9|p9=>k_is);(case b9=>((repeat intro _);first|rfl|kernel_rfl)))|(refine' L2.rowMe ?z9 ?a9 ?i9 ?l9 ?c9 ?p9 ?b9;(case z9=>((first|rw[WK.cn_20]);k_is));(case a9|i9|l9|c9|p9=>k_is);(case b9=>((repeat intro _);first|rfl|kernel_rfl)))|(refine' L2.rowIni ?z9 ?a9 ?i9 ?l9 ?c9 ?p9 ?b9 ?m9 ?k9;(case z9=>((first|rw[WK.cn_20]);k_is));(case a9|i9|l9|c9|p9=>k_is);(case b9=>((repeat intro _);first|rfl|kernel_rfl));(case m9|k9=>k_is))|(refine' L2.rowFd ?a9 ?l9 ?c9 ?p9 ?d9 ?e9 ?v9;(case a9|l9|c9|p9|d9=>k_is);(case e9=>rfl);(case v9=>(repeat first|exact .nil|refine .cons ⟨_,rfl⟩ ?_))))
  case B=>kernel_rfl
  case D =>
   repeat' (first|exact trivial|apply And.intro|intro _|(refine' L2.gd_mk KX G ?a9 ?l9 ?s9 ?r9 ?n9;(case a9|l9=>k_is);(case s9=>rfl);(case r9=>(repeat first|exact .nil|refine L2.con_row (by kernel_rfl) ?_));(case n9=>decide +kernel)))
  case Ml =>
   repeat' (first|exact trivial|apply And.intro|(refine' L2.gdf_mk KX G ?a9 ?l9 ?r9 ?n9;(case a9|l9=>k_is);(case r9=>(repeat first|exact .nil|refine L2.frow_cons (by kernel_rfl) ?_));(case n9=>decide +kernel)))
