import PyProof.Rows.All
import OpenK.KLine
import Open.Tops
import Wide.FinOn
import KE.KRevSl
import KE.KItem
import KE.KxWritten
import KE.KFromBytes
import KE.LcSums
import KE.KBits
import KE.KTryMore
import PySem.Challenge.RW_widewords_k29_whole_one_telling
set_option Elab.async false
set_option linter.all false
set_option maxRecDepth 100000
set_option maxHeartbeats 0
local macro_rules
 | `(#print $s:str)=>do
  let n:=fun (x:Lean.Name)=>Lean.mkIdent (.mkSimple s!"tw{x.hash}")
  let mut a:=#[n `PySem.Challenge.pw_widewords_k29_whole_one_telling]
  for e in s.getString.splitOn "|" do
   let f:=e.splitOn " "
   let mut p:=0
   for r in f.tail! do
    let g:=(r.splitOn ".").map String.toNat!
    p:=p+g[0]!
    for j in [0:g.getD 1 0+1] do a:=a.push (n (.mkStr2 "sh" (f[0]!++toString (p+j))))
    p:=p+g.getD 1 0
  `(structure $(Lean.mkIdent `PySem.W.Fast):declId:Prop where ($a*:True))
set_option genSizeOf false
set_option genInjectivity false
#print "o_ 3 2 4 3.1 2.2 4 2 3 3.1 2.1 4 2 3 3.1 2.1 4 2 3 3.1 2.1 22 2.2 5.2 2 4.2 3 2.2 4 2.2 4 2.2 4 2.2 3 2.2 5.2 5.2 5.2 3 2.2 3 2.2 3 2.2 2 10 2.2 3 2.2 5.2 5.2 11.2 3 2.2 3 2.2 5 6.2 5.2 3 2.2 5.2 3 2.2 3 2.2 5.2 3 2.2 5.2 5.2 5.2 5.2 2 4 2.2 5.2 5.2 5.2 17.2 3 2.2 5.2 5.2 5.2 2 6.2 5.2 3 2.2 3 2.2 5.2 3 2.2 5.2 3 2.2 3 2.2 3 2.2 5.2 3 2.2 3 2.2 2 4 2.2 3 2.9 5.2 5.2 5.2 5.2 5.2 5.2 5.2 2 4 2.2 5.2 3.2 3 2.2 3 2.2 3 2.2 5.2 3 2.2 5.2 5.2 5.2 5.2 2 6.2 5.2 5.2 5.2 5.2 5.2 5.2 3 2.2 5.2 3 2.2 5.2 3 2.2 2 4 2.3 5.2 3 2.2 3 2.2 4 4 2.2 3 2.2 3 2.2 3 2.2 3 2.2 3 2.2 3.2 3 2.2 3 2.2 3.2 3 2.2 3.2 3.2 2 4.2 3 2.2 3 2.2 3 2.2 3 2.2 3 2.2 3.2 3 2.2 3 2.2 3 2.2 3 2.2 3.2 2 4 2.2 3 2.2 3 2.2|sts_ 4 17 16 16 47 88 67 87 78 94 73 85 87 34 86 81|tree_ 19 16 16 47 88 67 87 78 94 73 85 87 32 88 81 24"
set_option genSizeOf true
set_option genInjectivity true
open_shared sh for PySem.Challenge.pw_widewords_k29_whole_one_telling leaving 0
namespace hh
open PySem PySem.W PySem.Calls PyProof.Rows
noncomputable abbrev p:=PySem.Challenge.pw_widewords_k29_whole_one_telling
abbrev z:Pos:=⟨0,0,0,0⟩
abbrev an:Option Value:=some (.ref 6)
noncomputable abbrev bE:=behindTheImports p
noncomputable abbrev cE:Code:=.body bE sh.env_1
noncomputable abbrev H1(P:Params):Heap:=absHeap (sh.tree_982 P) 941 {}
noncomputable abbrev S0(w:World)(os:OsState):Shared:=⟨boot_heap w.params,⟨[]⟩,boot_drawn,boot_toks,os⟩
noncomputable abbrev Sb(w:World)(os:OsState):Shared:=SharedT.abs ⟨sh.tree_4 w.params,15,{},⟨[]⟩,{},187,os⟩
noncomputable abbrev Sk(w:World)(os:OsState):Shared:=SharedT.abs ⟨sh.tree_982 w.params,941,{},⟨[]⟩,{},1551,os⟩
theorem pre(w os):topGo treeTable p w 11 an 12 (S0 w os) (topStub p)=some (Sb w os,⟨denote treeTable cE,cE,z,[topFrame z]⟩):=by kernel_rfl
theorem blk(w os):segRun treeTable p w 11 an 1 1 (Sb w os) (blockOf bE sh.env_1 cE z [topFrame z])=some (.next,Sb w os,cE,z):=by kernel_rfl
theorem fin(w os):topRun treeTable p w 11 an 2 (Sk w os) (restOf [] sh.env_1 cE ⟨610,0,625,42⟩ [topFrame z])=some (Sk w os):=by kernel_rfl
theorem bod:bE=sh.sts_4++(sh.sts_21++(sh.sts_37++(sh.sts_53++(sh.sts_100++(sh.sts_188++(sh.sts_255++(sh.sts_342++(sh.sts_420++(sh.sts_514++(sh.sts_587++(sh.sts_672++(sh.sts_759++(sh.sts_793++(sh.sts_879++(sh.sts_960++[]))))))))))))))):=by kernel_rfl
theorem run(w os):topRun treeTable p w 11 an (12+(1+(196+(214+(214+(400+(391+(374+(389+(375+(400+(381+(387+(398+(391+(389+(383+(111+2)))))))))))))))))) (S0 w os) (topStub p)=some (Sk w os):=by
 refine go_top (pre w os) (piece_block (blk w os) ?_)
 have h:=sh.chain p bE w os [] 2 (Sk w os) (fin w os)
 rw[<-bod] at h
 exact h
noncomputable def q:Program:=view p [167]
noncomputable abbrev lo:List Str:=p.boundNames
theorem look(w:World):(fun os=>((staticsOk (importedModules p.main.body) (boot_heap w.params) (H1 w.params) && namesBound p (H1 w.params) && gensDone (Sk w os) && laidKept (boot_heap w.params) (H1 w.params)),openSeen q lo (importedModules p.main.body) (fun _=>true) true (Sk w os),(Sk w os).heap))=fun _=>(true,openGood q lo,H1 w.params):=by kernel_rfl
theorem left:LeftO p q lo (fun _=>true) Shared.heap (fun w=>H1 w.params) 10880:=.of_pieces (boot_open (by kernel_rfl) (by kernel_rfl) fun s=>by kernel_rfl) (fun w=>by kernel_rfl) run (by kernel_rfl) look
theorem inA{t:BT}{n:Nat}{f:Life}{K:Frag}(h1:K.all (fun x=>Nat.blt x.1 n)=true)(h2:K.map (fun x=>t.get x.1)=K.map fun x=>some x.2)(h3:K.map (fun x=>alive x.2)=K.map fun x=>some x.2):K.In (absHeap t n f):=by
 intro a o e
 induction K with
 | nil=>cases e
 | cons x r ih=>
  obtain ⟨b,y⟩:=x
  simp only[List.map_cons,List.cons.injEq,List.all_cons,Bool.and_eq_true] at h1 h2 h3
  by_cases hb:(a==b)=true
  · rw[List.lookup_cons,hb] at e
    cases e
    have:=beq_iff_eq.mp hb
    subst this
    rw[abs_get (Nat.le_of_ble_eq_true h1.1) h2.1]
    exact h3.1
  · rw[List.lookup_cons,eq_false_of_ne_true hb] at e
    exact ih h1.2 h2.2 h3.2 e
local macro_rules
 | `(panic! $s:str)=>do
  let mut v:=#[]
  let mut p:=0
  let mut q:=0
  for r in s.getString.splitOn " " do
   if let g::l::m:=(r.splitOn ",").map String.toNat! then
    let i:=m.headD (q+g)
    p:=p+g
    for j in [0:l] do v:=v.push (p+j,if i==0 then .str `PySem.W s!"boot_o_{p+j}" else .str `sh s!"o_{i+j}")
    p:=p+l
    q:=i+l
  let mut a ← `(List.nil)
  for (x,o) in v.reverse do a ← `(List.cons (nat_lit $(Lean.Syntax.mkNumLit (toString x)),$(Lean.mkIdent o) P) $a)
  `(fun P=>$a)
noncomputable def KK:Params->Frag:=panic! "2,1,0 0,1,960 11,1,7 6,2 0,1,55 0,1,17 2,1,24 6,3 2,1,40 6,3 2,1,56 6,3 2,18 1,2 1,3 1,2 1,2 0,1,102 2,3 1,2 1,4 1,2 1,4 1,2 1,4 1,2 1,3 1,2 1,3 1,2 1,3 1,2 1,3 1,2 1,3 1,2 1,3 1,2 1,3 1,2 1,2 0,7,190 1,2 1,3 1,2 1,3 1,2 1,3 1,2 1,9 1,2 1,3 1,2 1,3 1,2 1,5 0,1,257 1,2 1,3 1,2 1,3 1,2 1,3 1,2 1,3 1,2 1,3 1,2 1,3 1,2 1,3 1,2 1,3 1,2 1,3 1,2 1,3 1,2 1,3 1,2 1,2 0,1,344 1,2 1,3 1,2 1,3 1,2 1,3 1,2 1,15 1,2 1,3 1,2 1,3 1,2 1,3 1,2 1,3 1,2 1,2 0,1,422 1,2 1,3 1,2 1,3 1,2 1,3 1,2 1,3 1,2 1,3 1,2 1,3 1,2 1,3 1,2 1,3 1,2 1,3 1,2 1,3 1,2 1,3 1,2 1,3 1,2 1,2 0,1,516 1,2 1,3 1,2 1,10 1,2 1,3 1,2 1,3 1,2 1,3 1,2 1,3 1,2 1,3 1,2 1,3 1,2 1,2 0,1,589 1,2 1,3 1,2 1,3 2,3 1,2 1,3 1,2 1,3 1,2 1,3 1,2 1,3 1,2 1,3 1,2 1,3 1,2 1,3 1,2 1,3 1,2 1,2 0,1,674 1,2 1,3 1,2 1,3 1,2 1,3 1,2 1,3 1,2 1,3 1,2 1,3 1,2 1,3 1,2 1,3 1,2 1,3 1,2 1,3 1,2 1,3 1,2 1,2 0,1,761 1,2 1,4 1,2 1,3 1,2 1,3 1,2 1,2 0,1,795 1,2 1,3 1,2 1,3 1,2 1,3 1,2 1,3 1,2 1,3 1,2 1,3 2,3 1,2 1,3 1,2 1,3 2,3 1,2 1,3 2,3 2,2 0,1,881 2,3 1,2 1,3 1,2 1,3 1,2 1,3 1,2 1,3 1,2 1,3 2,3 1,2 1,3 1,2 1,3 1,2 1,3 1,2 1,3 2,2 0,1,962 1,2 1,3 1,2 1,3 1,2 1,2"
theorem inK(w:World):InK KK w (H1 w.params):=inA (K:=KK w.params) (by kernel_rfl) (by kernel_rfl) (by kernel_rfl)
theorem hd{d:DefRec}{k:List (Str×Expr)}(a:defOf q "law"=some (d,k))(b:p.theDef "law"=some (d.params,d.body,d.scope))(c:kwWritten? d.params.kwonlyargs d.params.kw_defaults=some k)(h:WalkO q lo (fun _ _=>True) (InK KK) PySem.Challenge.rw_widewords_k29_whole_one_telling.row.toRowW d k fun f vs=>PySem.call f vs):PySem.Challenge.rw_widewords_k29_whole_one_telling.Holds:=by
 w_on;o_law
 refine holds_open left (YP:=InK KK) (XP:=fun _ _=>True) (fun w s e=>e ▸ inK w) InK.keeps (fun _ _=>trivial) (fun _ _ _ _ _=>trivial) a b c (fun s _=>recFacts_nil rfl) (by rfl) (by assumption) (by decide +kernel) ⟨rfl,rfl,rfl,rfl,rfl,by decide +kernel⟩ ?hw h
 w_witness2
end hh
local macro_rules|`(⋯)=>`((by decide))
local macro_rules|`(∅)=>`((by lia))
set_option compiler.extract_closed false
set_option bootstrap.genMatcherCode false
set_option genSizeOf false
local macro_rules | `(tactic| ac_rfl)=>`(tactic| with_unfolding_all rfl)
open Option renaming some->AA,none->AD,isSome_iff_exists->Ap,getD_some->B1,bind_some->B3,any_eq_true_iff_get->Cq,map_some->Dm,join_some->Eh,get_some->FC,getD_none->GX,bind_none->G0
open Bool renaming true->AB,false->AC,and_eq_true->AI,false_eq_true->A5,false_ne_true->BD,and_eq_true_iff->B9,and_self->Bs,not_eq_true'->CY,or_eq_true->Cd,eq_iff_iff->DE,true_or->Et,false_or->Ff,true_and->Fg,false_and->Gd,or_false->Gr,not_true->Gx
open List renaming getElem?_cons_succ->AE,getElem?_cons_zero->AF,length_cons->AL,map_cons->AM,length_nil->AN,set_cons_zero->AQ,set_cons_succ->AR,replicate->AS,cons_append->AT,size_toArray->AV,nil_append->AW,mem_of_getElem?->A3,mem_cons_of_mem->A7,map_nil->A9,getElem?_set_ne->Ah,getElem?_set_self->Ai,mem_cons_self->Ao,length_append->Av,getElem?_append_left->Ay,mem_cons->BB,getElem?_append_right->BE,all_eq_true->BF,getElem?_eq_some_iff->BM,length_map->BN,mem_append_right->BO,any_cons->BV,append_assoc->BZ,all_cons->B0,getElem?_eq_none->B4,length_set->Ba,lookup_cons->Bd,getElem?_map->Bu,find?_cons->Bw,set_set->CD,range->CK,append_nil->CU,filterMap_cons->C1,length->C7,getElem?_set->Ci,getElem?_eq_getElem->DA,mem_append->DC,foldl_cons->DD,reverse_cons->DN,filterMap->DO,mem_iff_getElem?->DW,length_take->DX,any_eq_true->DZ,isEmpty_iff->D0,countP_cons->D1,not_mem_nil->D2,eq_nil_of_length_eq_zero->Da,nodup_cons->Di,of_mem_zip->Dj,mem_filterMap->Dw,zip_cons_cons->ED,drop_eq_getElem_cons->EN,pairwise_iff_getElem->EO,ext_getElem?->EU,getElem?_replicate->Ed,length_drop->Ee,isEmpty_nil->Eg,range_succ_eq_map->Ew,mem_filter->Ez,contains_iff_mem->FI,mem_append_left->FK,getElem_toArray->FU,length_pos_iff->F7,isEmpty_cons->GO,flatMap_cons->GS,take_length->GY,drop_length->GZ,lookup->G2,mem_range->Ga,set_comm->Gq,sum_cons->Gy,any_map->HJ
open PySem.W renaming Frag->AG,keepIn->Ax,findIn->BI,nsIn->BS,kitOne->BX,fnOf->Bc,codeIn->CM,kia_one->Cf,hideAll->DB,isFn->DH,cellsFrom_some->DJ,methodObj->EQ,mg_of->E8,plainGet->Ec,OpenLaw->Ei,instObj->Ey,makesIn->FA,lookIn->FN,hideAll_get->F3,excIn->Fi,of_hideAll->Fp,codeRec_of->Ft,callWith_K->Fx,hasDictIn->GE,plainOver->GF,WalkO->G7,exmOne->Gm,subIn->Gu,mroIn->Gv,clsIn->Gw,Rel2->HG
open PySem renaming Value->AH,Addr->AJ,Shared->AK,wpAny_bind->AO,Expr->AZ,Str->A4,Program->Af,wpAny_pure->Ag,wpAny->Al,World->Aw,Around->BC,FuncData->BL,Heap->BU,wpAny_truthy_bool->B6,Env->B7,Scope->Bj,wpAny_newObj_type->Bn,Keyword->Bo,wpAny_Call_Name_kw->Br,Stmt->By,Obj->CA,wpAny_mono->CL,wpAny_passesOwn->CT,DictEntry->CV,Pos->CW,mem_of_lookup->C2,noFill_tuple_add->C3,wpAny_callSpecial?_slot->C4,wpAny_field->C8,wpAny_pyIter_tuple->Ca,call_meets->Ck,seq_tuple_add->Cy,sizeLine_eq->DG,NameKind->DI,wpAny_inplaceOp_concat->DQ,wpAny_call_entry->DY,wpAny_holding->D7,wpAny_execs_nil->Dh,wpAny_newFunctionEnv_cells->Dz,wpAny_pyIter_list->ES,wpAny_standAt->EZ,Operator->Ea,PassesOwn->Eb,wpAny_pyNext_range_end->Ek,wpAny_pyIter_rangeiter->El,BindsTo->Em,IsPart->En,codeAny_mono->Es,strKind_is->Ex,codeAny_call_function->FD,wpAny_loadName_local->FL,IsRangeIter->FM,wpAny_setField->FQ,wpAny_loadName_cell->F4,CmpOp->Fc,wpAny_pyIter_range->Fq,tupleKind_room_in1->Fw,concat_meets->GH,wpAny_sequenceKey->GI,wpAny_typeOf->GJ,slot_list_getitem->GL,wpAny_pyIter_enum->GN,Paired->GT,wpAny_execs_cons->GU,seqIndex_of->G1,wpAny_Name->Gb,wpAny_rule->Gc,typeIs_str->Gg,call->Gh,Result->HE,BoolOp->HI,Model->HR,Sem->Hf,Tok->Hk
open Nat renaming zero_add->AU,reduceAdd->AY,le_refl->A0,pow_le_pow_right->Ac,lt_of_lt_of_le->Ae,reduceSub->Ak,ne_of_lt->Az,reduceLeDiff->BG,mul_le_mul->BK,le_trans->B5,mul_comm->Cc,zero_le->Cm,lt_or_ge->Ct,mod_eq_of_lt->Cu,lt_irrefl->Cw,reduceEqDiff->D3,and_two_pow_sub_one_eq_mod->D4,div_lt_of_lt_mul->Db,pow_succ->Ds,mod_two_eq_zero_or_one->EH,and_lt_two_pow->EJ,xor_lt_two_pow->EK,mod_lt->EM,le_succ->ER,pow_add->EV,mul_left_comm->EW,mul_assoc->E9,le_of_lt->Ej,pow_pos->FV,mul_div_mul_left->FY,xor_mod_two_pow->F8,and_mod_two_pow->F9,and_div_two_pow->Fa,xor_div_two_pow->Fb,or_mod_two_pow->Fz,sub_zero->GP,or_lt_two_pow->GR,xor_self->HN,mul_add->Hb,add_mod->Hc,mul_pos->Hd
open Int renaming emod_eq_of_lt->AX,pow_pos->A1,pow_succ->Ab,mul_comm->Ad,emod_lt_of_pos->Aj,ediv_ediv_of_nonneg->Am,ediv_eq_zero_of_lt->Aq,emod_nonneg->As,ediv_lt_of_lt_mul->BA,mul_assoc->BH,emod_add_mul_ediv->BJ,one_mul->BQ,mul_le_mul_of_nonneg_right->BY,add_mul_emod_self_left->B8,ediv_nonneg->Bb,pow_mul->Bg,pow_zero->Bq,toNat_natCast->Bv,ediv_one->CC,add_mul_emod_self_right->CF,sub_mul->CG,zero_mul->CZ,mul_nonneg->C5,mul_one->C6,mul_le_mul_of_nonneg_left->C9,le_ediv_of_mul_le->Ch,add_mul->Cp,add_zero->DR,zero_add->DS,le_of_lt->DU,natCast_emod->D5,mul_sub->De,mul_ediv_mul_of_pos_left->Dn,toNat_of_nonneg->Do,fdiv_eq_ediv_of_nonneg->Dx,add_emod_right->EL,pow_add->EX,add_mul_ediv_left->FJ,le_refl->FW,natAbs_mul->FX,add_assoc->Fh,lt_of_le_of_lt->GA,natCast_add->G6,mul_le_mul->Gn,reduceEq->HK,emod_one->HL,mul_emod->HM,mul_zero->HP,mul_add->HX,mul_pos->HY,neg_mul->HZ,mul_neg->Ha
open PySem.Str renaming ofString->A2,empty->GV,length->Gf
open PySem.Heap renaming get?_push_of_some->A6,lt_size->Aa,get?_push_size->Au,SameBut->Cr,get?_update_other->DL,get?_update_self->FE,size_push->Gi,MadeExcOf->Gj,FlyingW->HF
open Option.some renaming inj->A8,injEq->GQ
open PySem.Builtin renaming bitAnd->An,bitXor->Ar,bitOr->BR,bitNot->EI
open PyProof.Rows renaming slot_tuple_getitem->BP,callWith_type1->CB,AllBare->D6,assignInOrder_cons->Dv,subscriptTail_builtinR->Eo,tupleItemsOf_->F1,IntsAre->F2,entry_tuple_getitem->F5,args_tuple_getitem->Fu,assignInOrder_nil->GB,callWith_builtin1->GW,boot_isinstance->G5,IsTup->G9,Subscript_->Ge
open PySem.Value renaming ref->BW,none->CJ,bool->Cj,type->Fm,isStrOf->Gp,int->Gz,str->HA,isInt->HQ
open PySem.PyData renaming eqv->Be,canLay0->Co,depth->DP,eqvAll->D9,keyHash->EF,canLayAll0->ET,depthAll->FB
open Ne renaming symm->Bf
open PySem.F renaming args_tuple_add_2->Bi,entry_tuple_add->Bl,plainAttrs_list->Bm,slot_tuple_add->Bp,slot_tuple_iterator_next->CN,slot_dict_get->DV,args_tuple_iterator_next_1->Dl,entry_tuple_iterator_next->Dq,args_dict_get_3->Ef,entry_dict_get->Eu,slot_list_append->FF,slot_list_extend->FG,slot_list_insert->FH,slot_list_clear->FP,slot_list_count->FR,slot_list_index->FT
open False renaming elim->Bk
open PySem.Builtin.Range renaming rangeSize->Bt,rangeFitsLong->G8,small->He
open Array renaming length_toList->Bz,append_assoc->Dt,getElem?_eq_some_iff->EC,toList->HD
open PySem.Heap.FunFrames renaming mem->CO
open PySem.Challenge renaming rw_widewords_k29_whole_one_telling->CP,pw_widewords_k29_whole_one_telling->EG
open PySem.Builtin.Slice renaming slicePlaces->CQ,sliceAdjust->Cv,sliceApplied->EA,slicePartIndex->G3,sliceFields->Go
open PySem.Builtin.SmallTypes renaming nextOf->CS
open PySem.Builtin.Tuple renaming tupleExact->C0,tupleItemsOf->EB
open True renaming intro->Cb
open PySem.NameKind renaming free->Cg,cell->Fd
open PySem.Value.type renaming inj->Cn
open PySem.Builtin.List renaming listTooLong->Cz,listFitsIndex->Gk
open PySem.Builtin.Str renaming occurrences->DF,strSliceIndices->Dr
open PySem.Calls renaming callWith_builtin->DM,Name_function_global->Du,spliced_cons->Dy,evalArgs_plain->FO,spliced_nil->GG
open Eq renaming refl->D8
open Sum renaming inr->Dp,inl->FZ
open PySem.Paired renaming length->EY,snoc->HW
open PySem.Obj renaming mapSeq->Ep,data_mapFields->Fv
open PyProof.Rows.IsTup renaming new->F0
open PySem.Heap.SameBut renaming update->F6
open PyProof.Rows.LSm renaming kept_iter->Fe
open PySem.SeqAt.EqAt renaming int_str->Fj,str_int->Fk
open PySem.ScopeKind renaming function->Fy
open PySem.WalksT renaming enumerateD->GM
open ForInStep renaming yield->G4
open PySem.Heap.UpToSlots renaming of_keeps->HB
open And renaming intro->HC
open PySem.SeqAt renaming shaped->HH,EqAt->Hh
open PySem.Data renaming fields->HS
open PySem.Walks renaming range->HU,list->Hj
open PySem.IsRange renaming new->HV
open PySem.Heap.IsSliceOf renaming new->Hg
open PySem.W.WShape renaming has->Hi
open List.Pairwise renaming nil->Hl
open PySem.W.WData renaming int->Hm
noncomputable section
open Lean in
def cnvP:Nat->Syntax->MacroM (TSyntax `rcasesPat)
 |0,_=>Macro.throwUnsupported
 |n+1,s=>do
  if s.isOfKind ``Lean.Parser.Term.anonymousCtor then `(rcasesPat| ⟨$[$(← s[1].getSepArgs.mapM (cnvP n)):rcasesPat],*⟩)
  else if s.isIdent then `(rcasesPat| $(⟨s⟩):ident)
  else if s.isOfKind ``Lean.Parser.Term.hole then `(rcasesPat| _)
  else Macro.throwUnsupported
local macro_rules | `(tactic| let $p:term := $e)=>do `(tactic| obtain $(← cnvP 9 p):rcasesPat := $e)
local macro_rules | `(tactic| erw [$rs,*] $(l)?)=>do
 let t<-rs.getElems.mapM λ|`(Lean.Parser.Tactic.rwRule| $t:term)=>`(Lean.Parser.Tactic.simpLemma| $t:term)|_=>Lean.Macro.throwUnsupported
 `(tactic| simp only[$t,*] $(l)?)
local macro_rules | `(fun $bs* => $b)=>do
 if !(bs.any λx=>x.raw.isOfKind ``Lean.Parser.Term.anonymousCtor)||(b.raw.find? λx=>x.isOfKind ``Lean.Parser.Term.syntheticHole).isSome then Lean.Macro.throwUnsupported
 `(by rintro $[$(← bs.mapM λx=>cnvP 9 x.raw):rcasesPat]*;exact $b)
set_option backward.eqns.nonrecursive false
local macro_rules (kind:=Lean.Parser.Command.declaration)
 |s=>do
  let k:=s[1].getKind
  unless (k==``Lean.Parser.Command.definition||k==``Lean.Parser.Command.abbrev)&&s[0].getArgs.all (·.isNone) do Lean.Macro.throwUnsupported
  if k==``Lean.Parser.Command.definition&&(toString s[1][1][0].getId).startsWith "z" then
   let m←`(theorem x:True:=trivial)
   return s.setArg 1 (((m.raw[1].setArg 1 s[1][1]).setArg 2 (Lean.mkNode ``Lean.Parser.Command.declSig #[s[1][2][0],s[1][2][1][0]])).setArg 3 s[1][3])
  let m←`(noncomputable def x:=0)
  return s.setArg 0 m.raw[0]
namespace L2
open PySem PySem.Spec PyProof.Rows
abbrev Key:=Sum Int A4
def ybT:Key->AH->Bool
 |.inl k,v=>HQ k v
 |.inr x,v=>Gp x v
def yfU(w:Aw):Key->Int
 |.inl k=>hashInt k
 |.inr x=>hashStr w x
def zw:∀{k:Key} {v:AH},ybT k v=AB->(∃i t,k=FZ i/\v=Gz i t) \/ (∃x t,k=Dp x/\v=HA x t)
 |.inl i,v,h=>by
  let⟨t,e⟩:=Value.isInt_shape (k:=i) (v:=v) h;exact .inl ⟨i,t,rfl,e⟩
 |.inr x,v,h=>by
  let⟨t,e⟩:=Value.isStrOf_shape (x:=x) (v:=v) h;exact .inr ⟨x,t,rfl,e⟩
def zia(i:Int)(t:Hk):ybT (.inl i) (.int i t)=true:=by simp[ybT,HQ]
def zji(x:A4)(t:Hk):ybT (.inr x) (.str x t)=true:=by simp[ybT,Gp]
def zoo(a b:Int):decide ((FZ a:Key)=FZ b)=(a==b):=by
 by_cases e:a=b
 .subst e;simp
 .have h:¬(FZ a:Key)=FZ b:=λq=>e (Sum.inl.inj q);rw[decide_eq_false h];exact(beq_eq_false_iff_ne.mpr e).symm
def zn7(a b:A4):decide ((Dp a:Key)=Dp b)=decide (a=b):=by
 by_cases e:a=b
 .subst e;simp
 .have h:¬(Dp a:Key)=Dp b:=λq=>e (Sum.inr.inj q);rw[decide_eq_false h,decide_eq_false e]
def zpu(a:Int)(b:A4):decide ((FZ a:Key)=Dp b)=false:=decide_eq_false (λq=>nomatch q)
def zpW(a:A4)(b:Int):decide ((Dp a:Key)=FZ b)=false:=decide_eq_false (λq=>nomatch q)
def yO(prog:Af)(w:Aw):PySem.KeyKind prog w Key where
 is:=ybT
 hash:=yfU w
 inj:=λv a b ha hb=>by
  rcases zw ha with⟨i,t,rfl,rfl⟩|⟨x,t,rfl,rfl⟩
  .rcases zw hb with⟨j,u,rfl,e⟩|⟨y,u,rfl,e⟩
   .injection e with e1 _;rw[e1]
   .exact nomatch e
  .rcases zw hb with⟨j,u,rfl,e⟩|⟨y,u,rfl,e⟩
   .exact nomatch e
   .injection e with e1 _;rw[e1]
 byValue:=λk v h=>by
  rcases zw h with⟨i,t,rfl,rfl⟩|⟨x,t,rfl,rfl⟩<;>rfl
 pyHash:=λhv h=>by
  rcases zw hv with⟨i,t,rfl,rfl⟩|⟨x,t,rfl,rfl⟩
  .exact wpAny_pyHash_int h
  .exact wpAny_pyHash_str h
 eqBool:=λhu hv h=>by
  rcases zw hu with⟨i,t,rfl,rfl⟩|⟨x,t,rfl,rfl⟩
  .rcases zw hv with⟨j,u,rfl,rfl⟩|⟨y,u,rfl,rfl⟩
   .rw[zoo]at h;exact wpAny_eqBool_int h
   .rw[zpu]at h;exact Fj i t y u _ _ _ _ h
  .rcases zw hv with⟨j,u,rfl,rfl⟩|⟨y,u,rfl,rfl⟩
   .rw[zpW]at h;exact Fk x t j u _ _ _ _ h
   .rw[zn7]at h;exact wpAny_eqBool_str h
 «strs»:=λk x t v h=>by
  rcases zw h with⟨i,u,rfl,e⟩|⟨y,u,rfl,e⟩
  .exact nomatch e
  .injection e with e1 _;subst e1
   cases v<;>rfl
def zfJ(prog:Af)(w:Aw)(i:Int)(t:Hk):(yO prog w).is (.inl i) (.int i t)=true:=zia i t
def zfO(prog:Af)(w:Aw)(x:A4)(t:Hk):(yO prog w).is (.inr x) (.str x t)=true:=zji x t
inductive V where
 |non|bl (b:Bool)|int (i:Int)|str (x:A4)|byt (b:Array UInt8)|flt (b:UInt64)|ref (a:AJ)|ty (n:String)
 deriving DecidableEq
def RelV:V->AH->Prop
 |.non,u=>u=CJ
 |.bl b,u=>u=Cj b
 |.int i,u=>∃t,u=Gz i t
 |.str x,u=>∃t,u=HA x t
 |.byt b,u=>∃t,u=Value.bytes b t
 |.flt b,u=>∃t,u=Value.float b t
 |.ref a,u=>u=BW a
 |.ty n,u=>u=Fm n
abbrev Vals:List V->List AH->Prop:=GT RelV
theorem Vals.length{xs:List V}{us:List AH}(r:Vals xs us):xs.length=us.length:=EY r
theorem Vals.get:∀{xs:List V} {us:List AH} {i:Nat} {x:V},Vals xs us->xs[i]?=AA x->∃u,us[i]?=AA u/\RelV x u
 |_,_,_,_,.nil,e=>by simp at e
 |_,_,0,_,.cons r _,e=>by simp at e;subst e;exact⟨_,rfl,r⟩
 |_,_,i+1,x,.cons _ t,e=>by
  let⟨u,h1,h2⟩:=Vals.get (i:=i) (x:=x) t (by simpa using e);exact⟨u,by simpa using h1,h2⟩
theorem Vals.set{x:V}{u:AH}(r:RelV x u):∀{xs:List V} {us:List AH} (i:Nat),Vals xs us->Vals (xs.set i x) (us.set i u)
 |_,_,_,.nil=>.nil
 |_,_,0,.cons _ t=>.cons r t
 |_,_,i+1,.cons q t=>.cons q (Vals.set r i t)
theorem Vals.append:∀{xs ys:List V} {us ws:List AH},Vals xs us->Vals ys ws->Vals (xs++ys) (us++ws)
 |_,_,_,_,.nil,s=>s
 |_,_,_,_,.cons r t,s=>.cons r (Vals.append t s)
theorem Vals.take:∀{xs:List V} {us:List AH} (n:Nat),Vals xs us->Vals (xs.take n) (us.take n)
 |_,_,0,_=>.nil
 |_,_,_+1,.nil=>.nil
 |_,_,n+1,.cons r t=>.cons r (Vals.take n t)
theorem Vals.drop:∀{xs:List V} {us:List AH} (n:Nat),Vals xs us->Vals (xs.drop n) (us.drop n)
 |_,_,0,r=>r
 |_,_,_+1,.nil=>.nil
 |_,_,n+1,.cons _ t=>Vals.drop n t
def ybP:Option V->Option AH->Prop
 |some v,AA u=>RelV v u
 |none,AD=>True
 |_,_=>False
def KV{κ:Type}:List (κ×V)->List (κ×AH)->Prop:=GT λ(p:κ×V) (q:κ×AH)=>p.1=q.1/\RelV p.2 q.2
def kV:Key->V
 |.inl i=>.int i
 |.inr x=>.str x
inductive HO where
 |lst (xs:List V)
 |tup (xs:List V)
 |dK (kvs:List (Key×V))|dT (kvs:List (List Key×V))
 |set (S:Int->Bool) (n:Nat)
 |ins (C dx:AJ) (fs:List (A4×V))
 |own (x:AJ)
 |xd (fs:List (A4×V))
 |met (f x:AJ)
 |rng (lo hi:Int)
 |frz (o:CA) (u:HO)
 |tbl (ps:Array AH)
 |ext (φ:BU->Prop)
abbrev Hp:=AJ->Option HO
def upd(H:Hp)(a:AJ)(o:HO):Hp:=λb=>if b=a then AA o else H b
def zf{H:Hp}{a:AJ}{o:HO}:upd H a o a=AA o:=by unfold upd;rw[if_pos rfl]
def ze{H:Hp}{a b:AJ}{o:HO}(h:b≠a):upd H a o b=H b:=by unfold upd;rw[if_neg h]
def znE{H:Hp}{a:AJ}{o u:HO}:upd (upd H a o) a u=upd H a u:=by
 funext b;unfold upd;split<;>rfl
def zqD{H:Hp}{a b:AJ}{o u:HO}(h:H a=AA o)(h':H b=AA u)(d:o≠u):a≠b:=by
 intro e;subst e;rw[h]at h';exact d (A8 h')
def zg{H:Hp}{a b:AJ}{o:HO}(h:H a=AA o)(h':H b=AD):a≠b:=by
 intro e;subst e;rw[h]at h';cases h'
section
variable (P:Af)(w:Aw)
def yZ(H:Hp)(h:BU)(a:AJ):HO->Prop
 |.lst xs=>xs.length<=sizeLine/\∃(its:List AH) (n:Nat),Vals xs its/\h.get? a=AA {cls:=.type "list",data:=.seq its.toArray n}
 |.tup xs=>xs.length<=sizeLine/\∃its:List AH,Vals xs its/\G9 h a its.toArray
 |.dK kvs=>kvs.length<=sizeLine/\(a==sysModules)=AC/\∃vs,KV kvs vs/\h.DictOf (yO P w) a vs
 |.dT kvs=>kvs.length<=sizeLine/\(a==sysModules)=AC/\∃xs:List (List Key×AJ×AH),
   GT (λ(p:List Key×V) (q:List Key×AJ×AH)=>p.1=q.1/\H q.2.1=AA (.tup (p.1.map kV))/\RelV p.2 q.2.2) kvs xs /\
   ∃o es ep,h.get? a=AA o/\o.ExactDict/\o.data=.dict es ep/\es.toList=xs.map (entryOfKey (tupleKind (yO P w)))/\(xs.map (·.1)).Nodup
 |.set S n=>h.SetOf (intKind P w) a S n
 |.ins C dx fs=>H dx=AA (.own a)/\fs.length<=1000/\dx≠a/\h.get? a=AA (Ey C dx) /\
   ∃mA,h.Ns1 dx mA/\(∀f,ybP (fs.lookup f) (mA f))/\PySem.Within mA (fs.map (·.1))
 |.own _=>∃o,h.get? a=AA o
 |.xd fs=>∃mA,h.Ns1 a mA/\∀f,ybP (fs.lookup f) (mA f)
 |.rng lo hi=>∃t u v,h.get? a=AA {cls:=.type "range",data:=.fields #[.int lo t,.int hi u,.int 1 v]}
 |.frz o u=>h.get? a=AA o/\yZ H h a u
 |.tbl ps=>h.get? a=AA {cls:=.none,data:=.fields ps}
 |.met f x=>h.get? a=AA (EQ (.ref f) (.ref x))
 |.ext φ=>φ h/\(∃o,h.get? a=AA o)/\∀h1 h2:BU,φ h1->(∀o,h1.get? a=AA o->h2.get? a=AA o)->φ h2
def HOk(H:Hp)(h:BU):Prop:=∀a o,H a=AA o->yZ P w H h a o
end
section
variable {P:Af}{w:Aw}{H H':Hp}{h h':BU}{a:AJ}{o:HO}
theorem yZ.lt(x:yZ P w H h a o):a<h.objs.size:=by
 cases o with
 |lst xs=>let⟨_,_,_,_,e⟩:=x;exact Aa e
 |tup xs=>let⟨_,_,_,p⟩:=x;exact p.lt
 |dK kvs=>let⟨_,_,_,_,o,_,_,e,_⟩:=x;exact Aa e
 |dT kvs=>let⟨_,_,_,_,o,_,_,e,_⟩:=x;exact Aa e
 |set S n=>let⟨o,_,_,_,e,_⟩:=x;exact Aa e
 |ins C dx fs=>let⟨_,_,_,e,_⟩:=x;exact Aa e
 |own y=>let⟨_,e⟩:=x;exact Aa e
 |xd fs=>let⟨_,⟨_,_,_,e,_⟩,_⟩:=x;exact Aa e
 |rng lo hi=>let⟨_,_,_,e⟩:=x;exact Aa e
 |frz ob u=>let⟨e,_⟩:=x;exact Aa e
 |tbl ps=>exact Aa (show h.get? a=AA _ from x)
 |met f y=>exact Aa (show h.get? a=AA _ from x)
 |ext φ=>let⟨_,⟨_,e⟩,_⟩:=x;exact Aa e
theorem Paired.mapP{α β:Type}{F G:α->β->Prop}:∀{l₁:List α} {l₂:List β},GT F l₁ l₂->(∀a b,F a b->G a b)->GT G l₁ l₂
 |_,_,.nil,_=>.nil
 |_,_,.cons r t,f=>.cons (f _ _ r) (Paired.mapP t f)
theorem yZ.stay(x:yZ P w H h a o)(k:∀b u,(b=a \/ H b=AA (.own a))->h.get? b=AA u->h'.get? b=AA u)
  (ho:∀b,H b=AA (.own a)->H' b=AA (.own a)) (ht:∀b xs,H b=AA (.tup xs)->H' b=AA (.tup xs)):yZ P w H' h' a o:=by
 induction o with
 |lst xs=>let⟨z,its,n,r,e⟩:=x;exact⟨z,its,n,r,k _ _ (.inl rfl) e⟩
 |tup xs=>let⟨z,its,r,ob,e,c⟩:=x;exact⟨z,its,r,ob,k _ _ (.inl rfl) e,c⟩
 |dK kvs=>let⟨z,y,vs,r,ob,es,ep,e,c⟩:=x;exact⟨z,y,vs,r,ob,es,ep,k _ _ (.inl rfl) e,c⟩
 |dT kvs=>
  let⟨z,y,xs,r,ob,es,ep,e,c⟩:=x;exact⟨z,y,xs,Paired.mapP r λp q z=>⟨z.1,ht _ _ z.2.1,z.2.2⟩,ob,es,ep,k _ _ (.inl rfl) e,c⟩
 |set S n=>let⟨ob,es,ep,t,e,c⟩:=x;exact⟨ob,es,ep,t,k _ _ (.inl rfl) e,c⟩
 |ins C dx fs=>
  let⟨d,z,ne,e,mA,⟨od,es,ep,e2,c⟩,r⟩:=x;exact⟨ho _ d,z,ne,k _ _ (.inl rfl) e,mA,⟨od,es,ep,k _ _ (.inr d) e2,c⟩,r⟩
 |own y=>let⟨ob,e⟩:=x;exact⟨ob,k _ _ (.inl rfl) e⟩
 |xd fs=>let⟨mA,⟨od,es,ep,e,c⟩,r⟩:=x;exact⟨mA,⟨od,es,ep,k _ _ (.inl rfl) e,c⟩,r⟩
 |rng lo hi=>let⟨t,u,v,e⟩:=x;exact⟨t,u,v,k _ _ (.inl rfl) e⟩
 |frz ob u ih=>let⟨e,q⟩:=x;exact⟨k _ _ (.inl rfl) e,ih q⟩
 |tbl ps=>
  have e:h.get? a=AA {cls:=.none,data:=.fields ps}:=x;show h'.get? a=AA {cls:=.none,data:=.fields ps};exact k a _ (.inl rfl) e
 |met f y=>
  have e:h.get? a=AA (EQ (.ref f) (.ref y)):=x;show h'.get? a=AA (EQ (.ref f) (.ref y));exact k a _ (.inl rfl) e
 |ext φ=>let⟨p,⟨o,e⟩,st⟩:=x;exact⟨st _ _ p λo q=>k _ _ (.inl rfl) q,⟨o,k _ _ (.inl rfl) e⟩,st⟩
theorem HOk.lt(x:HOk P w H h)(e:H a=AA o):a<h.objs.size:=(x a o e).lt
theorem HOk.fresh(x:HOk P w H h)(e:h.objs.size<=a):H a=none:=by
 cases q:H a with
 |none=>rfl
 |some u=>exact absurd (Ae (x.lt q) e) (Cw _)
theorem HOk.kept(x:HOk P w H h)(k:∀b u,h.get? b=AA u->h'.get? b=AA u):HOk P w H h':=λa o e=>
 (x a o e).stay (λb u _ q=>k b u q) (λ_ q=>q) λ_ _ q=>q
theorem HOk.laid(x:HOk P w H h)(k:∀b u,h.get? b=AA u->h'.get? b=AA u)(hp:h.objs.size<=a)(new:yZ P w (upd H a o) h' a o):HOk P w (upd H a o) h':=λb u e=>by
 have hn:=x.fresh hp
 by_cases hb:b=a
 .subst hb;rw[zf]at e;cases e;exact new
 .rw[ze hb]at e;exact(x b u e).stay (λc v _ q=>k c v q) (λc q=>by rw[ze (zg q hn)];exact q) λc xs q=>by rw[ze (zg q hn)];exact q
end
def Rd(H:Hp)(a:AJ)(u:HO):Prop:=H a=AA u \/ ∃o,H a=AA (.frz o u)
theorem Rd.of{H:Hp}{a:AJ}{u:HO}(h:H a=AA u):Rd H a u:=.inl h
theorem Rd.ok{P:Af}{w:Aw}{H:Hp}{h:BU}{a:AJ}{u:HO}(r:Rd H a u)(x:HOk P w H h):yZ P w H h a u:=by
 rcases r with r|⟨o,r⟩
 .exact x a u r
 .let⟨_,q⟩:=x a _ r;exact q
def Mut:Option HO->Prop
 |some (.lst _)=>True
 |some (.dK _)=>True
 |some (.dT _)=>True
 |some (.set _ _)=>True
 |some (.ins _ _ _)=>True
 |some (.ext _)=>True
 |_=>False
section
variable {P:Af}{w:Aw}{H:Hp}{h h':BU}{x e:AJ}{o':HO}
theorem HOk.write(ok:HOk P w H h)(mu:Mut (H x))(he:e=x \/ H e=AA (.own x))(k:∀b u,b≠e->h.get? b=AA u->h'.get? b=AA u)(heo:∃u,h'.get? e=AA u)
  (new:yZ P w (upd H x o') h' x o'):HOk P w (upd H x o') h':=λb u q=>by
 have nown:∀c y,H c=AA (.own y)->c≠x:=λc y r z=>by subst z;rw[r]at mu;exact mu
 have ntup:∀c xs,H c=AA (.tup xs)->c≠x:=λc xs r z=>by subst z;rw[r]at mu;exact mu
 by_cases hb:b=x
 .subst hb;rw[zf]at q;cases q;exact new
 .rw[ze hb]at q
  by_cases hbe:b=e
  .have q':H b=AA (.own x):=by
    rcases he with z|z
    .exact absurd (hbe.trans z) hb
    .rw[hbe];exact z
   rw[q]at q';cases q';let⟨v,hv⟩:=heo;exact⟨v,by rw[hbe];exact hv⟩
  .refine(ok b u q).stay (λc v hc r=>k c v ?_ r) (λc r=>by rw[ze (nown c b r)];exact r) λc xs r=>by rw[ze (ntup c xs r)];exact r
   rcases hc with rfl|hc
   .exact hbe
   .rintro rfl
    rcases he with z|z
    .exact nown c b hc z
    .rw[hc]at z;cases z;exact hb rfl
end
structure Un(fs ex:List AJ)(H H':Hp)(h h':BU):Prop where
 keep:∀b o,h.get? b=AA o->H b=AD->b∉fs->b∉ex->h'.get? b=AA o
 slot:∀b o,h.get? b=AA o->H b=AD->b∈fs->b∉ex->∃sl,h'.get? b=AA {o with slots:=sl}
 free:∀b o,h.get? b=AA o->H b=AD->b∉ex->H' b=AD
 there:∀b o,h.get? b=AA o->b∉ex->∃o',h'.get? b=AA o'
 tups:∀b xs,H b=AA (.tup xs)->H' b=AA (.tup xs)
 frzs:∀b o u,H b=AA (.frz o u)->H' b=AA (.frz o u)
 tbls:∀b ps,H b=AA (.tbl ps)->∃more,H' b=AA (.tbl (ps++more))
section
variable {fs fs' ex ex':List AJ}{H H1 H2:Hp}{h h1 h2 h':BU}{a x e:AJ}{o:HO}
theorem Un.any(u:Un fs ex H H1 h h1){b:AJ}{ob:CA}(q:h.get? b=AA ob)(n:H b=AD)(hx:b∉ex):∃sl,h1.get? b=AA {ob with slots:=sl}:=by
 by_cases hb:b∈fs
 .exact u.slot b ob q n hb hx
 .exact⟨ob.slots,u.keep b ob q n hb hx⟩
theorem Un.kept(k:∀b u,h.get? b=AA u->h'.get? b=AA u):Un fs ex H H h h':=
 ⟨λb ob q _ _ _=>k b ob q,λb ob q _ _ _=>⟨ob.slots,k b ob q⟩,λ_ _ _ n _=>n,λb ob q _=>⟨ob,k b ob q⟩,λ_ _ q=>q,λ_ _ _ q=>q,λ_ ps q=>⟨#[],by rw[q];simp⟩⟩
theorem Un.refl:Un fs ex H H h h:=Un.kept λ_ _ q=>q
theorem Un.laid(k:∀b u,h.get? b=AA u->h'.get? b=AA u)(hp:h.objs.size<=a)(hn:H a=AD):Un fs ex H (upd H a o) h h' where
 keep:=λb u q _ _ _=>k b u q
 slot:=λb u q _ _ _=>⟨u.slots,k b u q⟩
 free:=λb u q n _=>by rw[ze (Az (Ae (Aa q) hp))];exact n
 there:=λb u q _=>⟨u,k b u q⟩
 tups:=λb xs q=>by rw[ze (zg q hn)];exact q
 frzs:=λb u xs q=>by rw[ze (zg q hn)];exact q
 tbls:=λb ps q=>⟨#[],by rw[ze (zg q hn),q];simp⟩
theorem Un.write(mu:Mut (H x))(he:e=x \/ H e=AA (.own x))(k:∀b u,b≠e->h.get? b=AA u->h'.get? b=AA u)(heo:∃u,h'.get? e=AA u):Un fs ex H (upd H x o) h h':=by
 have hx:∀b,H b=AD->b≠x:=λb n z=>by subst z;rw[n]at mu;exact mu
 have hb:∀b,H b=AD->b≠e:=λb n z=>by
  subst z;rcases he with r|r
  .exact hx b n r
  .rw[n]at r;cases r
 have hm:∀b u,H b=AA u->¬Mut (AA u)->b≠x:=λb u q nm z=>by subst z;rw[q]at mu;exact nm mu
 refine⟨λb u q n _ _=>k b u (hb b n) q,λb u q n _ _=>⟨u.slots,k b u (hb b n) q⟩,λb u q n _=>by rw[ze (hx b n)];exact n,λb u q _=>?_,
  λb xs q=>by rw[ze (hm b _ q λz=>z)];exact q,λb u xs q=>by rw[ze (hm b _ q λz=>z)];exact q,λb ps q=>⟨#[],by rw[ze (hm b _ q λz=>z),q];simp⟩⟩
 by_cases hbe:b=e
 .subst hbe;exact heo
 .exact⟨u,k b u hbe q⟩
end
def trk(h:BU)(H:Hp):List Addr:=(CK h.objs.size).filter λa=>(H a).isSome
def ycj(h:BU)(H:Hp):Heap:=DB h (trk h H)
def zjK(h:BU)(H:Hp):(ycj h H).objs.size=h.objs.size:=PySem.W.hideAll_size _ _
def zlk{h:BU}{H:Hp}{b:AJ}{o:CA}(e:h.get? b=AA o)(n:H b=AD):(ycj h H).get? b=AA o:=
 F3 _ e λhm=>by
  have q:(H b).isSome=true:=(Ez.mp hm).2;rw[n]at q;simp at q
def zmI{h:BU}{H:Hp}{b:AJ}{o:CA}(e:(ycj h H).get? b=AA o):h.get? b=AA o/\H b=none:=by
 have e':h.get? b=AA o:=Fp (trk h H) e;refine⟨e',?_⟩
 cases q:H b with
 |none=>rfl
 |some x=>
  have hm:b∈trk h H:=Ez.mpr ⟨Ga.mpr (Aa e'),by simp[q]⟩;have z:(ycj h H).get? b=none:=PySem.W.hideAll_none (trk h H) hm;rw[z]at e;cases e
structure Mod(K:AG)(mg:A4->Option AH)(base:BU):Prop where
 kin:K.In base
 glob:base.Ns mainGlobals mg
 blt:∃mb,base.Ns builtinsNs mb/\∀x:A4,x ≠ "__name__"->mb x=bootBuiltins x
 nolimit:base.NoLimit
structure Cx where
 prog:Af
 w:Aw
 K:AG
 mg:A4->Option AH
 base:BU
 A:BC
 N:List A4
 s₀:AK
 H₀:Hp
 env:Env
 outer:List Env
 stack:List Env
 ex:List AJ
 fn:A4->Bool
 calm:Bool
 pn:List (AJ×CA)
 xe:AH->AK->Prop
def frs(l:List Env):List Addr:=l.filterMap (·.frame)
abbrev Cx.fs(X:Cx):List Addr:=frs X.outer
def Vis(sc:Bj)(x:A4):Prop:=sc.names.lookup x=AA .local \/ sc.names.lookup x=AA .cell \/ sc.names.lookup x=AA .free
def Loc(sc:Bj)(x:A4):Prop:=sc.names.lookup x=AA .local \/ sc.names.lookup x=AA .cell
def Look(env:Env)(h:BU)(m:A4->Option AH)(x:A4)(u:AH):Prop:=
 (env.kindOf x=AA .local/\m x=AA u) \/ ((env.kindOf x=AA .cell \/ env.kindOf x=AA .free)/\∃c,env.cells.lookup x=AA c/\h.IsCell c (AA u))
structure Cx.Ok(X:Cx):Prop where
 mod:Mod X.K X.mg X.base
 kind:X.env.scope.kind=.function
 glob:X.env.globals=mainGlobals
 blt:X.env.builtins=builtinsNs
 above:X.s₀.heap.objs.size<=X.env.locals
 inj:∀x y c,X.env.cells.lookup x=AA c->X.env.cells.lookup y=AA c->x=y
 has:∀x,(X.env.kindOf x=AA .cell \/ X.env.kindOf x=AA .free)->∃c,X.env.cells.lookup x=AA c
 cab:∀x c,X.fn x=AB->X.env.cells.lookup x=AA c->X.s₀.heap.objs.size<=c
 hd:X.calm=AB->X.A.handled=AD
 frames:X.A.frames=AA X.stack
 stk:X.stack=X.outer \/ (X.stack=X.env::X.outer/\X.env.frame=AA X.env.locals)
 exf:∀b∈X.ex,b≠X.env.locals/\∀x c,X.env.cells.lookup x=AA c->c≠b
 bs:∀b o,X.base.get? b=AA o->X.s₀.heap.get? b=AA o/\X.H₀ b=AD
 bsz:X.base.objs.size<=X.s₀.heap.objs.size
 noex:∀b o,X.base.get? b=AA o->b∉X.ex
 exfs:∀b∈X.ex,b∉X.fs
 funs:X.s₀.heap.FunFrames X.base X.outer
 frf:∀b∈X.fs,X.H₀ b=AD
structure Inv(X:Cx)(π:List (AJ×CA))(σ:List (Option V))(H:Hp)(s:AK):Prop where
 ok:X.Ok
 os:s.os=X.s₀.os
 bare:D6 s.gens
 base:Un X.fs X.ex X.H₀ H X.s₀.heap s.heap
 loc:∃m,s.heap.Ns X.env.locals m/\∀(i:Nat) (x:A4) (v:V),X.N[i]?=AA x->σ[i]?=AA (AA v)->Vis X.env.scope x->∃u,RelV v u/\Look X.env s.heap m x u
 cell:∀x c,X.env.cells.lookup x=AA c->∃v,s.heap.IsCell c v
 free:H X.env.locals=AD
 freeC:∀x c,X.env.cells.lookup x=AA c->H c=AD
 pin:∀p∈X.pn++π,s.heap.get? p.1=AA p.2/\H p.1=AD/\p.1≠X.env.locals/\p.1∉X.fs/\∀v,p.2.data ≠ .cell v
 hok:HOk X.prog X.w H s.heap
 len:σ.length=X.N.length
section
variable {X:Cx}{π:List (AJ×CA)}{σ:List (Option V)}{H H':Hp}{s:AK}{h':BU}
theorem Cx.Ok.nofr(ok:X.Ok){b:AJ}{o:CA}(e:X.base.get? b=AA o):b∉X.fs:=λhb=>by
 have:=(ok.funs.mem hb).1;rw[e]at this;cases this
theorem Inv.bs(I:Inv X π σ H s):∀b o,X.base.get? b=AA o->s.heap.get? b=AA o/\H b=none:=λb o e=>
 ⟨I.base.keep b o (I.ok.bs b o e).1 (I.ok.bs b o e).2 (I.ok.nofr e) (I.ok.noex b o e),I.base.free b o (I.ok.bs b o e).1 (I.ok.bs b o e).2 (I.ok.noex b o e)⟩
theorem Inv.bk(I:Inv X π σ H s):∀b o,X.base.get? b=AA o->s.heap.get? b=AA o:=λb o e=>(I.bs b o e).1
theorem Inv.mod(I:Inv X π σ H s):Mod X.K X.mg X.base:=I.ok.mod
theorem Inv.kIn(I:Inv X π σ H s):X.K.In s.heap:=I.ok.mod.kin.keeps I.bk
theorem Inv.lt(I:Inv X π σ H s):X.env.locals<s.heap.objs.size:=let ⟨_,hn,_⟩:=I.loc;hn.lt
theorem Inv.sz(I:Inv X π σ H s):X.s₀.heap.objs.size<=s.heap.objs.size:=B5 I.ok.above (Ej I.lt)
theorem Inv.nofs(I:Inv X π σ H s){a:AJ}(h:s.heap.objs.size<=a):a∉X.fs:=λhb=>by
 let⟨_,o,ho,_⟩:=I.ok.funs.mem hb;exact absurd (Ae (Aa ho) (B5 I.sz h)) (Cw _)
theorem Inv.cne(I:Inv X π σ H s):∀x c,X.env.cells.lookup x=AA c->c≠X.env.locals:=λx c e z=>by
 let⟨v,o,ho,hd⟩:=I.cell x c e;let⟨m,⟨o',es,ep,ho',hd',_⟩,_⟩:=I.loc;rw[z,ho']at ho;cases ho;rw[hd']at hd;cases hd
theorem Inv.funs(I:Inv X π σ H s):s.heap.FunFrames X.base X.outer:=by
 have all:∀(l:List Env),(∀b∈frs l,b∈X.fs)->X.s₀.heap.FunFrames X.base l->s.heap.FunFrames X.base l:=by
  intro l
  induction l with
  |nil=>intro _ _;trivial
  |cons env r ih=>
   intro hs hl;let⟨hk,⟨L,o,hf,hn,ho,hd⟩,hr⟩:=hl;have hL:L∈X.fs:=hs L (by unfold frs;rw[C1,hf];exact Ao);let⟨sl,e⟩:=I.base.slot L o ho (I.ok.frf L hL) hL λz=>I.ok.exfs L z hL;exact⟨hk,⟨L,_,hf,hn,e,hd⟩,ih (λb hb=>hs b (by unfold frs;rw[C1,hf];exact A7 _ hb)) hr⟩
 exact all X.outer (λ_ hb=>hb) I.ok.funs
theorem Inv.stack(I:Inv X π σ H s):s.heap.FunFrames X.base X.stack:=by
 rcases I.ok.stk with e|⟨e,hf⟩
 .rw[e];exact I.funs
 .rw[e];let⟨m,hn,_⟩:=I.loc;refine .cons (by rw[I.ok.kind];decide) hf hn ?_ I.funs;exact Heap.get?_none_of_le (B5 I.ok.bsz I.ok.above)
theorem Inv.stkSub(I:Inv X π σ H s):∀b∈frs X.stack,b∈X.env.locals::X.fs:=λb hb=>by
 rcases I.ok.stk with e|⟨e,hf⟩
 .rw[e]at hb;exact A7 _ hb
 .rw[e]at hb;unfold frs at hb;rw[C1,hf]at hb;exact hb
theorem Inv.stkFree(I:Inv X π σ H s):∀b∈frs X.stack,H b=none:=λb hb=>by
 rcases BB.mp (I.stkSub b hb)with e|hb
 .rw[e];exact I.free
 .let⟨_,o,ho,_⟩:=I.ok.funs.mem hb;exact I.base.free b o ho (I.ok.frf b hb) λz=>I.ok.exfs b z hb
theorem Inv.step{g':Array GenState}{t':Nat}{d':Drawn}{ch:List AJ}(I:Inv X π σ H s)
  (hch:∀b∈ch,(b∈X.ex \/ X.s₀.heap.objs.size<=b)/\b≠X.env.locals/\(∀x c,X.env.cells.lookup x=AA c->c≠b)/\∀p∈X.pn++π,p.1≠b)
  (keep:∀b o,b≠X.env.locals->b∉X.fs->b∉ch->s.heap.get? b=AA o->H b=AD->h'.get? b=AA o)
  (slot:∀b o,b≠X.env.locals->b∈X.fs->b∉ch->s.heap.get? b=AA o->H b=AD->∃sl,h'.get? b=AA {o with slots:=sl}) (free:∀b o,b∉ch->s.heap.get? b=AA o->H b=AD->H' b=AD)
  (there:∀b o,b∉ch->s.heap.get? b=AA o->∃o',h'.get? b=AA o')
  (tups:∀b xs,H b=AA (.tup xs)->H' b=AA (.tup xs)) (frzs:∀b o u,H b=AA (.frz o u)->H' b=AA (.frz o u)) (tbls:∀b ps,H b=AA (.tbl ps)->∃more,H' b=AA (.tbl (ps++more)))
  (ns:∀m,s.heap.Ns X.env.locals m->h'.Ns X.env.locals m) (hok:HOk X.prog X.w H' h') (hg:D6 g'):
  Inv X π σ H' {s with heap:=h',gens:=g',drawn:=d',toks:=t'}:=by
 have neL:∀b o,X.s₀.heap.get? b=AA o->b≠X.env.locals:=λb o e=>Az (Ae (Aa e) I.ok.above);have neC:∀b o,X.s₀.heap.get? b=AA o->b∉X.ex->b∉ch:=λb o e hx hb=>by
  rcases (hch b hb).1 with z|z
  .exact hx z
  .exact absurd (Ae (Aa e) z) (Cw _)
 have cellK:∀x c,X.env.cells.lookup x=AA c->∀v,s.heap.IsCell c v->h'.IsCell c v:=λx c e v ⟨o,ho,hd⟩=>by
  have nch:c∉ch:=λz=>(hch c z).2.2.1 x c e rfl
  by_cases hc:c∈X.fs
  .let⟨sl,q⟩:=slot c o (I.cne x c e) hc nch ho (I.freeC x c e);exact⟨_,q,hd⟩
  .exact⟨o,keep c o (I.cne x c e) hc nch ho (I.freeC x c e),hd⟩
 refine⟨I.ok,I.os,hg,⟨λb o e n hb hx=>?_,λb o e n hb hx=>?_,λb o e n hx=>?_,λb o e hx=>?_,λb xs e=>tups b xs (I.base.tups b xs e),λb o xs e=>frzs b o xs (I.base.frzs b o xs e),λb ps e=>?_⟩,?_,λx c e=>?_,?_,λx c e=>?_,λp hp=>?_,hok,I.len⟩
 .exact keep b o (neL b o e) hb (neC b o e hx) (I.base.keep b o e n hb hx) (I.base.free b o e n hx)
 .let⟨sl,e1⟩:=I.base.slot b o e n hb hx;let⟨sl',e2⟩:=slot b _ (neL b o e) hb (neC b o e hx) e1 (I.base.free b o e n hx);exact⟨sl',e2⟩
 .let⟨o',e1⟩:=I.base.there b o e hx;exact free b o' (neC b o e hx) e1 (I.base.free b o e n hx)
 .let⟨o',e1⟩:=I.base.there b o e hx;exact there b o' (neC b o e hx) e1
 .let⟨m1,e1⟩:=I.base.tbls b ps e;let⟨m2,e2⟩:=tbls b _ e1;exact⟨m1++m2,by rw[e2,Dt]⟩
 .let⟨m,hn,hl⟩:=I.loc;refine⟨m,ns m hn,λi x v e1 e2 e3=>?_⟩;let⟨u,r,l⟩:=hl i x v e1 e2 e3;refine⟨u,r,?_⟩;rcases l with l|⟨k,c,e,z⟩
  .exact .inl l
  .exact .inr ⟨k,c,e,cellK x c e _ z⟩
 .let⟨v,z⟩:=I.cell x c e;exact⟨v,cellK x c e v z⟩
 .let⟨m,⟨o,_,_,ho,_⟩,_⟩:=I.loc;exact free _ o (λz=>(hch _ z).2.1 rfl) ho I.free
 .let⟨v,o,ho,hd⟩:=I.cell x c e;exact free c o (λz=>(hch c z).2.2.1 x c e rfl) ho (I.freeC x c e)
 .let⟨e,n,ne,nf,d⟩:=I.pin p hp;have nch:p.1∉ch:=λz=>(hch p.1 z).2.2.2 p hp rfl;exact⟨keep p.1 p.2 ne nf nch e n,free p.1 p.2 nch e n,ne,nf,d⟩
theorem Inv.un{t':Nat}(I:Inv X π σ H s)(u:Un X.fs [] H H' s.heap h')(hok:HOk X.prog X.w H' h'):Inv X π σ H' {s with heap:=h',toks:=t'}:=by
 let⟨m,⟨o,es,ep,ho,r⟩,_⟩:=id I.loc;let⟨sl,hL⟩:=u.any ho I.free (by simp);exact I.step (g':=s.gens) (d':=s.drawn) (ch:=[]) (λ_ z=>nomatch z) (λb o _ hb _ e n=>u.keep b o e n hb (by simp)) (λb o _ hb _ e n=>u.slot b o e n hb (by simp)) (λb o _ e n=>u.free b o e n (by simp)) (λb o _ e=>u.there b o e (by simp)) u.tups u.frzs u.tbls (λm' hm=>by
  let⟨o',es',ep',ho',r'⟩:=hm;rw[ho]at ho';cases ho';exact⟨_,es',ep',hL,r'⟩) hok I.bare
theorem Inv.call{g':Array GenState}{t':Nat}{d':Drawn}{ch:List AJ}(I:Inv X π σ H s)(u:Un (frs X.stack) ch H H' s.heap h')(hok:HOk X.prog X.w H' h')(hg:D6 g')
  (hch:∀b∈ch,(b∈X.ex \/ X.s₀.heap.objs.size<=b)/\b≠X.env.locals/\(∀x c,X.env.cells.lookup x=AA c->c≠b)/\∀p∈X.pn++π,p.1≠b):
  Inv X π σ H' {s with heap:=h',gens:=g',drawn:=d',toks:=t'}:=by
 let⟨m,⟨o,es,ep,ho,r⟩,_⟩:=id I.loc;let⟨sl,hL⟩:=u.any ho I.free λz=>(hch _ z).2.1 rfl;exact I.step (ch:=ch) hch (λb o hL hb hc e n=>u.keep b o e n (λz=>(BB.mp (I.stkSub b z)).elim hL hb) hc) (λb o _ _ hc e n=>u.any e n hc) (λb o hc e n=>u.free b o e n hc) (λb o hc e=>u.there b o e hc) u.tups u.frzs u.tbls (λm' hm=>by
  let⟨o',es',ep',ho',r'⟩:=hm;rw[ho]at ho';cases ho';exact⟨_,es',ep',hL,r'⟩) hok hg
theorem Inv.turned{t':Nat}{it:AJ}(I:Inv X π σ H s)(k:∀b o,b≠it->s.heap.get? b=AA o->h'.get? b=AA o)(hn:H it=AD)(hL:it≠X.env.locals)
  (h1:it∈X.ex \/ X.s₀.heap.objs.size<=it) (h2:∀x c,X.env.cells.lookup x=AA c->c≠it) (h3:∀p∈X.pn++π,p.1≠it):Inv X π σ H {s with heap:=h',toks:=t'}:=by
 have nit:∀b u,H b=AA u->b≠it:=λb u e z=>by rw[z,hn]at e;cases e
 refine I.step (g':=s.gens) (d':=s.drawn) (ch:=[it]) (λb hb=>?_) (λb o _ _ hc e _=>k b o (λz=>hc (by simp[z])) e) (λb o _ _ hc e _=>⟨o.slots,k b o (λz=>hc (by simp[z])) e⟩) (λ_ _ _ _ n=>n)
  (λb o hc e=>⟨o,k b o (λz=>hc (by simp[z])) e⟩) (λ_ _ e=>e) (λ_ _ _ e=>e) (λb ps e=>⟨#[],by rw[e];simp⟩) (λm hm=>?_) (λb u e=>?_) I.bare
 .have e:b=it:=by simpa using hb
  subst e;exact⟨h1,hL,h2,h3⟩
 .let⟨o,es,ep,ho,r⟩:=hm;exact⟨o,es,ep,k _ o (Bf hL) ho,r⟩
 .refine(I.hok b u e).stay (λc v hc q=>k c v ?_ q) (λ_ q=>q) λ_ _ q=>q;rcases hc with z|z
  .rw[z];exact nit b u e
  .exact nit c _ z
theorem Inv.tok(I:Inv X π σ H s)(t:Nat):Inv X π σ H {s with toks:=t}:=I.un (h':=s.heap) (t':=t) Un.refl I.hok
theorem Inv.kept{t':Nat}(I:Inv X π σ H s)(k:∀b u,s.heap.get? b=AA u->h'.get? b=AA u):Inv X π σ H {s with heap:=h',toks:=t'}:=I.un (Un.kept k) (I.hok.kept k)
theorem Inv.laid{a:AJ}{o:HO}{t':Nat}(I:Inv X π σ H s)(k:∀b u,s.heap.get? b=AA u->h'.get? b=AA u)(hp:s.heap.objs.size<=a)(new:yZ X.prog X.w (upd H a o) h' a o):
  Inv X π σ (upd H a o) {s with heap:=h',toks:=t'}:=I.un (Un.laid k hp (I.hok.fresh hp)) (I.hok.laid k hp new)
theorem Inv.write{x e:AJ}{o:HO}{t':Nat}(I:Inv X π σ H s)(mu:Mut (H x))(he:e=x \/ H e=AA (.own x))(k:∀b u,b≠e->s.heap.get? b=AA u->h'.get? b=AA u)(heo:∃u,h'.get? e=AA u)
  (new:yZ X.prog X.w (upd H x o) h' x o):Inv X π σ (upd H x o) {s with heap:=h',toks:=t'}:=I.un (Un.write mu he k heo) (I.hok.write mu he k heo new)
theorem Inv.pins_of{pins':List (AJ×CA)}(I:Inv X π σ H s)(h:∀p∈pins',s.heap.get? p.1=AA p.2/\H p.1=AD/\p.1≠X.env.locals/\p.1∉X.fs/\∀v,p.2.data ≠ .cell v):Inv X pins' σ H s:=
 ⟨I.ok,I.os,I.bare,I.base,I.loc,I.cell,I.free,I.freeC,λp hp=>(DC.mp hp).elim (λz=>I.pin p (FK _ z)) (h p),I.hok,I.len⟩
def zgm{N:List A4}(hN:N.Nodup){i j:Nat}{x:A4}(a:N[i]?=AA x)(b:N[j]?=AA x):i=j:=by
 let⟨h1,e1⟩:=BM.mp a;let⟨h2,e2⟩:=BM.mp b;exact(List.getElem_inj hN).mp (e1.trans e2.symm)
def zjV{M:HR}{A:BC}{E:AH->AK->Prop}{i:Nat}{x:A4}{v:V}{u:AH}{Q:Unit->AK->Prop}(I:Inv X π σ H s)(hN:X.N.Nodup)(hi:X.N[i]?=AA x)(hx:Loc X.env.scope x)(r:RelV v u)
  (h:∀s',Inv X π (σ.set i (AA v)) H s'->(∃a,Cr a s.heap s'.heap/\(a=X.env.locals \/ X.env.cells.lookup x=AA a))->Q () s') (hf:X.fn x=AB \/ X.env.scope.names.lookup x=AA .local:=by first|exact .inl rfl|exact .inr rfl|assumption):Al M A (storeName X.env x u) Q E s:=by
 let⟨m,hn,hl⟩:=id I.loc;have hcls:(X.env.scope.kind==.class || (X.env.scope.kind==.module&&X.env.locals != X.env.globals))=false:=by rw[I.ok.kind];rfl
 have hiσ:i<σ.length:=by rw[I.len];exact(BM.mp hi).1
 have cne:=I.cne;have tracked:∀{a:AJ} {h':BU},(∃o,s.heap.get? a=AA o/\H a=AD)->Cr a s.heap h'->HOk X.prog X.w H h':=λ{a h'} ha hs b ob e=>by
  let⟨_,_,hfree⟩:=ha;refine(I.hok b ob e).stay (λc w' hc q=>(hs.2 c ?_).trans q) (λ_ q=>q) λ_ _ q=>q
  rintro rfl
  rcases hc with rfl|hc
  .rw[hfree]at e;cases e
  .rw[hfree]at hc;cases hc
 rcases hx with hk|hk
 .refine wpAny_storeName_local hk hn (λh' hn' hs=>?_) hcls;let⟨oL,_,_,hoL,_⟩:=id hn;refine h _ ⟨I.ok,I.os,I.bare,⟨λb o e n hb hx=>?_,λb o e n hb hx=>?_,I.base.free,λb o e hx=>?_,I.base.tups,I.base.frzs,I.base.tbls⟩,⟨_,hn',λj y v' e1 e2 e3=>?_⟩,λy c e=>?_,I.free,I.freeC,λp hp=>?_,tracked ⟨oL,hoL,I.free⟩ hs,by simpa using I.len⟩ ⟨_,hs,.inl rfl⟩
  .exact(hs.2 b (Az (Ae (Aa e) I.ok.above))).trans (I.base.keep b o e n hb hx)
  .let⟨sl,e1⟩:=I.base.slot b o e n hb hx;exact⟨sl,(hs.2 b (Az (Ae (Aa e) I.ok.above))).trans e1⟩
  .let⟨o',e1⟩:=I.base.there b o e hx;exact⟨o',(hs.2 b (Az (Ae (Aa e) I.ok.above))).trans e1⟩
  .by_cases hj:j=i
   .subst hj;rw[hi]at e1;cases e1;rw[Ai hiσ]at e2
    cases e2
    exact⟨u,r,.inl ⟨hk,by simp⟩⟩
   .rw[Ah (Bf hj)]at e2;let⟨u',r',q⟩:=hl j y v' e1 e2 e3;refine⟨u',r',?_⟩;rcases q with⟨k,e⟩|⟨k,c,e,z⟩
    .refine .inl ⟨k,?_⟩;have:y≠x:=λe=>hj (zgm hN e1 (e ▸ hi));simp[this,e]
    .exact .inr ⟨k,c,e,z.sameBut hs (cne y c e)⟩
  .let⟨w',z⟩:=I.cell y c e;exact⟨w',z.sameBut hs (cne y c e)⟩
  .let⟨e,n,ne,nf,d⟩:=I.pin p hp;exact⟨(hs.2 p.1 ne).trans e,n,ne,nf,d⟩
 .have hfn:X.fn x=true:=by
   rcases hf with z|z
   .exact z
   .rw[z]at hk;cases hk
  let⟨c,hc⟩:=I.ok.has x (.inl hk);let⟨w',z⟩:=I.cell x c hc;refine wpAny_storeName_cell I.ok.kind hk hc z (λh' hc' hs=>?_);let⟨oc,hoc,hocd⟩:=id z;refine h {s with heap:=h'} ⟨I.ok,I.os,I.bare,⟨λb o e n hb hx=>?_,λb o e n hb hx=>?_,I.base.free,λb o e hx=>?_,I.base.tups,I.base.frzs,I.base.tbls⟩,⟨m,hn.sameBut hs (Bf (cne x c hc)),λj y v' e1 e2 e3=>?_⟩,λy c' e=>?_,I.free,I.freeC,λp hp=>?_,tracked ⟨oc,hoc,I.freeC x c hc⟩ hs,by simpa using I.len⟩ ⟨c,hs,.inr hc⟩
  .exact(hs.2 b (Az (Ae (Aa e) (I.ok.cab x c hfn hc)))).trans (I.base.keep b o e n hb hx)
  .let⟨sl,e1⟩:=I.base.slot b o e n hb hx;exact⟨sl,(hs.2 b (Az (Ae (Aa e) (I.ok.cab x c hfn hc)))).trans e1⟩
  .let⟨o',e1⟩:=I.base.there b o e hx;exact⟨o',(hs.2 b (Az (Ae (Aa e) (I.ok.cab x c hfn hc)))).trans e1⟩
  .by_cases hj:j=i
   .subst hj;rw[hi]at e1;cases e1;rw[Ai hiσ]at e2
    cases e2
    exact⟨u,r,.inr ⟨.inl hk,c,hc,hc'⟩⟩
   .rw[Ah (Bf hj)]at e2;let⟨u',r',q⟩:=hl j y v' e1 e2 e3;refine⟨u',r',?_⟩;rcases q with q|⟨k,c',e,z'⟩
    .exact .inl q
    .refine .inr ⟨k,c',e,z'.sameBut hs ?_⟩
     rintro rfl
     exact hj (zgm hN e1 (I.ok.inj _ _ _ e hc ▸ hi))
  .by_cases hcc:c'=c
   .subst hcc;exact⟨_,hc'⟩
   .let⟨w2,z2⟩:=I.cell y c' e;exact⟨w2,z2.sameBut hs hcc⟩
  .let⟨e,n,ne,nf,d⟩:=I.pin p hp;refine⟨(hs.2 p.1 ?_).trans e,n,ne,nf,d⟩;intro q;rw[q,hoc]at e;have q':oc=p.2:=A8 e;exact d w' (by rw[<-q'];exact hocd)
def zbl{M:HR}{A:BC}{E:AH->AK->Prop}{i:Nat}{x:A4}{v:V}{u:AH}{Q:Unit->AK->Prop}(I:Inv X π σ H s)(hN:X.N.Nodup)(hi:X.N[i]?=AA x)(hx:Loc X.env.scope x)(r:RelV v u)
  (h:∀s',Inv X π (σ.set i (AA v)) H s'->Q () s') (hf:X.fn x=AB \/ X.env.scope.names.lookup x=AA .local:=by first|exact .inl rfl|exact .inr rfl|assumption):Al M A (storeName X.env x u) Q E s:=
 zjV I hN hi hx r (λs' I' _=>h s' I') hf
theorem Inv.call'{s':AK}{ch:List AJ}(I:Inv X π σ H s)(ho:s'.os=s.os)(u:Un (frs X.stack) ch H H' s.heap s'.heap)(hok:HOk X.prog X.w H' s'.heap)(hg:D6 s'.gens)
  (hch:∀b∈ch,(b∈X.ex \/ X.s₀.heap.objs.size<=b)/\b≠X.env.locals/\(∀x c,X.env.cells.lookup x=AA c->c≠b)/\∀p∈X.pn++π,p.1≠b):Inv X π σ H' s':=by
 let⟨h',g',d',t',o'⟩:=s';have e:o'=s.os:=ho;subst e;exact I.call (g':=g') (t':=t') (d':=d') u hok hg hch
end
abbrev XK:=AH->Option AJ->Hp->Prop
abbrev St:=List (Option V)
abbrev VK:=V->Hp->Prop
abbrev TE:=St->Hp->VK->Prop
abbrev TT:=St->Hp->(Bool->Hp->Prop)->Prop
abbrev TA:=St->Hp->(List V->Hp->Prop)->Prop
structure Ends where
 nx:St->Hp->Prop
 rt:VK
 bk:St->Hp->Prop:=λ_ _=>False
 ct:St->Hp->Prop:=λ_ _=>False
abbrev TS:=Ends->St->Hp->Prop
def EP(X:Cx)(π:List (AJ×CA))(σ:St)(Q:VK)(u:AH)(s':AK):Prop:=∃v H',Inv X π σ H' s'/\RelV v u/\Q v H'
def TP(X:Cx)(π:List (AJ×CA))(σ:St)(Q:Bool->Hp->Prop)(b:Bool)(s':AK):Prop:=∃H',Inv X π σ H' s'/\Q b H'
def AP(X:Cx)(π:List (AJ×CA))(σ:St)(Q:List V->Hp->Prop)(us:List AH)(s':AK):Prop:=∃vs H',Inv X π σ H' s'/\Vals vs us/\Q vs H'
def SP(X:Cx)(π:List (AJ×CA))(D:Ends)(f:Flow)(s':AK):Prop:=
 match f with
 |.next=>∃σ' H',Inv X π σ' H' s'/\D.nx σ' H'
 |.brk=>∃σ' H',Inv X π σ' H' s'/\D.bk σ' H'
 |.cont=>∃σ' H',Inv X π σ' H' s'/\D.ct σ' H'
 |.ret u=>∃v σ' H',Inv X π σ' H' s'/\RelV v u/\D.rt v H'
def PE(X:Cx)(e:AZ)(t:TE):Prop:=
 ∀(π:List (AJ×CA)) (s:AK) (σ:St) (H:Hp) (Q:VK),Inv X π σ H s->t σ H Q->Al (model X.prog X.w) X.A (eval e X.env) (EP X π σ Q) X.xe s
def PT(X:Cx)(e:AZ)(t:TT):Prop:=
 ∀(π:List (AJ×CA)) (s:AK) (σ:St) (H:Hp) (Q:Bool->Hp->Prop),Inv X π σ H s->t σ H Q->Al (model X.prog X.w) X.A (isTrue e X.env (eval e X.env)) (TP X π σ Q) X.xe s
def PW(X:Cx)(e:AZ)(t:TT):Prop:=
 ∀(whole:Hf AH) (π:List (AJ×CA)) (s:AK) (σ:St) (H:Hp) (Q:Bool->Hp->Prop),Inv X π σ H s->t σ H Q->Al (model X.prog X.w) X.A (isTrue e X.env whole) (TP X π σ Q) X.xe s
theorem PW.pt{X:Cx}{e:AZ}{t:TT}(h:PW X e t):PT X e t:=h _
def PA(X:Cx)(es:List AZ)(t:TA):Prop:=
 ∀(pos:CW) (π:List (AJ×CA)) (s:AK) (σ:St) (H:Hp) (Q:List V->Hp->Prop),Inv X π σ H s->t σ H Q->Al (model X.prog X.w) X.A (spliced (backTo pos (starEach es X.env))) (AP X π σ Q) X.xe s
def PS(X:Cx)(st:By)(t:TS):Prop:=
 ∀(π:List (AJ×CA)) (s:AK) (σ:St) (H:Hp) (D:Ends),Inv X π σ H s->t D σ H->Al (model X.prog X.w) X.A (exec st X.env) (SP X π D) X.xe s
def PSs(X:Cx)(st:List By)(t:TS):Prop:=
 ∀(π:List (AJ×CA)) (s:AK) (σ:St) (H:Hp) (D:Ends),Inv X π σ H s->t D σ H->Al (model X.prog X.w) X.A (execs st X.env) (SP X π D) X.xe s
theorem thn{α:Type}{t:Hf α}{Q Q':α->AK->Prop}{M:HR}{A:BC}{E:AH->AK->Prop}{s:AK}(h:Al M A t Q E s)(hQ:∀a s,Q a s->Q' a s):Al M A t Q' E s:=CL h hQ λ_ _ x=>x
section
variable {X:Cx}
theorem bin{a b:AZ}{ta tb:TE}(ha:PE X a ta)(hb:PE X b tb){π:List (AJ×CA)}{s:AK}{σ:St}{H:Hp}{R:V->V->Hp->Prop}(I:Inv X π σ H s)(h:ta σ H λx H1=>tb σ H1 λy H2=>R x y H2)
  {α:Type} {Q:α->AK->Prop} {f:AH->AH->Hf α}
  (hf:∀v u s2 x y H2,Inv X π σ H2 s2->RelV x v->RelV y u->R x y H2->Al (model X.prog X.w) X.A (f v u) Q X.xe s2):
  Al (model X.prog X.w) X.A (eval a X.env) (λv s₁=>Al (model X.prog X.w) X.A (eval b X.env) (λu s₂=>Al (model X.prog X.w) X.A (f v u) Q X.xe s₂) X.xe s₁) X.xe s:=by
 refine thn (ha π s σ H _ I h) λv s1 kq=>?_;let⟨x,H1,I1,r1,q1⟩:=kq;refine thn (hb π s1 σ H1 _ I1 q1) λu s2 kq=>?_;let⟨y,H2,I2,r2,q2⟩:=kq;exact hf v u s2 x y H2 I2 r1 r2 q2
def ygo(i:Nat):TE:=λσ H Q=>∃v,σ[i]?=AA (AA v)/\Q v H
def tC(v:V):TE:=λ_ H Q=>Q v H
def zl2{i:Nat}{x:A4}{pos:CW}(hN:X.N[i]?=AA x)(hv:Vis X.env.scope x)(hd:(x==("__debug__":A4))=false:=by decide)(hcd:(x==("__classdict__":A4))=false:=by decide):PE X (.Name x pos) (ygo i):=by
 intro π s σ H Q I h;let⟨v,e,h⟩:=h;let⟨m,hn,hl⟩:=I.loc;let⟨u,r,l⟩:=hl i x v hN e hv;have fin:EP X π σ Q u s:=⟨v,H,I,r,h⟩;rcases l with⟨hk,hm⟩|⟨hk,c,hc,hcell⟩
 .exact Gb (FL I.ok.kind hk hn hm fin) hd
 .rcases hk with hk|hk
  .exact Gb (F4 I.ok.kind hk hc hcell fin) hd
  .exact Gb (wpAny_loadName_free I.ok.kind hk hc hcell fin hcd) hd
def ziV{i j pos}:PE X (.Constant (.int i) j pos) (tC (.int i)):=λ_ _ _ H _ I h=>wpAny_Constant_int ⟨.int i,H,I.tok _,⟨_,rfl⟩,h⟩
def zpd{b j pos}:PE X (.Constant (.bool b) j pos) (tC (.bl b)):=λ_ _ _ H _ I h=>Constant_bool ⟨.bl b,H,I,rfl,h⟩
def zpl{j pos}:PE X (.Constant .none j pos) (tC .non):=λ_ _ _ H _ I h=>Constant_none ⟨.non,H,I,rfl,h⟩
def znO{x j pos}:PE X (.Constant (.str x) j pos) (tC (.str x)):=λ_ _ _ H _ I h=>Calls.Constant_str ⟨.str x,H,I.tok _,⟨_,rfl⟩,h⟩
def Gl(X:Cx)(x:A4):Prop:=X.env.kindOf x=AA .globalImplicit
def zdY{E:AH->AK->Prop}{π:List (AJ×CA)}{s:AK}{σ:St}{H:Hp}{x:A4}{u:AH}{pos:CW}{Q:AH->AK->Prop}(I:Inv X π σ H s)(hg:Gl X x)(hm:X.mg x=AA u)(h:Q u s)
  (hd:(x==("__debug__":A4))=false:=by decide):Al (model X.prog X.w) X.A (eval (.Name x pos) X.env) Q E s:=
 Du I.ok.kind hg (Calls.loadGlobal_global (by rw[I.ok.glob];exact I.mod.glob.keeps I.bk) hm h) hd
def zdm{E:AH->AK->Prop}{π:List (AJ×CA)}{s:AK}{σ:St}{H:Hp}{x:A4}{u:AH}{pos:CW}{Q:AH->AK->Prop}(I:Inv X π σ H s)(hg:Gl X x)(hm:X.mg x=AD)(hv:bootBuiltins x=AA u)(h:Q u s)
  (hn:x ≠ "__name__":=by decide) (hd:(x==("__debug__":A4))=false:=by decide):Al (model X.prog X.w) X.A (eval (.Name x pos) X.env) Q E s:=by
 let⟨mb,h1,h2⟩:=I.mod.blt;exact Du I.ok.kind hg (Calls.loadGlobal_builtin (by rw[I.ok.glob];exact I.mod.glob.keeps I.bk) hm (by rw[I.ok.blt];exact h1.keeps I.bk) ((h2 x hn).trans hv) h) hd
def zfX{x:A4}{v:V}{u:AH}{pos:CW}(hg:Gl X x)(hm:X.mg x=AA u)(r:RelV v u)(hd:(x==("__debug__":A4))=false:=by decide):PE X (.Name x pos) (tC v):=
 λ_ _ _ H _ I h=>zdY I hg hm ⟨v,H,I,r,h⟩ hd
def znY{x:A4}{v:V}{u:AH}{pos:CW}(hg:Gl X x)(hm:X.mg x=AD)(hv:bootBuiltins x=AA u)(r:RelV v u)(hn:x ≠ "__name__":=by decide)(hd:(x==("__debug__":A4))=false:=by decide):PE X (.Name x pos) (tC v):=
 λ_ _ _ H _ I h=>zdm I hg hm hv ⟨v,H,I,r,h⟩ hn hd
variable {a b:AZ}{ta tb:TE}{pos:CW}
variable {tA tB':TT}{rest:List AZ}
def ygr(t u:TT):TT:=λσ H Q=>t σ H λc H1=>if c=AB then u σ H1 Q else Q AC H1
def tOr(t u:TT):TT:=λσ H Q=>t σ H λc H1=>if c=AB then Q AB H1 else u σ H1 Q
def ygl(t:TT):TT:=λσ H Q=>t σ H λc H1=>Q (!c) H1
def znP(ha:PT X a tA):PW X (.BoolOp .And [a] pos) tA:=by
 intro wh π s σ H Q I h;refine isTrue_and (thn (ha π s σ H Q I h) λc s1 e=>?_)
 cases c with
 |true=>exact isTrue_and_nil e
 |false=>exact e
def zoM(ha:PT X a tA):PW X (.BoolOp .Or [a] pos) tA:=by
 intro wh π s σ H Q I h;refine isTrue_or (thn (ha π s σ H Q I h) λc s1 e=>?_)
 cases c with
 |false=>exact isTrue_or_nil e
 |true=>exact e
def zpx(ha:PT X a tA)(hb:PW X (.BoolOp .And (b::rest) pos) tB'):PW X (.BoolOp .And (a::b::rest) pos) (ygr tA tB'):=by
 intro wh π s σ H Q I h;refine isTrue_and (thn (ha π s σ H _ I h) λc s1 kq=>?_);let⟨H1,I1,q1⟩:=kq
 cases c with
 |true=>exact hb wh π s1 σ H1 Q I1 q1
 |false=>exact⟨H1,I1,q1⟩
def zqz(ha:PT X a tA)(hb:PW X (.BoolOp .Or (b::rest) pos) tB'):PW X (.BoolOp .Or (a::b::rest) pos) (tOr tA tB'):=by
 intro wh π s σ H Q I h;refine isTrue_or (thn (ha π s σ H _ I h) λc s1 kq=>?_);let⟨H1,I1,q1⟩:=kq
 cases c with
 |true=>exact⟨H1,I1,q1⟩
 |false=>exact hb wh π s1 σ H1 Q I1 q1
def zpk(ha:PT X a tA):PT X (.UnaryOp .Not a pos) (ygl tA):=by
 intro π s σ H Q I h;exact isTrue_not (ha π s σ H (λc H1=>Q (!c) H1) I h)
def yel(ta tb:TE):TE:=λσ H Q=>ta σ H λx H1=>∃c,x=.bl c/\if c=AB then tb σ H1 Q else Q (.bl AC) H1
def yfS(ta tb:TE):TE:=λσ H Q=>ta σ H λx H1=>∃c,x=.bl c/\if c=AB then Q (.bl AB) H1 else tb σ H1 Q
def yeR(ta:TE):TE:=λσ H Q=>ta σ H λx H1=>∃c,x=.bl c/\Q (.bl (!c)) H1
def zou{op}{t:TE}(h:PE X a t):PE X (.BoolOp op [a] pos) t:=λπ s σ H Q I hw=>BoolOp_one (h π s σ H Q I hw)
def zpK(ha:PE X a ta)(hb:PE X (.BoolOp .And (b::rest) pos) tb):PE X (.BoolOp .And (a::b::rest) pos) (yel ta tb):=by
 intro π s σ H Q I h;refine BoolOp_and (thn (ha π s σ H _ I h) λv s1 kq=>?_);let⟨x,H1,I1,r1,q1⟩:=kq;let⟨c,rfl,q1⟩:=q1
 cases r1
 refine B6 ?_
 cases c with
 |true=>exact hb π s1 σ H1 Q I1 q1
 |false=>exact⟨.bl AC,H1,I1,rfl,q1⟩
def zqI(ha:PE X a ta)(hb:PE X (.BoolOp .Or (b::rest) pos) tb):PE X (.BoolOp .Or (a::b::rest) pos) (yfS ta tb):=by
 intro π s σ H Q I h;refine BoolOp_or (thn (ha π s σ H _ I h) λv s1 kq=>?_);let⟨x,H1,I1,r1,q1⟩:=kq;let⟨c,rfl,q1⟩:=q1
 cases r1
 refine B6 ?_
 cases c with
 |false=>exact hb π s1 σ H1 Q I1 q1
 |true=>exact⟨.bl AB,H1,I1,rfl,q1⟩
def zpC(ha:PE X a ta):PE X (.UnaryOp .Not a pos) (yeR ta):=by
 intro π s σ H Q I h;refine UnaryOp_ (thn (ha π s σ H _ I h) λv s1 kq=>?_);let⟨x,H1,I1,r1,q1⟩:=kq;let⟨c,rfl,q1⟩:=q1
 cases r1
 exact not_of (B6 ⟨.bl (!c),H1,I1,rfl,q1⟩)
def tIf(t:TT)(ta tb:TE):TE:=λσ H Q=>t σ H λc H1=>if c=AB then ta σ H1 Q else tb σ H1 Q
def zke{c:AZ}(hc:PT X c tA)(ha:PE X a ta)(hb:PE X b tb):PE X (.IfExp c a b pos) (tIf tA ta tb):=by
 intro π s σ H Q I h;refine wpAny_IfExp (thn (hc π s σ H _ I h) λd s1 kq=>?_);let⟨H1,I1,q1⟩:=kq
 cases d with
 |true=>exact ha π s1 σ H1 Q I1 q1
 |false=>exact hb π s1 σ H1 Q I1 q1
end
def SqL(K:AG)(H:Hp)(a:AJ)(xs:List V):Prop:=
 Rd H a (.lst xs) \/
  ∃(o:CA) (its:Array AH) (n:Nat),K.lookup a=AA o/\o.cls=.type "list"/\o.dict=AD/\o.data=.seq its n/\its.size<=sizeLine/\Vals xs its.toList
def SqT(K:AG)(H:Hp)(a:AJ)(xs:List V):Prop:=
 Rd H a (.tup xs) \/
  ∃(o:CA) (its:Array AH) (n:Nat),K.lookup a=AA o/\o.cls=.type "tuple"/\o.data=.seq its n/\its.size<=sizeLine/\Vals xs its.toList
def yhk:AH->Option V
 |.none=>AA .non
 |.bool b=>AA (.bl b)
 |.int i _=>AA (.int i)
 |.str x _=>AA (.str x)
 |.bytes b _=>AA (.byt b)
 |.float b _=>AA (.flt b)
 |.ref a=>AA (.ref a)
 |.type n=>AA (.ty n)
 |_=>AD
theorem RelV.abs{x:V}{u:AH}(r:RelV x u):yhk u=AA x:=by
 cases x with
 |non=>cases r;rfl
 |bl _=>cases r;rfl
 |int _=>let⟨t,rfl⟩:=r;rfl
 |str _=>let⟨t,rfl⟩:=r;rfl
 |byt _=>let⟨t,rfl⟩:=r;rfl
 |flt _=>let⟨t,rfl⟩:=r;rfl
 |ref _=>cases r;rfl
 |ty _=>cases r;rfl
theorem RelV.inj{x y:V}{u:AH}(r:RelV x u)(q:RelV y u):x=y:=A8 (r.abs.symm.trans q.abs)
theorem Vals.inj:∀{xs ys:List V} {us:List AH},Vals xs us->Vals ys us->xs=ys
 |_,_,_,.nil,.nil=>rfl
 |_,_,_,.cons r t,.cons r' t'=>by rw[r.inj r',Vals.inj t t']
section
variable {X:Cx}{π:List (AJ×CA)}{σ:St}{H:Hp}{s:AK}{a:AJ}{xs ys:List V}
theorem SqL.of{K:AG}(h:H a=AA (.lst xs)):SqL K H a xs:=.inl (.inl h)
theorem Inv.list(I:Inv X π σ H s)(h:SqL X.K H a xs):∃its:List AH,Vals xs its/\PlainL s.heap a its.toArray/\xs.length<=sizeLine:=by
 rcases h with h|⟨o,its,n,hk,hc,hd,hs,hz,r⟩
 .let⟨z,its,n,r,e⟩:=h.ok I.hok;exact⟨its,r,⟨_,n,e,rfl,rfl,rfl⟩,z⟩
 .refine⟨its.toList,r,⟨o,n,I.kIn a o hk,hc,hd,by simpa using hs⟩,?_⟩;have e:=r.length;erw[Bz]at e;lia
theorem Inv.tuple(I:Inv X π σ H s)(h:SqT X.K H a xs):∃its:List AH,Vals xs its/\G9 s.heap a its.toArray/\xs.length<=sizeLine:=by
 rcases h with h|⟨o,its,n,hk,hc,hs,hz,r⟩
 .let⟨z,its,r,p⟩:=h.ok I.hok;exact⟨its,r,p,z⟩
 .refine⟨its.toList,r,⟨o,I.kIn a o hk,hc,n,by simpa using hs⟩,?_⟩;have e:=r.length;erw[Bz]at e;lia
theorem Inv.list_inj(I:Inv X π σ H s)(h:SqL X.K H a xs)(h':SqL X.K H a ys):xs=ys:=by
 let⟨its,r,⟨o,n,e,_,_,d⟩,_⟩:=I.list h;let⟨its',r',⟨o',n',e',_,_,d'⟩,_⟩:=I.list h';rw[e]at e';cases e';rw[d]at d';injection d' with d1 _;have:its=its':=by simpa using congrArg HD d1
 subst this;exact r.inj r'
theorem Inv.tuple_inj(I:Inv X π σ H s)(h:SqT X.K H a xs)(h':SqT X.K H a ys):xs=ys:=by
 let⟨its,r,⟨o,e,_,n,d⟩,_⟩:=I.tuple h;let⟨its',r',⟨o',e',_,n',d'⟩,_⟩:=I.tuple h';rw[e]at e';cases e';rw[d]at d';injection d' with d1 _;have:its=its':=by simpa using congrArg HD d1
 subst this;exact r.inj r'
end
section
variable {X:Cx}{π:List (AJ×CA)}{σ:St}{H:Hp}{s:AK}{E:AH->AK->Prop}
end
section
variable {X:Cx}{st:By}{rest:List By}{t u:TS}{e:AZ}{te:TE}{pos:CW}
def yeh:TS:=λD σ H=>D.nx σ H
def ygH(t u:TS):TS:=λD σ H=>t {D with nx:=u D} σ H
def zpr:PSs X [] yeh:=λ_ _ σ H _ I h=>Dh ⟨σ,H,I,h⟩
def zgF(h1:PS X st t)(h2:PSs X rest u):PSs X (st::rest) (ygH t u):=by
 intro π s σ H D I h;refine GU (thn (h1 π s σ H {D with nx:=u D} I h) λf s1 q=>?_)
 cases f with
 |next=>
  let⟨σ',H',I',q⟩:=q;exact h2 π s1 σ' H' D I' q
 |ret v=>exact q
 |brk=>exact q
 |cont=>exact q
def znS(h1:PS X st t):PSs X [st] t:=by
 intro π s σ H D I h;refine GU (thn (h1 π s σ H D I h) λf s1 q=>?_)
 cases f with
 |next=>exact Dh q
 |ret v=>exact q
 |brk=>exact q
 |cont=>exact q
theorem Inv.quiet{π:List (AJ×CA)}{σ:St}{H:Hp}{s:AK}(I:Inv X π σ H s):interactive X.env=false:=by simp[interactive,I.ok.kind]
def yez(te:TE):TS:=λD σ H=>te σ H λ_ H1=>D.nx σ H1
def zmL(he:PE X e te)(hs:swapsWith e AD pos.line X.env=pure false:=by rfl):PS X (.Expr e pos) (yez te):=by
 intro π s σ H D I h;exact wpAny_Expr_any (thn (he π s σ H _ I h) λv s1 ⟨x,H1,I1,r1,q1⟩=>⟨σ,H1,I1,q1⟩) I.quiet hs
def ygF(te:TE):TS:=λD σ H=>te σ H D.rt
def zlL(he:PE X e te):PS X (.Return (AA e) pos) (ygF te):=by
 intro π s σ H D I h;exact wpAny_Return_some (thn (he π s σ H _ I h) λv s1 ⟨x,H1,I1,r1,q1⟩=>⟨x,σ,H1,I1,r1,q1⟩)
def yeV:TS:=λD _ H=>D.rt .non H
def zpA:PS X (.Return AD pos) yeV:=λ_ _ σ H _ I h=>wpAny_Return_none ⟨.non,σ,H,I,rfl,h⟩
def ygL(c:TT)(t u:TS):TS:=λD σ H=>c σ H λb H1=>if b=AB then t D σ H1 else u D σ H1
def zqH{c:AZ}{a b:List By}{tc:TT}(hc:PT X c tc)(ha:PSs X a t)(hb:PSs X b u):PS X (.If c a b pos) (ygL tc t u):=by
 intro π s σ H D I h;refine wpAny_If (thn (hc π s σ H _ I h) λd s1 kq=>?_);let⟨H1,I1,q1⟩:=kq
 cases d with
 |true=>exact ha π s1 σ H1 D I1 q1
 |false=>exact hb π s1 σ H1 D I1 q1
end
abbrev TG:=V->St->Hp->(St->Hp->Prop)->Prop
abbrev TGs:=List V->St->Hp->(St->Hp->Prop)->Prop
def PG(X:Cx)(target:AZ)(t:TG):Prop:=
 ∀(π:List (AJ×CA)) (s:AK) (σ:St) (H:Hp) (v:V) (u:AH) (Q:St->Hp->Prop),Inv X π σ H s->RelV v u->t v σ H Q ->
  Al (model X.prog X.w) X.A (assign target X.env u) (λ_ s'=>∃σ' H',Inv X π σ' H' s'/\Q σ' H') X.xe s
def PGs(X:Cx)(ts:List AZ)(t:TGs):Prop:=
 ∀(π:List (AJ×CA)) (s:AK) (σ:St) (H:Hp) (vs:List V) (us:List AH) (Q:St->Hp->Prop),Inv X π σ H s->Vals vs us->t vs σ H Q ->
  Al (model X.prog X.w) X.A (assignInOrder ((assignEach ts X.env).map (·.2)) us) (λ_ s'=>∃σ' H',Inv X π σ' H' s'/\Q σ' H') X.xe s
abbrev yeE:=V->V->V->Hp->(Hp->Prop)->Prop
def yfh(X:Cx)(t:yeE):Prop:=
 ∀(π:List (AJ×CA)) (s:AK) (σ:St) (H:Hp) (o i v:V) (ov iv u:AH) (Q:Hp->Prop),Inv X π σ H s->RelV o ov->RelV i iv->RelV v u->t o i v H Q ->
  Al (model X.prog X.w) X.A (setItem ov iv u) (λ_ s'=>∃H',Inv X π σ H' s'/\Q H') X.xe s
abbrev TIp:=V->V->Hp->VK->Prop
def PIp(X:Cx)(op:Ea)(t:TIp):Prop:=
 ∀(π:List (AJ×CA)) (s:AK) (σ:St) (H:Hp) (x y:V) (v u:AH) (Q:VK),Inv X π σ H s->RelV x v->RelV y u->t x y H Q ->
  Al (model X.prog X.w) X.A (inplaceOp op v u) (EP X π σ Q) X.xe s
section
variable {X:Cx}{pos:CW}
def ydS(i:Nat):TG:=λv σ H Q=>Q (σ.set i (AA v)) H
def zio{i:Nat}{x:A4}(hN:X.N.Nodup)(hi:X.N[i]?=AA x)(hx:Loc X.env.scope x)(hf:X.fn x=AB \/ X.env.scope.names.lookup x=AA .local:=by first|exact .inl rfl|exact .inr rfl|assumption):PG X (.Name x pos) (ydS i):=by
 intro π s σ H v u Q I r h;exact wpAny_assign_Name (zbl I hN hi hx r (λs' I'=>⟨_,H,I',h⟩) hf)
def yfT:TGs:=λvs σ H Q=>vs=[]/\Q σ H
def yef(t:TG)(u:TGs):TGs:=λvs σ H Q=>∃v r,vs=v::r/\t v σ H λσ' H'=>u r σ' H' Q
def zpB:PGs X [] yfT:=by
 intro π s σ H vs us Q I r h;let⟨e,h⟩:=h;subst e
 cases r
 exact GB ⟨σ,H,I,h⟩
def zkV{e:AZ}{es:List AZ}{t:TG}{u:TGs}(h1:PG X e t)(h2:PGs X es u)
  (hs:(assignEach (e::es) X.env).map (·.2)=assign e X.env::(assignEach es X.env).map (·.2):=by rfl):PGs X (e::es) (yef t u):=by
 intro π s σ H vs us Q I r h;let⟨v,vr,e1,h⟩:=h;subst e1
 cases r with
 |cons r rr=>
  rw[hs];refine Dv (thn (h1 π s σ H _ _ _ I r h) λ_ s1 kq=>?_);let⟨σ1,H1,I1,q1⟩:=kq;exact h2 π s1 σ1 H1 _ _ Q I1 rr q1
def yho(K:AG)(n:Nat)(t:TGs):TG:=λv σ H Q=>∃a xs,v=.ref a/\SqT K H a xs/\xs.length=n/\t xs σ H Q
def zpq{es:List AZ}{k:Nat}{t:TGs}{n:Nat}(hc:X.calm=AB)(h:PGs X es t)
  (hn:(assignEach es X.env).length=n:=by rfl) (hst:(assignEach es X.env).findIdx? (·.1)=none:=by rfl):PG X (.Tuple es k pos) (yho X.K n t):=by
 intro π s σ H v u Q I r hw;let⟨a,xs,e1,hq,hl,hw⟩:=hw;subst e1
 cases r
 let⟨its,rv,ht,hz⟩:=I.tuple hq;refine assign_Tuple_tuple (I.ok.hd hc) ht (by simp[hn,<-hl,rv.length]) hst λh' hx=>?_;have I1:Inv X π σ H {s with heap:=h'}:=I.kept (t':=s.toks) λb o e=>hx b o (Az (Aa e)) e;exact h π _ σ H xs _ Q I1 (by simpa using rv) hw
def yfn(to ti:TE)(t:yeE):TG:=λv σ H Q=>to σ H λo H1=>ti σ H1 λi H2=>t o i v H2 λH3=>Q σ H3
def zly{o i:AZ}{to ti:TE}{t:yeE}(ho:PE X o to)(hi:PE X i ti)(hs:yfh X t)
  (ha:∀v,assign (.Subscript o i pos) X.env v=(do
   let ov <-holding [v] (eval o X.env)
   let iv <-holding [v,ov] (eval i X.env)
   standAt pos
   holding [v,ov,iv] (setItem ov iv v)
   release [v,ov,iv] []):=by intro _;rfl):PG X (.Subscript o i pos) (yfn to ti t):=by
 intro π s σ H v u Q I r h;rw[ha];refine AO (D7 (thn (ho π s σ H _ I h) λov s1 kq=>?_));let⟨x,H1,I1,r1,q1⟩:=kq;refine AO (D7 (thn (hi π s1 σ H1 _ I1 q1) λiv s2 kq=>?_));let⟨y,H2,I2,r2,q2⟩:=kq;refine AO (EZ (AO (D7 (thn (hs π s2 σ H2 x y v ov iv u _ I2 r1 r2 r q2) λ_ s3 kq=>?_))));let⟨H3,I3,q3⟩:=kq;exact wpAny_release ⟨σ,H3,I3,q3⟩
def yfC(te:TE)(g:TG):TS:=λD σ H=>te σ H λx H1=>g x σ H1 D.nx
def zlT{tg e:AZ}{te:TE}{g:TG}(he:PE X e te)(hg:PG X tg g)(hs:swapsWithSole [tg] e pos.line X.env=pure false:=by rfl)(hw:swappedStores [tg] e X.env=pure none:=by rfl)
  (h1:(assignEach [tg] X.env).map (·.2)=[assign tg X.env]:=by rfl):PS X (.Assign [tg] e pos) (yfC te g):=by
 intro π s σ H D I h;refine wpAny_Assign_stores (thn (he π s σ H _ I h) λv s1 kq=>?_) hs hw;let⟨x,H1,I1,r1,q1⟩:=kq;rw[h1];exact thn (hg π s1 σ H1 x v _ I1 r1 q1) λ_ s2 q=>q
def zlN{i:Nat}{x:A4}{e:AZ}{te:TE}{pos':CW}(hN:X.N.Nodup)(hi:X.N[i]?=AA x)(hx:Loc X.env.scope x)(he:PE X e te)(hs:swapsWith e (AA (.Name x pos')) pos.line X.env=pure false:=by rfl)(hf:X.fn x=AB \/ X.env.scope.names.lookup x=AA .local:=by first|exact .inl rfl|exact .inr rfl|assumption):
  PS X (.Assign [.Name x pos'] e pos) (yfC te (ydS i)):=by
 intro π s σ H D I h;refine wpAny_Assign_Name (thn (he π s σ H _ I h) λv s1 kq=>?_) hs;let⟨y,H1,I1,r1,q1⟩:=kq;exact zbl I1 hN hi hx r1 (λs2 I2=>⟨_,H1,I2,q1⟩) hf
def yfv(i j:Nat)(ta:TA):TS:=λD σ H=>ta σ H λvs H1=>∃v w,vs=[v,w]/\D.nx ((σ.set i (AA v)).set j (AA w)) H1
def zn4{i j:Nat}{x y:A4}{a b:AZ}{ta:TA}{px py pt:CW}{kt k2 pt2}(hc:X.calm=AB)(hN:X.N.Nodup)(hi:X.N[i]?=AA x)(hj:X.N[j]?=AA y)(hij:i≠j)
  (hx:X.env.scope.names.lookup x=AA .local) (hy:X.env.scope.names.lookup y=AA .local) (ha:PA X [a,b] ta)
  (hw:swappedStores [.Tuple [.Name x px,.Name y py] kt pt] (.Tuple [a,b] k2 pt2) X.env=pure (AA [x,y]))
  (hs:swapsWithSole [.Tuple [.Name x px,.Name y py] kt pt] (.Tuple [a,b] k2 pt2) pos.line X.env=pure false:=by rfl):
  PS X (.Assign [.Tuple [.Name x px,.Name y py] kt pt] (.Tuple [a,b] k2 pt2) pos) (yfv i j ta):=by
 intro π s σ H D I h;rw[exec_Assign_arm];refine AO (EZ ?_);rw[hs];refine AO (Ag ?_);rw[if_neg ⋯];refine AO (Tuple_ (thn (ha _ π s σ H _ I h) λus s1 kq=>?_));let⟨vs,H1,I1,r1,q1⟩:=kq;let⟨v,w,e1,q1⟩:=q1;subst e1;obtain⟨u1,u2,rfl,rv,rw'⟩:∃u1 u2,us=[u1,u2]/\RelV v u1/\RelV w u2:=by
  cases r1 with
  |cons p q=>
   cases q with
   |cons p' q'=>
    cases q'
    exact⟨_,_,rfl,p,p'⟩
 refine Bn ?_ (by show 2<=sizeLine;decide);have I2:Inv X π σ H1 {s1 with heap:=s1.heap.push {cls:=.type "tuple",data:=.seq [u1,u2].toArray} }:=I1.kept (t':=s1.toks) λb o e=>A6 _ e;rw[hw];refine AO (Ag ?_);show Al (model X.prog X.w) X.A (do rule "assign.swapped-stores";let items <-unpackItems (.ref s1.heap.objs.size) 2 AD;assignInOrder [λv=>bindName X.env y v,λv=>bindName X.env x v] items.reverse;pure Flow.next) _ _ _;refine AO (Gc (AO (unpackItems_tuple (items:=#[u1,u2]) (I.ok.hd hc) (F0 s1.heap _) λh' hx'=>?_)));have I3:=I2.kept (h':=h') (t':=s1.toks) λb o e=>hx' b o (Az (Aa e)) e;show Al _ _ (assignInOrder [λv=>bindName X.env y v,λv=>bindName X.env x v] [u2,u1] >>= λ_=>pure Flow.next) _ _ _;refine AO (Dv (wpAny_bindName (zbl I3 hN hj (.inl hy) rw' (λs2 I4=>?_) (.inr hy))));refine Dv (wpAny_bindName (zbl I4 hN hi (.inl hx) rv (λs3 I5=>GB (Ag ?_)) (.inr hx)));rw[Gq _ _ (Bf hij)]at I5;exact⟨_,H1,I5,q1⟩
def yg7(i:Nat)(te:TE)(ti:TIp):TS:=λD σ H=>∃x,σ[i]?=AA (AA x)/\te σ H λy H1=>ti x y H1 λz H2=>D.nx (σ.set i (AA z)) H2
def zlU{i:Nat}{x:A4}{e:AZ}{te:TE}{op:Ea}{ti:TIp}{pos':CW}(hN:X.N.Nodup)(hi:X.N[i]?=AA x)(hx:Loc X.env.scope x)(he:PE X e te)(ho:PIp X op ti)(hf:X.fn x=AB \/ X.env.scope.names.lookup x=AA .local:=by first|exact .inl rfl|exact .inr rfl|assumption):
  PS X (.AugAssign (.Name x pos') op e pos) (yg7 i te ti):=by
 intro π s σ H D I h;let⟨v,e1,h⟩:=h;let⟨m,hn,hl⟩:=I.loc;have vis:Vis X.env.scope x:=by rcases hx with k|k;exact .inl k;exact .inr (.inl k)
 let⟨u,r,l⟩:=hl i x v hi e1 vis;refine wpAny_AugAssign_Name ?_;have go:Al (model X.prog X.w) X.A (eval e X.env) (λw s₂=>Al (model X.prog X.w) X.A (inplaceOp op u w) (λr s₃=>Al (model X.prog X.w) X.A (storeName X.env x r) (λ_=>SP X π D .next) X.xe s₃) X.xe s₂) X.xe s:=by
  refine thn (he π s σ H _ I h) λw s1 kq=>?_;let⟨y,H1,I1,r1,q1⟩:=kq;refine thn (ho π s1 σ H1 v y u w _ I1 r r1 q1) λz s2 kq=>?_;let⟨zv,H2,I2,r2,q2⟩:=kq;exact zbl I2 hN hi hx r2 (λs3 I3=>⟨_,H2,I3,q2⟩) hf
 rcases l with⟨hk,hm⟩|⟨hk,c,hc,hcell⟩
 .exact FL I.ok.kind hk hn hm go
 .rcases hk with hk|hk
  .exact F4 I.ok.kind hk hc hcell go
  .rcases hx with k|k
   .have:X.env.scope.names.lookup x=AA .free:=hk;rw[k]at this;cases this
   .have:X.env.scope.names.lookup x=AA .free:=hk;rw[k]at this;cases this
def ipI(f:Int->Int->Int):TIp:=λx y H Q=>∃i j,x=.int i/\y=.int j/\Q (.int (f i j)) H
def zpJ:PIp X .Add (ipI λi j=>i+j):=by
 intro π s σ H x y v u Q I r1 r2 h;let⟨i,j,e1,e2,q⟩:=h;subst e1;subst e2;let⟨t,rfl⟩:=r1;let⟨t',rfl⟩:=r2;exact iadd_int ⟨.int _,H,I.tok _,⟨_,rfl⟩,q⟩
end
section
variable {X:Cx}{pos:CW}
def ydI(c:TT)(tb:TS):TS:=λD σ H=>∃W:Nat->St->Hp->Prop,(∃m,W m σ H)/\∀m σ H,W m σ H ->
 c σ H λb H1=>if b=AB then ∃N:St->Hp->Prop,(∀σ' H',N σ' H'->∃m',m' < m/\W m' σ' H')/\tb {D with nx:=N,ct:=N,bk:=D.nx} σ H1 else D.nx σ H1
def zkz{c:AZ}{body:List By}{tc:TT}{tb:TS}(hp:Eb (model X.prog X.w) X.A X.env X.xe)(hc:PT X c tc)(hb:PSs X body tb):PS X (.While c body [] pos) (ydI tc tb):=by
 intro π s σ H D I h;let⟨W,⟨m0,w0⟩,turn⟩:=h;refine wpAny_While (codeAny_whileLoop (λn s'=>∃σ' H',Inv X π σ' H' s'/\W n σ' H') ?_ m0 ⟨σ,H,I,w0⟩)
 rintro n s1 ⟨σ1,H1,I1,w1⟩
 refine CT hp (thn (hc π s1 σ1 H1 _ I1 (turn n σ1 H1 w1)) λb s2 kq=>?_);let⟨H2,I2,q2⟩:=kq
 cases b with
 |true=>
  let⟨N,hN,q2⟩:=q2;rw[if_pos rfl];refine CT hp (thn (hb π s2 σ1 H2 _ I2 q2) λf s3 q3=>?_)
  cases f with
  |next=>
   let⟨σ3,H3,I3,n3⟩:=q3;let⟨m',hm,w3⟩:=hN σ3 H3 n3;exact⟨m',hm,σ3,H3,I3,w3⟩
  |cont=>
   let⟨σ3,H3,I3,n3⟩:=q3;let⟨m',hm,w3⟩:=hN σ3 H3 n3;exact⟨m',hm,σ3,H3,I3,w3⟩
  |brk=>exact q3
  |ret v=>exact q3
 |false=>
  rw[if_neg BD];exact Dh ⟨σ1,H2,I2,q2⟩
end
structure It where
 go:Nat->Hp->Prop
 yld:Nat->Hp->V->Hp->Prop
 stop:Nat->Hp->Prop
def ybx(X:Cx)(π:List (AJ×CA))(H:Hp)(b:AJ):Prop:=
 H b=AD/\b≠X.env.locals/\b∉X.fs/\(b∈X.ex \/ X.s₀.heap.objs.size<=b)/\(∀x c,X.env.cells.lookup x=AA c->c≠b)/\∀p∈X.pn++π,p.1≠b
theorem Inv.fpOk{X:Cx}{π:List (AJ×CA)}{σ:St}{H H':Hp}{s:AK}{b:AJ}(I:Inv X π σ H s)(hb:s.heap.objs.size<=b)(hn:H' b=AD):ybx X π H' b:=by
 refine⟨hn,Nat.ne_of_gt (Ae I.lt hb),I.nofs hb,.inr (B5 I.sz hb),λx c e z=>?_,λp hp z=>?_⟩
 .let⟨v,q⟩:=I.cell x c e;exact absurd (Ae q.lt (by rw[z];exact hb)) (Cw _)
 .exact absurd (Ae (Aa (I.pin p hp).1) (by rw[z];exact hb)) (Cw _)
structure Turn(P:Af)(w:Aw)(K:AG)(tg:AZ)(J:It)(fp:List AJ)(it:AJ)(tn:Nat->BU->Prop):Prop where
 mem:it∈fp
 obj:∀i h,tn i h->∀b∈fp,∃o,h.get? b=AA o/\∀v,o.data ≠ .cell v
 keep:∀i h h',tn i h->(∀b∈fp,∀o,h.get? b=AA o->h'.get? b=AA o)->tn i h'
 item:∀(X:Cx),X.prog=P->X.w=w->X.K=K->X.calm=AB->∀(i:Nat) (π:List (AJ×CA)) (s:AK) (σ:St) (H:Hp) (E:AH->AK->Prop),Inv X π σ H s->(∀b∈fp,ybx X π H b)->tn i s.heap->J.go i H ->
  Al (model P w) X.A (pyNext (.ref it)) (λr s1=>∃u,r=AA u /\
   Al (model P w) X.A (letOwnedTupleGo tg (.ref it) u) (λ_ s2=>∃x H',Inv X π σ H' s2/\RelV x u/\J.yld i H x H'/\tn (i+1) s2.heap/\∀b∈fp,H' b=AD) E s1) E s
 done:∀(X:Cx),X.prog=P->X.w=w->X.K=K->X.calm=AB->∀(i:Nat) (π:List (AJ×CA)) (s:AK) (σ:St) (H:Hp) (E:AH->AK->Prop),Inv X π σ H s->(∀b∈fp,ybx X π H b)->tn i s.heap->J.stop i H ->
  Al (model P w) X.A (pyNext (.ref it)) (λr s1=>r=AD/\Inv X π σ H s1) E s
 self:∀(A:BC) (i:Nat) (s:AK) (Q:AH->AK->Prop) (E:AH->AK->Prop),tn i s.heap->Q (.ref it) s->Al (model P w) A (pyIter (.ref it)) Q E s
abbrev TI:=St->Hp->(It->Hp->Prop)->Prop
def PIE(X:Cx)(π:List (AJ×CA))(σ:St)(tg:AZ)(R:It->Hp->Prop)(itv:AH)(s2:AK):Prop:=
 ∃(it:AJ) (fp:List AJ) (tn:Nat->BU->Prop) (J:It) (H':Hp),itv=.ref it/\Inv X π σ H' s2/\Turn X.prog X.w X.K tg J fp it tn/\tn 0 s2.heap/\(∀b∈fp,ybx X π H' b)/\R J H'
def PI(X:Cx)(tg iter:AZ)(wi:TI):Prop:=
 ∀(π:List (AJ×CA)) (s:AK) (σ:St) (H:Hp) (R:It->Hp->Prop),Inv X π σ H s->wi σ H R ->
  Al (model X.prog X.w) X.A (eval iter X.env) (λv s1=>Al (model X.prog X.w) X.A (pyIter v) (PIE X π σ tg R) X.xe s1) X.xe s
def zk4{M:HR}{A:BC}{E:AH->AK->Prop}{s:AK}{tg:AZ}{it:AJ}{u:AH}{o:CA}{n:String}{vs:Array AH}{Q:Unit->AK->Prop}(ho:s.heap.get? it=AA o)(hc:o.cls=.type n)(hd:o.data=.fields vs)
  (hn:["enumerate","zip","dict_itemiterator","dict_reverseitemiterator","odict_iterator","itertools.zip_longest","itertools.pairwise"].contains n=AC) (hQ:Q () s):Al M A (letOwnedTupleGo tg (.ref it) u) Q E s:=by
 unfold letOwnedTupleGo
 cases tg<;>first
  |exact Ag hQ
  | (cases u<;>first
    |exact Ag hQ
    | (refine AO (wpAny_load ho ?_)
       rw[hc,hd];show Al M A (if (["enumerate","zip","dict_itemiterator","dict_reverseitemiterator","odict_iterator","itertools.zip_longest","itertools.pairwise"].contains n&&vs[0]? == AA (rawInt _))=AB then _ else _) Q E s;rw[if_neg (by intro h;rw[hn,Gd]at h;cases h)];exact Ag hQ))
def Itl(K:AG)(a:AJ):It:=
 ⟨λi H=>∃xs x,SqL K H a xs/\xs[i]?=AA x,λi H x H'=>H'=H/\∀xs,SqL K H a xs->xs[i]?=AA x,λi H=>∃xs,SqL K H a xs/\xs.length<=i⟩
def Itt(K:AG)(a:AJ):It:=
 ⟨λi H=>∃xs x,SqT K H a xs/\xs[i]?=AA x,λi H x H'=>H'=H/\∀xs,SqT K H a xs->xs[i]?=AA x,λi H=>∃xs,SqT K H a xs/\xs.length<=i⟩
def Itr(lo:Int)(n:Nat):It:=⟨λi _=>i<n,λi H x H'=>H'=H/\x=.int (lo+i),λi _=>n<=i⟩
def zjz{P:Af}{w:Aw}{K:AG}{tg:AZ}(a it:AJ):Turn P w K tg (Itl K a) [it] it (λi h=>h.IsListIter it a i) where
 mem:=by simp
 obj:=λi h st b hb=>by
  have e:b=it:=by simpa using hb
  subst e;let⟨o,e,c,d⟩:=st;exact⟨o,e,λv z=>by rw[d]at z;cases z⟩
 keep:=λi h h' st k=>st.at λo e=>k it (by simp) o e
 item:=by
  intro X hP hw hK hc i π s σ H E I hf st hg;subst hP hw hK;let⟨xs,x,hq,hx⟩:=hg;let⟨its,rv,p,hz⟩:=I.list hq;let⟨u,hu,ru⟩:=rv.get hx;let⟨f0,f1,f2,f3,f4,f5⟩:=hf it (by simp);refine wpAny_pyNext_list_item st p.isList (x:=u) (by simpa using hu) λh' st' sb=>?_;have I1:Inv X π σ H {s with heap:=h'}:=I.turned (t':=s.toks) (λb o hb e=>(sb.2 b hb).trans e) f0 f1 f3 f4 f5;let⟨o,e,c,d⟩:=id st';exact⟨u,rfl,zk4 (s:={s with heap:=h'}) e c d ⋯ ⟨x,H,I1,ru,⟨rfl,λys hy=>by rw[I.list_inj hy hq];exact hx⟩,st',λb hb=>(hf b hb).1⟩⟩
 done:=by
  intro X hP hw hK hc i π s σ H E I hf st hg;subst hP hw hK;let⟨xs,hq,hx⟩:=hg;let⟨its,rv,p,hz⟩:=I.list hq;let⟨f0,f1,f2,f3,f4,f5⟩:=hf it (by simp);have hl:=rv.length;exact wpAny_pyNext_list_end (I.ok.hd hc) st p.isList (by simp;lia) λh' eb=>⟨rfl,I.turned (t':=s.toks) (λb o hb e=>eb b o hb e) f0 f1 f3 f4 f5⟩
 self:=λ_ _ _ _ _ st h=>wpAny_pyIter_listiter st h
def zhp{P:Af}{w:Aw}{K:AG}{tg:AZ}(a it:AJ):Turn P w K tg (Itt K a) [it] it (λi h=>h.IsTupleIter it a i) where
 mem:=by simp
 obj:=λi h st b hb=>by
  have e:b=it:=by simpa using hb
  subst e;let⟨o,e,c,d⟩:=st;exact⟨o,e,λv z=>by rw[d]at z;cases z⟩
 keep:=λi h h' st k=>st.at λo e=>k it (by simp) o e
 item:=by
  intro X hP hw hK hc i π s σ H E I hf st hg;subst hP hw hK;let⟨xs,x,hq,hx⟩:=hg;let⟨its,rv,p,hz⟩:=I.tuple hq;let⟨u,hu,ru⟩:=rv.get hx;let⟨f0,f1,f2,f3,f4,f5⟩:=hf it (by simp);refine wpAny_pyNext_tuple_item st (show s.heap.IsTuple a its.toArray from p) (x:=u) (by simpa using hu) λh' st' sb=>?_;have I1:Inv X π σ H {s with heap:=h'}:=I.turned (t':=s.toks) (λb o hb e=>(sb.2 b hb).trans e) f0 f1 f3 f4 f5;let⟨o,e,c,d⟩:=id st';exact⟨u,rfl,zk4 (s:={s with heap:=h'}) e c d ⋯ ⟨x,H,I1,ru,⟨rfl,λys hy=>by rw[I.tuple_inj hy hq];exact hx⟩,st',λb hb=>(hf b hb).1⟩⟩
 done:=by
  intro X hP hw hK hc i π s σ H E I hf st hg;subst hP hw hK;let⟨xs,hq,hx⟩:=hg;let⟨its,rv,p,hz⟩:=I.tuple hq;let⟨f0,f1,f2,f3,f4,f5⟩:=hf it (by simp);have hl:=rv.length;exact wpAny_pyNext_tuple_end (I.ok.hd hc) st (show s.heap.IsTuple a its.toArray from p) (by simp;lia) λh' eb=>⟨rfl,I.turned (t':=s.toks) (λb o hb e=>eb b o hb e) f0 f1 f3 f4 f5⟩
 self:=λ_ _ _ _ _ st h=>wpAny_pyIter_tupleiter st h
def zhb{P:Af}{w:Aw}{K:AG}{tg:AZ}(it:AJ)(lo:Int)(n:Nat):Turn P w K tg (Itr lo n) [it] it (λi h=>FM h it (lo+(i:Nat)*1) ((n:Int)-(i:Nat)) 1) where
 mem:=by simp
 obj:=λi h st b hb=>by
  have e:b=it:=by simpa using hb
  subst e;exact⟨_,st,λv z=>by
   have z':HS _=Data.cell v:=z
   cases z'⟩
 keep:=λi h h' st k=>k it (by simp) _ st
 item:=by
  intro X hP hw hK hc i π s σ H E I hf st hg;subst hP hw hK;let⟨f0,f1,f2,f3,f4,f5⟩:=hf it (by simp);have W:=HU (prog:=X.prog) (w:=X.w) (I.ok.hd hc) it lo 1 n;refine W.item i s _ _ hg st λv h' tk hv st' kk=>?_;let⟨t,rfl⟩:=hv;have I1:Inv X π σ H {s with heap:=h',toks:=tk}:=I.turned (λb o hb e=>kk b o (by simpa using hb) e) f0 f1 f3 f4 f5;refine⟨_,rfl,zk4 (s:={s with heap:=h',toks:=tk}) (n:="range_iterator") st' rfl rfl ⋯ ⟨.int (lo+i),H,I1,⟨t,?_⟩,⟨rfl,rfl⟩,st',λb hb=>(hf b hb).1⟩⟩;rw[C6]
 done:=by
  intro X hP hw hK hc i π s σ H E I hf st hg;subst hP hw hK;let⟨f0,f1,f2,f3,f4,f5⟩:=hf it (by simp);exact Ek (I.ok.hd hc) st (by have:n<=i:=hg;lia) λh' eb=>⟨rfl,I.turned (t':=s.toks) (λb o hb e=>eb b o hb e) f0 f1 f3 f4 f5⟩
 self:=λ_ _ _ _ _ st h=>El st h
section
variable {X:Cx}{tg:AZ}
def zkR{π:List (AJ×CA)}{σ:St}{H:Hp}{s:AK}{R:It->Hp->Prop}{E:AH->AK->Prop}{lo hi:Int}{t u v:Hk}{tk:Nat}(I:Inv X π σ H s)(h1:-(2^62)<=lo)(h2:lo<2^62)(h3:-(2^62)<=hi)(h4:hi<2^62)
  (q:R (Itr lo (hi-lo).toNat) H):Al (model X.prog X.w) X.A (pyIter (.ref s.heap.objs.size)) (PIE X π σ tg R) E {s with heap:=s.heap.push {cls:=.type "range",data:=.fields #[.int lo t,.int hi u,.int 1 v]},toks:=tk}:=by
 refine Fq (HV ..) (small_one h1 h2 h3 h4) ?_;have I1:Inv X π σ H {s with heap:=s.heap.push {cls:=.type "range",data:=.fields #[.int lo t,.int hi u,.int 1 v]},toks:=tk}:=I.kept λb o e=>A6 _ e;refine⟨(s.heap.push {cls:=.type "range",data:=.fields #[.int lo t,.int hi u,.int 1 v]}).objs.size,[(s.heap.push {cls:=.type "range",data:=.fields #[.int lo t,.int hi u,.int 1 v]}).objs.size],_,_,H,rfl,
  I1.kept (t':=tk) λb o e=>A6 _ e,zhb _ lo (hi-lo).toNat,?_,λb hb=>?_,q⟩
 .have e1:lo+((0:Nat):Int)*1=lo:=by simp
  have e2:(((hi-lo).toNat:Nat):Int)-((0:Nat):Int)=Bt lo hi 1:=by rw[rangeSize_one];split<;>lia
  show FM _ _ (lo+((0:Nat):Int)*1) ((((hi-lo).toNat:Nat):Int)-((0:Nat):Int)) 1;rw[e1,e2];exact Au _ rfl
 .have e:b=(s.heap.push {cls:=.type "range",data:=.fields #[.int lo t,.int hi u,.int 1 v]}).objs.size:=by simpa using hb
  subst e;exact I1.fpOk (A0 _) (I1.hok.fresh (A0 _))
def yeM(ta:TA):TI:=λσ H R=>ta σ H λvs H1=>∃j:Int,vs=[.int j]/\-(2^62)<=j/\j<2^62/\R (Itr 0 j.toNat) H1
def zjn{a:AZ}{ta:TA}{p pos:CW}(hg:Gl X "range")(hm:X.mg "range"=AD)(ha:PA X [a] ta)(hs:starEach [a] X.env=[(AC,eval a X.env)]:=by rfl):PI X tg (.Call (.Name "range" p) [a] [] pos) (yeM ta):=by
 intro π s σ H R I h;refine Call_ (zdm I hg hm boot_range (CB (thn (ha pos π s σ H _ I h) λus s1 kq=>?_) hs rfl));let⟨vs,H1,I1,r1,q1⟩:=kq;let⟨j,e,q1,q2,q⟩:=q1;subst e
 cases r1 with
 |cons r rr=>
  cases rr
  let⟨t,rfl⟩:=r;exact call_range_1 (zkR I1 ∅ ∅ q1 q2 (by simpa using q))
def yha(wi:TI)(g:TG)(tb:TS):TS:=λD σ H=>wi σ H λJ H1=>∃W:Nat->Nat->St->Hp->Prop,(∃m,W 0 m σ H1)/\∀i m σ H,W i m σ H ->
 (J.stop i H/\D.nx σ H) \/ (J.go i H/\∃N:St->Hp->Prop,(∀σ' H',N σ' H'->∃m',m' < m/\W (i+1) m' σ' H')/\∀x H',J.yld i H x H'->g x σ H' λσ2 H2=>tb {D with nx:=N,ct:=N,bk:=D.nx} σ2 H2)
def ybr(fp:List AJ)(h:BU):List (AJ×CA):=fp.filterMap λb=>(h.get? b).map λo=>(b,o)
def zaU{fp:List AJ}{h:BU}{b:AJ}{o:CA}(hb:b∈fp)(e:h.get? b=AA o):(b,o)∈ybr fp h:=Dw.mpr ⟨b,hb,by rw[e];rfl⟩
def zii{fp:List AJ}{h:BU}{p:AJ×CA}(hp:p∈ybr fp h):p.1∈fp/\h.get? p.1=AA p.2:=by
 let⟨b,hb,e⟩:=Dw.mp hp
 cases q:h.get? b with
 |none=>rw[q]at e;cases e
 |some o=>
  rw[q]at e;have e':(b,o)=p:=A8 e;subst e';exact⟨hb,q⟩
theorem Inv.pinned{π:List (AJ×CA)}{σ:St}{H:Hp}{s:AK}{fp:List AJ}(I:Inv X π σ H s)(hf:∀b∈fp,ybx X π H b)(ho:∀b∈fp,∃o,s.heap.get? b=AA o/\∀v,o.data ≠ .cell v):Inv X (π++ybr fp s.heap) σ H s:=
 I.pins_of λp hp=>(DC.mp hp).elim (λz=>I.pin p (BO _ z)) λz=>by
  let⟨hb,e⟩:=zii z;let⟨f0,f1,f2,_⟩:=hf p.1 hb;let⟨o,e',d⟩:=ho p.1 hb;rw[e]at e';cases e';exact⟨e,f0,f1,f2,d⟩
theorem Inv.unpinned{π pl:List (AJ×CA)}{σ:St}{H:Hp}{s:AK}(I:Inv X (π++pl) σ H s):Inv X π σ H s:=I.pins_of λp hp=>I.pin p (BO _ (FK _ hp))
def zo7{iter:AZ}{body:List By}{wi:TI}{g:TG}{tb:TS}{pos:CW}(hp:Eb (model X.prog X.w) X.A X.env X.xe)(hc:X.calm=AB)(hi:PI X tg iter wi)(hg:PG X tg g)(hb:PSs X body tb)
  (hs:∀x,foldedSetIterable iter X.env x=pure x:=by intro _;rfl):PS X (.For tg iter body [] pos) (yha wi g tb):=by
 intro π s σ H D I h;refine wpAny_For (thn (hi π s σ H _ I h) λv s1 h1=>thn h1 λitv s2 h2=>?_) hs;let⟨it,fp,tn,J,H2,e,I2,T,st2,f2,W,⟨m0,w0⟩,turn⟩:=h2;subst e;have stat:∀{H':Hp},(∀b∈fp,H' b=AD)->∀b∈fp,ybx X π H' b:=λhn b hb=>⟨hn b hb,(f2 b hb).2⟩;refine codeAny_forLoop_any (λn s'=>∃i σ' H',Inv X π σ' H' s'/\tn i s'.heap/\(∀b∈fp,H' b=AD)/\W i n σ' H') ?_ m0 ⟨0,σ,H2,I2,st2,λb hb=>(f2 b hb).1,w0⟩
 rintro n s3 ⟨i,σ3,H3,I3,st3,fr3,w3⟩
 rcases turn i n σ3 H3 w3 with⟨stop,qn⟩|⟨go,N,hN,step⟩
 .refine CT hp (thn (T.done X rfl rfl rfl hc i π s3 σ3 H3 X.xe I3 (stat fr3) st3 stop) λr s4 kq=>?_);let⟨hr,I4⟩:=kq;subst hr;exact Dh ⟨σ3,H3,I4,qn⟩
 .refine CT hp (thn (T.item X rfl rfl rfl hc i π s3 σ3 H3 X.xe I3 (stat fr3) st3 go) λr s4 kq=>?_);let⟨u,hr,h4⟩:=kq;subst hr;refine CT hp (thn h4 λ_ s5 kq=>?_);let⟨x,H5,I5,r5,y5,st5,fr5⟩:=kq;have I5':=I5.pinned (stat fr5) (T.obj _ _ st5);refine CT hp (thn (hg _ s5 σ3 H5 x u _ I5' r5 (step x H5 y5)) λ_ s6 kq=>?_);let⟨σ6,H6,I6,q6⟩:=kq;refine CT hp (thn (hb _ s6 σ6 H6 _ I6 q6) λf s7 q7=>?_);have again:∀{σ7:St} {H7:Hp},Inv X (π++ybr fp s5.heap) σ7 H7 s7->N σ7 H7->∃m,m<n/\∃i σ' H',Inv X π σ' H' s7/\tn i s7.heap/\(∀b∈fp,H' b=AD)/\W i m σ' H':=λ{σ7 H7} I7 n7=>by
   let⟨m',hm,w7⟩:=hN σ7 H7 n7;refine⟨m',hm,i+1,σ7,H7,I7.unpinned,T.keep _ _ _ st5 λb hb o e=>(I7.pin (b,o) (BO _ (BO _ (zaU hb e)))).1,λb hb=>?_,w7⟩;let⟨o,e,d⟩:=T.obj _ _ st5 b hb;exact(I7.pin (b,o) (BO _ (BO _ (zaU hb e)))).2.1
  cases f with
  |next=>let⟨σ7,H7,I7,n7⟩:=q7;exact again I7 n7
  |cont=>let⟨σ7,H7,I7,n7⟩:=q7;exact again I7 n7
  |brk=>let⟨σ7,H7,I7,q7⟩:=q7;exact⟨σ7,H7,I7.unpinned,q7⟩
  |ret v=>let⟨x7,σ7,H7,I7,r7,q7⟩:=q7;exact⟨x7,σ7,H7,I7.unpinned,r7,q7⟩
end
abbrev R2:=V->V->Hp->VK->Prop
def OpR(X:Cx)(f:AH->AH->Hf AH)(r:R2):Prop:=
 ∀(π:List (AJ×CA)) (s:AK) (σ:St) (H:Hp) (x y:V) (v u:AH) (Q:VK),Inv X π σ H s->RelV x v->RelV y u->r x y H Q ->
  Al (model X.prog X.w) X.A (f v u) (EP X π σ Q) X.xe s
def UnR(X:Cx)(f:AH->Hf AH)(r:V->Hp->VK->Prop):Prop:=
 ∀(π:List (AJ×CA)) (s:AK) (σ:St) (H:Hp) (x:V) (v:AH) (Q:VK),Inv X π σ H s->RelV x v->r x H Q ->
  Al (model X.prog X.w) X.A (f v) (EP X π σ Q) X.xe s
def yad(X:Cx)(f:AH)(r:List V->Hp->VK->Prop):Prop:=
 ∀(π:List (AJ×CA)) (s:AK) (σ:St) (H:Hp) (xs:List V) (us:List AH) (Q:VK),Inv X π σ H s->Vals xs us->r xs H Q ->
  Al (model X.prog X.w) X.A (call f us) (EP X π σ Q) X.xe s
def yhf(X:Cx)(r:V->Hp->(Bool->Hp->Prop)->Prop):Prop:=
 ∀(π:List (AJ×CA)) (s:AK) (σ:St) (H:Hp) (x:V) (v:AH) (Q:Bool->Hp->Prop),Inv X π σ H s->RelV x v->r x H Q ->
  Al (model X.prog X.w) X.A (truthy v) (TP X π σ Q) X.xe s
def tOp(r:R2)(ta tb:TE):TE:=λσ H Q=>ta σ H λx H1=>tb σ H1 λy H2=>r x y H2 Q
def tUn(r:V->Hp->VK->Prop)(ta:TE):TE:=λσ H Q=>ta σ H λx H1=>r x H1 Q
def rI(C:Int->Int->Prop)(g:Int->Int->V):R2:=λx y H Q=>∃i j,x=.int i/\y=.int j/\C i j/\Q (g i j) H
def rI0(g:Int->Int->V):R2:=λx y H Q=>∃i j,x=.int i/\y=.int j/\Q (g i j) H
def rU(g:Int->V):V->Hp->VK->Prop:=λx H Q=>∃i,x=.int i/\Q (g i) H
section
variable {X:Cx}{a b c:AZ}{ta tb tc:TE}{pos:CW}
def zjo(ha:PE X a ta)(hb:PE X b tb){π:List (AJ×CA)}{s:AK}{σ:St}{H:Hp}{R:V->V->Hp->Prop}(I:Inv X π σ H s)
  (h:ta σ H λx H1=>tb σ H1 λy H2=>R x y H2) {Q:AH->AK->Prop} {f:AH->AH->Hf AH}
  (hf:∀v u s2 x y H2,Inv X π σ H2 s2->RelV x v->RelV y u->R x y H2->Al (model X.prog X.w) X.A (f v u) Q X.xe s2):
  Al (model X.prog X.w) X.A (eval a X.env) (λv s₁=>Al (model X.prog X.w) X.A (eval b X.env) (λu s₂=>Al (model X.prog X.w) X.A (f v u) Q X.xe s₂) X.xe s₁) X.xe s:=by
 refine thn (ha π s σ H _ I h) λv s1 kq=>?_;let⟨x,H1,I1,r1,q1⟩:=kq;refine thn (hb π s1 σ H1 _ I1 q1) λu s2 kq=>?_;let⟨y,H2,I2,r2,q2⟩:=kq;exact hf v u s2 x y H2 I2 r1 r2 q2
def zpD{op:Ea}{r:R2}(ho:OpR X (binaryOp op) r)(ha:PE X a ta)(hb:PE X b tb):PE X (.BinOp a op b pos) (tOp r ta tb):=by
 intro π s σ H Q I h;exact wpAny_BinOp (zjo ha hb I h λv u s2 x y H2 I2 rx ry q=>ho π s2 σ H2 x y v u Q I2 rx ry q)
def zoc{op:UnaryOp}{r:V->Hp->VK->Prop}(ho:UnR X (unaryOp op) r)(ha:PE X a ta):PE X (.UnaryOp op a pos) (tUn r ta):=by
 intro π s σ H Q I h;exact UnaryOp_ (thn (ha π s σ H _ I h) λv s1 ⟨x,H1,I1,r1,q1⟩=>ho π s1 σ H1 x v Q I1 r1 q1)
theorem opI{f:AH->AH->Hf AH}{C:Int->Int->Prop}{g:Int->Int->Int}
  (rule:∀(i j:Int) (t u:Hk) (s:AK) (Q:AH->AK->Prop) (E:AH->AK->Prop),C i j->Q (.int (g i j) s.toks) {s with toks:=s.toks+1}->Al (model X.prog X.w) X.A (f (.int i t) (.int j u)) Q E s):
  OpR X f (rI C λi j=>.int (g i j)):=by
 intro π s σ H x y v u Q I rx ry h;let⟨i,j,rfl,rfl,hc,q⟩:=h;let⟨t,rfl⟩:=rx;let⟨t',rfl⟩:=ry;exact rule i j t t' s _ _ hc ⟨.int (g i j),H,I.tok _,⟨_,rfl⟩,q⟩
def zgC{f:AH->AH->Hf AH}{g:Int->Int->Int}
  (rule:∀(i j:Int) (t u:Hk) (s:AK) (Q:AH->AK->Prop) (E:AH->AK->Prop),Q (.int (g i j) s.toks) {s with toks:=s.toks+1}->Al (model X.prog X.w) X.A (f (.int i t) (.int j u)) Q E s):
  OpR X f (rI0 λi j=>.int (g i j)):=by
 intro π s σ H x y v u Q I rx ry h;let⟨i,j,rfl,rfl,q⟩:=h;let⟨t,rfl⟩:=rx;let⟨t',rfl⟩:=ry;exact rule i j t t' s _ _ ⟨.int (g i j),H,I.tok _,⟨_,rfl⟩,q⟩
def zhz{f:AH->AH->Hf AH}{g:Int->Int->Bool}
  (rule:∀(i j:Int) (t u:Hk) (s:AK) (Q:AH->AK->Prop) (E:AH->AK->Prop),Q (.bool (g i j)) s->Al (model X.prog X.w) X.A (f (.int i t) (.int j u)) Q E s):
  OpR X f (rI0 λi j=>.bl (g i j)):=by
 intro π s σ H x y v u Q I rx ry h;let⟨i,j,rfl,rfl,q⟩:=h;let⟨t,rfl⟩:=rx;let⟨t',rfl⟩:=ry;exact rule i j t t' s _ _ ⟨.bl (g i j),H,I,rfl,q⟩
def yd3(i j:Int):Prop:=0<=j/\j<=1000000/\i.natAbs<2^64
def ydJ(i j:Int):Prop:=(-(2^64)<i/\i<2^64) \/ (-(2^64)<j/\j<2^64)
theorem ydJ.ok{i j:Int}(h:ydJ i j):IntMulOk i j:=by
 rcases h with⟨h1,h2⟩|⟨h1,h2⟩
 .exact .of_left (intBits_le_64 h1 h2)
 .exact .of_right (intBits_le_64 h1 h2)
def zhu(k:Nat):(0:Int)<=2^k:=by
 rw[two_pow_cast];exact Int.natCast_nonneg _
def zoZ:OpR X (binaryOp .Add) (rI0 λi j=>.int (i+j)):=zgC λ_ _ _ _ _ _ _ q=>add_int q
def zoX:OpR X (binaryOp .Sub) (rI0 λi j=>.int (i-j)):=zgC λ_ _ _ _ _ _ _ q=>sub_int q
def zpV:OpR X (binaryOp .Mult) (rI ydJ λi j=>.int (i*j)):=opI λ_ _ _ _ _ _ _ hc q=>mul_int q hc.ok
def zpf:OpR X (binaryOp .Mod) (rI (λ_ j=>0<j) λi j=>.int (i%j)):=opI λi j _ _ _ _ _ hc q=>by
 have h1:(0:Int)<j:=hc;exact mod_int' ∅ (by rw[Int.fmod_eq_emod_of_nonneg i ∅];exact q)
def zo2:OpR X (binaryOp .Pow) (rI yd3 λi j=>.int (i^j.toNat)):=opI λ_ _ _ _ _ _ _ hc q=>pow_int_small hc.1 hc.2.1 hc.2.2 q
def zoU:OpR X (binaryOp .LShift) (rI yd3 λi j=>.int (i*2^j.toNat)):=opI λ_ _ _ _ _ _ _ hc q=>lshift_int_small hc.1 hc.2.1 hc.2.2 q
def zoh:OpR X (binaryOp .RShift) (rI (λ_ j=>0<=j) λi j=>.int (i/2^j.toNat)):=opI λi j _ _ _ _ _ hc q=>
 rshift_int hc (by rw[Dx i (zhu _)];exact q)
def zpI:OpR X (binaryOp .BitAnd) (rI0 λi j=>.int (An i j)):=zgC λ_ _ _ _ _ _ _ q=>and_int q
def zqx:OpR X (binaryOp .BitOr) (rI0 λi j=>.int (BR i j)):=zgC λ_ _ _ _ _ _ _ q=>or_int q
def zpo:OpR X (binaryOp .BitXor) (rI0 λi j=>.int (Ar i j)):=zgC λ_ _ _ _ _ _ _ q=>xor_int q
theorem unI{f:AH->Hf AH}{g:Int->Int}
  (rule:∀(i:Int) (t:Hk) (s:AK) (Q:AH->AK->Prop) (E:AH->AK->Prop),Q (.int (g i) s.toks) {s with toks:=s.toks+1}->Al (model X.prog X.w) X.A (f (.int i t)) Q E s):
  UnR X f (rU λi=>.int (g i)):=by
 intro π s σ H x v Q I rx h;let⟨i,rfl,q⟩:=h;let⟨t,rfl⟩:=rx;exact rule i t s _ _ ⟨.int (g i),H,I.tok _,⟨_,rfl⟩,q⟩
def zlH:UnR X (unaryOp .USub) (rU λi=>.int (-i)):=unI λ_ _ _ _ _ q=>neg_int q
def zh9:OpR X (binaryOp .Add) (λx y H Q=>∃i k,x=.int i/\y=.bl k/\Q (.int (i+b2i k)) H):=by
 intro π s σ H x y v u Q I rx ry h;let⟨i,k,rfl,rfl,q⟩:=h;let⟨t,rfl⟩:=rx
 cases ry
 exact add_int_bool ⟨.int (i+b2i k),H,I.tok _,⟨_,rfl⟩,q⟩
end
section
variable {X:Cx}{a b c:AZ}{ta tb tc:TE}{pos:CW}
def zdr{π:List (AJ×CA)}{σ:St}{H:Hp}{s:AK}{Q:VK}{k k':Bool}(I:Inv X π σ H s)(q:Q (.bl k) H)(e:k=k'):EP X π σ Q (.bool k') s:=by
 subst e;exact⟨.bl k,H,I,rfl,q⟩
def zqt:OpR X (compareOp .Lt) (rI0 λi j=>.bl (decide (i<j))):=zhz λ_ _ _ _ _ _ _ q=>lt_int q
def zqA:OpR X (compareOp .LtE) (rI0 λi j=>.bl (decide (i<=j))):=zhz λ_ _ _ _ _ _ _ q=>le_int q
def zqy:OpR X (compareOp .Gt) (rI0 λi j=>.bl (decide (j<i))):=zhz λ_ _ _ _ _ _ _ q=>gt_int q
def zqG:OpR X (compareOp .GtE) (rI0 λi j=>.bl (decide (j<=i))):=zhz λ_ _ _ _ _ _ _ q=>ge_int q
def zjx:OpR X (compareOp .Lt) (λx y H Q=>∃i j,x=.str i/\y=.str j/\Q (.bl (decide (i.cps.toList<j.cps.toList))) H):=by
 intro π s σ H x y v u Q I rx ry h;let⟨i,j,rfl,rfl,q⟩:=h;let⟨t,rfl⟩:=rx;let⟨t',rfl⟩:=ry;exact lt_str (zdr I q rfl)
def zjv:OpR X (compareOp .In) (λx y H Q=>∃i j,x=.str i/\y=.str j/\Q (.bl (!(DF j i 0 j.length 1).isEmpty)) H):=by
 intro π s σ H x y v u Q I rx ry h;let⟨i,j,rfl,rfl,q⟩:=h;let⟨t,rfl⟩:=rx;let⟨t',rfl⟩:=ry;exact in_str (zdr I q rfl)
def zpg:OpR X (compareOp .Is) (λx y H Q=>y=.non/\Q (.bl (decide (x=.non))) H):=by
 intro π s σ H x y v u Q I rx ry h;let⟨rfl,q⟩:=h
 cases ry
 refine is_none_gen (zdr I q ?_)
 cases x<;>first
  |(cases rx;rfl)
  |(let⟨t,rfl⟩:=rx;rfl)
def zeK:OpR X (compareOp .NotIn) (λx y H Q=>∃i j,x=.str i/\y=.str j/\Q (.bl (!(!(DF j i 0 j.length 1).isEmpty))) H):=by
 intro π s σ H x y v u Q I rx ry h;let⟨i,j,rfl,rfl,q⟩:=h;let⟨t,rfl⟩:=rx;let⟨t',rfl⟩:=ry;exact notIn_str (zdr I q rfl)
def zmT{op:Fc}{r:R2}(ho:OpR X (compareOp op) r)(ha:PE X a ta)(hb:PE X b tb)(hm:behindInMarks op b=AC):PE X (.Compare a [op] [b] pos) (tOp r ta tb):=by
 intro π s σ H Q I h;exact wpAny_Compare1 (zjo ha hb I h λv u s2 x y H2 I2 rx ry q=>ho π s2 σ H2 x y v u Q I2 rx ry q) hm
def ydH(t:TE):TT:=λσ H Q=>t σ H λx H'=>∃k,x=.bl k/\Q k H'
def znt{op:Fc}{r:R2}(ho:OpR X (compareOp op) r)(ha:PE X a ta)(hb:PE X b tb)(hm:behindInMarks op b=AC):PT X (.Compare a [op] [b] pos) (ydH (tOp r ta tb)):=by
 intro π s σ H Q I h;refine wpAny_isTrue_Compare1 (thn (ha π s σ H _ I h) λv s1 ⟨x,H1,I1,r1,q1⟩=>thn (hb π s1 σ H1 _ I1 q1) λu s2 ⟨y,H2,I2,r2,q2⟩=>
  thn (ho π s2 σ H2 x y v u _ I2 r1 r2 q2) λc s3 ⟨z,H3,I3,r3,k,e,q3⟩=>?_) hm
 subst e
 cases r3
 exact B6 ⟨H3,I3,q3⟩
def ycu(r r':R2)(ta tb tc:TE):TE:=λσ H Q=>ta σ H λx H1=>tb σ H1 λy H2=>r x y H2 λz H3=>∃k,z=.bl k /\
 (if k=AB then tc σ H3 λw' H4=>r' y w' H4 Q else Q (.bl AC) H3)
def zj0{op op':Fc}{r r':R2}(ho:OpR X (compareOp op) r)(ho':OpR X (compareOp op') r')(ha:PE X a ta)(hb:PE X b tb)(hc:PE X c tc)
  (hm:lastMarks [op,op'] [b,c]=false:=by ac_rfl):PE X (.Compare a [op,op'] [b,c] pos) (ycu r r' ta tb tc):=by
 intro π s σ H Q I h;refine Compare_chain (thn (ha π s σ H _ I h) λv s1 ⟨x,H1,I1,r1,q1⟩=>chain_link (thn (hb π s1 σ H1 _ I1 q1) λu s2 ⟨y,H2,I2,r2,q2⟩=>
  thn (ho π s2 σ H2 x y v u _ I2 r1 r2 q2) λd s3 ⟨z,H3,I3,r3,k,e,q3⟩=>?_)) hm
 subst e
 cases r3
 refine B6 ?_
 cases k with
 |false=>exact ite_ff ⟨.bl AC,H3,I3,rfl,q3⟩
 |true=>exact ite_tt (chain_last (thn (hc π s3 σ H3 _ I3 q3) λw' s4 ⟨z',H4,I4,r4,q4⟩=>ho' π s4 σ H4 y z' u w' Q I4 r2 r4 q4))
def zk8{op op':Fc}{r r':R2}(ho:OpR X (compareOp op) r)(ho':OpR X (compareOp op') r')(ha:PE X a ta)(hb:PE X b tb)(hc:PE X c tc)
  (hm:lastMarks [op,op'] [b,c]=false:=by ac_rfl):PT X (.Compare a [op,op'] [b,c] pos) (ydH (ycu r r' ta tb tc)):=by
 intro π s σ H Q I h;refine isTrue_chain (thn (ha π s σ H _ I h) λv s1 ⟨x,H1,I1,r1,q1⟩=>test_link (thn (hb π s1 σ H1 _ I1 q1) λu s2 ⟨y,H2,I2,r2,q2⟩=>
  thn (ho π s2 σ H2 x y v u _ I2 r1 r2 q2) λd s3 ⟨z,H3,I3,r3,k,e,q3⟩=>?_)) hm
 subst e
 cases r3
 refine B6 ?_
 cases k with
 |false=>
  let⟨k',e',q'⟩:=q3
  cases e'
  exact ite_ff ⟨H3,I3,q'⟩
 |true=>
  refine ite_tt (test_last (thn (hc π s3 σ H3 _ I3 q3) λw' s4 kq=>?_));let⟨z',H4,I4,r4,q4⟩:=kq;refine thn (ho' π s4 σ H4 y z' u w' _ I4 r2 r4 q4) λd' s5 kq=>?_;let⟨z2,H5,I5,r5,k2,e2,q5⟩:=kq;subst e2
  cases r5
  exact B6 ⟨H5,I5,q5⟩
def yeO(K:AG)(x:V)(H:Hp)(k:Bool):Prop:=
 match x with
 |.non=>k=AC
 |.bl b=>k=b
 |.int i=>k=(i != 0)
 |.str y=>y.length<=sizeLine/\k=((y.length:Int) != 0)
 |.byt y=>y.size<=sizeLine/\k=((y.size:Int) != 0)
 |.ref p=>(∃xs,SqL K H p xs/\k=!xs.isEmpty) \/ (∃xs,SqT K H p xs/\k=!xs.isEmpty) \/ ∃kvs,H p=AA (.dK kvs)/\k=!kvs.isEmpty
 |_=>False
def zhJ{κ:Type}{kvs:List (κ×V)}{vs:List (κ×AH)}(r:KV kvs vs):(!vs.isEmpty)=!kvs.isEmpty:=by
 cases r<;>rfl
def zdE{xs:List V}{its:List AH}(r:Vals xs its):(!its.toArray.isEmpty)=!xs.isEmpty:=by
 cases r<;>simp
def zgo:(sizeLine:Nat)<2^63:=by rw[DG];decide
def zoe:yhf X (λx H Q=>∃k,yeO X.K x H k/\Q k H):=by
 intro π s σ H x v Q I rx h;let⟨k,e,q⟩:=h;have hl:=zgo;have hs:sizeLine=16777216:=DG
 cases x with
 |non=>
  cases rx
  have e':k=false:=e;subst e';exact truthy_none ⟨H,I,q⟩
 |bl b=>
  cases rx
  have e':k=b:=e;subst e';exact B6 ⟨H,I,q⟩
 |int i=>
  let⟨t,rfl⟩:=rx;have e':k=(i != 0):=e;subst e';exact PySem.P.truthy_int ⟨H,I,q⟩
 |str y=>
  let⟨t,rfl⟩:=rx;obtain⟨hy,e'⟩:y.length<=sizeLine/\k=((y.length:Int) != 0):=e;subst e';exact PySem.P.truthy_str ∅ ⟨H,I.tok _,q⟩
 |byt y=>
  let⟨t,rfl⟩:=rx;obtain⟨hy,e'⟩:y.size<=sizeLine/\k=((y.size:Int) != 0):=e;subst e';exact PySem.W.truthy_bytes ∅ ⟨H,I.tok _,q⟩
 |ref p=>
  cases rx
  have e':(∃xs,SqL X.K H p xs/\k=!xs.isEmpty) \/ (∃xs,SqT X.K H p xs/\k=!xs.isEmpty) \/ ∃kvs,H p=AA (.dK kvs)/\k=!kvs.isEmpty:=e;rcases e' with⟨xs,hx,e'⟩|⟨xs,hx,e'⟩|⟨kvs,hx,e'⟩
  .subst e';let⟨its,r,pl,hz⟩:=I.list hx;have hlen:=r.length;exact wpAny_truthy_list pl.isList (by erw[AV];lia) ⟨H,I.tok _,by rw[zdE r];exact q⟩
  .subst e';let⟨its,r,pl,hz⟩:=I.tuple hx;have hlen:=r.length;exact truthy_tuple pl (by erw[AV];lia) ⟨H,I.tok _,by rw[zdE r];exact q⟩
  .subst e';obtain⟨hz,hS,vs,r,m⟩:kvs.length<=sizeLine/\(p==sysModules)=AC/\∃vs,KV kvs vs/\s.heap.DictOf (yO X.prog X.w) p vs:=I.hok p _ hx;have hlen:kvs.length=vs.length:=EY r;exact wpAny_truthy_dict hS m ∅ ⟨H,I.tok _,by rw[zhJ r];exact q⟩
 |_=>exact(show False from e).elim
def zkJ(ha:PE X a ta)(he:∀whole,isTrue a X.env whole=(do let v <-whole;standAt a.pos;holding [v] (truthy v))):
  PT X a (λσ H Q=>ta σ H λx H'=>∃k,yeO X.K x H' k/\Q k H'):=by
 intro π s σ H Q I h;exact isTrue_plain (thn (ha π s σ H _ I h) λv s1 ⟨x,H1,I1,r1,q1⟩=>zoe π s1 σ H1 x v Q I1 r1 q1) (he _)
def zhE:OpR X (binaryOp .Add) (λx y H Q=>∃i j,x=.str i/\y=.str j/\i.length+j.length<=sizeLine/\Q (.str (i++j)) H):=by
 intro π s σ H x y v u Q I rx ry h;let⟨i,j,rfl,rfl,hz,q⟩:=h;let⟨t,rfl⟩:=rx;let⟨t',rfl⟩:=ry;exact add_str (λt' tk=>⟨.str (i++j),H,I.tok _,⟨_,rfl⟩,q⟩) hz
theorem vals1{x:V}{us:List AH}(r:Vals [x] us):∃u,us=[u]/\RelV x u:=by
 cases r with
 |cons r1 r2=>cases r2;exact⟨_,rfl,r1⟩
theorem vals2{x y:V}{us:List AH}(r:Vals [x,y] us):∃u w',us=[u,w']/\RelV x u/\RelV y w':=by
 cases r with
 |cons r1 r2=>
  cases r2 with
  |cons r3 r4=>cases r4;exact⟨_,_,rfl,r1,r3⟩
def zkS:yad X (.builtin "abs") (λxs H Q=>∃i,xs=[.int i]/\Q (.int (if i<0 then -i else i)) H):=by
 intro π s σ H xs us Q I r h;let⟨i,rfl,q⟩:=h;let⟨u,rfl,t,rfl⟩:=vals1 r;exact call_abs_int λu tk=>⟨.int (if i<0 then -i else i),H,I.tok _,⟨_,rfl⟩,q⟩
def ziS(hc:X.calm=AB):yad X (.builtin "max") (λxs H Q=>∃i j,xs=[.int i,.int j]/\Q (.int (if j > i then j else i)) H):=by
 intro π s σ H xs us Q I r h;let⟨i,j,rfl,q⟩:=h;let⟨u,w',rfl,⟨t,rfl⟩,⟨t',rfl⟩⟩:=vals2 r;refine max_two_ints (I.ok.hd hc) λh' tk k=>⟨_,H,I.kept k,?_,q⟩
 by_cases hj:j > i
 .rw[if_pos hj,if_pos hj];exact⟨_,rfl⟩
 .rw[if_neg hj,if_neg hj];exact⟨_,rfl⟩
def zif(hc:X.calm=AB):yad X (.builtin "min") (λxs H Q=>∃i j,xs=[.int i,.int j]/\Q (.int (if j<i then j else i)) H):=by
 intro π s σ H xs us Q I r h;let⟨i,j,rfl,q⟩:=h;let⟨u,w',rfl,⟨t,rfl⟩,⟨t',rfl⟩⟩:=vals2 r;refine min_two_ints (I.ok.hd hc) λh' tk k=>⟨_,H,I.kept k,?_,q⟩
 by_cases hj:j<i
 .rw[if_pos hj,if_pos hj];exact⟨_,rfl⟩
 .rw[if_neg hj,if_neg hj];exact⟨_,rfl⟩
def zeM:yad X (.type "int") (λxs H Q=>(∃i,xs=[.int i]/\Q (.int i) H) \/ ∃k,xs=[.bl k]/\Q (.int (if k then 1 else 0)) H):=by
 intro π s σ H xs us Q I r h;rcases h with⟨i,rfl,q⟩|⟨k,rfl,q⟩
 .let⟨u,rfl,t,rfl⟩:=vals1 r;exact call_int_int ⟨.int i,H,I,⟨_,rfl⟩,q⟩
 .let⟨u,rfl,r1⟩:=vals1 r
  cases r1
  exact call_int_bool ⟨.int (if k then 1 else 0),H,I.tok _,⟨_,rfl⟩,q⟩
end
structure yc8(h:BU)(x dx C:AJ)(mA:A4->Option AH):Prop where
 obj:h.get? x=AA (Ey C dx)
 ns:h.Ns1 dx mA
 ne:dx≠x
def ziK{h:BU}{dx:AJ}{mA:A4->Option AH}(n:h.Ns1 dx mA):∃od,h.get? dx=AA od/\∀name,FN name od=AA (mA name):=by
 let⟨o,es,ep,ho,hd,hk,_,hm⟩:=n;refine⟨o,ho,λname=>?_⟩;have e:=hm name;unfold nsFind findBy at e;rw[<-Array.find?_toList]at e;unfold FN;rw[hd];dsimp only;split
 .rename_i y q;rw[q]at e;exact congrArg AA e
 .rename_i q;rw[q]at e;have a:es.toList.any (·.refKey)=false:=by
   rw[List.any_eq_false];intro y hy;let⟨z,t,hkey⟩:=hk y (Array.mem_toList_iff.mp hy);simp[DictEntry.refKey,hkey]
  have a':¬es.toList.any (·.refKey)=true:=by rw[a];exact BD
  rw[if_neg a'];exact congrArg AA e
theorem yc8.look{h:BU}{x dx C:AJ}{mA:A4->Option AH}(I:yc8 h x dx C mA):∃od,PySem.W.InstAt h x (Ey C dx) C (AA od)/\∀name,FN name od=AA (mA name):=
 let ⟨od,ho,hl⟩:=ziK I.ns
 ⟨od,⟨I.obj,rfl,rfl,ho⟩,hl⟩
section
variable {prog:Af}{w:Aw}{A:BC}{E:AH->AK->Prop}{s:AK}{K:AG}{x dx C f:AJ}{mA:A4->Option AH}{name:A4}{v:AH}
end
def yba(f:A4)(v:V):List (A4×V)->List (A4×V)
 |[]=>[(f,v)]
 |(g,x)::r=>if g=f then(g,v)::r else(g,x)::yba f v r
section
variable {P:Af}{w:Aw}{H H':Hp}{h h':BU}{a C dx:AJ}{fs fs':List (A4×V)}
end
structure Cls(K:AG)(C:AJ):Prop where
 pg:Ec K C GV=AB
 hd:GE K C=AB
 po:GF K C=AB
 sa:BI K (.ref C) "__setattr__"=AA (AA (.builtin "object.__setattr__"))
theorem Cls.get{K:AG}{C:AJ}(c:Cls K C)(f:A4):Ec K C f=true:=c.pg
def yat(K:AG)(C:AJ)(f:A4):Prop:=BI K (.ref C) f=AA AD
structure Con(K:AG)(C:AJ)(f:A4)(v:V)(u:AH):Prop where
 at_:BI K (.ref C) f=AA (AA u)
 rel:RelV v u
 get:PySem.W.specialIn K u "__get__"=AA AD
 cp:PySem.W.copiedNames.contains f=AC
structure Meth(K:AG)(C:AJ)(m:A4)(f:AJ):Prop where
 at_:BI K (.ref C) m=AA (AA (.ref f))
 fn:DH K (.ref f)=AB
 kp:Ax K (.ref f)=AB
section
variable {X:Cx}{π:List (AJ×CA)}{σ:St}{H:Hp}{s:AK}{a C dx:AJ}{fs:List (A4×V)}{f:A4}{v:V}{A:BC}{E:AH->AK->Prop}
end
section
variable {X:Cx}{o e value:AZ}{f:A4}{pos pos' tpos:CW}{ta tv:TE}
end
section
variable {X:Cx}{π:List (AJ×CA)}{σ:St}{H:Hp}{s:AK}{A:BC}{E:AH->AK->Prop}{Q:AH->AK->Prop}{c:AH}{b:Bool}
end
structure yaW(k:Nat)(A:BC):Prop where
 hd:A.handled=AD
 dp:A.depth+3*k+5<recursionLimit
 un:A.units+16*k+200<cLine
theorem yaW.mono{j k:Nat}{A:BC}(r:yaW k A)(h:j<=k):yaW j A:=⟨r.hd,by have:=r.dp;lia,by have:=r.un;lia⟩
theorem yaW.deeper{k:Nat}{A:BC}(r:yaW (k+1) A)(env:Env):yaW k (A.deeper env):=
 ⟨r.hd,by have:=r.dp;show A.depth+1+3*k+5<_;lia,by have:=r.un;show A.units+3+16*k+200<_;lia⟩
theorem yaW.depth{k:Nat}{A:BC}(r:yaW k A):A.depth<recursionLimit:=by have:=r.dp;lia
def yea:TA:=λ_ H Q=>Q [] H
def yb6(ta:TE)(tr:TA):TA:=λσ H Q=>ta σ H λx H1=>tr σ H1 λxs H2=>Q (x::xs) H2
section
variable {X:Cx}{e:AZ}{es:List AZ}{te:TE}{t:TA}{pos:CW}
def zgY:PA X [] yea:=λ_ _ _ _ H Q I h=>GG ⟨[],H,I,.nil,h⟩
def zaO(ha:PE X e te)(hr:PA X es t)(hs:starEach (e::es) X.env=(AC,eval e X.env)::starEach es X.env:=by rfl):PA X (e::es) (yb6 te t):=by
 intro pos π s σ H Q I h;rw[hs];show Al _ _ (spliced ((AC,eval e X.env)::backTo pos (starEach es X.env))) _ _ s;refine Dy (thn (ha π s σ H _ I h) λu s1 kq=>?_);let⟨x,H1,I1,r1,q1⟩:=kq;exact thn (hr pos π s1 σ H1 _ I1 q1) λus s2 ⟨xs,H2,I2,r2,q2⟩=>⟨x::xs,H2,I2,.cons r1 r2,q2⟩
def yg8(t:TA):TE:=λσ H Q=>t σ H λxs H1=>xs.length<=sizeLine/\∀p,H1 p=AD->Q (.ref p) (upd H1 p (.tup xs))
def ygZ(t:TA):TE:=λσ H Q=>t σ H λxs H1=>xs.length<=sizeLine/\∀p,H1 p=AD->Q (.ref p) (upd H1 p (.lst xs))
def zov{x1}(h:PA X es t):PE X (.Tuple es x1 pos) (yg8 t):=by
 intro π s σ H Q I hq;refine wpAny_Tuple_spliced (thn (h pos π s σ H _ I hq) λus s1 kq=>?_);let⟨xs,H1,I1,r,z,q⟩:=kq;refine ⟨by rw[<-r.length];exact z,?_⟩;have hf:H1 s1.heap.objs.size=none:=I1.hok.fresh (A0 _);refine⟨.ref s1.heap.objs.size,upd H1 s1.heap.objs.size (.tup xs),I1.laid (t':=s1.toks) (λb u e=>A6 _ e) (A0 _) ?_,rfl,q _ hf⟩;exact⟨z,us,r,⟨_,Au _ rfl,rfl,_,rfl⟩⟩
def zlE(h:PA X es t):PE X (.List es pos) (ygZ t):=by
 intro π s σ H Q I hq;refine wpAny_List_spliced (thn (h pos π s σ H _ I hq) λus s1 kq=>?_);let⟨xs,H1,I1,r,z,q⟩:=kq;refine ⟨by rw[<-r.length];exact z,?_⟩;have hf:H1 s1.heap.objs.size=none:=I1.hok.fresh (A0 _);refine⟨.ref s1.heap.objs.size,upd H1 s1.heap.objs.size (.lst xs),I1.laid (t':=s1.toks) (λb u e=>A6 _ e) (A0 _) ?_,rfl,q _ hf⟩;exact⟨z,us,0,r,Au _ rfl⟩
end
abbrev Sp:=List V->Hp->VK->XK->Prop
abbrev CXT:=List Env->Hp->AK->XK->AH->AK->Prop
structure yc3(P:Af)(w:Aw)(K:AG)(mg:A4->Option AH)(base:BU)(A:BC)(outer:List Env)(s:AK)(H:Hp):Prop where
 frames:A.frames=AA outer
 mod:Mod K mg base
 bs:∀b o,base.get? b=AA o->s.heap.get? b=AA o/\H b=AD
 bsz:base.objs.size<=s.heap.objs.size
 funs:s.heap.FunFrames base outer
 frf:∀b∈frs outer,H b=AD
 hok:HOk P w H s.heap
 bare:D6 s.gens
def CE(outer:List Env)(P:Af)(w:Aw)(H:Hp)(s:AK)(Q:VK)(u:AH)(s':AK):Prop:=
 ∃v H',s'.os=s.os/\D6 s'.gens/\Un (frs outer) [] H H' s.heap s'.heap/\HOk P w H' s'.heap/\RelV v u/\Q v H'
def CR(CX:CXT)(outer:List Env)(P:Af)(w:Aw)(H:Hp)(s:AK)(Q:VK)(E:XK)(r:HE)(s':AK):Prop:=
 match r with
 |.ok (.ret u)=>CE outer P w H s Q u s'
 |.ok _=>False
 |.error e=>CX outer H s E e s'
structure ybj(P:Af)(w:Aw)(K:AG)(mg:A4->Option AH)(base:BU)(CX:CXT)(k:Nat)(f:AJ)(fd:BL)(ps:List A4)(sp:Sp):Prop where
 len:∀vs H Q E,sp vs H Q E->vs.length=ps.length
 run:∀(A:BC) (outer:List Env) (s:AK) (H:Hp) (args:Args) (us:List AH) (vs:List V) (Q:VK) (E:XK),yaW k A->yc3 P w K mg base A outer s H->Em s fd args (ps.zip us)->Vals vs us->sp vs H Q E ->
  codeAny (model P w) A (.call (.ref f) args) (CR CX outer P w H s Q E) s
theorem ybj.imp{P:Af}{w:Aw}{K:AG}{mg:A4->Option AH}{base:BU}{CX:CXT}{k:Nat}{f:AJ}{fd:BL}{ps:List A4}{sp sp':Sp}(F:ybj P w K mg base CX k f fd ps sp)
  (h:∀vs H Q E,sp' vs H Q E->sp vs H Q E):ybj P w K mg base CX k f fd ps sp':=
 ⟨λvs H Q E q=>F.len vs H Q E (h _ _ _ _ q),λA outer s H args us vs Q E hr he hb hv hs=>F.run A outer s H args us vs Q E hr he hb hv (h _ _ _ _ hs)⟩
section
variable {X:Cx}{π:List (AJ×CA)}{σ:St}{H:Hp}{s s':AK}
theorem Inv.env0(I:Inv X π σ H s):yc3 X.prog X.w X.K X.mg X.base X.A X.stack s H:=
 ⟨I.ok.frames,I.ok.mod,I.bs,B5 I.ok.bsz I.sz,I.stack,I.stkFree,I.hok,I.bare⟩
theorem Inv.after{Q:VK}{u:AH}(I:Inv X π σ H s)(h:CE X.stack X.prog X.w H s Q u s'):EP X π σ Q u s':=by
 let⟨v,H',os,bare,un,hok,r,q⟩:=h;let⟨hh,g,d,t,os'⟩:=s';obtain rfl:os'=s.os:=os;exact⟨v,H',I.call (h':=hh) (g':=g) (d':=d) (t':=t) (ch:=[]) un hok bare (λb z=>absurd z (by simp)),r,q⟩
end
def Binds(K:AG)(fd:BL)(ps:List A4)(ds:List AH):Prop:=
 ∀(s:AK) (us:List AH),K.In s.heap->(us++ds).length=ps.length->Em s fd ⟨us,[]⟩ (ps.zip (us++ds))
theorem Binds.all{K:AG}{fd:BL}{ps:List A4}(h:∀us:List AH,us.length=ps.length->bindArgs fd ⟨us,[]⟩=pure (ps.zip us)):Binds K fd ps []:=λs us _ hl=>by
 rw[CU]at hl ⊢;exact .of_eq (h us hl)
def ydK(CX:CXT)(X:Cx)(E:XK):Prop:=∀(π:List (AJ×CA)) (σ:St) (H:Hp) (s:AK) (e:AH) (s':AK),Inv X π σ H s->CX X.stack H s E e s'->X.xe e s'
section
variable {X:Cx}{CX:CXT}{k:Nat}{f C:AJ}{fd:BL}{ps:List A4}{sp:Sp}{dvs:List V}{ds:List AH}{E:XK}{x m:A4}{p pos apos:CW}{e o:AZ}{es:List AZ}{ta:TE}{t:TA}
structure Mk(K:AG)(C f:AJ):Prop where
 makes:FA K C=AB
 init:BI K (.ref C) "__init__"=AA (AA (.ref f))
 fn:DH K (.ref f)=AB
 kp:Ax K (.ref C)=AB
end
def PK(X:Cx)(kws:List Bo)(t:TA):Prop:=
 ∀(pos:CW) (π:List (AJ×CA)) (s:AK) (σ:St) (H:Hp) (Q:List V->Hp->Prop),Inv X π σ H s->t σ H Q->Al (model X.prog X.w) X.A (evalAll ((backToKw pos (keywordEach kws X.env)).map (·.2))) (AP X π σ Q) X.xe s
section
variable {X:Cx}{CX:CXT}{k:Nat}{f C:AJ}{fd:BL}{ps ks:List A4}{sp:Sp}{E:XK}{x m:A4}{p pos apos kpos:CW}{e o:AZ}{es:List AZ}{kws:List Bo}{te ta:TE}{t tk:TA}{nm:Option A4}
def zpO:PK X [] yea:=λ_ _ _ _ H Q I h=>wpAny_evalAll_nil ⟨[],H,I,.nil,h⟩
def znh(ha:PE X e te)(hr:PK X kws t):PK X (⟨nm,e,kpos⟩ :: kws) (yb6 te t):=by
 intro pos π s σ H Q I h;show Al _ _ (evalAll ((do let v <-eval e X.env;standAt pos;pure v)::(backToKw pos (keywordEach kws X.env)).map (·.2))) _ _ s;refine wpAny_evalAll_cons (AO (thn (ha π s σ H _ I h) λu s1 kq=>?_));let⟨x,H1,I1,r1,q1⟩:=kq;refine AO (EZ (Ag ?_));exact thn (hr pos π s1 σ H1 _ I1 q1) λus s2 ⟨xs,H2,I2,r2,q2⟩=>⟨x::xs,H2,I2,.cons r1 r2,q2⟩
structure ybF(K:AG)(fd:BL)(ps ks:List A4)(g:List AH->List AH->List AH)(gV:List V->List V->List V):Prop where
 to:∀(s:AK) (us ws:List AH),K.In s.heap->(g us ws).length=ps.length->Em s fd ⟨us,ks.zip ws⟩ (ps.zip (g us ws))
 rel:∀{vs:List V} {us:List AH} {zs:List V} {ws:List AH},Vals vs us->Vals zs ws->Vals (gV vs zs) (g us ws)
variable {g:List AH->List AH->List AH}{gV:List V->List V->List V}
end
structure yaN(N P:List A4)(sc:Bj):Prop where
 kind:sc.kind=.function
 co:sc.isCoroutine=AC
 gen:sc.isGenerator=AC
 nd:N.Nodup
 pre:N.take P.length=P
 par:∀x∈P,sc.names.lookup x=AA .local \/ sc.names.lookup x=AA .cell
 nofree:∀y∈sc.names,y.2 ≠ .free
def zfg{kindOf:A4->Option DI}{x:A4}:∀{binds:List (A4×AH)} {m:A4->Option AH},(∀v,(x,v)∉binds)->bindL kindOf binds m x=m x
 |[],_,_=>rfl
 |(n,v)::r,m,h=>by
  unfold bindL;rw[zfg λw hw=>h w (A7 _ hw)];split
  .have:x≠n:=by rintro rfl;exact h v Ao
   simp[this]
  .rfl
def zej{kindOf:A4->Option DI}{x:A4}:∀{binds:List (A4×AH)} {m:A4->Option AH},(∀v,(x,v)∉binds)->bindC kindOf binds m x=m x
 |[],_,_=>rfl
 |(n,v)::r,m,h=>by
  unfold bindC;rw[zej λw hw=>h w (A7 _ hw)];split
  .rfl
  .have:x≠n:=by rintro rfl;exact h v Ao
   simp[this]
def ze1{kindOf:A4->Option DI}{x:A4}{v:AH}:∀{P:List A4} {vs:List AH} {i:Nat} {m:A4->Option AH},P.Nodup->P[i]?=AA x->vs[i]?=AA v->kindOf x=AA .local ->
  bindL kindOf (P.zip vs) m x=AA v
 |[],_,_,_,_,h,_,_=>by simp at h
 |_::_,[],_,_,_,_,h,_=>by simp at h
 |p::P,w::vs,0,m,nd,h1,h2,hk=>by
  simp at h1 h2;subst h1;subst h2;show bindL kindOf ((p,w)::P.zip vs) m p=_;unfold bindL;rw[zfg λv hv=>(Di.mp nd).1 (Dj hv).1,if_pos hk];simp
 |p::P,w::vs,i+1,m,nd,h1,h2,hk=>by
  show bindL kindOf ((p,w)::P.zip vs) m x=_;unfold bindL;exact ze1 (i:=i) (Di.mp nd).2 (by simpa using h1) (by simpa using h2) hk
def zeJ{kindOf:A4->Option DI}{x:A4}{v:AH}:∀{P:List A4} {vs:List AH} {i:Nat} {m:A4->Option AH},P.Nodup->P[i]?=AA x->vs[i]?=AA v->kindOf x≠AA .local ->
  bindC kindOf (P.zip vs) m x=AA v
 |[],_,_,_,_,h,_,_=>by simp at h
 |_::_,[],_,_,_,_,h,_=>by simp at h
 |p::P,w::vs,0,m,nd,h1,h2,hk=>by
  simp at h1 h2;subst h1;subst h2;show bindC kindOf ((p,w)::P.zip vs) m p=_;unfold bindC;rw[zej λv hv=>(Di.mp nd).1 (Dj hv).1,if_neg hk];simp
 |p::P,w::vs,i+1,m,nd,h1,h2,hk=>by
  show bindC kindOf ((p,w)::P.zip vs) m x=_;unfold bindC;exact zeJ (i:=i) (Di.mp nd).2 (by simpa using h1) (by simpa using h2) hk
def start(N:List A4)(vs:List V):St:=vs.map AA++AS (N.length-vs.length) AD
def yaU(CX:CXT)(P:Af)(w:Aw)(K:AG)(mg:A4->Option AH)(base:BU)(N:List A4)(qual:A4)(scope:Bj)(f:AJ)(cd:AH)(A:BC)(outer:List Env)(s:AK)(H:Hp)(E:XK):Cx where
 prog:=P
 w:=w
 K:=K
 mg:=mg
 base:=base
 A:=A.deeper (envOfC qual scope s.heap.objs.size f cd)
 N:=N
 s₀:=s
 H₀:=H
 env:=envOfC qual scope s.heap.objs.size f cd
 outer:=outer
 stack:=envOfC qual scope s.heap.objs.size f cd::outer
 ex:=[]
 calm:=AB
 fn:=λ_=>AB
 pn:=[]
 xe:=λe s'=>Al (model P w) (A.deeper (envOfC qual scope s.heap.objs.size f cd)) («leaving» (envOfC qual scope s.heap.objs.size f cd) e) (λ_ s''=>CX outer H s E e s'') (λe' s''=>CX outer H s E e' s'') s'
def zg5{sc:Bj}{n:Nat}{x:A4}(h:sc.names.lookup x=AA .cell):∃c,(cellsFrom n sc.names []).lookup x=AA c:=by
 have q:=DJ sc.names n [] (.inl h);exact Ap.mp q
def zem{CX:CXT}{P:Af}{w:Aw}{K:AG}{mg:A4->Option AH}{base:BU}{N ps:List A4}{qual:A4}{scope:Bj}{f:AJ}{cd:AH}{A:BC}{outer:List Env}{s s1:AK}{H:Hp}{E:XK}{us:List AH}{vs:List V}
  (S:yaN N ps scope) (hd:A.handled=AD) (e0:yc3 P w K mg base A outer s H) (hl:vs.length=ps.length) (r:Vals vs us)
  (x:InCallC s s.heap.objs.size (bindL (envOfC qual scope s.heap.objs.size f cd).kindOf (ps.zip us) λ_=>AD) (cellsFrom (s.heap.objs.size+1) scope.names []) (bindC (envOfC qual scope s.heap.objs.size f cd).kindOf (ps.zip us) λ_=>AD) s1):
  Inv (yaU CX P w K mg base N qual scope f cd A outer s H E) [] (start N vs) H s1:=by
 have hpl:ps.length<=N.length:=by have:=congrArg C7 S.pre;rw[DX]at this;lia
 let⟨h1,tk,rfl,hk⟩:=x.done;have noA:∀b:AJ,b∉(yaU CX P w K mg base N qual scope f cd A outer s H E).ex:=λb z=>absurd (show b∈([]:List AJ)from z) (by simp);refine⟨⟨e0.mod,S.kind,rfl,rfl,A0 _,λy z c h1 h2=>?_,λy hy=>?_,λy c _ h=>?_,λ_=>hd,Around.frames_deeper e0.frames,.inr ⟨rfl,rfl⟩,λb z=>absurd z (noA b),e0.bs,e0.bsz,λb _ _=>noA b,λb z=>absurd z (noA b),e0.funs,e0.frf⟩,
  rfl,e0.bare,Un.kept hk,⟨_,x.toInCall.ns,λi y v h1 h2 h3=>?_⟩,λy c h=>⟨_,x.cell y c h⟩,e0.hok.fresh (A0 _),λy c h=>?_,λp hp=>absurd (show p∈([]:List (AJ×CA))from hp) (by simp),e0.hok.kept hk,?_⟩
 .exact name_of_addr x.apart (C2 h1) (C2 h2)
 .have hy:scope.names.lookup y=AA .cell \/ scope.names.lookup y=AA .free:=hy;rcases hy with hy|hy
  .exact zg5 hy
  .exact absurd rfl (S.nofree _ (C2 hy))
 .exact Ej (x.above y c (C2 h))
 .have hi:i<vs.length:=by
   unfold start at h2
   by_cases hi:i<vs.length
   .exact hi
   .rw[BE (by simpa using hi)]at h2;rw[Ed]at h2;split at h2<;>cases h2
  have ha:vs[i]?=AA v:=by
   unfold start at h2;rw[Ay (by simpa using hi),Bu]at h2
   cases e:vs[i]? with
   |none=>rw[e]at h2;cases h2
   |some a=>rw[e]at h2;cases h2;rfl
  let⟨u,hu,rv⟩:=r.get ha;have hp:ps[i]?=AA y:=by
   rw[<-S.pre,List.getElem?_take_of_lt ∅];exact h1
  have ndP:ps.Nodup:=by rw[<-S.pre];exact S.nd.sublist (List.take_sublist _ _)
  refine⟨u,rv,?_⟩;rcases S.par y (A3 hp)with k|k
  .exact .inl ⟨k,ze1 ndP hp hu k⟩
  .let⟨c,e⟩:=zg5 (n:=s.heap.objs.size+1) k;refine .inr ⟨.inl k,c,e,?_⟩;have q:=x.cell y c e;rw[zeJ ndP hp hu (by show scope.names.lookup y≠_;rw[k];decide)]at q;exact q
 .exact e0.hok.fresh (Ej (x.above y c (C2 h)))
 .unfold start;show _=N.length;rw[Av,BN,List.length_replicate];lia
def zqS{CX:CXT}{P:Af}{w:Aw}{K:AG}{mg:A4->Option AH}{base:BU}{k:Nat}{f:AJ}{name qual:A4}{params:Arguments}{body:List By}{scope:Bj}{dV kV doc pm cdv ct oc:AH}{an od:Option AJ}
  {osl:Array (Option AH)} {N ps:List A4} {sp:Sp} (lk:K.lookup f=AA ⟨oc,od,.func (Bc name qual params body scope dV kV doc pm an cdv ct),osl⟩) (hcd:CM K cdv qual=AB) (S:yaN N ps scope)
  (len:∀vs H Q E,sp vs H Q E->vs.length=ps.length)
  (hbody:∀(A:BC) (outer:List Env) (s:AK) (H:Hp) (vs:List V) (Q:VK) (E:XK),yaW k (A.deeper (envOfC qual scope s.heap.objs.size f cdv))->sp vs H Q E ->
   ∃t,PSs (yaU CX P w K mg base N qual scope f cdv A outer s H E) body t/\t {nx:=λ_ H'=>Q .non H',rt:=Q} (start N vs) H):
  ybj P w K mg base CX (k+1) f (Bc name qual params body scope dV kV doc pm an cdv ct) ps sp:=by
 refine⟨len,λA outer s H args us vs Q E hr e0 hb r hsp=>?_⟩;have hl:=len _ _ _ _ hsp;have KX:K.In s.heap:=e0.mod.kin.keeps λb o e=>(e0.bs b o e).1;have lim:s.heap.NoLimit:=e0.mod.nolimit.keeps λb o e=>(e0.bs b o e).1;have hkind:∀y∈ps.zip us,scope.names.lookup y.1=AA .local \/ (scope.names.lookup y.1=AA .cell/\((cellsFrom (s.heap.objs.size+1) scope.names []).lookup y.1).isSome=AB):=λ⟨n,v⟩ hy=>by
  rcases S.par n (Dj hy).1 with q|q
  .exact .inl q
  .exact .inr ⟨q,DJ _ _ _ (.inl q)⟩
 refine FD hr.depth (KX _ _ lk) rfl S.co S.gen rfl (Ft KX hcd) (hb _ _ _ _ ?_);refine Dz S.kind hkind λenv he s1 x=>?_;subst he;refine⟨lim.keeps x.toInCall.keep,codeAny_func ?_⟩;let⟨t,ht,hq⟩:=hbody A outer s H vs Q E (hr.deeper _) hsp;have I:Inv (yaU CX P w K mg base N qual scope f cdv A outer s H E) [] (start N vs) H s1:=zem S hr.hd e0 hl r x;refine CL (ht [] s1 (start N vs) H _ I hq) (λfl s' hs=>?_) λe s' hs=>hs;have fin:∀{σ':St} {H':Hp} {v:V} {u:AH},Inv (yaU CX P w K mg base N qual scope f cdv A outer s H E) [] σ' H' s'->RelV v u->Q v H'->CE outer P w H s Q u s':=
  λ{σ' H' v u} J rv q=>⟨v,H',J.os,J.bare,J.base,J.hok,rv,q⟩
 cases fl with
 |ret u=>
  let⟨v,σ',H',J,rv,q⟩:=hs;exact fin J rv q
 |next=>
  let⟨σ',H',J,q⟩:=hs;exact fin (v:=V.non) (u:=CJ) J rfl q
 |brk=>
  let⟨_,_,_,q⟩:=hs;exact Bk q
 |cont=>
  let⟨_,_,_,q⟩:=hs;exact Bk q
section
variable {X:Cx}{x:A4}{p pos:CW}{e:AZ}{es:List AZ}{t:TA}{id T:String}{r:List V->Hp->VK->Prop}
def tCB(r:List V->Hp->VK->Prop)(t:TA):TE:=λσ H Q=>t σ H λvs H1=>r vs H1 Q
def zg1(hc:yad X (.builtin id) r)(hg:Gl X x)(hm:X.mg x=AD)(hv:bootBuiltins x=AA (.builtin id))(ha:PA X (e::es) t)(hn:x ≠ "__name__":=by decide)(hdb:(x==("__debug__":A4))=false:=by decide)
  (he:starEach (e::es) X.env=(AC,eval e X.env)::starEach es X.env:=by rfl) (hpl:(backTo pos (starEach es X.env)).any (·.1)=false:=by rfl):PE X (.Call (.Name x p) (e::es) [] pos) (tCB r t):=by
 intro π s σ H Q I h;refine Br (zdm I hg hm hv ?_ hn hdb);exact GW (thn (ha pos π s σ H _ I h) λus s1 ⟨vs,H1,I1,r1,q1⟩=>hc π s1 σ H1 vs us Q I1 r1 q1) he hpl
def zeG(hc:yad X (.type T) r)(hg:Gl X x)(hm:X.mg x=AD)(hv:bootBuiltins x=AA (.type T))(ha:PA X (e::es) t)(hn:x ≠ "__name__":=by decide)(hdb:(x==("__debug__":A4))=false:=by decide)
  (he:starEach (e::es) X.env=(AC,eval e X.env)::starEach es X.env:=by rfl) (hpl:(backTo pos (starEach es X.env)).any (·.1)=false:=by rfl):PE X (.Call (.Name x p) (e::es) [] pos) (tCB r t):=by
 intro π s σ H Q I h;refine Br (zdm I hg hm hv ?_ hn hdb);exact CB (thn (ha pos π s σ H _ I h) λus s1 ⟨vs,H1,I1,r1,q1⟩=>hc π s1 σ H1 vs us Q I1 r1 q1) he hpl
end
end L2
namespace HT
open PySem PyProof.Rows
section
open PySem.SeqAt
open PySem.AutoSeq1 (wpAny_loadPart')
open PySem.MeetsSeq PySem.MeetsSeq2 PySem.MeetsSeq3
end
section
variable {prog:Af}{w:Aw}{A:BC}{E:AH->AK->Prop}{s:AK}
theorem cat_tup{t b:AJ}{vs ws:List AH}{Q:AH->AK->Prop}(ht:G9 s.heap t vs.toArray)(hb:G9 s.heap b ws.toArray)(hv:vs≠[])
  (h1:ws=[]->Q (.ref t) s) (h2:ws≠[]->Q (.ref s.heap.objs.size) {s with heap:=s.heap.push {cls:=.type "tuple",data:=.seq (vs++ws).toArray} })
  (hsz:vs.length+ws.length<=sizeLine):Al (model prog w) A (binaryOp .Add (.ref t) (.ref b)) Q E s:=by
 let⟨⟨cls,dd,data,sl⟩,ho,hc,n,hd⟩:=id ht;let⟨⟨cls2,dd2,data2,sl2⟩,ho2,hc2,n2,hd2⟩:=id hb;simp only at hc hd hc2 hd2;subst hc hd hc2 hd2;have e:vs.toArray++ws.toArray=(vs++ws).toArray:=by simp
 by_cases hw:ws=[]
 .exact GH ⟨_,ho,rfl⟩ ⟨_,ho2,rfl⟩ C3 Cy Bp Bl (Bi _ _)
   (tuple_addW1 t b vs.toArray ws.toArray n n2 dd dd2 sl sl2 (by simpa using hv) (by simp[hw])) ⟨ho,ho2,h1 hw⟩
 .refine GH ⟨_,ho,rfl⟩ ⟨_,ho2,rfl⟩ C3 Cy Bp Bl (Bi _ _)
   (tuple_addW2 t b vs.toArray ws.toArray n n2 dd dd2 sl sl2 (by simpa using hv) (by simpa using hw) (by rw[AV,AV];exact hsz)) ⟨ho,ho2,?_⟩
  rw[e];exact h2 hw
def sIx(n d:Nat):Option Int->Nat
 |none=>d
 |some v=>if v<0 then(v+(n:Int)).toNat else min v.toNat n
theorem sIx_le(n d:Nat)(hd:d<=n)(o:Option Int):sIx n d o<=n:=by
 cases o with
 |none=>exact hd
 |some v=>
  show (if v<0 then(v+(n:Int)).toNat else min v.toNat n)<=n
  by_cases hv:v<0
  .rw[if_pos hv];lia
  .rw[if_neg hv];exact Nat.min_le_right _ _
def zis(v:Int)(n d:Nat):(if v<0 then max (v+(n:Int)) 0 else min v (n:Int))=((sIx n d (AA v):Nat):Int):=by
 show (if v<0 then max (v+(n:Int)) 0 else min v (n:Int))=(((if v<0 then(v+(n:Int)).toNat else min v.toNat n):Nat):Int)
 by_cases hv:v<0
 .simp only[if_pos hv];lia
 .simp only[if_neg hv];lia
def zhS(lo hi:Option Int)(n:Nat):Cv lo hi 1 (n:Int)=(((sIx n 0 lo:Nat):Int),((sIx n n hi:Nat):Int)):=by
 have h1:¬((1:Int)<0):=by lia
 unfold Cv;erw[h1,if_false];refine Prod.ext ?_ ?_
 .cases lo with
  |none=>rfl
  |some v=>exact zis v n 0
 .cases hi with
  |none=>rfl
  |some v=>exact zis v n n
def zhV(i j:Nat):CQ (i:Int) (j:Int) 1=j-i:=by
 unfold CQ;have h1:(1:Int) > 0:=by lia
 erw[h1,if_true,CC];split<;>lia
def zdv{v:AH}{o:Option Int}{Q:Option Int->AK->Prop}(p:En v o)(h:Q o s):Al (model prog w) A (G3 v) Q E s:=by
 cases p with
 |none=>exact slicePart_none h
 |int i t=>exact slicePart_int h
theorem sliceApplied_gen{sl:AJ}{vl vu:AH}{lo hi:Option Int}{n:Nat}{Q:Int×Int×Nat->AK->Prop}(hs:s.heap.IsSliceOf sl vl vu .none)(pl:En vl lo)(pu:En vu hi)
  (h:Q (((sIx n 0 lo:Nat):Int),1,sIx n n hi-sIx n 0 lo) s):Al (model prog w) A (EA (.ref sl) (pure (n:Int))) Q E s:=by
 let⟨os,hos,hcs,hds⟩:=id hs;unfold EA Go;refine AO (AO (C8 hos hds (x:=vl) rfl (AO (C8 hos hds (x:=vu) rfl (AO (C8 hos hds (x:=.none) rfl (Ag ?_)))))));refine AO (slicePart_none ?_);show Al _ _ (if ((1:Int)==0)=AB then _ else _) _ _ s;rw[if_neg ⋯];refine AO (zdv pl (AO (zdv pu (AO (Ag ?_)))));show Al _ _ (match Cv lo hi 1 (n:Int)with|(lo,hi)=>pure (lo,(1:Int),CQ lo hi 1)) _ _ s;rw[zhS lo hi n];show Al _ _ (pure (((sIx n 0 lo:Nat):Int),(1:Int),CQ ((sIx n 0 lo:Nat):Int) ((sIx n n hi:Nat):Int) 1)) _ _ s;rw[zhV];exact Ag h
def zkh(xs:Array AH)(i k:Nat):((CK k).filterMap λ(m:Nat)=>xs[((i:Int)+(m:Int)*1).toNat]?).toArray=((xs.toList.drop i).take k).toArray:=by
 have e:(λ(m:Nat)=>xs[((i:Int)+(m:Int)*1).toNat]?)=λm=>xs[i+m]?:=by
  funext m
  have:((i:Int)+(m:Int)*1).toNat=i+m:=by lia
  rw[this]
 rw[e];have:=pick_run xs i k;rw[List.filterMap_map]at this;have e2:((λx=>xs[x]?) ∘ λx=>i+x)=λm=>xs[i+m]?:=rfl;rw[e2]at this;rw[this]
theorem getItem_tuple_cut{t sl:AJ}{items:Array AH}{vl vu:AH}{lo hi:Option Int}{Q:AH->AK->Prop}(ht:G9 s.heap t items)(hs:s.heap.IsSliceOf sl vl vu .none)(pl:En vl lo)(pu:En vu hi)
  (hw:¬(sIx items.size 0 lo=0/\sIx items.size items.size hi=items.size))
  (h:Q (.ref s.heap.objs.size) {s with heap:=s.heap.push {cls:=.type "tuple",data:=.seq ((items.toList.drop (sIx items.size 0 lo)).take (sIx items.size items.size hi-sIx items.size 0 lo)).toArray} })
  (hsz:items.size<=sizeLine):Al (model prog w) A (getItem (.ref t) (.ref sl)) Q E s:=by
 have htake:sizeOk (.seq ((items.toList.drop (sIx items.size 0 lo)).take (sIx items.size items.size hi-sIx items.size 0 lo)).toArray):=by
  show ((items.toList.drop (sIx items.size 0 lo)).take (sIx items.size items.size hi-sIx items.size 0 lo)).toArray.size<=sizeLine;rw[AV,DX,Ee,Bz];lia
 have hj:sIx items.size items.size hi<=items.size:=sIx_le _ _ (A0 _) hi;let⟨os,hos,hcs,hds⟩:=id hs;have hTs:s.TypeIs (.ref sl) "slice":=⟨os,hos,hcs⟩;unfold getItem
 try with_reducible refine D7 ?_
 first|refine AO (Ag ?_)|skip
 refine AO (GI ht.typeIs ⋯ ?_);refine AO (C4 (name:=A2 "__getitem__") ht.typeIs BP
  (DY BP ht.typeIs F5 ?_ (Fu _ _)))
 show Al _ _ (EB (.ref t) >>= _) _ _ s;refine AO (F1 ht ?_);refine AO (GJ hTs ?_);rw[if_pos ⋯];refine AO (sliceApplied_gen hs pl pu ?_);have hno:¬((((sIx items.size 0 lo:Nat):Int)==0&&(1:Int)==1&&(sIx items.size items.size hi-sIx items.size 0 lo)==items.size)=AB):=by
  intro q;rw[AI,AI]at q;have q1:((sIx items.size 0 lo:Nat):Int)=0:=eq_of_beq q.1.1;have q2:sIx items.size items.size hi-sIx items.size 0 lo=items.size:=eq_of_beq q.2;exact hw ⟨by lia,by lia⟩
 show Al _ _ (if (((sIx items.size 0 lo:Nat):Int)==0&&(1:Int)==1&&(sIx items.size items.size hi-sIx items.size 0 lo)==items.size)=AB then _ else _) _ _ s;rw[if_neg hno,zkh]
 first
  |exact AO (m:=C0 _) (Bn (Ag ⟨_,rfl,Ag h⟩) htake)
  |exact AO (m:=C0 _) (Bn (AO (Ag (Ag ⟨_,rfl,Ag h⟩))) htake)
  |exact AO (AO (m:=C0 _) (Bn (Ag (Ag ⟨_,rfl,Ag h⟩)) htake))
  |exact AO (AO (m:=C0 _) (Bn (Ag ⟨_,rfl,Ag h⟩) htake))
end
end HT
namespace L2
open PySem PySem.Spec PyProof.Rows
abbrev TO:=St->Hp->(Option Int->Hp->Prop)->Prop
def PO(X:Cx)(e:Option AZ)(t:TO):Prop:=
 ∀(π:List (AJ×CA)) (s:AK) (σ:St) (H:Hp) (Q:Option Int->Hp->Prop),Inv X π σ H s->t σ H Q ->
  Al (model X.prog X.w) X.A (evalPart e X.env) (λu s'=>∃o H',Inv X π σ H' s'/\En u o/\Q o H') X.xe s
def ycK:TO:=λ_ H Q=>Q AD H
def zhF{ns:List Int}:∀{us:List AH},Vals (ns.map V.int) us->F2 us ns:=by
 induction ns with
 |nil=>intro us r;rw[A9]at r;cases r;exact .nil
 |cons n ns ih=>
  intro us r;rw[AM]at r
  cases r with
  |cons r1 r2=>
   let⟨t,e⟩:=r1;subst e;exact .cons n t (ih r2)
section
variable {X:Cx}{e:AZ}{te:TE}{lo hi:Option AZ}{tl th:TO}{pos p2:CW}
def znL:PO X AD ycK:=by
 intro π s σ H Q I h;rw[evalPart_none];exact Ag ⟨AD,H,I,.none,h⟩
def SlR(X:Cx)(r:V->Option Int->Option Int->Hp->VK->Prop):Prop:=
 ∀(π:List (AJ×CA)) (s:AK) (σ:St) (H:Hp) (x:V) (v vl vu:AH) (lo hi:Option Int) (sl:AJ) (Q:VK),Inv X π σ H s->RelV x v->s.heap.IsSliceOf sl vl vu .none->En vl lo->En vu hi->r x lo hi H Q ->
  ∃T id,typeLookup (.type T) "__getitem__"=pure (AA (.builtin id))/\s.TypeIs v T/\Al (model X.prog X.w) X.A (getItem v (.ref sl)) (EP X π σ Q) X.xe s
def tSl(r:V->Option Int->Option Int->Hp->VK->Prop)(te:TE)(tl th:TO):TE:=λσ H Q=>te σ H λx H1=>tl σ H1 λl H2=>th σ H2 λu H3=>r x l u H3 Q
def zkD{r:V->Option Int->Option Int->Hp->VK->Prop}(hr:SlR X r)(he:PE X e te)(hl:PO X lo tl)(hu:PO X hi th):PE X (.Subscript e (.Slice lo hi AD p2) pos) (tSl r te tl th):=by
 intro π s σ H Q I h;refine Ge (thn (he π s σ H _ I h) λv s1 kq=>?_);let⟨x,H1,I1,r1,q1⟩:=kq;refine wpAny_Slice (thn (hl π s1 σ H1 _ I1 q1) λvl s2 kq=>?_);let⟨l,H2,I2,pl,q2⟩:=kq;refine thn (hu π s2 σ H2 _ I2 q2) λvu s3 kq=>?_;let⟨u,H3,I3,pu,q3⟩:=kq;rw[evalPart_none];refine Ag ?_;have I4:Inv X π σ H3 {s3 with heap:=s3.heap.push {cls:=.type "slice",data:=.fields #[vl,vu,.none]} }:=I3.kept (t':=s3.toks) λb ob q=>A6 _ q;let⟨T,id,hT,ht,hg⟩:=hr π {s3 with heap:=s3.heap.push {cls:=.type "slice",data:=.fields #[vl,vu,.none]} } σ H3 x v vl vu l u s3.heap.objs.size Q I4 r1 (Hg ..) pl pu q3;show Al (model X.prog X.w) X.A (subscriptTail e (.Slice lo hi AD p2) v (.ref s3.heap.objs.size)) (EP X π σ Q) X.xe {s3 with heap:=s3.heap.push {cls:=.type "slice",data:=.fields #[vl,vu,.none]} };exact tail_any (ops:=[.ref s3.heap.objs.size,v]) ht hT hg (by ac_rfl)
def ycB(xs:List V)(lo hi:Option Int):List V:=(xs.drop (HT.sIx xs.length 0 lo)).take (HT.sIx xs.length xs.length hi-HT.sIx xs.length 0 lo)
def zcD(xs:List V)(lo hi:Option Int):(ycB xs lo hi).length<=xs.length:=by
 unfold ycB;rw[DX,Ee];lia
def ygU(K:AG):V->Option Int->Option Int->Hp->VK->Prop:=λx lo hi H Q=>∃a xs,x=.ref a/\SqT K H a xs /\
 ¬(HT.sIx xs.length 0 lo=0/\HT.sIx xs.length xs.length hi=xs.length)/\∀p,H p=AD->Q (.ref p) (upd H p (.tup (ycB xs lo hi)))
def zoF:SlR X (ygU X.K):=by
 intro π s σ H x v vl vu lo hi sl Q I rx hs pl pu h;let⟨a,xs,rfl,hx,hw,q⟩:=h
 cases rx
 let⟨its,r,ht,hz⟩:=I.tuple hx;have hlen:its.toArray.size=xs.length:=by rw[AV];exact r.length.symm
 refine⟨"tuple",_,BP.lookup,ht.typeIs,?_⟩;refine HT.getItem_tuple_cut ht hs pl pu (by rw[hlen];exact hw) ?_ (by rw[hlen];exact hz);rw[hlen];refine⟨.ref s.heap.objs.size,_,I.laid (t':=s.toks) (o:=.tup (ycB xs lo hi)) (λb ob q=>A6 _ q) (A0 _) ?_,rfl,q _ (I.hok.fresh (A0 _))⟩;exact⟨B5 (zcD xs lo hi) hz,_,(r.drop (HT.sIx xs.length 0 lo)).take (HT.sIx xs.length xs.length hi-HT.sIx xs.length 0 lo),F0 _ _⟩
def yfa(K:AG):R2:=λx y H Q=>∃a b xs ys,x=.ref a/\y=.ref b/\SqT K H a xs/\SqT K H b ys/\xs≠[]/\xs.length+ys.length<=sizeLine /\
 (ys=[]->Q (.ref a) H)/\(ys≠[]->∀p,H p=AD->Q (.ref p) (upd H p (.tup (xs++ys))))
theorem Vals.nil_iff{xs:List V}{us:List AH}(r:Vals xs us):us=[] ↔ xs=[]:=by
 cases r with
 |nil=>simp
 |cons _ _=>simp
def zmX:OpR X (binaryOp .Add) (yfa X.K):=by
 intro π s σ H x y v u Q I rx ry h;let⟨a,b,xs,ys,rfl,rfl,ha,hb,hx,hz,q1,q2⟩:=h
 cases rx
 cases ry
 let⟨its,r1,p1,_⟩:=I.tuple ha;let⟨its2,r2,p2,_⟩:=I.tuple hb;refine HT.cat_tup p1 p2 (λz=>hx (r1.nil_iff.mp z)) (λz=>⟨.ref a,H,I,rfl,q1 (r2.nil_iff.mp z)⟩) (λz=>?_) (by rw[<-r1.length,<-r2.length];exact hz);refine⟨.ref s.heap.objs.size,_,I.laid (t':=s.toks) (o:=.tup (xs++ys)) (λb ob q=>A6 _ q) (A0 _) ?_,rfl,q2 (λw=>z (r2.nil_iff.mpr w)) _ (I.hok.fresh (A0 _))⟩;exact⟨by rw[Av];exact hz,_,r1.append r2,F0 _ _⟩
end
def ixN(n:Nat)(i:Int):Option Nat:=if 0<=i then(if i<n then AA i.toNat else AD)else if -(n:Int)<=i then AA (i+n).toNat else AD
def atI{α:Type}(xs:List α)(i:Int):Option α:=(ixN xs.length i).bind λj=>xs[j]?
def zjU{n:Nat}{i:Int}{j:Nat}(h:ixN n i=AA j):seqIndex? i n=AA j/\j<n/\-(n:Int)<=i/\i<n:=by
 unfold ixN at h
 by_cases h0:0<=i
 .rw[if_pos h0]at h
  by_cases h1:i<n
  .rw[if_pos h1]at h;have e:i.toNat=j:=A8 h;exact⟨by rw[G1 h0 h1,e],by lia,by lia,h1⟩
  .rw[if_neg h1]at h;cases h
 .rw[if_neg h0]at h
  by_cases h1:-(n:Int)<=i
  .rw[if_pos h1]at h;have e:(i+n).toNat=j:=A8 h;exact⟨by rw[seqIndex_neg ∅ h1,e],by lia,h1,by lia⟩
  .rw[if_neg h1]at h;cases h
def zft{α:Type}{xs:List α}{i:Int}{v:α}(h:atI xs i=AA v):∃j,seqIndex? i xs.length=AA j/\xs[j]?=AA v/\j<xs.length/\-(xs.length:Int)<=i/\i<xs.length:=by
 unfold atI at h
 cases e:ixN xs.length i with
 |none=>rw[e]at h;cases h
 |some j=>
  rw[e]at h;let⟨h1,h2,h3,h4⟩:=zjU e;exact⟨j,h1,h,h2,h3,h4⟩
def ybB(b:AZ):Prop:=∀o i,subscripted b AC o i=operate [o,i] (getItem o i)
def IxR(X:Cx)(r:R2):Prop:=
 ∀(value slice:AZ) (π:List (AJ×CA)) (s:AK) (σ:St) (H:Hp) (x y:V) (v u:AH) (Q:VK),Inv X π σ H s->RelV x v->RelV y u->r x y H Q ->
  subscripted slice AC v u=operate [v,u] (getItem v u)->Al (model X.prog X.w) X.A (subscriptTail value slice v u) (EP X π σ Q) X.xe s
def MtR(X:Cx)(id:String)(r:V->List V->Hp->VK->Prop):Prop:=
 ∀(π:List (AJ×CA)) (s:AK) (σ:St) (H:Hp) (x:V) (xs:List V) (v:AH) (us:List AH) (Q:VK),Inv X π σ H s->RelV x v->Vals xs us->r x xs H Q ->
  Al (model X.prog X.w) X.A (call (.builtin id) (v::us)) (EP X π σ Q) X.xe s
section
variable {X:Cx}{a b:AZ}{ta tb:TE}{pos:CW}
theorem IxR.or{r r':R2}(h:IxR X r)(h':IxR X r'):IxR X (λx y H Q=>r x y H Q \/ r' x y H Q):=by
 intro value slice π s σ H x y v u Q I rx ry q hs;rcases q with q|q
 .exact h value slice π s σ H x y v u Q I rx ry q hs
 .exact h' value slice π s σ H x y v u Q I rx ry q hs
def zqo{r:R2}(hr:IxR X r)(ha:PE X a ta)(hb:PE X b tb)(hs:ybB b):PE X (.Subscript a b pos) (tOp r ta tb):=by
 intro π s σ H Q I h;exact Ge (zjo ha hb I h λv u s2 x y H2 I2 rx ry q=>hr a b π s2 σ H2 x y v u Q I2 rx ry q (hs _ _))
def yfB(K:AG):R2:=λx y H Q=>∃p xs i v,x=.ref p/\y=.int i/\SqL K H p xs/\atI xs i=AA v/\Q v H
def yfl(K:AG):R2:=λx y H Q=>∃p xs i v,x=.ref p/\y=.int i/\SqT K H p xs/\atI xs i=AA v/\Q v H
def yfo:R2:=λx y H Q=>∃z i c,x=.str z/\y=.int i/\z.length<=sizeLine/\atI z.cps.toList i=AA c/\Q (.str ⟨#[c]⟩) H
def zpZ:IxR X (yfB X.K):=by
 intro value slice π s σ H x y v u Q I rx ry h hs;let⟨p,xs,i,z,rfl,rfl,hq,he,q⟩:=h
 cases rx
 let⟨t,rfl⟩:=ry;let⟨its,r,pl,hz⟩:=I.list hq;let⟨j,h1,h2,h3,h4,h5⟩:=zft he;let⟨w,ew,rw'⟩:=r.get h2;have hl:=r.length;have hn:=zgo;have fin:EP X π σ Q w s:=⟨z,H,I,rw',q⟩
 by_cases h0:0<=i
 .have hj:i.toNat=j:=by
   rw[G1 h0 h5]at h1;exact A8 h1
  exact item_listR pl.isList h0 ∅ (by rw[hj];simpa using ew) fin hs
 .have hj:(i+(its.toArray.size:Int)).toNat=j:=by
   rw[seqIndex_neg ∅ h4]at h1;rw[AV,<-hl];exact A8 h1
  exact Eo (x:=w) pl.isList.typeIs GL.lookup
   (wpAny_getItem_list_neg (Q:=λr s'=>r=w/\EP X π σ Q r s') pl.isList ∅ (by rw[AV]<;>lia) ∅ (by rw[hj];simpa using ew) ⟨rfl,fin⟩) hs
def zqF:IxR X (yfl X.K):=by
 intro value slice π s σ H x y v u Q I rx ry h hs;let⟨p,xs,i,z,rfl,rfl,hq,he,q⟩:=h
 cases rx
 let⟨t,rfl⟩:=ry;let⟨its,r,pl,hz⟩:=I.tuple hq;let⟨j,h1,h2,h3,h4,h5⟩:=zft he;let⟨w,ew,rw'⟩:=r.get h2;have hl:=r.length;have hn:=zgo;have fin:EP X π σ Q w s:=⟨z,H,I,rw',q⟩;exact Eo (x:=w) pl.typeIs BP.lookup
  (getItem_tuple (j:=j) (Q:=λr s'=>r=w/\EP X π σ Q r s') pl ∅ ∅ (by rw[AV,<-hl];exact h1) (by simpa using ew) ⟨rfl,fin⟩) hs
def zow:IxR X yfo:=by
 intro value slice π s σ H x y v u Q I rx ry h hs;let⟨z,i,c,rfl,rfl,hz,he,q⟩:=h;let⟨t,rfl⟩:=rx;let⟨t',rfl⟩:=ry;let⟨j,h1,h2,h3,h4,h5⟩:=zft he;have hl:z.cps.toList.length=z.length:=by simp[Gf]
 rw[hl]at h1 h4 h5;have hn:=zgo;exact tail_any (Gg s z t) slot_str_getitem.lookup (getItem_str (c:=c) (by
  have e1:decide (i < -(2^63:Int))=false:=decide_eq_false ∅;have e2:decide (i ≥ 2^63)=false:=decide_eq_false ∅;rw[e1,e2,Gr]) (by rw[h1];simpa using h2) ⟨.str ⟨#[c]⟩,H,I.tok _,⟨_,rfl⟩,q⟩) hs
def rIx(K:AG):R2:=λx y H Q=>yfB K x y H Q \/ yfl K x y H Q \/ yfo x y H Q
def zgQ:IxR X (rIx X.K):=zpZ.or (zqF.or zow)
def zhe(its:List AH)(n j:Nat)(u:AH):Ep (·.setIfInBounds j u) {cls:=.type "list",data:=.seq its.toArray n}={cls:=.type "list",data:=.seq (its.set j u).toArray n}:=by
 simp[Ep]
theorem Inv.lst{π:List (AJ×CA)}{σ:St}{H:Hp}{s:AK}{p:AJ}{xs:List V}(I:Inv X π σ H s)(h:H p=AA (.lst xs)):
  ∃(its:List AH) (n:Nat),Vals xs its/\s.heap.get? p=AA {cls:=.type "list",data:=.seq its.toArray n}/\xs.length<=sizeLine:=by
 let⟨z,its,n,r,e⟩:=I.hok p _ h;exact⟨its,n,r,e,z⟩
theorem Inv.lstUpd{π:List (AJ×CA)}{σ:St}{H:Hp}{s:AK}{p:AJ}{xs ys:List V}{its its':List AH}{n n':Nat}{f:CA->CA}(I:Inv X π σ H s)(h:H p=AA (.lst xs))
  (ho:s.heap.get? p=AA {cls:=.type "list",data:=.seq its.toArray n}) (hf:f {cls:=.type "list",data:=.seq its.toArray n}={cls:=.type "list",data:=.seq its'.toArray n'}) (r:Vals ys its') (hz:ys.length<=sizeLine) (t:Nat):
  Inv X π σ (upd H p (.lst ys)) {s with heap:=s.heap.update p f,toks:=t}:=by
 have e:(s.heap.update p f).get? p=AA {cls:=.type "list",data:=.seq its'.toArray n'}:=by
  rw[FE f ho (by rw[hf]<;>rfl),hf]
 refine I.write (x:=p) (e:=p) (by rw[h];trivial) (.inl rfl) (λb u hb q=>(DL _ _ (Bf hb)).trans q) ⟨_,e⟩ ?_;exact⟨hz,its',n',r,e⟩
def ydu:V->V->V->Hp->(Hp->Prop)->Prop:=λo i v H Q=>∃p xs k j,o=.ref p/\i=.int k/\H p=AA (.lst xs)/\ixN xs.length k=AA j/\Q (upd H p (.lst (xs.set j v)))
def zgp:yfh X ydu:=by
 intro π s σ H o i v ov iv u Q I ro ri rv h;let⟨p,xs,k,j,rfl,rfl,hp,hj,q⟩:=h
 cases ro
 let⟨t,rfl⟩:=ri;let⟨its,n,r,ho,hz⟩:=I.lst hp;let⟨h1,h2,h3,h4⟩:=zjU hj;have hl:=r.length;have hn:=zgo;have I':Inv X π σ (upd H p (.lst (xs.set j v))) {s with heap:=s.heap.update p (Ep (·.setIfInBounds j u))}:=
  I.lstUpd hp ho (zhe its n j u) (r.set rv j) (by rw[Ba];exact hz) s.toks
 by_cases h0:0<=k
 .have hk:k.toNat=j:=by
   rw[G1 h0 h4]at h1;exact A8 h1
  exact PySem.W.ki_setAt ho h0 ∅ (by rw[AV,<-hl];exact h4) (by rw[hk];exact⟨_,I',q⟩)
 .have hk:(k+(its.toArray.size:Int)).toNat=j:=by
   rw[seqIndex_neg ∅ h3]at h1;rw[AV,<-hl];exact A8 h1
  exact PySem.W.ki_setBack ho ∅ (by rw[AV,<-hl];exact h3) ∅ (by rw[hk];exact⟨_,I',q⟩)
def zfd(lo hi:Option Int)(n:Nat):(sliceBounds lo hi AD n).1=((HT.sIx n 0 lo:Nat):Int)/\(sliceBounds lo hi AD n).2.1=((HT.sIx n n hi:Nat):Int)/\(sliceBounds lo hi AD n).2.2=1:=by
 refine⟨?_,?_,rfl⟩
 .cases lo with
  |none=>simp[sliceBounds,HT.sIx]
  |some i=>
   erw[sliceBounds,HT.sIx,GX,show (1:Int) > 0 by decide,if_true]
   by_cases h:i<0
   .simp only[h,if_true]<;>lia
   .simp only[h,if_false]<;>lia
 .cases hi with
  |none=>simp[sliceBounds,HT.sIx]
  |some i=>
   erw[sliceBounds,HT.sIx,GX,show (1:Int) > 0 by decide,if_true]
   by_cases h:i<0
   .simp only[h,if_true]<;>lia
   .simp only[h,if_false]<;>lia
def zdU(its:List AH)(lo hi:Option Int):slicePick its.toArray lo hi AD=((its.drop (HT.sIx its.length 0 lo)).take (HT.sIx its.length its.length hi-HT.sIx its.length 0 lo)).toArray:=by
 let⟨h1,h2,h3⟩:=zfd lo hi its.toArray.size;unfold slicePick;rw[h1,h2,h3];erw[sliceRange_one,pick_run,AV]<;>rfl
def ygT(K:AG):V->Option Int->Option Int->Hp->VK->Prop:=λx lo hi H Q=>∃a xs,x=.ref a/\SqL K H a xs/\∀p,H p=AD->Q (.ref p) (upd H p (.lst (ycB xs lo hi)))
def zjG:SlR X (ygT X.K):=by
 intro π s σ H x v vl vu lo hi sl Q I rx hs pl pu h;let⟨a,xs,rfl,hx,q⟩:=h
 cases rx
 let⟨its,r,ht,hz⟩:=I.list hx;have hlen:=r.length;refine⟨"list",_,GL.lookup,ht.isList.typeIs,?_⟩;refine wpAny_getItem_list_slice ht.isList hs pl pu .none (by simp) ?_ (by rw[AV]<;>lia);rw[zdU,<-hlen];refine⟨.ref s.heap.objs.size,_,I.laid (t':=s.toks) (o:=.lst (ycB xs lo hi)) (λb ob q=>A6 _ q) (A0 _) ?_,rfl,q _ (I.hok.fresh (A0 _))⟩;exact⟨B5 (zcD xs lo hi) hz,_,0,(r.drop (HT.sIx xs.length 0 lo)).take (HT.sIx xs.length xs.length hi-HT.sIx xs.length 0 lo),Au _ rfl⟩
def yaG:V->Bool
 |.non=>AB
 |.bl _=>AB
 |.int _=>AB
 |.str _=>AB
 |_=>AC
def eqV:V->V->Bool
 |.non,.non=>AB
 |.bl a,.bl b=>a==b
 |.bl a,.int b=>(if a then 1 else 0)==b
 |.int a,.bl b=>a==(if b then 1 else 0)
 |.int a,.int b=>a==b
 |.str a,.str b=>a==b
 |_,_=>AC
def zqh{A:BC}{s:AK}{y x:V}{u v:AH}(ry:RelV y u)(rx:RelV x v)(fy:yaG y=AB)(fx:yaG x=AB):Hh A s u v (eqV y x):=by
 cases y with
 |non=>
  cases ry
  cases x with
  |non=>cases rx;exact SeqAt.EqAt.same _
  |bl b=>cases rx;exact SeqAt.EqAt.none_bool b
  |int b=>let⟨t,rfl⟩:=rx;exact SeqAt.EqAt.none_int b t
  |str b=>let⟨t,rfl⟩:=rx;exact SeqAt.EqAt.none_str b t
  |_=>exact absurd (show AC=AB from fx) BD
 |bl a=>
  cases ry
  cases x with
  |non=>cases rx;exact SeqAt.EqAt.bool_none a
  |bl b=>cases rx;exact SeqAt.EqAt.bool_bool a b
  |int b=>let⟨t,rfl⟩:=rx;exact SeqAt.EqAt.bool_int a b t
  |str b=>let⟨t,rfl⟩:=rx;exact SeqAt.EqAt.bool_str a b t
  |_=>exact absurd (show AC=AB from fx) BD
 |int a=>
  let⟨t',rfl⟩:=ry
  cases x with
  |non=>cases rx;exact SeqAt.EqAt.int_none a t'
  |bl b=>cases rx;exact SeqAt.EqAt.int_bool a t' b
  |int b=>let⟨t,rfl⟩:=rx;exact SeqAt.EqAt.int_int a t' b t
  |str b=>let⟨t,rfl⟩:=rx;exact Fj a t' b t
  |_=>exact absurd (show AC=AB from fx) BD
 |str a=>
  let⟨t',rfl⟩:=ry
  cases x with
  |non=>cases rx;exact SeqAt.EqAt.str_none a t'
  |bl b=>cases rx;exact SeqAt.EqAt.str_bool a t' b
  |int b=>let⟨t,rfl⟩:=rx;exact Fk a t' b t
  |str b=>let⟨t,rfl⟩:=rx;exact SeqAt.EqAt.str_str a t' b t
  |_=>exact absurd (show AC=AB from fx) BD
 |_=>exact absurd (show AC=AB from fy) BD
def eqU(x:V)(u:AH):Bool:=match u with
 |.none=>eqV .non x
 |.bool b=>eqV (.bl b) x
 |.int i _=>eqV (.int i) x
 |.str z _=>eqV (.str z) x
 |_=>AC
def zel{x y:V}{u:AH}(r:RelV y u)(f:yaG y=AB):eqU x u=eqV y x:=by
 cases y with
 |non=>cases r;rfl
 |bl b=>cases r;rfl
 |int i=>let⟨t,rfl⟩:=r;rfl
 |str z=>let⟨t,rfl⟩:=r;rfl
 |_=>exact absurd (show AC=AB from f) BD
def zcW{x:V}:∀{xs:List V} {us:List AH},Vals xs us->xs.all yaG=AB->us.any (eqU x)=xs.any λy=>eqV y x
 |_,_,.nil,_=>rfl
 |y::xs,u::us,.cons r t,f=>by
  rw[B0,AI]at f;rw[BV,BV,zel r f.1,zcW t f.2]
def zas{A:BC}{s:AK}{x:V}{v:AH}(rx:RelV x v)(fx:yaG x=AB):∀{xs:List V} {us:List AH},Vals xs us->xs.all yaG=AB->∀u∈us,Hh A s u v (eqU x u)
 |_,_,.nil,_=>λu hu=>by cases hu
 |y::xs,u::us,.cons r t,f=>λu' hu=>by
  rw[B0,AI]at f;rcases BB.mp hu with rfl|hu
  .rw[zel r f.1];exact zqh r rx f.1 fx
  .exact zas rx fx t f.2 u' hu
def inV(x:V)(xs:List V):Bool:=xs.any λy=>eqV y x
def rIn(K:AG)(neg:Bool):R2:=λx y H Q=>∃p xs,y=.ref p/\(SqL K H p xs \/ SqT K H p xs)/\yaG x=AB/\xs.all yaG=AB/\Q (.bl (if neg then !inV x xs else inV x xs)) H
def ze6:OpR X (compareOp .In) (rIn X.K AC):=by
 intro π s σ H x y v u Q I rx ry h;let⟨p,xs,rfl,hq,fx,fs,q⟩:=h
 cases ry
 rcases hq with hq|hq
 .let⟨its,r,pl,hz⟩:=I.list hq;refine SeqAt.in_listAt (eqU x) pl.isList (λw hw=>zas rx fx r fs w (by simpa using hw)) ⟨.bl _,H,I,rfl,?_⟩;rw[show its.toArray.any (eqU x)=its.any (eqU x)by simp,zcW r fs];exact q
 .let⟨its,r,pl,hz⟩:=I.tuple hq;refine SeqAt.in_tupleAt (eqU x) pl (λw hw=>zas rx fx r fs w (by simpa using hw)) ⟨.bl _,H,I,rfl,?_⟩;rw[show its.toArray.any (eqU x)=its.any (eqU x)by simp,zcW r fs];exact q
def zbZ:OpR X (compareOp .NotIn) (rIn X.K AB):=by
 intro π s σ H x y v u Q I rx ry h;let⟨p,xs,rfl,hq,fx,fs,q⟩:=h
 cases ry
 rcases hq with hq|hq
 .let⟨its,r,pl,hz⟩:=I.list hq;refine SeqAt.notIn_listAt (eqU x) pl.isList (λw hw=>zas rx fx r fs w (by simpa using hw)) ⟨.bl _,H,I,rfl,?_⟩;rw[show its.toArray.any (eqU x)=its.any (eqU x)by simp,zcW r fs];exact q
 .let⟨its,r,pl,hz⟩:=I.tuple hq;refine SeqAt.notIn_tupleAt (eqU x) pl (λw hw=>zas rx fx r fs w (by simpa using hw)) ⟨.bl _,H,I,rfl,?_⟩;rw[show its.toArray.any (eqU x)=its.any (eqU x)by simp,zcW r fs];exact q
def zfk:yad X (.builtin "len") (λxs H Q=>∃p ys,xs=[.ref p]/\(SqL X.K H p ys \/ SqT X.K H p ys)/\Q (.int ys.length) H):=by
 intro π s σ H xs us Q I r h;let⟨p,ys,rfl,hq,q⟩:=h;let⟨u,rfl,rx⟩:=vals1 r
 cases rx
 have hn:=zgo;rcases hq with hq|hq
 .let⟨its,r',pl,hz⟩:=I.list hq;have hlen:=r'.length;exact Calls.call_len_list pl.isList (by erw[AV]<;>lia) ⟨.int ys.length,H,I.tok _,⟨s.toks+1,by rw[AV,hlen]⟩,q⟩
 .let⟨its,r',pl,hz⟩:=I.tuple hq;have hlen:=r'.length;exact len_tuple pl (by erw[AV]<;>lia) ⟨.int ys.length,H,I.tok _,⟨s.toks+1,by rw[AV,hlen]⟩,q⟩
def zer:yad X (.builtin "len") (λxs H Q=>∃z,xs=[.str z]/\z.length<=sizeLine/\Q (.int z.length) H):=by
 intro π s σ H xs us Q I r h;let⟨z,rfl,hz,q⟩:=h;let⟨u,rfl,t,rfl⟩:=vals1 r;have hn:=zgo;exact len_str ∅ ⟨.int z.length,H,I.tok _,⟨_,rfl⟩,q⟩
def zbu:yad X (.type "tuple") (λxs H Q=>∃p ys,xs=[.ref p]/\((SqL X.K H p ys/\∀l,H l=AD->Q (.ref l) (upd H l (.tup ys))) \/ (SqT X.K H p ys/\Q (.ref p) H))):=by
 intro π s σ H xs us Q I r h;let⟨p,ys,rfl,h⟩:=h;let⟨u,rfl,rx⟩:=vals1 r
 cases rx
 rcases h with⟨hq,q⟩|⟨hq,q⟩
 .let⟨its,r',pl,hz⟩:=I.list hq;have hlen:=r'.length;refine call_tuple_list pl.isList (λh' kp=>?_) (by erw[AV]<;>lia);have I1:Inv X π σ H {s with heap:=h'}:=I.kept (t':=s.toks) kp;have I2:Inv X π σ (upd H h'.objs.size (.tup ys)) {s with heap:=h'.push {cls:=.type "tuple",data:=.seq its.toArray} }:=
   I1.laid (t':=s.toks) (λb o e=>A6 _ e) (A0 _) (show yZ X.prog X.w _ _ _ (.tup ys)from ⟨hz,its,r',F0 _ _⟩)
  exact⟨.ref h'.objs.size,_,I2,rfl,q _ (I1.hok.fresh (A0 _))⟩
 .let⟨its,r',pl,hz⟩:=I.tuple hq;exact call_tuple_same pl ⟨.ref p,H,I,rfl,q⟩
def tyV(K:AG)(T:String)(x:V)(H:Hp):Prop:=match x with
 |.str _=>T="str"
 |.int _=>T="int"
 |.ref p=>(T="list"/\∃xs,SqL K H p xs) \/ (T="tuple"/\∃o,K.lookup p=AA o/\o.cls=.type "tuple"/\o.dict=AD) \/
   (T="dict"/\((∃kvs,H p=AA (.dK kvs)) \/ ∃kvs,H p=AA (.dT kvs))) \/ (T="set"/\∃S n,H p=AA (.set S n))
 |_=>False
def zlW{π:List (AJ×CA)}{σ:St}{H:Hp}{s:AK}{T:String}{x:V}{v:AH}(I:Inv X π σ H s)(r:RelV x v)(ty:tyV X.K T x H):
  s.TypeIs v T/\∀a,v=.ref a->∃ob,s.heap.get? a=AA ob/\ob.dict=none:=by
 cases x with
 |str z=>
  let⟨t,rfl⟩:=r
  cases (show T="str" from ty)
  exact⟨Gg s z t,λ_ e=>nomatch e⟩
 |int i=>
  let⟨t,rfl⟩:=r
  cases (show T="int" from ty)
  exact⟨typeIs_int s i t,λ_ e=>nomatch e⟩
 |ref p=>
  cases r
  rcases ty with⟨rfl,xs,hq⟩|⟨rfl,o,hk,hc,hd⟩|⟨rfl,hk⟩|⟨rfl,S,n,hk⟩
  .let⟨its,_,pl,_⟩:=I.list hq;refine⟨pl.isList.typeIs,λa e=>?_⟩
   cases e
   let⟨o,n,e,c,hd,_⟩:=pl;exact⟨o,e,hd⟩
  .refine⟨⟨o,I.kIn p o hk,hc⟩,λa e=>?_⟩
   cases e
   exact⟨o,I.kIn _ o hk,hd⟩
  .have z:∃o,s.heap.get? p=AA o/\o.ExactDict:=by
    rcases hk with⟨kvs,hk⟩|⟨kvs,hk⟩
    .let⟨_,_,_,_,o,_,_,e,ex,_⟩:=I.hok p _ hk;exact⟨o,e,ex⟩
    .let⟨_,_,_,_,o,_,_,e,ex,_⟩:=I.hok p _ hk;exact⟨o,e,ex⟩
   let⟨o,e,ex⟩:=z;refine⟨⟨o,e,ex.1⟩,λa e2=>?_⟩
   cases e2
   exact⟨o,e,ex.2.1⟩
  .let⟨o,_,_,_,e,ex,_⟩:=I.hok p _ hk;refine⟨⟨o,e,ex.1⟩,λa e2=>?_⟩
   cases e2
   exact⟨o,e,ex.2.1⟩
 |_=>exact Bk ty
def ygp(K:AG)(T:String)(r:V->List V->Hp->VK->Prop)(to:TE):TE:=λσ H Q=>to σ H λx H1=>tyV K T x H1/\r x [] H1 Q
def tBM(K:AG)(T:String)(r:V->List V->Hp->VK->Prop)(to:TE)(t:TA):TE:=λσ H Q=>to σ H λx H1=>tyV K T x H1/\t σ H1 λxs H2=>r x xs H2 Q
variable {o e:AZ}{es:List AZ}{to:TE}{t:TA}{name:A4}{apos cpos:CW}{T id:String}{r:V->List V->Hp->VK->Prop}
def zoQ(pa:PlainAttrs T)(slot:Slot T name id)(hty:typeOf (.builtin id)=pure (.type "method_descriptor"))(hm:MtR X id r)(ho:PE X o to)
  (hbase:attributeBase o name X.env (eval o X.env)=eval o X.env:=by rfl) (hline:(apos.endLine==cpos.line)=true:=by rfl):PE X (.Call (.Attribute o name apos) [] [] cpos) (ygp X.K T r to):=by
 intro π s σ H Q I h;refine wpAny_Call_method0_late hbase hline (thn (ho π s σ H _ I h) λv s1 kq=>?_);let⟨x,H1,I1,r1,ty,q1⟩:=kq;let⟨h1,h2⟩:=zlW I1 r1 ty;exact⟨T,id,pa,slot,hty,h1,h2,DM rfl (PySem.evalArgs_none (hm π s1 σ H1 x [] v [] Q I1 r1 .nil q1))⟩
def zjh(pa:PlainAttrs T)(slot:Slot T name id)(hty:typeOf (.builtin id)=pure (.type "method_descriptor"))(hm:MtR X id r)(ho:PE X o to)(ha:PA X (e::es) t)
  (hbase:attributeBase o name X.env (eval o X.env)=eval o X.env:=by rfl)
  (hfew:((backTo cpos (starEach (e::es) X.env)).all (λx=>!x.1)&&(backToKw cpos (keywordEach [] X.env)).all (λx=>x.1.isSome)
   && decide ((e::es).length+([]:List Bo).length+(if ([]:List Bo).isEmpty then 0 else 1)<30))=true:=by rfl)
  (hline:(apos.endLine==cpos.line)=true:=by rfl) (hs:starEach (e::es) X.env=(AC,eval e X.env)::starEach es X.env:=by rfl) (hplain:(backTo cpos (starEach es X.env)).any (·.1)=false:=by rfl):
  PE X (.Call (.Attribute o name apos) (e::es) [] cpos) (tBM X.K T r to t):=by
 intro π s σ H Q I h;refine wpAny_Call_method_late hbase hfew hline rfl (thn (ho π s σ H _ I h) λv s1 kq=>?_);let⟨x,H1,I1,r1,ty,q1⟩:=kq;let⟨h1,h2⟩:=zlW I1 r1 ty;refine⟨T,id,pa,slot,hty,h1,h2,?_⟩;have hA:=ha cpos π s1 σ H1 _ I1 q1;rw[hs]at hA ⊢;refine DM (by show (AC || (backTo cpos (starEach es X.env)).any (·.1))=AC;rw[hplain]<;>rfl) (FO ?_);exact thn hA λus s2 ⟨vs,H2,I2,r2,q2⟩=>hm π s2 σ H2 x vs v us Q I2 r1 r2 q2
/- xs.append(e),list.index on a module's tuple .. are MtR facts of 06m -/
end
def MtM(X:Cx)(id:String)(r:V->List V->Hp->VK->Prop):Prop:=
 ∀(π:List (AJ×CA)) (s:AK) (σ:St) (H:Hp) (x:V) (xs:List V) (v:AH) (us:List AH) (Q:VK),Inv X π σ H s->RelV x v->Vals xs us->r x xs H Q ->
  Al (model X.prog X.w) X.A (call (.builtin id) (v::us)) (EP X π σ Q) X.xe s
theorem Vals.one:∀{x:V} {us:List AH},Vals [x] us->∃u,us=[u]/\RelV x u
  :=by intro x us h;rcases h with _|⟨r,q⟩;cases q;exact⟨_,rfl,r⟩
theorem Vals.two:∀{x y:V} {us:List AH},Vals [x,y] us->∃u v,us=[u,v]/\RelV x u/\RelV y v
  :=by intro x y us h;rcases h with _|⟨r,q⟩;rcases q with _|⟨q,z⟩;cases z;exact⟨_,_,rfl,r,q⟩
theorem Vals.zero:∀{us:List AH},Vals [] us->us=[]
 |_,.nil=>rfl
theorem Vals.reverse{xs:List V}{us:List AH}(h:Vals xs us):Vals xs.reverse us.reverse:=by
 induction h with
 |nil=>exact .nil
 |cons r t ih=>rw[DN,DN];exact Vals.append ih (.cons r .nil)
section
variable {X:Cx}{π:List (AJ×CA)}{σ:St}{H:Hp}{s:AK}{l b:AJ}{xs ys zs:List V}
theorem Inv.lset{its its':List AH}{n:Nat}{f:Array AH->Array AH}{t':Nat}(I:Inv X π σ H s)(hH:H l=AA (.lst xs))
  (e:s.heap.get? l=AA {cls:=.type "list",data:=.seq its.toArray n}) (hf:f its.toArray=its'.toArray) (hv:Vals ys its') (hz:ys.length<=sizeLine):
  Inv X π σ (upd H l (.lst ys)) {s with heap:=s.heap.update l (Ep f),toks:=t'}:=by
 have q:=PySem.IsL.update e f;rw[hf]at q;refine I.write (x:=l) (e:=l) (by rw[hH];exact trivial) (.inl rfl) (λb' u hb hu=>(DL s.heap (Ep f) (Bf hb)).trans hu) ⟨_,q⟩ ?_;exact⟨hz,its',_,hv,q⟩
theorem Inv.lnew{its:List AH}{t':Nat}(I:Inv X π σ H s)(hv:Vals ys its)(hz:ys.length<=sizeLine):
  Inv X π σ (upd H s.heap.objs.size (.lst ys)) {s with heap:=s.heap.push {cls:=.type "list",data:=.seq its.toArray},toks:=t'}:=
 I.laid (λ_ _ q=>A6 _ q) (A0 _) ⟨hz,its,0,hv,Au _ rfl⟩
theorem Inv.fresh(I:Inv X π σ H s):H s.heap.objs.size=none:=I.hok.fresh (A0 _)
theorem Inv.lstM(I:Inv X π σ H s)(hH:H l=AA (.lst xs)):xs.length<=sizeLine/\∃(its:List AH) (n:Nat),Vals xs its/\xs.length=its.length/\s.heap.get? l=AA {cls:=.type "list",data:=.seq its.toArray n}:=by
 let⟨z,its,n,r,e⟩:=I.hok l _ hH;exact⟨z,its,n,r,r.length,e⟩
def zqY{n:Nat}(h:n<=sizeLine):Cz n=false:=by
 unfold Cz;exact decide_eq_false ∅
end
section
variable {X:Cx}
def yc0:V->List V->Hp->VK->Prop:=λx vs H Q=>∃l xs y,x=.ref l/\vs=[y]/\H l=AA (.lst xs)/\xs.length<sizeLine/\Q .non (upd H l (.lst (xs++[y])))
def ze0:MtM X "list.append" yc0:=by
 intro π s σ H x vs v us Q I rx rv h;let⟨l,xs,y,rfl,rfl,hH,hz,q⟩:=h
 cases rx
 let⟨u,rfl,ru⟩:=rv.one;let⟨z,its,n,r,hl,e⟩:=I.lstM hH;refine Ck FF ⟨_,e,rfl⟩ F.entry_list_append (F.args_list_append_2 _ _) (PySem.list_append l its.toArray n u (by rw[AV];lia)) ⟨e,?_⟩;refine⟨.non,_,I.lset (its':=its++[u]) hH e (by simp) (r.append (.cons ru .nil)) ?_,rfl,q⟩;rw[Av,List.length_singleton];lia
def ycE:V->List V->Hp->VK->Prop:=λx vs H Q=>∃l b xs zs,x=.ref l/\vs=[.ref b]/\H l=AA (.lst xs)/\H b=AA (.lst zs)/\xs.length+zs.length<=sizeLine/\Q .non (upd H l (.lst (xs++zs)))
def ziC:MtM X "list.extend" ycE:=by
 intro π s σ H x vs v us Q I rx rv h;let⟨l,b,xs,zs,rfl,rfl,hH,hB,hz,q⟩:=h
 cases rx
 let⟨u,rfl,ru⟩:=rv.one
 cases ru
 let⟨z,its,n,r,hl,e⟩:=I.lstM hH;let⟨z2,its2,n2,r2,hl2,e2⟩:=I.lstM hB;have hsz:its.toArray.size+its2.toArray.size<=sizeLine:=by rw[AV,AV];lia
 have hlong:¬(!its.toArray.isEmpty&&Cz (its.toArray.size+its2.toArray.size))=true:=by
  rw[zqY hsz,Bool.and_false];exact BD
 refine Ck FG ⟨_,e,rfl⟩ F.entry_list_extend (F.args_list_extend_2 _ _)
  (AutoSeq1.list_extend_list_list_0 l its.toArray n b its2.toArray n2 hlong (by rw[AV];lia) ∅) ⟨e,e2,?_⟩
 refine⟨.non,_,I.lset (its':=its++its2) hH e (by simp) (r.append r2) ?_,rfl,q⟩;rw[Av];lia
def ydp:V->List V->Hp->VK->Prop:=λx vs H Q=>∃l xs,x=.ref l/\vs=[]/\H l=AA (.lst xs)/\Q .non (upd H l (.lst []))
def zln:MtM X "list.clear" ydp:=by
 intro π s σ H x vs v us Q I rx rv h;let⟨l,xs,rfl,rfl,hH,q⟩:=h
 cases rx
 have hus:=rv.zero;subst hus;let⟨z,its,n,r,hl,e⟩:=I.lstM hH;refine Ck FP ⟨_,e,rfl⟩ F.entry_list_clear (F.args_list_clear_1 _) (AutoSeq1.list_clear_list_0 l its.toArray n (by rw[AV];lia)) ⟨e,?_⟩;exact⟨.non,_,I.lset (its':=[]) (ys:=[]) hH e rfl .nil (Cm _),rfl,q⟩
def yg1:R2:=λx y H Q=>∃l b xs zs,x=.ref l/\y=.ref b/\H l=AA (.lst xs)/\H b=AA (.lst zs)/\xs.length+zs.length<=sizeLine/\∀p,H p=AD->Q (.ref p) (upd H p (.lst (xs++zs)))
def zl3:OpR X (binaryOp .Add) yg1:=by
 intro π s σ H x y v u Q I rx ry h;let⟨l,b,xs,zs,rfl,rfl,hH,hB,hz,q⟩:=h
 cases rx
 cases ry
 let⟨z,its,n,r,hl,e⟩:=I.lstM hH;let⟨z2,its2,n2,r2,hl2,e2⟩:=I.lstM hB;refine PySem.P.add_list e e2 ?_ (by rw[AV,AV];lia);have ea:its.toArray++its2.toArray=(its++its2).toArray:=by simp
 rw[ea];exact⟨.ref _,_,I.lnew (t':=s.toks) (r.append r2) (by rw[Av];lia),rfl,q _ I.fresh⟩
end
section
variable {prog:Af}{w:Aw}{A:BC}{E:AH->AK->Prop}{s:AK}
end
section
variable {X:Cx}
end
end L2
namespace Att
open PySem PySem.W PySem.Calls PyProof.Rows
def zcI{P:Params}{h:BU}:∀(ns:List Int) (vs:List AH),WellAll P h vs (ns.map Hm)->F2 vs ns:=by
 intro ns
 induction ns with
 |nil=>
  intro vs w;rw[A9]at w
  cases w
  exact .nil
 |cons n ns ih=>
  intro vs w;rw[AM]at w
  cases w with
  |cons a b=>
   cases a
   exact .cons _ _ (ih _ b)
def zig{l:Ei}{n:Nat}(hn:l.most=AA n){P:Params}{h:BU}{args:List WData}{vals:List AH}
  (hpre:l.row.toRowW.claim.pre args=AB) (hwl:WellAll P h vals args):
  ∃a vs ns,vals=[BW a]/\args=[WData.list (ns.map Hm)]/\h.get? a=AA {cls:=.type "list",data:=.seq vs.toArray}/\F2 vs ns/\ns.length<=n:=by
 have hsh:WShape.hasAll [] args [.list .int]=true:=(pre_splitW hpre).1;have hc:l.pre.holds [] {args:=args}=true:=(pre_splitW hpre).2;let⟨d,r,rfl,h1,h2⟩:=hasAllW_cons hsh;obtain rfl:=hasAllW_nil h2;let⟨xs,rfl,h3⟩:=hasW_list h1;let⟨ns,rfl⟩:=items_int h3;have hlen:ns.length<=n:=by
  unfold OpenLaw.pre at hc;have h4:(WTm.not (.lt (.lit (.int (n:Int))) (.len (.arg 0)))).holds [] {args:=[.list (ns.map .int)]}=true:=by
   have h4:=(holds_andW hc).1;rw[hn]at h4;exact h4
  have h5:=condW_of h4 (w_not (w_lt w_lit (w_len_list (w_arg rfl))));rw[BN]at h5;refine Nat.le_of_not_lt λq=>?_;have q':(n:Int)<((ns.length:Nat):Int):=by lia
  first
   |(rw[decide_eq_true q']at h5;exact absurd h5 ⋯)
   |(simp at h5;lia)
 cases hwl with
 |cons w1 w2=>
  cases w2
  cases w1 with
  |list ho hall=>exact⟨_,_,ns,rfl,rfl,ho,zcI ns _ hall,hlen⟩
def zjP(l:Ei)(args:List WData):l.row.toRowW.claim.post args (.bool AB) args=true:=
 postW_of (r:=l.row.toRowW) (X:=(AB==AB))
  (show Hi [] (.bool AB) .bool=AB by first|rfl|decide|simp[Hi,WShape.arms,WShape.armsAll])
  (show (WTm.eq .res (.lit (.bool AB))).value [] {args:=args,res:=AA (.bool AB),after:=args}=AA (.bool (AB==AB))from w_eq_bool (w_res rfl) w_lit) rfl
theorem attach_call{l:Ei}{n:Nat}{q:Af}{loose:List A4}{XP:(A4->Option AH)->BU->Prop}{YP:Aw->BU->Prop}{d:DefRec}
  (hn:l.most=AA n) (hdf:d.params.defaults=[])
  (call:∀(w:Aw) (s₀ s₁:AK) (mg mb:A4->Option AH) (fa:AJ) (o:CA) (pm cd doc:AH) (a:AJ) (vs:List AH) (ns:List Int),
   Ground q loose [] XP w s₀ mg mb s₁.heap->YP w s₁.heap ->
   s₁.heap.get? fa=AA o->o.data=.func (docDef d.name d.params d.body d.scope pm cd doc)->s₁.heap.CodeRec cd d.name->mg d.name=AA (.ref fa) ->
   s₁.heap.get? a=AA {cls:=.type "list",data:=.seq vs.toArray}->F2 vs ns->ns.length<=n->s₁.gens=#[] ->
   codeAny (model l.prog w) callerA (.call (.ref fa) ⟨[.ref a],[]⟩) (λr s'=>r=.ok (.ret (.bool AB))/\OldK s₁.heap s'.heap/\s'.os=s₁.os/\D6 s'.gens) s₁):
  G7 q loose XP YP l.row.toRowW d [] (λf vs=>Gh f vs):=by
 intro w s₀ s₁ mg mb G Y fa o pm cd doc dV kV ho hd hcd hD hmg hg args vals as hpre hlay hrd hwl hlo;obtain rfl:dV=.none:=Dflts.none hD hdf;obtain rfl:kV=.none:=Dflts.noKw hD;let⟨a,vs,ns,rfl,rfl,hobj,hints,hlen⟩:=zig hn hpre hwl;refine enter_call (Es (call w s₀ s₁ mg mb fa o pm cd doc a vs ns G Y ho (fd_plain hd) hcd hmg hobj hints hlen hg) λr s' hq=>?_);let⟨rfl,h2,h3,h4⟩:=hq;exact⟨.inl ⟨.bool AB,.bool AB,[],rfl,λ_=>rfl,.bool AB,zjP l _,λ_=>⟨Hl,λ_ hm=>(nomatch hm)⟩⟩,h2,h3,h4⟩
section
variable {prog:Af}{w:Aw}{A:BC}{E:AH->AK->Prop}{s:AK}{K:AG}
end
end Att
namespace L2
open PySem PySem.Spec PyProof.Rows
def zeX:∀{vs:List AH} {ns:List Int},F2 vs ns->Vals (ns.map V.int) vs
 |_,_,.nil=>.nil
 |_,_,.cons n t h=>.cons ⟨t,rfl⟩ (zeX h)
def Only(H:Hp):Prop:=∀b,H b=AD \/ ∃o xs,H b=AA (.frz o (.lst xs))
def zkk{P:Af}{w:Aw}{K:AG}{mg mb:A4->Option AH}{CX:CXT}{k:Nat}{fa a:AJ}{fd:BL}{x:A4}{sp:Sp}{s₁:AK}{vs:List AH}{ns:List Int}
  (KX:K.In s₁.heap) (hns:s₁.heap.Ns mainGlobals mg) (hb:s₁.heap.Ns builtinsNs mb) (hbb:∀x:A4,x ≠ "__name__"->mb x=bootBuiltins x) (hlim:s₁.heap.NoLimit) (hg:s₁.gens=#[])
  (ha:s₁.heap.get? a=AA {cls:=.type "list",data:=.seq vs.toArray}) (hi:F2 vs ns) (hl:ns.length<=sizeLine) (hr:yaW k callerA)
  (F:∀base:BU,K.In base->base.Ns mainGlobals mg->ybj P w K mg base CX k fa fd [x] sp) (hbind:∀(s:AK) (u:AH),Em s fd ⟨[u],[]⟩ [(x,u)])
  (hsp:∀H:Hp,Only H->SqL K H a (ns.map V.int)->sp [.ref a] H (λv _=>v=.bl AB) λ_ _ _=>False)
  (hCX:∀H e s',CX [] H s₁ (λ_ _ _=>False) e s'->False):
  codeAny (model P w) callerA (.call (.ref fa) ⟨[.ref a],[]⟩) (λr s'=>r=.ok (.ret (.bool AB))/\OldK s₁.heap s'.heap/\s'.os=s₁.os/\D6 s'.gens) s₁:=by
 have rv:=zeX hi;have lenV:=hi.length;have core:∀H:Hp,Only H->SqL K H a (ns.map V.int)->HOk P w H s₁.heap->(∀b,H b≠AD->b=a)->(H a≠AD->K.lookup a=AD) ->
   codeAny (model P w) callerA (.call (.ref fa) ⟨[.ref a],[]⟩) (λr s'=>r=.ok (.ret (.bool AB))/\OldK s₁.heap s'.heap/\s'.os=s₁.os/\D6 s'.gens) s₁:=by
  intro H hO hS hok hA hK;have base_of:∀{b:AJ} {o:CA},s₁.heap.get? b=AA o->H b=AD->(ycj s₁.heap H).get? b=AA o:=λe n=>zlk e n;have noA:∀{b:AJ} {o:CA} {es:Array CV} {ep:Nat},s₁.heap.get? b=AA o->o.data=.dict es ep->H b=none:=λ{b o es ep} e d=>by
   cases q:H b with
   |none=>rfl
   |some u=>
    have e':b=a:=hA b (by rw[q];simp);subst e';rw[ha]at e;cases e;have d':Data.seq vs.toArray _=Data.dict es ep:=d
    cases d'
  have nsK:∀{b:AJ} {m:A4->Option AH},s₁.heap.Ns b m->(ycj s₁.heap H).Ns b m:=λ{b m} ⟨o,es,ep,e,d,r⟩=>⟨o,es,ep,base_of e (noA e d),d,r⟩;have hKb:K.In (ycj s₁.heap H):=λb o e=>base_of (KX b o e) (by
   cases q:H b with
   |none=>rfl
   |some u=>
    have e':b=a:=hA b (by rw[q];simp);subst e';rw[hK (by rw[q];simp)]at e;cases e)
  have hM:Mod K mg (ycj s₁.heap H):=⟨hKb,nsK hns,⟨mb,nsK hb,hbb⟩,let ⟨mc,h1,h2⟩:=hlim;⟨mc,nsK h1,h2⟩⟩;have e0:yc3 P w K mg (ycj s₁.heap H) callerA [] s₁ H:=⟨rfl,hM,λb o e=>zmI e,Nat.le_of_eq (zjK _ _),trivial,λb hb=>absurd (show b∈([]:List AJ)from hb) (by simp),hok,.of_eq hg⟩;refine Es ((F _ hKb (nsK hns)).run callerA [] s₁ H ⟨[.ref a],[]⟩ [.ref a] [.ref a] _ _ hr e0 (hbind s₁ (.ref a)) (.cons rfl .nil) (hsp H hO hS)) λr s' h=>?_
  cases r with
  |error e=>exact(hCX H e s' h).elim
  |ok fl=>
   cases fl with
   |next=>exact Bk h
   |brk=>exact Bk h
   |cont=>exact Bk h
   |ret u=>
    let⟨v,H',os,bare,un,hok',r',q⟩:=h;have q':v=.bl true:=q;subst q';obtain rfl:u=Cj true:=r';refine⟨rfl,OldK.of_keep λb o e=>?_,os,bare⟩
    cases q:H b with
    |none=>exact un.keep b o e q (by intro z;exact absurd (show b∈([]:List AJ)from z) (by simp)) (by simp)
    |some u=>
     rcases hO b with z|⟨ob,xs,z⟩
     .rw[q]at z;cases z
     .have z2:=un.frzs b ob _ z;let⟨e1,_⟩:=hok b _ z;let⟨e2,_⟩:=hok' b _ z2;rw[e]at e1;cases e1;exact e2
 cases hk:K.lookup a with
 |some o=>
  have e:=KX a o hk;rw[ha]at e
  cases e
  refine core (λ_=>AD) (λ_=>.inl rfl) (.inr ⟨_,vs.toArray,_,hk,rfl,rfl,rfl,by rw[AV,lenV];exact hl,by simpa using rv⟩) (λb u z=>by have z':(AD:Option HO)=AA u:=z;cases z') (λb z=>absurd rfl z) λz=>absurd rfl z
 |none=>
  refine core (λb=>if b=a then AA (.frz {cls:=.type "list",data:=.seq vs.toArray} (.lst (ns.map V.int)))else AD) (λb=>?_) (.inl (.inr ⟨{cls:=.type "list",data:=.seq vs.toArray},if_pos rfl⟩)) (λb u z=>?_) (λb z=>?_) λ_=>hk
  .by_cases hb:b=a
   .exact .inr ⟨_,_,if_pos hb⟩
   .exact .inl (if_neg hb)
  .by_cases hb:b=a
   .have z':=(if_pos hb).symm.trans z
    cases z'
    subst hb;exact⟨ha,by rw[BN];exact hl,vs,_,rv,ha⟩
   .have z':=(if_neg hb).symm.trans z
    cases z'
  .by_cases hb:b=a
   .exact hb
   .exact absurd (if_neg hb) z
theorem walk_of{l:Ei}{n k:Nat}{q:Af}{loose:List A4}{XP:(A4->Option AH)->BU->Prop}{YP:Aw->BU->Prop}{d:DefRec}{K:Params->AG}{CX:Aw->CXT}{sp:Aw->Sp}{x:A4}
  (hn:l.most=AA n) (hn2:n<=sizeLine) (hdf:d.params.defaults=[]) (hr:yaW k callerA)
  (hY:∀(w:Aw) (h:BU),YP w h->(K w.params).In h)
  (F:∀(w:Aw) (mg:A4->Option AH) (fa:AJ) (h:BU),(K w.params).In h->h.Ns mainGlobals mg->mg d.name=AA (.ref fa) ->
   ∃fd:BL,(∀(s:AK) (u:AH),Em s fd ⟨[u],[]⟩ [(x,u)]) /\
    ∀base:BU,(K w.params).In base->base.Ns mainGlobals mg->ybj l.prog w (K w.params) mg base (CX w) k fa fd [x] (sp w))
  (hsp:∀(w:Aw) (H:Hp) (a:AJ) (ns:List Int),ns.length<=n->Only H->SqL (K w.params) H a (ns.map V.int)->sp w [.ref a] H (λv _=>v=.bl AB) λ_ _ _=>False)
  (hCX:∀(w:Aw) (H:Hp) (s:AK) (e:AH) (s':AK),CX w [] H s (λ_ _ _=>False) e s'->False):
  G7 q loose XP YP l.row.toRowW d [] (λf vs=>Gh f vs):=by
 refine Att.attach_call hn hdf λw s₀ s₁ mg mb fa o pm cd doc a vs ns G Y ho hd hcd hmg hobj hints hlen hg=>?_;have KX:=hY w _ Y;let⟨fd,hb,hF⟩:=F w mg fa _ KX G.T.g hmg;exact zkk KX G.T.g G.T.b G.T.builtins G.T.nolimit hg hobj hints (B5 hlen hn2) hr hF hb (λH hO hS=>hsp w H a ns hlen hO hS) λH e s'=>hCX w H s₁ e s'
def yag(s:By):Arguments:=match s with
 |.FunctionDef _ a _ _ _ _ _ _ _ _=>a
 |_=>{posonlyargs:=[],args:=[],vararg:=AD,kwonlyargs:=[],kw_defaults:=[],kwarg:=AD,defaults:=[]}
def yU(s:By):List Stmt:=match s with
 |.FunctionDef _ _ b _ _ _ _ _ _ _=>b
 |_=>[]
def yp(s:By):Scope:=match s with
 |.FunctionDef _ _ _ _ _ _ sc _ _ _=>sc
 |_=>{kind:=.function,names:=[],isGenerator:=AC,isCoroutine:=AC}
abbrev CX0:CXT:=λ_ _ _ _ _ _=>False
abbrev E0:XK:=λ_ _ _=>False
structure Fun(K:AG)(x qual:A4)(st:By)(f:AJ)(fd:BL):Prop where
 ex:∃(oc:AH) (od:Option AJ) (kV doc pm:AH) (an:Option AJ) (cdv ct:AH) (osl:Array (Option AH)),
  fd=Bc x qual (yag st) (yU st) (yp st) .none kV doc pm an cdv ct/\K.lookup f=AA ⟨oc,od,.func fd,osl⟩/\CM K cdv qual=AB
 kp:Ax K (.ref f)=AB
section
variable {P:Af}{w:Aw}{K:AG}{mg:A4->Option AH}{base:BU}
theorem Fun.binds{x qual:A4}{st:By}{f:AJ}{fd:BL}{ps:List A4}(F:Fun K x qual st f fd)
  (h:∀(kV doc pm:AH) (an:Option AJ) (cdv ct:AH) (us:List AH),us.length=ps.length->bindArgs (Bc x qual (yag st) (yU st) (yp st) .none kV doc pm an cdv ct) ⟨us,[]⟩=pure (ps.zip us)):Binds K fd ps []:=by
 let⟨oc,od,kV,doc,pm,an,cdv,ct,osl,rfl,lk,hcd⟩:=F.ex;exact .all (h kV doc pm an cdv ct)
end
section
variable {X:Cx}
end
end L2
namespace WE
open PySem PySem.Spec PyProof.Rows
open AutoSeq1 (wpAny_loadPart')
section
variable {pg:Af}{wd:Aw}{A:BC}{Er:AH->AK->Prop}{s:AK}
def zhK{it t:AJ}{i:Nat}{xs:Array AH}{x:AH}{Q:AH->AK->Prop}(hi:s.heap.IsTupleIter it t i)(ht:s.heap.IsTuple t xs)(hx:xs[i]?=AA x)
  (k:∀h',h'.IsTupleIter it t (i+1)->Cr it s.heap h'->Q x {s with heap:=h'}):Al (model pg wd) A (CS (.ref it)) Q Er s:=by
 let⟨oi,gi,ci,di⟩:=id hi;let⟨ot,gt,_,nt,dt⟩:=ht;unfold CS;refine AO (C4 (name:=A2 "__next__") hi.typeIs CN (DY CN hi.typeIs Dq ?_ (Dl _)));show Al _ _ (field (.ref it) 0 >>= _) _ _ _;refine AO (C8 gi di (x:=.ref t) rfl ?_);show Al _ _ (if (BW t==CJ)=AB then _ else _) _ _ _;rw[if_neg (show ¬((BW t==CJ)=AB)from λz=>BD z)];show Al _ _ (field (.ref it) 1 >>= _) _ _ _;refine AO (C8 gi di (x:=.int i 0) rfl ?_);show Al _ _ (seqItems? (.ref t) >>= _) _ _ _;refine AO (wpAny_seqItems gt dt ?_);erw[Bv,hx];refine AO (FQ gi di (by simp) (Ag ⟨x,rfl,Ag (k _ ?_ (F6 ..))⟩));refine⟨_,FE _ gi (Obj.isFreed_of_fields (Fv di _)),(Obj.cls_mapFields ..).trans ci,?_⟩;rw[Fv di];simp[rawInt]
def zjk{it t:AJ}{i:Nat}{xs:Array AH}{Q:AH->AK->Prop}(hh:A.handled=AD)(hi:s.heap.IsTupleIter it t i)(ht:s.heap.IsTuple t xs)(hx:xs[i]?=AD)
  (k:∀h' e,Heap.ExtBut it s.heap h'->(∃o,h'.get? e=AA o/\o.cls=.type "StopIteration")->Er (.ref e) {s with heap:=h'}):Al (model pg wd) A (CS (.ref it)) Q Er s:=by
 let⟨oi,gi,ci,di⟩:=id hi;let⟨ot,gt,_,nt,dt⟩:=ht;unfold CS;refine AO (C4 (name:=A2 "__next__") hi.typeIs CN (DY CN hi.typeIs Dq ?_ (Dl _)));show Al _ _ (field (.ref it) 0 >>= _) _ _ _;refine AO (C8 gi di (x:=.ref t) rfl ?_);show Al _ _ (if (BW t==CJ)=AB then _ else _) _ _ _;rw[if_neg (show ¬((BW t==CJ)=AB)from λz=>BD z)];show Al _ _ (field (.ref it) 1 >>= _) _ _ _;refine AO (C8 gi di (x:=.int i 0) rfl ?_);show Al _ _ (seqItems? (.ref t) >>= _) _ _ _;refine AO (wpAny_seqItems gt dt ?_);erw[Bv,hx];refine AO (Gc (AO (FQ gi di (by simp) ?_)));show Al _ _ (newExc (.type "StopIteration") [] >>= _) _ _ _;refine AO ?_;erw[newExc,newTuple];refine AO (Bn ?_ (by size_fits));refine AO (m:=firstArgMember _ _) (wpAny_of_eq (a:=CJ) (by first|rfl|(erw[firstArgMember];rfl)) ?_);refine Bn ?_ (by size_fits);erw[raiseNew];refine AO (wpAny_handled ?_);first|rw[show A.in1.handled=AD from hh]|rw[hh]
 refine AO (Ag (wpAny_throw ?_));exact k _ _ (((F6 ..).extBut.push _).push _) ⟨_,Au _ rfl,rfl⟩
end
theorem draws_tuple{pg:Af}{wd:Aw}{A:BC}(hh:A.handled=AD)(it t:AJ)(hne:t≠it)(xs:Array AH):
  Draws pg wd A it [it,t] xs.size (λi v=>xs[i]?=AA v) (λi h=>h.IsTupleIter it t i/\h.IsTuple t xs) where
 live:=λ_ _ st=>let ⟨o,g,_⟩:=st.1;⟨o,g⟩
 frame:=λ_ _ _ st kp=>⟨let ⟨o,g,r⟩:=st.1;⟨o,kp it (by simp) o g,r⟩,let ⟨o,g,r⟩:=st.2;⟨o,kp t (by simp) o g,r⟩⟩
 item:=λi s Q E hi st hQ=>zhK st.1 st.2 (x:=xs[i]) (by simp[hi]) λh' hit' hs'=>hQ _ h' s.toks (by simp[hi]) ⟨hit',st.2.extBut hs'.extBut hne⟩ hs'
 done:=λs Q E st hE=>zjk hh st.1 st.2 (by simp) hE
def zfG(l:AJ)(xs:Array AH)(n:Nat)(dc:Option AJ)(sl:Array (Option AH)):
  Meets (Builtin.«enumerate.__new__» ⟨[.type "enumerate",.ref l],[]⟩) (λ_ R s=>s.heap.get? l=AA {cls:=.type "tuple",dict:=dc,data:=.seq xs n,slots:=sl} /\
   R (.ok (.ret (.ref (s.heap.push {cls:=.type "tuple_iterator",data:=.fields #[.ref l,.int 0 0]}).objs.size)))
    {s with heap:=(s.heap.push {cls:=.type "tuple_iterator",data:=.fields #[.ref l,.int 0 0]}).push {cls:=.type "enumerate",data:=.fields #[.none,.bool AC,.ref s.heap.objs.size,rawInt 0,.none,.none]} }):=
 .of_wp λprog w A R s h=>by
  let⟨hp,g,d,tk,os⟩:=s;let⟨gl,h⟩:=h;have hsub:=sub_enumerate;have hT:Heap.IsTuple (Shared.heap ⟨hp,g,d,tk,os⟩) l xs:=⟨_,gl,rfl,n,rfl⟩
  wp_walk using wpAny_loadPart' gl
  refine wpAny_stack_any λst=>Ag ?_;split
  .rename_i c _ _ _ _ _
   cases (c==Fm "enumerate")
   .wp_walk using wpAny_loadPart' gl,Ca hT
    exact⟨_,rfl,h⟩
   .wp_walk using wpAny_loadPart' gl,Ca hT
    exact⟨_,rfl,h⟩
  .wp_walk using wpAny_loadPart' gl,Ca hT
   exact⟨_,rfl,h⟩
theorem call_enumT{pg:Af}{wd:Aw}{A:BC}{Er:AH->AK->Prop}{s:AK}{l:AJ}{xs:Array AH}{Q:AH->AK->Prop}(hT:s.heap.IsTuple l xs)
  (k:∀h',IsEnum h' (s.heap.objs.size+1) s.heap.objs.size 0 .none->h'.IsTupleIter s.heap.objs.size l 0->h'.objs.size=s.heap.objs.size+2 ->
   (∀b o,s.heap.get? b=AA o->h'.get? b=AA o)->Q (.ref (s.heap.objs.size+1)) {s with heap:=h'}):Al (model pg wd) A (call (.type "enumerate") [.ref l]) Q Er s:=by
 let⟨⟨c,dct,dt,sl⟩,gl,hc,n,hd⟩:=hT
 cases (show c=.type "tuple" from hc)
 cases (show dt=.seq xs n from hd)
 refine callType_new F.called_enumerate ⋯ (F.typeCall_enumerate_1 _) (F.newCall_enumerate_1 _) (λobj=>F.args_object_init_2 obj _) F.entry_enumerate_new (zfG l xs n dct sl) ⟨gl,?_⟩;have hz:(s.heap.push {cls:=.type "tuple_iterator",data:=.fields #[.ref l,.int 0 0]}).objs.size=s.heap.objs.size+1:=Gi ..;show _/\_;rw[hz];have he:IsEnum ((s.heap.push {cls:=.type "tuple_iterator",data:=.fields #[.ref l,.int 0 0]}).push {cls:=.type "enumerate",data:=.fields #[.none,.bool AC,.ref s.heap.objs.size,rawInt 0,.none,.none]}) (s.heap.objs.size+1) s.heap.objs.size 0 .none:=by
  have q:=Au (s.heap.push {cls:=.type "tuple_iterator",data:=.fields #[.ref l,.int 0 0]}) (o:={cls:=.type "enumerate",data:=.fields #[.none,.bool AC,.ref s.heap.objs.size,rawInt 0,.none,.none]}) rfl;rw[hz]at q;exact q
 exact⟨⟨_,he,rfl⟩,k _ he ⟨_,A6 _ (Au _ rfl),rfl,rfl⟩ (by rw[Gi,hz]) λb o y=>A6 _ (A6 _ y)⟩
end WE
namespace L2
open PySem PySem.Spec PyProof.Rows
section
variable {X:Cx}
def ydD(i j:Int):Prop:=0<j/\j<10000000000000000000000000000000000000000000000000000000000000000000000
def zk7:OpR X (binaryOp .FloorDiv) (rI ydD λi j=>.int (i/j)):=opI λi j _ _ _ _ _ hc q=>by
 let⟨h1,h2⟩:=hc;refine floordiv_int ∅ (by rw[Dx i ∅];exact q) (.inl (PyProof.noPylong_of_log2 ?_));have h0:j.natAbs≠0:=by lia
 refine Ae ((Nat.log2_lt h0).mpr (?_:j.natAbs<2^250)) ⋯;have e:(10000000000000000000000000000000000000000000000000000000000000000000000:Nat)<2^250:=by decide
 lia
end
section
variable {X:Cx}{π:List (AJ×CA)}{σ:St}{H:Hp}{s:AK}{h':BU}
theorem Inv.turnLaid{t':Nat}{ch:List AJ}{T:AJ}{o:HO}(I:Inv X π σ H s)(hf:∀b∈ch,ybx X π H b)(k:∀b u,b∉ch->s.heap.get? b=AA u->h'.get? b=AA u)
  (hp:s.heap.objs.size<=T) (new:yZ X.prog X.w (upd H T o) h' T o):Inv X π σ (upd H T o) {s with heap:=h',toks:=t'}:=by
 have hn:H T=none:=I.hok.fresh hp;have nch:∀b u,H b=AA u->b∉ch:=λb u e z=>by
  have q:=(hf b z).1;rw[e]at q
  cases q
 refine I.step (g':=s.gens) (d':=s.drawn) (ch:=ch) (λb hb=>?_) (λb u _ _ hc e _=>k b u hc e) (λb u _ _ hc e _=>⟨u.slots,k b u hc e⟩) (λb u _ e n=>?_) (λb u hc e=>⟨u,k b u hc e⟩) (λb xs e=>?_) (λb u v e=>?_) (λb ps e=>⟨#[],?_⟩) (λm hm=>?_) (λb u e=>?_) I.bare
 .let⟨f0,f1,f2,f3,f4,f5⟩:=hf b hb;exact⟨f3,f1,f4,f5⟩
 .rw[ze (Az (Ae (Aa e) hp))];exact n
 .rw[ze (zg e hn)];exact e
 .rw[ze (zg e hn)];exact e
 .rw[ze (zg e hn),e];simp
 .let⟨ob,es,ep,ho,r⟩:=hm;exact⟨ob,es,ep,k _ ob (λz=>(hf _ z).2.1 rfl) ho,r⟩
 .by_cases hb:b=T
  .subst hb;rw[zf]at e
   cases e
   exact new
  .rw[ze hb]at e;refine(I.hok b u e).stay (λc v hc q=>k c v ?_ q) (λc q=>by rw[ze (zg q hn)];exact q) λc xs q=>by rw[ze (zg q hn)];exact q
   rcases hc with z|z
   .rw[z];exact nch b u e
   .exact nch c _ z
theorem Inv.turnedL{t':Nat}{ch:List AJ}(I:Inv X π σ H s)(hf:∀b∈ch,ybx X π H b)(k:∀b u,b∉ch->s.heap.get? b=AA u->h'.get? b=AA u):Inv X π σ H {s with heap:=h',toks:=t'}:=by
 have nch:∀b u,H b=AA u->b∉ch:=λb u e z=>by
  have q:=(hf b z).1;rw[e]at q
  cases q
 refine I.step (g':=s.gens) (d':=s.drawn) (ch:=ch) (λb hb=>?_) (λb u _ _ hc e _=>k b u hc e) (λb u _ _ hc e _=>⟨u.slots,k b u hc e⟩) (λ_ _ _ _ n=>n) (λb u hc e=>⟨u,k b u hc e⟩) (λ_ _ e=>e) (λ_ _ _ e=>e) (λb ps e=>⟨#[],by rw[e];simp⟩) (λm hm=>?_) (λb u e=>?_) I.bare
 .let⟨f0,f1,f2,f3,f4,f5⟩:=hf b hb;exact⟨f3,f1,f4,f5⟩
 .let⟨ob,es,ep,ho,r⟩:=hm;exact⟨ob,es,ep,k _ ob (λz=>(hf _ z).2.1 rfl) ho,r⟩
 .refine(I.hok b u e).stay (λc v hc q=>k c v ?_ q) (λ_ q=>q) λ_ _ q=>q;rcases hc with z|z
  .rw[z];exact nch b u e
  .exact nch c _ z
end
def Ite(K:AG)(a:AJ):It:=
 ⟨λi H=>∃xs x,SqT K H a xs/\xs[i]?=AA x,λi H x H'=>∃T,H T=AD/\x=.ref T/\∀xs y,SqT K H a xs->xs[i]?=AA y->H'=upd H T (.tup [.int i,y]),λi H=>∃xs,SqT K H a xs/\xs.length=i⟩
def zdF{h:BU}{a b:AJ}{o u:CA}(x:h.get? a=AA o)(y:h.get? b=AA u)(z:o.cls≠u.cls):a≠b:=λe=>by
 subst e;rw[x]at y
 cases y
 exact z rfl
def zhH{P:Af}{w:Aw}{K:AG}{es:List AZ}{kk:Nat}{pos:CW}(a e it:AJ):
  Turn P w K (.Tuple es kk pos) (Ite K a) [e,it] e (λi h=>(∃old,IsEnum h e it i old)/\h.IsTupleIter it a i) where
 mem:=by simp
 obj:=λi h st b hb=>by
  let⟨⟨old,he⟩,oi,gi,ci,di⟩:=st;rcases BB.mp hb with z|z
  .subst z;exact⟨_,he,λv y=>nomatch y⟩
  .have z:b=it:=by simpa using z
   subst z;exact⟨oi,gi,λv y=>by rw[di]at y;cases y⟩
 keep:=λi h h' st k=>by
  let⟨⟨old,he⟩,oi,gi,r⟩:=st;exact⟨⟨old,k e (by simp) _ he⟩,oi,k it (by simp) _ gi,r⟩
 item:=by
  intro X hP hw hK hc i π s σ H E I hf st hg;subst hP hw hK;let⟨xs,x,hq,hx⟩:=hg;let⟨its,rv,p,hz⟩:=I.tuple hq;let⟨⟨old,he⟩,hi⟩:=st;let⟨oi,gi,ci,di⟩:=id hi;let⟨oa,ga,ca,na,da⟩:=id p;have nai:a≠it:=zdF ga gi (by rw[ca,ci];exact λz=>absurd (Cn z) ⋯);have nei:e≠it:=zdF he gi (by rw[ci];exact λz=>absurd (Cn z) ⋯);have nea:e≠a:=zdF he ga (by rw[ca];exact λz=>absurd (Cn z) ⋯);have hl:=rv.length;have hil:i<its.toArray.size:=by
   have:=(BM.mp hx).1;simpa using (by lia:i<its.length)
  have W:=GM (prog:=X.prog) (w:=X.w) (A:=X.A) (WE.draws_tuple (pg:=X.prog) (wd:=X.w) (A:=X.A.in1) (I.ok.hd hc) it a nai its.toArray) e nei (by simp[nei,nea]) (by simp);refine W.item i s _ E hil ⟨⟨old,he⟩,hi,p⟩ λT vals h1 tk hP hsz hT mid kp=>⟨.ref T,rfl,?_⟩;refine W.go es kk pos i T _ _ E mid λh2 st2 kp2=>?_;let⟨t,y,hy,rfl⟩:=hP;let⟨u,hu,ru⟩:=rv.get hx;have ey:y=u:=A8 (hy.symm.trans (by simpa using hu));subst ey;have hch:∀b o,b∉[e,it]->s.heap.get? b=AA o->h2.get? b=AA o:=λb o hb q=>kp2 b o hb (kp b o hb q);have hTw:=W.apart i T h1 mid;have new:yZ X.prog X.w (upd H T (.tup [.int i,x])) h2 T (.tup [.int i,x]):=by
   let⟨o,g,r⟩:=hT;exact⟨by show 2<=sizeLine;decide,[.int i t,y],.cons ⟨t,rfl⟩ (.cons ru .nil),o,kp2 T o hTw g,r⟩
  have I2:=I.turnLaid (t':=tk) hf hch hsz new;refine⟨.ref T,_,I2,rfl,⟨T,I.hok.fresh hsz,rfl,λys z hy' hz'=>?_⟩,⟨st2.1,st2.2.1⟩,λb hb=>?_⟩
  .rw[I.tuple_inj hy' hq]at hz';rw[hx]at hz'
   cases hz'
   rfl
  .rw[ze (λz:b=T=>hTw (z ▸ hb))];exact(hf b hb).1
 done:=by
  intro X hP hw hK hc i π s σ H E I hf st hg;subst hP hw hK;let⟨xs,hq,hx⟩:=hg;let⟨its,rv,p,hz⟩:=I.tuple hq;let⟨⟨old,he⟩,hi⟩:=st;let⟨oi,gi,ci,di⟩:=id hi;let⟨oa,ga,ca,na,da⟩:=id p;have nai:a≠it:=zdF ga gi (by rw[ca,ci];exact λz=>absurd (Cn z) ⋯);have nei:e≠it:=zdF he gi (by rw[ci];exact λz=>absurd (Cn z) ⋯);have nea:e≠a:=zdF he ga (by rw[ca];exact λz=>absurd (Cn z) ⋯);have hl:=rv.length;have W:=GM (prog:=X.prog) (w:=X.w) (A:=X.A) (WE.draws_tuple (pg:=X.prog) (wd:=X.w) (A:=X.A.in1) (I.ok.hd hc) it a nai its.toArray) e nei (by simp[nei,nea]) (by simp);have en:its.toArray.size=i:=by simp;lia
  refine W.done s _ E (by rw[en];exact⟨⟨old,he⟩,hi,p⟩) λh2 tk kp=>⟨rfl,I.turnedL (t':=tk) hf kp⟩
 self:=λ_ _ _ _ _ st q=>by
  let⟨⟨old,he⟩,_⟩:=st;exact GN he q
def ygf(K:AG)(ta:TA):TI:=λσ H R=>ta σ H λvs H1=>∃a,vs=[.ref a]/\(∃xs,SqT K H1 a xs)/\R (Ite K a) H1
def zj1{X:Cx}{a:AZ}{es:List AZ}{kk:Nat}{tp:CW}{ta:TA}{p pos:CW}(hg:Gl X "enumerate")(hm:X.mg "enumerate"=AD)(ha:PA X [a] ta)(hs:starEach [a] X.env=[(AC,eval a X.env)]:=by rfl):
  PI X (.Tuple es kk tp) (.Call (.Name "enumerate" p) [a] [] pos) (ygf X.K ta):=by
 intro π s σ H R I h;refine Br (zdm I hg hm boot_enumerate ?_);refine CB (thn (ha pos π s σ H _ I h) λus s1 kq=>?_) hs rfl;let⟨vs,H1,I1,r1,q1⟩:=kq;let⟨l,rfl,⟨xs,hq⟩,q⟩:=q1;let⟨u,rfl,ru⟩:=Vals.one r1
 cases (show u=BW l from ru)
 let⟨its,rv,pt,hz⟩:=I1.tuple hq;refine WE.call_enumT (show s1.heap.IsTuple l its.toArray from pt) λh1 he hi hsz kp=>?_;refine GN he ?_;refine⟨_,[s1.heap.objs.size+1,s1.heap.objs.size],_,_,H1,rfl,I1.kept (t':=s1.toks) kp,zhH l _ s1.heap.objs.size,⟨⟨_,he⟩,hi⟩,λb hb=>?_,q⟩;have hb2:s1.heap.objs.size<=b:=by
  rcases BB.mp hb with z|z
  .subst z;exact ER _
  .have z:b=s1.heap.objs.size:=by simpa using z
   subst z;exact A0 _
 exact I1.fpOk hb2 (I1.hok.fresh hb2)
abbrev No:AH->AK->Prop:=λ_ _=>False
abbrev yde(ifs:List AZ)(env:Env):Hf Bool:=forIn ifs AB λc r=>if r=AB then do let ok <-isTrue c env (eval c env);pure (G4 ok)else pure (G4 r)
section
variable {pg:Af}{wd:Aw}{A:BC}{R:HE->AK->Prop}{s:AK}
def zjH{elt tg iter:AZ}{ifs:List AZ}{sc:Bj}{pos:CW}{it acc:AH}{env:Env}(I:Nat->AK->Prop)
  (turn:∀n s,I n s->Al (model pg wd) A (pyNext it) (λr s1=>match r with
   |none=>R (.ok .next) s1
   |some v=>Al (model pg wd) A (letOwnedTupleGo tg it v) (λ_ s2=>Al (model pg wd) A (assign tg env v) (λ_ s3=>Al (model pg wd) A (yde ifs env) (λok s4=>
     if ok=AB then Al (model pg wd) A (eval elt env) (λx s5=>Al (model pg wd) A (call (.builtin "list.append") [acc,x]) (λ_ s6=>∃m,m<n/\I m s6) No s5) No s4
     else ∃m,m<n/\I m s4) No s3) No s2) No s1) No s)
  (n:Nat) (h:I n s):codeAny (model pg wd) A (.compLoop (.ListComp elt [⟨tg,iter,ifs,0⟩] sc pos) 0 it acc env) R s:=by
 refine codeAny_loop rfl I (λn s hI=>?_) n h;show Al _ A ((compTurn (.ListComp elt [⟨tg,iter,ifs,0⟩] sc pos) 0 it acc env).onRaise (λx=>do noteFrame x env;theTreesLotGoes x)) _ _ s;refine wpAny_noted ?_;rw[compTurn_list];refine AO (EZ (AO (CL (turn n s hI) (λr s1 h1=>?_) λ_ _ f=>f.elim)))
 cases r with
 |none=>exact Ag h1
 |some v=>
  refine AO (CL h1 (λ_ s2 h2=>AO (CL h2 (λ_ s3 h3=>AO (CL h3 (λok s4 h4=>?_) λ_ _ f=>f.elim)) λ_ _ f=>f.elim)) λ_ _ f=>f.elim)
  cases ok with
  |false=>exact Ag ⟨rfl,h4⟩
  |true=>exact AO (AO (CL h4 (λx s5 h5=>AO (CL h5 (λ_ s6 h6=>Ag (Ag ⟨rfl,h6⟩)) λ_ _ f=>f.elim)) λ_ _ f=>f.elim))
end
def yak(env:Env)(r:List (A4×AJ))(x:A4×DI):List (A4×AJ):=if x.2=.free then(x.1,(env.cells.lookup x.1).getD 0)::r else r
def ydy(sc:Bj)(env:Env):List (A4×AJ):=sc.names.foldl (yak env) []
def zhv{α β:Type}{l:List α}{f:α->β->Hf (ForInStep β)}{g:β->α->β}(h:∀x∈l,∀c,f x c=pure (.yield (g c x))):∀c:β,forIn l c f=pure (l.foldl g c):=by
 induction l with
 |nil=>exact λ_=>rfl
 |cons x l ih=>
  intro c;rw[List.forIn_cons,h x Ao,pure_bind,DD];exact ih (λy hy=>h y (A7 _ hy)) (g c x)
def zc2{sc:Bj}{env:Env}(hf:∀y∈sc.names,y.2=.free->∃c,env.cells.lookup y.1=AA c):closureFor sc env=pure (ydy sc env):=by
 erw[closureFor];rw[zhv (g:=yak env) (λx hx c=>?_)]
 .rfl
 .let⟨n,k⟩:=x
  by_cases hk:k=.free
  .subst hk;let⟨a,ha⟩:=hf _ hx rfl;have ha':env.cells.lookup n=AA a:=ha;simp[yak,cellOf,ha']
  .have hb:(k==Cg)=false:=by simpa using hk
   simp[yak,hk,hb]
def zdz{env:Env}:∀(l:List (A4×DI)) (r:List (A4×AJ)),(∀y∈l,y.2=.free->∃c,env.cells.lookup y.1=AA c)->(∀x c,r.lookup x=AA c->env.cells.lookup x=AA c) ->
  ∀x c,(l.foldl (yak env) r).lookup x=AA c->env.cells.lookup x=AA c
 |[],r,_,h=>h
 |y::l,r,hf,h=>by
  refine zdz l (yak env r y) (λz hz=>hf z (A7 _ hz)) λx c e=>?_;unfold yak at e
  by_cases hk:y.2=.free
  .let⟨a,ha⟩:=hf y Ao hk;rw[if_pos hk,Bd]at e
   cases hx:x==y.1 with
   |true=>
    rw[hx,ha]at e;rw[eq_of_beq hx,ha];exact e
   |false=>
    rw[hx]at e;exact h x c e
  .rw[if_neg hk]at e;exact h x c e
def zcV{env:Env}{x:A4}:∀(l:List (A4×DI)) (r:List (A4×AJ)),(∃c,r.lookup x=AA c)->∃c,(l.foldl (yak env) r).lookup x=AA c
 |[],r,h=>h
 |y::l,r,h=>by
  refine zcV l (yak env r y) ?_;unfold yak
  by_cases hk:y.2=.free
  .rw[if_pos hk,Bd]
   cases hx:x==y.1 with
   |true=>exact⟨_,rfl⟩
   |false=>exact h
  .rw[if_neg hk];exact h
def zbT{env:Env}:∀(l:List (A4×DI)) (r:List (A4×AJ)),∀y∈l,y.2=.free->∃c,(l.foldl (yak env) r).lookup y.1=AA c
 |[],_,y,hy,_=>nomatch hy
 |z::l,r,y,hy,hk=>by
  rcases BB.mp hy with e|e
  .subst e;refine zcV l (yak env r y) ?_;unfold yak;rw[if_pos hk,Bd,beq_self_eq_true];exact⟨_,rfl⟩
  .exact zbT l (yak env r z) y e hk
theorem mem_of_lookup{β:Type}{x:A4}{k:β}:∀{l:List (A4×β)},l.lookup x=AA k->(x,k)∈l
 |[],h=>nomatch h
 |y::l,h=>by
  rw[Bd]at h
  cases hx:x==y.1 with
  |true=>
   rw[hx]at h
   cases h
   rw[eq_of_beq hx];exact Ao
  |false=>
   rw[hx]at h;exact A7 _ (mem_of_lookup h)
def ydc(env:Env)(x:A4)(k:DI):NameKind:=if (k==.free&&env.scope.kind==.function&&env.kindOf x==AA .cell)=AB then .cell else k
def zdJ{sc:Bj}{env:Env}(x:A4):(relabel sc env).names.lookup x=(sc.names.lookup x).map (ydc env x):=by
 unfold relabel;show (sc.names.map λ(n,k)=>if (k==Cg&&env.scope.kind==.function&&env.kindOf n==AA .cell)then(n,Fd)else(n,k)).lookup x=_
 induction sc.names with
 |nil=>rfl
 |cons y l ih=>
  let⟨n,k⟩:=y;rw[AM];show G2 x ((if (k==Cg&&env.scope.kind==.function&&env.kindOf n==AA .cell)=AB then(n,Fd)else(n,k))::_)=_
  cases hx:x==n with
  |true=>
   have e:=eq_of_beq hx;subst e
   by_cases hc:(k==Cg&&env.scope.kind==.function&&env.kindOf x==AA .cell)=AB
   .rw[if_pos hc,Bd,beq_self_eq_true];simp[ydc,hc]
   .rw[if_neg hc,Bd,beq_self_eq_true];simp[ydc,hc]
  |false=>
   by_cases hc:(k==Cg&&env.scope.kind==.function&&env.kindOf n==AA .cell)=AB
   .rw[if_pos hc];erw[Bd,hx];exact ih
   .rw[if_neg hc];erw[Bd,hx];exact ih
structure CI where
 C:AJ
 s:AK
 H:Hp
 fp:List AJ
def cxC(X:Cx)(sc:Bj)(NC:List A4)(j:CI):Cx where
 prog:=X.prog
 w:=X.w
 K:=X.K
 mg:=X.mg
 base:=X.base
 A:=X.A
 N:=NC
 s₀:=j.s
 H₀:=j.H
 env:=compEnvC sc (ydy sc X.env) j.C X.env
 outer:=X.stack
 stack:=X.stack
 ex:=j.fp
 fn:=λ_=>AC
 calm:=X.calm
 pn:=[]
 xe:=No
def inn(slots:List (Option Nat))(σ:St):St:=slots.map λo=>o.bind λj=>(σ[j]?).join
structure yao(X:Cx)(sc:Bj)(NC:List A4)(slots:List (Option Nat)):Prop where
 kind:sc.kind=.function
 names:∀y∈sc.names,y.2=.local->sc.names.lookup y.1=AA .local
 nocell:∀y∈sc.names,y.2 ≠ .cell
 free:∀y∈sc.names,y.2=.free->X.env.scope.names.lookup y.1=AA .cell
 slot:∀(i:Nat) (x:A4) (j:Nat),NC[i]?=AA x->slots[i]?=AA (AA j)->X.N[j]?=AA x/\sc.names.lookup x=AA .free
 len:slots.length=NC.length
def zqZ{X:Cx}{sc:Bj}{NC:List A4}{slots:List (Option Nat)}(N:List A4)(so:Bj)(hN:X.N=N)(hs:X.env.scope=so)(kind:sc.kind=.function)
  (names:∀y∈sc.names,y.2=.local->sc.names.lookup y.1=AA .local) (nocell:∀y∈sc.names,y.2 ≠ .cell) (free:∀y∈sc.names,y.2=.free->so.names.lookup y.1=AA .cell)
  (slot:∀p∈NC.zip slots,(p.2.all λj=>decide (N[j]?=AA p.1/\sc.names.lookup p.1=AA .free))=AB) (len:slots.length=NC.length):yao X sc NC slots:=by
 subst hN hs;refine⟨kind,names,nocell,free,λi x j e1 e2=>?_,len⟩;have hm:(x,AA j)∈NC.zip slots:=A3 (i:=i) (by rw[List.getElem?_zip_eq_some];exact⟨e1,e2⟩);have:=slot _ hm;simpa using this
section
variable {X:Cx}{sc:Bj}{NC:List A4}{slots:List (Option Nat)}{π:List (AJ×CA)}{σ:St}{H:Hp}{s:AK}
theorem yao.cells(O:yao X sc NC slots)(ok:X.Ok):∀y∈sc.names,y.2=.free->∃c,X.env.cells.lookup y.1=AA c:=λy hy hk=>ok.has y.1 (.inl (O.free y hy hk))
theorem yao.sub(O:yao X sc NC slots)(ok:X.Ok):∀x c,(ydy sc X.env).lookup x=AA c->X.env.cells.lookup x=AA c:=zdz sc.names [] (O.cells ok) λ_ _ e=>nomatch e
theorem yao.rel(O:yao X sc NC slots)(ok:X.Ok){x:A4}(h:sc.names.lookup x=AA .free):(relabel sc X.env).names.lookup x=AA .cell:=by
 rw[zdJ,h];have e:X.env.kindOf x=AA .cell:=O.free _ (mem_of_lookup h) rfl;simp[ydc,ok.kind,e]
def zhg(I:Inv X π σ H s)(O:yao X sc NC slots){fp:List AJ}(hf:∀b∈fp,ybx X π H b)(hob:∀b∈fp,∃o,s.heap.get? b=AA o){h1:BU}{t':Nat}{m:A4->Option AH}(hns:h1.Ns s.heap.objs.size m)
  (hk:∀b o,s.heap.get? b=AA o->h1.get? b=AA o):Inv (cxC X sc NC ⟨s.heap.objs.size,s,H,fp⟩) [] (inn slots σ) H {s with heap:=h1,toks:=t'}:=by
 have sub:=O.sub I.ok;have fss:∀b,b≠X.env.locals->b∉X.fs->b∉frs X.stack:=λb h1 h2 hb=>(BB.mp (I.stkSub b hb)).elim h1 h2;have ltC:∀x c,(ydy sc X.env).lookup x=AA c->c<s.heap.objs.size:=λx c e=>by
  let⟨v,q⟩:=I.cell x c (sub x c e);exact q.lt
 refine⟨⟨I.ok.mod,O.kind,I.ok.glob,I.ok.blt,A0 _,λx y c e1 e2=>I.ok.inj x y c (sub x c e1) (sub y c e2),λx hx=>?_,λ_ _ z=>(nomatch z),I.ok.hd,I.ok.frames,.inl rfl,λb hb=>⟨?_,λx c e=>(hf b hb).2.2.2.2.1 x c (sub x c e)⟩,I.bs,B5 I.ok.bsz I.sz,λb o e hb=>?_,λb hb=>fss b (hf b hb).2.1 (hf b hb).2.2.1,I.stack,I.stkFree⟩,
  rfl,I.bare,Un.kept hk,⟨m,hns,λi x v e1 e2 e3=>?_⟩,λx c e=>?_,I.hok.fresh (A0 _),λx c e=>I.freeC x c (sub x c e),λp hp=>(nomatch hp),I.hok.kept hk,?_⟩
 .have hx':(relabel sc X.env).names.lookup x=AA .cell \/ (relabel sc X.env).names.lookup x=AA .free:=hx;rw[zdJ]at hx'
  cases q:sc.names.lookup x with
  |none=>
   rw[q]at hx';rcases hx' with z|z<;>cases z
  |some k=>
   have hm:=mem_of_lookup q;have hkf:k=.free:=by
    rw[q]at hx';have nc:=O.nocell _ hm
    by_cases hk:k=.free
    .exact hk
    .exfalso;have hb:(k==Cg)=false:=by simpa using hk
     rcases hx' with z|z
     .simp[ydc,hb]at z;exact nc z
     .simp[ydc,hb]at z;exact hk z
   subst hkf;exact zbT sc.names [] _ hm rfl
 .let⟨o,e⟩:=hob b hb;exact Az (Aa e)
 .rcases (hf b hb).2.2.2.1 with z|z
  .exact I.ok.noex b o e z
  .exact absurd (Ae (Aa e) (B5 I.ok.bsz z)) (Cw _)
 .obtain⟨j,e4,e5⟩:∃j,slots[i]?=AA (AA j)/\σ[j]?=AA (AA v):=by
   have e2':(slots.map λo=>o.bind λj=>(σ[j]?).join)[i]?=AA (AA v):=e2;rw[Bu]at e2'
   cases q:slots[i]? with
   |none=>
    rw[q]at e2'
    cases e2'
   |some o=>
    rw[q]at e2'
    cases o with
    |none=>cases e2'
    |some j=>
     refine⟨j,rfl,?_⟩;have e6:(σ[j]?).join=AA v:=A8 e2'
     cases q2:σ[j]? with
     |none=>
      rw[q2]at e6
      cases e6
     |some w=>
      rw[q2]at e6;have e7:w=AA v:=e6;rw[e7]
  let⟨e6,e7⟩:=O.slot i x j e1 e4;have kc:X.env.scope.names.lookup x=AA .cell:=O.free _ (mem_of_lookup e7) rfl;let⟨m0,hn0,hl⟩:=I.loc;let⟨u,r,lk⟩:=hl j x v e6 e5 (.inr (.inl kc));refine⟨u,r,.inr ⟨.inl (O.rel I.ok e7),?_⟩⟩;rcases lk with⟨z,_⟩|⟨_,c,hc,o,ho,hd⟩
  .rw[show X.env.kindOf x=AA .cell from kc]at z
   cases z
  .let⟨c',hc'⟩:=zbT (env:=X.env) sc.names [] _ (mem_of_lookup e7) rfl;have e8:c'=c:=A8 ((sub x c' hc').symm.trans hc);subst e8;exact⟨c',hc',o,hk _ _ ho,hd⟩
 .let⟨v,o,ho,hd⟩:=I.cell x c (sub x c e);exact⟨v,o,hk _ _ ho,hd⟩
 .show (slots.map λo=>o.bind λj=>(σ[j]?).join).length=NC.length;rw[BN,O.len]
def zhC(I:Inv X π σ H s){fp:List AJ}(hf:∀b∈fp,ybx X π H b){C:AJ}(hC:s.heap.objs.size<=C){pl:List (AJ×CA)}{σ':St}{H':Hp}{s':AK}(J:Inv (cxC X sc NC ⟨C,s,H,fp⟩) pl σ' H' s')
  {h2:BU} (hb:Cr C s'.heap h2):Inv X π σ H' {s' with heap:=h2}:=by
 have nC:∀b o,s.heap.get? b=AA o->b≠C:=λb o e=>Az (Ae (Aa e) hC);have B:Un (frs X.stack) fp H H' s.heap s'.heap:=J.base;have fC:H' C=none:=J.free;refine I.call' (ch:=fp) J.os ⟨λb o e n h3 h4=>(hb.2 b (nC b o e)).trans (B.keep b o e n h3 h4),λb o e n h3 h4=>?_,B.free,λb o e h4=>?_,B.tups,B.frzs,B.tbls⟩ (λb u e=>?_) J.bare λb h3=>⟨(hf b h3).2.2.2.1,(hf b h3).2.1,(hf b h3).2.2.2.2.1,(hf b h3).2.2.2.2.2⟩
 .let⟨sl,q⟩:=B.slot b o e n h3 h4;exact⟨sl,(hb.2 b (nC b o e)).trans q⟩
 .let⟨o',q⟩:=B.there b o e h4;exact⟨o',(hb.2 b (nC b o e)).trans q⟩
 .refine(J.hok b u e).stay (λc v hc q=>(hb.2 c λz=>?_).trans q) (λ_ q=>q) λ_ _ q=>q;subst z;rcases hc with z|z
  .rw[z,e]at fC
   cases fC
  .rw[z]at fC
   cases fC
end
def PTs(X:Cx)(ifs:List AZ)(t:TT):Prop:=
 ∀(π:List (AJ×CA)) (s:AK) (σ:St) (H:Hp) (Q:Bool->Hp->Prop),Inv X π σ H s->t σ H Q->Al (model X.prog X.w) X.A (yde ifs X.env) (TP X π σ Q) X.xe s
def ygN:TT:=λ_ H Q=>Q AB H
def zmR{X:Cx}:PTs X [] ygN:=λ_ _ _ H _ I h=>wpAny_tests_nil ⟨H,I,h⟩
def znp{X:Cx}{c:AZ}{t:TT}(h:PT X c t):PTs X [c] t:=λπ s σ H Q I q=>wpAny_tests_one (h π s σ H Q I q)
def ycJ(J:It)(D:AJ)(g:TG)(ti:TT)(te:TE)(W:Nat->Nat->St->List V->Hp->Prop)(Q:Hp->Prop):Prop:=
 ∀i m σc ys H2,W i m σc ys H2->H2 D=AA (.lst ys)/\((J.stop i H2/\Q H2) \/ (J.go i H2/\ys.length<sizeLine/\∃N:St->List V->Hp->Prop,(∀σ' ys' H',N σ' ys' H'->∃m',m' < m/\W (i+1) m' σ' ys' H') /\
  ∀x H3,J.yld i H2 x H3->g x σc H3 λσ4 H4=>ti σ4 H4 λb H5=>if b=AB then te σ4 H5 λy H6=>H6 D=AA (.lst ys)/\N σ4 (ys++[y]) (upd H6 D (.lst (ys++[y])))else N σ4 ys H5))
def ydF(slots:List (Option Nat))(wi:TI)(g:TG)(ti:TT)(te:TE):TE:=λσ H Q=>wi σ H λJ H1=>∀D,H1 D=AD->∃W:Nat->Nat->St->List V->Hp->Prop,(∃m,W 0 m (inn slots σ) [] (upd H1 D (.lst [])))/\ycJ J D g ti te W (Q (.ref D))
section
variable {X:Cx}{sc:Bj}{NC:List A4}{slots:List (Option Nat)}{elt tg iter:AZ}{ifs:List AZ}{pos:CW}{g:TG}{ti:TT}{te:TE}
def zkM(hc:X.calm=AB)(hg:∀j,PG (cxC X sc NC j) tg g)(ht:∀j,PTs (cxC X sc NC j) ifs ti)(he:∀j,PE (cxC X sc NC j) elt te){cj:CI}{it D:AJ}{tn:Nat->BU->Prop}{J:It}
  {W:Nat->Nat->St->List V->Hp->Prop} {Q:Hp->Prop} {R:HE->AK->Prop} {s:AK} {σc:St} {ys:List V} {H:Hp} (T:Turn X.prog X.w X.K tg J cj.fp it tn)
  (I:Inv (cxC X sc NC cj) [] σc H s) (hf:∀b∈cj.fp,ybx (cxC X sc NC cj) [] H b) (st:tn 0 s.heap) {m:Nat} (w0:W 0 m σc ys H) (step:ycJ J D g ti te W Q)
  (fin:∀σ' H' s',Inv (cxC X sc NC cj) [] σ' H' s'->Q H'->R (.ok .next) s'):
  codeAny (model X.prog X.w) X.A (.compLoop (.ListComp elt [⟨tg,iter,ifs,0⟩] sc pos) 0 (.ref it) (.ref D) (cxC X sc NC cj).env) R s:=by
 have stat:∀{H':Hp},(∀b∈cj.fp,H' b=AD)->∀b∈cj.fp,ybx (cxC X sc NC cj) [] H' b:=λhn b hb=>⟨hn b hb,(hf b hb).2⟩;refine zjH (λn s'=>∃i σ' ys' H',Inv (cxC X sc NC cj) [] σ' H' s'/\tn i s'.heap/\(∀b∈cj.fp,H' b=AD)/\W i n σ' ys' H') ?_ m ⟨0,σc,ys,H,I,st,λb hb=>(hf b hb).1,w0⟩
 rintro n s3 ⟨i,σ3,ys3,H3,I3,st3,fr3,w3⟩
 let⟨hD,q⟩:=step i n σ3 ys3 H3 w3;rcases q with⟨stop,qn⟩|⟨go,hz,N,hN,turn⟩
 .refine thn (T.done (cxC X sc NC cj) rfl rfl rfl hc i [] s3 σ3 H3 No I3 (stat fr3) st3 stop) λr s4 kq=>?_;let⟨hr,I4⟩:=kq;subst hr;exact fin σ3 H3 s4 I4 qn
 .refine thn (T.item (cxC X sc NC cj) rfl rfl rfl hc i [] s3 σ3 H3 No I3 (stat fr3) st3 go) λr s4 kq=>?_;let⟨u,hr,h4⟩:=kq;subst hr;refine thn h4 λ_ s5 kq=>?_;let⟨x,H5,I5,r5,y5,st5,fr5⟩:=kq;have I5':=I5.pinned (stat fr5) (T.obj _ _ st5);refine thn (hg cj _ s5 σ3 H5 x u _ I5' r5 (turn x H5 y5)) λ_ s6 kq=>?_;let⟨σ6,H6,I6,q6⟩:=kq;refine thn (ht cj _ s6 σ6 H6 _ I6 q6) λok s7 kq=>?_;let⟨H7,I7,q7⟩:=kq;have again:∀{σ8:St} {ys8:List V} {H8:Hp} {s8:AK},Inv (cxC X sc NC cj) ([]++ybr cj.fp s5.heap) σ8 H8 s8->N σ8 ys8 H8->∃m,m<n/\∃i σ' ys' H',Inv (cxC X sc NC cj) [] σ' H' s8/\tn i s8.heap/\(∀b∈cj.fp,H' b=AD)/\W i m σ' ys' H':=λ{σ8 ys8 H8 s8} I8 n8=>by
   let⟨m',hm,w8⟩:=hN σ8 ys8 H8 n8;refine⟨m',hm,i+1,σ8,ys8,H8,I8.unpinned,T.keep _ _ _ st5 λb hb o e=>(I8.pin (b,o) (BO _ (BO _ (zaU hb e)))).1,λb hb=>?_,w8⟩;let⟨o,e,d⟩:=T.obj _ _ st5 b hb;exact(I8.pin (b,o) (BO _ (BO _ (zaU hb e)))).2.1
  cases ok with
  |false=>
   rw[if_neg BD]at q7 ⊢;exact again I7 q7
  |true=>
   rw[if_pos rfl]at q7 ⊢;refine thn (he cj _ s7 σ6 H7 _ I7 q7) λy s8 kq=>?_;let⟨v,H8,I8,r8,hD8,q8⟩:=kq;refine thn (ze0 (X:=cxC X sc NC cj) _ s8 σ6 H8 (.ref D) [v] (.ref D) [y] (λz H'=>z=.non/\H'=upd H8 D (.lst (ys3++[v]))) I8 rfl (.cons r8 .nil) ⟨D,ys3,v,rfl,rfl,hD8,hz,rfl,rfl⟩) λz s9 kq=>?_;let⟨zv,H9,I9,r9,e1,e2⟩:=kq;subst e2;exact again I9 q8
def zhm(hc:X.calm=AB)(O:yao X sc NC slots)(hg:∀j,PG (cxC X sc NC j) tg g)(ht:∀j,PTs (cxC X sc NC j) ifs ti)(he:∀j,PE (cxC X sc NC j) elt te){π:List (AJ×CA)}{s:AK}{σ:St}{H:Hp}(I:Inv X π σ H s)
  {it:AJ} {fp:List AJ} {tn:Nat->BU->Prop} {J:It} (T:Turn X.prog X.w X.K tg J fp it tn) (st:tn 0 s.heap) (hf:∀b∈fp,ybx X π H b) {Q:VK}
  (h:∀D,H D=AD->∃W:Nat->Nat->St->List V->Hp->Prop,(∃m,W 0 m (inn slots σ) [] (upd H D (.lst [])))/\ycJ J D g ti te W (Q (.ref D))) {RR:AH->AJ->HE->AK->Prop}
  (fin:∀D C s' H',Q (.ref D) H'->(∃o m,s'.heap.get? C=AA o/\s'.heap.Ns C m/\∀v,o.data ≠ .cell v)->ybx X π H' C->(∀h2,Cr C s'.heap h2->Inv X π σ H' {s' with heap:=h2})->RR (.ref D) C (.ok .next) s'):
  Al (model X.prog X.w) X.A (newList []) (λacc s3=>Al (model X.prog X.w) X.A (newFunctionEnv sc X.env.globals (ydy sc X.env) [] X.env.qual AD .none (AA X.env)) (λcenv s4=>
   codeAny (model X.prog X.w) X.A (.compStart (.ListComp elt [⟨tg,iter,ifs,0⟩] sc pos) 0 (.ref it) acc {cenv with scope:=relabel sc X.env}) (RR acc cenv.locals) s4) X.xe s3) X.xe s:=by
 refine Bn (wpAny_newFunctionEnv O.nocell (by intro y hy;simp at hy) (λh1 hns1 hsb1=>?_) O.kind);dsimp only at hns1 hsb1 ⊢;have hDn:H s.heap.objs.size=none:=I.hok.fresh (A0 _);let⟨W,⟨m,w0⟩,step⟩:=h s.heap.objs.size hDn;obtain⟨s3,hs3⟩:∃x:AK,x=({s with heap:=s.heap.push {cls:=.type "list",dict:=AD,data:=.seq ([]:List AH).toArray} }:AK):=⟨_,rfl⟩;have e3:s3.heap=s.heap.push {cls:=.type "list",dict:=AD,data:=.seq ([]:List AH).toArray}:=by rw[hs3]
 rw[<-e3]at hns1 hsb1;have hp3:∀b o,s.heap.get? b=AA o->s3.heap.get? b=AA o:=λb o e=>by
  rw[e3];exact A6 _ e
 have I3:Inv X π σ (upd H s.heap.objs.size (.lst [])) s3:=by
  have q:=I.laid (a:=s.heap.objs.size) (o:=.lst []) (h':=s3.heap) (t':=s.toks) hp3 (A0 _) ⟨Cm _,[],_,.nil,by rw[e3];exact Au _ rfl⟩;rw[hs3]at q ⊢;exact q
 have hf3:∀b∈fp,ybx X π (upd H s.heap.objs.size (.lst [])) b:=λb hb=>by
  let⟨o,e,_⟩:=T.obj _ _ st b hb;refine⟨?_,(hf b hb).2⟩;rw[ze (Az (Aa e))];exact(hf b hb).1
 have st3:tn 0 s3.heap:=T.keep _ _ _ st λb _ o e=>hp3 b o e;have hob:∀b∈fp,∃o,s3.heap.get? b=AA o:=λb hb=>by
  let⟨o,e,_⟩:=T.obj _ _ st3 b hb;exact⟨o,e⟩
 have hk1:∀b o,s3.heap.get? b=AA o->h1.get? b=AA o:=λb o e=>hsb1.extBut b o (Az (Aa e)) (A6 _ e);have J1:=zhg (t':=s3.toks+([]:List (A4×AH)).length) I3 O hf3 hob hns1 hk1;have hfc:∀b∈fp,ybx (cxC X sc NC ⟨s3.heap.objs.size,s3,upd H s.heap.objs.size (.lst []),fp⟩) [] (upd H s.heap.objs.size (.lst [])) b:=λb hb=>
  ⟨(hf3 b hb).1,(J1.ok.exf b hb).1,J1.ok.exfs b hb,.inl hb,(J1.ok.exf b hb).2,λp hp=>nomatch hp⟩
 have loop:codeAny (model X.prog X.w) X.A (.compLoop (.ListComp elt [⟨tg,iter,ifs,0⟩] sc pos) 0 (.ref it) (.ref s.heap.objs.size) (cxC X sc NC ⟨s3.heap.objs.size,s3,upd H s.heap.objs.size (.lst []),fp⟩).env) (RR (.ref s.heap.objs.size) s3.heap.objs.size)
   {s3 with heap:=h1,toks:=s3.toks+([]:List (A4×AH)).length}:=by
  refine zkM (D:=s.heap.objs.size) (Q:=Q (.ref s.heap.objs.size)) hc hg ht he T J1 hfc (T.keep _ _ _ st3 λb _ o e=>hk1 b o e) w0 step λσ' H' s' J' q'=>?_;have fC:H' s3.heap.objs.size=none:=J'.free;refine fin _ _ s' H' q' ?_ (I3.fpOk (A0 _) fC) λh2 hb=>zhC I3 hf3 (A0 _) J' hb;let⟨m',hn',_⟩:=J'.loc;let⟨o,es,ep,ho,hd,r⟩:=id hn';exact⟨o,m',ho,hn',λv z=>by rw[hd]at z;cases z⟩
 have self:=λ(RQ:AH->AK->Prop) (EE:AH->AK->Prop)=>T.self X.A 0 {s3 with heap:=h1,toks:=s3.toks+([]:List (A4×AH)).length} RQ EE (T.keep _ _ _ st3 λb _ o e=>hk1 b o e);subst hs3;exact codeAny_compStart_list loop (self _ _ loop)
variable {wi:TI}
def zmH(hc:X.calm=AB)(O:yao X sc NC slots)(hi:PI X tg iter wi)(hg:∀j,PG (cxC X sc NC j) tg g)(ht:∀j,PTs (cxC X sc NC j) ifs ti)(he:∀j,PE (cxC X sc NC j) elt te)
  (hs:∀x,foldedSetIterable iter X.env x=pure x:=by intro _;rfl):PE X (.ListComp elt [⟨tg,iter,ifs,0⟩] sc pos) (ydF slots wi g ti te):=by
 intro π s σ H Q I h;rw[eval_ListComp];refine wpAny_comprehension_free (use:=AD) rfl hs (zc2 (O.cells I.ok)) O.kind O.names (thn (hi π s σ H _ I h) λv s1 h1=>thn h1 λitv s2 h2=>?_);let⟨it,fp,tn,J,H2,rfl,I2,T,st2,f2,q2⟩:=h2;refine zhm hc O hg ht he I2 T st2 f2 q2 λD C s' H' q' ⟨o,m,ho,hn,_⟩ _ out=>⟨m,hn,λh2 hb=>⟨.ref D,H',out h2 hb,rfl,q'⟩⟩
end
def zdQ:∀{bs:List Bool} {us:List AH},Vals (bs.map V.bl) us->LSm.BoolsAre us bs
 |[],_,.nil=>.nil
 |b::bs,_,.cons r q=>by
  cases (show _=Cj b from r)
  exact .cons b (zdQ q)
section
variable {X:Cx}
def yhi(K:AG):List V->Hp->VK->Prop:=λxs H Q=>∃(l:AJ) (bs:List Bool),xs=[.ref l]/\SqL K H l (bs.map V.bl)/\Q (.bl (bs.all id)) H
def zle(hc:X.calm=AB):yad X (.builtin "all") (yhi X.K):=by
 intro π s σ H xs us Q I r h;let⟨l,bs,rfl,hq,q⟩:=h;let⟨u,rfl,ru⟩:=Vals.one r
 cases (show u=BW l from ru)
 let⟨its,rv,pl,hz⟩:=I.list hq;have hb:=zdQ rv;have hl:=pl.isList;have hlt:l<s.heap.objs.size:=by
  let⟨_,e,_⟩:=hl;exact Aa e
 refine call_all_walk (ES hl ?_);refine⟨s.heap.objs.size,[s.heap.objs.size,l],[s.heap.objs.size],its.toArray.size,_,_,λi=>(bs[i]?).getD AB,rfl,Hj (A:=X.A.in1) (I.ok.hd hc) _ l (Az hlt) its.toArray,⟨⟨_,Au _ rfl,rfl,rfl⟩,hl.push _⟩,λi v s' Q' E' hP hQ=>?_,λh' tk hk=>?_⟩
 .let⟨b,e,rfl⟩:=hb.get i v (by simpa using hP);erw[e,B1]at hQ;exact B6 hQ
 .have e:((CK its.toArray.size).all λi=>(bs[i]?).getD AB)=bs.all id:=by
   rw[AV,hb.length];exact LSm.range_all bs
  rw[e];exact⟨.bl _,H,I.kept (t':=tk) (Fe hk),rfl,q⟩
end
section
variable {X:Cx}{π:List (AJ×CA)}{σ:St}{H:Hp}{s:AK}
end
section
variable {X:Cx}{a:AZ}{ta:TE}{K:AG}
end
end L2
namespace L2
end L2
namespace L2
open PySem PySem.Spec PyProof.Rows
def CX1(P:Af)(w:Aw):CXT:=λouter H s E e s'=>∃(a:AJ) (cls a0:AH) (H':Hp) (B:BU),e=.ref a/\s'.os=s.os/\D6 s'.gens/\HF B outer a cls a0 s'.heap/\HOk P w H' s'.heap/\Un (frs outer) [] H H' s.heap s'.heap /\
 (∀b o,s.heap.get? b=AA o->H b=AD->b∉frs outer->B.get? b=AA o)/\(∀b u,H' b=AA u->∃o,B.get? b=AA o)/\(∀b o,s.heap.get? b=AA o->b∉frs outer->∃o',B.get? b=AA o')/\E cls AD H'
theorem yZ.there{P:Af}{w:Aw}{H:Hp}{h:BU}{a:AJ}{o:HO}(x:yZ P w H h a o):∃ob,h.get? a=AA ob:=by
 induction o with
 |lst xs=>let⟨_,_,_,_,e⟩:=x;exact⟨_,e⟩
 |tup xs=>let⟨_,_,_,ob,e,_⟩:=x;exact⟨ob,e⟩
 |dK kvs=>let⟨_,_,_,_,ob,_,_,e,_⟩:=x;exact⟨ob,e⟩
 |dT kvs=>let⟨_,_,_,_,ob,_,_,e,_⟩:=x;exact⟨ob,e⟩
 |set S n=>let⟨ob,_,_,_,e,_⟩:=x;exact⟨ob,e⟩
 |ins C dx fs=>let⟨_,_,_,e,_⟩:=x;exact⟨_,e⟩
 |own y=>exact x
 |xd fs=>let⟨_,⟨ob,_,_,e,_⟩,_⟩:=x;exact⟨ob,e⟩
 |rng lo hi=>let⟨_,_,_,e⟩:=x;exact⟨_,e⟩
 |frz ob u ih=>exact⟨ob,x.1⟩
 |tbl ps=>exact⟨_,x⟩
 |met f y=>exact⟨_,x⟩
 |ext φ=>exact x.2.1
theorem HOk.inB{P:Af}{w:Aw}{H:Hp}{h h' B:BU}(ok:HOk P w H h)(hB:B.StaysIn h)(hB':B.StaysIn h')(tr:∀b u,H b=AA u->∃o,B.get? b=AA o):HOk P w H h':=λa o e=>
 (ok a o e).stay (λb u hb q=>by
  have hb':∃o,B.get? b=AA o:=by
   rcases hb with z|z
   .rw[z];exact tr a o e
   .exact tr b _ z
  let⟨o',q'⟩:=hb';have:=hB b o' q';rw[q]at this
  cases this
  exact hB' b u q') (λ_ q=>q) λ_ _ q=>q
section
variable {P:Af}{w:Aw}{K:AG}{mg:A4->Option AH}{base:BU}{N:List A4}{qual:A4}{scope:Bj}{f:AJ}{cd:AH}{A:BC}{outer:List Env}{s₀:AK}{H₀:Hp}{E:XK}
 {π:List (AJ×CA)} {σ:St} {H:Hp} {s:AK}
def zjC{h':BU}{e:AJ}{cls:AH}{vs:List AH}(I:Inv (yaU (CX1 P w) P w K mg base N qual scope f cd A outer s₀ H₀ E) π σ H s)(hx:Gj s.heap h' e cls vs)(hE:E cls AD H):
  (yaU (CX1 P w) P w K mg base N qual scope f cd A outer s₀ H₀ E).xe (.ref e) {s with heap:=h'}:=by
 have stk:s.heap.FunFrames base (envOfC qual scope s₀.heap.objs.size f cd::outer):=I.stack;have hst:∀b,b∈frs (envOfC qual scope s₀.heap.objs.size f cd::outer)->b=s₀.heap.objs.size \/ b∈frs outer:=λb hb=>by
  have hb':b∈s₀.heap.objs.size::frs outer:=hb;exact BB.mp hb'
 have inB:∀b o,s.heap.get? b=AA o->b∉frs (envOfC qual scope s₀.heap.objs.size f cd::outer)->(DB s.heap (frs (envOfC qual scope s₀.heap.objs.size f cd::outer))).get? b=AA o:=λb o q n=>F3 _ q n;have hB:(DB s.heap (frs (envOfC qual scope s₀.heap.objs.size f cd::outer))).StaysIn s.heap:=λb o q=>Fp _ q;have bse:Un (frs outer) [] H₀ H s₀.heap s.heap:=I.base;have lt:∀b o,s₀.heap.get? b=AA o->b≠s₀.heap.objs.size:=λb o q=>Az (Aa q);have tr:∀b u,H b=AA u->∃o,(DB s.heap (frs (envOfC qual scope s₀.heap.objs.size f cd::outer))).get? b=AA o:=λb u q=>by
  let⟨o,ho⟩:=yZ.there (I.hok b u q);exact⟨o,inB b o ho λhb=>by
   have:=I.stkFree b hb;rw[q]at this
   cases this⟩
 refine wpAny_leaves_madeW (base:=DB s.heap (frs (envOfC qual scope s₀.heap.objs.size f cd::outer))) (h:=s.heap) I.ok.frames rfl hB (PySem.W.funFrames_hide stk λenv he a ha=>Dw.mpr ⟨env,he,ha⟩) hx λh'' t fl tu tn up=>?_;have up':s.heap.UpToSlots h'':=(HB hx.keeps).trans up;refine⟨e,cls,_,H,_,rfl,I.os,I.bare,fl,HOk.inB I.hok hB fl.1 tr,⟨λb o q n hb _=>?_,λb o q n hb _=>?_,bse.free,λb o q _=>?_,bse.tups,bse.frzs,bse.tbls⟩,λb o q n hb=>?_,tr,λb o q hb=>?_,hE⟩
 .refine fl.1 b o (inB b o (bse.keep b o q n hb (by simp)) λz=>?_);rcases hst b z with z|z
  .exact lt b o q z
  .exact hb z
 .let⟨sl,q1⟩:=bse.slot b o q n hb (by simp);let⟨_,o',ho',hd⟩:=CO stk (show b∈DO (λ(z:Env)=>z.frame) _ from A7 _ hb);let⟨sl',q2⟩:=up' b _ q1 (by rw[ho']at q1;cases q1;exact hd);exact⟨sl',q2⟩
 .let⟨o',q1⟩:=bse.there b o q (by simp)
  by_cases hb:b∈frs (envOfC qual scope s₀.heap.objs.size f cd::outer)
  .let⟨_,o2,ho',hd⟩:=CO stk hb;let⟨sl',q2⟩:=up' b _ ho' hd;exact⟨_,q2⟩
  .exact⟨o',fl.1 b o' (inB b o' q1 hb)⟩
 .refine inB b o (bse.keep b o q n hb (by simp)) λz=>?_;rcases hst b z with z|z
  .exact lt b o q z
  .exact hb z
 .let⟨o',q1⟩:=bse.there b o q (by simp);refine⟨o',inB b o' q1 λz=>?_⟩;rcases hst b z with z|z
  .exact lt b o q z
  .exact hb z
def zq0:ydK (CX1 P w) (yaU (CX1 P w) P w K mg base N qual scope f cd A outer s₀ H₀ E) E:=by
 intro π σ H s e s' I h;let⟨a,cls,a0,H',B,rfl,os,bare,fl,hok,un,hB,tr,hT,hE⟩:=h;have bse:Un (frs outer) [] H₀ H s₀.heap s.heap:=I.base;have lt:∀b o,s₀.heap.get? b=AA o->b≠s₀.heap.objs.size:=λb o q=>Az (Aa q);have hst:∀b,b∈frs (envOfC qual scope s₀.heap.objs.size f cd::outer)->b=s₀.heap.objs.size \/ b∈frs outer:=λb hb=>by
  have hb':b∈s₀.heap.objs.size::frs outer:=hb;exact BB.mp hb'
 have un':Un (frs (envOfC qual scope s₀.heap.objs.size f cd::outer)) [] H H' s.heap s'.heap:=un;have kB:∀b o,s₀.heap.get? b=AA o->H₀ b=AD->b∉frs outer->B.get? b=AA o:=λb o q n hb=>hB b o (bse.keep b o q n hb (by simp)) (bse.free b o q n (by simp)) λz=>by
  rcases hst b z with z|z
  .exact lt b o q z
  .exact hb z
 have kT:∀b o,s₀.heap.get? b=AA o->b∉frs outer->∃o',B.get? b=AA o':=λb o q hb=>by
  let⟨o',q1⟩:=bse.there b o q (by simp);refine hT b o' q1 λz=>?_;rcases hst b z with z|z
  .exact lt b o q z
  .exact hb z
 refine wpAny_leaves_onW I.ok.frames rfl fl λh'' fl' up=>?_;refine⟨a,cls,a0,H',B,rfl,os.trans I.os,bare,fl',HOk.inB hok fl.1 fl'.1 tr,⟨λb o q n hb _=>fl'.1 b o (kB b o q n hb),λb o q n hb _=>?_,λb o q n _=>?_,λb o q _=>?_,λb xs q=>un'.tups b xs (bse.tups b xs q),λb o u q=>un'.frzs b o u (bse.frzs b o u q),λb ps q=>?_⟩,kB,tr,kT,hE⟩
 .let⟨sl,q1⟩:=bse.slot b o q n hb (by simp);have n1:=bse.free b o q n (by simp);let⟨sl1,q2⟩:=un'.slot b _ q1 n1 (A7 _ hb) (by simp);let⟨_,o',ho',hd⟩:=CO fl.2.2.1 (show b∈DO (λ(z:Env)=>z.frame) _ from A7 _ hb);let⟨sl',q3⟩:=up b _ q2 (by rw[ho']at q2;cases q2;exact hd);exact⟨sl',q3⟩
 .let⟨o',q1⟩:=bse.there b o q (by simp);exact un'.free b o' q1 (bse.free b o q n (by simp)) (by simp)
 .let⟨o',q1⟩:=bse.there b o q (by simp);let⟨o2,q2⟩:=un'.there b o' q1 (by simp)
  by_cases hb:b∈frs outer
  .let⟨_,o3,ho3,hd⟩:=CO fl.2.2.1 (show b∈DO (λ(z:Env)=>z.frame) _ from A7 _ hb);let⟨sl',q3⟩:=up b _ ho3 hd;exact⟨_,q3⟩
  .let⟨o4,q4⟩:=kT b o q hb;exact⟨o4,fl'.1 b o4 q4⟩
 .let⟨m1,e1⟩:=bse.tbls b ps q;let⟨m2,e2⟩:=un'.tbls b _ e1;exact⟨m1++m2,by rw[e2,Dt]⟩
end
section
variable {X:Cx}{e:AZ}{es:List AZ}{te:TE}
end
section
variable {X:Cx}{e:AZ}{es:List AZ}{t:TA}{E:XK}
end
structure yeQ(K:AG)(C:AJ):Prop where
 ga:BI K (.ref C) "__getattribute__"=AA (AA (.builtin "BaseException.__getattribute__"))
 gh:BI K (.ref C) "__getattr__"=AA AD
 cl:BI K (.ref C) "__class__"=AA (AA (.builtin "object.__class__"))
 sb:Gu K (.ref C) (.type "BaseException")=AA AB
 mo:Gv K C (.type "object")=AA AB
 ct:∃cd,Gw K C=AA cd
section
variable {pg:Af}{wd:Aw}{A:BC}{E:AH->AK->Prop}{h:BU}{g:Array GenState}{d:Drawn}{t:Nat}{os:OsState}{a C:AJ}{o:CA}{K:AG}
end
def yf3(a C:AJ):BU->Prop:=λh=>∃o,h.get? a=AA o/\o.cls=.ref C
section
variable {X:Cx}
end
section
variable {X:Cx}{π:List (AJ×CA)}{σ:St}{H:Hp}{s:AK}
end
section
variable {X:Cx}{π:List (AJ×CA)}{σ:St}{H:Hp}{s:AK}
end
section
variable {X:Cx}{body suite:List By}{b₀:By}{x n:A4}{np hpos pos:CW}{tb:XK->TS}{ts:TS}{W:AJ}{i:Nat}
end
structure yaT(k:Nat)(A:BC):Prop where
 dp:A.depth+3*k+5<recursionLimit
 un:A.units+16*k+200<cLine
theorem yaW.h{k:Nat}{A:BC}(r:yaW k A):yaT k A:=⟨r.dp,r.un⟩
theorem yaT.deeper{k:Nat}{A:BC}(r:yaT (k+1) A)(env:Env):yaT k (A.deeper env):=⟨by have:=r.dp;show A.depth+1+3*k+5<_;lia,by have:=r.un;show A.units+3+16*k+200<_;lia⟩
structure yb4(P:Af)(w:Aw)(K:AG)(mg:A4->Option AH)(base:BU)(k:Nat)(f:AJ)(fd:BL)(ps:List A4)(sp:Sp):Prop where
 len:∀vs H Q E,sp vs H Q E->vs.length=ps.length
 run:∀(A:BC) (outer:List Env) (s:AK) (H:Hp) (args:Args) (us:List AH) (vs:List V) (Q:VK),yaT k A->yc3 P w K mg base A outer s H->Em s fd args (ps.zip us)->Vals vs us->sp vs H Q E0 ->
  codeAny (model P w) A (.call (.ref f) args) (CR CX0 outer P w H s Q E0) s
abbrev ybU(P:Af)(w:Aw)(K:AG)(mg:A4->Option AH)(base:BU)(N:List A4)(qual:A4)(scope:Bj)(f:AJ)(cd:AH)(A:BC)(outer:List Env)(s:AK)(H:Hp):Cx:=
 {yaU CX0 P w K mg base N qual scope f cd A outer s H E0 with calm:=AC,xe:=No}
theorem Inv.calmless{X:Cx}{π:List (AJ×CA)}{σ:St}{H:Hp}{s:AK}(I:Inv X π σ H s)(A:BC)(E:AH->AK->Prop)(hf:A.frames=X.A.frames):Inv {X with A:=A,calm:=AC,xe:=E} π σ H s:=
 ⟨⟨I.ok.mod,I.ok.kind,I.ok.glob,I.ok.blt,I.ok.above,I.ok.inj,I.ok.has,I.ok.cab,(λz=>nomatch z),hf.trans I.ok.frames,I.ok.stk,I.ok.exf,I.ok.bs,I.ok.bsz,I.ok.noex,I.ok.exfs,I.ok.funs,I.ok.frf⟩,I.os,I.bare,I.base,I.loc,I.cell,I.free,I.freeC,I.pin,I.hok,I.len⟩
section
variable {P:Af}{w:Aw}{K:AG}{mg:A4->Option AH}{base:BU}
theorem Fun.okH{x qual:A4}{st:By}{f:AJ}{fd:BL}{N ps:List A4}{k:Nat}{sp:Sp}(F:Fun K x qual st f fd)(S:yaN N ps (yp st))(len:∀vs H Q E,sp vs H Q E->vs.length=ps.length)
  (hbody:∀(cdv:AH) (A:BC) (outer:List Env) (s:AK) (H:Hp) (vs:List V) (Q:VK),yaT k (A.deeper (envOfC qual (yp st) s.heap.objs.size f cdv))->sp vs H Q E0 ->
   ∃t,PSs (ybU P w K mg base N qual (yp st) f cdv A outer s H) (yU st) t/\t {nx:=λ_ H'=>Q .non H',rt:=Q} (start N vs) H):yb4 P w K mg base (k+1) f fd ps sp:=by
 let⟨oc,od,kV,doc,pm,an,cdv,ct,osl,rfl,lk,hcd⟩:=F.ex;refine⟨len,λA outer s H args us vs Q hr e0 hb r hsp=>?_⟩;have hl:=len _ _ _ _ hsp;have KX:K.In s.heap:=e0.mod.kin.keeps λb o e=>(e0.bs b o e).1;have lim:s.heap.NoLimit:=e0.mod.nolimit.keeps λb o e=>(e0.bs b o e).1;have hkind:∀y∈ps.zip us,(yp st).names.lookup y.1=AA .local \/ ((yp st).names.lookup y.1=AA .cell/\((cellsFrom (s.heap.objs.size+1) (yp st).names []).lookup y.1).isSome=AB):=λ⟨n,v⟩ hy=>by
  rcases S.par n (Dj hy).1 with q|q
  .exact .inl q
  .exact .inr ⟨q,DJ _ _ _ (.inl q)⟩
 refine FD (by have:=hr.dp;lia) (KX _ _ lk) rfl S.co S.gen rfl (Ft KX hcd) (hb _ _ _ _ ?_);refine Dz S.kind hkind λenv he s1 x=>?_;subst he;refine⟨lim.keeps x.toInCall.keep,codeAny_func ?_⟩;let⟨t,ht,hq⟩:=hbody cdv A outer s H vs Q (hr.deeper _) hsp;have e0':yc3 P w K mg base {A with handled:=AD} outer s H:=⟨e0.frames,e0.mod,e0.bs,e0.bsz,e0.funs,e0.frf,e0.hok,e0.bare⟩;have I0:Inv (yaU CX0 P w K mg base N qual (yp st) f cdv {A with handled:=AD} outer s H E0) [] (start N vs) H s1:=zem S rfl e0' hl r x;have I:Inv (ybU P w K mg base N qual (yp st) f cdv A outer s H) [] (start N vs) H s1:=I0.calmless (A.deeper (envOfC qual (yp st) s.heap.objs.size f cdv)) No rfl;refine CL (ht [] s1 (start N vs) H _ I hq) (λfl s' hs=>?_) λe s' z=>z.elim;have fin:∀{σ':St} {H':Hp} {v:V} {u:AH},Inv (ybU P w K mg base N qual (yp st) f cdv A outer s H) [] σ' H' s'->RelV v u->Q v H'->CE outer P w H s Q u s':=
  λ{σ' H' v u} J rv q=>⟨v,H',J.os,J.bare,J.base,J.hok,rv,q⟩
 cases fl with
 |ret u=>
  let⟨v,σ',H',J,rv,q⟩:=hs;exact fin J rv q
 |next=>
  let⟨σ',H',J,q⟩:=hs;exact fin (v:=V.non) (u:=CJ) J rfl q
 |brk=>
  let⟨_,_,_,q⟩:=hs;exact Bk q
 |cont=>
  let⟨_,_,_,q⟩:=hs;exact Bk q
end
section
variable {X:Cx}{k:Nat}{f:AJ}{fd:BL}{ps:List A4}{sp:Sp}{x:A4}{p pos:CW}{e:AZ}{es:List AZ}{t:TA}
end
section
variable {P:Af}{w:Aw}{K:AG}{mg:A4->Option AH}{base:BU}
theorem own1{N:List A4}{qual:A4}{scope:Bj}{f:AJ}{cd:AH}{A:BC}{outer:List Env}{s:AK}{H:Hp}{E:XK}{CX:CXT}:
  Eb (model (yaU CX P w K mg base N qual scope f cd A outer s H E).prog (yaU CX P w K mg base N qual scope f cd A outer s H E).w) (yaU CX P w K mg base N qual scope f cd A outer s H E).A (yaU CX P w K mg base N qual scope f cd A outer s H E).env (yaU CX P w K mg base N qual scope f cd A outer s H E).xe:=
 PassesOwn.leaving
end
section
variable {X:Cx}
end
section
variable {X:Cx}
def ygg(K:AG):List V->Hp->VK->Prop:=λxs H Q=>∃(l:AJ) (ns:List Int),xs=[.ref l]/\SqL K H l (ns.map V.int)/\0<ns.length/\∀M,M∈ns->(∀a,a∈ns->a<=M)->Q (.int M) H
def ziX(hc:X.calm=AB):yad X (.builtin "max") (ygg X.K):=by
 intro π s σ H xs us Q I r h;let⟨l,ns,rfl,hq,hne,q⟩:=h;let⟨u,rfl,ru⟩:=Vals.one r
 cases (show u=BW l from ru)
 let⟨its,rv,pl,hz⟩:=I.list hq;have hi:F2 its ns:=zhF rv;let⟨ys,e⟩:=hi.allInts.items;have hns:ns=ys.toList.map (·.1):=by rw[<-hi.numsOf,<-nums_intItems,<-e]
 have hsz:0<ys.size:=by
  rw[hns,BN,Bz]at hne;exact hne
 have hl:=pl.isList;rw[e]at hl;refine max_intList (I.ok.hd hc) hl hsz λv h' tk hv hk=>?_;let⟨t,rfl⟩:=intItems_at hv;let⟨h1,h2⟩:=argBest_gt (numAt ys) (ys.size-1);refine⟨.int _,H,I.kept (t':=tk) hk,⟨t,rfl⟩,q _ ?_ λa ha=>?_⟩
 .rw[hns,numAt_eq];exact getD_mem (by rw[BN,Bz];lia)
 .rw[hns]at ha;let⟨j,hj,rfl⟩:=mem_getD ha;rw[BN,Bz]at hj;rw[<-numAt_eq];exact h2 j ∅
end
section
variable {κ:Type}[DecidableEq κ]
def ybJ(kvs:List (κ×V))(k:κ):Option V:=(kvs.find? λkv=>decide (kv.1=k)).map (·.2)
def putK(kvs:List (κ×V))(k:κ)(v:V):List (κ×V):=
 if (kvs.any λkv=>decide (kv.1=k))=AB then kvs.map (λkv=>if kv.1=k then(kv.1,v)else kv)else kvs++[(k,v)]
def zbz{p:κ×V}{r:List (κ×V)}{k:κ}(e:p.1=k):ybJ (p::r) k=AA p.2:=by simp[ybJ,Bw,e]
def zbp{p:κ×V}{r:List (κ×V)}{k:κ}(e:¬p.1=k):ybJ (p::r) k=ybJ r k:=by simp[ybJ,Bw,e]
def zgH(k:κ):∀kvs:List (κ×V),(kvs.any λkv=>decide (kv.1=k))=(ybJ kvs k).isSome
 |[]=>rfl
 |p::r=>by
  rw[BV]
  by_cases e:p.1=k
  .simp only[zbz e,decide_eq_true e,Et,Option.isSome_some]
  .rw[zbp e,decide_eq_false e,Ff];exact zgH k r
def zba(kvs:List (κ×V))(k:κ)(v:V):(putK kvs k v).length<=kvs.length+1:=by
 unfold putK;split
 .rw[BN];lia
 .rw[Av,AL,AN];lia
theorem ybP.isSome_eq{o:Option V}{u:Option AH}(r:ybP o u):o.isSome=u.isSome:=by
 cases o with
 |none=>cases u with
  |none=>rfl
  |some _=>exact(show False from r).elim
 |some _=>cases u with
  |none=>exact(show False from r).elim
  |some _=>rfl
theorem ybP.getD{o:Option V}{u:Option AH}{d:V}{d':AH}(r:ybP o u)(rd:RelV d d'):RelV (o.getD d) (u.getD d'):=by
 cases o with
 |none=>cases u with
  |none=>exact rd
  |some _=>exact(show False from r).elim
 |some _=>cases u with
  |none=>exact(show False from r).elim
  |some _=>exact r
theorem KV.val{kvs:List (κ×V)}{vs:List (κ×AH)}(r:KV kvs vs)(k:κ):ybP (ybJ kvs k) (valueAt vs k):=by
 unfold KV at r
 induction r with
 |nil=>exact Cb
 |@cons p q ps qs h t ih=>
  let⟨h1,h2⟩:=h
  by_cases e:p.1=k
  .have e':q.1=k:=h1.symm.trans e;have b:valueAt (q::qs) k=AA q.2:=by simp[valueAt,Bw,e']
   rw[zbz e,b];exact h2
  .have e':¬q.1=k:=λz=>e (h1.trans z);have b:valueAt (q::qs) k=valueAt qs k:=by simp[valueAt,Bw,e']
   rw[zbp e,b];exact ih
theorem KV.any{kvs:List (κ×V)}{vs:List (κ×AH)}(r:KV kvs vs)(k:κ):(kvs.any λkv=>decide (kv.1=k))=vs.any λkv=>decide (kv.1=k):=by
 unfold KV at r
 induction r with
 |nil=>rfl
 |cons h t ih=>rw[BV,BV,ih,h.1]
theorem KV.repl{kvs:List (κ×V)}{vs:List (κ×AH)}(r:KV kvs vs)(k:κ){y:V}{u:AH}(ry:RelV y u):
  KV (kvs.map λkv=>if kv.1=k then(kv.1,y)else kv) (vs.map λkv=>if kv.1=k then(kv.1,u)else kv):=by
 unfold KV at r ⊢
 induction r with
 |nil=>exact .nil
 |@cons p q ps qs h t ih=>
  rw[AM,AM];refine .cons ?_ ih;let⟨h1,h2⟩:=h
  by_cases e:p.1=k
  .rw[if_pos e,if_pos (h1.symm.trans e)];exact⟨h1,ry⟩
  .rw[if_neg e,if_neg (λz=>e (h1.trans z))];exact⟨h1,h2⟩
theorem KV.put{kvs:List (κ×V)}{vs:List (κ×AH)}(r:KV kvs vs)(k:κ){y:V}{u:AH}(ry:RelV y u):KV (putK kvs k y) (stored vs k u):=by
 unfold putK stored;rw[r.any k]
 by_cases e:(vs.any λkv=>decide (kv.1=k))=AB
 .rw[if_pos e,if_pos e];exact r.repl k ry
 .rw[if_neg e,if_neg e];exact HW r ⟨rfl,ry⟩
theorem KV.length{kvs:List (κ×V)}{vs:List (κ×AH)}(r:KV kvs vs):kvs.length=vs.length:=EY r
end
def zkr{P:Af}{w:Aw}{k:Key}{u:AH}(r:RelV (kV k) u):(yO P w).is k u=true:=by
 cases k with
 |inl i=>let⟨t,e⟩:=(show ∃t,u=Gz i t from r);subst e;exact zfJ P w i t
 |inr x=>let⟨t,e⟩:=(show ∃t,u=HA x t from r);subst e;exact zfO P w x t
def zen{P:Af}{w:Aw}:∀{ks:List Key} {us:List AH},Vals (ks.map kV) us->ItemsAre (yO P w) ks us
 |[],_,r=>by rw[A9]at r;cases r;exact .nil
 |k::ks,_,r=>by
  rw[AM]at r
  cases r with
  |cons h t=>exact .cons (zkr h) (zen t)
abbrev KT(H:Hp):List (List Key×V)->List (List Key×AJ×AH)->Prop:=GT λp q=>p.1=q.1/\H q.2.1=AA (.tup (p.1.map kV))/\RelV p.2 q.2.2
theorem KT.val{H:Hp}{kvs:List (List Key×V)}{xs:List (List Key×AJ×AH)}(r:KT H kvs xs)(k:List Key):ybP (ybJ kvs k) ((atKey xs k).map (·.2)):=by
 induction r with
 |nil=>exact Cb
 |@cons p q ps qs h t ih=>
  let⟨h1,_,h2⟩:=h
  by_cases e:p.1=k
  .have e':q.1=k:=h1.symm.trans e;have b:atKey (q::qs) k=AA q.2:=by simp[atKey,Bw,e']
   rw[zbz e,b];exact h2
  .have e':¬q.1=k:=λz=>e (h1.trans z);have b:atKey (q::qs) k=atKey qs k:=by simp[atKey,Bw,e']
   rw[zbp e,b];exact ih
theorem KT.repl{H:Hp}{kvs:List (List Key×V)}{xs:List (List Key×AJ×AH)}(r:KT H kvs xs)(k:List Key){y:V}{u:AH}(ry:RelV y u):
  KT H (kvs.map λkv=>if kv.1=k then(kv.1,y)else kv) (xs.map (putAt k u)):=by
 induction r with
 |nil=>exact .nil
 |@cons p q ps qs h t ih=>
  rw[AM,AM];refine .cons ?_ ih;let⟨h1,h2,h3⟩:=h;unfold putAt
  by_cases e:p.1=k
  .rw[if_pos e,if_pos (h1.symm.trans e)];exact⟨h1,h2,ry⟩
  .rw[if_neg e,if_neg (λz=>e (h1.trans z))];exact⟨h1,h2,h3⟩
theorem KT.put{H:Hp}{kvs:List (List Key×V)}{xs:List (List Key×AJ×AH)}(r:KT H kvs xs)(k:List Key){b:AJ}{y:V}{u:AH}(hb:H b=AA (.tup (k.map kV)))(ry:RelV y u):
  KT H (putK kvs k y) (storedH xs k b u):=by
 have e:(kvs.any λkv=>decide (kv.1=k))=(atKey xs k).isSome:=by
  rw[zgH,(r.val k).isSome_eq,Option.isSome_map]
 unfold putK storedH;rw[e]
 by_cases q:(atKey xs k).isSome=AB
 .rw[if_pos q,if_pos q];exact r.repl k ry
 .rw[if_neg q,if_neg q];exact HW r ⟨rfl,hb,ry⟩
theorem KT.keeps{H H':Hp}{kvs:List (List Key×V)}{xs:List (List Key×AJ×AH)}(r:KT H kvs xs)(ht:∀b ys,H b=AA (.tup ys)->H' b=AA (.tup ys)):KT H' kvs xs:=
 Paired.mapP r λ_ _ z=>⟨z.1,ht _ _ z.2.1,z.2.2⟩
section
variable {P:Af}{w:Aw}{H:Hp}{h:BU}{a:AJ}
def zp4{u:HO}(ok:HOk P w H h)(e:Rd H a u):yZ P w H h a u:=e.ok ok
def znw{kvs:List (Key×V)}(ok:HOk P w H h)(e:Rd H a (.dK kvs)):kvs.length<=sizeLine/\(a==sysModules)=AC/\∃vs,KV kvs vs/\h.DictOf (yO P w) a vs:=
 show yZ P w H h a (.dK kvs)from zp4 ok e
def zpj{kvs:List (Key×V)}(ok:HOk P w H h)(e:H a=AA (.dK kvs)):kvs.length<=sizeLine/\(a==sysModules)=AC/\∃vs,KV kvs vs/\h.DictOf (yO P w) a vs:=znw ok (.inl e)
def zi5{ks:List Key}(ok:HOk P w H h)(e:H a=AA (.tup (ks.map kV))):(tupleKind (yO P w)).is h ks a:=by
 let⟨_,its,r,o,h1,h2,n,h3⟩:=(show yZ P w H h a (.tup (ks.map kV))from ok a _ e);exact⟨o,its.toArray,n,h1,h2,h3,by simpa using zen r⟩
def zmD{kvs:List (List Key×V)}(ok:HOk P w H h)(e:Rd H a (.dT kvs)):kvs.length<=sizeLine/\(a==sysModules)=AC /\
  ∃xs,KT H kvs xs/\h.DictOfH (tupleKind (yO P w)) a xs:=by
 let⟨z,y,xs,r,o,es,ep,h1,h2,h3,h4,h5⟩:=(show yZ P w H h a (.dT kvs)from zp4 ok e);refine⟨z,y,xs,r,o,es,ep,h1,h2,h3,h4,λx hx=>?_,h5⟩;have all:∀{l:List (List Key×V)} {m:List (List Key×AJ×AH)},KT H l m->∀x∈m,(tupleKind (yO P w)).is h x.1 x.2.1:=by
  intro l m q
  induction q with
  |nil=>intro x hx;exact nomatch hx
  |@cons p q ps qs hq t ih=>
   intro x hx;rcases BB.mp hx with e|hx
   .subst e;exact zi5 ok (by rw[<-hq.1];exact hq.2.1)
   .exact ih x hx
 exact all r x hx
def zqR{kvs:List (List Key×V)}(ok:HOk P w H h)(e:H a=AA (.dT kvs)):kvs.length<=sizeLine/\(a==sysModules)=AC /\
  ∃xs,KT H kvs xs/\h.DictOfH (tupleKind (yO P w)) a xs:=zmD ok (.inl e)
end
def yfm(H:Hp)(a:AJ)(y:V)(r:Option V):Prop:=
 (∃kvs k,Rd H a (.dK kvs)/\y=kV k/\r=ybJ kvs k) \/ ∃kvs k b,Rd H a (.dT kvs)/\y=.ref b/\H b=AA (.tup (k.map kV))/\r=ybJ kvs k
def yfK(H:Hp)(a:AJ)(y v:V)(H':Hp):Prop:=
 (∃kvs k,H a=AA (.dK kvs)/\y=kV k/\kvs.length<sizeLine/\H'=upd H a (.dK (putK kvs k v))) \/
 ∃kvs k b,H a=AA (.dT kvs)/\y=.ref b/\H b=AA (.tup (k.map kV))/\kvs.length<sizeLine/\H'=upd H a (.dT (putK kvs k v))
section
variable {X:Cx}{π:List (AJ×CA)}{σ:St}{H:Hp}{s:AK}{a:AJ}{y v:V}{u r:AH}{o:Option V}{A:BC}{E:AH->AK->Prop}
theorem Inv.big(I:Inv X π σ H s):sysModules<s.heap.objs.size:=by
 have h:mainGlobals<s.heap.objs.size:=(I.mod.glob.keeps I.bk).lt;exact Nat.lt_trans ⋯ h
def zfW{h':BU}{t':Nat}{ob:HO}(I:Inv X π σ H s)(mu:Mut (H a))(hs:Cr a s.heap h')(he:∃q,h'.get? a=AA q)(new:yZ X.prog X.w (upd H a ob) h' a ob):
  Inv X π σ (upd H a ob) {s with heap:=h',toks:=t'}:=
 I.write (x:=a) (e:=a) mu (.inl rfl) (λb q hb z=>(hs.2 b hb).trans z) he new
def zlB{P:Af}{w:Aw}{H':Hp}{h':BU}{kvs:List (Key×V)}{vs:List (Key×AH)}(z:kvs.length<=sizeLine)(hd:(a==sysModules)=AC)(rel:KV kvs vs)(dd:h'.DictOf (yO P w) a vs):
  yZ P w H' h' a (.dK kvs):=⟨z,hd,vs,rel,dd⟩
def zjc{H':Hp}{Q:Unit->AK->Prop}(hu:A.units+1<cLine)(I:Inv X π σ H s)(g:yfK H a y v H')(ry:RelV y u)(rv:RelV v r)(h:∀s',Inv X π σ H' s'->Q () s'):
  Al (model X.prog X.w) A (setItem (.ref a) u r) Q E s:=by
 rcases g with⟨kvs,k,e,ey,l,eH⟩|⟨kvs,k,b,e,ey,eb,l,eH⟩
 .subst ey eH;let⟨z,hd,vs,rel,dd⟩:=zpj I.hok e;have hz:vs.length<=sizeLine:=by rw[<-rel.length];exact z
  have hl:(putK kvs k v).length<=sizeLine:=by have:=zba kvs k v;lia
  refine wpAny_setItem_pairs (hsz:=hz) (zkr ry) dd λh' dd' hs=>h _ ?_;have he:∃q,h'.get? a=AA q:=let ⟨q,_,_,hq,_⟩:=dd';⟨q,hq⟩
  exact zfW I (by rw[e];exact Cb) hs he (zlB hl hd (rel.put k rv) dd')
 .subst ey eH
  cases (show u=BW b from ry)
  let⟨z,hd,xs,rel,dd⟩:=zqR I.hok e;have hz:xs.length<=sizeLine:=by rw[<-EY rel];exact z
  have hl:(putK kvs k v).length<=sizeLine:=by have:=zba kvs k v;lia
  refine wpAny_setItem_heap (hsz:=hz) (Fw hu) (zi5 I.hok eb) dd λh' dd' hs=>h _ ?_;let⟨q,es,ep,hq,h2,h3,h4,_,h5⟩:=dd';refine zfW I (by rw[e];exact Cb) hs ⟨q,hq⟩ ⟨hl,hd,_,(rel.put k eb rv).keeps λc ys ec=>?_,q,es,ep,hq,h2,h3,h4,h5⟩;rw[ze (zqD ec e (λz=>nomatch z))];exact ec
end
section
variable {X:Cx}{π:List (AJ×CA)}{σ:St}{H:Hp}{s:AK}{a:AJ}{kvs:List (Key×V)}{k:Key}{u:AH}{A:BC}{E:AH->AK->Prop}
end
def yd2(i:AZ):Prop:=∀ov iv,subscripted i AC ov iv=operate [ov,iv] (getItem ov iv)
def zmf{prog:Af}{w:Aw}{A:BC}{E:AH->AK->Prop}{s:AK}{env:Env}{value slice:AZ}{pos:CW}{T id:String}{Q:AH->AK->Prop}
  (hl:typeLookup (.type T) "__getitem__"=pure (AA (.builtin id))) (hs:yd2 slice)
  (h:Al (model prog w) A (eval value env) (λo s₁=>Al (model prog w) A (eval slice env) (λi s₂=>s₂.TypeIs o T/\Al (model prog w) A (getItem o i) Q E s₂) E s₁) E s):
  Al (model prog w) A (eval (.Subscript value slice pos) env) Q E s:=by
 refine Ge (CL h (λo s₁ h₁=>CL h₁ (λi s₂ h₂=>?_) λ_ _ x=>x) λ_ _ x=>x);let⟨hT,h₂⟩:=h₂;unfold subscriptTail;refine AO ?_;rw[getitemInPython_of_ne hT.not_modules];refine AO (wpAny_specialOf hT hl ?_);have fin:Al (model prog w) A (subscripted slice AC o i) (λr s₃=>Al (model prog w) A (letTemporaryGo value o r >>= λ_=>pure r) Q E s₃) E s₂:=by
  rw[hs o i];exact wpAny_operating (CL h₂ (λr s₃ h₃=>AO (wpAny_letTemporaryGo (Ag h₃))) λ_ _ x=>x)
 first
  |exact Ag (AO fin)
  |exact AO (Ag (AO fin))
  |exact AO fin
def ye7(td ty tv:TE):TS:=λD σ H=>tv σ H λv H1=>td σ H1 λx H2=>ty σ H2 λy H3=>∃a H4,x=.ref a/\yfK H3 a y v H4/\D.nx σ H4
section
variable {X:Cx}{o i e value:AZ}{pos pos' tpos:CW}{td ty tv:TE}
def znR(hu:X.A.units+1<cLine)(ho:PE X o td)(hi:PE X i ty)(hv:PE X value tv)(hs:swapsWith value (AA (.Subscript o i pos')) pos.line X.env=pure AC):
  PS X (.Assign [.Subscript o i pos'] value pos) (ye7 td ty tv):=by
 intro π s σ H D I h;refine wpAny_Assign_Subscript (thn (hv π s σ H _ I h) λr s1 kq=>?_) hs;let⟨v,H1,I1,rv,q1⟩:=kq;refine thn (ho π s1 σ H1 _ I1 q1) λu s2 kq=>?_;let⟨x,H2,I2,rx,q2⟩:=kq;refine thn (hi π s2 σ H2 _ I2 q2) λiv s3 kq=>?_;let⟨y,H3,I3,ry,a,H4,ex,g,q3⟩:=kq;subst ex;obtain rfl:u=BW a:=rx;exact zjc hu I3 g ry rv λs4 I4=>⟨σ,H4,I4,q3⟩
end
def zll{P:Af}{w:Aw}{H:Hp}(h:BU)(hb:sysModules<h.objs.size):yZ P w H (h.push {cls:=.type "dict",data:=.dict #[]}) h.objs.size (.dK []):=
 ⟨Cm _,beq_eq_false_iff_ne.mpr (Bf (Az hb)),[],.nil,Heap.DictOf.new h⟩
def zk3{P:Af}{w:Aw}{H:Hp}(h:BU)(hb:sysModules<h.objs.size):yZ P w H (h.push {cls:=.type "dict",data:=.dict #[]}) h.objs.size (.dT []):=
 ⟨Cm _,beq_eq_false_iff_ne.mpr (Bf (Az hb)),[],.nil,_,#[],0,Au _ rfl,⟨rfl,rfl,rfl⟩,rfl,rfl,List.nodup_nil⟩
def ydO:TE:=λ_ H Q=>∀p,H p=AD->Q (.ref p) (upd H p (.dT []))
section
variable {X:Cx}{pos:CW}
def zq1:PE X (.Dict [] [] pos) ydO:=λπ s σ H Q I h=>
 wpAny_Dict_empty ⟨.ref s.heap.objs.size,_,I.laid (a:=s.heap.objs.size) (o:=.dT []) (t':=s.toks) (λ_ _ q=>A6 _ q) (A0 _) (zk3 s.heap I.big),rfl,h _ (I.hok.fresh (A0 _))⟩
end
def ybL:List (TE×TE)->St->Hp->(List (V×V)->Hp->Prop)->Prop
 |[],_,H,Q=>Q [] H
 |(tk,tv)::r,σ,H,Q=>tk σ H λx H1=>tv σ H1 λy H2=>ybL r σ H2 λps H3=>Q ((x,y)::ps) H3
abbrev VV:List (V×V)->List (AH×AH)->Prop:=GT λp q=>RelV p.1 q.1/\RelV p.2 q.2
def PPs(X:Cx)(pos:CW)(keys:List (Option AZ))(values:List AZ)(trs:List (TE×TE)):Prop:=
 ∀(π:List (AJ×CA)) (s:AK) (σ:St) (H:Hp) (Q:List (V×V)->Hp->Prop),Inv X π σ H s->ybL trs σ H Q ->
  Al (model X.prog X.w) X.A (evalPairs (pairTrees keys values X.env pos)) (λvs s'=>∃ps H',Inv X π σ H' s'/\VV ps vs/\Q ps H') X.xe s
def zmE{X:Cx}{pos:CW}:PPs X pos [] [] []:=λπ s σ H Q I h=>pairTrees_nil_walk ⟨[],H,I,.nil,h⟩
def zks{X:Cx}{pos:CW}{k v:AZ}{ks:List (Option AZ)}{vs:List AZ}{tk tv:TE}{trs:List (TE×TE)}(hk:PE X k tk)(hv:PE X v tv)(hr:PPs X pos ks vs trs):
  PPs X pos (AA k::ks) (v::vs) ((tk,tv)::trs):=λπ s σ H Q I h=>
 pairTrees_cons_walk (thn (hk π s σ H _ I h) λu s1 ⟨x,H1,I1,rx,q1⟩=>thn (hv π s1 σ H1 _ I1 q1) λw2 s2 ⟨y,H2,I2,ry,q2⟩=>
  thn (hr π s2 σ H2 _ I2 q2) λws s3 ⟨ps,H3,I3,rel,q3⟩=>⟨(x,y)::ps,H3,I3,.cons ⟨rx,ry⟩ rel,q3⟩)
def ya0(kvs more:List (Key×V)):List (Key×V):=more.foldl (λacc kv=>putK acc kv.1 kv.2) kvs
theorem KV.merge:∀{more:List (Key×V)} {rs:List (Key×AH)} {kvs:List (Key×V)} {vs:List (Key×AH)},KV more rs->KV kvs vs->KV (ya0 kvs more) (merged vs rs):=by
 intro more rs kvs vs r;unfold KV at r
 induction r generalizing kvs vs with
 |nil=>intro q;exact q
 |@cons p q ps qs h t ih=>
  intro r0;have e:KV (putK kvs p.1 p.2) (stored vs q.1 q.2):=by
   have:=r0.put p.1 h.2;rw[<-h.1];exact this
  exact ih e
def zbF:∀(more kvs:List (Key×V)),(ya0 kvs more).length<=kvs.length+more.length
 |[],kvs=>by show kvs.length<=kvs.length+0;lia
 |p::r,kvs=>by
  have h1:=zbF r (putK kvs p.1 p.2);have h2:=zba kvs p.1 p.2;show (ya0 (putK kvs p.1 p.2) r).length<=_;rw[AL];lia
def zdA{P:Af}{w:Aw}:∀{kvs:List (Key×V)} {ws:List (AH×AH)},VV (kvs.map λkv=>(kV kv.1,kv.2)) ws->∃rs,Carries (yO P w) ws rs/\KV kvs rs
 |[],_,r=>by rw[A9]at r;cases r;exact⟨[],Cb,.nil⟩
 |p::kvs,_,r=>by
  rw[AM]at r
  cases r with
  |@cons a b as bs h t=>
   let⟨rs,c,q⟩:=zdA (P:=P) (w:=w) t;let⟨b1,b2⟩:=b;exact⟨(p.1,b2)::rs,⟨zkr h.1,rfl,c⟩,.cons ⟨rfl,h.2⟩ q⟩
def yem(trs:List (TE×TE)):TE:=λσ H Q=>∀p,H p=AD->ybL trs σ (upd H p (.dK [])) λps H2=>H2 p=AA (.dK [])/\∃kvs:List (Key×V),ps=kvs.map (λkv=>(kV kv.1,kv.2))/\kvs.length<=15/\Q (.ref p) (upd H2 p (.dK (ya0 [] kvs)))
def znv{X:Cx}{pos:CW}{keys:List (Option AZ)}{values:List AZ}{trs:List (TE×TE)}(h:PPs X pos keys values trs)(hall:keys.all (·.isSome)=AB)(hl:keys.length=values.length)(h0:keys≠[])
  (h15:keys.length<=15):PE X (.Dict keys values pos) (yem trs):=by
 intro π s σ H Q I q;have hn:=I.hok.fresh (A0 s.heap.objs.size);have I1:=I.laid (a:=s.heap.objs.size) (o:=.dK []) (h':=s.heap.push {cls:=.type "dict",data:=.dict #[]}) (t':=s.toks) (λ_ _ q=>A6 _ q) (A0 _) (zll s.heap I.big);refine wpAny_Dict_walk (knd:=yO X.prog X.w) hall hl h0 h15 (thn (h π _ σ _ _ I1 (q _ hn)) λws s2 kq=>?_);let⟨ps,H2,I2,rel,e,kvs,ep,lk,q2⟩:=kq;subst ep;let⟨rs,c,rk⟩:=zdA (P:=X.prog) (w:=X.w) rel;let⟨z,hd,vs0,r0,dd⟩:=zpj I2.hok e
 cases r0
 refine⟨rs,c,dd,λh' dd' hs=>⟨.ref s.heap.objs.size,_,?_,rfl,q2⟩⟩;have hz:(ya0 [] kvs).length<=sizeLine:=by
  have h1:=zbF kvs [];rw[AN]at h1;rw[DG];lia
 have he:∃q,h'.get? s.heap.objs.size=AA q:=let ⟨q,_,_,hq,_⟩:=dd';⟨q,hq⟩
 exact zfW I2 (by rw[e];exact Cb) hs he (zlB hz hd (rk.merge .nil) dd')
structure M2(X:Cx)(o:AZ)(m:A4)(apos:CW)(e f:AZ)(cpos:CW):Prop where
 base:attributeBase o m X.env (eval o X.env)=eval o X.env
 few:((backTo cpos (starEach [e,f] X.env)).all (λx=>!x.1)&&(backToKw cpos (keywordEach [] X.env)).all (λx=>x.1.isSome)
  && decide (([e,f]:List AZ).length+([]:List Bo).length+(if ([]:List Bo).isEmpty then 0 else 1)<30))=AB
 line:(apos.endLine==cpos.line)=AB
 trees:backTo cpos (starEach [e,f] X.env)=[(AC,eval e X.env),(AC,eval f X.env)]
def IsD(H:Hp)(a:AJ):Prop:=(∃kvs,Rd H a (.dK kvs)) \/ ∃kvs,Rd H a (.dT kvs)
def zpv{X:Cx}{π:List (AJ×CA)}{σ:St}{H:Hp}{s:AK}{a:AJ}(I:Inv X π σ H s)(d:IsD H a):
  s.TypeIs (.ref a) "dict"/\(∀b,BW a=.ref b->∃ob,s.heap.get? b=AA ob/\ob.dict=AD)/\(a==sysModules)=false:=by
 rcases d with⟨kvs,e⟩|⟨kvs,e⟩
 .let⟨_,hd,vs,_,dd⟩:=znw I.hok e;refine⟨dd.typeIs,λb q=>?_,hd⟩
  cases q
  let⟨ob,_,_,h1,h2,_⟩:=dd;exact⟨ob,h1,h2.2.1⟩
 .let⟨_,hd,xs,_,dd⟩:=zmD I.hok e;refine⟨dd.typeIs,λb q=>?_,hd⟩
  cases q
  let⟨ob,_,_,h1,h2,_⟩:=dd;exact⟨ob,h1,h2.2.1⟩
section
variable {X:Cx}{π:List (AJ×CA)}{σ:St}{H:Hp}{s:AK}{a:AJ}{y d:V}{u r:AH}{o:Option V}{A:BC}{E:AH->AK->Prop}
def zo0{Q:AH->AK->Prop}(hu:A.units+1<cLine)(I:Inv X π σ H s)(g:yfm H a y o)(ry:RelV y u)(rd:RelV d r)(h:∀w' s',Inv X π σ H s'->RelV (o.getD d) w'->Q w' s'):
  Al (model X.prog X.w) A (call (.builtin "dict.get") [.ref a,u,r]) Q E s:=by
 rcases g with⟨kvs,k,e,ey,l⟩|⟨kvs,k,b,e,ey,eb,l⟩
 .subst ey;let⟨z,hd,vs,rel,dd⟩:=znw I.hok e;refine call_meetsIn DV dd.typeIs Eu (Ef _ _ _) (meets_dict_get_default (yO X.prog X.w) a (zkr ry) hd r) ⟨_,dd.mapOf,h _ _ (I.tok _) ?_⟩;rw[l];exact(rel.val k).getD rd
 .subst ey
  cases (show u=BW b from ry)
  let⟨z,hd,xs,rel,dd⟩:=zmD I.hok e;refine call_meetsIn DV dd.typeIs Eu (Ef _ _ _) (meetsH_dict_get_default (tupleKind (yO X.prog X.w)) a b hd r) ⟨Fw hu,k,xs,zi5 I.hok eb,dd,h _ _ (I.tok _) ?_⟩;rw[l];exact(rel.val k).getD rd
end
def ydR(td ty tx:TE):TE:=λσ H Q=>td σ H λx H1=>∃a,x=.ref a/\IsD H1 a/\ty σ H1 λy H2=>tx σ H2 λz H3=>∃o,yfm H3 a y o/\Q (o.getD z) H3
section
variable {X:Cx}{o e f:AZ}{apos cpos:CW}{td ty tx:TE}
def zkN(hu:X.A.units+1<cLine)(ho:PE X o td)(he:PE X e ty)(hf:PE X f tx)(m:M2 X o "get" apos e f cpos):PE X (.Call (.Attribute o "get" apos) [e,f] [] cpos) (ydR td ty tx):=by
 intro π s σ H Q I h;refine wpAny_Call_method m.base m.few m.line PySem.F.plainAttrs_dict DV PySem.F.type_dict_get (thn (ho π s σ H _ I h) λu s1 kq=>?_);let⟨x,H1,I1,rx,a,ex,d,q1⟩:=kq;subst ex;obtain rfl:u=BW a:=rx;let⟨t1,t2,_⟩:=zpv I1 d;refine⟨t1,t2,?_⟩;rw[m.trees];refine DM rfl (FO (Dy (thn (he π s1 σ H1 _ I1 q1) λiv s2 ⟨y,H2,I2,ry,q2⟩=>
  Dy (thn (hf π s2 σ H2 _ I2 q2) λfv s3 ⟨z,H3,I3,rz,ov,g,q3⟩=>GG ?_))))
 exact zo0 hu I3 g ry rz λw' s4 I4 rw'=>⟨_,H3,I4,rw',q3⟩
end
section
variable {X:Cx}{π:List (AJ×CA)}{σ:St}{H:Hp}{s:AK}{a:AJ}{kvs:List (Key×V)}{A:BC}{E:AH->AK->Prop}
end
section
variable {X:Cx}{π:List (AJ×CA)}{σ:St}{H:Hp}{s:AK}{a:AJ}{y:V}{u:AH}{A:BC}{E:AH->AK->Prop}
end
end L2
namespace IC
open PySem
inductive PV where
 |non|bl (b:Bool)|int (i:Int)|str (x:A4)|tp (k:Bool) (xs:List PV)|lst (xs:List PV)|loc (n:Nat)|exn (c:Nat)|scr (xs:List PV)|fnc (j:Nat)
deriving Inhabited
abbrev PV.tup(xs:List PV):PV:=.tp AC xs
mutual
noncomputable def nL:PV->Bool
 |.loc _=>AC
 |.exn _=>AC
 |.fnc _=>AB
 |.tp _ xs=>nLs xs
 |.lst xs=>nLs xs
 |.scr xs=>nLs xs
 |_=>AB
noncomputable def nLs:List PV->Bool
 |[]=>AB
 |x::xs=>nL x&&nLs xs
end
mutual
noncomputable def shd(n:Nat):PV->Bool
 |.non=>AB
 |.bl _=>AB
 |.int _=>AB
 |.str x=>x.cps.all (· < 0x110000)
 |.tp _ xs=>decide (0<n)&&ybm (n-1) xs
 |.lst xs=>decide (0<n)&&ybm (n-1) xs
 |_=>AC
noncomputable def ybm(n:Nat):List PV->Bool
 |[]=>AB
 |x::xs=>shd n x&&ybm n xs
end
abbrev shp(v:PV):Bool:=shd 60 v
def flat:PV->Bool
 |.non=>AB
 |.bl _=>AB
 |.int _=>AB
 |.str _=>AB
 |_=>AC
def bi(b:Bool):Int:=if b then 1 else 0
mutual
noncomputable def peq:PV->PV->Bool
 |.non,.non=>AB
 |.bl a,.bl b=>a==b
 |.bl a,.int j=>bi a==j
 |.int i,.bl b=>i==bi b
 |.int i,.int j=>i==j
 |.str x,.str y=>x==y
 |.tp _ xs,.tp _ ys=>ybv xs ys
 |.lst xs,.lst ys=>ybv xs ys
 |_,_=>AC
noncomputable def ybv:List PV->List PV->Bool
 |[],[]=>AB
 |x::xs,y::ys=>peq x y&&ybv xs ys
 |_,_=>AC
end
inductive Ob where
 |lst (xs:List PV)|dct (t:Bool) (kvs:List (PV×PV))|dead|ins (c:Nat) (fs:List (A4×PV))
abbrev Env:=List (Option PV)
abbrev SO:=List Ob
inductive R(α:Type) where
 |ok (a:α) (st:SO)|exc (c:Nat) (st:SO)|bad
def R.bind{α β:Type}(r:R α)(k:α->SO->R β):R β:=
 match r with
 |.ok a st=>k a st
 |.exc c st=>.exc c st
 |.bad=>.bad
inductive BOp where
 |add|sub|mul|fdiv|mod|pow|shl|shr|band|bor|bxor
inductive COp where
 |eq|ne|lt|le|gt|ge|is|isnot|isin|notin
inductive Ty where
 |int|bool|str|tuple|list|cls (c:Nat)|val
inductive Blt where
 |len|int|abs|min|max|tuple|list|all|sum|dict|rev|str|any
inductive Mth where
 |append|extend|get|bits|upper|insert|count|index|join|split|sidx|clear
inductive Tg where
 |n (i:Nat)|t (l:List Nat)
set_option genInjectivity false
mutual
inductive Ce where
 |cst (v:PV)
 |var (i:Nat)
 |bin (o:BOp) (a b:Ce)
 |neg (a:Ce)
 |not (a:Ce)
 |and (a b:Ce)
 |or (a b:Ce)
 |cmp (o:COp) (a b:Ce)
 |chain (o p:COp) (a b c:Ce)
 |ite (c a b:Ce)
 |tup (es:Ces)
 |lst (es:Ces)
 |newl (es:Ces)
 |newd (kvs:List (A4×Int))
 |dict0 (t:Bool)
 |idx (a i:Ce)
 |slc (a:Ce) (lo hi:Ce)
 |call (f:Nat) (args:Ces)
 |blt (b:Blt) (args:Ces)
 |mth (m:Mth) (o:Ce) (args:Ces)
 |isi (a:Ce) (t:List Ty)
 |comp (sl:List (Option Nat)) (tg:Tg) (it:Cit) (c:Ce) (e:Ce)
 |frz (a:Ce)
 |nope
inductive Ces where
 |nil
 |cons (e:Ce) (es:Ces)
inductive Cit where
 |seq (e:Ce)
 |range1 (a:Ce)
 |range2 (a b:Ce)
 |rangeD (a b:Ce)
 |enum (e:Ce)
 |zip (a b:Ce)
 |revl (e:Ce)
 |revr (a:Ce)
 |chars (e:Ce)
end
set_option genInjectivity true
abbrev Ce.i(n:Int):Ce:=.cst (.int n)
abbrev Ce.s(x:A4):Ce:=.cst (.str x)
abbrev Ce.v:=Ce.var
abbrev Ces.k:=Ces.cons
abbrev Ces.e:=Ces.nil
mutual
inductive Cs where
 |expr (e:Ce)
 |asg (t:Tg) (e:Ce)
 |six (o i e:Ce)
 |dput (o i e:Ce)
 |aug (i:Nat) (o:BOp) (e:Ce)
 |ret (e:Ce)
 |ite (c:Ce) (a b:Css)
 |for (t:Tg) (it:Cit) (b:Css)
 |while (c:Ce) (b:Css)
 |nope
 |mkr (i:Nat) (D:List (A4×Nat)) (n:Ce) (es:Ces)
inductive Css where
 |nil
 |cons (s:Cs) (ss:Css)
end
abbrev Css.k:=Css.cons
abbrev Css.e:=Css.nil
def yaK(i j:Int):Bool:=(decide (i.natAbs<18446744073709551616)) || (decide (j.natAbs<18446744073709551616))
def binI(o:BOp)(i j:Int):Option PV:=
 match o with
 |.add=>AA (.int (i+j))
 |.sub=>AA (.int (i-j))
 |.mul=>if yaK i j then AA (.int (i*j))else AD
 |.fdiv=>if 0<j/\j<10000000000000000000000000000000000000000000000000000000000000000000000 then AA (.int (i/j))else AD
 |.mod=>if 0<j then AA (.int (i%j))else AD
 |.pow=>if 0<=j/\j<=1000000/\i.natAbs<18446744073709551616 then AA (.int (i^j.toNat))else AD
 |.shl=>if 0<=j/\j<=1000000/\i.natAbs<18446744073709551616 then AA (.int (i*2^j.toNat))else AD
 |.shr=>if 0<=j then AA (.int (i/2^j.toNat))else AD
 |.band=>AA (.int (An i j))
 |.bor=>AA (.int (BR i j))
 |.bxor=>AA (.int (Ar i j))
def sizeMax:Nat:=16777216
def ydX(k:Bool)(a:List PV)(j:Bool)(b:List PV):PV:=if a.isEmpty then .tp j b else if b.isEmpty then .tp k a else .tup (a++b)
def yC(o:BOp)(x y:PV):Option PV:=
 match x,y with
 |.int i,.int j=>binI o i j
 |.int i,.bl b=>match o with
  |.add=>AA (.int (i+bi b))
  |_=>AD
 |.str a,.str b=>match o with
  |.add=>if a.length+b.length<=sizeMax then AA (.str (a++b))else AD
  |_=>AD
 |.tp k a,.tp j b=>match o with
  |.add=>if a.length+b.length<=sizeMax then AA (ydX k a j b)else AD
  |_=>AD
 |.lst a,.lst b=>match o with
  |.add=>if a.length+b.length<=sizeMax then AA (.lst (a++b))else AD
  |_=>AD
 |_,_=>AD
def ybV(o:BOp)(x y:PV):Option PV:=
 match x,y with
 |.int i,.int j=>binI o i j
 |_,_=>AD
def isNon:PV->Bool
 |.non=>AB
 |_=>AC
def inL(x:PV):List PV->Bool
 |[]=>AC
 |y::ys=>peq y x || inL x ys
def inS(a b:A4):Bool:=(CK (b.length+1)).any λi=>decide (i+a.length<=b.length)&&(b.cps.extract i (i+a.length)==a.cps)
def ybS(o:COp)(i j:Int):Option PV:=
 match o with
 |.lt=>AA (.bl (decide (i<j)))
 |.le=>AA (.bl (decide (i<=j)))
 |.gt=>AA (.bl (decide (j<i)))
 |.ge=>AA (.bl (decide (j<=i)))
 |_=>AD
def yeS(o:COp)(a b:A4):Option PV:=
 match o with
 |.lt=>AA (.bl (decide (a.cps.toList<b.cps.toList)))
 |.le=>AA (.bl (!decide (b.cps.toList<a.cps.toList)))
 |_=>AD
def ye(o:COp)(x y:PV):Option PV:=
 match o with
 |.eq=>if shp x&&shp y then AA (.bl (peq x y))else AD
 |.ne=>if shp x&&shp y then AA (.bl (!peq x y))else AD
 |.is=>match y with
  |.non=>AA (.bl (isNon x))
  |.bl b=>match x with
   |.bl a=>AA (.bl (a==b))
   |_=>AD
  |_=>AD
 |.isnot=>match y with
  |.non=>AA (.bl (!isNon x))
  |.bl b=>match x with
   |.bl a=>AA (.bl (!(a==b)))
   |_=>AD
  |_=>AD
 |.isin=>match x,y with
  |.str a,.str b=>AA (.bl (inS a b))
  |x,.tp _ l=>if flat x&&l.all flat then AA (.bl (inL x l))else AD
  |x,.lst l=>if flat x&&l.all flat then AA (.bl (inL x l))else AD
  |_,_=>AD
 |.notin=>match x,y with
  |.str a,.str b=>AA (.bl (!inS a b))
  |x,.tp _ l=>if flat x&&l.all flat then AA (.bl (!inL x l))else AD
  |x,.lst l=>if flat x&&l.all flat then AA (.bl (!inL x l))else AD
  |_,_=>AD
 |o=>match x,y with
  |.int i,.int j=>ybS o i j
  |.str a,.str b=>yeS o a b
  |_,_=>AD
def yaR(st:SO)(x:PV):Option Bool:=
 match x with
 |.non=>AA AC
 |.bl b=>AA b
 |.int i=>AA (i != 0)
 |.str y=>if y.length<=sizeMax then AA ((y.length:Int) != 0)else AD
 |.tp _ xs=>AA (!xs.isEmpty)
 |.lst xs=>AA (!xs.isEmpty)
 |.loc n=>match st[n]? with
  |some (.lst xs)=>AA (!xs.isEmpty)
  |_=>AD
 |_=>AD
def ixI(n:Nat)(i:Int):Option Nat:=if 0<=i then(if i<n then AA i.toNat else AD)else if -(n:Int)<=i then AA (i+n).toNat else AD
def at?{α:Type}(xs:List α)(i:Int):Option α:=(ixI xs.length i).bind λj=>xs[j]?
def look(k:PV):List (PV×PV)->Option PV
 |[]=>AD
 |(a,b)::r=>if peq a k then AA b else look k r
def put(k v:PV)(kvs:List (PV×PV)):List (PV×PV):=
 if (kvs.any λp=>peq p.1 k)=AB then kvs.map (λp=>if peq p.1 k=AB then(p.1,v)else p)else kvs++[(k,v)]
def ybH:PV->Bool
 |.int _=>AB
 |.str _=>AB
 |_=>AC
def isKey(t:Bool)(k:PV):Bool:=
 match t with
 |false=>ybH k
 |true=>match k with
  |.tp AC xs=>xs.all ybH
  |_=>AC
def ya7{α:Type}(xs:List α)(i:PV):Option α:=
 match i with
 |.int k=>at? xs k
 |_=>AD
def idxV(st:SO)(x i:PV):Option PV:=
 match x with
 |.tp _ xs=>ya7 xs i
 |.lst xs=>ya7 xs i
 |.str s=>if s.length<=sizeMax then(ya7 s.cps.toList i).map λc=>.str ⟨#[c]⟩else AD
 |.loc n=>match st[n]? with
  |some (.lst xs)=>ya7 xs i
  |_=>AD
 |_=>AD
def yaZ(n:Nat)(v:Int):Nat:=if v<0 then(v+(n:Int)).toNat else min v.toNat n
def ycw(n:Nat)(lo:Option Int):Nat:=
 match lo with
 |none=>0
 |some i=>yaZ n i
def ycY(n:Nat)(hi:Option Int):Nat:=
 match hi with
 |none=>n
 |some i=>yaZ n i
def cut{α:Type}(xs:List α)(lo hi:Option Int):List α:=(xs.drop (ycw xs.length lo)).take (ycY xs.length hi-ycw xs.length lo)
def yaV:PV->Option (Option Int)
 |.non=>AA AD
 |.int i=>AA (AA i)
 |_=>AD
def ycm(x:PV)(a b:Option Int):Option PV:=
 match x with
 |.tp k xs=>if ycw xs.length a=0/\ycY xs.length b=xs.length then AA (.tp k xs)else AA (.tup (cut xs a b))
 |.str s=>if s.length<=sizeMax then AA (.str ⟨(cut s.cps.toList a b).toArray⟩)else AD
 |.lst xs=>AA (.lst (cut xs a b))
 |.scr xs=>AA (.lst (cut xs a b))
 |_=>AD
def yco(x:PV)(a:Option Int)(hi:PV):Option PV:=
 match yaV hi with
 |some b=>ycm x a b
 |none=>AD
def ybo(x:PV)(t:Ty):Bool:=
 match x,t with
 |.int _,.int=>AB
 |.bl _,.int=>AB
 |.bl _,.bool=>AB
 |.str _,.str=>AB
 |.tp _ _,.tuple=>AB
 |.lst _,.list=>AB
 |.exn c,.cls d=>c==d
 |.exn _,.val=>AB
 |_,_=>AC
def ydA:Ty->Bool
 |.cls _=>AC
 |.val=>AC
 |_=>AB
def ybG(x:PV)(ts:List Ty):Option PV:=
 match x with
 |.loc _=>AD
 |.scr _=>AD
 |.fnc _=>AD
 |.exn c=>if ts.all ydA then AD else AA (.bl (ts.any (ybo (.exn c))))
 |x=>match ts with
  |[t]=>if ydA t then AA (.bl (ybo x t))else AD
  |_=>AD
def allB:List PV->Option Bool
 |[]=>AA AB
 |.bl b::r=>match allB r with
  |some c=>AA (b&&c)
  |none=>AD
 |_::_=>AD
def yfx:List PV->Option Int
 |[]=>AA 0
 |.int i::r=>match yfx r with
  |some c=>AA (i+c)
  |none=>AD
 |_::_=>AD
def ydB:List PV->Option Int
 |[]=>AD
 |[.int i]=>AA i
 |.int i::r=>match ydB r with
  |some c=>AA (if i<c then c else i)
  |none=>AD
 |_::_=>AD
def ybC(st:SO):PV->Option (List PV)
 |.tp _ xs=>AA xs
 |.lst xs=>AA xs
 |.loc n=>match st[n]? with
  |some (.lst xs)=>AA xs
  |_=>AD
 |_=>AD
def yK(st:SO):PV->Option (List PV)
 |.lst xs=>AA xs
 |.loc n=>match st[n]? with
  |some (.lst xs)=>AA xs
  |_=>AD
 |_=>AD
def lenV(st:SO)(x:PV):Option PV:=
 match x with
 |.str s=>if s.length<=sizeMax then AA (.int s.length)else AD
 |x=>(ybC st x).map λxs=>.int xs.length
def yey(x:PV):Option PV:=
 match x with
 |.int i=>AA (.int i)
 |.bl k=>AA (.int (bi k))
 |_=>AD
def yeZ(x:PV):Option PV:=
 match x with
 |.int i=>AA (.int (if i<0 then -i else i))
 |_=>AD
def ydZ(x y:PV):Option PV:=
 match x,y with
 |.int i,.int j=>AA (.int (if j<i then j else i))
 |_,_=>AD
def maxV(x y:PV):Option PV:=
 match x,y with
 |.int i,.int j=>AA (.int (if i<j then j else i))
 |_,_=>AD
def ydh(st:SO)(x:PV):Option PV:=
 match x with
 |.tp k xs=>AA (.tp k xs)
 |x=>(yK st x).map .tup
def ye1:PV->Option PV
 |.tp _ xs=>if xs.isEmpty then AD else AA (.tup xs.reverse)
 |.lst xs=>AA (.lst xs.reverse)
 |_=>AD
def anyB:List PV->Option Bool
 |[]=>AA AC
 |.bl b::r=>match anyB r with
  |some c=>AA (b || c)
  |none=>AD
 |_=>AD
def anyI:List PV->Option Bool
 |[]=>AA AC
 |.int i::r=>match anyI r with
  |some c=>AA ((i != 0) || c)
  |none=>AD
 |_=>AD
def ygV:PV->Option PV
 |.int i=>if i=0 then AA (.str "0")else if i=1 then AA (.str "1")else AD
 |_=>AD
def yan(b:Blt)(st:SO)(vs:List PV):Option PV:=
 match vs with
 |[x]=>match b with
  |.len=>lenV st x
  |.int=>yey x
  |.abs=>yeZ x
  |.max=>(yK st x).bind λxs=>(ydB xs).map .int
  |.tuple=>ydh st x
  |.list=>(ybC st x).map .lst
  |.all=>(yK st x).bind λxs=>(allB xs).map .bl
  |.sum=>(yK st x).bind λxs=>(yfx xs).map .int
  |.rev=>ye1 x
  |.str=>ygV x
  |.any=>match x with
   |.tp _ xs=>(anyI xs).map .bl
   |x=>(yK st x).bind λxs=>(anyB xs).map .bl
  |_=>AD
 |[x,y]=>match b with
  |.min=>ydZ x y
  |.max=>maxV x y
  |_=>AD
 |_=>AD
def ybi(st:SO):PV->Option (Bool×List (PV×PV))
 |.loc n=>match st[n]? with
  |some (.dct t xs)=>AA (t,xs)
  |_=>AD
 |_=>AD
def yaA(m:Mth)(st:SO)(x:PV):Option Bool:=
 match m with
 |.append=>(yK st x).map λ_=>AB
 |.extend=>(yK st x).map λ_=>AB
 |.insert=>(yK st x).map λ_=>AB
 |.count=>(yK st x).map λ_=>AB
 |.index=>(yK st x).map λ_=>AB
 |.get=>(ybi st x).map λ_=>AB
 |.bits=>match x with
  |.int _=>AA AB
  |_=>AD
 |.upper=>match x with
  |.str _=>AA AB
  |_=>AD
 |.join=>match x with
  |.str _=>AA AB
  |_=>AD
 |.split=>match x with
  |.str _=>AA AB
  |_=>AD
 |.sidx=>match x with
  |.str _=>AA AB
  |_=>AD
 |.clear=>match x with
  |.loc n=>(yK st (.loc n)).map λ_=>AB
  |_=>AD
def ydG(st:SO)(o v:PV):R PV:=
 match o with
 |.loc n=>match st[n]? with
  |some (.lst xs)=>if xs.length<1000000 then .ok .non (st.set n (.lst (xs++[v])))else .bad
  |_=>.bad
 |_=>.bad
def yeg(st:SO)(o v:PV):R PV:=
 match o with
 |.loc n=>match st[n]? with
  |some (.lst xs)=>match v with
   |.lst ys=>if xs.length+ys.length<=1000000 then .ok .non (st.set n (.lst (xs++ys)))else .bad
   |_=>.bad
  |_=>.bad
 |_=>.bad
def yfE(st:SO)(o i v:PV):R PV:=
 match o with
 |.loc n=>match st[n]? with
  |some (.lst xs)=>match i with
   |.int k=>if 0<=k/\k<=xs.length/\xs.length<1000000 then .ok .non (st.set n (.lst (xs.take k.toNat++v::xs.drop k.toNat)))else .bad
   |_=>.bad
  |_=>.bad
 |_=>.bad
def ydn(st:SO)(o k d:PV):R PV:=
 match ybi st o with
 |some (t,kvs)=>if isKey t k then .ok ((look k kvs).getD d) st else .bad
 |none=>.bad
def yfF(st:SO)(o v:PV):R PV:=
 match yK st o with
 |some xs=>if flat v&&xs.all flat then .ok (.int (xs.countP λy=>peq y v)) st else .bad
 |none=>.bad
def yb2(v:PV):List PV->Option Nat
 |[]=>AD
 |y::ys=>if peq y v then AA 0 else(yb2 v ys).map (·+1)
def yfH(st:SO)(o v:PV):R PV:=
 match yK st o with
 |some xs=>if flat v&&xs.all flat then(match yb2 v xs with
  |some j=>.ok (.int j) st
  |none=>.bad)else .bad
 |none=>.bad
def upC(c:Nat):Nat:=if 97<=c/\c<=122 then c-32 else c
def upS(s:A4):Str:=⟨(s.cps.toList.map upC).toArray⟩
def yca(c:Nat):List Nat->List (List Nat)
 |[]=>[[]]
 |x::xs=>if x=c then []::yca c xs else match yca c xs with
  |[]=>[[x]]
  |p::ps=>(x::p)::ps
def strsOf:List PV->Option (List A4)
 |[]=>AA []
 |.str s::r=>(strsOf r).map (s :: ·)
 |_=>AD
def yeK(st:SO)(o v:PV):R PV:=
 match o,yK st v with
 |.str s,AA xs=>match strsOf xs with
  |some ys=>if s.length<=10/\xs.length<=1000/\(ys.all λy=>decide (y.length<=1000))=AB then .ok (.str (Str.join s ys)) st else .bad
  |none=>.bad
 |_,_=>.bad
def yfG(st:SO)(o:PV):R PV:=
 match o with
 |.loc n=>match st[n]? with
  |some (.lst _)=>.ok .non (st.set n (.lst []))
  |_=>.bad
 |_=>.bad
def yer(st:SO)(o v:PV):R PV:=
 match o,v with
 |.str s,.str y=>if s=A2 "01" then(if y=A2 "0" then .ok (.int 0) st else if y=A2 "1" then .ok (.int 1) st else .bad)else .bad
 |_,_=>.bad
def ydU(st:SO)(o v:PV):R PV:=
 match o,v with
 |.str s,.str y=>match y.cps.toList with
  |[c]=>if s.length<=100000 then .ok (.lst ((yca c s.cps.toList).map λl=>.str ⟨l.toArray⟩)) st else .bad
  |_=>.bad
 |_,_=>.bad
def ybl(m:Mth)(st:SO)(o:PV)(vs:List PV):R PV:=
 match m,vs with
 |.append,[v]=>ydG st o v
 |.extend,[v]=>yeg st o v
 |.insert,[i,v]=>yfE st o i v
 |.get,[k,d]=>ydn st o k d
 |.count,[v]=>yfF st o v
 |.index,[v]=>yfH st o v
 |.join,[v]=>yeK st o v
 |.split,[v]=>ydU st o v
 |.sidx,[v]=>yer st o v
 |.clear,[]=>yfG st o
 |.bits,[]=>match o with
  |.int i=>.ok (.int (Builtin.Int.intBits i)) st
  |_=>.bad
 |.upper,[]=>match o with
  |.str s=>if s.cps.toList.all (· < 128)/\s.length<=1000000 then .ok (.str (upS s)) st else .bad
  |_=>.bad
 |_,_=>.bad
def toR(o:Option PV)(st:SO):R PV:=
 match o with
 |some v=>.ok v st
 |none=>.bad
def yP(t:Tg)(v:PV)(ρ:Env):Option Env:=
 match t,v with
 |.n i,v=>AA (ρ.set i (AA v))
 |.t l,.tp _ xs=>if l.length=xs.length then AA ((l.zip xs).foldl (λρ p=>ρ.set p.1 (AA p.2)) ρ)else AD
 |_,_=>AD
def yac:Nat->List PV->List PV
 |_,[]=>[]
 |k,x::xs=>.tup [.int k,x]::yac (k+1) xs
def ydv:List PV->List PV->List PV
 |x::xs,y::ys=>.tup [x,y]::ydv xs ys
 |_,_=>[]
def yfV:PV->Option (List PV)
 |.tp _ xs=>AA xs.reverse
 |.lst xs=>AA xs.reverse
 |_=>AD
def ydM:PV->Option (List PV)
 |.str s=>if s.length<=1000000 then AA (s.cps.toList.map λc=>.str ⟨#[c]⟩)else AD
 |_=>AD
def yf9(x y:PV):Option (List PV):=
 match x,y with
 |.tp _ xs,.tp _ ys=>if xs.length<=ys.length then AA (ydv xs ys)else AD
 |_,_=>AD
def yby(s:A4):List (A4×PV)->Option PV
 |[]=>AD
 |(a,b)::r=>if decide (a=s)then AA b else yby s r
def yo:Nat->Int->Int->List PV
 |0,_,_=>[]
 |n+1,a,d=>.int a::yo n (a+d) d
def ybu(x:PV):Option (List PV):=
 match x with
 |.int j=>if j.natAbs<1000000000 then AA (yo j.toNat 0 1)else AD
 |_=>AD
def yhn(x:PV):Option (List PV):=
 match x with
 |.int j=>if 0<=j/\j<1000000000 then AA (yo j.toNat (j-1) (-1))else AD
 |_=>AD
def ygx(x y:PV):Option (List PV):=
 match x,y with
 |.int i,.int j=>if i.natAbs<1000000000/\j.natAbs<1000000000 then AA (yo (j-i).toNat i 1)else AD
 |_,_=>AD
def ydx(x y:PV):Option (List PV):=
 match x,y with
 |.int i,.int j=>if i.natAbs<1000000000/\j.natAbs<1000000000 then AA (yo (i-j).toNat i (-1))else AD
 |_,_=>AD
def toL(o:Option (List PV))(st:SO):R (List PV):=
 match o with
 |some v=>.ok v st
 |none=>.bad
def yd0(v:PV)(st:SO):R PV:=
 match v with
 |.loc n=>match st[n]? with
  |some (.lst xs)=>.ok (.lst xs) (st.set n .dead)
  |_=>.bad
 |v=>.ok v st
def mkV(D:List (A4×Nat))(b:Bool)(x:PV):Option Nat:=
 match x with
 |.str s=>if b then D.lookup s else AD
 |_=>AD
def ycU(f:A4)(v:PV):List (A4×PV)->List (A4×PV)
 |[]=>[(f,v)]
 |(g,x)::r=>if g=f then(g,v)::r else(g,x)::ycU f v r
inductive Fl where
 |nx (ρ:Env) (st:SO)|rt (v:PV) (st:SO)|bk (ρ:Env) (st:SO)|ct (ρ:Env) (st:SO)|exc (c:Nat) (ρ:Env) (st:SO)|bad
def onBl{α:Type}(x:PV)(k:Bool->R α):R α:=
 match x with
 |.bl b=>k b
 |_=>.bad
def onO{α:Type}(o:Option Bool)(k:Bool->R α):R α:=
 match o with
 |some b=>k b
 |none=>.bad
def onF(o:Option Bool)(k:Bool->Fl):Fl:=
 match o with
 |some b=>k b
 |none=>.bad
def onP{α:Type}(o:Option (Option Int))(k:Option Int->R α):R α:=
 match o with
 |some b=>k b
 |none=>.bad
def blO(o:Option PV):Option Bool:=
 match o with
 |some (.bl b)=>AA b
 |_=>AD
def yb5(o:Option PV)(ys:List PV):List PV:=
 match o with
 |some y=>y::ys
 |none=>ys
def ya1(one:PV->SO->R (Option PV)):List PV->SO->R (List PV)
 |[],st=>.ok [] st
 |x::xs,st=>(one x st).bind λo st1=>(ya1 one xs st1).bind λys st2=>.ok (yb5 o ys) st2
def yb3(r:R (List PV)):R PV:=
 match r with
 |.ok ys st=>if ys.length<=1000000 then .ok (.lst ys) st else .bad
 |_=>.bad
mutual
noncomputable def ev(call:Nat->List PV->SO->R PV)(ρ:Env)(st:SO):Ce->R PV
 |.cst v=>.ok v st
 |.var i=>match ρ[i]? with
  |some (AA v)=>.ok v st
  |_=>.bad
 |.bin o a b=>(ev call ρ st a).bind λx st1=>(ev call ρ st1 b).bind λy st2=>toR (yC o x y) st2
 |.neg a=>(ev call ρ st a).bind λx st1=>match x with
  |.int i=>.ok (.int (-i)) st1
  |_=>.bad
 |.not a=>(ev call ρ st a).bind λx st1=>onBl x λk=>.ok (.bl (!k)) st1
 |.and a b=>(ev call ρ st a).bind λx st1=>onBl x λk=>cond k (ev call ρ st1 b) (.ok (.bl AC) st1)
 |.or a b=>(ev call ρ st a).bind λx st1=>onBl x λk=>cond k (.ok (.bl AB) st1) (ev call ρ st1 b)
 |.cmp o a b=>(ev call ρ st a).bind λx st1=>(ev call ρ st1 b).bind λy st2=>toR (ye o x y) st2
 |.chain o p a b c=>(ev call ρ st a).bind λx st1=>(ev call ρ st1 b).bind λy st2=>onO (blO (ye o x y)) λk=>cond k ((ev call ρ st2 c).bind λz st3=>toR (ye p y z) st3) (.ok (.bl AC) st2)
 |.ite c a b=>(ev call ρ st c).bind λx st1=>onO (yaR st1 x) λk=>cond k (ev call ρ st1 a) (ev call ρ st1 b)
 |.tup es=>(evs call ρ st es).bind λvs st1=>if vs.length<=sizeMax then .ok (.tup vs) st1 else .bad
 |.lst es=>(evs call ρ st es).bind λvs st1=>if vs.length<=sizeMax then .ok (.lst vs) st1 else .bad
 |.newl es=>(evs call ρ st es).bind λvs st1=>if vs.length<=sizeMax then .ok (.loc st1.length) (st1++[.lst vs])else .bad
 |.newd kvs=>if kvs.length<=15 then .ok (.loc st.length) (st++[.dct AC (kvs.foldl (λacc kv=>put (.str kv.1) (.int kv.2) acc) [])])else .bad
 |.dict0 t=>.ok (.loc st.length) (st++[.dct t []])
 |.idx a i=>(ev call ρ st a).bind λx st1=>(ev call ρ st1 i).bind λy st2=>toR (idxV st2 x y) st2
 |.slc a l h=>(ev call ρ st a).bind λx st1=>(ev call ρ st1 l).bind λy st2=>onP (yaV y) λo=>(ev call ρ st2 h).bind λz st3=>toR (yco x o z) st3
 |.call f es=>(evs call ρ st es).bind λvs st1=>call f vs st1
 |.blt b es=>(evs call ρ st es).bind λvs st1=>toR (yan b st1 vs) st1
 |.mth m o es=>(ev call ρ st o).bind λx st1=>onO (yaA m st1 x) λ_=>(evs call ρ st1 es).bind λvs st2=>ybl m st2 x vs
 |.isi a ts=>(ev call ρ st a).bind λx st1=>toR (ybG x ts) st1
 |.comp sl tg it c e=>(evi call ρ st it).bind λxs st1=>
  let ρ0:Env:=sl.map λo=>o.bind λj=>(ρ[j]?).join
  yb3 (ya1 (λx st2=>match yP tg x ρ0 with
   |none=>.bad
   |some ρ1=>(ev call ρ1 st2 c).bind λb st3=>onO (yaR st3 b) λk=>cond k ((ev call ρ1 st3 e).bind λy st4=>.ok (AA y) st4) (.ok AD st3)) xs st1)
 |.nope=>.bad
 |.frz a=>(ev call ρ st a).bind λx st1=>yd0 x st1
noncomputable def evs(call:Nat->List PV->SO->R PV)(ρ:Env)(st:SO):Ces->R (List PV)
 |.nil=>.ok [] st
 |.cons e es=>(ev call ρ st e).bind λv st1=>(evs call ρ st1 es).bind λvs st2=>.ok (v::vs) st2
noncomputable def evi(call:Nat->List PV->SO->R PV)(ρ:Env)(st:SO):Cit->R (List PV)
 |.seq e=>(ev call ρ st e).bind λv st1=>match v with
  |.tp _ xs=>.ok xs st1
  |.lst xs=>.ok xs st1
  |_=>.bad
 |.range1 a=>(ev call ρ st a).bind λx st1=>toL (ybu x) st1
 |.range2 a b=>(ev call ρ st a).bind λx st1=>(ev call ρ st1 b).bind λy st2=>toL (ygx x y) st2
 |.rangeD a b=>(ev call ρ st a).bind λx st1=>(ev call ρ st1 b).bind λy st2=>toL (ydx x y) st2
 |.enum e=>(ev call ρ st e).bind λv st1=>match v with
  |.tp _ xs=>.ok (yac 0 xs) st1
  |_=>.bad
 |.zip a b=>(ev call ρ st a).bind λx st1=>(ev call ρ st1 b).bind λy st2=>toL (yf9 x y) st2
 |.revl e=>(ev call ρ st e).bind λv st1=>toL (yfV v) st1
 |.revr a=>(ev call ρ st a).bind λx st1=>toL (yhn x) st1
 |.chars e=>(ev call ρ st e).bind λv st1=>toL (ydM v) st1
end
def R.fl{α:Type}(r:R α)(ρ:Env)(k:α->SO->Fl):Fl:=
 match r with
 |.ok a st=>k a st
 |.exc c st=>.exc c ρ st
 |.bad=>.bad
def yax(f:Fl)(k:Env->SO->Fl):Fl:=
 match f with
 |.nx ρ st=>k ρ st
 |.ct ρ st=>k ρ st
 |.bk ρ st=>.nx ρ st
 |f=>f
def forL(t:Tg)(body:Env->SO->Fl):List PV->Env->SO->Fl
 |[],ρ,st=>.nx ρ st
 |x::xs,ρ,st=>match yP t x ρ with
  |none=>.bad
  |some ρ1=>yax (body ρ1 st) λρ2 st2=>forL t body xs ρ2 st2
def yau(test:Env->SO->R PV)(body:Env->SO->Fl):Nat->Env->SO->Fl
 |0,_,_=>.bad
 |n+1,ρ,st=>(test ρ st).fl ρ λx st1=>onF (yaR st1 x) λk=>cond k (yax (body ρ st1) λρ2 st2=>yau test body n ρ2 st2) (.nx ρ st1)
def ybz(st:SO)(o i v:PV):Option SO:=
 match o with
 |.loc n=>match st[n]? with
  |some (.lst xs)=>match i with
   |.int k=>match ixI xs.length k with
    |some j=>AA (st.set n (.lst (xs.set j v)))
    |none=>AD
   |_=>AD
  |_=>AD
 |_=>AD
def ybD(st:SO)(o i v:PV):Option SO:=
 match o with
 |.loc n=>match st[n]? with
  |some (.dct t kvs)=>if isKey t i/\kvs.length<1000000 then AA (st.set n (.dct t (put i v kvs)))else AD
  |_=>AD
 |_=>AD
mutual
noncomputable def ex(call:Nat->List PV->SO->R PV)(ρ:Env)(st:SO):Cs->Fl
 |.expr e=>(ev call ρ st e).fl ρ λ_ st1=>.nx ρ st1
 |.asg t e=>(ev call ρ st e).fl ρ λv st1=>match yP t v ρ with
  |some ρ1=>.nx ρ1 st1
  |none=>.bad
 |.six o i e=>(ev call ρ st e).fl ρ λv st1=>(ev call ρ st1 o).fl ρ λx st2=>(ev call ρ st2 i).fl ρ λy st3=>match ybz st3 x y v with
  |some st4=>.nx ρ st4
  |none=>.bad
 |.dput o i e=>(ev call ρ st e).fl ρ λv st1=>(ev call ρ st1 o).fl ρ λx st2=>(ev call ρ st2 i).fl ρ λy st3=>match ybD st3 x y v with
  |some st4=>.nx ρ st4
  |none=>.bad
 |.aug i o e=>match ρ[i]? with
  |some (AA x)=>(ev call ρ st e).fl ρ λy st1=>match ybV o x y with
   |some z=>.nx (ρ.set i (AA z)) st1
   |none=>.bad
  |_=>.bad
 |.ret e=>(ev call ρ st e).fl ρ λv st1=>.rt v st1
 |.ite c a b=>(ev call ρ st c).fl ρ λx st1=>onF (yaR st1 x) λk=>cond k (exs call ρ st1 a) (exs call ρ st1 b)
 |.for t it b=>(evi call ρ st it).fl ρ λxs st1=>forL t (λρ2 st2=>exs call ρ2 st2 b) xs ρ st1
 |.while c b=>yau (λρ2 st2=>ev call ρ2 st2 c) (λρ2 st2=>exs call ρ2 st2 b) 100000 ρ st
 |.nope=>.bad
 |.mkr i D n es=>(ev call ρ st n).fl ρ λx st1=>match mkV D (decide (i<ρ.length)) x with
  |some j=>((evs call (ρ.set i AD) st1 es).bind λvs st2=>call j vs st2).fl (ρ.set i AD) λv st3=>.rt v st3
  |none=>.bad
noncomputable def exs(call:Nat->List PV->SO->R PV)(ρ:Env)(st:SO):Css->Fl
 |.nil=>.nx ρ st
 |.cons s ss=>match ex call ρ st s with
  |.nx ρ1 st1=>exs call ρ1 st1 ss
  |f=>f
end
structure Fn where
 np:Nat
 ns:Nat
 pure:Bool
 body:Css
def yc(T:Nat->Option Fn):Nat->Nat->List PV->SO->R PV
 |0,_,_,_=>.bad
 |k+1,f,args,st=>match T f with
  |none=>.bad
  |some fn=>if args.length=fn.np then
    if fn.pure then
     if nLs args then match exs (yc T k) (args.map AA++AS (fn.ns-fn.np) AD) [] fn.body with
      |.rt v _=>if nL v then .ok v st else .bad
      |.nx _ _=>.ok .non st
      |.exc c _ _=>.exc c st
      |_=>.bad
     else .bad
    else match exs (yc T k) (args.map AA++AS (fn.ns-fn.np) AD) st fn.body with
     |.rt v st1=>.ok v st1
     |.nx _ st1=>.ok .non st1
     |.exc c _ st1=>.exc c st1
     |_=>.bad
   else .bad
def yt:List (Sum Ce Int)->Ces
 |[]=>.nil
 |.inl c::r=>.cons c (yt r)
 |.inr i::r=>.cons (.cst (.int i)) (yt r)
def yS:Ces->Ces->Ces
 |.nil,b=>b
 |.cons e r,b=>.cons e (yS r b)
end IC
namespace L2
open PySem PySem.Spec PyProof.Rows IC
abbrev Ph:=List (Option AJ)
section
variable (K:AG)(cl:Nat->AJ)(B:AJ->Prop)(φ:Ph)(H:Hp)
def ybZ(k:Bool)(a:AJ)(xs:List V):Prop:=(H a=AA (.tup xs)/\¬B a/\AA a∉φ) \/
 k=AB/\∃(o:CA) (its:Array AH) (n:Nat),K.lookup a=AA o/\o.cls=.type "tuple"/\o.data=.seq its n/\its.size<=sizeLine/\Vals xs its.toList
def ycZ(a:AJ)(xs:List V):Prop:=H a=AA (.lst xs)/\¬B a/\AA a∉φ
def yd8(a:AJ)(xs:List V):Prop:=(Rd H a (.lst xs)/\¬B a/\AA a∉φ) \/
 ∃(o:CA) (its:Array AH) (n:Nat),K.lookup a=AA o/\o.cls=.type "list"/\o.dict=AD/\o.data=.seq its n/\its.size<=sizeLine/\Vals xs its.toList
mutual
noncomputable def yd:PV->V->Prop
 |.non,x=>x=.non
 |.bl b,x=>x=.bl b
 |.int i,x=>x=.int i
 |.str s,x=>x=.str s
 |.tp k vs,x=>∃a xs,x=.ref a/\ybZ K B φ H k a xs/\yh vs xs
 |.lst vs,x=>∃a xs,x=.ref a/\ycZ B φ H a xs/\yh vs xs
 |.loc n,x=>n<φ.length/\∃a,x=.ref a/\∀b,φ[n]?=AA (AA b)->b=a
 |.exn c,x=>∃a,x=.ref a/\H a=AA (.ext (yf3 a (cl c)))/\¬B a/\AA a∉φ
 |.scr vs,x=>∃a xs,x=.ref a/\yd8 K B φ H a xs/\yh vs xs
 |.fnc j,x=>x=.ref (cl (1000+j))
noncomputable def yh:List PV->List V->Prop
 |[],xs=>xs=[]
 |v::vs,xs=>∃y ys,xs=y::ys/\yd v y/\yh vs ys
end
def yaM:Key->PV
 |.inl i=>.int i
 |.inr y=>.str y
def DK:List (PV×PV)->List (Key×V)->Prop
 |[],ks=>ks=[]
 |(k,v)::r,ks=>∃q x s,ks=(q,x)::s/\k=yaM q/\yd K cl B φ H v x/\DK r s
def DT:List (PV×PV)->List (List Key×V)->Prop
 |[],ks=>ks=[]
 |(k,v)::r,ks=>∃q x s,ks=(q,x)::s/\k=.tup (q.map yaM)/\yd K cl B φ H v x/\DT r s
def FS:List (A4×PV)->List (A4×V)->Prop
 |[],ks=>ks=[]
 |(k,v)::r,ks=>∃x s,ks=(k,x)::s/\yd K cl B φ H v x/\FS r s
def ycf:Ob->AJ->Prop
 |.lst vs,a=>∃xs,H a=AA (.lst xs)/\yh K cl B φ H vs xs
 |.dct AC kvs,a=>∃ks,H a=AA (.dK ks)/\DK K cl B φ H kvs ks
 |.dct AB kvs,a=>∃ks,H a=AA (.dT ks)/\DT K cl B φ H kvs ks
 |.dead,_=>False
 |.ins c fs,a=>∃ks,(∃dx,H a=AA (.ins (cl c) dx ks))/\FS K cl B φ H fs ks
structure yE(st:SO):Prop where
 len:φ.length=st.length
 inj:∀(m n:Nat) (a:AJ),φ[m]?=AA (AA a)->φ[n]?=AA (AA a)->m=n
 obj:∀(n:Nat) (a:AJ),φ[n]?=AA (AA a)->∃o,st[n]?=AA o/\ycf K cl B φ H o a
 liv:∀(n:Nat) (o:Ob),st[n]?=AA o->o ≠ .dead->∃a,φ[n]?=AA (AA a)
 nb:∀a,AA a∈φ->¬B a
 dom:∀a,B a->∃o,H a=AA o
structure yN(ρ:IC.Env)(σ:St):Prop where
 len:ρ.length=σ.length
 get:∀(i:Nat) (v:PV),ρ[i]?=AA (AA v)->∃x,σ[i]?=AA (AA x)/\yd K cl B φ H v x
end
structure Step(φ:Ph)(H:Hp)(φ':Ph)(H':Hp):Prop where
 keep:∀b o,AA b∉φ->H b=AA o->H' b=AA o
 len:φ.length<=φ'.length
 pre:∀(n:Nat) (a:AJ),n<φ.length->φ'[n]?=AA (AA a)->φ[n]?=AA (AA a)
 new:∀b,AA b∈φ'->AA b∈φ \/ H b=AD
theorem Step.rfl{φ:Ph}{H:Hp}:Step φ H φ H:=⟨λ_ _ _ e=>e,A0 _,λ_ _ _ e=>e,λ_ h=>.inl h⟩
theorem Step.trans{φ φ1 φ2:Ph}{H H1 H2:Hp}(s:Step φ H φ1 H1)(t:Step φ1 H1 φ2 H2):Step φ H φ2 H2:=by
 refine⟨λb o n e=>?_,B5 s.len t.len,λn a hn e=>s.pre n a hn (t.pre n a (Ae hn s.len) e),λb hb=>?_⟩
 .refine t.keep b o (λh=>?_) (s.keep b o n e);rcases s.new b h with q|q
  .exact n q
  .rw[e]at q;cases q
 .rcases t.new b hb with q|q
  .exact s.new b q
  .by_cases h:AA b∈φ
   .exact .inl h
   .refine .inr ?_
    cases e:H b with
    |none=>exact D8 _
    |some o=>rw[s.keep b o h e]at q;cases q
section
variable {K:AG}{cl:Nat->AJ}{B:AJ->Prop}{φ φ':Ph}{H H':Hp}{st:SO}{ρ:IC.Env}{σ:St}
theorem Rd.step(s:Step φ H φ' H'){a:AJ}{u:HO}(n:AA a∉φ)(r:Rd H a u):Rd H' a u/\AA a∉φ':=by
 have h:∃o,H a=AA o:=by
  rcases r with r|⟨o,r⟩<;>exact⟨_,r⟩
 refine⟨?_,λz=>?_⟩
 .rcases r with r|⟨o,r⟩
  .exact .inl (s.keep _ _ n r)
  .exact .inr ⟨o,s.keep _ _ n r⟩
 .let⟨o,e⟩:=h;rcases s.new a z with q|q
  .exact n q
  .rw[e]at q;cases q
theorem ybZ.step(s:Step φ H φ' H'){k:Bool}{a:AJ}{xs:List V}(r:ybZ K B φ H k a xs):ybZ K B φ' H' k a xs:=by
 rcases r with⟨r,b,n⟩|r
 .let⟨_,n'⟩:=(Rd.of r).step s n;exact .inl ⟨s.keep _ _ n r,b,n'⟩
 .exact .inr r
theorem ycZ.step(s:Step φ H φ' H'){a:AJ}{xs:List V}(r:ycZ B φ H a xs):ycZ B φ' H' a xs:=by
 let⟨r,b,n⟩:=r;let⟨_,n'⟩:=(Rd.of r).step s n;exact⟨s.keep _ _ n r,b,n'⟩
theorem yd8.step(s:Step φ H φ' H'){a:AJ}{xs:List V}(r:yd8 K B φ H a xs):yd8 K B φ' H' a xs:=by
 rcases r with⟨r,b,n⟩|r
 .let⟨r',n'⟩:=r.step s n;exact .inl ⟨r',b,n'⟩
 .exact .inr r
mutual
theorem yd.step(s:Step φ H φ' H'):∀(v:PV) (x:V),yd K cl B φ H v x->yd K cl B φ' H' v x
 |.non,x,h=>by erw[yd]at h ⊢;exact h
 |.bl b,x,h=>by erw[yd]at h ⊢;exact h
 |.int i,x,h=>by erw[yd]at h ⊢;exact h
 |.str y,x,h=>by erw[yd]at h ⊢;exact h
 |.tp k vs,x,h=>by
  erw[yd]at h ⊢;let⟨a,xs,e,r,l⟩:=h;exact⟨a,xs,e,r.step s,yh.step s vs xs l⟩
 |.lst vs,x,h=>by
  erw[yd]at h ⊢;let⟨a,xs,e,r,l⟩:=h;exact⟨a,xs,e,r.step s,yh.step s vs xs l⟩
 |.loc n,x,h=>by
  erw[yd]at h ⊢;let⟨h1,a,e,h2⟩:=h;exact⟨Ae h1 s.len,a,e,λb q=>h2 b (s.pre n b h1 q)⟩
 |.fnc j,x,h=>by erw[yd]at h ⊢;exact h
 |.exn c,x,h=>by
  erw[yd]at h ⊢;let⟨a,e,r,b,n⟩:=h;let⟨_,n'⟩:=(Rd.of r).step s n;exact⟨a,e,s.keep _ _ n r,b,n'⟩
 |.scr vs,x,h=>by
  erw[yd]at h ⊢;let⟨a,xs,e,r,l⟩:=h;exact⟨a,xs,e,r.step s,yh.step s vs xs l⟩
theorem yh.step(s:Step φ H φ' H'):∀(v:List PV) (x:List V),yh K cl B φ H v x->yh K cl B φ' H' v x
 |[],x,h=>by erw[yh]at h ⊢;exact h
 |v::vs,x,h=>by
  erw[yh]at h ⊢;let⟨y,ys,e,r,l⟩:=h;exact⟨y,ys,e,yd.step s v y r,yh.step s vs ys l⟩
end
theorem yN.step(s:Step φ H φ' H')(r:yN K cl B φ H ρ σ):yN K cl B φ' H' ρ σ:=⟨r.len,λi v e=>by
 let⟨x,h,q⟩:=r.get i v e;exact⟨x,h,q.step s⟩⟩
mutual
theorem yd.inn(hn:∀a,AA a∈φ->¬B a):∀(v:PV) (x:V),nL v=AB->yd K cl B φ H v x->yd K cl (λa=>B a \/ AA a∈φ) [] H v x
 |.non,x,_,h=>by erw[yd]at h ⊢;exact h
 |.bl b,x,_,h=>by erw[yd]at h ⊢;exact h
 |.int i,x,_,h=>by erw[yd]at h ⊢;exact h
 |.str y,x,_,h=>by erw[yd]at h ⊢;exact h
 |.tp k vs,x,q,h=>by
  erw[yd]at h ⊢;let⟨a,xs,e,r,l⟩:=h;refine⟨a,xs,e,?_,yh.inn hn vs xs (by simpa only[nL] using q) l⟩;rcases r with⟨r,b,n⟩|r
  .exact .inl ⟨r,λz=>z.elim b n,by simp⟩
  .exact .inr r
 |.lst vs,x,q,h=>by
  erw[yd]at h ⊢;let⟨a,xs,e,⟨r,b,n⟩,l⟩:=h;exact⟨a,xs,e,⟨r,λz=>z.elim b n,by simp⟩,yh.inn hn vs xs (by simpa only[nL] using q) l⟩
 |.loc n,x,q,h=>by simp[nL]at q
 |.fnc j,x,q,h=>by erw[yd]at h ⊢;exact h
 |.exn c,x,q,h=>by simp[nL]at q
 |.scr vs,x,q,h=>by
  erw[yd]at h ⊢;let⟨a,xs,e,r,l⟩:=h;refine⟨a,xs,e,?_,yh.inn hn vs xs (by simpa only[nL] using q) l⟩;rcases r with⟨r,b,n⟩|r
  .exact .inl ⟨r,λz=>z.elim b n,by simp⟩
  .exact .inr r
theorem yh.inn(hn:∀a,AA a∈φ->¬B a):∀(v:List PV) (x:List V),nLs v=AB->yh K cl B φ H v x->yh K cl (λa=>B a \/ AA a∈φ) [] H v x
 |[],x,_,h=>by erw[yh]at h ⊢;exact h
 |v::vs,x,q,h=>by
  erw[yh]at h ⊢;erw[nLs,AI]at q;let⟨y,ys,e,r,l⟩:=h;exact⟨y,ys,e,yd.inn hn v y q.1 r,yh.inn hn vs ys q.2 l⟩
end
mutual
theorem yd.out{ψ:Ph}:∀(v:PV) (x:V),nL v=AB->yd K cl (λa=>B a \/ AA a∈φ) ψ H v x->yd K cl B φ H v x
 |.non,x,_,h=>by erw[yd]at h ⊢;exact h
 |.bl b,x,_,h=>by erw[yd]at h ⊢;exact h
 |.int i,x,_,h=>by erw[yd]at h ⊢;exact h
 |.str y,x,_,h=>by erw[yd]at h ⊢;exact h
 |.tp k vs,x,q,h=>by
  erw[yd]at h ⊢;let⟨a,xs,e,r,l⟩:=h;refine⟨a,xs,e,?_,yh.out vs xs (by simpa only[nL] using q) l⟩;rcases r with⟨r,b,n⟩|r
  .exact .inl ⟨r,λz=>b (.inl z),λz=>b (.inr z)⟩
  .exact .inr r
 |.lst vs,x,q,h=>by
  erw[yd]at h ⊢;let⟨a,xs,e,⟨r,b,n⟩,l⟩:=h;exact⟨a,xs,e,⟨r,λz=>b (.inl z),λz=>b (.inr z)⟩,yh.out vs xs (by simpa only[nL] using q) l⟩
 |.loc n,x,q,h=>by simp[nL]at q
 |.fnc j,x,q,h=>by erw[yd]at h ⊢;exact h
 |.exn c,x,q,h=>by simp[nL]at q
 |.scr vs,x,q,h=>by
  erw[yd]at h ⊢;let⟨a,xs,e,r,l⟩:=h;refine⟨a,xs,e,?_,yh.out vs xs (by simpa only[nL] using q) l⟩;rcases r with⟨r,b,n⟩|r
  .exact .inl ⟨r,λz=>b (.inl z),λz=>b (.inr z)⟩
  .exact .inr r
theorem yh.out{ψ:Ph}:∀(v:List PV) (x:List V),nLs v=AB->yh K cl (λa=>B a \/ AA a∈φ) ψ H v x->yh K cl B φ H v x
 |[],x,_,h=>by erw[yh]at h ⊢;exact h
 |v::vs,x,q,h=>by
  erw[yh]at h ⊢;erw[nLs,AI]at q;let⟨y,ys,e,r,l⟩:=h;exact⟨y,ys,e,yd.out v y q.1 r,yh.out vs ys q.2 l⟩
end
theorem yh.length:∀{v:List PV} {x:List V},yh K cl B φ H v x->v.length=x.length
 |[],x,h=>by erw[yh]at h;subst h;rfl
 |v::vs,x,h=>by
  erw[yh]at h;let⟨y,ys,rfl,_,l⟩:=h;simp[yh.length l]
theorem DK.step(s:Step φ H φ' H'):∀{kvs:List (PV×PV)} {ks:List (Key×V)},DK K cl B φ H kvs ks->DK K cl B φ' H' kvs ks
 |[],ks,h=>h
 |(k,v)::r,ks,h=>by
  let⟨q,x,t,e,m,rv,l⟩:=h;exact⟨q,x,t,e,m,rv.step s,DK.step s l⟩
theorem DT.step(s:Step φ H φ' H'):∀{kvs:List (PV×PV)} {ks:List (List Key×V)},DT K cl B φ H kvs ks->DT K cl B φ' H' kvs ks
 |[],ks,h=>h
 |(k,v)::r,ks,h=>by
  let⟨q,x,t,e,m,rv,l⟩:=h;exact⟨q,x,t,e,m,rv.step s,DT.step s l⟩
theorem FS.step(s:Step φ H φ' H'):∀{kvs:List (A4×PV)} {ks:List (A4×V)},FS K cl B φ H kvs ks->FS K cl B φ' H' kvs ks
 |[],ks,h=>h
 |(k,v)::r,ks,h=>by
  let⟨x,t,e,rv,l⟩:=h;exact⟨x,t,e,rv.step s,FS.step s l⟩
theorem ycf.step(s:Step φ H φ' H'){o:Ob}{a:AJ}(e:H' a=H a)(r:ycf K cl B φ H o a):ycf K cl B φ' H' o a:=by
 cases o with
 |lst vs=>
  let⟨xs,q,l⟩:=r;exact⟨xs,e.trans q,l.step s⟩
 |dct t kvs=>
  cases t with
  |false=>let⟨ks,q,l⟩:=r;exact⟨ks,e.trans q,l.step s⟩
  |true=>let⟨ks,q,l⟩:=r;exact⟨ks,e.trans q,l.step s⟩
 |dead=>exact r
 |ins c fs=>let⟨ks,⟨dx,q⟩,l⟩:=r;exact⟨ks,⟨dx,e.trans q⟩,l.step s⟩
theorem ycf.there{o:Ob}{a:AJ}(r:ycf K cl B φ H o a):∃u,H a=AA u:=by
 cases o with
 |lst vs=>let⟨xs,q,l⟩:=r;exact⟨_,q⟩
 |dct t kvs=>cases t<;>(let⟨ks,q,l⟩:=r;exact⟨_,q⟩)
 |dead=>exact r.elim
 |ins c fs=>let⟨ks,⟨dx,q⟩,l⟩:=r;exact⟨_,q⟩
theorem yE.there(S:yE K cl B φ H st){a:AJ}(h:AA a∈φ):∃u,H a=AA u:=by
 let⟨n,e⟩:=DW.mp h;let⟨o,_,r⟩:=S.obj n a e;exact r.there
theorem Step.upd{p:AJ}{o:HO}(hp:H p=AD):Step φ H φ (upd H p o):=
 ⟨λb u n e=>by rw[ze (zg e hp)];exact e,A0 _,λ_ _ _ e=>e,λ_ h=>.inl h⟩
theorem yE.same(S:yE K cl B φ H st)(k:∀b o,H b=AA o->H' b=AA o):yE K cl B φ H' st:=by
 have s:Step φ H φ H':=⟨λb o _ e=>k b o e,A0 _,λ_ _ _ e=>e,λ_ h=>.inl h⟩;refine⟨S.len,S.inj,λn a e=>?_,S.liv,S.nb,λa h=>?_⟩
 .let⟨o,q,r⟩:=S.obj n a e;let⟨u,z⟩:=r.there;exact⟨o,q,r.step s ((k a u z).trans z.symm)⟩
 .let⟨o,q⟩:=S.dom a h;exact⟨o,k a o q⟩
theorem yE.upd{p:AJ}{o:HO}(S:yE K cl B φ H st)(hp:H p=AD):yE K cl B φ (upd H p o) st:=S.same λb u e=>by rw[ze (zg e hp)];exact e
mutual
theorem yd.moreB{B':AJ->Prop}(hn:∀y,B' y->B y \/ H y=AD):∀(v:PV) (x:V),yd K cl B φ H v x->yd K cl B' φ H v x
 |.non,x,h=>by erw[yd]at h ⊢;exact h
 |.bl b,x,h=>by erw[yd]at h ⊢;exact h
 |.int i,x,h=>by erw[yd]at h ⊢;exact h
 |.str y,x,h=>by erw[yd]at h ⊢;exact h
 |.tp k vs,x,h=>by
  erw[yd]at h ⊢;let⟨y,xs,e,r,l⟩:=h;refine⟨y,xs,e,?_,yh.moreB hn vs xs l⟩;rcases r with⟨r,b,n⟩|r
  .exact .inl ⟨r,λz=>(hn y z).elim b λq=>(by rw[q]at r;cases r),n⟩
  .exact .inr r
 |.lst vs,x,h=>by
  erw[yd]at h ⊢;let⟨y,xs,e,⟨r,b,n⟩,l⟩:=h;exact⟨y,xs,e,⟨r,λz=>(hn y z).elim b λq=>(by rw[q]at r;cases r),n⟩,yh.moreB hn vs xs l⟩
 |.loc n,x,h=>by erw[yd]at h ⊢;exact h
 |.fnc j,x,h=>by erw[yd]at h ⊢;exact h
 |.exn c,x,h=>by
  erw[yd]at h ⊢;let⟨y,e,r,b,n⟩:=h;exact⟨y,e,r,λz=>(hn y z).elim b λq=>(by rw[q]at r;cases r),n⟩
 |.scr vs,x,h=>by
  erw[yd]at h ⊢;let⟨y,xs,e,r,l⟩:=h;refine⟨y,xs,e,?_,yh.moreB hn vs xs l⟩;rcases r with⟨r,b,n⟩|r
  .refine .inl ⟨r,λz=>(hn y z).elim b λq=>?_,n⟩;rcases r with r|⟨o,r⟩<;>(rw[q]at r;cases r)
  .exact .inr r
theorem yh.moreB{B':AJ->Prop}(hn:∀y,B' y->B y \/ H y=AD):∀(v:List PV) (x:List V),yh K cl B φ H v x->yh K cl B' φ H v x
 |[],x,h=>by erw[yh]at h ⊢;exact h
 |v::vs,x,h=>by
  erw[yh]at h ⊢;let⟨y,ys,e,r,l⟩:=h;exact⟨y,ys,e,yd.moreB hn v y r,yh.moreB hn vs ys l⟩
end
end
end L2
namespace L2
open PySem PySem.Spec PyProof.Rows
def CXH(X:Cx)(H:Hp)(s:AK)(E:XK)(e:AH)(s':AK):Prop:=
 ∃(C a:AJ) (cls a0 fl:AH) (H':Hp) (B:BU),X.s₀.heap.objs.size<=C/\e=.ref a/\s'.os=s.os/\D6 s'.gens /\
  (B.StaysIn s'.heap/\B.get? a=AD/\s'.heap.FunFrames B X.stack/\s'.heap.TracedAtW B a cls a0 fl)/\HOk X.prog X.w H' s'.heap/\Un (frs X.stack) [C] H H' s.heap s'.heap /\
  (∀b o,s.heap.get? b=AA o->H b=AD->b∉frs X.stack->b≠C->B.get? b=AA o)/\(∀b u,H' b=AA u->∃o,B.get? b=AA o)/\(∀b o,s.heap.get? b=AA o->b∉frs X.stack->b≠C->∃o',B.get? b=AA o')/\E cls AD H'
theorem CXH.mono{X:Cx}{H:Hp}{s:AK}{E E':XK}{e:AH}{s':AK}(h:CXH X H s E e s')(n:∀cls H',E cls AD H'->E' cls AD H'):CXH X H s E' e s':=by
 let⟨C,a,cls,a0,fl,H',B,r1,r2,r3,r4,r5,r6,r7,r8,r9,r10,r11⟩:=h;exact⟨C,a,cls,a0,fl,H',B,r1,r2,r3,r4,r5,r6,r7,r8,r9,r10,n _ _ r11⟩
section
variable {M:HR}{A:BC}{E:AH->AK->Prop}{s:AK}
def zfU{base:BU}{env:Env}{outer:List Env}{L e:AJ}{cls a0 fl:AH}{Q:Unit->AK->Prop}
  (hfr:A.frames=AA (env::outer)) (hf:env.frame=AA L) (f1:base.StaysIn s.heap) (f2:base.get? e=AD) (f3:s.heap.FunFrames base (env::outer)) (f4:s.heap.TracedAtW base e cls a0 fl)
  (hQ:∀h',HF base outer e cls a0 h'->s.heap.UpToSlots h'->Q () {s with heap:=h'}):Al M A («leaving» env (.ref e)) Q E s:=by
 by_cases hfl:fl=rawInt L
 .subst hfl;unfold «leaving»;refine AO (wpAny_noteFrame_againW hf f4 ?_);refine wpAny_landsW ⟨f1,f2,f3,f4⟩ λh' hfl up=>?_;let⟨k1,k2,⟨_,_,k3⟩,k4⟩:=hfl;exact hQ h' ⟨k1,k2,k3,k4⟩ up
 .let⟨oe,vs,T,oT,ts,he,⟨hcls,h0⟩,hd,h1,hnT,hTe,hT,hdT,h3⟩:=f4;subst hcls;unfold «leaving» noteFrame;erw[hf];refine AO (AO (C8 he hd h1 ?_));rw[if_pos (show (BW T != CJ)=AB from by simp)];refine AO (C8 hT hdT h3 ?_);rw[if_neg (show ¬((fl==rawInt L)=AB)from λz=>hfl (eq_of_beq z))];refine AO (FQ hT hdT (EC.mp h3).1 ?_);have other:∀b,b≠T->(s.heap.update T (Obj.mapFields (·.setIfInBounds 3 CJ))).get? b=s.heap.get? b:=λb hb=>DL _ _ (Bf hb);have noRecord:∀b o,s.heap.get? b=AA o->(∀vs,o.data ≠ .fields vs)->b≠T:=λb o hb hnf q=>by
   rw[q,hT]at hb;injection hb with hb;subst hb;exact hnf ts hdT
  refine wpAny_newEntryW hfr (f3.of_keeps λb o hb hnf=>⟨o,(other b (noRecord b o hb hnf)).trans hb,rfl⟩) hf ((other e (Bf hTe)).trans he)
   (λb o hbo=>(other b λq=>by rw[q,hnT]at hbo;cases hbo).trans (f1 b o hbo)) f2 hd (EC.mp h1).1 h0
   λh' ⟨x1,⟨_,_,x2⟩,x3,x4⟩=>hQ h' ⟨x1,f2,x2,x3⟩ λb o hb hnf=>x4 b o ((other b (noRecord b o hb hnf)).trans hb) hnf
end
section
variable {P:Af}{w:Aw}{K:AG}{mg:A4->Option AH}{base:BU}{N:List A4}{qual:A4}{scope:Bj}{f:AJ}{cd:AH}{A:BC}{outer:List Env}{s₀:AK}{H₀:Hp}{E:XK}
def zq2{π:List (AJ×CA)}{σ:St}{H:Hp}{s:AK}{e:AH}{s':AK}(I:Inv (yaU (CX1 P w) P w K mg base N qual scope f cd A outer s₀ H₀ E) π σ H s)(h:CXH (yaU (CX1 P w) P w K mg base N qual scope f cd A outer s₀ H₀ E) H s E e s'):
  (yaU (CX1 P w) P w K mg base N qual scope f cd A outer s₀ H₀ E).xe e s':=by
 let⟨C,a,cls,a0,fl,H',B,hC,rfl,os,bare,⟨f1,f2,f3,f4⟩,hok,un,hB,tr,hT,hE⟩:=h;have bse:Un (frs outer) [] H₀ H s₀.heap s.heap:=I.base;have lt:∀b o,s₀.heap.get? b=AA o->b≠s₀.heap.objs.size:=λb o q=>Az (Aa q);have neC:∀b o,s₀.heap.get? b=AA o->b≠C:=λb o q=>Az (Ae (Aa q) hC);have niC:∀b o,s₀.heap.get? b=AA o->b∉[C]:=λb o q z=>neC b o q (by simpa using z);have hst:∀b,b∈frs (envOfC qual scope s₀.heap.objs.size f cd::outer)->b=s₀.heap.objs.size \/ b∈frs outer:=λb hb=>by
  have hb':b∈s₀.heap.objs.size::frs outer:=hb;exact BB.mp hb'
 have un':Un (frs (envOfC qual scope s₀.heap.objs.size f cd::outer)) [C] H H' s.heap s'.heap:=un;have kB:∀b o,s₀.heap.get? b=AA o->H₀ b=AD->b∉frs outer->B.get? b=AA o:=λb o q n hb=>hB b o (bse.keep b o q n hb (by simp)) (bse.free b o q n (by simp)) (λz=>by
  rcases hst b z with z|z
  .exact lt b o q z
  .exact hb z) (neC b o q)
 have kT:∀b o,s₀.heap.get? b=AA o->b∉frs outer->∃o',B.get? b=AA o':=λb o q hb=>by
  let⟨o',q1⟩:=bse.there b o q (by simp);refine hT b o' q1 (λz=>?_) (neC b o q);rcases hst b z with z|z
  .exact lt b o q z
  .exact hb z
 refine zfU I.ok.frames rfl f1 f2 f3 f4 λh'' fl' up=>?_;refine⟨a,cls,a0,H',B,rfl,os.trans I.os,bare,fl',HOk.inB hok f1 fl'.1 tr,⟨λb o q n hb _=>fl'.1 b o (kB b o q n hb),λb o q n hb _=>?_,λb o q n _=>?_,λb o q _=>?_,λb xs q=>un'.tups b xs (bse.tups b xs q),λb o u q=>un'.frzs b o u (bse.frzs b o u q),λb ps q=>?_⟩,kB,tr,kT,hE⟩
 .let⟨sl,q1⟩:=bse.slot b o q n hb (by simp);have n1:=bse.free b o q n (by simp);let⟨sl1,q2⟩:=un'.slot b _ q1 n1 (A7 _ hb) (niC b o q);let⟨_,o',ho',hd⟩:=CO f3 (show b∈DO (λ(z:Env)=>z.frame) _ from A7 _ hb);let⟨sl',q3⟩:=up b _ q2 (by rw[ho']at q2;cases q2;exact hd);exact⟨sl',q3⟩
 .let⟨o',q1⟩:=bse.there b o q (by simp);exact un'.free b o' q1 (bse.free b o q n (by simp)) (niC b o q)
 .let⟨o',q1⟩:=bse.there b o q (by simp);let⟨o2,q2⟩:=un'.there b o' q1 (niC b o q)
  by_cases hb:b∈frs outer
  .let⟨_,o3,ho3,hd⟩:=CO f3 (show b∈DO (λ(z:Env)=>z.frame) _ from A7 _ hb);let⟨sl',q3⟩:=up b _ ho3 hd;exact⟨_,q3⟩
  .let⟨o4,q4⟩:=kT b o q hb;exact⟨o4,fl'.1 b o4 q4⟩
 .let⟨m1,e1⟩:=bse.tbls b ps q;let⟨m2,e2⟩:=un'.tbls b _ e1;exact⟨m1++m2,by rw[e2,Dt]⟩
end
section
variable {pg:Af}{wd:Aw}{A:BC}{R:HE->AK->Prop}{s:AK}
end
section
variable {X:Cx}{sc:Bj}{NC:List A4}{slots:List (Option Nat)}{elt tg iter:AZ}{ifs:List AZ}{pos:CW}{g:TG}{ti:TT}{te:CI->TE}{E:XK}
end
end L2
namespace L2
open PySem PySem.Spec PyProof.Rows IC
structure Se where
 cl:Nat->AJ
 call:Nat->List PV->SO->R PV
 may:Bool
section
variable (S:Se)(X:Cx)
def ExcAt(σ:St)(B:AJ->Prop)(φ:Ph)(H:Hp)(k:Nat)(st':SO)(e:AH)(s':AK):Prop:=
 (∃π H1 s φ1,Inv X π σ H1 s/\Step φ H φ1 H1/\CX1 X.prog X.w X.stack H1 s (λcls _ H'=>cls=.ref (S.cl k)/\∃φ',Step φ1 H1 φ' H'/\yE X.K S.cl B φ' H' st') e s') \/
 (S.may=AB/\∃π H1 s φ1 h' e0 vs,Inv X π σ H1 s/\Step φ H φ1 H1/\yE X.K S.cl B φ1 H1 st'/\Gj s.heap h' e0 (.ref (S.cl k)) vs/\e=.ref e0/\s'={s with heap:=h'}) \/
 (S.may=AB/\∃π H1 s,Inv X π σ H1 s/\CXH X H1 s (λcls _ H'=>cls=.ref (S.cl k)/\∃φ',Step φ H φ' H'/\yE X.K S.cl B φ' H' st') e s')
def Run{α β:Type}(σ:St)(B:AJ->Prop)(φ:Ph)(H:Hp)(Rel:Ph->Hp->α->β->Prop)(r:R α)(Q:β->Hp->Prop):Prop:=
 match r with
 |.ok v st'=>∀x H' φ',Step φ H φ' H'->yE X.K S.cl B φ' H' st'->Rel φ' H' v x->Q x H'
 |.exc k st'=>∀e s',ExcAt S X σ B φ H k st' e s'->X.xe e s'
 |.bad=>False
abbrev RV(B:AJ->Prop):Ph->Hp->PV->V->Prop:=λφ H=>yd X.K S.cl B φ H
abbrev RL(B:AJ->Prop):Ph->Hp->List PV->List V->Prop:=λφ H=>yh X.K S.cl B φ H
abbrev RB:Ph->Hp->Bool->Bool->Prop:=λ_ _ b c=>b=c
def tE(c:Ce):TE:=λσ H Q=>∃B φ st ρ,yE X.K S.cl B φ H st/\yN X.K S.cl B φ H ρ σ/\Run S X σ B φ H (RV S X B) (ev S.call ρ st c) Q
def tAs(c:Ces):TA:=λσ H Q=>∃B φ st ρ,yE X.K S.cl B φ H st/\yN X.K S.cl B φ H ρ σ/\Run S X σ B φ H (RL S X B) (evs S.call ρ st c) Q
def ybb(r:R PV):R Bool:=r.bind λx st=>onO (yaR st x) λb=>.ok b st
def tTs(c:Ce):TT:=λσ H Q=>∃B φ st ρ,yE X.K S.cl B φ H st/\yN X.K S.cl B φ H ρ σ/\Run S X σ B φ H RB (ybb (ev S.call ρ st c)) Q
end
section
variable {S:Se}{X:Cx}{σ:St}{B:AJ->Prop}{φ φ1:Ph}{H H1:Hp}
theorem ExcAt.back{k:Nat}{st':SO}{e:AH}{s':AK}(s:Step φ H φ1 H1)(h:ExcAt S X σ B φ1 H1 k st' e s'):ExcAt S X σ B φ H k st' e s':=by
 rcases h with⟨π,H2,t,φ2,I,q,c⟩|⟨m,π,H2,t,φ2,h',e0,vs,I,q,c⟩|⟨m,π,H2,t,I,c⟩
 .exact .inl ⟨π,H2,t,φ2,I,s.trans q,c⟩
 .exact .inr (.inl ⟨m,π,H2,t,φ2,h',e0,vs,I,s.trans q,c⟩)
 .exact .inr (.inr ⟨m,π,H2,t,I,c.mono λcls H' ⟨e1,φ',s2,r⟩=>⟨e1,φ',s.trans s2,r⟩⟩)
variable {α β γ δ:Type}{Rel:Ph->Hp->α->β->Prop}{HG:Ph->Hp->γ->δ->Prop}
theorem Run.on{r:R α}{Q:β->Hp->Prop}(s:Step φ H φ1 H1)(h:Run S X σ B φ H Rel r Q):Run S X σ B φ1 H1 Rel r Q:=by
 cases r with
 |ok v st'=>exact λx H' φ' t=>h x H' φ' (s.trans t)
 |exc k st'=>exact λe s' x=>h e s' (x.back s)
 |bad=>exact h
theorem Run.mono{r:R α}{Q Q':β->Hp->Prop}(h:Run S X σ B φ H Rel r Q)(k:∀x H',Q x H'->Q' x H'):Run S X σ B φ H Rel r Q':=by
 cases r with
 |ok v st'=>exact λx H' φ' t rs rv=>k x H' (h x H' φ' t rs rv)
 |exc c st'=>exact h
 |bad=>exact h
theorem Run.bind{r:R α}{k:α->SO->R γ}{Q:δ->Hp->Prop}(h:Run S X σ B φ H HG (r.bind k) Q):
  Run S X σ B φ H Rel r λx H1=>∃v st1 φ1,Step φ H φ1 H1/\yE X.K S.cl B φ1 H1 st1/\Rel φ1 H1 v x/\Run S X σ B φ1 H1 HG (k v st1) Q:=by
 cases r with
 |ok v st'=>exact λx H' φ' t rs rv=>⟨v,st',φ',t,rs,rv,Run.on t h⟩
 |exc c st'=>exact h
 |bad=>exact h
theorem Run.ok{v:α}{st:SO}{Q:β->Hp->Prop}(h:Run S X σ B φ H Rel (.ok v st) Q)(rs:yE X.K S.cl B φ H st){x:β}(rv:Rel φ H v x):Q x H:=h x H φ .rfl rs rv
theorem PE.imp{e:AZ}{t t':TE}(h:PE X e t')(k:∀σ H Q,t σ H Q->t' σ H Q):PE X e t:=λπ s σ H Q I q=>h π s σ H Q I (k σ H Q q)
theorem PT.imp{e:AZ}{t t':TT}(h:PT X e t')(k:∀σ H Q,t σ H Q->t' σ H Q):PT X e t:=λπ s σ H Q I q=>h π s σ H Q I (k σ H Q q)
theorem PW.imp{e:AZ}{t t':TT}(h:PW X e t')(k:∀σ H Q,t σ H Q->t' σ H Q):PW X e t:=λwh π s σ H Q I q=>h wh π s σ H Q I (k σ H Q q)
theorem PA.imp{e:List AZ}{t t':TA}(h:PA X e t')(k:∀σ H Q,t σ H Q->t' σ H Q):PA X e t:=λpos π s σ H Q I q=>h pos π s σ H Q I (k σ H Q q)
theorem tE.bind{c:Ce}{ρ:IC.Env}{st:SO}{k:PV->SO->R γ}{Q:δ->Hp->Prop}{P:V->Hp->Prop}(rs:yE X.K S.cl B φ H st)(re:yN X.K S.cl B φ H ρ σ)(h:Run S X σ B φ H HG ((ev S.call ρ st c).bind k) Q)
  (n:∀x H1 v st1 φ1,Step φ H φ1 H1->yE X.K S.cl B φ1 H1 st1->yN X.K S.cl B φ1 H1 ρ σ->yd X.K S.cl B φ1 H1 v x->Run S X σ B φ1 H1 HG (k v st1) Q->P x H1):tE S X c σ H P:=
 ⟨B,φ,st,ρ,rs,re,(Run.bind h).mono λx H1 ⟨v,st1,φ1,s,rs1,rv,h1⟩=>n x H1 v st1 φ1 s rs1 (re.step s) rv h1⟩
theorem tAs.bind{c:Ces}{ρ:IC.Env}{st:SO}{k:List PV->SO->R γ}{Q:δ->Hp->Prop}{P:List V->Hp->Prop}(rs:yE X.K S.cl B φ H st)(re:yN X.K S.cl B φ H ρ σ)(h:Run S X σ B φ H HG ((evs S.call ρ st c).bind k) Q)
  (n:∀x H1 v st1 φ1,Step φ H φ1 H1->yE X.K S.cl B φ1 H1 st1->yN X.K S.cl B φ1 H1 ρ σ->yh X.K S.cl B φ1 H1 v x->Run S X σ B φ1 H1 HG (k v st1) Q->P x H1):tAs S X c σ H P:=
 ⟨B,φ,st,ρ,rs,re,(Run.bind h).mono λx H1 ⟨v,st1,φ1,s,rs1,rv,h1⟩=>n x H1 v st1 φ1 s rs1 (re.step s) rv h1⟩
variable {i:Int}{b:Bool}{x:A4}{j:Nat}{pos:CW}{e a a':AZ}{c ca cb cc:Ce}
def zlz:PE X (.Constant (.int i) j pos) (tE S X (.cst (.int i))):=ziV.imp λσ H Q ⟨B,φ,st,ρ,rs,re,h⟩=>by
 erw[ev]at h;exact h.ok rs (by erw[yd])
def zqK:PE X (.Constant (.bool b) j pos) (tE S X (.cst (.bl b))):=zpd.imp λσ H Q ⟨B,φ,st,ρ,rs,re,h⟩=>by
 erw[ev]at h;exact h.ok rs (by erw[yd])
def zpe:PE X (.Constant .none j pos) (tE S X (.cst .non)):=zpl.imp λσ H Q ⟨B,φ,st,ρ,rs,re,h⟩=>by
 erw[ev]at h;exact h.ok rs (by erw[yd])
def zpb:PE X (.Constant (.str x) j pos) (tE S X (.cst (.str x))):=znO.imp λσ H Q ⟨B,φ,st,ρ,rs,re,h⟩=>by
 erw[ev]at h;exact h.ok rs (by erw[yd])
def zpc{i:Nat}(hN:X.N[i]?=AA x)(hv:Vis X.env.scope x)(hd:(x==("__debug__":A4))=false:=by decide)(hcd:(x==("__classdict__":A4))=false:=by decide):PE X (.Name x pos) (tE S X (.var i)):=
 (zl2 hN hv hd hcd).imp λσ H Q ⟨B,φ,st,ρ,rs,re,h⟩=>by
  erw[ev]at h
  cases q:ρ[i]? with
  |none=>rw[q]at h;exact h.elim
  |some o=>
   cases o with
   |none=>rw[q]at h;exact h.elim
   |some v=>
    rw[q]at h;let⟨y,hy,rv⟩:=re.get i v q;exact⟨y,hy,h.ok rs rv⟩
def ziZ{v:PV}{y:AJ}(hg:Gl X x)(hm:X.mg x=AA (.ref y))(hk:∀B φ H,yd X.K S.cl B φ H v (.ref y))(hd:(x==("__debug__":A4))=false:=by decide):PE X (.Name x pos) (tE S X (.cst v)):=
 (zfX hg hm (show RelV (.ref y) (.ref y)from rfl) hd).imp λσ H Q ⟨B,φ,st,ρ,rs,re,h⟩=>by
  erw[ev]at h;exact h.ok rs (hk B φ H)
def zak{o:Option PV}{st:SO}{Q:VK}(h:Run S X σ B φ H (RV S X B) (toR o st) Q)(rs:yE X.K S.cl B φ H st):∃z,o=AA z/\∀z' H' φ',Step φ H φ' H'->yE X.K S.cl B φ' H' st->yd X.K S.cl B φ' H' z z'->Q z' H':=by
 cases o with
 |none=>exact h.elim
 |some z=>exact⟨z,rfl,h⟩
def rT2(S:Se)(X:Cx)(f:PV->PV->Option PV):R2:=λx y H Q=>∃B φ st v w z,yE X.K S.cl B φ H st/\yd X.K S.cl B φ H v x/\yd X.K S.cl B φ H w y/\f v w=AA z /\
 ∀z' H' φ',Step φ H φ' H'->yE X.K S.cl B φ' H' st->yd X.K S.cl B φ' H' z z'->Q z' H'
def zo4{op:Ea}{o:BOp}(ho:OpR X (binaryOp op) (rT2 S X (yC o)))(ha:PE X a (tE S X ca))(hb:PE X a' (tE S X cb)):PE X (.BinOp a op a' pos) (tE S X (.bin o ca cb)):=
 (zpD ho ha hb).imp λσ H Q ⟨B,φ,st,ρ,rs,re,h⟩=>by
  erw[ev]at h;refine tE.bind rs re h λx H1 v st1 φ1 s1 rs1 re1 rv h1=>tE.bind rs1 re1 h1 λy H2 w st2 φ2 s2 rs2 re2 rw h2=>?_;let⟨z,e,q⟩:=zak h2 rs2;exact⟨B,φ2,st2,v,w,z,rs2,rv.step s2,rw,e,q⟩
def zp5{op:Fc}{o:COp}(ho:OpR X (compareOp op) (rT2 S X (ye o)))(ha:PE X a (tE S X ca))(hb:PE X a' (tE S X cb))(hm:behindInMarks op a'=AC):PE X (.Compare a [op] [a'] pos) (tE S X (.cmp o ca cb)):=
 (zmT ho ha hb hm).imp λσ H Q ⟨B,φ,st,ρ,rs,re,h⟩=>by
  erw[ev]at h;refine tE.bind rs re h λx H1 v st1 φ1 s1 rs1 re1 rv h1=>tE.bind rs1 re1 h1 λy H2 w st2 φ2 s2 rs2 re2 rw h2=>?_;let⟨z,e,q⟩:=zak h2 rs2;exact⟨B,φ2,st2,v,w,z,rs2,rv.step s2,rw,e,q⟩
end
section
variable {S:Se}{X:Cx}{σ:St}{B:AJ->Prop}{φ φ1:Ph}{H H1:Hp}{K:AG}{cl:Nat->AJ}{st:SO}
theorem ybZ.sq{k:Bool}{a:AJ}{xs:List V}(r:ybZ K B φ H k a xs):SqT K H a xs:=by
 rcases r with⟨r,_⟩|r
 .exact .inl (.inl r)
 .exact .inr r.2
theorem ycZ.sq{a:AJ}{xs:List V}(r:ycZ B φ H a xs):SqL K H a xs:=.inl (.inl r.1)
theorem yd.tup_new{vs:List PV}{xs:List V}{p:AJ}(hp:H p=AD)(rs:yE K cl B φ H st)(r:yh K cl B φ H vs xs):yd K cl B φ (upd H p (.tup xs)) (.tup vs) (.ref p):=by
 erw[yd];refine⟨p,xs,rfl,.inl ⟨zf,λz=>?_,λz=>?_⟩,r.step (.upd hp)⟩
 .let⟨o,e⟩:=rs.dom p z;rw[hp]at e;cases e
 .let⟨o,e⟩:=rs.there z;rw[hp]at e;cases e
theorem yd.lst_new{vs:List PV}{xs:List V}{p:AJ}(hp:H p=AD)(rs:yE K cl B φ H st)(r:yh K cl B φ H vs xs):yd K cl B φ (upd H p (.lst xs)) (.lst vs) (.ref p):=by
 erw[yd];refine⟨p,xs,rfl,⟨zf,λz=>?_,λz=>?_⟩,r.step (.upd hp)⟩
 .let⟨o,e⟩:=rs.dom p z;rw[hp]at e;cases e
 .let⟨o,e⟩:=rs.there z;rw[hp]at e;cases e
theorem yh.append:∀{vs ws:List PV} {xs ys:List V},yh K cl B φ H vs xs->yh K cl B φ H ws ys->yh K cl B φ H (vs++ws) (xs++ys)
 |[],ws,xs,ys,h,q=>by erw[yh]at h;subst h;exact q
 |v::vs,ws,xs,ys,h,q=>by
  erw[yh]at h;let⟨y,zs,rfl,r,l⟩:=h;show yh K cl B φ H (v::(vs++ws)) (y::(zs++ys));erw[yh];exact⟨y,zs++ys,rfl,r,yh.append l q⟩
theorem yh.get:∀{vs:List PV} {xs:List V} (j:Nat) {v:PV},yh K cl B φ H vs xs->vs[j]?=AA v->∃x,xs[j]?=AA x/\yd K cl B φ H v x
 |[],xs,j,v,h,e=>by simp at e
 |w::vs,xs,0,v,h,e=>by
  erw[yh]at h;let⟨y,zs,rfl,r,l⟩:=h;simp at e;subst e;exact⟨y,rfl,r⟩
 |w::vs,xs,j+1,v,h,e=>by
  erw[yh]at h;let⟨y,zs,rfl,r,l⟩:=h;let⟨x,q1,q2⟩:=yh.get j l (by simpa using e);exact⟨x,by simpa using q1,q2⟩
theorem yh.drop:∀{vs:List PV} {xs:List V} (n:Nat),yh K cl B φ H vs xs->yh K cl B φ H (vs.drop n) (xs.drop n)
 |vs,xs,0,h=>by simpa using h
 |[],xs,n+1,h=>by erw[yh]at h;subst h;simp[yh]
 |v::vs,xs,n+1,h=>by
  erw[yh]at h;let⟨y,ys,rfl,_,l⟩:=h;simpa using yh.drop n l
theorem yh.take:∀{vs:List PV} {xs:List V} (n:Nat),yh K cl B φ H vs xs->yh K cl B φ H (vs.take n) (xs.take n)
 |vs,xs,0,h=>by simp[yh]
 |[],xs,n+1,h=>by erw[yh]at h;subst h;simp[yh]
 |v::vs,xs,n+1,h=>by
  erw[yh]at h;let⟨y,ys,rfl,r,l⟩:=h;erw[List.take_succ_cons,yh];exact⟨y,ys.take n,rfl,r,yh.take n l⟩
def zbO{f:AH->AH->Hf AH}{o:BOp}{C:Int->Int->Prop}{g:Int->Int->Int}(h:OpR X f (rI C λi j=>.int (g i j)))
  (hb:∀v w z,yC o v w=AA z->∃i j,v=.int i/\w=.int j/\C i j/\z=.int (g i j)):OpR X f (rT2 S X (yC o)):=by
 rintro π s σ H x y v u Q I rx ry ⟨B,φ,st,a,b,z,rs,ra,rb,e,q⟩
 let⟨i,j,rfl,rfl,hc,rfl⟩:=hb a b z e;erw[yd]at ra rb;subst ra rb;exact h π s σ H _ _ v u Q I rx ry ⟨i,j,rfl,rfl,hc,q _ H φ .rfl rs (by erw[yd])⟩
def zcj{f:AH->AH->Hf AH}{o:BOp}{g:Int->Int->Int}(h:OpR X f (rI0 λi j=>.int (g i j)))
  (hb:∀v w z,yC o v w=AA z->∃i j,v=.int i/\w=.int j/\z=.int (g i j)):OpR X f (rT2 S X (yC o)):=by
 rintro π s σ H x y v u Q I rx ry ⟨B,φ,st,a,b,z,rs,ra,rb,e,q⟩
 let⟨i,j,rfl,rfl,rfl⟩:=hb a b z e;erw[yd]at ra rb;subst ra rb;exact h π s σ H _ _ v u Q I rx ry ⟨i,j,rfl,rfl,q _ H φ .rfl rs (by erw[yd])⟩
def znj(v w z:PV)(h:yC .sub v w=AA z):∃i j,v=.int i/\w=.int j/\z=.int (i-j):=by
 unfold yC at h;split at h<;>first|(cases h;done)|skip
 exact⟨_,_,rfl,rfl,(A8 h).symm⟩
def zmd(v w z:PV)(h:yC .mul v w=AA z):∃i j,v=.int i/\w=.int j/\ydJ i j/\z=.int (i*j):=by
 unfold yC at h;split at h<;>first|(cases h;done)|skip
 rename_i i j;erw[IC.binI]at h;split at h
 .rename_i c;refine⟨i,j,rfl,rfl,?_,(A8 h).symm⟩;erw[yaK,Cd,decide_eq_true_eq]at c;unfold ydJ;rcases c with c|c
  .left;constructor<;>lia
  .right;constructor<;>lia
 .cases h
def zkK(v w z:PV)(h:yC .fdiv v w=AA z):∃i j,v=.int i/\w=.int j/\ydD i j/\z=.int (i/j):=by
 unfold yC at h;split at h<;>first|(cases h;done)|skip
 rename_i i j;erw[IC.binI]at h;split at h
 .rename_i c;exact⟨i,j,rfl,rfl,c,(A8 h).symm⟩
 .cases h
def zmm(v w z:PV)(h:yC .mod v w=AA z):∃i j,v=.int i/\w=.int j/\0<j/\z=.int (i%j):=by
 unfold yC at h;split at h<;>first|(cases h;done)|skip
 rename_i i j;erw[IC.binI]at h;split at h
 .rename_i c;exact⟨i,j,rfl,rfl,c,(A8 h).symm⟩
 .cases h
def zmp(v w z:PV)(h:yC .pow v w=AA z):∃i j,v=.int i/\w=.int j/\yd3 i j/\z=.int (i^j.toNat):=by
 unfold yC at h;split at h<;>first|(cases h;done)|skip
 rename_i i j;erw[IC.binI]at h;split at h
 .rename_i c;exact⟨i,j,rfl,rfl,⟨c.1,c.2.1,by have:=c.2.2;lia⟩,(A8 h).symm⟩
 .cases h
def znB(v w z:PV)(h:yC .shl v w=AA z):∃i j,v=.int i/\w=.int j/\yd3 i j/\z=.int (i*2^j.toNat):=by
 unfold yC at h;split at h<;>first|(cases h;done)|skip
 rename_i i j;erw[IC.binI]at h;split at h
 .rename_i c;exact⟨i,j,rfl,rfl,⟨c.1,c.2.1,by have:=c.2.2;lia⟩,(A8 h).symm⟩
 .cases h
def zmN(v w z:PV)(h:yC .shr v w=AA z):∃i j,v=.int i/\w=.int j/\0<=j/\z=.int (i/2^j.toNat):=by
 unfold yC at h;split at h<;>first|(cases h;done)|skip
 rename_i i j;erw[IC.binI]at h;split at h
 .rename_i c;exact⟨i,j,rfl,rfl,c,(A8 h).symm⟩
 .cases h
def zlq(v w z:PV)(h:yC .band v w=AA z):∃i j,v=.int i/\w=.int j/\z=.int (An i j):=by
 unfold yC at h;split at h<;>first|(cases h;done)|skip
 exact⟨_,_,rfl,rfl,(A8 h).symm⟩
def zmK(v w z:PV)(h:yC .bor v w=AA z):∃i j,v=.int i/\w=.int j/\z=.int (BR i j):=by
 unfold yC at h;split at h<;>first|(cases h;done)|skip
 exact⟨_,_,rfl,rfl,(A8 h).symm⟩
def zlf(v w z:PV)(h:yC .bxor v w=AA z):∃i j,v=.int i/\w=.int j/\z=.int (Ar i j):=by
 unfold yC at h;split at h<;>first|(cases h;done)|skip
 exact⟨_,_,rfl,rfl,(A8 h).symm⟩
def zpN:OpR X (binaryOp .Sub) (rT2 S X (yC .sub)):=zcj zoX znj
def zp2:OpR X (binaryOp .Mult) (rT2 S X (yC .mul)):=zbO zpV zmd
def zm1:OpR X (binaryOp .FloorDiv) (rT2 S X (yC .fdiv)):=zbO zk7 zkK
def zqa:OpR X (binaryOp .Mod) (rT2 S X (yC .mod)):=zbO zpf zmm
def zqk:OpR X (binaryOp .Pow) (rT2 S X (yC .pow)):=zbO zo2 zmp
def zps:OpR X (binaryOp .LShift) (rT2 S X (yC .shl)):=zbO zoU znB
def zpa:OpR X (binaryOp .RShift) (rT2 S X (yC .shr)):=zbO zoh zmN
def znx:OpR X (binaryOp .BitAnd) (rT2 S X (yC .band)):=zcj zpI zlq
def zn1:OpR X (binaryOp .BitOr) (rT2 S X (yC .bor)):=zcj zqx zmK
def zmn:OpR X (binaryOp .BitXor) (rT2 S X (yC .bxor)):=zcj zpo zlf
def zn:sizeMax=sizeLine:=by rw[DG];rfl
def zmU:OpR X (binaryOp .Add) (λx y H Q=>∃a b ys,x=.ref a/\y=.ref b/\SqT X.K H a []/\SqT X.K H b ys/\Q (.ref b) H):=by
 intro π s σ H x y v u Q I rx ry h;let⟨a,b,ys,rfl,rfl,ha,hb,q⟩:=h
 cases rx
 cases ry
 let⟨its,r1,p1,_⟩:=I.tuple ha;let⟨its2,r2,p2,_⟩:=I.tuple hb;have:its=[]:=r1.nil_iff.mpr rfl;subst this;let⟨⟨cls,dd,data,sl⟩,ho,hc,n,hd⟩:=id p1;let⟨⟨cls2,dd2,data2,sl2⟩,ho2,hc2,n2,hd2⟩:=id p2;simp only at hc hd hc2 hd2;subst hc hd hc2 hd2;exact GH ⟨_,ho,rfl⟩ ⟨_,ho2,rfl⟩ C3 Cy Bp Bl (Bi _ _)
   (tuple_addW0 a b [].toArray its2.toArray n n2 dd dd2 sl sl2 (by simp)) ⟨ho,ho2,⟨.ref b,H,I,rfl,q⟩⟩
def zon:OpR X (binaryOp .Add) (rT2 S X (yC .add)):=by
 rintro π s σ H x y v u Q I rx ry ⟨B,φ,st,a,b,z,rs,ra,rb,e,q⟩
 unfold yC at e;split at e
 .rename_i i j;erw[yd]at ra rb;subst ra rb
  cases e
  exact zoZ π s σ H _ _ v u Q I rx ry ⟨i,j,rfl,rfl,q _ H φ .rfl rs (by erw[yd])⟩
 .rename_i i k;erw[yd]at ra rb;subst ra rb
  cases e
  exact zh9 π s σ H _ _ v u Q I rx ry ⟨i,k,rfl,rfl,q _ H φ .rfl rs (by erw[yd];cases k<;>rfl)⟩
 .rename_i i j;erw[yd]at ra rb;subst ra rb;dsimp only at e;split at e
  .rename_i c
   cases e
   exact zhE π s σ H _ _ v u Q I rx ry ⟨i,j,rfl,rfl,by rw[<-zn];exact c,q _ H φ .rfl rs (by erw[yd])⟩
  .cases e
 .rename_i k1 vs k2 ws;erw[yd]at ra rb;let⟨p,xs,rfl,r1,l1⟩:=ra;let⟨p',ys,rfl,r2,l2⟩:=rb;dsimp only at e;split at e
  .rename_i c
   cases e
   have n1:=l1.length;have n2:=l2.length;unfold ydX at q
   cases vs with
   |nil=>
    have:xs=[]:=by cases xs with|nil=>rfl|cons _ _=>simp at n1
    subst this;refine zmU π s σ H _ _ v u Q I rx ry ⟨p,p',ys,rfl,rfl,r1.sq,r2.sq,q _ H φ .rfl rs ?_⟩;erw[Eg,if_true,yd];exact⟨p',ys,rfl,r2,l2⟩
   |cons v1 vr=>
    erw[GO,A5,if_false]at q;refine zmX π s σ H _ _ v u Q I rx ry ⟨p,p',xs,ys,rfl,rfl,r1.sq,r2.sq,?_,by rw[<-zn];lia,λz=>?_,λz t ht=>?_⟩
    .rintro rfl
     simp at n1
    .subst z;have:ws=[]:=by cases ws with|nil=>rfl|cons _ _=>simp at n2
     subst this;erw[Eg,if_true]at q;refine q _ H φ .rfl rs ?_;erw[yd];exact⟨p,xs,rfl,r1,l1⟩
    .cases ws with
     |nil=>exact absurd (List.length_eq_zero_iff.mp n2.symm) z
     |cons w1 wr=>
      erw[GO,A5,if_false]at q;exact q _ _ φ (.upd ht) (rs.upd ht) (.tup_new ht rs (l1.append l2))
  .cases e
 .rename_i vs ws;erw[yd]at ra rb;let⟨p,xs,rfl,r1,l1⟩:=ra;let⟨p',ys,rfl,r2,l2⟩:=rb;dsimp only at e;split at e
  .rename_i c
   cases e
   have n1:=l1.length;have n2:=l2.length;exact zl3 π s σ H _ _ v u Q I rx ry ⟨p,p',xs,ys,rfl,rfl,r1.1,r2.1,by rw[<-zn];lia,λt ht=>q _ _ φ (.upd ht) (rs.upd ht) (.lst_new ht rs (l1.append l2))⟩
  .cases e
 .cases e
end
mutual
noncomputable def toD:PV->PyData
 |.non=>.none
 |.bl b=>.bool b
 |.int i=>.int i
 |.str x=>.str x
 |.tp _ xs=>.tuple (ybN xs)
 |.lst xs=>.list (ybN xs)
 |_=>.none
noncomputable def ybN:List PV->List PyData
 |[]=>[]
 |x::xs=>toD x::ybN xs
end
mutual
theorem zim:∀(v:PV) (n:Nat),shd n v=AB->(toD v).canLay0=AB/\(toD v).depth<=n
 |.non,n,h=>by simp[toD,Co,DP]
 |.bl b,n,h=>by simp[toD,Co,DP]
 |.int i,n,h=>by simp[toD,Co,DP]
 |.str x,n,h=>by
  erw[shd]at h;erw[toD,Co,DP,Cm,and_true];exact h
 |.tp _ xs,n,h=>by
  erw[shd,AI,decide_eq_true_eq]at h;let⟨q1,q2⟩:=zd5 xs (n-1) h.2;erw[toD,Co,DP];exact⟨q1,by lia⟩
 |.lst xs,n,h=>by
  erw[shd,AI,decide_eq_true_eq]at h;let⟨q1,q2⟩:=zd5 xs (n-1) h.2;erw[toD,Co,DP];exact⟨q1,by lia⟩
 |.loc k,n,h=>by simp[shd]at h
 |.fnc k,n,h=>by simp[shd]at h
 |.exn k,n,h=>by simp[shd]at h
 |.scr xs,n,h=>by simp[shd]at h
theorem zd5:∀(v:List PV) (n:Nat),ybm n v=AB->ET (ybN v)=AB/\FB (ybN v)<=n
 |[],n,h=>by simp[ybN,ET,FB]
 |v::vs,n,h=>by
  erw[ybm,AI]at h;let⟨q1,q2⟩:=zim v n h.1;let⟨q3,q4⟩:=zd5 vs n h.2;erw[ybN,ET,FB,AI];exact⟨⟨q1,q3⟩,by lia⟩
end
def zaS{v:PV}(h:shp v=AB):HH (toD v)=true:=by
 let⟨q1,q2⟩:=zim v 60 h;unfold HH;rw[q1,Fg,decide_eq_true_eq];lia
mutual
theorem zgf:∀(v w:PV) (n m:Nat),shd n v=AB->shd m w=AB->Be (toD v) (toD w)=peq v w
 |.non,w,n,m,h,q=>by cases w<;>simp_all[toD,Be,peq,shd]
 |.bl b,w,n,m,h,q=>by cases w<;>simp_all[toD,Be,peq,shd,bi]
 |.int i,w,n,m,h,q=>by cases w<;>simp_all[toD,Be,peq,shd,bi]
 |.str x,w,n,m,h,q=>by cases w<;>simp_all[toD,Be,peq,shd]
 |.tp _ xs,.tp _ ys,n,m,h,q=>by
  erw[shd,AI]at h q;erw[toD,Be,peq];exact zee xs ys (n-1) (m-1) h.2 q.2
 |.lst xs,.lst ys,n,m,h,q=>by
  erw[shd,AI]at h q;erw[toD,Be,peq];exact zee xs ys (n-1) (m-1) h.2 q.2
 |.tp _ xs,.non,n,m,h,q=>by simp[toD,Be,peq]
 |.tp _ xs,.bl _,n,m,h,q=>by simp[toD,Be,peq]
 |.tp _ xs,.int _,n,m,h,q=>by simp[toD,Be,peq]
 |.tp _ xs,.str _,n,m,h,q=>by simp[toD,Be,peq]
 |.tp _ xs,.lst _,n,m,h,q=>by simp[toD,Be,peq]
 |.lst xs,.non,n,m,h,q=>by simp[toD,Be,peq]
 |.lst xs,.bl _,n,m,h,q=>by simp[toD,Be,peq]
 |.lst xs,.int _,n,m,h,q=>by simp[toD,Be,peq]
 |.lst xs,.str _,n,m,h,q=>by simp[toD,Be,peq]
 |.lst xs,.tp _ _,n,m,h,q=>by simp[toD,Be,peq]
 |.loc k,w,n,m,h,q=>by simp[shd]at h
 |.fnc k,w,n,m,h,q=>by simp[shd]at h
 |.exn k,w,n,m,h,q=>by simp[shd]at h
 |.scr k,w,n,m,h,q=>by simp[shd]at h
 |v,.loc k,n,m,h,q=>by simp[shd]at q
 |v,.fnc k,n,m,h,q=>by simp[shd]at q
 |v,.exn k,n,m,h,q=>by simp[shd]at q
 |v,.scr k,n,m,h,q=>by simp[shd]at q
theorem zee:∀(v w:List PV) (n m:Nat),ybm n v=AB->ybm m w=AB->D9 (ybN v) (ybN w)=ybv v w
 |[],[],n,m,h,q=>by simp[ybN,D9,ybv]
 |[],y::ys,n,m,h,q=>by simp[ybN,D9,ybv]
 |x::xs,[],n,m,h,q=>by simp[ybN,D9,ybv]
 |x::xs,y::ys,n,m,h,q=>by
  erw[ybm,AI]at h q;erw[ybN,D9,ybv];rw[zgf x y n m h.1 q.1,zee xs ys n m h.2 q.2]
end
section
variable {S:Se}{X:Cx}{σ:St}{B:AJ->Prop}{φ φ1:Ph}{H H1:Hp}{st:SO}{π:List (AJ×CA)}{s:AK}
mutual
theorem zbJ(I:Inv X π σ H s):∀(v:PV) (n:Nat) (x:V) (u:AH),shd n v=AB->yd X.K S.cl B φ H v x->RelV x u->∃as,Reads s.heap u (toD v) as
 |.non,n,x,u,h,r,q=>by
  erw[yd]at r;subst r;cases (show u=CJ from q);exact⟨_,.none⟩
 |.bl b,n,x,u,h,r,q=>by
  erw[yd]at r;subst r;cases (show u=Cj b from q);exact⟨_,.bool b⟩
 |.int i,n,x,u,h,r,q=>by
  erw[yd]at r;subst r;let⟨t,rfl⟩:=q;exact⟨_,.int i t⟩
 |.str y,n,x,u,h,r,q=>by
  erw[yd]at r;subst r;let⟨t,rfl⟩:=q;exact⟨_,.str y t⟩
 |.tp _ vs,n,x,u,h,r,q=>by
  erw[yd]at r;let⟨a,xs,rfl,rt,l⟩:=r
  cases (show u=BW a from q)
  erw[shd,AI]at h;let⟨its,rv,⟨o,g,c,k,d⟩,_⟩:=I.tuple rt.sq;let⟨as,z⟩:=zdc I vs (n-1) xs its h.2 l rv;exact⟨as,.tuple g c d (by simpa using z)⟩
 |.lst vs,n,x,u,h,r,q=>by
  erw[yd]at r;let⟨a,xs,rfl,rt,l⟩:=r
  cases (show u=BW a from q)
  erw[shd,AI]at h;let⟨its,rv,⟨o,k,g,c,_,d⟩,_⟩:=I.list (rt.sq (K:=X.K));let⟨as,z⟩:=zdc I vs (n-1) xs its h.2 l rv;exact⟨_,.list g c d (by simpa using z)⟩
 |.loc k,n,x,u,h,r,q=>by simp[shd]at h
 |.fnc k,n,x,u,h,r,q=>by simp[shd]at h
 |.exn k,n,x,u,h,r,q=>by simp[shd]at h
 |.scr k,n,x,u,h,r,q=>by simp[shd]at h
theorem zdc(I:Inv X π σ H s):∀(v:List PV) (n:Nat) (x:List V) (u:List AH),ybm n v=AB->yh X.K S.cl B φ H v x->Vals x u->∃as,ReadsAll s.heap u (ybN v) as
 |[],n,x,u,h,r,q=>by
  erw[yh]at r;subst r;cases q;exact⟨_,.nil⟩
 |v::vs,n,x,u,h,r,q=>by
  erw[yh]at r;let⟨y,ys,rfl,rv,l⟩:=r;erw[ybm,AI]at h
  cases q with
  |cons q1 q2=>
   let⟨as,z1⟩:=zbJ I v n y _ h.1 rv q1;let⟨bs,z2⟩:=zdc I vs n ys _ h.2 l q2;exact⟨_,.cons z1 z2⟩
end
def zqT(hu:X.A.units+64<cLine):OpR X (compareOp .Eq) (rT2 S X (ye .eq)):=by
 rintro π s σ H x y v u Q I rx ry ⟨B,φ,st,a,b,z,rs,ra,rb,e,q⟩
 erw[ye]at e;split at e
 .rename_i c;rw[AI]at c
  cases e
  let⟨as,z1⟩:=zbJ (S:=S) I a 60 x v c.1 ra rx;let⟨bs,z2⟩:=zbJ (S:=S) I b 60 y u c.2 rb ry;refine eq_dataH z1 z2 (zaS c.1) (zaS c.2) hu ⟨.bl _,H,I,rfl,?_⟩;rw[zgf a b 60 60 c.1 c.2];exact q _ H φ .rfl rs (by erw[yd])
 .cases e
def zqs(hu:X.A.units+64<cLine):OpR X (compareOp .NotEq) (rT2 S X (ye .ne)):=by
 rintro π s σ H x y v u Q I rx ry ⟨B,φ,st,a,b,z,rs,ra,rb,e,q⟩
 erw[ye]at e;split at e
 .rename_i c;rw[AI]at c
  cases e
  let⟨as,z1⟩:=zbJ (S:=S) I a 60 x v c.1 ra rx;let⟨bs,z2⟩:=zbJ (S:=S) I b 60 y u c.2 rb ry;refine ne_dataH z1 z2 (zaS c.1) (zaS c.2) hu ⟨.bl _,H,I,rfl,?_⟩;rw[zgf a b 60 60 c.1 c.2];exact q _ H φ .rfl rs (by erw[yd])
 .cases e
def zjO{f:AH->AH->Hf AH}{o:COp}{g:Int->Int->Bool}(h:OpR X f (rI0 λi j=>.bl (g i j)))
  (hb:∀v w z,ye o v w=AA z->∃i j,v=.int i/\w=.int j/\z=.bl (g i j)):OpR X f (rT2 S X (ye o)):=by
 rintro π s σ H x y v u Q I rx ry ⟨B,φ,st,a,b,z,rs,ra,rb,e,q⟩
 let⟨i,j,rfl,rfl,rfl⟩:=hb a b z e;erw[yd]at ra rb;subst ra rb;exact h π s σ H _ _ v u Q I rx ry ⟨i,j,rfl,rfl,q _ H φ .rfl rs (by erw[yd])⟩
def zjg:OpR X (compareOp .LtE) (λx y H Q=>∃i j,x=.str i/\y=.str j/\Q (.bl (!decide (j.cps.toList<i.cps.toList))) H):=by
 intro π s σ H x y v u Q I rx ry h;let⟨i,j,rfl,rfl,q⟩:=h;let⟨t,rfl⟩:=rx;let⟨t',rfl⟩:=ry;exact PySem.P.le_str (zdr I q rfl)
def zqU:OpR X (compareOp .Lt) (rT2 S X (ye .lt)):=by
 rintro π s σ H x y v u Q I rx ry ⟨B,φ,st,a,b,z,rs,ra,rb,e,q⟩
 erw[ye]at e;split at e
 .rename_i i j;erw[yd]at ra rb;subst ra rb
  cases e
  exact zqt π s σ H _ _ v u Q I rx ry ⟨i,j,rfl,rfl,q _ H φ .rfl rs (by erw[yd])⟩
 .rename_i i j;erw[yd]at ra rb;subst ra rb
  cases e
  exact zjx π s σ H _ _ v u Q I rx ry ⟨i,j,rfl,rfl,q _ H φ .rfl rs (by erw[yd])⟩
 .cases e
def zqE:OpR X (compareOp .LtE) (rT2 S X (ye .le)):=by
 rintro π s σ H x y v u Q I rx ry ⟨B,φ,st,a,b,z,rs,ra,rb,e,q⟩
 erw[ye]at e;split at e
 .rename_i i j;erw[yd]at ra rb;subst ra rb
  cases e
  exact zqA π s σ H _ _ v u Q I rx ry ⟨i,j,rfl,rfl,q _ H φ .rfl rs (by erw[yd])⟩
 .rename_i i j;erw[yd]at ra rb;subst ra rb
  cases e
  exact zjg π s σ H _ _ v u Q I rx ry ⟨i,j,rfl,rfl,q _ H φ .rfl rs (by erw[yd])⟩
 .cases e
def zg9{o:COp}{g:Int->Int->Bool}(ho:∀v w,ye o v w=match v,w with
   |.int i,.int j=>ybS o i j
   |.str a,.str b=>yeS o a b
   |_,_=>AD) (hs:∀a b,yeS o a b=AD) (hg:∀i j,ybS o i j=AA (.bl (g i j))) (v w z:PV) (h:ye o v w=AA z):∃i j,v=.int i/\w=.int j/\z=.bl (g i j):=by
 rw[ho]at h;split at h
 .rename_i i j;rw[hg]at h;exact⟨i,j,rfl,rfl,(A8 h).symm⟩
 .rw[hs]at h;cases h
 .cases h
def zqC:OpR X (compareOp .Gt) (rT2 S X (ye .gt)):=zjO zqy (zg9 (λ_ _=>rfl) (λ_ _=>rfl) λ_ _=>rfl)
def zqL:OpR X (compareOp .GtE) (rT2 S X (ye .ge)):=zjO zqG (zg9 (λ_ _=>rfl) (λ_ _=>rfl) λ_ _=>rfl)
theorem yd.isNon{K:AG}{cl:Nat->AJ}{v:PV}{x:V}(r:yd K cl B φ H v x):decide (x=.non)=IC.isNon v:=by
 cases v with
 |loc n=>erw[yd]at r;let⟨_,a,rfl,_⟩:=r;rfl
 |non=>erw[yd]at r;subst r;rfl
 |bl b=>erw[yd]at r;subst r;rfl
 |int b=>erw[yd]at r;subst r;rfl
 |str b=>erw[yd]at r;subst r;rfl
 |tp k vs=>erw[yd]at r;let⟨a,xs,rfl,_⟩:=r;rfl
 |lst vs=>erw[yd]at r;let⟨a,xs,rfl,_⟩:=r;rfl
 |fnc j=>erw[yd]at r;subst r;rfl
 |exn vs=>erw[yd]at r;let⟨a,rfl,_⟩:=r;rfl
 |scr vs=>erw[yd]at r;let⟨a,xs,rfl,_⟩:=r;rfl
def zkT{M:HR}{A:BC}{E:AH->AK->Prop}{s:AK}{a b:Bool}{Q:AH->AK->Prop}(h:Q (.bool (a==b)) s):Al M A (compareOp .Is (.bool a) (.bool b)) Q E s:=by
 have e:(Cj a==Cj b)=(a==b):=by cases a<;>cases b<;>rfl
 rw[<-e]at h;exact Ag h
def zqB:OpR X (compareOp .Is) (rT2 S X (ye .is)):=by
 rintro π s σ H x y v u Q I rx ry ⟨B,φ,st,a,b,z,rs,ra,rb,e,q⟩
 erw[ye]at e;split at e
 .cases e
  erw[yd]at rb;exact zpg π s σ H _ _ v u Q I rx ry ⟨rb,q _ H φ .rfl rs (by erw[yd];rw[ra.isNon])⟩
 .rename_i k;split at e
  .rename_i j
   cases e
   erw[yd]at ra rb;subst ra rb
   cases (show v=Cj j from rx)
   cases (show u=Cj k from ry)
   exact zkT (zdr I (q _ H φ .rfl rs (by erw[yd])) rfl)
  .cases e
 .cases e
theorem yd.flat{K:AG}{cl:Nat->AJ}{v:PV}{x:V}(r:yd K cl B φ H v x)(h:IC.flat v=AB):yaG x=AB/\∀(w:PV) (y:V),IC.flat w=AB->yd K cl B φ H w y->eqV x y=peq v w:=by
 cases v with
 |non=>
  erw[yd]at r;subst r;refine⟨rfl,λw y hw rw=>?_⟩
  cases w<;>first|(simp[IC.flat]at hw;done)|(erw[yd]at rw;subst rw;simp[eqV,peq,bi])
 |bl b=>
  erw[yd]at r;subst r;refine⟨rfl,λw y hw rw=>?_⟩
  cases w<;>first|(simp[IC.flat]at hw;done)|(erw[yd]at rw;subst rw;simp[eqV,peq,bi])
 |int b=>
  erw[yd]at r;subst r;refine⟨rfl,λw y hw rw=>?_⟩
  cases w<;>first|(simp[IC.flat]at hw;done)|(erw[yd]at rw;subst rw;simp[eqV,peq,bi])
 |str b=>
  erw[yd]at r;subst r;refine⟨rfl,λw y hw rw=>?_⟩
  cases w<;>first|(simp[IC.flat]at hw;done)|(erw[yd]at rw;subst rw;simp[eqV,peq,bi])
 |_=>simp[IC.flat]at h
def zah{K:AG}{cl:Nat->AJ}{v:PV}{x:V}(r:yd K cl B φ H v x)(h:IC.flat v=AB):∀{vs:List PV} {xs:List V},yh K cl B φ H vs xs->vs.all IC.flat=AB->xs.all yaG=AB/\inV x xs=inL v vs
 |[],xs,l,_=>by erw[yh]at l;subst l;exact⟨rfl,rfl⟩
 |w::vs,xs,l,f=>by
  erw[yh]at l;let⟨y,ys,rfl,rw,l⟩:=l;rw[B0,AI]at f;let⟨q1,q2⟩:=zah r h l f.2;let⟨q3,q4⟩:=rw.flat f.1;refine⟨by rw[B0,q3,q1];rfl,?_⟩;unfold inV at q2 ⊢;rw[BV,q2,q4 v x h r];rfl
end
def zir(a b:A4):(!(DF b a 0 b.length 1).isEmpty)=inS a b:=by
 rw[DE,StrLaws.found_iff];unfold inS;rw[DZ];constructor
 .rintro⟨i,h1,h2⟩
  exact⟨i,by rw[Ga];lia,by rw[AI,decide_eq_true_eq];exact⟨h1,h2⟩⟩
 .rintro⟨i,_,h⟩
  rw[AI,decide_eq_true_eq]at h;exact⟨i,h.1,h.2⟩
section
variable {S:Se}{X:Cx}{σ:St}{B:AJ->Prop}{φ φ1:Ph}{H H1:Hp}{st:SO}
def zqr:OpR X (compareOp .In) (rT2 S X (ye .isin)):=by
 rintro π s σ H x y v u Q I rx ry ⟨B,φ,st,a,b,z,rs,ra,rb,e,q⟩
 erw[ye]at e;split at e
 .rename_i i j;erw[yd]at ra rb;subst ra rb
  cases e
  exact zjv π s σ H _ _ v u Q I rx ry ⟨i,j,rfl,rfl,by rw[zir];exact q _ H φ .rfl rs (by erw[yd])⟩
 .rename_i l;split at e
  .rename_i c;rw[AI]at c
   cases e
   erw[yd]at rb;let⟨p,xs,rfl,r,l'⟩:=rb;let⟨q1,q2⟩:=zah ra c.1 l' c.2;exact ze6 π s σ H _ _ v u Q I rx ry ⟨p,xs,rfl,.inr r.sq,(ra.flat c.1).1,q1,q _ H φ .rfl rs (by erw[yd];rw[<-q2];rfl)⟩
  .cases e
 .rename_i l;split at e
  .rename_i c;rw[AI]at c
   cases e
   erw[yd]at rb;let⟨p,xs,rfl,r,l'⟩:=rb;let⟨q1,q2⟩:=zah ra c.1 l' c.2;exact ze6 π s σ H _ _ v u Q I rx ry ⟨p,xs,rfl,.inl r.sq,(ra.flat c.1).1,q1,q _ H φ .rfl rs (by erw[yd];rw[<-q2];rfl)⟩
  .cases e
 .cases e
def zk1:OpR X (compareOp .NotIn) (rT2 S X (ye .notin)):=by
 rintro π s σ H x y v u Q I rx ry ⟨B,φ,st,a,b,z,rs,ra,rb,e,q⟩
 erw[ye]at e;split at e
 .rename_i i j;erw[yd]at ra rb;subst ra rb
  cases e
  exact zeK π s σ H _ _ v u Q I rx ry ⟨i,j,rfl,rfl,by rw[zir];exact q _ H φ .rfl rs (by erw[yd])⟩
 .rename_i l;split at e
  .rename_i c;rw[AI]at c
   cases e
   erw[yd]at rb;let⟨p,xs,rfl,r,l'⟩:=rb;let⟨q1,q2⟩:=zah ra c.1 l' c.2;exact zbZ π s σ H _ _ v u Q I rx ry ⟨p,xs,rfl,.inr r.sq,(ra.flat c.1).1,q1,q _ H φ .rfl rs (by erw[yd];rw[<-q2];rfl)⟩
  .cases e
 .rename_i l;split at e
  .rename_i c;rw[AI]at c
   cases e
   erw[yd]at rb;let⟨p,xs,rfl,r,l'⟩:=rb;let⟨q1,q2⟩:=zah ra c.1 l' c.2;exact zbZ π s σ H _ _ v u Q I rx ry ⟨p,xs,rfl,.inl r.sq,(ra.flat c.1).1,q1,q _ H φ .rfl rs (by erw[yd];rw[<-q2];rfl)⟩
  .cases e
 .cases e
theorem yh.empty{K:AG}{cl:Nat->AJ}{vs:List PV}{xs:List V}(l:yh K cl B φ H vs xs):vs.isEmpty=xs.isEmpty:=by
 have:=l.length
 cases vs<;>cases xs<;>simp_all
def zm9{K:AG}{cl:Nat->AJ}{v:PV}{x:V}{k:Bool}(rs:yE K cl B φ H st)(r:yd K cl B φ H v x)(h:yaR st v=AA k):yeO K x H k:=by
 cases v with
 |non=>erw[yd]at r;subst r;cases h;rfl
 |bl b=>erw[yd]at r;subst r;cases h;rfl
 |int b=>erw[yd]at r;subst r;cases h;rfl
 |str b=>
  erw[yd]at r;subst r;erw[yaR]at h;split at h
  .rename_i c
   cases h
   exact⟨by rw[<-zn];exact c,rfl⟩
  .cases h
 |tp k vs=>
  erw[yd]at r;let⟨a,xs,rfl,rt,l⟩:=r
  cases h
  exact .inr (.inl ⟨xs,rt.sq,by rw[l.empty]⟩)
 |lst vs=>
  erw[yd]at r;let⟨a,xs,rfl,rt,l⟩:=r
  cases h
  exact .inl ⟨xs,rt.sq,by rw[l.empty]⟩
 |loc n=>
  erw[yd]at r;let⟨hn,a,rfl,ha⟩:=r;erw[yaR]at h;split at h
  .rename_i vs hv
   cases h
   let⟨b,hb⟩:=rs.liv n _ hv (by intro z;cases z);obtain rfl:=ha b hb;let⟨o,ho,ro⟩:=rs.obj n b hb;rw[hv]at ho;cases ho;let⟨xs,hx,l⟩:=ro;exact .inl ⟨xs,.of hx,by rw[l.empty]⟩
  .cases h
 |fnc c=>cases h
 |exn c=>cases h
 |scr c=>cases h
end
theorem R.bind_assoc{α β γ:Type}{r:R α}{k:α->SO->R β}{l:β->SO->R γ}:(r.bind k).bind l=r.bind λa s=>(k a s).bind l:=by
 cases r<;>rfl
section
variable {S:Se}{X:Cx}{σ:St}{B:AJ->Prop}{φ φ1:Ph}{H H1:Hp}{st:SO}{ρ:IC.Env}{pos:CW}{a b c d:AZ}{ca cb cc:Ce}{es:List AZ}{ces:Ces}
def zdN{o:COp}{v w z:PV}(h:ye o v w=AA z):∃k,z=.bl k:=by
 cases o<;>erw[ye]at h
 all_goals (repeat' split at h)<;>first|(cases h;done)|(cases h;exact⟨_,rfl⟩)|skip
 all_goals (erw[ybS]at h;cases h;exact⟨_,rfl⟩)
def zos{op:Fc}{o:COp}(ho:OpR X (compareOp op) (rT2 S X (ye o)))(ha:PE X a (tE S X ca))(hb:PE X b (tE S X cb))(hm:behindInMarks op b=AC):PT X (.Compare a [op] [b] pos) (tTs S X (.cmp o ca cb)):=
 (znt ho ha hb hm).imp λσ H Q ⟨B,φ,st,ρ,rs,re,h⟩=>by
  erw[ev,ybb,R.bind_assoc]at h;refine tE.bind rs re h λx H1 v st1 φ1 s1 rs1 re1 rv h1=>tE.bind rs1 re1 h1 λy H2 w st2 φ2 s2 rs2 re2 rw h2=>?_
  cases e:ye o v w with
  |none=>rw[e]at h2;exact h2.elim
  |some z=>
   let⟨k,rfl⟩:=zdN e;rw[e]at h2;refine⟨B,φ2,st2,v,w,.bl k,rs2,rv.step s2,rw,e,λz' H' φ' s' rs' rz=>?_⟩;erw[yd]at rz;exact⟨k,rz,h2 k H' φ' s' rs' rfl⟩
def zpm(ha:PE X a (tE S X ca))(he:∀whole,isTrue a X.env whole=(do let v <-whole;standAt a.pos;holding [v] (truthy v)):=by intro _;rfl):PT X a (tTs S X ca):=
 (zkJ ha he).imp λσ H Q ⟨B,φ,st,ρ,rs,re,h⟩=>by
  erw[ybb]at h;refine tE.bind rs re h λx H1 v st1 φ1 s1 rs1 re1 rv h1=>?_
  cases e:yaR st1 v with
  |none=>rw[e]at h1;exact h1.elim
  |some k=>
   rw[e]at h1;exact⟨k,zm9 rs1 rv e,h1.ok rs1 rfl⟩
theorem tTs.bind{γ δ:Type}{HG:Ph->Hp->γ->δ->Prop}{k:Bool->SO->R γ}{Q:δ->Hp->Prop}{P:Bool->Hp->Prop}(rs:yE X.K S.cl B φ H st)(re:yN X.K S.cl B φ H ρ σ)(h:Run S X σ B φ H HG ((ybb (ev S.call ρ st ca)).bind k) Q)
  (n:∀b H1 st1 φ1,Step φ H φ1 H1->yE X.K S.cl B φ1 H1 st1->yN X.K S.cl B φ1 H1 ρ σ->Run S X σ B φ1 H1 HG (k b st1) Q->P b H1):tTs S X ca σ H P:=
 ⟨B,φ,st,ρ,rs,re,(Run.bind h).mono λx H1 ⟨v,st1,φ1,s,rs1,rv,h1⟩=>by
  subst rv;exact n v H1 st1 φ1 s rs1 (re.step s) h1⟩
def zgi(r:R PV)(f:Bool->SO->R PV):ybb (r.bind λx st1=>onBl x λb=>f b st1)=r.bind λx st1=>onBl x λb=>ybb (f b st1):=by
 unfold ybb;rw[R.bind_assoc]
 congr 1
 funext x st1
 cases x<;>rfl
theorem Run.bl_tru{r:R PV}{k:Bool->SO->R Bool}{Q:Bool->Hp->Prop}(h:Run S X σ B φ H RB (r.bind λx st1=>onBl x λb=>k b st1) Q):Run S X σ B φ H RB ((ybb r).bind k) Q:=by
 cases r with
 |bad=>exact h
 |exc c s=>exact h
 |ok v s=>
  cases v with
  |bl b=>exact h
  |_=>exact h.elim
def zpY(ha:PT X a (tTs S X ca)):PT X (.UnaryOp .Not a pos) (tTs S X (.not ca)):=
 (zpk ha).imp λσ H Q ⟨B,φ,st,ρ,rs,re,h⟩=>by
  erw[ev]at h;rw[zgi _ λk st1=>.ok (.bl (!k)) st1]at h;exact tTs.bind rs re (Run.bl_tru (k:=λb st1=>.ok (!b) st1) h) λb H1 st1 φ1 s1 rs1 re1 h1=>h1.ok rs1 rfl
variable {rest:List AZ}
def znk(ha:PT X a (tTs S X ca)):PW X (.BoolOp .And [a] pos) (tTs S X ca):=znP ha
def zpP(ha:PT X a (tTs S X ca)):PW X (.BoolOp .Or [a] pos) (tTs S X ca):=zoM ha
def zqf(ha:PT X a (tTs S X ca))(hb:PW X (.BoolOp .And (b::rest) pos) (tTs S X cb)):PW X (.BoolOp .And (a::b::rest) pos) (tTs S X (.and ca cb)):=
 (zpx ha hb).imp λσ H Q ⟨B,φ,st,ρ,rs,re,h⟩=>by
  erw[ev]at h;rw[zgi _ λk st1=>cond k (ev S.call ρ st1 cb) (.ok (.bl AC) st1)]at h;refine tTs.bind rs re (Run.bl_tru h) λk H1 st1 φ1 s1 rs1 re1 h1=>?_
  cases k with
  |false=>exact h1.ok rs1 rfl
  |true=>exact⟨B,φ1,st1,ρ,rs1,re1,h1⟩
def zqX(ha:PT X a (tTs S X ca))(hb:PW X (.BoolOp .Or (b::rest) pos) (tTs S X cb)):PW X (.BoolOp .Or (a::b::rest) pos) (tTs S X (.or ca cb)):=
 (zqz ha hb).imp λσ H Q ⟨B,φ,st,ρ,rs,re,h⟩=>by
  erw[ev]at h;rw[zgi _ λk st1=>cond k (.ok (.bl AB) st1) (ev S.call ρ st1 cb)]at h;refine tTs.bind rs re (Run.bl_tru h) λk H1 st1 φ1 s1 rs1 re1 h1=>?_
  cases k with
  |true=>exact h1.ok rs1 rfl
  |false=>exact⟨B,φ1,st1,ρ,rs1,re1,h1⟩
def zlV{op:HI}(h:PE X a (tE S X ca)):PE X (.BoolOp op [a] pos) (tE S X ca):=zou h
def zmb(ha:PE X a (tE S X ca))(hb:PE X (.BoolOp .And (b::rest) pos) (tE S X cb)):PE X (.BoolOp .And (a::b::rest) pos) (tE S X (.and ca cb)):=
 (zpK ha hb).imp λσ H Q ⟨B,φ,st,ρ,rs,re,h⟩=>by
  erw[ev]at h;refine tE.bind rs re h λx H1 v st1 φ1 s1 rs1 re1 rv h1=>?_
  cases v with
  |bl k=>
   erw[yd]at rv;refine⟨k,rv,?_⟩
   cases k with
   |true=>exact⟨B,φ1,st1,ρ,rs1,re1,h1⟩
   |false=>exact h1.ok rs1 (by erw[yd])
  |_=>exact h1.elim
def zn3(ha:PE X a (tE S X ca))(hb:PE X (.BoolOp .Or (b::rest) pos) (tE S X cb)):PE X (.BoolOp .Or (a::b::rest) pos) (tE S X (.or ca cb)):=
 (zqI ha hb).imp λσ H Q ⟨B,φ,st,ρ,rs,re,h⟩=>by
  erw[ev]at h;refine tE.bind rs re h λx H1 v st1 φ1 s1 rs1 re1 rv h1=>?_
  cases v with
  |bl k=>
   erw[yd]at rv;refine⟨k,rv,?_⟩
   cases k with
   |false=>exact⟨B,φ1,st1,ρ,rs1,re1,h1⟩
   |true=>exact h1.ok rs1 (by erw[yd])
  |_=>exact h1.elim
def zpy(ha:PE X a (tE S X ca)):PE X (.UnaryOp .Not a pos) (tE S X (.not ca)):=
 (zpC ha).imp λσ H Q ⟨B,φ,st,ρ,rs,re,h⟩=>by
  erw[ev]at h;refine tE.bind rs re h λx H1 v st1 φ1 s1 rs1 re1 rv h1=>?_
  cases v with
  |bl k=>
   erw[yd]at rv;exact⟨k,rv,h1.ok rs1 (by erw[yd])⟩
  |_=>exact h1.elim
def zmc(ha:PE X a (tE S X ca)):PE X (.UnaryOp .USub a pos) (tE S X (.neg ca)):=
 (zoc zlH ha).imp λσ H Q ⟨B,φ,st,ρ,rs,re,h⟩=>by
  erw[ev]at h;refine tE.bind rs re h λx H1 v st1 φ1 s1 rs1 re1 rv h1=>?_;split at h1
  .simp only[yd]at rv;exact⟨_,rv,h1.ok rs1 (by erw[yd])⟩
  .exact h1.elim
def zoR(hc:PT X c (tTs S X cc))(ha:PE X a (tE S X ca))(hb:PE X b (tE S X cb)):PE X (.IfExp c a b pos) (tE S X (.ite cc ca cb)):=
 (zke hc ha hb).imp λσ H Q ⟨B,φ,st,ρ,rs,re,h⟩=>by
  erw[ev]at h;have e:((ev S.call ρ st cc).bind λx st1=>onO (yaR st1 x) λk=>cond k (ev S.call ρ st1 ca) (ev S.call ρ st1 cb))=(ybb (ev S.call ρ st cc)).bind λk st1=>cond k (ev S.call ρ st1 ca) (ev S.call ρ st1 cb):=by
   unfold ybb;rw[R.bind_assoc]
   congr 1
   funext x st1
   cases yaR st1 x<;>rfl
  rw[e]at h;refine tTs.bind rs re h λk H1 st1 φ1 s1 rs1 re1 h1=>?_
  cases k with
  |true=>exact⟨B,φ1,st1,ρ,rs1,re1,h1⟩
  |false=>exact⟨B,φ1,st1,ρ,rs1,re1,h1⟩
def zb2:PA X [] (tAs S X .nil):=zgY.imp λσ H Q ⟨B,φ,st,ρ,rs,re,h⟩=>by
 erw[evs]at h;exact h.ok rs (by erw[yh])
def zaj(ha:PE X a (tE S X ca))(hr:PA X es (tAs S X ces))(hs:starEach (a::es) X.env=(AC,eval a X.env)::starEach es X.env:=by rfl):PA X (a::es) (tAs S X (.cons ca ces)):=
 (zaO ha hr hs).imp λσ H Q ⟨B,φ,st,ρ,rs,re,h⟩=>by
  erw[evs]at h;refine tE.bind rs re h λx H1 v st1 φ1 s1 rs1 re1 rv h1=>tAs.bind rs1 re1 h1 λxs H2 vs st2 φ2 s2 rs2 re2 rvs h2=>?_;refine h2.ok rs2 ?_;erw[yh];exact⟨x,xs,rfl,rv.step s2,rvs⟩
def zqc{k:Nat}(h:PA X es (tAs S X ces)):PE X (.Tuple es k pos) (tE S X (.tup ces)):=
 (zov h).imp λσ H Q ⟨B,φ,st,ρ,rs,re,h⟩=>by
  erw[ev]at h;refine tAs.bind rs re h λxs H1 vs st1 φ1 s1 rs1 re1 rv h1=>?_;split at h1
  .rename_i c;refine⟨by rw[<-zn,<-rv.length];exact c,λp hp=>h1 _ _ φ1 (.upd hp) (rs1.upd hp) (.tup_new hp rs1 rv)⟩
  .exact h1.elim
def zqd(h:PA X es (tAs S X ces)):PE X (.List es pos) (tE S X (.lst ces)):=
 (zlE h).imp λσ H Q ⟨B,φ,st,ρ,rs,re,h⟩=>by
  erw[ev]at h;refine tAs.bind rs re h λxs H1 vs st1 φ1 s1 rs1 re1 rv h1=>?_;split at h1
  .rename_i c;refine⟨by rw[<-zn,<-rv.length];exact c,λp hp=>h1 _ _ φ1 (.upd hp) (rs1.upd hp) (.lst_new hp rs1 rv)⟩
  .exact h1.elim
theorem Step.push{p:AJ}{o:HO}(hp:H p=AD):Step φ H (φ++[AA p]) (L2.upd H p o):=by
 refine⟨λb u n e=>by rw[ze (zg e hp)];exact e,by simp,λn a hn e=>?_,λb h=>?_⟩
 .rw[Ay hn]at e;exact e
 .rw[DC]at h;rcases h with h|h
  .exact .inl h
  .have:b=p:=by simpa using h
   subst this;exact .inr hp
theorem yE.push{K:AG}{cl:Nat->AJ}{p:AJ}{u:HO}{o:Ob}(rs:yE K cl B φ H st)(hp:H p=AD)(hb:¬B p)(ho:ycf K cl B (φ++[AA p]) (L2.upd H p u) o p):yE K cl B (φ++[AA p]) (L2.upd H p u) (st++[o]):=by
 have s:Step φ H (φ++[AA p]) (L2.upd H p u):=.push hp;have np:AA p∉φ:=λz=>by
  let⟨w,e⟩:=rs.there z;rw[hp]at e;cases e
 have hl:φ.length=st.length:=rs.len;refine⟨by simp[hl],λm n a e1 e2=>?_,λn a e=>?_,λn o' e ho'=>?_,λa h=>?_,λa h=>?_⟩
 .by_cases hm:m<φ.length
  .rw[Ay hm]at e1
   by_cases hn:n<φ.length
   .rw[Ay hn]at e2;exact rs.inj m n a e1 e2
   .rw[BE ∅]at e2;have:a=p:=by
     cases q:n-φ.length with
     |zero=>rw[q]at e2;simpa using e2.symm
     |succ k=>rw[q]at e2;simp at e2
    subst this;exact absurd (A3 e1) np
  .rw[BE ∅]at e1;have:m-φ.length=0/\a=p:=by
    cases q:m-φ.length with
    |zero=>rw[q]at e1;exact⟨rfl,by simpa using e1.symm⟩
    |succ k=>rw[q]at e1;simp at e1
   let⟨q1,rfl⟩:=this
   by_cases hn:n<φ.length
   .rw[Ay hn]at e2;exact absurd (A3 e2) np
   .rw[BE ∅]at e2;have:n-φ.length=0:=by
     cases q:n-φ.length with
     |zero=>rfl
     |succ k=>rw[q]at e2;simp at e2
    lia
 .by_cases hn:n<φ.length
  .rw[Ay hn]at e;let⟨o',q,r⟩:=rs.obj n a e;refine⟨o',by rw[Ay ∅];exact q,r.step s ?_⟩;rw[ze]
   rintro rfl
   exact np (A3 e)
  .rw[BE ∅]at e;have:n-φ.length=0/\a=p:=by
    cases q:n-φ.length with
    |zero=>rw[q]at e;exact⟨rfl,by simpa using e.symm⟩
    |succ k=>rw[q]at e;simp at e
   let⟨q1,rfl⟩:=this;refine⟨o,?_,ho⟩;rw[BE ∅];have:n-st.length=0:=by lia
   rw[this];rfl
 .by_cases hn:n<φ.length
  .rw[Ay ∅]at e;let⟨a,q⟩:=rs.liv n o' e ho';exact⟨a,by rw[Ay hn];exact q⟩
  .rw[BE ∅]at e;have:n-st.length=0:=by
    cases q:n-st.length with
    |zero=>rfl
    |succ k=>rw[q]at e;simp at e
   refine⟨p,?_⟩;rw[BE ∅];have:n-φ.length=0:=by lia
   rw[this];rfl
 .rw[DC]at h;rcases h with h|h
  .exact rs.nb a h
  .have:a=p:=by simpa using h
   subst this;exact hb
 .let⟨w,e⟩:=rs.dom a h;exact⟨w,by rw[ze (zg e hp)];exact e⟩
theorem yE.nB{K:AG}{cl:Nat->AJ}{p:AJ}(rs:yE K cl B φ H st)(hp:H p=AD):¬B p:=λz=>by
 let⟨o,e⟩:=rs.dom p z;rw[hp]at e;cases e
theorem yd.loc_new{K:AG}{cl:Nat->AJ}{p:AJ}(rs:yE K cl B φ H st):yd K cl B (φ++[AA p]) H1 (.loc st.length) (.ref p):=by
 erw[yd];have hl:=rs.len;refine⟨by simp[hl],p,rfl,λb e=>?_⟩;rw[BE ∅]at e;have:st.length-φ.length=0:=by lia
 rw[this]at e;simpa using e.symm
def zmY(h:PA X es (tAs S X ces)):PE X (.List es pos) (tE S X (.newl ces)):=
 (zlE h).imp λσ H Q ⟨B,φ,st,ρ,rs,re,h⟩=>by
  erw[ev]at h;refine tAs.bind rs re h λxs H1 vs st1 φ1 s1 rs1 re1 rv h1=>?_;split at h1
  .rename_i c;refine⟨by rw[<-zn,<-rv.length];exact c,λp hp=>h1 _ _ (φ1++[AA p]) (.push hp) (rs1.push hp (rs1.nB hp) ⟨xs,zf,rv.step (.push hp)⟩) (.loc_new rs1)⟩
  .exact h1.elim
end
section
variable {S:Se}{X:Cx}{σ:St}{B:AJ->Prop}{φ φ1:Ph}{H H1:Hp}{st:SO}{ρ:IC.Env}{pos p2:CW}{a b c d:AZ}{ca cb cc:Ce}{es:List AZ}{ces:Ces}{K:AG}{cl:Nat->AJ}
def ziz{o:COp}{v w:PV}{α β:Type}{Rel:Ph->Hp->α->β->Prop}{k:Bool->R α}{Q:β->Hp->Prop}(h:Run S X σ B φ H Rel (onO (blO (ye o v w)) k) Q):∃b,ye o v w=AA (.bl b)/\Run S X σ B φ H Rel (k b) Q:=by
 cases e:ye o v w with
 |none=>rw[e]at h;exact h.elim
 |some z=>
  let⟨b,rfl⟩:=zdN e;rw[e]at h;exact⟨b,rfl,h⟩
def zkZ{op op':Fc}{o p:COp}(ho:OpR X (compareOp op) (rT2 S X (ye o)))(ho':OpR X (compareOp op') (rT2 S X (ye p)))(ha:PE X a (tE S X ca))(hb:PE X b (tE S X cb))(hc:PE X c (tE S X cc))
  (hm:lastMarks [op,op'] [b,c]=false:=by ac_rfl):PE X (.Compare a [op,op'] [b,c] pos) (tE S X (.chain o p ca cb cc)):=
 (zj0 ho ho' ha hb hc hm).imp λσ H Q ⟨B,φ,st,ρ,rs,re,h⟩=>by
  erw[ev]at h;refine tE.bind rs re h λx H1 v st1 φ1 s1 rs1 re1 rv h1=>tE.bind rs1 re1 h1 λy H2 w st2 φ2 s2 rs2 re2 rw h2=>?_;let⟨k,e,h2⟩:=ziz h2;refine⟨B,φ2,st2,v,w,.bl k,rs2,rv.step s2,rw,e,λz' H' φ' s' rs' rz=>?_⟩;erw[yd]at rz;refine⟨k,rz,?_⟩
  cases k with
  |false=>exact h2 _ H' φ' s' rs' (by erw[yd])
  |true=>
   refine tE.bind rs' (re2.step s') (Run.on s' h2) λz H3 v3 st3 φ3 s3 rs3 re3 rv3 h3=>?_;let⟨q,eq,hq⟩:=zak h3 rs3;exact⟨B,φ3,st3,w,v3,q,rs3,(rw.step s').step s3,rv3,eq,hq⟩
def zkl{op op':Fc}{o p:COp}(ho:OpR X (compareOp op) (rT2 S X (ye o)))(ho':OpR X (compareOp op') (rT2 S X (ye p)))(ha:PE X a (tE S X ca))(hb:PE X b (tE S X cb))(hc:PE X c (tE S X cc))
  (hm:lastMarks [op,op'] [b,c]=false:=by ac_rfl):PT X (.Compare a [op,op'] [b,c] pos) (tTs S X (.chain o p ca cb cc)):=
 (zk8 ho ho' ha hb hc hm).imp λσ H Q ⟨B,φ,st,ρ,rs,re,h⟩=>by
  erw[ev,ybb,R.bind_assoc]at h;refine tE.bind rs re h λx H1 v st1 φ1 s1 rs1 re1 rv h1=>tE.bind rs1 re1 h1 λy H2 w st2 φ2 s2 rs2 re2 rw h2=>?_;have h2':Run S X σ B φ2 H2 RB (onO (blO (ye o v w)) λk=>cond k ((ev S.call ρ st2 cc).bind λz st3=>(toR (ye p w z) st3).bind λx st=>onO (yaR st x) λb=>.ok b st) (.ok AC st2)) Q:=by
   cases e:ye o v w with
   |none=>rw[e]at h2;exact h2
   |some z=>
    let⟨b,rfl⟩:=zdN e;rw[e]at h2
    cases b with
    |false=>exact h2
    |true=>
     erw[blO,onO,cond_true,R.bind_assoc]at h2 ⊢;exact h2
  let⟨k,e,h2⟩:=ziz h2';refine⟨B,φ2,st2,v,w,.bl k,rs2,rv.step s2,rw,e,λz' H' φ' s' rs' rz=>?_⟩;erw[yd]at rz;refine⟨k,rz,?_⟩
  cases k with
  |false=>exact⟨AC,rfl,h2 _ H' φ' s' rs' rfl⟩
  |true=>
   refine tE.bind rs' (re2.step s') (Run.on s' h2) λz H3 v3 st3 φ3 s3 rs3 re3 rv3 h3=>?_
   cases eq:ye p w v3 with
   |none=>rw[eq]at h3;exact h3.elim
   |some q=>
    let⟨b,rfl⟩:=zdN eq;rw[eq]at h3;refine⟨B,φ3,st3,w,v3,.bl b,rs3,(rw.step s').step s3,rv3,eq,λz2 H4 φ4 s4 rs4 rz4=>?_⟩;erw[yd]at rz4;exact⟨b,rz4,h3 b H4 φ4 s4 rs4 rfl⟩
theorem yh.at{vs:List PV}{xs:List V}{i:Int}{v:PV}(l:yh K cl B φ H vs xs)(h:at? vs i=AA v):∃x,atI xs i=AA x/\yd K cl B φ H v x:=by
 unfold at? at h;rw[l.length]at h;unfold atI
 cases e:ixI xs.length i with
 |none=>rw[e]at h;cases h
 |some j=>
  rw[e]at h;have e':ixN xs.length i=AA j:=e;rw[e'];exact l.get j h
theorem yE.list{n:Nat}{vs:List PV}{x:V}(rs:yE K cl B φ H st)(r:yd K cl B φ H (.loc n) x)(h:st[n]?=AA (.lst vs)):∃a xs,x=.ref a/\φ[n]?=AA (AA a)/\H a=AA (.lst xs)/\yh K cl B φ H vs xs:=by
 erw[yd]at r;let⟨hn,a,rfl,ha⟩:=r;let⟨b,hb⟩:=rs.liv n _ h (by intro z;cases z);obtain rfl:=ha b hb;let⟨o,ho,ro⟩:=rs.obj n b hb;rw[h]at ho;cases ho;let⟨xs,hx,l⟩:=ro;exact⟨b,xs,rfl,hb,hx,l⟩
def rTS(S:Se)(X:Cx)(f:SO->PV->PV->Option PV):R2:=λx y H Q=>∃B φ st v w z,yE X.K S.cl B φ H st/\yd X.K S.cl B φ H v x/\yd X.K S.cl B φ H w y/\f st v w=AA z /\
 ∀z' H' φ',Step φ H φ' H'->yE X.K S.cl B φ' H' st->yd X.K S.cl B φ' H' z z'->Q z' H'
def zcq{α:Type}{xs:List α}{i:PV}{z:α}(h:ya7 xs i=AA z):∃k,i=.int k/\at? xs k=AA z:=by
 cases i with
 |int k=>exact⟨k,rfl,h⟩
 |_=>cases h
def zmz:IxR X (rTS S X idxV):=by
 rintro value slice π s σ H x y v u Q I rx ry ⟨B,φ,st,a,i,z,rs,ra,ri,e,q⟩ hs
 cases a with
 |tp k vs=>
  let⟨k,rfl,e⟩:=zcq e;erw[yd]at ra ri;subst ri;let⟨p,xs,rfl,rt,l⟩:=ra;let⟨w,e1,rw⟩:=l.at e;exact zgQ value slice π s σ H _ _ v u Q I rx ry (.inr (.inl ⟨p,xs,k,w,rfl,rfl,rt.sq,e1,q w H φ .rfl rs rw⟩)) hs
 |lst vs=>
  let⟨k,rfl,e⟩:=zcq e;erw[yd]at ra ri;subst ri;let⟨p,xs,rfl,rt,l⟩:=ra;let⟨w,e1,rw⟩:=l.at e;exact zgQ value slice π s σ H _ _ v u Q I rx ry (.inl ⟨p,xs,k,w,rfl,rfl,rt.sq,e1,q w H φ .rfl rs rw⟩) hs
 |loc n=>
  erw[idxV]at e;split at e
  .rename_i vs h1;let⟨k,rfl,e⟩:=zcq e;erw[yd]at ri;subst ri;let⟨p,xs,rfl,_,hx,l⟩:=rs.list ra h1;let⟨w,e1,rw⟩:=l.at e;exact zgQ value slice π s σ H _ _ v u Q I rx ry (.inl ⟨p,xs,k,w,rfl,rfl,.of hx,e1,q w H φ .rfl rs rw⟩) hs
  .cases e
 |str t=>
  erw[idxV]at e;split at e
  .rename_i hl
   cases e1:ya7 t.cps.toList i with
   |none=>rw[e1]at e;cases e
   |some c=>
    rw[e1]at e
    cases e
    let⟨k,rfl,e1⟩:=zcq e1;erw[yd]at ra ri;subst ra ri;exact zgQ value slice π s σ H _ _ v u Q I rx ry (.inr (.inr ⟨t,k,c,rfl,rfl,by rw[<-zn];exact hl,e1,q _ H φ .rfl rs (by erw[yd])⟩)) hs
  .cases e
 |_=>cases e
def zo6(ha:PE X a (tE S X ca))(hb:PE X b (tE S X cb))(hs:ybB b:=by exact λ_ _=>rfl):PE X (.Subscript a b pos) (tE S X (.idx ca cb)):=
 (zqo zmz ha hb hs).imp λσ H Q ⟨B,φ,st,ρ,rs,re,h⟩=>by
  erw[ev]at h;refine tE.bind rs re h λx H1 v st1 φ1 s1 rs1 re1 rv h1=>tE.bind rs1 re1 h1 λy H2 w st2 φ2 s2 rs2 re2 rw h2=>?_;let⟨z,e,q⟩:=zak h2 rs2;exact⟨B,φ2,st2,v,w,z,rs2,rv.step s2,rw,e,q⟩
theorem yh.cut{vs:List PV}{xs:List V}(lo hi:Option Int)(l:yh K cl B φ H vs xs):yh K cl B φ H (IC.cut vs lo hi) (ycB xs lo hi):=by
 have e1:∀n o,ycw n o=HT.sIx n 0 o:=λn o=>by cases o<;>rfl
 have e2:∀n o,ycY n o=HT.sIx n n o:=λn o=>by cases o<;>rfl
 unfold IC.cut ycB;rw[l.length,e1,e2];exact(l.drop _).take _
def tO(S:Se)(X:Cx)(c:Ce):TO:=λσ H Q=>tE S X c σ H λx H1=>(x=.non/\Q AD H1) \/ ∃i,x=.int i/\Q (AA i) H1
def zms:PO X AD (tO S X (.cst .non)):=λπ s σ H Q I h=>by
 refine znL π s σ H Q I ?_;let⟨B,φ,st,ρ,rs,re,h⟩:=h;erw[ev]at h;rcases h.ok rs (x:=V.non) (by erw[yd])with q|⟨i,z,_⟩
 .exact q.2
 .cases z
def zmV(ha:PE X a (tE S X ca)):PO X (AA a) (tO S X ca):=by
 intro π s σ H Q I hw;rw[evalPart_some];refine thn (ha π s σ H _ I hw) λu s1 kq=>?_;let⟨x,H1,I1,r1,q1⟩:=kq;rcases q1 with⟨rfl,q⟩|⟨i,rfl,q⟩
 .cases r1
  exact⟨AD,H1,I1,.none,q⟩
 .let⟨t,rfl⟩:=r1;exact⟨AA i,H1,I1,.int i t,q⟩
def rSl(S:Se)(X:Cx):V->Option Int->Option Int->Hp->VK->Prop:=λx lo hi H Q=>∃B φ st v z,yE X.K S.cl B φ H st/\yd X.K S.cl B φ H v x/\ycm v lo hi=AA z /\
 ∀z' H' φ',Step φ H φ' H'->yE X.K S.cl B φ' H' st->yd X.K S.cl B φ' H' z z'->Q z' H'
def zbc{prog:Af}{w:Aw}{A:BC}{E:AH->AK->Prop}{s:AK}{t sl:AJ}{items:Array AH}{vl vu:AH}{lo hi:Option Int}{Q:AH->AK->Prop}(ht:G9 s.heap t items)(hs:s.heap.IsSliceOf sl vl vu .none)(pl:En vl lo)(pu:En vu hi)
  (hw:HT.sIx items.size 0 lo=0/\HT.sIx items.size items.size hi=items.size)
  (h:Q (.ref t) s):Al (model prog w) A (getItem (.ref t) (.ref sl)) Q E s:=by
 let⟨os,hos,hcs,hds⟩:=id hs;have hTs:s.TypeIs (.ref sl) "slice":=⟨os,hos,hcs⟩;unfold getItem
 try with_reducible refine D7 ?_
 first|refine AO (Ag ?_)|skip
 refine AO (GI ht.typeIs ⋯ ?_);refine AO (C4 (name:=A2 "__getitem__") ht.typeIs BP
  (DY BP ht.typeIs F5 ?_ (Fu _ _)))
 show Al _ _ (EB (.ref t) >>= _) _ _ s;refine AO (F1 ht ?_);refine AO (GJ hTs ?_);rw[if_pos ⋯];refine AO (HT.sliceApplied_gen hs pl pu ?_);have hyes:(((HT.sIx items.size 0 lo:Nat):Int)==0&&(1:Int)==1&&(HT.sIx items.size items.size hi-HT.sIx items.size 0 lo)==items.size)=true:=by
  rw[hw.1,hw.2];simp
 show Al _ _ (if (((HT.sIx items.size 0 lo:Nat):Int)==0&&(1:Int)==1&&(HT.sIx items.size items.size hi-HT.sIx items.size 0 lo)==items.size)=AB then _ else _) _ _ s;rw[if_pos hyes];refine AO (AO (GJ ht.typeIs (Ag ?_)));rw[if_pos ⋯]
 first
  |exact AO (Ag (Ag ⟨_,rfl,Ag h⟩))
  |exact AO (Gc (Ag ⟨_,rfl,Ag h⟩))
  |(wp_step;wp_step;exact⟨_,rfl,Ag h⟩)
def yhl(K:AG):V->Option Int->Option Int->Hp->VK->Prop:=λx lo hi H Q=>∃a xs,x=.ref a/\SqT K H a xs /\
 (HT.sIx xs.length 0 lo=0/\HT.sIx xs.length xs.length hi=xs.length)/\Q (.ref a) H
def zkY:SlR X (yhl X.K):=by
 intro π s σ H x v vl vu lo hi sl Q I rx hs pl pu h;let⟨a,xs,rfl,hx,hw,q⟩:=h
 cases rx
 let⟨its,r,ht,hz⟩:=I.tuple hx;have hlen:its.toArray.size=xs.length:=by rw[AV];exact r.length.symm
 refine⟨"tuple",_,BP.lookup,ht.typeIs,?_⟩;exact zbc ht hs pl pu (by rw[hlen];exact hw) ⟨.ref a,H,I,rfl,q⟩
def yfR:V->Option Int->Option Int->Hp->VK->Prop:=λx lo hi H Q=>∃y:A4,x=.str y/\y.length<=sizeLine/\Q (.str ⟨((y.cps.toList.drop (HT.sIx y.cps.toList.length 0 lo)).take (HT.sIx y.cps.toList.length y.cps.toList.length hi-HT.sIx y.cps.toList.length 0 lo)).toArray⟩) H
def zq3(lo hi:Option Int)(n:Nat):Dr lo hi 1 n=sliceRange ((HT.sIx n 0 lo:Nat):Int) ((HT.sIx n n hi:Nat):Int) 1:=by
 unfold Dr;erw[show (1:Int) > 0 by decide,if_true]
 congr 1
 .cases lo with
  |none=>simp[HT.sIx]
  |some i=>
   erw[HT.sIx]
   by_cases h:i<0
   .simp only[h,if_true]<;>lia
   .simp only[h,if_false]<;>lia
 .cases hi with
  |none=>simp[HT.sIx]
  |some i=>
   erw[HT.sIx]
   by_cases h:i<0
   .simp only[h,if_true]<;>lia
   .simp only[h,if_false]<;>lia
def ziu(y:A4)(lo hi:Option Int):Txt.slice y lo hi=⟨((y.cps.toList.drop (HT.sIx y.cps.toList.length 0 lo)).take (HT.sIx y.cps.toList.length y.cps.toList.length hi-HT.sIx y.cps.toList.length 0 lo)).toArray⟩:=by
 have hn:y.length=y.cps.toList.length:=by simp[Gf]
 unfold Txt.slice;rw[zq3,hn,sliceRange_one];have ha:=HT.sIx_le y.cps.toList.length 0 (Cm _) lo;have hb:=HT.sIx_le y.cps.toList.length y.cps.toList.length (A0 _) hi;generalize HT.sIx y.cps.toList.length 0 lo=a,HT.sIx y.cps.toList.length y.cps.toList.length hi=b at *;split
 .rename_i c;erw[BN,List.length_range,AI,beq_iff_eq]at c;obtain⟨rfl,rfl⟩:a=0/\b=y.cps.toList.length:=by lia
  rw[List.drop_zero,GP,GY]
 .rw[pick_run]
def zmg:SlR X yfR:=by
 intro π s σ H x v vl vu lo hi sl Q I rx hs pl pu h;let⟨y,rfl,hz,q⟩:=h;let⟨t,rfl⟩:=rx;rw[<-ziu]at q;refine⟨"str",_,PySem.F.slot_str_getitem.lookup,Gg _ _ _,?_⟩;have go:∀l u:Option (Int×Hk),vl=partValue l->vu=partValue u->lo=l.map (·.1)->hi=u.map (·.1)->Al (model X.prog X.w) X.A (getItem (.str y t) (.ref sl)) (EP X π σ Q) X.xe s:=by
  rintro l u rfl rfl rfl rfl
  refine wpAny_getItem_str_slice (l:=l) (u:=u) (st:=AD) hs rfl ?_;exact post_val_or_str ⟨B5 (Txt.slice_le y _ _) hz,λt' k=>⟨.str _,H,I.tok k,⟨_,rfl⟩,q⟩⟩
 cases pl with
 |none=>
  cases pu with
  |none=>exact go AD AD rfl rfl rfl rfl
  |int j u=>exact go AD (AA (j,u)) rfl rfl rfl rfl
 |int i t1=>
  cases pu with
  |none=>exact go (AA (i,t1)) AD rfl rfl rfl rfl
  |int j u=>exact go (AA (i,t1)) (AA (j,u)) rfl rfl rfl rfl
def zmk:SlR X (rSl S X):=by
 rintro π s σ H x v vl vu lo hi sl Q I rx hs pl pu ⟨B,φ,st,w,z,rs,rw,e,q⟩
 have e1:∀n o,ycw n o=HT.sIx n 0 o:=λn o=>by cases o<;>rfl
 have e2:∀n o,ycY n o=HT.sIx n n o:=λn o=>by cases o<;>rfl
 cases w with
 |tp k vs=>
  erw[ycm]at e;split at e
  .rename_i c
   cases e
   have rw':=rw;erw[yd]at rw;let⟨p,xs,rfl,rt,l⟩:=rw;refine zkY π s σ H _ v vl vu lo hi sl Q I rx hs pl pu ⟨p,xs,rfl,rt.sq,?_,q _ H φ .rfl rs rw'⟩;rw[l.length,e1,e2]at c;exact c
  .rename_i c
   cases e
   erw[yd]at rw;let⟨p,xs,rfl,rt,l⟩:=rw;refine zoF π s σ H _ v vl vu lo hi sl Q I rx hs pl pu ⟨p,xs,rfl,rt.sq,?_,λt ht=>q _ _ φ (.upd ht) (rs.upd ht) (.tup_new ht rs (l.cut lo hi))⟩;rw[l.length,e1,e2]at c;exact c
 |str y=>
  erw[ycm]at e;split at e
  .rename_i c
   cases e
   erw[yd]at rw;subst rw;refine zmg π s σ H _ v vl vu lo hi sl Q I rx hs pl pu ⟨y,rfl,by rw[<-zn];exact c,?_⟩;have:=q (.str ⟨(cut y.cps.toList lo hi).toArray⟩) H φ .rfl rs (by erw[yd]);rw[cut,e1,e2]at this;exact this
  .cases e
 |lst vs=>
  erw[ycm]at e
  cases e
  erw[yd]at rw;let⟨p,xs,rfl,rt,l⟩:=rw;exact zjG π s σ H _ v vl vu lo hi sl Q I rx hs pl pu ⟨p,xs,rfl,rt.sq,λt ht=>q _ _ φ (.upd ht) (rs.upd ht) (.lst_new ht rs (l.cut lo hi))⟩
 |scr vs=>
  erw[ycm]at e
  cases e
  erw[yd]at rw;let⟨p,xs,rfl,rt,l⟩:=rw;exact zjG π s σ H _ v vl vu lo hi sl Q I rx hs pl pu ⟨p,xs,rfl,(by rcases rt with rt|rt;exact .inl rt.1;exact .inr rt),λt ht=>q _ _ φ (.upd ht) (rs.upd ht) (.lst_new ht rs (l.cut lo hi))⟩
 |_=>cases e
def zoJ{lo hi:Option AZ}(ha:PE X a (tE S X ca))(hl:PO X lo (tO S X cb))(hh:PO X hi (tO S X cc)):PE X (.Subscript a (.Slice lo hi AD p2) pos) (tE S X (.slc ca cb cc)):=
 (zkD zmk ha hl hh).imp λσ H Q ⟨B,φ,st,ρ,rs,re,h⟩=>by
  erw[ev]at h;have oi:∀{v:PV} {x:V} {o:Option Int} {B φ H},yd X.K S.cl B φ H v x->yaV v=AA o->(x=.non/\o=AD) \/ ∃i,x=.int i/\o=AA i:=λ{v x o B φ H} r e=>by
   cases v with
   |non=>erw[yd]at r;cases e;exact .inl ⟨r,rfl⟩
   |int i=>erw[yd]at r;cases e;exact .inr ⟨i,r,rfl⟩
   |_=>cases e
  refine tE.bind rs re h λx H1 v st1 φ1 s1 rs1 re1 rv h1=>tE.bind rs1 re1 h1 λy H2 w st2 φ2 s2 rs2 re2 rw h2=>?_
  cases eo:yaV w with
  |none=>rw[eo]at h2;exact h2.elim
  |some o1=>
   rw[eo]at h2;have key:tO S X cc σ H2 λu H3=>rSl S X x o1 u H3 Q:=by
    refine tE.bind rs2 re2 h2 λy' H3 w' st3 φ3 s3 rs3 re3 rw' h3=>?_;let⟨z,e,q⟩:=zak h3 rs3;unfold yco at e
    cases eo':yaV w' with
    |none=>rw[eo']at e;cases e
    |some o2=>
     rw[eo']at e;have fin:rSl S X x o1 o2 H3 Q:=⟨B,φ3,st3,v,z,rs3,(rv.step s2).step s3,e,q⟩;rcases oi rw' eo' with⟨rfl,rfl⟩|⟨i,rfl,rfl⟩
     .exact .inl ⟨rfl,fin⟩
     .exact .inr ⟨i,rfl,fin⟩
   rcases oi rw eo with⟨rfl,rfl⟩|⟨i,rfl,rfl⟩
   .exact .inl ⟨rfl,key⟩
   .exact .inr ⟨i,rfl,key⟩
end
section
variable {S:Se}{X:Cx}{σ:St}{B:AJ->Prop}{φ φ1:Ph}{H H1:Hp}{st:SO}{ρ:IC.Env}{p pos p2:CW}{a b c d:AZ}{ca cb cc:Ce}{es:List AZ}{ces:Ces}{K:AG}{cl:Nat->AJ}
def rB(S:Se)(X:Cx)(k:Blt):List V->Hp->VK->Prop:=λxs H Q=>∃B φ st vs z,yE X.K S.cl B φ H st/\yh X.K S.cl B φ H vs xs/\yan k st vs=AA z /\
 ∀z' H' φ',Step φ H φ' H'->yE X.K S.cl B φ' H' st->yd X.K S.cl B φ' H' z z'->Q z' H'
theorem yh.one{v:PV}{xs:List V}(l:yh K cl B φ H [v] xs):∃x,xs=[x]/\yd K cl B φ H v x:=by
 erw[yh]at l;let⟨y,ys,rfl,r,rfl⟩:=l;exact⟨y,rfl,r⟩
theorem yh.two{v w:PV}{xs:List V}(l:yh K cl B φ H [v,w] xs):∃x y,xs=[x,y]/\yd K cl B φ H v x/\yd K cl B φ H w y:=by
 erw[yh]at l;let⟨y,ys,rfl,r,z,zs,rfl,r2,rfl⟩:=l;exact⟨y,z,rfl,r,r2⟩
def zbd{k:Blt}{st:SO}{vs:List PV}{z:PV}(h:yan k st vs=AA z)(h2:∀x y,yan k st [x,y]=AD):∃x,vs=[x]:=by
 match vs,h with
 |[x],_=>exact⟨x,rfl⟩
 |[x,y],h=>rw[h2]at h;cases h
def zaB{v:PV}{x:V}{vs:List PV}(rs:yE K cl B φ H st)(r:yd K cl B φ H v x)(h:yK st v=AA vs):∃a xs,x=.ref a/\SqL K H a xs/\yh K cl B φ H vs xs:=by
 cases v with
 |lst ws=>
  cases h
  erw[yd]at r;let⟨a,xs,rfl,rt,l⟩:=r;exact⟨a,xs,rfl,rt.sq,l⟩
 |loc n=>
  erw[yK]at h;split at h
  .rename_i ws hw
   cases h
   let⟨a,xs,rfl,_,hx,l⟩:=rs.list r hw;exact⟨a,xs,rfl,.of hx,l⟩
  .cases h
 |_=>cases h
def zlG{v:PV}{x:V}{vs:List PV}(rs:yE K cl B φ H st)(r:yd K cl B φ H v x)(h:ybC st v=AA vs):∃a xs,x=.ref a/\(SqL K H a xs \/ SqT K H a xs)/\yh K cl B φ H vs xs:=by
 cases v with
 |tp k ws=>
  cases h
  erw[yd]at r;let⟨a,xs,rfl,rt,l⟩:=r;exact⟨a,xs,rfl,.inr rt.sq,l⟩
 |lst ws=>
  let⟨a,xs,e,q,l⟩:=zaB rs r (vs:=vs) h;exact⟨a,xs,e,.inl q,l⟩
 |loc n=>
  let⟨a,xs,e,q,l⟩:=zaB rs r (vs:=vs) h;exact⟨a,xs,e,.inl q,l⟩
 |_=>cases h
def zpw:yad X (.builtin "len") (rB S X .len):=by
 rintro π s σ H xs us Q I r ⟨B,φ,st,vs,z,rs,l,e,q⟩
 let⟨v,rfl⟩:=zbd e λ_ _=>rfl;let⟨x,rfl,rv⟩:=l.one;erw[yan,lenV]at e;split at e
 .rename_i t;split at e
  .rename_i c
   cases e
   erw[yd]at rv;subst rv;exact zer π s σ H _ us Q I r ⟨t,rfl,by rw[<-zn];exact c,q _ H φ .rfl rs (by erw[yd])⟩
  .cases e
 .cases e1:ybC st v with
  |none=>rw[e1]at e;cases e
  |some ws=>
   rw[e1]at e
   cases e
   let⟨a,ys,rfl,h,l⟩:=zlG rs rv e1;refine zfk π s σ H _ us Q I r ⟨a,ys,rfl,?_,q _ H φ .rfl rs (by erw[yd];rw[l.length])⟩;exact h
def zqe:yad X (.type "int") (rB S X .int):=by
 rintro π s σ H xs us Q I r ⟨B,φ,st,vs,z,rs,l,e,q⟩
 let⟨v,rfl⟩:=zbd e λ_ _=>rfl;let⟨x,rfl,rv⟩:=l.one;erw[yan]at e
 cases v with
 |int i=>
  cases e
  erw[yd]at rv;subst rv;exact zeM π s σ H _ us Q I r (.inl ⟨i,rfl,q _ H φ .rfl rs (by erw[yd])⟩)
 |bl k=>
  cases e
  erw[yd]at rv;subst rv;exact zeM π s σ H _ us Q I r (.inr ⟨k,rfl,q _ H φ .rfl rs (by erw[yd,bi])⟩)
 |_=>cases e
def zp6:yad X (.builtin "abs") (rB S X .abs):=by
 rintro π s σ H xs us Q I r ⟨B,φ,st,vs,z,rs,l,e,q⟩
 let⟨v,rfl⟩:=zbd e λ_ _=>rfl;let⟨x,rfl,rv⟩:=l.one;erw[yan]at e
 cases v with
 |int i=>
  cases e
  erw[yd]at rv;subst rv;exact zkS π s σ H _ us Q I r ⟨i,rfl,q _ H φ .rfl rs (by erw[yd])⟩
 |_=>cases e
def zmM{k:Blt}{st:SO}{vs:List PV}{z:PV}(h:yan k st vs=AA z)(h2:∀x,yan k st [x]=AD):∃x y,vs=[x,y]:=by
 match vs,h with
 |[x,y],_=>exact⟨x,y,rfl⟩
 |[x],h=>rw[h2]at h;cases h
def zoA(hc:X.calm=AB):yad X (.builtin "min") (rB S X .min):=by
 rintro π s σ H xs us Q I r ⟨B,φ,st,vs,z,rs,l,e,q⟩
 let⟨v,w,rfl⟩:=zmM e λ_=>rfl;let⟨x,y,rfl,rv,rw⟩:=l.two;erw[yan,ydZ]at e;split at e
 .cases e
  erw[yd]at rv rw;subst rv rw;exact zif hc π s σ H _ us Q I r ⟨_,_,rfl,q _ H φ .rfl rs (by erw[yd])⟩
 .cases e
def zlY:∀{vs:List PV} {m:Int},ydB vs=AA m->∃ns:List Int,vs=ns.map .int/\m∈ns/\∀a∈ns,a<=m
 |[],m,h=>by cases h
 |[.int i],m,h=>by cases h;exact⟨[i],rfl,by simp,by simp⟩
 |.int i::w::r,m,h=>by
  erw[ydB]at h;split at h
  .rename_i c e
   cases h
   let⟨ns,e1,e2,e3⟩:=zlY e;refine⟨i::ns,by rw[e1];rfl,?_,λa ha=>?_⟩
   .split
    .exact A7 _ e2
    .exact Ao
   .rcases BB.mp ha with rfl|ha
    .split<;>lia
    .have:=e3 a ha;split<;>lia
  .cases h
 |.non::r,m,h=>by cases r<;>cases h
 |.bl _::r,m,h=>by cases r<;>cases h
 |.str _::r,m,h=>by cases r<;>cases h
 |.tp _ _::r,m,h=>by cases r<;>cases h
 |.lst _::r,m,h=>by cases r<;>cases h
 |.loc _::r,m,h=>by cases r<;>cases h
 |.fnc _::r,m,h=>by cases r<;>cases h
 |.exn _::r,m,h=>by cases r<;>cases h
 |.scr _::r,m,h=>by cases r<;>cases h
theorem yh.ints:∀{ns:List Int} {xs:List V},yh K cl B φ H (ns.map .int) xs->xs=ns.map V.int
 |[],xs,h=>by simpa only[A9,yh] using h
 |n::ns,xs,h=>by
  erw[AM,yh]at h;let⟨y,ys,rfl,r,l⟩:=h;erw[yd]at r;rw[r,yh.ints l];rfl
theorem yh.bls:∀{ns:List Bool} {xs:List V},yh K cl B φ H (ns.map .bl) xs->xs=ns.map V.bl
 |[],xs,h=>by simpa only[A9,yh] using h
 |n::ns,xs,h=>by
  erw[AM,yh]at h;let⟨y,ys,rfl,r,l⟩:=h;erw[yd]at r;rw[r,yh.bls l];rfl
def znb{v w z:PV}(e:maxV v w=AA z):∃i j,v=.int i/\w=.int j/\z=.int (if i<j then j else i):=by
 unfold maxV at e;split at e
 .exact⟨_,_,rfl,rfl,(A8 e).symm⟩
 .cases e
def zqi(hc:X.calm=AB):yad X (.builtin "max") (rB S X .max):=by
 rintro π s σ H xs us Q I r ⟨B,φ,st,vs,z,rs,l,e,q⟩
 rcases vs with _|⟨v,_|⟨w,_|⟨u',t⟩⟩⟩
 .simp[yan]at e
 .let⟨x,rfl,rv⟩:=l.one;erw[yan]at e
  cases e1:yK st v with
  |none=>rw[e1]at e;cases e
  |some ws=>
   rw[e1]at e;erw[B3]at e
   cases e2:ydB ws with
   |none=>rw[e2]at e;cases e
   |some m=>
    rw[e2]at e;obtain rfl:=A8 e;let⟨ns,rfl,hm,hb⟩:=zlY e2;let⟨a,ys,rfl,h,l⟩:=zaB rs rv e1;rw[l.ints]at h;refine ziX hc π s σ H _ us Q I r ⟨a,ns,rfl,h,List.length_pos_of_mem hm,λM h1 h2=>?_⟩;have:M=m:=by
     have:=hb M h1;have:=h2 m hm;lia
    subst this;exact q _ H φ .rfl rs (by erw[yd])
 .let⟨x,y,rfl,rv,rw⟩:=l.two;have e:maxV v w=AA z:=e;let⟨i,j,rfl,rfl,rfl⟩:=znb e;erw[yd]at rv rw;subst rv rw;exact ziS hc π s σ H _ us Q I r ⟨i,j,rfl,q (.int (if i<j then j else i)) H φ .rfl rs (by erw[yd])⟩
 .simp[yan]at e
def zk0:yad X (.type "tuple") (rB S X .tuple):=by
 rintro π s σ H xs us Q I r ⟨B,φ,st,vs,z,rs,l,e,q⟩
 let⟨v,rfl⟩:=zbd e λ_ _=>rfl;let⟨x,rfl,rv⟩:=l.one;erw[yan,ydh]at e;split at e
 .cases e
  erw[yd]at rv;let⟨a,ys,rfl,rt,l⟩:=rv;exact zbu π s σ H _ us Q I r ⟨a,ys,rfl,.inr ⟨rt.sq,q _ H φ .rfl rs (by erw[yd];exact⟨a,ys,rfl,rt,l⟩)⟩⟩
 .cases e1:yK st v with
  |none=>rw[e1]at e;cases e
  |some ws=>
   rw[e1]at e
   cases e
   let⟨a,ys,rfl,h,l⟩:=zaB rs rv e1;exact zbu π s σ H _ us Q I r ⟨a,ys,rfl,.inl ⟨h,λt ht=>q _ _ φ (.upd ht) (rs.upd ht) (.tup_new ht rs l)⟩⟩
def zlQ:∀{vs:List PV} {m:Bool},IC.allB vs=AA m->∃ns:List Bool,vs=ns.map .bl/\m=ns.all id
 |[],m,h=>by cases h;exact⟨[],rfl,rfl⟩
 |.bl i::r,m,h=>by
  erw[IC.allB]at h;split at h
  .rename_i c e
   cases h
   let⟨ns,e1,e2⟩:=zlQ e;exact⟨i::ns,by rw[e1];rfl,by rw[e2];rfl⟩
  .cases h
 |.non::r,m,h=>by cases h
 |.int _::r,m,h=>by cases h
 |.str _::r,m,h=>by cases h
 |.tp _ _::r,m,h=>by cases h
 |.lst _::r,m,h=>by cases h
 |.loc _::r,m,h=>by cases h
 |.fnc _::r,m,h=>by cases h
 |.exn _::r,m,h=>by cases h
 |.scr _::r,m,h=>by cases h
def zo8(hc:X.calm=AB):yad X (.builtin "all") (rB S X .all):=by
 rintro π s σ H xs us Q I r ⟨B,φ,st,vs,z,rs,l,e,q⟩
 let⟨v,rfl⟩:=zbd e λ_ _=>rfl;let⟨x,rfl,rv⟩:=l.one;erw[yan]at e
 cases e1:yK st v with
 |none=>rw[e1]at e;cases e
 |some ws=>
  rw[e1]at e;erw[B3]at e
  cases e2:IC.allB ws with
  |none=>rw[e2]at e;cases e
  |some m=>
   rw[e2]at e
   cases e
   let⟨ns,rfl,rfl⟩:=zlQ e2;let⟨a,ys,rfl,h,l⟩:=zaB rs rv e1;rw[l.bls]at h;exact zle hc π s σ H _ us Q I r ⟨a,ns,rfl,h,q _ H φ .rfl rs (by erw[yd])⟩
variable {x:A4}{id T:String}{k:Blt}
def zo5(hc:yad X (.builtin id) (rB S X k))(hg:Gl X x)(hm:X.mg x=AD)(hv:bootBuiltins x=AA (.builtin id))(ha:PA X (a::es) (tAs S X ces))(hn:x ≠ "__name__":=by decide)(hdb:(x==("__debug__":A4))=false:=by decide)
  (he:starEach (a::es) X.env=(AC,eval a X.env)::starEach es X.env:=by rfl) (hpl:(backTo pos (starEach es X.env)).any (·.1)=false:=by rfl):PE X (.Call (.Name x p) (a::es) [] pos) (tE S X (.blt k ces)):=
 (zg1 hc hg hm hv ha hn hdb he hpl).imp λσ H Q ⟨B,φ,st,ρ,rs,re,h⟩=>by
  erw[ev]at h;refine tAs.bind rs re h λxs H1 vs st1 φ1 s1 rs1 re1 rv h1=>?_;let⟨z,e,q⟩:=zak h1 rs1;exact⟨B,φ1,st1,vs,z,rs1,rv,e,q⟩
def znd(hc:yad X (.type T) (rB S X k))(hg:Gl X x)(hm:X.mg x=AD)(hv:bootBuiltins x=AA (.type T))(ha:PA X (a::es) (tAs S X ces))(hn:x ≠ "__name__":=by decide)(hdb:(x==("__debug__":A4))=false:=by decide)
  (he:starEach (a::es) X.env=(AC,eval a X.env)::starEach es X.env:=by rfl) (hpl:(backTo pos (starEach es X.env)).any (·.1)=false:=by rfl):PE X (.Call (.Name x p) (a::es) [] pos) (tE S X (.blt k ces)):=
 (zeG hc hg hm hv ha hn hdb he hpl).imp λσ H Q ⟨B,φ,st,ρ,rs,re,h⟩=>by
  erw[ev]at h;refine tAs.bind rs re h λxs H1 vs st1 φ1 s1 rs1 re1 rv h1=>?_;let⟨z,e,q⟩:=zak h1 rs1;exact⟨B,φ1,st1,vs,z,rs1,rv,e,q⟩
end
section
variable {S:Se}{X:Cx}{σ:St}{B:AJ->Prop}{φ φ1:Ph}{H H1:Hp}{st:SO}{ρ:IC.Env}{p pos p2 apos:CW}{a b c d:AZ}{ca cb cc:Ce}{es:List AZ}{ces:Ces}{K:AG}{cl:Nat->AJ}
theorem Step.put{l:AJ}{u:HO}(hl:AA l∈φ):Step φ H φ (L2.upd H l u):=
 ⟨λb o n e=>by rw[ze (show b≠l from λz=>n (by rw[z];exact hl))];exact e,A0 _,λ_ _ _ e=>e,λ_ h=>.inl h⟩
theorem yE.put{n:Nat}{l:AJ}{u:HO}{o:Ob}(rs:yE K cl B φ H st)(hn:φ[n]?=AA (AA l))(ho:ycf K cl B φ (L2.upd H l u) o l):yE K cl B φ (L2.upd H l u) (st.set n o):=by
 have hm:AA l∈φ:=A3 hn;have s:Step φ H φ (L2.upd H l u):=.put hm;have hlt:n<st.length:=by rw[<-rs.len];exact(BM.mp hn).1
 refine⟨by rw[Ba];exact rs.len,rs.inj,λm a e=>?_,λm o' e ho'=>?_,rs.nb,λa h=>?_⟩
 .by_cases hmn:m=n
  .subst hmn;rw[hn]at e;cases e;exact⟨o,by rw[Ai hlt],ho⟩
  .let⟨o',q,r⟩:=rs.obj m a e;refine⟨o',by rw[Ah (Bf hmn)];exact q,r.step s ?_⟩;rw[ze]
   rintro rfl
   exact hmn (rs.inj m n a e hn)
 .by_cases hmn:m=n
  .subst hmn;exact⟨l,hn⟩
  .rw[Ah (Bf hmn)]at e;exact rs.liv m o' e ho'
 .let⟨w,e⟩:=rs.dom a h
  by_cases z:a=l
  .subst z;exact⟨u,zf⟩
  .exact⟨w,by rw[ze z];exact e⟩
def zhX:1000000<=sizeLine:=by rw[DG];decide
def zbb{m:Mth}{v:PV}{st:SO}{α β:Type}{Rel:Ph->Hp->α->β->Prop}{k:Bool->R α}{Q:β->Hp->Prop}(h:Run S X σ B φ H Rel (onO (yaA m st v) k) Q):∃b,yaA m st v=AA b/\Run S X σ B φ H Rel (k b) Q:=by
 cases e:yaA m st v with
 |none=>rw[e]at h;exact h.elim
 |some z=>rw[e]at h;exact⟨z,rfl,h⟩
def ziQ(ha:PE X a (tE S X ca))(hb:PE X b (tE S X cb))(hs:starEach [b] X.env=[(AC,eval b X.env)]:=by rfl)(hbase:attributeBase a "append" X.env (eval a X.env)=eval a X.env:=by rfl)(hline:(apos.endLine==pos.line)=true:=by rfl)
  (hfew:((backTo pos (starEach [b] X.env)).all (λx=>!x.1)&&(backToKw pos (keywordEach [] X.env)).all (λx=>x.1.isSome)&&decide (([b]:List AZ).length+([]:List Bo).length+(if ([]:List Bo).isEmpty then 0 else 1)<30))=true:=by rfl):
  PE X (.Call (.Attribute a "append" apos) [b] [] pos) (tE S X (.mth .append ca (.cons cb .nil))):=
 (zjh Bm FF PySem.F.type_list_append ze0 ha (zaj (S:=S) hb zb2 hs) hbase hfew hline hs rfl).imp λσ H Q ⟨B,φ,st,ρ,rs,re,h⟩=>by
  erw[ev]at h;refine tE.bind rs re h λx H1 v st1 φ1 s1 rs1 re1 rv h1=>?_;let⟨_,e1,h1⟩:=zbb h1;have t1:∃ws,yK st1 v=AA ws:=by
   erw[yaA]at e1
   cases q:yK st1 v with
   |none=>rw[q]at e1;cases e1
   |some ws=>exact⟨ws,rfl⟩
  let⟨ws,t1⟩:=t1;let⟨l,xs,rfl,hl,_⟩:=zaB rs1 rv t1;refine⟨.inl ⟨rfl,xs,hl⟩,tAs.bind rs1 re1 h1 λys H2 vs st2 φ2 s2 rs2 re2 rvs h2=>?_⟩;have rv2:=rv.step s2;rcases vs with _|⟨w,_|⟨w',t⟩⟩
  .exact h2.elim
  .let⟨y,rfl,rw⟩:=rvs.one;unfold ybl at h2;erw[ydG]at h2;split at h2
   .rename_i n;split at h2
    .rename_i zs hz;split at h2
     .rename_i c;let⟨l',xs',e,hn,hx,lr⟩:=rs2.list rv2 hz
      cases e
      refine⟨l,xs',y,rfl,rfl,hx,by have:=zhX;have:=lr.length;lia,?_⟩;exact h2 _ _ φ2 (.put (A3 hn)) (rs2.put hn ⟨_,zf,(lr.append (by erw[yh];exact⟨y,[],rfl,rw,rfl⟩)).step (.put (A3 hn))⟩) (by erw[yd])
     .exact h2.elim
    .exact h2.elim
   .exact h2.elim
  .exact h2.elim
def zjL(ha:PE X a (tE S X ca))(hb:PE X b (tE S X cb))(hs:starEach [b] X.env=[(AC,eval b X.env)]:=by rfl)(hbase:attributeBase a "extend" X.env (eval a X.env)=eval a X.env:=by rfl)(hline:(apos.endLine==pos.line)=true:=by rfl)
  (hfew:((backTo pos (starEach [b] X.env)).all (λx=>!x.1)&&(backToKw pos (keywordEach [] X.env)).all (λx=>x.1.isSome)&&decide (([b]:List AZ).length+([]:List Bo).length+(if ([]:List Bo).isEmpty then 0 else 1)<30))=true:=by rfl):
  PE X (.Call (.Attribute a "extend" apos) [b] [] pos) (tE S X (.mth .extend ca (.cons cb .nil))):=
 (zjh Bm FG PySem.F.type_list_extend ziC ha (zaj (S:=S) hb zb2 hs) hbase hfew hline hs rfl).imp λσ H Q ⟨B,φ,st,ρ,rs,re,h⟩=>by
  erw[ev]at h;refine tE.bind rs re h λx H1 v st1 φ1 s1 rs1 re1 rv h1=>?_;let⟨_,e1,h1⟩:=zbb h1;have t1:∃ws,yK st1 v=AA ws:=by
   erw[yaA]at e1
   cases q:yK st1 v with
   |none=>rw[q]at e1;cases e1
   |some ws=>exact⟨ws,rfl⟩
  let⟨ws,t1⟩:=t1;let⟨l,xs,rfl,hl,_⟩:=zaB rs1 rv t1;refine⟨.inl ⟨rfl,xs,hl⟩,tAs.bind rs1 re1 h1 λys H2 vs st2 φ2 s2 rs2 re2 rvs h2=>?_⟩;have rv2:=rv.step s2;rcases vs with _|⟨w,_|⟨w',t⟩⟩
  .exact h2.elim
  .let⟨y,rfl,rw⟩:=rvs.one;unfold ybl at h2;erw[yeg]at h2;split at h2
   .rename_i n;split at h2
    .rename_i zs hz;split at h2
     .rename_i ks;split at h2
      .rename_i c;let⟨l',xs',e,hn,hx,lr⟩:=rs2.list rv2 hz
       cases e
       erw[yd]at rw;let⟨b',ys',rfl,rl,lr2⟩:=rw;refine⟨l,b',xs',ys',rfl,rfl,hx,rl.1,by have:=zhX;have:=lr.length;have:=lr2.length;lia,?_⟩;exact h2 _ _ φ2 (.put (A3 hn)) (rs2.put hn ⟨_,zf,(lr.append lr2).step (.put (A3 hn))⟩) (by erw[yd])
      .exact h2.elim
     .exact h2.elim
    .exact h2.elim
   .exact h2.elim
  .exact h2.elim
def zox(ha:PE X a (tE S X ca)):PE X a (tE S X (.frz ca)):=
 ha.imp λσ H Q ⟨B,φ,st,ρ,rs,re,h⟩=>by
  erw[ev]at h;refine tE.bind rs re h λx H1 v st1 φ1 s1 rs1 re1 rv h1=>?_;unfold yd0 at h1;split at h1
  .rename_i n;split at h1
   .rename_i vs hv;let⟨l,xs,rfl,hn,hx,lr⟩:=rs1.list rv hv;have hm:AA l∈φ1:=A3 hn;have hlt:n<φ1.length:=(BM.mp hn).1;have nl:AA l∉φ1.set n none:=λz=>by
     let⟨m,e⟩:=DW.mp z
     by_cases hmn:m=n
     .subst hmn;rw[Ai hlt]at e;cases e
     .rw[Ah (Bf hmn)]at e;exact hmn (rs1.inj m n l e hn)
    have sb:∀b,AA b∈φ1.set n AD->AA b∈φ1:=λb z=>by
     let⟨m,e⟩:=DW.mp z
     by_cases hmn:m=n
     .subst hmn;rw[Ai hlt]at e;cases e
     .rw[Ah (Bf hmn)]at e;exact A3 e
    have s:Step φ1 H1 (φ1.set n AD) H1:=⟨λ_ _ _ e=>e,by simp,λm a hm' e=>by
     by_cases hmn:m=n
     .subst hmn;rw[Ai hlt]at e;cases e
     .rw[Ah (Bf hmn)]at e;exact e,λb z=>.inl (sb b z)⟩
    refine h1 _ H1 (φ1.set n AD) s ⟨by simp[rs1.len],λm k a e1 e2=>?_,λm a e=>?_,λm o e ho=>?_,λa z=>rs1.nb a (sb a z),rs1.dom⟩ ?_
    .by_cases h1':m=n
     .subst h1';rw[Ai hlt]at e1;cases e1
     .by_cases h2':k=n
      .subst h2';rw[Ai hlt]at e2;cases e2
      .rw[Ah (Bf h1')]at e1;rw[Ah (Bf h2')]at e2;exact rs1.inj m k a e1 e2
    .by_cases hmn:m=n
     .subst hmn;rw[Ai hlt]at e;cases e
     .rw[Ah (Bf hmn)]at e;let⟨o,q,r⟩:=rs1.obj m a e;exact⟨o,by rw[Ah (Bf hmn)];exact q,r.step s rfl⟩
    .by_cases hmn:m=n
     .subst hmn;rw[Ai (by rw[<-rs1.len];exact hlt)]at e;cases e;exact absurd rfl ho
     .rw[Ah (Bf hmn)]at e ⊢;exact rs1.liv m o e ho
    .simp only[yd];exact⟨l,xs,rfl,⟨hx,rs1.nb l hm,nl⟩,lr.step s⟩
   .exact h1.elim
  .exact h1.ok rs1 rv
end
section
variable (S:Se)(X:Cx)
def yaL(B:AJ->Prop)(φ:Ph)(H:Hp)(f:Fl)(D:Ends):Prop:=
 match f with
 |.nx ρ' st'=>∀σ' H' φ',Step φ H φ' H'->yE X.K S.cl B φ' H' st'->yN X.K S.cl B φ' H' ρ' σ'->D.nx σ' H'
 |.rt v st'=>∀x H' φ',Step φ H φ' H'->yE X.K S.cl B φ' H' st'->yd X.K S.cl B φ' H' v x->D.rt x H'
 |.bk ρ' st'=>∀σ' H' φ',Step φ H φ' H'->yE X.K S.cl B φ' H' st'->yN X.K S.cl B φ' H' ρ' σ'->D.bk σ' H'
 |.ct ρ' st'=>∀σ' H' φ',Step φ H φ' H'->yE X.K S.cl B φ' H' st'->yN X.K S.cl B φ' H' ρ' σ'->D.ct σ' H'
 |.exc k ρ' st'=>∀σ' φ1 H1 e s',Step φ H φ1 H1->yN X.K S.cl B φ1 H1 ρ' σ'->ExcAt S X σ' B φ1 H1 k st' e s'->X.xe e s'
 |.bad=>False
def tS(c:Cs):TS:=λD σ H=>∃B φ st ρ,yE X.K S.cl B φ H st/\yN X.K S.cl B φ H ρ σ/\yaL S X B φ H (ex S.call ρ st c) D
def tSs(c:Css):TS:=λD σ H=>∃B φ st ρ,yE X.K S.cl B φ H st/\yN X.K S.cl B φ H ρ σ/\yaL S X B φ H (exs S.call ρ st c) D
end
section
variable {S:Se}{X:Cx}{σ:St}{B:AJ->Prop}{φ φ1:Ph}{H H1:Hp}{st:SO}{ρ:IC.Env}{D:Ends}{pos p2 px:CW}{a b c o:AZ}{ca cb cc:Ce}{s1:By}{ss ss':List By}{c1:Cs}{cs cs':Css}
theorem yaL.on{f:Fl}(s:Step φ H φ1 H1)(h:yaL S X B φ H f D):yaL S X B φ1 H1 f D:=by
 cases f with
 |nx ρ st=>exact λσ' H' φ' t=>h σ' H' φ' (s.trans t)
 |rt ρ st=>exact λσ' H' φ' t=>h σ' H' φ' (s.trans t)
 |bk ρ st=>exact λσ' H' φ' t=>h σ' H' φ' (s.trans t)
 |ct ρ st=>exact λσ' H' φ' t=>h σ' H' φ' (s.trans t)
 |exc k ρ st=>exact λσ' φ2 H2 e s' t=>h σ' φ2 H2 e s' (s.trans t)
 |bad=>exact h
theorem tE.fl{k:PV->SO->Fl}{P:V->Hp->Prop}(rs:yE X.K S.cl B φ H st)(re:yN X.K S.cl B φ H ρ σ)(h:yaL S X B φ H ((ev S.call ρ st ca).fl ρ k) D)
  (n:∀x H1 v st1 φ1,Step φ H φ1 H1->yE X.K S.cl B φ1 H1 st1->yN X.K S.cl B φ1 H1 ρ σ->yd X.K S.cl B φ1 H1 v x->yaL S X B φ1 H1 (k v st1) D->P x H1):tE S X ca σ H P:=by
 refine⟨B,φ,st,ρ,rs,re,?_⟩
 cases e:ev S.call ρ st ca with
 |ok v st'=>
  rw[e]at h;exact λx H' φ' s rs' rv=>n x H' v st' φ' s rs' (re.step s) rv (h.on s)
 |exc k st'=>
  rw[e]at h;exact λe s' x=>h σ φ H e s' .rfl re x
 |bad=>rw[e]at h;exact h
theorem PS.imp{t t':TS}(h:PS X s1 t')(k:∀D σ H,t D σ H->t' D σ H):PS X s1 t:=λπ s σ H D I q=>h π s σ H D I (k D σ H q)
theorem PSs.imp{t t':TS}(h:PSs X ss t')(k:∀D σ H,t D σ H->t' D σ H):PSs X ss t:=λπ s σ H D I q=>h π s σ H D I (k D σ H q)
theorem yN.set{K:AG}{cl:Nat->AJ}(r:yN K cl B φ H ρ σ)(i:Nat){v:PV}{x:V}(rv:yd K cl B φ H v x):yN K cl B φ H (ρ.set i (AA v)) (σ.set i (AA x)):=by
 refine⟨by rw[Ba,Ba];exact r.len,λj w e=>?_⟩
 by_cases h:j=i
 .subst h
  by_cases hl:j<ρ.length
  .rw[Ai hl]at e
   cases e
   exact⟨x,by rw[Ai (by rw[<-r.len];exact hl)],rv⟩
  .rw[B4 (by rw[Ba];lia)]at e
   cases e
 .rw[Ah (Bf h)]at e ⊢;exact r.get j w e
def zoG:PSs X [] (tSs S X .nil):=zpr.imp λD σ H ⟨B,φ,st,ρ,rs,re,h⟩=>by
 erw[exs]at h;exact h σ H φ .rfl rs re
def zmo(h1:PS X s1 (tS S X c1))(h2:PSs X ss (tSs S X cs)):PSs X (s1::ss) (tSs S X (.cons c1 cs)):=
 (zgF h1 h2).imp λD σ H ⟨B,φ,st,ρ,rs,re,h⟩=>by
  erw[exs]at h;refine⟨B,φ,st,ρ,rs,re,?_⟩
  cases e:ex S.call ρ st c1 with
  |nx ρ1 st1=>
   rw[e]at h;exact λσ' H' φ' s rs' re'=>⟨B,φ',st1,ρ1,rs',re',h.on s⟩
  |rt v st1=>rw[e]at h;exact h
  |bk ρ1 st1=>rw[e]at h;exact h
  |ct ρ1 st1=>rw[e]at h;exact h
  |exc k ρ1 st1=>rw[e]at h;exact h
  |bad=>rw[e]at h;exact h
def znM(he:PE X a (tE S X ca))(hs:swapsWith a AD pos.line X.env=pure false:=by rfl):PS X (.Expr a pos) (tS S X (.expr ca)):=
 (zmL he hs).imp λD σ H ⟨B,φ,st,ρ,rs,re,h⟩=>by
  erw[ex]at h;exact tE.fl rs re h λx H1 v st1 φ1 s rs1 re1 rv h1=>h1 σ H1 φ1 .rfl rs1 re1
def zpR(he:PE X a (tE S X ca)):PS X (.Return (AA a) pos) (tS S X (.ret ca)):=
 (zlL he).imp λD σ H ⟨B,φ,st,ρ,rs,re,h⟩=>by
  erw[ex]at h;exact tE.fl rs re h λx H1 v st1 φ1 s rs1 re1 rv h1=>h1 x H1 φ1 .rfl rs1 rv
def znN:PS X (.Return AD pos) (tS S X (.ret (.cst .non))):=
 zpA.imp λD σ H ⟨B,φ,st,ρ,rs,re,h⟩=>by
  erw[ex,ev,R.fl]at h;exact h .non H φ .rfl rs (by erw[yd])
def zpi{i:Nat}{x:A4}(hN:X.N.Nodup)(hi:X.N[i]?=AA x)(hx:Loc X.env.scope x)(he:PE X a (tE S X ca))(hs:swapsWith a (AA (.Name x px)) pos.line X.env=pure false:=by rfl)
  (hf:X.fn x=AB \/ X.env.scope.names.lookup x=AA .local:=by first|exact .inl rfl|exact .inr rfl|assumption):PS X (.Assign [.Name x px] a pos) (tS S X (.asg (.n i) ca)):=
 (zlN hN hi hx he hs hf).imp λD σ H ⟨B,φ,st,ρ,rs,re,h⟩=>by
  erw[ex]at h;exact tE.fl rs re h λx H1 v st1 φ1 s rs1 re1 rv h1=>h1 _ H1 φ1 .rfl rs1 (re1.set i rv)
theorem flT(r:R PV)(f:Bool->SO->Fl):(r.fl ρ λx st1=>onF (yaR st1 x) λk=>f k st1)=(ybb r).fl ρ f:=by
 cases r with
 |ok v s=>
  erw[R.fl,ybb,R.bind]
  cases yaR s v<;>rfl
 |exc c s=>rfl
 |bad=>rfl
theorem tTs.fl{k:Bool->SO->Fl}{P:Bool->Hp->Prop}(rs:yE X.K S.cl B φ H st)(re:yN X.K S.cl B φ H ρ σ)(h:yaL S X B φ H ((ybb (ev S.call ρ st ca)).fl ρ k) D)
  (n:∀b H1 st1 φ1,Step φ H φ1 H1->yE X.K S.cl B φ1 H1 st1->yN X.K S.cl B φ1 H1 ρ σ->yaL S X B φ1 H1 (k b st1) D->P b H1):tTs S X ca σ H P:=by
 refine⟨B,φ,st,ρ,rs,re,?_⟩
 cases e:ybb (ev S.call ρ st ca)with
 |ok v st'=>
  rw[e]at h;exact λx H' φ' s rs' rv=>by
   subst rv;exact n v H' st' φ' s rs' (re.step s) (h.on s)
 |exc k st'=>
  rw[e]at h;exact λe s' x=>h σ φ H e s' .rfl re x
 |bad=>rw[e]at h;exact h
def zqQ(hc:PT X c (tTs S X cc))(ha:PSs X ss (tSs S X cs))(hb:PSs X ss' (tSs S X cs')):PS X (.If c ss ss' pos) (tS S X (.ite cc cs cs')):=
 (zqH hc ha hb).imp λD σ H ⟨B,φ,st,ρ,rs,re,h⟩=>by
  erw[ex]at h;rw[flT _ λk st1=>cond k (exs S.call ρ st1 cs) (exs S.call ρ st1 cs')]at h;refine tTs.fl rs re h λk H1 st1 φ1 s rs1 re1 h1=>?_
  cases k with
  |true=>exact⟨B,φ1,st1,ρ,rs1,re1,h1⟩
  |false=>exact⟨B,φ1,st1,ρ,rs1,re1,h1⟩
def zp3{i:Nat}{x:A4}{op:Ea}{bo:BOp}(hN:X.N.Nodup)(hi:X.N[i]?=AA x)(hx:Loc X.env.scope x)(he:PE X a (tE S X ca))(ho:PIp X op (rT2 S X (ybV bo)))
  (hf:X.fn x=AB \/ X.env.scope.names.lookup x=AA .local:=by first|exact .inl rfl|exact .inr rfl|assumption) (hd:(x==("__debug__":A4))=false:=by decide) (hcd:(x==("__classdict__":A4))=false:=by decide):PS X (.AugAssign (.Name x px) op a pos) (tS S X (.aug i bo ca)):=
 (zlU hN hi hx he ho hf).imp λD σ H ⟨B,φ,st,ρ,rs,re,h⟩=>by
  erw[ex]at h
  cases q:ρ[i]? with
  |none=>rw[q]at h;exact h.elim
  |some w=>
   cases w with
   |none=>rw[q]at h;exact h.elim
   |some w=>
    rw[q]at h;let⟨y,hy,rw⟩:=re.get i w q;refine⟨y,hy,tE.fl rs re h λz H1 v st1 φ1 s rs1 re1 rv h1=>?_⟩
    cases e:ybV bo w v with
    |none=>rw[e]at h1;exact h1.elim
    |some u=>
     rw[e]at h1;exact⟨B,φ1,st1,w,v,u,rs1,rw.step s,rv,e,λz' H' φ' s' rs' rz=>h1 _ H' φ' s' rs' ((re1.step s').set i rz)⟩
end
section
variable (S:Se)(X:Cx)
structure Drw(B:AJ->Prop)(φ0:Ph)(H0:Hp)(xs:List PV)(J:It):Prop where
 stop:∀φ H,Step φ0 H0 φ H->J.stop xs.length H
 go:∀(i:Nat) φ H,Step φ0 H0 φ H->i<xs.length->J.go i H
 yld:∀(i:Nat) φ H st x H' (B':AJ->Prop),(∀y,B' y->B y \/ H0 y=AD)->Step φ0 H0 φ H->yE X.K S.cl B' φ H st->i<xs.length->J.yld i H x H'->∃v,xs[i]?=AA v/\yd X.K S.cl B' φ H' v x/\∀b o,H b=AA o->H' b=AA o
abbrev RD(B:AJ->Prop):Ph->Hp->List PV->It->Prop:=λφ H=>Drw S X B φ H
def tI(c:Cit):TI:=λσ H R=>∃B φ st ρ,yE X.K S.cl B φ H st/\yN X.K S.cl B φ H ρ σ/\Run S X σ B φ H (RD S X B) (evi S.call ρ st c) R
end
section
variable {S:Se}{X:Cx}{σ:St}{B:AJ->Prop}{φ φ1:Ph}{H H1:Hp}{st:SO}{ρ:IC.Env}{D:Ends}{pos p p2 px:CW}{a b c o tg l:AZ}{ca cb cc:Ce}{es:List AZ}{ces:Ces}{ss:List By}{cs:Css}{ci:Cit}{ct:Tg}
def znD:PE X a (tE S X .nope):=λπ s σ H Q I ⟨B,φ,st,ρ,rs,re,h⟩=>by
 erw[ev]at h;exact h.elim
def znH{s1:By}:PS X s1 (tS S X .nope):=λπ s σ H D I ⟨B,φ,st,ρ,rs,re,h⟩=>by
 erw[ex]at h;exact h.elim
theorem PI.imp{t t':TI}(h:PI X tg l t')(k:∀σ H R,t σ H R->t' σ H R):PI X tg l t:=λπ s σ H R I q=>h π s σ H R I (k σ H R q)
def zp0{tl:TE}(hl:PE X l tl):PI X tg l (λσ H R=>tl σ H λx H1=>∃a,x=.ref a/\(((∃xs,SqL X.K H1 a xs)/\R (Itl X.K a) H1) \/ ((∃xs,SqT X.K H1 a xs)/\R (Itt X.K a) H1))):=by
 intro π s σ H R I h;refine thn (hl π s σ H _ I h) λv s1 kq=>?_;let⟨x,H1,I1,r1,q1⟩:=kq;let⟨a,e,q1⟩:=q1;subst e
 cases r1
 rcases q1 with⟨⟨xs,hq⟩,q⟩|⟨⟨xs,hq⟩,q⟩
 .let⟨its,rv,p,hz⟩:=I1.list hq;refine ES p.isList ?_;refine⟨s1.heap.objs.size,[s1.heap.objs.size],_,_,H1,rfl,I1.kept (t':=s1.toks) λb o e=>A6 _ e,zjz a _,⟨_,Au _ rfl,rfl,rfl⟩,λb hb=>?_,q⟩;have e:b=s1.heap.objs.size:=by simpa using hb
  subst e;exact I1.fpOk (A0 _) (I1.hok.fresh (A0 _))
 .let⟨its,rv,p,hz⟩:=I1.tuple hq;refine Ca (show s1.heap.IsTuple a its.toArray from p) ?_;refine⟨s1.heap.objs.size,[s1.heap.objs.size],_,_,H1,rfl,I1.kept (t':=s1.toks) λb o e=>A6 _ e,zhp a _,⟨_,Au _ rfl,rfl,rfl⟩,λb hb=>?_,q⟩;have e:b=s1.heap.objs.size:=by simpa using hb
  subst e;exact I1.fpOk (A0 _) (I1.hok.fresh (A0 _))
def zmF{k:Bool}{vs:List PV}{xs:List V}{y:AJ}(rt:ybZ X.K B φ H k y xs)(l:yh X.K S.cl B φ H vs xs):Drw S X B φ H vs (Itt X.K y):=by
 have hl:=l.length;refine⟨λφ' H' s=>⟨xs,(rt.step s).sq,by lia⟩,λi φ' H' s hi=>⟨xs,xs[i]'∅,(rt.step s).sq,by simp[show i<xs.length by lia]⟩,λi φ' H' st x H2 B' hB s rs hi q=>?_⟩;let⟨rfl,q⟩:=q;obtain⟨v,hv⟩:∃v,vs[i]?=AA v:=⟨vs[i],by simp[hi]⟩;let⟨x',hx',rv⟩:=l.get i hv;have:=q xs (rt.step s).sq;rw[this]at hx'
 cases hx'
 exact⟨v,hv,(rv.moreB hB).step s,λ_ _ e=>e⟩
def zno{vs:List PV}{xs:List V}{y:AJ}(rt:ycZ B φ H y xs)(l:yh X.K S.cl B φ H vs xs):Drw S X B φ H vs (Itl X.K y):=by
 have hl:=l.length;refine⟨λφ' H' s=>⟨xs,(rt.step s).sq,by lia⟩,λi φ' H' s hi=>⟨xs,xs[i]'∅,(rt.step s).sq,by simp[show i<xs.length by lia]⟩,λi φ' H' st x H2 B' hB s rs hi q=>?_⟩;let⟨rfl,q⟩:=q;obtain⟨v,hv⟩:∃v,vs[i]?=AA v:=⟨vs[i],by simp[hi]⟩;let⟨x',hx',rv⟩:=l.get i hv;have:=q xs (rt.step s).sq;rw[this]at hx'
 cases hx'
 exact⟨v,hv,(rv.moreB hB).step s,λ_ _ e=>e⟩
def zoT(hl:PE X l (tE S X ca)):PI X tg l (tI S X (.seq ca)):=
 (zp0 hl).imp λσ H R ⟨B,φ,st,ρ,rs,re,h⟩=>by
  erw[evi]at h;refine tE.bind rs re h λx H1 v st1 φ1 s1 rs1 re1 rv h1=>?_
  cases v with
  |tp k vs=>
   erw[yd]at rv;let⟨y,xs,rfl,rt,l⟩:=rv;exact⟨y,rfl,.inr ⟨⟨xs,rt.sq⟩,h1.ok rs1 (zmF rt l)⟩⟩
  |lst vs=>
   erw[yd]at rv;let⟨y,xs,rfl,rt,l⟩:=rv;exact⟨y,rfl,.inl ⟨⟨xs,rt.sq⟩,h1.ok rs1 (zno rt l)⟩⟩
  |_=>exact h1.elim
def zL:∀(n:Nat) (lo d:Int) (i:Nat),(yo n lo d)[i]?=if i<n then AA (.int (lo+i*d))else AD
 |0,lo,d,i=>by simp[yo]
 |n+1,lo,d,0=>by simp[yo]
 |n+1,lo,d,i+1=>by
  erw[yo,AE];rw[zL n (lo+d) d i]
  by_cases h:i<n
  .rw[if_pos h,if_pos ∅,Int.natCast_succ,Cp,BQ,Fh,Int.add_comm d]
  .rw[if_neg h,if_neg ∅]
def zr:∀(n:Nat) (lo d:Int),(yo n lo d).length=n
 |0,lo,d=>rfl
 |n+1,lo,d=>by simp[yo,zr n]
def zjE{lo:Int}{n:Nat}:Drw S X B φ H (yo n lo 1) (Itr lo n):=by
 refine⟨λφ' H' s=>by rw[zr];exact A0 _,λi φ' H' s hi=>by rw[zr]at hi;exact hi,λi φ' H' st x H2 B' hB s rs hi q=>?_⟩;rw[zr]at hi;let⟨rfl,rfl⟩:=q;refine⟨.int (lo+i),?_,by erw[yd],λ_ _ e=>e⟩;rw[zL,if_pos hi,C6]
def ziH{o:Option (List PV)}{st:SO}{Q:It->Hp->Prop}(h:Run S X σ B φ H (RD S X B) (toL o st) Q):∃xs,o=AA xs/\Run S X σ B φ H (RD S X B) (.ok xs st) Q:=by
 cases o with
 |none=>exact h.elim
 |some z=>exact⟨z,rfl,h⟩
def zjS(hg:Gl X "range")(hm:X.mg "range"=AD)(ha:PE X a (tE S X ca))(hs:starEach [a] X.env=[(AC,eval a X.env)]:=by rfl):PI X tg (.Call (.Name "range" p) [a] [] pos) (tI S X (.range1 ca)):=
 (zjn hg hm (zaO ha zgY hs) hs).imp λσ H R ⟨B,φ,st,ρ,rs,re,h⟩=>by
  erw[evi]at h;refine tE.bind rs re h λx H1 v st1 φ1 s1 rs1 re1 rv h1=>?_;let⟨xs,e,h1⟩:=ziH h1
  cases v with
  |int j=>
   erw[ybu]at e;split at e
   .cases e
    erw[yd]at rv;subst rv;exact⟨j,rfl,by lia,by lia,h1.ok rs1 zjE⟩
   .cases e
  |_=>cases e
def zlb{x y:PV}{xs:List PV}(h:ydx x y=AA xs):∃i j,x=.int i/\y=.int j/\i.natAbs<1000000000/\j.natAbs<1000000000/\xs=yo (i-j).toNat i (-1):=by
 unfold ydx at h;split at h
 .split at h
  .rename_i c;exact⟨_,_,rfl,rfl,c.1,c.2,(A8 h).symm⟩
  .cases h
 .cases h
def zdi:∀(xs:List PV) (k i:Nat),(yac k xs)[i]?=(xs[i]?).map λx=>.tup [.int ((k+i:Nat):Int),x]
 |[],k,i=>by simp[yac]
 |x::xs,k,0=>by simp[yac]
 |x::xs,k,i+1=>by
  erw[yac,AE];rw[zdi xs (k+1) i];have:k+1+i=k+(i+1):=by lia
  rw[this]
def zcX:∀(xs:List PV) (k:Nat),(yac k xs).length=xs.length
 |[],k=>rfl
 |x::xs,k=>by simp[yac,zcX xs]
def zk6{k:Bool}{vs:List PV}{xs:List V}{y:AJ}(rt:ybZ X.K B φ H k y xs)(l:yh X.K S.cl B φ H vs xs):Drw S X B φ H (yac 0 vs) (Ite X.K y):=by
 have hl:=l.length;have hp:=zcX vs 0;refine⟨λφ' H' s=>⟨xs,(rt.step s).sq,by lia⟩,λi φ' H' s hi=>⟨xs,xs[i]'∅,(rt.step s).sq,by simp[show i<xs.length by lia]⟩,λi φ' H' st x H2 B' hB s rs hi q=>?_⟩;let⟨T,hT,rfl,q⟩:=q;obtain⟨v,hv⟩:∃v,vs[i]?=AA v:=⟨vs[i]'∅,by simp[show i<vs.length by lia]⟩;let⟨x',hx',rv⟩:=l.get i hv;have e:=q xs x' (rt.step s).sq hx';subst e;refine⟨.tup [.int i,v],?_,.tup_new hT rs ?_,λb o e=>by rw[ze (zg e hT)];exact e⟩
 .rw[zdi,hv];simp
 .simp only[yh,yd];exact⟨_,_,rfl,rfl,x',[],rfl,(rv.moreB hB).step s,rfl⟩
def zmx{es:List AZ}{kk:Nat}{tp:CW}(hg:Gl X "enumerate")(hm:X.mg "enumerate"=AD)(ha:PE X a (tE S X ca))(hs:starEach [a] X.env=[(AC,eval a X.env)]:=by rfl):
  PI X (.Tuple es kk tp) (.Call (.Name "enumerate" p) [a] [] pos) (tI S X (.enum ca)):=
 (zj1 hg hm (zaO ha zgY hs) hs).imp λσ H R ⟨B,φ,st,ρ,rs,re,h⟩=>by
  erw[evi]at h;refine tE.bind rs re h λx H1 v st1 φ1 s1 rs1 re1 rv h1=>?_
  cases v with
  |tp k vs=>
   erw[yd]at rv;let⟨y,xs,rfl,rt,l⟩:=rv;exact⟨y,rfl,⟨xs,rt.sq⟩,h1.ok rs1 (zk6 rt l)⟩
  |_=>exact h1.elim
def tG(S:Se)(X:Cx)(t:Tg):TG:=λv σ H Q=>∃B φ st ρ w ρ',yE X.K S.cl B φ H st/\yN X.K S.cl B φ H ρ σ/\yd X.K S.cl B φ H w v/\yP t w ρ=AA ρ'/\∀σ',yN X.K S.cl B φ H ρ' σ'->Q σ' H
theorem PG.imp{t t':TG}(h:PG X tg t')(k:∀v σ H Q,t v σ H Q->t' v σ H Q):PG X tg t:=λπ s σ H v u Q I rv q=>h π s σ H v u Q I rv (k v σ H Q q)
def znW{i:Nat}{x:A4}(hN:X.N.Nodup)(hi:X.N[i]?=AA x)(hx:Loc X.env.scope x)(hf:X.fn x=AB \/ X.env.scope.names.lookup x=AA .local:=by first|exact .inl rfl|exact .inr rfl|assumption):PG X (.Name x pos) (tG S X (.n i)):=
 (zio hN hi hx hf).imp λv σ H Q ⟨B,φ,st,ρ,w,ρ',rs,re,rv,e,q⟩=>by
  cases e
  exact q _ (re.set i rv)
def gNs(l:List Nat):TGs:=λvs σ H Q=>vs.length=l.length/\Q ((l.zip vs).foldl (λσ p=>σ.set p.1 (AA p.2)) σ) H
theorem PGs.imp{es:List AZ}{t t':TGs}(h:PGs X es t')(k:∀v σ H Q,t v σ H Q->t' v σ H Q):PGs X es t:=λπ s σ H vs us Q I rv q=>h π s σ H vs us Q I rv (k vs σ H Q q)
def zmP:PGs X [] (gNs []):=zpB.imp λvs σ H Q ⟨h,q⟩=>by
 cases vs with
 |nil=>exact⟨rfl,q⟩
 |cons _ _=>cases h
def zkd{es:List AZ}{l:List Nat}{i:Nat}{x:A4}(hN:X.N.Nodup)(hi:X.N[i]?=AA x)(hx:Loc X.env.scope x)(h2:PGs X es (gNs l))(hf:X.fn x=AB \/ X.env.scope.names.lookup x=AA .local:=by first|exact .inl rfl|exact .inr rfl|assumption):PGs X (.Name x pos::es) (gNs (i::l)):=
 (zkV (zio hN hi hx hf) h2).imp λvs σ H Q ⟨h,q⟩=>by
  cases vs with
  |nil=>cases h
  |cons v vs=>exact⟨v,vs,rfl,by simpa using h,q⟩
theorem yN.sets{K:AG}{cl:Nat->AJ}:∀(l:List Nat) {vs:List PV} {xs:List V} {ρ:IC.Env} {σ:St},yN K cl B φ H ρ σ->yh K cl B φ H vs xs ->
  yN K cl B φ H ((l.zip vs).foldl (λρ p=>ρ.set p.1 (AA p.2)) ρ) ((l.zip xs).foldl (λσ p=>σ.set p.1 (AA p.2)) σ)
 |[],vs,xs,ρ,σ,re,l=>by simpa using re
 |i::is,[],xs,ρ,σ,re,l=>by
  erw[yh]at l;subst l;simpa using re
 |i::is,v::vs,xs,ρ,σ,re,l=>by
  erw[yh]at l;let⟨y,ys,rfl,r,l⟩:=l;erw[ED,DD];exact yN.sets is (re.set i r) l
def zod{es:List AZ}{l:List Nat}{k:Nat}(hc:X.calm=AB)(h:PGs X es (gNs l))(hn:(assignEach es X.env).length=l.length:=by rfl)(hst:(assignEach es X.env).findIdx? (·.1)=none:=by rfl):PG X (.Tuple es k pos) (tG S X (.t l)):=
 (zpq hc h hn hst).imp λv σ H Q ⟨B,φ,st,ρ,w,ρ',rs,re,rv,e,q⟩=>by
  cases w with
  |tp kk vs=>
   erw[yP]at e;split at e
   .rename_i c
    cases e
    erw[yd]at rv;let⟨y,xs,rfl,rt,lr⟩:=rv;have hl:=lr.length;exact⟨y,xs,rfl,rt.sq,by lia,by lia,q _ (yN.sets l re lr)⟩
   .cases e
  |_=>cases e
def zmZ{es:List AZ}{l:List Nat}{k:Nat}(he:PE X a (tE S X ca))(hg:PG X (.Tuple es k p2) (tG S X (.t l)))(hs:swapsWithSole [.Tuple es k p2] a pos.line X.env=pure false:=by rfl)(hw:swappedStores [.Tuple es k p2] a X.env=pure none:=by rfl):
  PS X (.Assign [.Tuple es k p2] a pos) (tS S X (.asg (.t l) ca)):=
 (zlT he hg hs hw).imp λD σ H ⟨B,φ,st,ρ,rs,re,h⟩=>by
  erw[ex]at h;refine tE.fl rs re h λx H1 v st1 φ1 s rs1 re1 rv h1=>?_
  cases e:yP (.t l) v ρ with
  |none=>rw[e]at h1;exact h1.elim
  |some ρ'=>
   rw[e]at h1;exact⟨B,φ1,st1,ρ,v,ρ',rs1,re1,rv,e,λσ' re'=>h1 σ' H1 φ1 .rfl rs1 re'⟩
theorem tI.fl{k:List PV->SO->Fl}{P:It->Hp->Prop}(rs:yE X.K S.cl B φ H st)(re:yN X.K S.cl B φ H ρ σ)(h:yaL S X B φ H ((evi S.call ρ st ci).fl ρ k) D)
  (n:∀x H1 v st1 φ1,Step φ H φ1 H1->yE X.K S.cl B φ1 H1 st1->yN X.K S.cl B φ1 H1 ρ σ->Drw S X B φ1 H1 v x->yaL S X B φ1 H1 (k v st1) D->P x H1):tI S X ci σ H P:=by
 refine⟨B,φ,st,ρ,rs,re,?_⟩
 cases e:evi S.call ρ st ci with
 |ok v st'=>
  rw[e]at h;exact λx H' φ' s rs' rv=>n x H' v st' φ' s rs' (re.step s) rv (h.on s)
 |exc k st'=>
  rw[e]at h;exact λe s' x=>h σ φ H e s' .rfl re x
 |bad=>rw[e]at h;exact h
def zqb(hp:Eb (model X.prog X.w) X.A X.env X.xe)(hc:X.calm=AB)(hi:PI X tg l (tI S X ci))(hg:PG X tg (tG S X ct))(hb:PSs X ss (tSs S X cs))(hs:∀x,foldedSetIterable l X.env x=pure x:=by intro _;rfl):
  PS X (.For tg l ss [] pos) (tS S X (.for ct ci cs)):=
 (zo7 hp hc hi hg hb hs).imp λD σ H ⟨B,φ,st,ρ,rs,re,h⟩=>by
  erw[ex]at h;refine tI.fl rs re h λJ H1 xs st1 φ1 s1 rs1 re1 dr h1=>?_;refine⟨λi m σ H=>∃φ st ρ,i+m=xs.length/\Step φ1 H1 φ H/\yE X.K S.cl B φ H st/\yN X.K S.cl B φ H ρ σ/\yaL S X B φ H (forL ct (λρ2 st2=>exs S.call ρ2 st2 cs) (xs.drop i) ρ st) D,
   ⟨xs.length,φ1,st1,ρ,by lia,.rfl,rs1,re1,by simpa using h1⟩,?_⟩
  rintro i m σ2 H2 ⟨φ2,st2,ρ2,hm,s2,rs2,re2,h2⟩
  by_cases hi:i<xs.length
  .refine .inr ⟨dr.go i φ2 H2 s2 hi,λσ' H'=>∃φ st ρ,Step φ1 H1 φ H'/\yE X.K S.cl B φ H' st/\yN X.K S.cl B φ H' ρ σ'/\yaL S X B φ H' (forL ct (λρ2 st2=>exs S.call ρ2 st2 cs) (xs.drop (i+1)) ρ st) D,
    λσ' H' ⟨φ,st,ρ,s,q⟩=>⟨m-1,by lia,φ,st,ρ,by lia,s,q⟩,λx H3 hy=>?_⟩
   let⟨v,hv,rv,kk⟩:=dr.yld i φ2 H2 st2 x H3 B (λ_ z=>.inl z) s2 rs2 hi hy;have e:xs.drop i=v::xs.drop (i+1):=by
    rw[EN hi];rw[DA hi]at hv;rw[A8 hv]
   have s3:Step φ2 H2 φ2 H3:=⟨λb o _ e=>kk b o e,A0 _,λ_ _ _ e=>e,λ_ h=>.inl h⟩;have rs3:yE X.K S.cl B φ2 H3 st2:=rs2.same kk;rw[e,forL]at h2
   cases eb:yP ct v ρ2 with
   |none=>rw[eb]at h2;exact h2.elim
   |some ρ3=>
    rw[eb]at h2;refine⟨B,φ2,st2,ρ2,v,ρ3,rs3,re2.step s3,rv,eb,λσ' re'=>⟨B,φ2,st2,ρ3,rs3,re',?_⟩⟩;have h3:=yaL.on s3 h2;dsimp only at h3
    cases ee:exs S.call ρ3 st2 cs with
    |nx ρ4 st4=>
     rw[ee]at h3;exact λσ4 H4 φ4 s4 rs4 re4=>⟨φ4,st4,ρ4,s2.trans (s3.trans s4),rs4,re4,yaL.on s4 h3⟩
    |ct ρ4 st4=>
     rw[ee]at h3;exact λσ4 H4 φ4 s4 rs4 re4=>⟨φ4,st4,ρ4,s2.trans (s3.trans s4),rs4,re4,yaL.on s4 h3⟩
    |bk ρ4 st4=>rw[ee]at h3;exact h3
    |rt v4 st4=>rw[ee]at h3;exact h3
    |exc k ρ4 st4=>rw[ee]at h3;exact h3
    |bad=>rw[ee]at h3;exact h3
  .have e:i=xs.length:=by lia
   subst e;rw[GZ,forL]at h2;exact .inl ⟨dr.stop φ2 H2 s2,h2 σ2 H2 φ2 .rfl rs2 re2⟩
def zj7(hp:Eb (model X.prog X.w) X.A X.env X.xe)(hc:PT X c (tTs S X cc))(hb:PSs X ss (tSs S X cs)):PS X (.While c ss [] pos) (tS S X (.while cc cs)):=
 (zkz hp hc hb).imp λD σ H ⟨B,φ,st,ρ,rs,re,h⟩=>by
  erw[ex]at h;refine⟨λm σ H=>∃φ st ρ,yE X.K S.cl B φ H st/\yN X.K S.cl B φ H ρ σ/\yaL S X B φ H (yau (λρ2 st2=>ev S.call ρ2 st2 cc) (λρ2 st2=>exs S.call ρ2 st2 cs) m ρ st) D,⟨100000,φ,st,ρ,rs,re,h⟩,?_⟩
  rintro m σ2 H2 ⟨φ2,st2,ρ2,rs2,re2,h2⟩
  cases m with
  |zero=>exact h2.elim
  |succ m=>
   rw[yau]at h2;rw[flT _ λk st1=>cond k (yax (exs S.call ρ2 st1 cs) λρ2 st2=>yau (λρ2 st2=>ev S.call ρ2 st2 cc) (λρ2 st2=>exs S.call ρ2 st2 cs) m ρ2 st2) (.nx ρ2 st1)]at h2;refine tTs.fl rs2 re2 h2 λk H3 st3 φ3 s3 rs3 re3 h3=>?_
   cases k with
   |false=>exact h3 σ2 H3 φ3 .rfl rs3 re3
   |true=>
    refine⟨λσ' H'=>∃φ st ρ,yE X.K S.cl B φ H' st/\yN X.K S.cl B φ H' ρ σ'/\yaL S X B φ H' (yau (λρ2 st2=>ev S.call ρ2 st2 cc) (λρ2 st2=>exs S.call ρ2 st2 cs) m ρ st) D,
     λσ' H' q=>⟨m,by lia,q⟩,B,φ3,st3,ρ2,rs3,re3,?_⟩
    erw[cond_true]at h3
    cases ee:exs S.call ρ2 st3 cs with
    |nx ρ4 st4=>
     rw[ee]at h3;exact λσ4 H4 φ4 s4 rs4 re4=>⟨φ4,st4,ρ4,rs4,re4,yaL.on s4 h3⟩
    |ct ρ4 st4=>
     rw[ee]at h3;exact λσ4 H4 φ4 s4 rs4 re4=>⟨φ4,st4,ρ4,rs4,re4,yaL.on s4 h3⟩
    |bk ρ4 st4=>rw[ee]at h3;exact h3
    |rt v4 st4=>rw[ee]at h3;exact h3
    |exc k ρ4 st4=>rw[ee]at h3;exact h3
    |bad=>rw[ee]at h3;exact h3
end
section
variable (S:Se)(K:AG)
def yfj{α β:Type}(B:AJ->Prop)(φ:Ph)(H:Hp)(Rel:Ph->Hp->α->β->Prop)(r:R α)(Q:β->Hp->Prop):Prop:=
 match r with
 |.ok v st'=>∀x H' φ',Step φ H φ' H'->yE K S.cl B φ' H' st'->Rel φ' H' v x->Q x H'
 |_=>False
def tE0(c:Ce):TE:=λσ H Q=>∃B φ st ρ,yE K S.cl B φ H st/\yN K S.cl B φ H ρ σ/\yfj S K B φ H (λφ H=>yd K S.cl B φ H) (ev S.call ρ st c) Q
def tT0(c:Ce):TT:=λσ H Q=>∃B φ st ρ,yE K S.cl B φ H st/\yN K S.cl B φ H ρ σ/\yfj S K B φ H RB (ybb (ev S.call ρ st c)) Q
def tG0(t:Tg):TG:=λv σ H Q=>∃B φ st ρ w ρ',yE K S.cl B φ H st/\yN K S.cl B φ H ρ σ/\yd K S.cl B φ H w v/\yP t w ρ=AA ρ'/\∀σ',yN K S.cl B φ H ρ' σ'->Q σ' H
end
section
variable {S:Se}{X:Cx}{K:AG}{cl:Nat->AJ}{σ:St}{B:AJ->Prop}{φ φ1:Ph}{H H1:Hp}{st:SO}{ρ:IC.Env}{pos p p2 px:CW}{a b c o tg l elt iter:AZ}{ca cb cc ce:Ce}{ci:Cit}{ct:Tg}
def zml(hK:X.K=K)(h:PE X a (tE S X ca)):PE X a (tE0 S K ca):=by
 subst hK;refine h.imp λσ H Q kq=>?_;let⟨B,φ,st,ρ,rs,re,q⟩:=kq;refine ⟨B,φ,st,ρ,rs,re,?_⟩
 cases e:ev S.call ρ st ca with
 |ok v st'=>rw[e]at q;exact q
 |exc k st'=>rw[e]at q;exact q.elim
 |bad=>rw[e]at q;exact q
def zm4(hK:X.K=K)(h:PT X a (tTs S X ca)):PTs X [a] (tT0 S K ca):=by
 subst hK;refine znp (h.imp λσ H Q kq=>?_);let⟨B,φ,st,ρ,rs,re,q⟩:=kq;refine ⟨B,φ,st,ρ,rs,re,?_⟩
 cases e:ybb (ev S.call ρ st ca)with
 |ok v st'=>rw[e]at q;exact q
 |exc k st'=>rw[e]at q;exact q.elim
 |bad=>rw[e]at q;exact q
def zkG:PTs X [] (tT0 S K (.cst (.bl AB))):=λπ s σ H Q I ⟨B,φ,st,ρ,rs,re,q⟩=>by
 refine zmR π s σ H Q I ?_;erw[ev,ybb,R.bind,yaR,onO]at q;exact q AB H φ .rfl rs rfl
def zme(hK:X.K=K)(h:PG X tg (tG S X ct)):PG X tg (tG0 S K ct):=by
 subst hK;exact h
theorem ybZ.skip{k:Bool}{D y:AJ}{u:HO}{xs:List V}(hD:B D)(r:ybZ K B φ H k y xs):ybZ K B φ (L2.upd H D u) k y xs:=by
 rcases r with⟨r,b,n⟩|r
 .exact .inl ⟨by rw[ze (show y≠D from λz=>b (z ▸ hD))];exact r,b,n⟩
 .exact .inr r
mutual
theorem yd.skip{D:AJ}{u:HO}(hD:B D):∀(v:PV) (x:V),yd K cl B φ H v x->yd K cl B φ (L2.upd H D u) v x
 |.non,x,h=>by erw[yd]at h ⊢;exact h
 |.bl b,x,h=>by erw[yd]at h ⊢;exact h
 |.int i,x,h=>by erw[yd]at h ⊢;exact h
 |.str y,x,h=>by erw[yd]at h ⊢;exact h
 |.tp k vs,x,h=>by
  erw[yd]at h ⊢;let⟨y,xs,e,r,l⟩:=h;exact⟨y,xs,e,r.skip hD,yh.skip hD vs xs l⟩
 |.lst vs,x,h=>by
  erw[yd]at h ⊢;let⟨y,xs,e,⟨r,b,n⟩,l⟩:=h;exact⟨y,xs,e,⟨by rw[ze (show y≠D from λz=>b (z ▸ hD))];exact r,b,n⟩,yh.skip hD vs xs l⟩
 |.loc n,x,h=>by erw[yd]at h ⊢;exact h
 |.fnc j,x,h=>by erw[yd]at h ⊢;exact h
 |.exn c,x,h=>by
  erw[yd]at h ⊢;let⟨y,e,r,b,n⟩:=h;exact⟨y,e,by rw[ze (show y≠D from λz=>b (z ▸ hD))];exact r,b,n⟩
 |.scr vs,x,h=>by
  erw[yd]at h ⊢;let⟨y,xs,e,r,l⟩:=h;refine⟨y,xs,e,?_,yh.skip hD vs xs l⟩;rcases r with⟨r,b,n⟩|r
  .refine .inl ⟨?_,b,n⟩;have ne:y≠D:=λz=>b (z ▸ hD);rcases r with r|⟨o,r⟩
   .exact .inl (by rw[ze ne];exact r)
   .exact .inr ⟨o,by rw[ze ne];exact r⟩
  .exact .inr r
theorem yh.skip{D:AJ}{u:HO}(hD:B D):∀(v:List PV) (x:List V),yh K cl B φ H v x->yh K cl B φ (L2.upd H D u) v x
 |[],x,h=>by erw[yh]at h ⊢;exact h
 |v::vs,x,h=>by
  erw[yh]at h ⊢;let⟨y,ys,e,r,l⟩:=h;exact⟨y,ys,e,yd.skip hD v y r,yh.skip hD vs ys l⟩
end
theorem DK.skip{D:AJ}{u:HO}(hD:B D):∀{kvs:List (PV×PV)} {ks:List (Key×V)},DK K cl B φ H kvs ks->DK K cl B φ (L2.upd H D u) kvs ks
 |[],ks,h=>h
 |(k,v)::r,ks,h=>by
  let⟨q,x,t,e,m,rv,l⟩:=h;exact⟨q,x,t,e,m,rv.skip hD,DK.skip hD l⟩
theorem DT.skip{D:AJ}{u:HO}(hD:B D):∀{kvs:List (PV×PV)} {ks:List (List Key×V)},DT K cl B φ H kvs ks->DT K cl B φ (L2.upd H D u) kvs ks
 |[],ks,h=>h
 |(k,v)::r,ks,h=>by
  let⟨q,x,t,e,m,rv,l⟩:=h;exact⟨q,x,t,e,m,rv.skip hD,DT.skip hD l⟩
theorem FS.skip{D:AJ}{u:HO}(hD:B D):∀{kvs:List (A4×PV)} {ks:List (A4×V)},FS K cl B φ H kvs ks->FS K cl B φ (L2.upd H D u) kvs ks
 |[],ks,h=>h
 |(k,v)::r,ks,h=>by
  let⟨x,t,e,rv,l⟩:=h;exact⟨x,t,e,rv.skip hD,FS.skip hD l⟩
theorem yE.skip{D:AJ}{u:HO}(hD:B D)(rs:yE K cl B φ H st):yE K cl B φ (L2.upd H D u) st:=by
 refine⟨rs.len,rs.inj,λn y e=>?_,rs.liv,rs.nb,λy h=>?_⟩
 .let⟨o,q,r⟩:=rs.obj n y e;have ne:y≠D:=λz=>rs.nb y (A3 e) (z ▸ hD);refine⟨o,q,?_⟩
  cases o with
  |lst vs=>
   let⟨xs,hx,l⟩:=r;exact⟨xs,by rw[ze ne];exact hx,l.skip hD⟩
  |dct t kvs=>
   cases t with
   |false=>
    let⟨xs,hx,l⟩:=r;exact⟨xs,by rw[ze ne];exact hx,l.skip hD⟩
   |true=>
    let⟨xs,hx,l⟩:=r;exact⟨xs,by rw[ze ne];exact hx,l.skip hD⟩
  |ins c fs=>
   let⟨ks,⟨dx,hx⟩,l⟩:=r;exact⟨ks,⟨dx,by rw[ze ne];exact hx⟩,l.skip hD⟩
  |dead=>exact r.elim
 .by_cases z:y=D
  .subst z;exact⟨u,zf⟩
  .let⟨w,e⟩:=rs.dom y h;exact⟨w,by rw[ze z];exact e⟩
theorem yN.skip{D:AJ}{u:HO}(hD:B D)(re:yN K cl B φ H ρ σ):yN K cl B φ (L2.upd H D u) ρ σ:=⟨re.len,λi v e=>by
 let⟨x,h,q⟩:=re.get i v e;exact⟨x,h,q.skip hD⟩⟩
def Bx(B:AJ->Prop)(D:AJ):AJ->Prop:=λy=>B y \/ y=D
def zjF{D:AJ}(hn:H D=AD):∀y,Bx B D y->B y \/ H y=none:=λy z=>z.elim .inl λq=>.inr (q ▸ hn)
theorem yd.more{D:AJ}(hn:H D=AD){v:PV}{x:V}(h:yd K cl B φ H v x):yd K cl (Bx B D) φ H v x:=h.moreB (zjF hn)
theorem yh.more{D:AJ}(hn:H D=AD){v:List PV}{x:List V}(h:yh K cl B φ H v x):yh K cl (Bx B D) φ H v x:=h.moreB (zjF hn)
mutual
theorem yd.less{D:AJ}:∀(v:PV) (x:V),yd K cl (Bx B D) φ H v x->yd K cl B φ H v x
 |.non,x,h=>by erw[yd]at h ⊢;exact h
 |.bl b,x,h=>by erw[yd]at h ⊢;exact h
 |.int i,x,h=>by erw[yd]at h ⊢;exact h
 |.str y,x,h=>by erw[yd]at h ⊢;exact h
 |.tp k vs,x,h=>by
  erw[yd]at h ⊢;let⟨y,xs,e,r,l⟩:=h;refine⟨y,xs,e,?_,yh.less vs xs l⟩;rcases r with⟨r,b,n⟩|r
  .exact .inl ⟨r,λz=>b (.inl z),n⟩
  .exact .inr r
 |.lst vs,x,h=>by
  erw[yd]at h ⊢;let⟨y,xs,e,⟨r,b,n⟩,l⟩:=h;exact⟨y,xs,e,⟨r,λz=>b (.inl z),n⟩,yh.less vs xs l⟩
 |.loc n,x,h=>by erw[yd]at h ⊢;exact h
 |.fnc j,x,h=>by erw[yd]at h ⊢;exact h
 |.exn c,x,h=>by
  erw[yd]at h ⊢;let⟨y,e,r,b,n⟩:=h;exact⟨y,e,r,λz=>b (.inl z),n⟩
 |.scr vs,x,h=>by
  erw[yd]at h ⊢;let⟨y,xs,e,r,l⟩:=h;refine⟨y,xs,e,?_,yh.less vs xs l⟩;rcases r with⟨r,b,n⟩|r
  .exact .inl ⟨r,λz=>b (.inl z),n⟩
  .exact .inr r
theorem yh.less{D:AJ}:∀(v:List PV) (x:List V),yh K cl (Bx B D) φ H v x->yh K cl B φ H v x
 |[],x,h=>by erw[yh]at h ⊢;exact h
 |v::vs,x,h=>by
  erw[yh]at h ⊢;let⟨y,ys,e,r,l⟩:=h;exact⟨y,ys,e,yd.less v y r,yh.less vs ys l⟩
end
theorem DK.more{D:AJ}(hn:H D=AD):∀{kvs:List (PV×PV)} {ks:List (Key×V)},DK K cl B φ H kvs ks->DK K cl (Bx B D) φ H kvs ks
 |[],ks,h=>h
 |(k,v)::r,ks,h=>by
  let⟨q,x,t,e,m,rv,l⟩:=h;exact⟨q,x,t,e,m,rv.more hn,DK.more hn l⟩
theorem DT.more{D:AJ}(hn:H D=AD):∀{kvs:List (PV×PV)} {ks:List (List Key×V)},DT K cl B φ H kvs ks->DT K cl (Bx B D) φ H kvs ks
 |[],ks,h=>h
 |(k,v)::r,ks,h=>by
  let⟨q,x,t,e,m,rv,l⟩:=h;exact⟨q,x,t,e,m,rv.more hn,DT.more hn l⟩
theorem FS.more{D:AJ}(hn:H D=AD):∀{kvs:List (A4×PV)} {ks:List (A4×V)},FS K cl B φ H kvs ks->FS K cl (Bx B D) φ H kvs ks
 |[],ks,h=>h
 |(k,v)::r,ks,h=>by
  let⟨x,t,e,rv,l⟩:=h;exact⟨x,t,e,rv.more hn,FS.more hn l⟩
theorem DK.less{D:AJ}:∀{kvs:List (PV×PV)} {ks:List (Key×V)},DK K cl (Bx B D) φ H kvs ks->DK K cl B φ H kvs ks
 |[],ks,h=>h
 |(k,v)::r,ks,h=>by
  let⟨q,x,t,e,m,rv,l⟩:=h;exact⟨q,x,t,e,m,rv.less,DK.less l⟩
theorem DT.less{D:AJ}:∀{kvs:List (PV×PV)} {ks:List (List Key×V)},DT K cl (Bx B D) φ H kvs ks->DT K cl B φ H kvs ks
 |[],ks,h=>h
 |(k,v)::r,ks,h=>by
  let⟨q,x,t,e,m,rv,l⟩:=h;exact⟨q,x,t,e,m,rv.less,DT.less l⟩
theorem FS.less{D:AJ}:∀{kvs:List (A4×PV)} {ks:List (A4×V)},FS K cl (Bx B D) φ H kvs ks->FS K cl B φ H kvs ks
 |[],ks,h=>h
 |(k,v)::r,ks,h=>by
  let⟨x,t,e,rv,l⟩:=h;exact⟨x,t,e,rv.less,FS.less l⟩
theorem yE.less{D:AJ}(rs:yE K cl (Bx B D) φ H st):yE K cl B φ H st:=by
 refine⟨rs.len,rs.inj,λn y e=>?_,rs.liv,λy h z=>rs.nb y h (.inl z),λy h=>rs.dom y (.inl h)⟩;let⟨o,q,r⟩:=rs.obj n y e;refine⟨o,q,?_⟩
 cases o with
 |lst vs=>let⟨xs,hx,l⟩:=r;exact⟨xs,hx,l.less⟩
 |dct t kvs=>cases t<;>(let⟨xs,hx,l⟩:=r;exact⟨xs,hx,l.less⟩)
 |ins c fs=>let⟨ks,hx,l⟩:=r;exact⟨ks,hx,l.less⟩
 |dead=>exact r.elim
theorem yE.more{D:AJ}{u:HO}(hn:H D=AD)(rs:yE K cl B φ H st):yE K cl (Bx B D) φ (L2.upd H D u) st:=by
 have nD:AA D∉φ:=λz=>by
  let⟨w,e⟩:=rs.there z;rw[hn]at e;cases e
 have s:Step φ H φ (L2.upd H D u):=.upd hn;have rs':=rs.upd (o:=u) hn;refine⟨rs.len,rs.inj,λn y e=>?_,rs.liv,λy h z=>z.elim (rs.nb y h) λq=>nD (q ▸ h),λy h=>?_⟩
 .let⟨o,q,r⟩:=rs.obj n y e;have ne:y≠D:=λz=>nD (z ▸ A3 e);have hD:Bx B D D:=.inr rfl;refine⟨o,q,?_⟩
  cases o with
  |lst vs=>let⟨xs,hx,l⟩:=r;exact⟨xs,by rw[ze ne];exact hx,(l.more hn).skip hD⟩
  |dct t kvs=>
   cases t with
   |false=>let⟨xs,hx,l⟩:=r;exact⟨xs,by rw[ze ne];exact hx,(l.more hn).skip hD⟩
   |true=>let⟨xs,hx,l⟩:=r;exact⟨xs,by rw[ze ne];exact hx,(l.more hn).skip hD⟩
  |ins c fs=>let⟨ks,⟨dx,hx⟩,l⟩:=r;exact⟨ks,⟨dx,by rw[ze ne];exact hx⟩,(l.more hn).skip hD⟩
  |dead=>exact r.elim
 .rcases h with h|h
  .exact rs'.dom y h
  .subst h;exact⟨u,zf⟩
theorem yN.more{D:AJ}{u:HO}(hn:H D=AD)(re:yN K cl B φ H ρ σ):yN K cl (Bx B D) φ (L2.upd H D u) ρ σ:=⟨re.len,λi v e=>by
 let⟨x,h,q⟩:=re.get i v e;exact⟨x,h,(q.more hn).skip (.inr rfl)⟩⟩
def yaH:Tg->List (Option Nat)->Bool
 |.n i,sl=>decide (sl[i]?=AA AD)
 |.t l,sl=>l.all λi=>decide (sl[i]?=AA AD)
def zgB:∀(l:List Nat) (vs:List PV) (ρ:IC.Env) (j:Nat),j∉l->((l.zip vs).foldl (λρ p=>ρ.set p.1 (AA p.2)) ρ)[j]?=ρ[j]?
 |[],vs,ρ,j,h=>by simp
 |i::is,[],ρ,j,h=>by simp
 |i::is,v::vs,ρ,j,h=>by
  erw[ED,DD];rw[zgB is vs _ j λz=>h (A7 _ z),Ah]
  rintro rfl
  exact h Ao
def zgT:∀(l:List Nat) (vs:List PV) (ρ:IC.Env),((l.zip vs).foldl (λρ p=>ρ.set p.1 (AA p.2)) ρ).length=ρ.length
 |[],vs,ρ=>by simp
 |i::is,[],ρ=>by simp
 |i::is,v::vs,ρ=>by
  erw[ED,DD];rw[zgT is vs,Ba]
theorem yN.untgt{sl:List (Option Nat)}{ρ0 ρ1:IC.Env}{v:PV}(hf:yaH ct sl=AB)(h0:∀(i:Nat),sl[i]?=AA AD->ρ0[i]?=AA AD)(hb:yP ct v ρ0=AA ρ1)(re:yN K cl B φ H ρ1 σ):yN K cl B φ H ρ0 σ:=by
 cases ct with
 |n i=>
  cases hb
  erw[yaH,decide_eq_true_eq]at hf;refine⟨by rw[<-re.len,Ba],λj w e=>re.get j w ?_⟩;rw[Ah]
  .exact e
  .rintro rfl
   rw[h0 _ hf]at e;cases e
 |t l=>
  cases v with
  |tp k vs=>
   erw[yP]at hb;split at hb
   .cases hb
    erw[yaH,BF,decide_eq_true_eq]at hf;refine⟨by rw[<-re.len,zgT],λj w e=>re.get j w ?_⟩;rw[zgB]
    .exact e
    .intro z;rw[h0 _ (hf j z)]at e;cases e
   .cases hb
  |_=>cases hb
theorem yN.inn{sl:List (Option Nat)}(re:yN K cl B φ H ρ σ):yN K cl B φ H (sl.map λo=>o.bind λj=>(ρ[j]?).join) (L2.inn sl σ):=by
 unfold L2.inn;refine⟨by simp,λi v e=>?_⟩;rw[Bu]at e ⊢
 cases q:sl[i]? with
 |none=>rw[q]at e;cases e
 |some o=>
  rw[q]at e
  cases o with
  |none=>cases e
  |some j=>
   erw[Dm,B3,GQ]at e ⊢
   cases q2:ρ[j]? with
   |none=>rw[q2]at e;cases e
   |some w=>
    rw[q2]at e;erw[Eh]at e;subst e;let⟨x,hx,rv⟩:=re.get j v q2;exact⟨x,by rw[hx];rfl,rv⟩
def zq4:1000000<sizeLine:=by rw[DG];decide
def zpp{α:Type}{o:Option Bool}{k:Bool->R α}{z:α}{s:SO}(h:onO o k=.ok z s):∃b,o=AA b/\k b=.ok z s:=by
 cases o with
 |none=>cases h
 |some b=>exact⟨b,rfl,h⟩
def zaG{α β:Type}{r:R α}{k:α->SO->R β}{z:β}{s:SO}(h:r.bind k=.ok z s):∃a s1,r=.ok a s1/\k a s1=.ok z s:=by
 cases r with
 |ok a s1=>exact⟨a,s1,rfl,h⟩
 |exc c s=>cases h
 |bad=>cases h
def zjr{sl:List (Option Nat)}(hf:yaH ct sl=AB){H:Hp}{Q:VK}(h:tE S X (.comp sl ct ci cc ce) σ H Q):ydF sl (tI S X ci) (tG0 S X.K ct) (tT0 S X.K cc) (tE0 S X.K ce) σ H Q:=by
  let⟨B,φ,st,ρ,rs,re,h⟩:=h;erw[ev]at h;refine⟨B,φ,st,ρ,rs,re,(Run.bind h).mono λJ H1 kq=>?_⟩;let⟨xs,st1,φ1,s1,rs1,dr,h1⟩:=kq;refine λD hD=>?_
  generalize hone:(λ(x:PV) (st2:SO)=>match yP ct x (sl.map λo=>o.bind λj=>(ρ[j]?).join)with
   |none=>(R.bad:R (Option PV))
   |some ρ1=>(ev S.call ρ1 st2 cc).bind λb st3=>onO (yaR st3 b) λk=>cond k ((ev S.call ρ1 st3 ce).bind λy st4=>.ok (AA y) st4) (.ok AD st3))=one at h1
  cases e:ya1 one xs st1 with
  |exc k s=>rw[e]at h1;exact h1.elim
  |bad=>rw[e]at h1;exact h1.elim
  |ok zs st5=>
   rw[e]at h1;erw[yb3]at h1;split at h1
   case isFalse=>exact h1.elim
   rename_i hz;have nB:¬B D:=rs1.nB hD;have nD:AA D∉φ1:=λz=>by
    let⟨w,e⟩:=rs1.there z;rw[hD]at e;cases e
   refine⟨λi m σc ys H2=>∃φ2 st2 vs rest,i+m=xs.length/\Step φ1 H1 φ2 H2/\H2 D=AA (.lst ys)/\AA D∉φ2/\yE X.K S.cl (Bx B D) φ2 H2 st2/\yN X.K S.cl (Bx B D) φ2 H2 (sl.map λo=>o.bind λj=>(ρ[j]?).join) σc /\
     yh X.K S.cl (Bx B D) φ2 H2 vs ys/\ya1 one (xs.drop i) st2=.ok rest st5/\vs++rest=zs,
    ⟨xs.length,φ1,st1,[],zs,by lia,.upd hD,zf,nD,rs1.more hD,(yN.inn (re.step s1)).more hD,by erw[yh],by simpa using e,rfl⟩,?_⟩
   rintro i m σc ys H2 ⟨φ2,st2,vs,rest,hm,s2,hD2,nD2,rs2,re2,l2,ec,ez⟩
   refine⟨hD2,?_⟩
   by_cases hi:i<xs.length
   .have hl2:=l2.length;have hml:=zq4;have hzl:=congrArg C7 ez;rw[Av]at hzl;refine .inr ⟨dr.go i φ2 H2 s2 hi,by lia,λσ' ys' H'=>∃φ2 st2 vs rest,Step φ1 H1 φ2 H'/\H' D=AA (.lst ys')/\AA D∉φ2/\yE X.K S.cl (Bx B D) φ2 H' st2/\yN X.K S.cl (Bx B D) φ2 H' (sl.map λo=>o.bind λj=>(ρ[j]?).join) σ' /\
     yh X.K S.cl (Bx B D) φ2 H' vs ys'/\ya1 one (xs.drop (i+1)) st2=.ok rest st5/\vs++rest=zs,λσ' ys' H' ⟨φ2,st2,vs,rest,q⟩=>⟨m-1,by lia,φ2,st2,vs,rest,by lia,q⟩,λx H3 hy=>?_⟩
    let⟨v,hv,rv,kk⟩:=dr.yld i φ2 H2 st2 x H3 (Bx B D) (λy z=>z.elim .inl λq=>.inr (q ▸ hD)) s2 rs2 hi hy;have s3:Step φ2 H2 φ2 H3:=⟨λb o _ e=>kk b o e,A0 _,λ_ _ _ e=>e,λ_ h=>.inl h⟩;have rs3:yE X.K S.cl (Bx B D) φ2 H3 st2:=rs2.same kk;have ed:xs.drop i=v::xs.drop (i+1):=by
     rw[EN hi];rw[DA hi]at hv;rw[A8 hv]
    rw[ed,ya1]at ec;let⟨o,st3,e1,ec⟩:=zaG ec;let⟨rest',st4,e2,ec⟩:=zaG ec;rw[<-hone]at e1;dsimp only at e1
    cases eb:yP ct v (sl.map λo=>o.bind λj=>(ρ[j]?).join)with
    |none=>rw[eb]at e1;cases e1
    |some ρ1=>
     rw[eb]at e1;dsimp only at e1;let⟨bv,st6,e3,e1⟩:=zaG e1;let⟨k,e4,e1⟩:=zpp e1;have er:st4=st5/\yb5 o rest'=rest:=by
      injection ec with q1 q2;exact⟨q2,q1⟩
     let⟨rfl,rfl⟩:=er;refine⟨Bx B D,φ2,st2,_,v,ρ1,rs3,re2.step s3,rv,eb,λσ4 re4=>⟨Bx B D,φ2,st2,ρ1,rs3,re4,?_⟩⟩;have et:ybb (ev S.call ρ1 st2 cc)=.ok k st6:=by
      rw[e3];erw[ybb,R.bind,e4,onO]
     rw[et]
     rintro k' H5 φ5 s5 rs5 rfl
     have nD5:AA D∉φ5:=λz=>by
      rcases s5.new D z with q|q
      .exact nD2 q
      .rw[kk D _ hD2]at q;cases q
     have hD5:H5 D=AA (.lst ys):=s5.keep D _ nD2 (kk D _ hD2);have s25:Step φ1 H1 φ5 H5:=s2.trans (s3.trans s5);have l5:=(l2.step s3).step s5;have re5:yN X.K S.cl (Bx B D) φ5 H5 ρ1 σ4:=re4.step s5;have h0:∀(i:Nat),sl[i]?=AA AD->(sl.map λo=>o.bind λj=>(ρ[j]?).join)[i]?=AA none:=λi q=>by
      rw[Bu,q];rfl
     cases k with
     |false=>
      erw[cond_false]at e1
      cases e1
      exact⟨φ5,_,vs,rest',s25,hD5,nD5,rs5,yN.untgt hf h0 eb re5,l5,e2,ez⟩
     |true=>
      erw[cond_true]at e1;let⟨y,st7,e5,e1⟩:=zaG e1
      cases e1
      refine⟨Bx B D,φ5,st6,ρ1,rs5,re5,?_⟩;rw[e5];intro y' H6 φ6 s6 rs6 ry;have nD6:AA D∉φ6:=λz=>by
       rcases s6.new D z with q|q
       .exact nD5 q
       .rw[hD5]at q;cases q
      have hD6:H6 D=AA (.lst ys):=s6.keep D _ nD5 hD5;have hBD:Bx B D D:=.inr rfl;refine⟨hD6,φ6,_,vs++[y],rest',?_,zf,nD6,rs6.skip hBD,(yN.untgt hf h0 eb (re5.step s6)).skip hBD,((l5.step s6).append (by erw[yh];exact⟨y',[],rfl,ry,rfl⟩)).skip hBD,e2,?_⟩
      .have s16:=s25.trans s6;exact⟨λb o n q=>by rw[ze (zg q hD)];exact s16.keep b o n q,s16.len,s16.pre,s16.new⟩
      .simpa [yb5] using ez
   .have ei:i=xs.length:=by lia
    subst ei;rw[GZ,ya1]at ec
    cases ec
    refine .inl ⟨dr.stop φ2 H2 s2,h1 (.ref D) H2 φ2 s2 rs2.less ?_⟩;erw[yd];exact⟨D,ys,rfl,⟨hD2,nB,nD2⟩,by rw[<-ez,CU];exact l2.less⟩
def zni{sc:Bj}{NC:List A4}{sl:List (Option Nat)}{ifs:List AZ}(hc:X.calm=AB)(O:yao X sc NC sl)(hf:yaH ct sl=AB)(hi:PI X tg iter (tI S X ci))(hg:∀j,PG (cxC X sc NC j) tg (tG0 S X.K ct))
  (ht:∀j,PTs (cxC X sc NC j) ifs (tT0 S X.K cc)) (he:∀j,PE (cxC X sc NC j) elt (tE0 S X.K ce)) (hs:∀x,foldedSetIterable iter X.env x=pure x:=by intro _;rfl):
  PE X (.ListComp elt [⟨tg,iter,ifs,0⟩] sc pos) (tE S X (.comp sl ct ci cc ce)):=
 (zmH hc O hi hg ht he hs).imp λσ H Q h=>zjr hf h
end
end L2
namespace IC
open PySem
def RLe{α:Type}(r q:R α):Prop:=r=.bad \/ r=q
def FLe(f g:Fl):Prop:=f=.bad \/ f=g
abbrev Cl:=Nat->List PV->SO->R PV
def CLe(c d:Cl):Prop:=∀f a s,RLe (c f a s) (d f a s)
theorem RLe.rfl{α:Type}{r:R α}:RLe r r:=.inr (D8 _)
theorem FLe.rfl{f:Fl}:FLe f f:=.inr (D8 _)
theorem RLe.bind{α β:Type}{r q:R α}{k l:α->SO->R β}(h:RLe r q)(hk:∀a s,RLe (k a s) (l a s)):RLe (r.bind k) (q.bind l):=by
 rcases h with h|h
 .subst h;exact .inl (D8 _)
 .subst h
  cases r with
  |ok a s=>exact hk a s
  |exc c s=>exact .rfl
  |bad=>exact .rfl
theorem RLe.fl{α:Type}{r q:R α}{ρ:Env}{k l:α->SO->Fl}(h:RLe r q)(hk:∀a s,FLe (k a s) (l a s)):FLe (r.fl ρ k) (q.fl ρ l):=by
 rcases h with h|h
 .subst h;exact .inl (D8 _)
 .subst h
  cases r with
  |ok a s=>exact hk a s
  |exc c s=>exact .rfl
  |bad=>exact .rfl
theorem RLe.comp{r q:R (List PV)}(h:RLe r q):RLe (yb3 r) (yb3 q):=by
 rcases h with h|h
 .subst h;exact .inl (D8 _)
 .subst h;exact .rfl
def zih{α:Type}{x:PV}{k l:Bool->R α}(h:∀b,RLe (k b) (l b)):RLe (onBl x k) (onBl x l):=by
 cases x with
 |bl b=>exact h b
 |_=>exact .rfl
def zeo{α:Type}{x:Option Bool}{k l:Bool->R α}(h:∀b,RLe (k b) (l b)):RLe (onO x k) (onO x l):=by
 cases x with
 |some b=>exact h b
 |none=>exact .rfl
def zl6{x:Option Bool}{k l:Bool->Fl}(h:∀b,FLe (k b) (l b)):FLe (onF x k) (onF x l):=by
 cases x with
 |some b=>exact h b
 |none=>exact .rfl
def zoi{α:Type}{x:Option (Option Int)}{k l:Option Int->R α}(h:∀b,RLe (k b) (l b)):RLe (onP x k) (onP x l):=by
 cases x with
 |some b=>exact h b
 |none=>exact .rfl
def zcR{α:Type}{b:Bool}{r q r' q':R α}(h:RLe r q)(h':RLe r' q'):RLe (cond b r r') (cond b q q'):=by
 cases b
 .exact h'
 .exact h
def zgA{b:Bool}{r q r' q':Fl}(h:FLe r q)(h':FLe r' q'):FLe (cond b r r') (cond b q q'):=by
 cases b
 .exact h'
 .exact h
def zcp{f g:PV->SO->R (Option PV)}(h:∀x s,RLe (f x s) (g x s)):∀xs s,RLe (ya1 f xs s) (ya1 g xs s)
 |[],s=>.rfl
 |x::xs,s=>(h x s).bind λo s1=>(zcp h xs s1).bind λys s2=>.rfl
def zde{f g:Fl}{k l:Env->SO->Fl}(h:FLe f g)(hk:∀ρ s,FLe (k ρ s) (l ρ s)):FLe (yax f k) (yax g l):=by
 rcases h with h|h
 .subst h;exact .inl (D8 _)
 .subst h
  cases f with
  |nx ρ s=>exact hk ρ s
  |ct ρ s=>exact hk ρ s
  |_=>exact .rfl
def zdR{t:Tg}{f g:Env->SO->Fl}(h:∀ρ s,FLe (f ρ s) (g ρ s)):∀xs ρ s,FLe (forL t f xs ρ s) (forL t g xs ρ s)
 |[],ρ,s=>.rfl
 |x::xs,ρ,s=>by
  unfold forL
  cases yP t x ρ with
  |none=>exact .rfl
  |some ρ1=>exact zde (h ρ1 s) λρ2 s2=>zdR h xs ρ2 s2
def zfm{t u:Env->SO->R PV}{f g:Env->SO->Fl}(ht:∀ρ s,RLe (t ρ s) (u ρ s))(h:∀ρ s,FLe (f ρ s) (g ρ s)):∀n ρ s,FLe (yau t f n ρ s) (yau u g n ρ s)
 |0,ρ,s=>.rfl
 |n+1,ρ,s=>by
  unfold yau;exact(ht ρ s).fl λx s1=>zl6 λb=>zgA (zde (h ρ s1) λρ2 s2=>zfm ht h n ρ2 s2) .rfl
mutual
theorem zc{c d:Cl}(h:CLe c d):∀(e:Ce) (ρ:Env) (s:SO),RLe (ev c ρ s e) (ev d ρ s e)
 |.cst v,ρ,s=>by exact .rfl
 |.var i,ρ,s=>by exact .rfl
 |.bin o a b,ρ,s=>by
  exact(zc h a ρ s).bind λx s1=>(zc h b ρ s1).bind λy s2=>.rfl
 |.neg a,ρ,s=>by
  exact(zc h a ρ s).bind λx s1=>.rfl
 |.not a,ρ,s=>by
  exact(zc h a ρ s).bind λx s1=>.rfl
 |.and a b,ρ,s=>by
  refine(zc h a ρ s).bind λx s1=>?_;exact zih λk=>zcR (zc h b ρ s1) .rfl
 |.or a b,ρ,s=>by
  refine(zc h a ρ s).bind λx s1=>?_;exact zih λk=>zcR .rfl (zc h b ρ s1)
 |.cmp o a b,ρ,s=>by
  exact(zc h a ρ s).bind λx s1=>(zc h b ρ s1).bind λy s2=>.rfl
 |.chain o p a b k,ρ,s=>by
  refine(zc h a ρ s).bind λx s1=>(zc h b ρ s1).bind λy s2=>?_;exact zeo λq=>zcR ((zc h k ρ s2).bind λz s3=>.rfl) .rfl
 |.ite k a b,ρ,s=>by
  exact(zc h k ρ s).bind λx s1=>zeo λq=>zcR (zc h a ρ s1) (zc h b ρ s1)
 |.tup es,ρ,s=>by
  exact(zag h es ρ s).bind λx s1=>.rfl
 |.lst es,ρ,s=>by
  exact(zag h es ρ s).bind λx s1=>.rfl
 |.newl es,ρ,s=>by
  exact(zag h es ρ s).bind λx s1=>.rfl
 |.newd kvs,ρ,s=>by exact .rfl
 |.dict0 t,ρ,s=>by exact .rfl
 |.idx a i,ρ,s=>by
  exact(zc h a ρ s).bind λx s1=>(zc h i ρ s1).bind λy s2=>.rfl
 |.slc a l u,ρ,s=>by
  exact(zc h a ρ s).bind λx s1=>(zc h l ρ s1).bind λy s2=>zoi λo=>(zc h u ρ s2).bind λz s3=>.rfl
 |.call f es,ρ,s=>by
  exact(zag h es ρ s).bind λx s1=>h f x s1
 |.blt b es,ρ,s=>by
  exact(zag h es ρ s).bind λx s1=>.rfl
 |.mth m o es,ρ,s=>by
  exact(zc h o ρ s).bind λx s1=>zeo λ_=>(zag h es ρ s1).bind λy s2=>.rfl
 |.isi a ts,ρ,s=>by
  exact(zc h a ρ s).bind λx s1=>.rfl
 |.comp sl tg it k e,ρ,s=>by
  refine(ziB h it ρ s).bind λxs s1=>?_;have q:=λ(f g:PV->SO->R (Option PV)) (hfg:∀x s,RLe (f x s) (g x s))=>zcp hfg xs s1;refine RLe.comp (zcp (λx s2=>?_) xs s1)
  cases yP tg x _ with
  |none=>exact .rfl
  |some ρ1=>
   dsimp only;exact(zc h k ρ1 s2).bind λb s3=>zeo λq=>zcR ((zc h e ρ1 s3).bind λy s4=>.rfl) .rfl
 |.nope,ρ,s=>by exact .rfl
 |.frz a,ρ,s=>by
  exact(zc h a ρ s).bind λx s1=>.rfl
theorem zag{c d:Cl}(h:CLe c d):∀(e:Ces) (ρ:Env) (s:SO),RLe (evs c ρ s e) (evs d ρ s e)
 |.nil,ρ,s=>by exact .rfl
 |.cons e es,ρ,s=>by
  exact(zc h e ρ s).bind λx s1=>(zag h es ρ s1).bind λy s2=>.rfl
theorem ziB{c d:Cl}(h:CLe c d):∀(e:Cit) (ρ:Env) (s:SO),RLe (evi c ρ s e) (evi d ρ s e)
 |.seq e,ρ,s=>by
  exact(zc h e ρ s).bind λx s1=>.rfl
 |.range1 a,ρ,s=>by
  exact(zc h a ρ s).bind λx s1=>.rfl
 |.range2 a b,ρ,s=>by
  exact(zc h a ρ s).bind λx s1=>(zc h b ρ s1).bind λy s2=>.rfl
 |.rangeD a b,ρ,s=>by
  exact(zc h a ρ s).bind λx s1=>(zc h b ρ s1).bind λy s2=>.rfl
 |.enum e,ρ,s=>by
  exact(zc h e ρ s).bind λx s1=>.rfl
 |.zip a b,ρ,s=>by
  exact(zc h a ρ s).bind λx s1=>(zc h b ρ s1).bind λy s2=>.rfl
 |.revl e,ρ,s=>by
  exact(zc h e ρ s).bind λx s1=>.rfl
 |.revr e,ρ,s=>by
  exact(zc h e ρ s).bind λx s1=>.rfl
 |.chars e,ρ,s=>by
  exact(zc h e ρ s).bind λx s1=>.rfl
end
mutual
theorem zqJ{c d:Cl}(h:CLe c d):∀(x:Cs) (ρ:Env) (s:SO),FLe (ex c ρ s x) (ex d ρ s x)
 |.expr e,ρ,s=>by
  exact(zc h e ρ s).fl λx s1=>.rfl
 |.asg t e,ρ,s=>by
  exact(zc h e ρ s).fl λx s1=>.rfl
 |.six o i e,ρ,s=>by
  exact(zc h e ρ s).fl λx s1=>(zc h o ρ s1).fl λy s2=>(zc h i ρ s2).fl λz s3=>.rfl
 |.dput o i e,ρ,s=>by
  exact(zc h e ρ s).fl λx s1=>(zc h o ρ s1).fl λy s2=>(zc h i ρ s2).fl λz s3=>.rfl
 |.aug i o e,ρ,s=>by
  first|unfold ev|unfold ex|unfold evs|unfold evi|unfold exs
  split
  .exact(zc h e ρ s).fl λx s1=>.rfl
  .exact .rfl
 |.ret e,ρ,s=>by
  exact(zc h e ρ s).fl λx s1=>.rfl
 |.ite k a b,ρ,s=>by
  exact(zc h k ρ s).fl λx s1=>zl6 λq=>zgA (zaz h a ρ s1) (zaz h b ρ s1)
 |.for t it b,ρ,s=>by
  exact(ziB h it ρ s).fl λxs s1=>zdR (λρ2 s2=>zaz h b ρ2 s2) xs ρ s1
 |.while k b,ρ,s=>by
  exact zfm (λρ2 s2=>zc h k ρ2 s2) (λρ2 s2=>zaz h b ρ2 s2) _ ρ s
 |.nope,ρ,s=>by exact .rfl
 |.mkr i D n es,ρ,s=>by
  refine(zc h n ρ s).fl λx s1=>?_;split
  .exact((zag h es _ s1).bind λvs s2=>h _ vs s2).fl λv s3=>.rfl
  .exact .rfl
theorem zaz{c d:Cl}(h:CLe c d):∀(x:Css) (ρ:Env) (s:SO),FLe (exs c ρ s x) (exs d ρ s x)
 |.nil,ρ,s=>by exact .rfl
 |.cons x xs,ρ,s=>by
  first|unfold ev|unfold ex|unfold evs|unfold evi|unfold exs
  rcases zqJ h x ρ s with e|e
  .rw[e];exact .inl (D8 _)
  .rw[e]
   cases ex d ρ s x with
   |nx ρ1 s1=>exact zaz h xs ρ1 s1
   |_=>exact .rfl
end
def zeU(T:Nat->Option Fn):∀k,CLe (yc T k) (yc T (k+1))
 |0,f,a,s=>.inl (D8 _)
 |k+1,f,a,s=>by
  have h:=zeU T k;rw[yc,yc]
  cases T f with
  |none=>exact .rfl
  |some fn=>
   dsimp only;split
   .split
    .split
     .rcases zaz h fn.body (a.map AA++AS (fn.ns-fn.np) AD) []with e|e
      .rw[e];exact .inl (D8 _)
      .rw[e];exact .rfl
     .exact .rfl
    .rcases zaz h fn.body (a.map AA++AS (fn.ns-fn.np) AD) s with e|e
     .rw[e];exact .inl (D8 _)
     .rw[e];exact .rfl
   .exact .rfl
def zd3{T:Nat->Option Fn}{k:Nat}{f:Nat}{a:List PV}{s s':SO}{v:PV}(h:yc T k f a s=.ok v s'):∀j,yc T (k+j) f a s=.ok v s'
 |0=>h
 |j+1=>by
  have q:=zd3 h j;rcases zeU T (k+j) f a s with e|e
  .rw[q]at e;cases e
  .rw[Nat.add_assoc]at e;rw[<-e];exact q
end IC
namespace L2
open PySem PySem.Spec PyProof.Rows IC
def spI(K:AG)(cl:Nat->AJ)(call:Nat->List PV->SO->R PV)(f:Nat):Sp:=λvs H Q E=>∃B φ st args,yE K cl B φ H st/\yh K cl B φ H args vs/\match call f args st with
 |.ok v st'=>∀x H' φ',Step φ H φ' H'->yE K cl B φ' H' st'->yd K cl B φ' H' v x->Q x H'
 |.exc c st'=>∀H' φ',Step φ H φ' H'->yE K cl B φ' H' st'->E (.ref (cl c)) AD H'
 |.bad=>False
section
variable {S:Se}{X:Cx}{k:Nat}{f:AJ}{fd:BL}{ps ks:List A4}{sp:Sp}{dvs:List V}{ds:List AH}{x:A4}{p pos:CW}{e:AZ}{es:List AZ}{t tk:TA}{CX:CXT}{σ:St}{H:Hp}
def zfZ{π:List (AJ×CA)}{s:AK}{Q:VK}{us:List AH}{vs:List V}{E:XK}(F:ybj X.prog X.w X.K X.mg X.base CX k f fd ps sp)(hr:yaW k X.A)(hb:Binds X.K fd ps ds)(hd:Vals dvs ds)
  (I:Inv X π σ H s) (r:Vals vs us) (h:sp (vs++dvs) H Q E) (hx:∀e s',CX X.stack H s E e s'->X.xe e s'):Al (model X.prog X.w) X.A (call (.ref f) us) (EP X π σ Q) X.xe s:=by
 have r2:Vals (vs++dvs) (us++ds):=r.append hd;have hl:(us++ds).length=ps.length:=by rw[<-r2.length];exact F.len _ _ _ _ h
 refine wpAny_call (Es (F.run X.A X.stack s H ⟨us,[]⟩ (us++ds) (vs++dvs) Q E hr I.env0 (hb s us I.kIn hl) r2 h) λr s' hq=>?_)
 cases r with
 |error e=>exact hx e s' hq
 |ok fl=>
  cases fl with
  |ret u=>exact I.after hq
  |next=>exact Bk hq
  |brk=>exact Bk hq
  |cont=>exact Bk hq
def ycz(CX:CXT)(X:Cx)(sp:Sp)(dvs:List V)(t:TA):TE:=λσ H Q=>t σ H λvs H1=>∃E:XK,sp (vs++dvs) H1 Q E/\∀π s e s',Inv X π σ H1 s->CX X.stack H1 s E e s'->X.xe e s'
def zlt(F:ybj X.prog X.w X.K X.mg X.base CX k f fd ps sp)(hr:yaW k X.A)(hg:Gl X x)(hm:X.mg x=AA (.ref f))(hk:Ax X.K (.ref f)=AB)(hb:Binds X.K fd ps ds)(hd:Vals dvs ds)
  (ha:PA X (e::es) t) (hdb:(x==("__debug__":A4))=false:=by decide) (he:starEach (e::es) X.env=(AC,eval e X.env)::starEach es X.env:=by rfl) (hpl:(backTo pos (starEach es X.env)).any (·.1)=false:=by rfl):
  PE X (.Call (.Name x p) (e::es) [] pos) (ycz CX X sp dvs t):=by
 intro π s σ H Q I h;refine Br (zdY I hg hm ?_ hdb);refine Fx (h₀:=X.base) I.ok.mod.kin hk (thn (ha pos π s σ H _ I h) λus s1 kq=>?_) he hpl;let⟨vs,H1,I1,r,E,q,hx⟩:=kq;refine ⟨I1.kIn,?_⟩;exact zfZ F hr hb hd I1 r q λe s' c=>hx π s1 e s' I1 c
def ziT(F:ybj X.prog X.w X.K X.mg X.base CX k f fd ps sp)(hr:yaW k X.A)(hg:Gl X x)(hm:X.mg x=AA (.ref f))(hk:Ax X.K (.ref f)=AB)(hb:Binds X.K fd ps ds)(hd:Vals dvs ds)
  (hdb:(x==("__debug__":A4))=false:=by decide):PE X (.Call (.Name x p) [] [] pos) (ycz CX X sp dvs yea):=by
 intro π s σ H Q I h;let⟨E,q,hx⟩:=h;refine Br (zdY I hg hm ?_ hdb);exact PySem.W.callWith_K0 I.kIn hk (zfZ F hr hb hd I .nil q λe s' c=>hx π s e s' I c)
variable {B:AJ->Prop}{φ:Ph}{st:SO}{ces:Ces}{fi:Nat}
def zbn{vs:List PV}{xs:List V}{Q:VK}(rs:yE X.K S.cl B φ H st)(l:yh X.K S.cl B φ H vs xs)(h:Run S X σ B φ H (RV S X B) (S.call fi vs st) Q):
  ∃E:XK,spI X.K S.cl S.call fi xs H Q E/\∀π s e s',Inv X π σ H s->CX1 X.prog X.w X.stack H s E e s'->X.xe e s':=by
 cases c:S.call fi vs st with
 |ok v st'=>
  rw[c]at h;refine⟨λ_ _ _=>False,⟨B,φ,st,vs,rs,l,by rw[c];exact h⟩,λπ s e s' _ z=>?_⟩;let⟨_,_,_,_,_,_,_,_,_,_,_,_,_,_,z⟩:=z;exact z.elim
 |exc k st'=>
  rw[c]at h;refine⟨λcls _ H'=>cls=.ref (S.cl k)/\∃φ',Step φ H φ' H'/\yE X.K S.cl B φ' H' st',⟨B,φ,st,vs,rs,l,by rw[c];exact λH' φ' s r=>⟨rfl,φ',s,r⟩⟩,λπ s e s' I z=>h e s' (.inl ⟨π,H,s,φ,I,.rfl,z⟩)⟩
 |bad=>rw[c]at h;exact h.elim
def zm2(F:ybj X.prog X.w X.K X.mg X.base (CX1 X.prog X.w) k f fd ps (spI X.K S.cl S.call fi))(hr:yaW k X.A)(hg:Gl X x)(hm:X.mg x=AA (.ref f))(hk:Ax X.K (.ref f)=AB)(hb:Binds X.K fd ps [])
  (ha:PA X (e::es) (tAs S X ces)) (hdb:(x==("__debug__":A4))=false:=by decide) (he:starEach (e::es) X.env=(AC,eval e X.env)::starEach es X.env:=by rfl) (hpl:(backTo pos (starEach es X.env)).any (·.1)=false:=by rfl):
  PE X (.Call (.Name x p) (e::es) [] pos) (tE S X (.call fi ces)):=
 (zlt F hr hg hm hk hb .nil ha hdb he hpl).imp λσ H Q ⟨B,φ,st,ρ,rs,re,h⟩=>by
  erw[ev]at h;refine tAs.bind rs re h λxs H1 vs st1 φ1 s1 rs1 re1 rv h1=>?_;rw[CU];exact zbn rs1 rv h1
def zkC(F:ybj X.prog X.w X.K X.mg X.base (CX1 X.prog X.w) k f fd ps (spI X.K S.cl S.call fi))(hr:yaW k X.A)(hg:Gl X x)(hm:X.mg x=AA (.ref f))(hk:Ax X.K (.ref f)=AB)(hb:Binds X.K fd ps [])
  (hdb:(x==("__debug__":A4))=false:=by decide):PE X (.Call (.Name x p) [] [] pos) (tE S X (.call fi .nil)):=
 (ziT F hr hg hm hk hb .nil hdb).imp λσ H Q ⟨B,φ,st,ρ,rs,re,h⟩=>by
  erw[ev,evs,R.bind]at h;exact zbn rs (by erw[yh];rfl) h
end
section
variable {P:Af}{w:Aw}{K:AG}{mg:A4->Option AH}{base:BU}{cl:Nat->AJ}{T:Nat->Option IC.Fn}{fi:Nat}{fn:IC.Fn}{x qual:A4}{stm:By}{f:AJ}{fd:BL}{N ps:List A4}{k:Nat}
theorem CX1.mono{outer:List B7}{H:Hp}{s:AK}{E E':XK}{e:AH}{s':AK}(h:CX1 P w outer H s E e s')(n:∀cls H',E cls AD H'->E' cls AD H'):CX1 P w outer H s E' e s':=by
 let⟨a,cls,a0,H',Bh,r1,r2,r3,r4,r5,r6,r7,r8,r9,r10⟩:=h;exact⟨a,cls,a0,H',Bh,r1,r2,r3,r4,r5,r6,r7,r8,r9,n _ _ r10⟩
theorem yN.start{B:AJ->Prop}{φ:Ph}{H:Hp}{args:List PV}{vs:List V}(l:yh K cl B φ H args vs)(n:Nat)(hn:N.length-vs.length=n):yN K cl B φ H (args.map AA++AS n AD) (L2.start N vs):=by
 have hl:=l.length;unfold L2.start;refine⟨by simp[hl,hn],λi v e=>?_⟩
 by_cases hi:i<args.length
 .rw[Ay (by simpa using hi),Bu]at e
  cases q:args[i]? with
  |none=>rw[q]at e;cases e
  |some v'=>
   rw[q]at e
   cases e
   let⟨y,hy,rv⟩:=l.get i q;exact⟨y,by rw[Ay (by simp;lia),Bu,hy];rfl,rv⟩
 .rw[BE (by simp;lia),Ed]at e;split at e<;>cases e
theorem leave{N:List A4}{scope:Bj}{cd:AH}{A:BC}{outer:List B7}{s₀:AK}{H₀:Hp}{E:XK}{call:Nat->List PV->SO->R PV}{σ:St}{B:AJ->Prop}{φ:Ph}{H:Hp}{c:Nat}{st':SO}{e:AH}{s':AK}
  (h:ExcAt ⟨cl,call,AB⟩ (yaU (CX1 P w) P w K mg base N qual scope f cd A outer s₀ H₀ E) σ B φ H c st' e s') (n:∀φ' H',Step φ H φ' H'->yE K cl B φ' H' st'->E (.ref (cl c)) AD H'):
  (yaU (CX1 P w) P w K mg base N qual scope f cd A outer s₀ H₀ E).xe e s':=by
 rcases h with⟨π,H1,s,φ1,I,s1,q⟩|⟨_,π,H1,s,φ1,h',e0,vs,I,s1,rs,mk,rfl,rfl⟩|⟨_,π,H1,s,I,q⟩
 .exact zq0 π σ H1 s e s' I (q.mono λcls H' ⟨e1,φ',s2,r⟩=>by subst e1;exact n φ' H' (s1.trans s2) r)
 .exact zjC I mk (n φ1 H1 s1 rs)
 .exact zq2 I (q.mono λcls H' ⟨e1,φ',s2,r⟩=>by subst e1;exact n φ' H' s2 r)
def zib(hT:T fi=AA fn):∀(args:List PV) (st:SO),yc T (k+1) fi args st ≠ .bad->args.length=fn.np:=λargs st hne=>by
 apply Classical.byContradiction;intro c;apply hne;rw[yc,hT];exact if_neg c
def zlS(hT:T fi=AA fn)(hnp:ps.length=fn.np){vs:List V}{H:Hp}{Q:VK}{E:XK}(h:spI K cl (yc T (k+1)) fi vs H Q E):vs.length=ps.length:=by
 let⟨B,φ,st,args,rs,l,h⟩:=h;rw[hnp,<-l.length];refine zib (k:=k) hT args st λz=>?_;rw[z]at h;exact h
def znf(hT:T fi=AA fn)(hns:N.length=fn.ns){scope:Bj}{cdv:AH}{A:BC}{outer:List B7}{s:AK}{vs:List V}{H:Hp}{Q:VK}{E:XK}(h:spI K cl (yc T (k+1)) fi vs H Q E):
  tSs ⟨cl,yc T k,AB⟩ (yaU (CX1 P w) P w K mg base N qual scope f cdv A outer s H E) fn.body {nx:=λ_ H'=>Q .non H',rt:=Q} (L2.start N vs) H:=by
 let⟨B,φ,st,args,rs,l,h⟩:=h;have hl:args.length=fn.np:=zib (k:=k) hT args st λz=>by rw[z]at h;exact h
 have hlen:=l.length;rw[yc,hT]at h;dsimp only at h;rw[if_pos hl]at h
 by_cases hp:fn.pure=AB
 .rw[if_pos hp]at h
  by_cases hz:nLs args=AB
  .rw[if_pos hz]at h;have rs0:yE K cl (λa=>B a \/ AA a∈φ) [] H []:=⟨rfl,λm n a e=>by simp at e,λn a e=>by simp at e,λn o e=>by simp at e,λa z=>by simp at z,λa z=>z.elim (rs.dom a) rs.there⟩;have back:∀{φ':Ph} {H':Hp},Step [] H φ' H'->Step φ H φ H'/\yE K cl B φ H' st:=λ{φ' H'} s'=>
    have kk:∀b o,H b=AA o->H' b=AA o:=λb o e=>s'.keep b o (by simp) e
    ⟨⟨λb o _ e=>kk b o e,A0 _,λ_ _ _ e=>e,λ_ h=>.inl h⟩,rs.same kk⟩
   refine⟨_,[],[],_,rs0,yN.start (yh.inn rs.nb args vs hz l) (fn.ns-fn.np) ∅,?_⟩;show yaL _ _ _ _ _ (exs (yc T k) (args.map AA++AS (fn.ns-fn.np) AD) [] fn.body) _
   cases e:exs (yc T k) (args.map AA++AS (fn.ns-fn.np) AD) [] fn.body with
   |nx ρ' st'=>
    rw[e]at h;intro σ' H' φ' s' rs' re';let⟨s2,r2⟩:=back s';exact h .non H' φ s2 r2 (by erw[yd])
   |rt v st'=>
    rw[e]at h;dsimp only at h
    by_cases hv:nL v=AB
    .rw[if_pos hv]at h;intro y H' φ' s' rs' rv;let⟨s2,r2⟩:=back s';exact h y H' φ s2 r2 (yd.out v y hv rv)
    .rw[if_neg hv]at h;exact h.elim
   |exc c ρ' st'=>
    rw[e]at h;intro σ' φ1 H1 ev s' s1 _ ex;refine leave ex λφ2 H2 s2 _=>?_;let⟨s3,r3⟩:=back (s1.trans s2);exact h H2 φ s3 r3
   |bk ρ' st'=>rw[e]at h;exact h.elim
   |ct ρ' st'=>rw[e]at h;exact h.elim
   |bad=>rw[e]at h;exact h.elim
  .rw[if_neg hz]at h;exact h.elim
 .rw[if_neg hp]at h;refine⟨B,φ,st,_,rs,yN.start l (fn.ns-fn.np) ∅,?_⟩;show yaL _ _ _ _ _ (exs (yc T k) (args.map AA++AS (fn.ns-fn.np) AD) st fn.body) _
  cases e:exs (yc T k) (args.map AA++AS (fn.ns-fn.np) AD) st fn.body with
  |nx ρ' st'=>
   rw[e]at h;intro σ' H' φ' s' rs' re';exact h .non H' φ' s' rs' (by erw[yd])
  |rt v st'=>
   rw[e]at h;intro y H' φ' s' rs' rv;exact h y H' φ' s' rs' rv
  |exc c ρ' st'=>
   rw[e]at h;intro σ' φ1 H1 ev s' s1 _ ex;exact leave ex λφ2 H2 s2 r2=>h H2 φ2 (s1.trans s2) r2
  |bk ρ' st'=>rw[e]at h;exact h.elim
  |ct ρ' st'=>rw[e]at h;exact h.elim
  |bad=>rw[e]at h;exact h.elim
end
def tyN:Ty->String
 |.int=>"int" | .bool=>"bool" | .str=>"str" | .tuple=>"tuple" | .list=>"list" | _=>""
structure yeN(K:AG)(t:Ty):Prop where
 n:BX K (.type "NoneType") (.type (tyN t))=AA (ybo .non t)
 b:BX K (.type "bool") (.type (tyN t))=AA (ybo (.bl AB) t)
 i:BX K (.type "int") (.type (tyN t))=AA (ybo (.int 0) t)
 s:BX K (.type "str") (.type (tyN t))=AA (ybo (.str GV) t)
 p:BX K (.type "tuple") (.type (tyN t))=AA (ybo (.tp AB []) t)
 l:BX K (.type "list") (.type (tyN t))=AA (ybo (.lst []) t)
section
variable {S:Se}{X:Cx}{σ:St}{B:AJ->Prop}{φ:Ph}{H:Hp}{st:SO}{p pos p2 px:CW}{a b c d o:AZ}{ca cb cc:Ce}{t:Ty}
def yf0(S:Se)(X:Cx)(t:Ty):List V->Hp->VK->Prop:=λxs H Q=>∃B φ st v x z,xs=[x,.ty (tyN t)]/\yE X.K S.cl B φ H st/\yd X.K S.cl B φ H v x/\ybG v [t]=AA z/\ydA t=AB /\
 ∀z' H' φ',Step φ H φ' H'->yE X.K S.cl B φ' H' st->yd X.K S.cl B φ' H' z z'->Q z' H'
def zoL(Z:yeN X.K t):yad X (.builtin "isinstance") (yf0 S X t):=by
 rintro π s σ H xs us Q I r ⟨B,φ,st,v,x,z,rfl,rs,rv,e,hb,q⟩
 let⟨u,c',rfl,ru,rc⟩:=vals2 r
 cases (show c'=Fm (tyN t)from rc)
 have fin:∀(k:Bool) (tk:Nat),z=.bl k->EP X π σ Q (.bool k) {s with toks:=tk}:=λk tk ez=>⟨.bl k,H,I.tok tk,rfl,q _ H φ .rfl rs (by subst ez;erw[yd])⟩
 cases v with
 |non=>
  erw[yd]at rv;subst rv
  cases (show u=CJ from ru)
  erw[ybG,hb,if_true]at e;exact Cf PySem.W.kitx_none I.kIn Cb Z.n (λz=>nomatch z) λtk=>fin _ tk (by cases e;cases t<;>rfl)
 |bl k=>
  erw[yd]at rv;subst rv
  cases (show u=Cj k from ru)
  erw[ybG,hb,if_true]at e;exact Cf PySem.W.kitx_bool I.kIn Cb Z.b (λz=>nomatch z) λtk=>fin _ tk (by cases e;cases t<;>rfl)
 |int k=>
  erw[yd]at rv;subst rv;let⟨tk,rfl⟩:=ru;erw[ybG,hb,if_true]at e;exact Cf PySem.W.kitx_int I.kIn Cb Z.i (λz=>nomatch z) λtk=>fin _ tk (by cases e;cases t<;>rfl)
 |str k=>
  erw[yd]at rv;subst rv;let⟨tk,rfl⟩:=ru;erw[ybG,hb,if_true]at e;exact Cf PySem.W.kitx_str I.kIn Cb Z.s (λz=>nomatch z) λtk=>fin _ tk (by cases e;cases t<;>rfl)
 |tp k vs=>
  erw[yd]at rv;let⟨y,ys,rfl,rt,l⟩:=rv
  cases (show u=BW y from ru)
  erw[ybG,hb,if_true]at e;let⟨its,_,⟨o,g,c,_,_⟩,_⟩:=I.tuple rt.sq;exact Cf PySem.W.kitx_tuple I.kIn ⟨o,g,c⟩ Z.p (λz=>nomatch z) λtk=>fin _ tk (by cases e;cases t<;>rfl)
 |lst vs=>
  erw[yd]at rv;let⟨y,ys,rfl,rt,l⟩:=rv
  cases (show u=BW y from ru)
  erw[ybG,hb,if_true]at e;let⟨_,_,n,_,h1⟩:=(show yZ X.prog X.w H s.heap y (.lst ys)from I.hok y _ rt.1);exact Cf PySem.W.kitx_list I.kIn ⟨_,h1,rfl⟩ Z.l (λz=>nomatch z) λtk=>fin _ tk (by cases e;cases t<;>rfl)
 |loc n=>cases e
 |scr n=>cases e
 |fnc n=>cases e
 |exn n=>erw[ybG,B0,List.all_nil,hb,Bs,if_true]at e;cases e
def zoH{T:A4}(Z:yeN X.K t)(ht:ydA t=AB)(hg:Gl X "isinstance")(hm:X.mg "isinstance"=AD)(hgT:Gl X T)(hmT:X.mg T=AD)(hT:bootBuiltins T=AA (.type (tyN t)))(ha:PE X a (tE S X ca))(hnT:T ≠ "__name__":=by decide)(hdT:(T==("__debug__":A4))=false:=by decide)
  (he:starEach [a,.Name T p2] X.env=(AC,eval a X.env)::starEach [.Name T p2] X.env:=by rfl) (hpl:(backTo pos (starEach [.Name T p2] X.env)).any (·.1)=false:=by rfl):
  PE X (.Call (.Name "isinstance" p) [a,.Name T p2] [] pos) (tE S X (.isi ca [t])):=
 (zg1 (zoL Z) hg hm G5 (zaO ha (zaO (znY (v:=.ty (tyN t)) hgT hmT hT rfl hnT hdT) zgY) he) ⋯ ⋯ he hpl).imp λσ H Q ⟨B,φ,st,ρ,rs,re,h⟩=>by
  erw[ev]at h;refine tE.bind rs re h λx H1 v st1 φ1 s1 rs1 re1 rv h1=>?_;let⟨z,e,q⟩:=zak h1 rs1;exact⟨B,φ1,st1,v,x,z,rfl,rs1,rv,e,ht,q⟩
def zj6{st4:SO}{x y v:PV}(h:ybz st x y v=AA st4):∃n xs k j,x=.loc n/\st[n]?=AA (.lst xs)/\y=.int k/\ixI xs.length k=AA j/\st4=st.set n (.lst (xs.set j v)):=by
 cases x with
 |loc n=>
  erw[ybz]at h
  cases q:st[n]? with
  |none=>rw[q]at h;cases h
  |some o=>
   rw[q]at h
   cases o with
   |lst xs=>
    cases y with
    |int k=>
     dsimp only at h
     cases q2:ixI xs.length k with
     |none=>rw[q2]at h;cases h
     |some j=>rw[q2]at h;exact⟨n,xs,k,j,rfl,q,rfl,q2,(A8 h).symm⟩
    |_=>cases h
   |_=>cases h
 |_=>cases h
theorem yh.put{K:AG}{cl:Nat->AJ}:∀{vs:List PV} {xs:List V} (j:Nat) {v:PV} {x:V},yh K cl B φ H vs xs->yd K cl B φ H v x->yh K cl B φ H (vs.set j v) (xs.set j x)
 |[],xs,j,v,x,l,r=>by erw[yh]at l;subst l;simp[yh]
 |w::vs,xs,0,v,x,l,r=>by
  erw[yh]at l;let⟨y,ys,rfl,_,l⟩:=l;erw[AQ,yh];exact⟨x,ys,rfl,r,l⟩
 |w::vs,xs,j+1,v,x,l,r=>by
  erw[yh]at l;let⟨y,ys,rfl,ry,l⟩:=l;erw[AR,yh];exact⟨y,ys.set j x,rfl,ry,yh.put j l r⟩
def zpQ(he:PE X a (tE S X ca))(ho:PE X b (tE S X cb))(hi:PE X c (tE S X cc))(hs:swapsWithSole [.Subscript b c px] a pos.line X.env=pure false:=by rfl)(hw:swappedStores [.Subscript b c px] a X.env=pure none:=by rfl)
  (hg:PG X (.Subscript b c px) (yfn (tE S X cb) (tE S X cc) ydu):=by exact zly ‹_› ‹_› zgp):PS X (.Assign [.Subscript b c px] a pos) (tS S X (.six cb cc ca)):=
 (zlT he hg hs hw).imp λD σ H ⟨B,φ,st,ρ,rs,re,h⟩=>by
  erw[ex]at h;refine tE.fl rs re h λv' H1 v st1 φ1 s1 rs1 re1 rv h1=>tE.fl rs1 re1 h1 λx' H2 x st2 φ2 s2 rs2 re2 rx h2=>tE.fl rs2 re2 h2 λy' H3 y st3 φ3 s3 rs3 re3 ry h3=>?_
  cases e:ybz st3 x y v with
  |none=>rw[e]at h3;exact h3.elim
  |some st4=>
   rw[e]at h3;let⟨n,xs,k,j,rfl,hn,rfl,hj,rfl⟩:=zj6 e;erw[yd]at ry;subst ry;let⟨l,ys,rfl,hp,hx,lr⟩:=rs3.list (rx.step s3) hn;refine⟨l,ys,k,j,rfl,rfl,hx,by rw[<-lr.length];exact hj,?_⟩;have s4:Step φ3 H3 φ3 (L2.upd H3 l (.lst (ys.set j v'))):=.put (A3 hp);exact h3 σ _ φ3 s4 (rs3.put hp ⟨_,zf,(lr.put j ((rv.step s2).step s3)).step s4⟩) (re3.step s4)
end
section
variable {S:Se}{X:Cx}{σ:St}{B:AJ->Prop}{φ:Ph}{H:Hp}{st:SO}{p pos p2 px py pt pt2 apos:CW}{a b c d o:AZ}{ca cb cc:Ce}{kt k2:Nat}
def zoa{i j:Nat}{x y:A4}(hc:X.calm=AB)(hN:X.N.Nodup)(hi:X.N[i]?=AA x)(hj:X.N[j]?=AA y)(hij:i≠j)(h:PS X (.Assign [.Tuple [.Name x px,.Name y py] kt pt] (.Tuple [a,b] k2 pt2) pos) (yfv i j (tAs S X (.cons ca (.cons cb .nil))))):
  PS X (.Assign [.Tuple [.Name x px,.Name y py] kt pt] (.Tuple [a,b] k2 pt2) pos) (tS S X (.asg (.t [i,j]) (.tup (.cons ca (.cons cb .nil))))):=
 h.imp λD σ H ⟨B,φ,st,ρ,rs,re,h⟩=>by
  erw[ex,ev]at h;refine⟨B,φ,st,ρ,rs,re,?_⟩
  cases e:evs S.call ρ st (.cons ca (.cons cb .nil))with
  |bad=>rw[e]at h;exact h
  |exc k st'=>rw[e]at h;exact λe s' x=>h σ φ H e s' .rfl re x
  |ok vs st'=>
   rw[e]at h;intro xs H' φ' s rs' l;erw[R.bind]at h;split at h
   .rcases vs with _|⟨v,_|⟨w,_|⟨u,t⟩⟩⟩
    .exact h.elim
    .exact h.elim
    .let⟨v',w',rfl,rv,rw⟩:=l.two;refine⟨v',w',rfl,?_⟩;exact h _ H' φ' s rs' (((re.step s).set i rv).set j rw)
    .exact h.elim
   .exact h.elim
def zmC{bo:BOp}{v w z:PV}(h:ybV bo v w=AA z):∃i j,v=.int i/\w=.int j/\IC.binI bo i j=AA z:=by
 unfold ybV at h;split at h
 .exact⟨_,_,rfl,rfl,h⟩
 .cases h
def znC:PIp X .Add (rT2 S X (ybV .add)):=by
 rintro π s σ H x y v u Q I rx ry ⟨B,φ,st,a,b,z,rs,ra,rb,e,q⟩
 let⟨i,j,rfl,rfl,e⟩:=zmC e
 cases e
 erw[yd]at ra rb;subst ra rb;exact zpJ π s σ H _ _ v u Q I rx ry ⟨i,j,rfl,rfl,q _ H φ .rfl rs (by erw[yd])⟩
end
end L2
namespace WK
open PySem L2 IC
def GC(K:AG)(mg:A4->Option AH)(cl:Nat->AJ)(x:A4)(v:PV):Prop:=∃y:AJ,mg x=AA (.ref y)/\∀B φ H,yd K cl B φ H v (.ref y)
def zqv{S:Se}{X:Cx}{x:A4}{v:PV}{pos:CW}(hg:Gl X x)(h:GC X.K X.mg S.cl x v)(hd:(x==("__debug__":A4))=false:=by decide):PE X (.Name x pos) (tE S X (.cst v)):=by
 let⟨y,hm,hk⟩:=h;exact ziZ hg hm hk hd
def zlZ:bootBuiltins "int"=AA (.type "int"):=by decide +kernel
def zmr:bootBuiltins "bool"=AA (.type "bool"):=by decide +kernel
def zpT:bootBuiltins "str"=AA (.type "str"):=by decide +kernel
def zg8:bootBuiltins "tuple"=AA (.type "tuple"):=by decide +kernel
def zn6:bootBuiltins "len"=AA (.builtin "len"):=by decide +kernel
def zoY:bootBuiltins "abs"=AA (.builtin "abs"):=by decide +kernel
def zoS:bootBuiltins "min"=AA (.builtin "min"):=by decide +kernel
def zpS:bootBuiltins "max"=AA (.builtin "max"):=by decide +kernel
def zpG:bootBuiltins "all"=AA (.builtin "all"):=by decide +kernel
end WK
namespace L2
open PySem PySem.Spec PyProof.Rows IC
def shC:Sum Ce Int->Option Int
 |.inl _=>AD
 |.inr i=>AA i
def ya6:List (Option Int)->List V->List V
 |[],_=>[]
 |some i::r,zs=>.int i::ya6 r zs
 |none::r,z::zs=>z::ya6 r zs
 |none::_,[]=>[]
def pick:List (Option Int)->List V->List V
 |none::r,v::vs=>v::pick r vs
 |some _::r,_::vs=>pick r vs
 |_,_=>[]
def nKw:List (Option Int)->Nat
 |[]=>0
 |none::r=>nKw r+1
 |some _::r=>nKw r
def yc6:Ces->Nat
 |.nil=>0
 |.cons _ r=>yc6 r+1
def gK(np:Nat)(sh:List (Option Int))(vs zs:List V):List V:=if vs.length=np/\zs.length=nKw sh then vs++ya6 sh zs else []
def zjd{call:Nat->List PV->SO->R PV}{ρ:IC.Env}:∀(a:Ces) {st st':SO} {vs:List PV},evs call ρ st a=.ok vs st'->vs.length=yc6 a
 |.nil,st,st',vs,h=>by erw[evs]at h;cases h;rfl
 |.cons e r,st,st',vs,h=>by
  erw[evs]at h
  cases q:ev call ρ st e with
  |ok v s1=>
   rw[q]at h;erw[R.bind]at h
   cases q2:evs call ρ s1 r with
   |ok ws s2=>
    rw[q2]at h
    cases h
    simp[yc6,zjd r q2]
   |exc c s=>rw[q2]at h;cases h
   |bad=>rw[q2]at h;cases h
  |exc c s=>rw[q]at h;cases h
  |bad=>rw[q]at h;cases h
def zid{call:Nat->List PV->SO->R PV}{ρ:IC.Env}:∀(a b:Ces) (st:SO),evs call ρ st (yS a b)=(evs call ρ st a).bind λvs st1=>(evs call ρ st1 b).bind λws st2=>.ok (vs++ws) st2
 |.nil,b,st=>by
  erw[yS,evs,R.bind,AW]
  cases evs call ρ st b<;>rfl
 |.cons e r,b,st=>by
  erw[yS,evs]
  cases ev call ρ st e with
  |ok v st1=>
   erw[R.bind];rw[zid r b st1]
   cases evs call ρ st1 r with
   |ok vs st2=>
    erw[R.bind]
    cases evs call ρ st2 b<;>rfl
   |exc c s=>rfl
   |bad=>rfl
  |exc c s=>rfl
  |bad=>rfl
section
variable {S:Se}{X:Cx}{k:Nat}{f:AJ}{fd:BL}{ps ks:List A4}{sp:Sp}{x:A4}{p pos kpos:CW}{e:AZ}{es:List AZ}{kws:List Bo}{nm:Option A4}{t tk:TA}{CX:CXT}{ca:Ce}{ces:Ces}{items:List (Sum Ce Int)}{g:List AH->List AH->List AH}{gV:List V->List V->List V}
def zbR{K:AG}{cl:Nat->AJ}{B:AJ->Prop}{φ:Ph}{H:Hp}{call:Nat->List PV->SO->R PV}{ρ:IC.Env}:∀(items:List (Sum Ce Int)) {st st':SO} {vs:List PV} {xs:List V},evs call ρ st (yt items)=.ok vs st'->yh K cl B φ H vs xs->ya6 (items.map shC) (pick (items.map shC) xs)=xs/\(pick (items.map shC) xs).length=nKw (items.map shC)
 |[],st,st',vs,xs,h,l=>by
  erw[yt,evs]at h
  cases h
  erw[yh]at l;subst l;exact⟨rfl,rfl⟩
 |.inl c::r,st,st',vs,xs,h,l=>by
  erw[yt,evs]at h;let⟨v,s1,e1,h⟩:=zaG h;let⟨ws,s2,e2,h⟩:=zaG h
  cases h
  erw[yh]at l;let⟨y,ys,rfl,_,l⟩:=l;let⟨q1,q2⟩:=zbR r e2 l;erw[AM,shC,pick,ya6,nKw,AL,q1,q2];exact⟨trivial,trivial⟩
 |.inr i::r,st,st',vs,xs,h,l=>by
  erw[yt,evs,ev]at h;let⟨v,s1,e1,h⟩:=zaG h;let⟨ws,s2,e2,h⟩:=zaG h
  cases h
  cases e1
  erw[yh,yd]at l;let⟨y,ys,rfl,rfl,l⟩:=l;let⟨q1,q2⟩:=zbR r e2 l;erw[AM,shC,pick,ya6,nKw,q1,q2];exact⟨trivial,trivial⟩
def tK(S:Se)(X:Cx)(items:List (Sum Ce Int)):TA:=λσ H Q=>∃B φ st ρ,yE X.K S.cl B φ H st/\yN X.K S.cl B φ H ρ σ/\Run S X σ B φ H (RL S X B) (evs S.call ρ st (yt items)) λxs H'=>Q (pick (items.map shC) xs) H'
theorem PK.imp{t t':TA}(h:PK X kws t')(k:∀σ H Q,t σ H Q->t' σ H Q):PK X kws t:=λpos π s σ H Q I q=>h pos π s σ H Q I (k σ H Q q)
def zom:PK X [] (tK S X []):=zpO.imp λσ H Q ⟨B,φ,st,ρ,rs,re,h⟩=>by
 erw[yt,evs]at h;exact h.ok rs (x:=[]) (by erw[yh])
def zqw{i:Int}(h:PK X kws (tK S X items)):PK X kws (tK S X (.inr i::items)):=h.imp λσ H Q ⟨B,φ,st,ρ,rs,re,h⟩=>by
 erw[yt,evs,ev,R.bind]at h;refine⟨B,φ,st,ρ,rs,re,?_⟩
 cases e:evs S.call ρ st (yt items)with
 |ok vs st'=>
  rw[e]at h;intro xs H' φ' s rs' l;exact h (.int i::xs) H' φ' s rs' (by erw[yh,yd];exact⟨_,_,rfl,rfl,l⟩)
 |exc c s=>rw[e]at h;exact h
 |bad=>rw[e]at h;exact h
def zqV(ha:PE X e (tE S X ca))(h:PK X kws (tK S X items)):PK X (⟨nm,e,kpos⟩ :: kws) (tK S X (.inl ca::items)):=(znh ha h).imp λσ H Q ⟨B,φ,st,ρ,rs,re,h⟩=>by
 erw[yt,evs]at h;refine tE.bind rs re h λx H1 v st1 φ1 s1 rs1 re1 rv h1=>⟨B,φ1,st1,ρ,rs1,re1,?_⟩;refine(Run.bind (Rel:=RL S X B) h1).mono λxs H2 kq=>?_;let⟨ws,st2,φ2,s2,rs2,l,h2⟩:=kq;exact h2.ok rs2 (x:=x::xs) (by erw[yh];exact⟨x,xs,rfl,rv.step s2,l⟩)
def zlh{fi:Nat}(F:ybj X.prog X.w X.K X.mg X.base (CX1 X.prog X.w) k f fd ps (spI X.K S.cl S.call fi))(hr:yaW k X.A)(hg:Gl X x)(hm:X.mg x=AA (.ref f))(hk:Ax X.K (.ref f)=AB){np:Nat}(hb:∃g,ybF X.K fd ps ks g (gK np (items.map shC)))(hnp:yc6 ces=np)
  (ha:PA X (e::es) (tAs S X ces)) (hkw:PK X kws (tK S X items)) (hall:(backToKw pos (keywordEach kws X.env)).all (·.1.isSome)=true:=by rfl) (hks:(backToKw pos (keywordEach kws X.env)).filterMap (·.1)=ks:=by rfl)
  (hdb:(x==("__debug__":A4))=false:=by decide) (he:starEach (e::es) X.env=(AC,eval e X.env)::starEach es X.env:=by rfl)
  (hpl:((backTo pos (starEach (e::es) X.env)).any (·.1) || (backToKw pos (keywordEach kws X.env)).any (·.1.isNone))=false:=by rfl):
  PE X (.Call (.Name x p) (e::es) kws pos) (tE S X (.call fi (yS ces (yt items)))):=by
 intro π s σ H Q I ⟨B,φ,st,ρ,rs,re,h⟩;erw[ev]at h;rw[zid,R.bind_assoc]at h;refine Br (zdY I hg hm ?_ hdb);have h0:tAs S X ces σ H λvs H1=>tK S X items σ H1 λzs H2=>∃E:XK,spI X.K S.cl S.call fi (gK np (items.map shC) vs zs) H2 Q E/\∀π s e s',Inv X π σ H2 s->CX1 X.prog X.w X.stack H2 s E e s'->X.xe e s':=by
  have hlen:∀vs st',evs S.call ρ st ces=.ok vs st'->vs.length=np:=λvs st' q=>(zjd ces q).trans hnp;refine⟨B,φ,st,ρ,rs,re,?_⟩
  cases q:evs S.call ρ st ces with
  |exc c s=>rw[q]at h;exact h
  |bad=>rw[q]at h;exact h
  |ok vs st1=>
  rw[q]at h;intro xs H1 φ1 s1 rs1 rv;have h1:=Run.on s1 h;have re1:=re.step s1;have hv:=hlen vs st1 q;refine⟨B,φ1,st1,ρ,rs1,re1,?_⟩;have h1:Run S X σ B φ1 H1 (RV S X B) (((evs S.call ρ st1 (yt items)).bind λa st=>(R.ok (vs++a) st:R (List PV))).bind λvs st1=>S.call fi vs st1) Q:=h1;rw[R.bind_assoc]at h1
  cases e:evs S.call ρ st1 (yt items)with
  |ok ws st2=>
   rw[e]at h1;intro ys H2 φ2 s2 rs2 l2;let⟨m1,m2⟩:=zbR items e l2;have eg:gK np (items.map shC) xs (pick (items.map shC) ys)=xs++ys:=by
    unfold gK;rw[if_pos ⟨by rw[<-rv.length];exact hv,m2⟩,m1]
   show ∃E:XK,spI X.K S.cl S.call fi (gK np (items.map shC) xs (pick (items.map shC) ys)) H2 Q E/\_;rw[eg];exact zbn rs2 ((rv.step s2).append l2) (Run.on s2 h1)
  |exc c s=>rw[e]at h1;exact h1
  |bad=>rw[e]at h1;exact h1
 refine PySem.W.callWith_KW (h₀:=X.base) I.ok.mod.kin hk hall (thn (ha pos π s σ H _ I h0) λus s1 kq=>?_) hpl he;let⟨vs,H1,I1,r,q⟩:=kq;refine thn (hkw pos π s1 σ H1 _ I1 q) λws s2 kq=>?_;let⟨zs,H2,I2,rz,E,q2,hx⟩:=kq;refine ⟨I2.kIn,?_⟩;rw[hks];let⟨g,hb⟩:=hb;have r2:=hb.rel r rz;have hl:(g us ws).length=ps.length:=by rw[<-r2.length];exact F.len _ _ _ _ q2
 refine wpAny_call (Es (F.run X.A X.stack s2 H2 ⟨us,ks.zip ws⟩ (g us ws) (gK np (items.map shC) vs zs) Q E hr I2.env0 (hb.to s2 us ws I2.kIn hl) r2 q2) λr s' hq=>?_)
 cases r with
 |error e=>exact hx π s2 e s' I2 hq
 |ok fl=>
  cases fl with
  |ret u=>exact I2.after hq
  |next=>exact Bk hq
  |brk=>exact Bk hq
  |cont=>exact Bk hq
end
def ybd:List (Option Int)->List AH->List AH->List AH
 |[],_,_=>[]
 |some _::r,ws,d::ds=>d::ybd r ws ds
 |none::r,w::ws,_::ds=>w::ybd r ws ds
 |_,_,_=>[]
def zc7:∀(sh:List (Option Int)) (ds:List Int) {zs:List V} {ws us:List AH},Vals (ds.map V.int) us->Vals zs ws->sh.length=ds.length->(∀p∈sh.zip ds,∀i,p.1=AA i->i=p.2)->Vals (ya6 sh zs) (ybd sh ws us)
 |[],ds,zs,ws,us,r,q,hl,h=>.nil
 |some i::r,[],zs,ws,us,rr,q,hl,h=>by simp at hl
 |some i::r,d::ds,zs,ws,_,.cons a b,q,hl,h=>by
  have:i=d:=h (AA i,d) (by simp) i rfl;subst this;exact .cons a (zc7 r ds b q (by simpa using hl) λp hp=>h p (by simp[hp]))
 |none::r,[],zs,ws,us,rr,q,hl,h=>by simp at hl
 |none::r,d::ds,_,_,_,.cons a b,.nil,hl,h=>.nil
 |none::r,d::ds,_,_,_,.cons a b,.cons c q,hl,h=>.cons c (zc7 r ds b q (by simpa using hl) λp hp=>h p (by simp[hp]))
structure FnD(K:AG)(mg:A4->Option AH)(x:A4)(st:By)(ps:List A4)(ds:List Int)(f:AJ)(fd:BL):Prop where
 ex:∃(oc:AH) (od:Option AJ) (dT:AJ) (kV doc pm:AH) (an:Option AJ) (cdv ct:AH) (osl:Array (Option AH)) (o:CA) (its:Array AH) (n:Nat),
  fd=Bc x x (yag st) (yU st) (yp st) (.ref dT) kV doc pm an cdv ct/\K.lookup f=AA ⟨oc,od,.func fd,osl⟩/\CM K cdv x=AB/\K.lookup dT=AA o/\o.data=.seq its n/\Vals (ds.map V.int) its.toList
 kp:Ax K (.ref f)=AB
 m:mg x=AA (.ref f)
theorem kbD{K:AG}{mg:A4->Option AH}{x:A4}{st:By}{ps ks:List A4}{ds:List Int}{f:AJ}{fd:BL}{np off:Nat}{sh:List (Option Int)}(D:FnD K mg x st ps ds f fd)(hnk:ks.length=nKw sh)(hsh:sh.length=(ds.drop off).length)(hd':((sh.zip (ds.drop off)).all λp=>p.1.all λi=>decide (i=p.2))=AB)
  (h:∀(dT:AJ) (kV doc pm:AH) (an:Option AJ) (cdv ct:AH) (us ws its:List AH),us.length=np->ws.length=ks.length->its.length=ds.length ->
   ∃k,bindArgs (Bc x x (yag st) (yU st) (yp st) (.ref dT) kV doc pm an cdv ct) ⟨us,ks.zip ws⟩=seqItems? (.ref dT) >>= k/\k (AA its.toArray)=pure (ps.zip (us++ybd sh ws (its.drop off)))) (hps:0<ps.length):
  ∃g,ybF K fd ps ks g (gK np sh):=by
 have hd:∀p∈sh.zip (ds.drop off),∀i,p.1=AA i->i=p.2:=λp hp i hi=>by
  have:=BF.mp hd' p hp;rw[hi]at this;simpa using this
 let⟨oc,od,dT,kV,doc,pm,an,cdv,ct,osl,o,its,n,rfl,lk,hcd,lo,hs,r⟩:=D.ex;refine⟨λus ws=>if us.length=np/\ws.length=nKw sh then us++ybd sh ws (its.toList.drop off)else [],⟨λs us ws KX hl=>?_,λ{vs us zs ws} rv rz=>?_⟩⟩
 .by_cases c:us.length=np/\ws.length=nKw sh
  .rw[if_pos c]at hl ⊢;let⟨k,h1,h2⟩:=h dT kV doc pm an cdv ct us ws its.toList c.1 (by rw[hnk];exact c.2) (by rw[<-r.length,BN]);exact BindsTo.of_defaults rfl (KX _ _ lo) hs h1 (by simpa using h2)
  .rw[if_neg c]at hl;simp at hl;lia
 .unfold gK;have e1:=rv.length;have e2:=rz.length
  by_cases c:us.length=np/\ws.length=nKw sh
  .rw[if_pos c,if_pos ∅];refine rv.append (zc7 sh (ds.drop off) ?_ rz hsh hd);rw[List.map_drop];exact r.drop off
  .rw[if_neg c,if_neg ∅];exact .nil
section
variable {P:Af}{w:Aw}{K:AG}{mg:A4->Option AH}{base:BU}{cl:Nat->AJ}{T:Nat->Option IC.Fn}{fi:Nat}{fn:IC.Fn}{x:A4}{stm:By}{f:AJ}{fd:BL}{N ps:List A4}{ds:List Int}{k:Nat}
end
def zea(a b:Key):peq (yaM a) (yaM b)=decide (a=b):=by
 rw[DE]
 cases a<;>cases b<;>simp[yaM,peq]
def zgN:∀(a b:List Key),ybv (a.map yaM) (b.map yaM)=decide (a=b)
 |[],[]=>by simp[ybv]
 |[],y::ys=>by simp[ybv]
 |x::xs,[]=>by simp[ybv]
 |x::xs,y::ys=>by
  erw[AM,ybv,zea,zgN xs ys];rw[DE];simp
def zd8(a b:List Key):peq (.tup (a.map yaM)) (.tup (b.map yaM))=decide (a=b):=by
 erw[peq,zgN]
def zjt{k:PV}(h:ybH k=AB):∃q,k=yaM q:=by
 cases k with
 |int i=>exact⟨.inl i,rfl⟩
 |str i=>exact⟨.inr i,rfl⟩
 |_=>cases h
def zjW:∀{ks:List PV},ks.all ybH=AB->∃qs:List Key,ks=qs.map yaM
 |[],_=>⟨[],rfl⟩
 |k::ks,h=>by
  rw[B0,AI]at h;let⟨q,rfl⟩:=zjt h.1;let⟨qs,rfl⟩:=zjW h.2;exact⟨q::qs,rfl⟩
section
variable {S:Se}{X:Cx}{K:AG}{cl:Nat->AJ}{σ:St}{B:AJ->Prop}{φ:Ph}{H:Hp}{st:SO}{p pos p2 px apos:CW}{a b c d o:AZ}{ca cb cc:Ce}
def zjs{q:Key}{x:V}:yd K cl B φ H (yaM q) x ↔ x=kV q:=by
 cases q<;>simp[yaM,yd,kV]
def zeB:∀{qs:List Key} {xs:List V},yh K cl B φ H (qs.map yaM) xs->xs=qs.map kV
 |[],xs,l=>by simpa only[A9,yh] using l
 |q::qs,xs,l=>by
  erw[AM,yh]at l;let⟨y,ys,rfl,r,l⟩:=l;rw[zjs.mp r,zeB l];rfl
theorem DK.look{q:Key}:∀{kvs:List (PV×PV)} {ks:List (Key×V)},DK K cl B φ H kvs ks->∀{v:PV} {x:V},yd K cl B φ H v x->yd K cl B φ H ((IC.look (yaM q) kvs).getD v) ((ybJ ks q).getD x)
 |[],ks,h,v,x,r=>by cases h;exact r
 |(k,w)::t,ks,h,v,x,r=>by
  let⟨q',y,s,rfl,rfl,rv,l⟩:=h;erw[IC.look,zea]
  by_cases e:q'=q
  .rw[zbz (p:=(q',y)) e];simp[e,rv]
  .rw[zbp (p:=(q',y)) e];erw[decide_eq_true_eq,e,if_false];exact DK.look l r
theorem DT.look{q:List Key}:∀{kvs:List (PV×PV)} {ks:List (List Key×V)},DT K cl B φ H kvs ks->∀{v:PV} {x:V},yd K cl B φ H v x->yd K cl B φ H ((IC.look (.tup (q.map yaM)) kvs).getD v) ((ybJ ks q).getD x)
 |[],ks,h,v,x,r=>by cases h;exact r
 |(k,w)::t,ks,h,v,x,r=>by
  let⟨q',y,s,rfl,rfl,rv,l⟩:=h;erw[IC.look,zd8]
  by_cases e:q'=q
  .rw[zbz (p:=(q',y)) e];simp[e,rv]
  .rw[zbp (p:=(q',y)) e];erw[decide_eq_true_eq,e,if_false];exact DT.look l r
theorem DK.any{q:Key}:∀{kvs:List (PV×PV)} {ks:List (Key×V)},DK K cl B φ H kvs ks->(kvs.any λp=>peq p.1 (yaM q))=ks.any λkv=>decide (kv.1=q)
 |[],ks,h=>by cases h;rfl
 |(k,w)::t,ks,h=>by
  let⟨q',y,s,rfl,rfl,rv,l⟩:=h;erw[BV,zea,DK.any l]
theorem DT.any{q:List Key}:∀{kvs:List (PV×PV)} {ks:List (List Key×V)},DT K cl B φ H kvs ks->(kvs.any λp=>peq p.1 (.tup (q.map yaM)))=ks.any λkv=>decide (kv.1=q)
 |[],ks,h=>by cases h;rfl
 |(k,w)::t,ks,h=>by
  let⟨q',y,s,rfl,rfl,rv,l⟩:=h;erw[BV,zd8,DT.any l]
theorem DK.map{q:Key}{v:PV}{x:V}(r:yd K cl B φ H v x):∀{kvs:List (PV×PV)} {ks:List (Key×V)},DK K cl B φ H kvs ks->DK K cl B φ H (kvs.map λp=>if peq p.1 (yaM q)=AB then(p.1,v)else p) (ks.map λkv=>if kv.1=q then(kv.1,x)else kv)
 |[],ks,h=>by cases h;exact rfl
 |(k,w)::t,ks,h=>by
  let⟨q',y,s,rfl,rfl,rv,l⟩:=h;erw[AM,zea,decide_eq_true_eq]
  by_cases e:q'=q
  .simp only[e,if_true];exact⟨q,x,_,rfl,rfl,r,DK.map r l⟩
  .simp only[e,if_false];exact⟨q',y,_,rfl,rfl,rv,DK.map r l⟩
theorem DT.map{q:List Key}{v:PV}{x:V}(r:yd K cl B φ H v x):∀{kvs:List (PV×PV)} {ks:List (List Key×V)},DT K cl B φ H kvs ks->DT K cl B φ H (kvs.map λp=>if peq p.1 (.tup (q.map yaM))=AB then(p.1,v)else p) (ks.map λkv=>if kv.1=q then(kv.1,x)else kv)
 |[],ks,h=>by cases h;exact rfl
 |(k,w)::t,ks,h=>by
  let⟨q',y,s,rfl,rfl,rv,l⟩:=h;erw[AM,zd8,decide_eq_true_eq]
  by_cases e:q'=q
  .simp only[e,if_true];exact⟨q,x,_,rfl,rfl,r,DT.map r l⟩
  .simp only[e,if_false];exact⟨q',y,_,rfl,rfl,rv,DT.map r l⟩
theorem DK.snoc{q:Key}{v:PV}{x:V}(r:yd K cl B φ H v x):∀{kvs:List (PV×PV)} {ks:List (Key×V)},DK K cl B φ H kvs ks->DK K cl B φ H (kvs++[(yaM q,v)]) (ks++[(q,x)])
 |[],ks,h=>by cases h;exact⟨q,x,[],rfl,rfl,r,rfl⟩
 |(k,w)::t,ks,h=>by
  let⟨q',y,s,rfl,rfl,rv,l⟩:=h;exact⟨q',y,_,rfl,rfl,rv,DK.snoc r l⟩
theorem DT.snoc{q:List Key}{v:PV}{x:V}(r:yd K cl B φ H v x):∀{kvs:List (PV×PV)} {ks:List (List Key×V)},DT K cl B φ H kvs ks->DT K cl B φ H (kvs++[(.tup (q.map yaM),v)]) (ks++[(q,x)])
 |[],ks,h=>by cases h;exact⟨q,x,[],rfl,rfl,r,rfl⟩
 |(k,w)::t,ks,h=>by
  let⟨q',y,s,rfl,rfl,rv,l⟩:=h;exact⟨q',y,_,rfl,rfl,rv,DT.snoc r l⟩
theorem DK.put{q:Key}{v:PV}{x:V}{kvs:List (PV×PV)}{ks:List (Key×V)}(l:DK K cl B φ H kvs ks)(r:yd K cl B φ H v x):DK K cl B φ H (IC.put (yaM q) v kvs) (putK ks q x):=by
 unfold IC.put putK;rw[DK.any l];split
 .exact DK.map r l
 .exact DK.snoc r l
theorem DT.put{q:List Key}{v:PV}{x:V}{kvs:List (PV×PV)}{ks:List (List Key×V)}(l:DT K cl B φ H kvs ks)(r:yd K cl B φ H v x):DT K cl B φ H (IC.put (.tup (q.map yaM)) v kvs) (putK ks q x):=by
 unfold IC.put putK;rw[DT.any l];split
 .exact DT.map r l
 .exact DT.snoc r l
theorem DK.len:∀{kvs:List (PV×PV)} {ks:List (Key×V)},DK K cl B φ H kvs ks->kvs.length=ks.length
 |[],ks,h=>by cases h;rfl
 |(k,w)::t,ks,h=>by
  let⟨q',y,s,rfl,rfl,rv,l⟩:=h;simp[DK.len l]
theorem DT.len:∀{kvs:List (PV×PV)} {ks:List (List Key×V)},DT K cl B φ H kvs ks->kvs.length=ks.length
 |[],ks,h=>by cases h;rfl
 |(k,w)::t,ks,h=>by
  let⟨q',y,s,rfl,rfl,rv,l⟩:=h;simp[DT.len l]
theorem yE.dct{n:Nat}{t:Bool}{kvs:List (PV×PV)}{x:V}(rs:yE K cl B φ H st)(r:yd K cl B φ H (.loc n) x)(h:st[n]?=AA (.dct t kvs)):∃y,x=.ref y/\φ[n]?=AA (AA y)/\ycf K cl B φ H (.dct t kvs) y:=by
 erw[yd]at r;let⟨hn,y,rfl,ha⟩:=r;let⟨z,hz⟩:=rs.liv n _ h (by intro z;cases z);obtain rfl:=ha z hz;let⟨o,ho,ro⟩:=rs.obj n z hz;rw[h]at ho;cases ho;exact⟨z,rfl,hz,ro⟩
def zes{v:PV}{t:Bool}{kvs:List (PV×PV)}(h:ybi st v=AA (t,kvs)):∃n,v=.loc n/\st[n]?=AA (.dct t kvs):=by
 cases v with
 |loc n=>
  erw[ybi]at h;split at h
  .rename_i t' xs q
   cases h
   exact⟨n,rfl,q⟩
  .cases h
 |_=>cases h
def zh8{k:PV}(h:isKey AC k=AB):∃q,k=yaM q:=zjt h
def zh5{k:PV}(h:isKey AB k=AB):∃q:List Key,k=.tup (q.map yaM):=by
 cases k with
 |tp b xs=>
  cases b with
  |false=>
   let⟨qs,rfl⟩:=zjW h;exact⟨qs,rfl⟩
  |true=>cases h
 |_=>cases h
def zie{q:List Key}{x:V}(r:yd K cl B φ H (.tup (q.map yaM)) x):∃y,x=.ref y/\H y=AA (.tup (q.map kV)):=by
 erw[yd]at r;let⟨y,xs,rfl,rt,l⟩:=r;rcases rt with⟨rt,_⟩|⟨z,_⟩
 .exact⟨y,rfl,by rw[rt,zeB l]⟩
 .cases z
def zjT:PE X (.Dict [] [] pos) (tE S X (.dict0 AB)):=zq1.imp λσ H Q ⟨B,φ,st,ρ,rs,re,h⟩=>by
 erw[ev]at h;exact λp hp=>h _ _ (φ++[AA p]) (.push hp) (rs.push hp (rs.nB hp) ⟨[],zf,rfl⟩) (.loc_new rs)
def zo9(hu:X.A.units+1<cLine)(ha:PE X a (tE S X ca))(hb:PE X b (tE S X cb))(hc:PE X c (tE S X cc))(m:M2 X a "get" apos b c pos:=by exact⟨rfl,rfl,rfl,rfl⟩):PE X (.Call (.Attribute a "get" apos) [b,c] [] pos) (tE S X (.mth .get ca (.cons cb (.cons cc .nil)))):=
 (zkN hu ha hb hc m).imp λσ H Q ⟨B,φ,st,ρ,rs,re,h⟩=>by
  erw[ev]at h;refine tE.bind rs re h λx H1 v st1 φ1 s1 rs1 re1 rv h1=>?_;let⟨_,e1,h1⟩:=zbb h1;erw[yaA]at e1
  cases q:ybi st1 v with
  |none=>rw[q]at e1;cases e1
  |some tk=>
   let⟨t,kvs⟩:=tk;let⟨n,rfl,hn⟩:=zes q;let⟨y,rfl,hy,ro⟩:=rs1.dct rv hn;refine⟨y,rfl,?_,?_⟩
   .cases t with
    |false=>let⟨ks,hk,_⟩:=ro;exact .inl ⟨ks,.inl hk⟩
    |true=>let⟨ks,hk,_⟩:=ro;exact .inr ⟨ks,.inl hk⟩
   .simp only[evs,R.bind_assoc]at h1;refine tE.bind rs1 re1 h1 λkx H2 kv st2 φ2 s2 rs2 re2 rk h2=>tE.bind rs2 re2 h2 λdx H3 dv st3 φ3 s3 rs3 re3 rd h3=>?_;erw[R.bind]at h3;unfold ybl at h3;erw[ydn]at h3
    cases q3:ybi st3 (.loc n)with
    |none=>rw[q3]at h3;exact h3.elim
    |some tk3=>
     let⟨t3,kvs3⟩:=tk3;rw[q3]at h3;dsimp only at h3;split at h3
     .rename_i hk;let⟨n',e',hn3⟩:=zes q3
      cases e'
      let⟨y3,ey,hy3,ro3⟩:=rs3.dct ((rv.step s2).step s3) hn3
      cases ey
      have rk3:=rk.step s3
      cases t3 with
      |false=>
       let⟨q,rfl⟩:=zh8 hk;let⟨ks,hks,l⟩:=ro3;refine⟨ybJ ks q,.inl ⟨ks,q,.inl hks,zjs.mp rk3,rfl⟩,h3.ok rs3 (DK.look l rd)⟩
      |true=>
       let⟨q,rfl⟩:=zh5 hk;let⟨ks,hks,l⟩:=ro3;let⟨b',rfl,hb'⟩:=zie rk3;exact⟨ybJ ks q,.inr ⟨ks,q,b',.inl hks,rfl,hb',rfl⟩,h3.ok rs3 (DT.look l rd)⟩
     .exact h3.elim
def zi9{st4:SO}{x y v:PV}(h:ybD st x y v=AA st4):∃n t kvs,x=.loc n/\st[n]?=AA (.dct t kvs)/\isKey t y=AB/\kvs.length<1000000/\st4=st.set n (.dct t (IC.put y v kvs)):=by
 cases x with
 |loc n=>
  erw[ybD]at h;split at h
  .rename_i t kvs q;split at h
   .rename_i c;exact⟨n,t,kvs,rfl,q,c.1,c.2,(A8 h).symm⟩
   .cases h
  .cases h
 |_=>cases h
def zmt(hu:X.A.units+1<cLine)(ho:PE X b (tE S X cb))(hi:PE X c (tE S X cc))(hv:PE X a (tE S X ca))(hs:swapsWith a (AA (.Subscript b c px)) pos.line X.env=pure false:=by rfl):PS X (.Assign [.Subscript b c px] a pos) (tS S X (.dput cb cc ca)):=
 (znR hu ho hi hv hs).imp λD σ H ⟨B,φ,st,ρ,rs,re,h⟩=>by
  erw[ex]at h;refine tE.fl rs re h λv' H1 v st1 φ1 s1 rs1 re1 rv h1=>tE.fl rs1 re1 h1 λx' H2 x st2 φ2 s2 rs2 re2 rx h2=>tE.fl rs2 re2 h2 λy' H3 y st3 φ3 s3 rs3 re3 ry h3=>?_
  cases e:ybD st3 x y v with
  |none=>rw[e]at h3;exact h3.elim
  |some st4=>
   rw[e]at h3;let⟨n,t,kvs,rfl,hn,hk,hl,rfl⟩:=zi9 e;let⟨l,rfl,hp,ro⟩:=rs3.dct (rx.step s3) hn;have rv3:=(rv.step s2).step s3;have hm:=zhX
   cases t with
   |false=>
    let⟨q,rfl⟩:=zh8 hk;let⟨ks,hks,ld⟩:=ro;have s4:Step φ3 H3 φ3 (L2.upd H3 l (.dK (putK ks q v'))):=.put (A3 hp);refine⟨l,_,rfl,.inl ⟨ks,q,hks,zjs.mp ry,by have:=ld.len;lia,rfl⟩,h3 σ _ φ3 s4 (rs3.put hp ⟨_,zf,(ld.put rv3).step s4⟩) (re3.step s4)⟩
   |true=>
    let⟨q,rfl⟩:=zh5 hk;let⟨ks,hks,ld⟩:=ro;let⟨b',rfl,hb'⟩:=zie ry;have s4:Step φ3 H3 φ3 (L2.upd H3 l (.dT (putK ks q v'))):=.put (A3 hp);refine⟨l,_,rfl,.inr ⟨ks,q,b',hks,rfl,hb',by have:=ld.len;lia,rfl⟩,h3 σ _ φ3 s4 (rs3.put hp ⟨_,zf,(ld.put rv3).step s4⟩) (re3.step s4)⟩
def trC(kvs:List (A4×Int)):List (TE×TE):=kvs.map λkv=>(tC (.str kv.1),tC (.int kv.2))
def zpM:PPs X pos [] [] (trC []):=zmE
def zmQ{ks:List (Option AZ)}{vs:List AZ}{kvs:List (A4×Int)}{x:A4}{i:Int}{j1 j2:Nat}{p1 p2:CW}(h:PPs X pos ks vs (trC kvs)):PPs X pos (AA (.Constant (.str x) j1 p1)::ks) (.Constant (.int i) j2 p2::vs) (trC ((x,i)::kvs)):=zks znO ziV h
def zdL:∀(kvs:List (A4×Int)) {σ:St} {H:Hp} {Q:List (V×V)->Hp->Prop},Q (kvs.map λkv=>(.str kv.1,.int kv.2)) H->ybL (trC kvs) σ H Q
 |[],σ,H,Q,h=>h
 |kv::r,σ,H,Q,h=>zdL r (Q:=λps H3=>Q ((.str kv.1,.int kv.2)::ps) H3) h
theorem DK.fold:∀(kvs:List (A4×Int)) {acc:List (PV×PV)} {ks:List (Key×V)},DK K cl B φ H acc ks->DK K cl B φ H (kvs.foldl (λacc kv=>IC.put (.str kv.1) (.int kv.2) acc) acc) (ya0 ks (kvs.map λkv=>(Dp kv.1,.int kv.2)))
 |[],acc,ks,l=>l
 |kv::r,acc,ks,l=>by
  unfold ya0;erw[DD,AM];exact DK.fold r (l.put (q:=Dp kv.1) (x:=.int kv.2) (by erw[yd]))
def zmJ{ks:List (Option AZ)}{vs:List AZ}{kvs:List (A4×Int)}(h:PPs X pos ks vs (trC kvs))(hall:ks.all (·.isSome)=true:=by rfl)(hl:ks.length=vs.length:=by rfl)(h0:ks≠[]:=by simp)(h15:ks.length<=15:=by decide):PE X (.Dict ks vs pos) (tE S X (.newd kvs)):=
 (znv h hall hl h0 h15).imp λσ H Q ⟨B,φ,st,ρ,rs,re,h⟩=>by
  erw[ev]at h;split at h
  .rename_i c;intro p hp;refine zdL kvs ⟨zf,kvs.map λkv=>(Dp kv.1,.int kv.2),by simp[kV],by simpa using c,?_⟩;rw[znE];exact h _ _ (φ++[AA p]) (.push hp) (rs.push hp (rs.nB hp) ⟨_,zf,DK.fold kvs rfl⟩) (.loc_new rs)
  .exact h.elim
end
def Itd(lo:Int)(n:Nat):It:=⟨λi _=>i<n,λi H x H'=>H'=H/\x=.int (lo+i*(-1)),λi _=>n<=i⟩
def zfA{P:Af}{w:Aw}{K:AG}{tg:AZ}(it:AJ)(lo:Int)(n:Nat):Turn P w K tg (Itd lo n) [it] it (λi h=>FM h it (lo+(i:Nat)*(-1)) ((n:Int)-(i:Nat)) (-1)) where
 mem:=by simp
 obj:=λi h st b hb=>by
  have e:b=it:=by simpa using hb
  subst e;exact⟨_,st,λv z=>by
   have z':HS _=Data.cell v:=z
   cases z'⟩
 keep:=λi h h' st k=>k it (by simp) _ st
 item:=by
  intro X hP hw hK hc i π s σ H E I hf st hg;subst hP hw hK;let⟨f0,f1,f2,f3,f4,f5⟩:=hf it (by simp);have W:=HU (prog:=X.prog) (w:=X.w) (I.ok.hd hc) it lo (-1) n;refine W.item i s _ _ hg st λv h' tk hv st' kk=>?_;let⟨t,rfl⟩:=hv;have I1:Inv X π σ H {s with heap:=h',toks:=tk}:=I.turned (λb o hb e=>kk b o (by simpa using hb) e) f0 f1 f3 f4 f5;exact⟨_,rfl,zk4 (s:={s with heap:=h',toks:=tk}) (n:="range_iterator") st' rfl rfl ⋯ ⟨.int (lo+i*(-1)),H,I1,⟨t,rfl⟩,⟨rfl,rfl⟩,st',λb hb=>(hf b hb).1⟩⟩
 done:=by
  intro X hP hw hK hc i π s σ H E I hf st hg;subst hP hw hK;let⟨f0,f1,f2,f3,f4,f5⟩:=hf it (by simp);exact Ek (I.ok.hd hc) st (by have:n<=i:=hg;lia) λh' eb=>⟨rfl,I.turned (t':=s.toks) (λb o hb e=>eb b o hb e) f0 f1 f3 f4 f5⟩
 self:=λ_ _ _ _ _ st h=>El st h
section
variable {S:Se}{X:Cx}{σ:St}{B:AJ->Prop}{φ:Ph}{H:Hp}{p pos p3 p4:CW}{a b tg:AZ}{ca cb:Ce}
def zje{π:List (AJ×CA)}{σ:St}{H:Hp}{s:AK}{R:It->Hp->Prop}{E:AH->AK->Prop}{lo hi:Int}{t u v:Hk}{tk:Nat}(I:Inv X π σ H s)(h1:lo.natAbs<1000000000)(h2:hi.natAbs<1000000000)
  (q:R (Itd lo (lo-hi).toNat) H):Al (model X.prog X.w) X.A (pyIter (.ref s.heap.objs.size)) (PIE X π σ tg R) E {s with heap:=s.heap.push {cls:=.type "range",data:=.fields #[.int lo t,.int hi u,.int (-1) v]},toks:=tk}:=by
 refine Fq (HV ..) ?_ ?_
 .unfold He;have e2:Bt lo hi (-1)=((lo-hi).toNat:Int):=by
   unfold Bt;rw[if_neg ⋯];split
   .rw[show -(-1:Int)=1 by decide,CC];lia
   .lia
  rw[e2];erw[G8,AI,Cd,decide_eq_true_eq,beq_iff_eq,show ¬(-1:Int) > 0 by decide,if_false];lia
 have I1:Inv X π σ H {s with heap:=s.heap.push {cls:=.type "range",data:=.fields #[.int lo t,.int hi u,.int (-1) v]},toks:=tk}:=I.kept λb o e=>A6 _ e;refine⟨(s.heap.push {cls:=.type "range",data:=.fields #[.int lo t,.int hi u,.int (-1) v]}).objs.size,[(s.heap.push {cls:=.type "range",data:=.fields #[.int lo t,.int hi u,.int (-1) v]}).objs.size],_,_,H,rfl,
  I1.kept (t':=tk) λb o e=>A6 _ e,zfA _ lo (lo-hi).toNat,?_,λb hb=>?_,q⟩
 .have e1:lo+((0:Nat):Int)*(-1)=lo:=by simp
  have e2:(((lo-hi).toNat:Nat):Int)-((0:Nat):Int)=Bt lo hi (-1):=by
   unfold Bt;rw[if_neg ⋯];split
   .rw[show -(-1:Int)=1 by decide,CC];lia
   .lia
  show FM _ _ (lo+((0:Nat):Int)*(-1)) ((((lo-hi).toNat:Nat):Int)-((0:Nat):Int)) (-1);rw[e1,e2];exact Au _ rfl
 .have e:b=(s.heap.push {cls:=.type "range",data:=.fields #[.int lo t,.int hi u,.int (-1) v]}).objs.size:=by simpa using hb
  subst e;exact I1.fpOk (A0 _) (I1.hok.fresh (A0 _))
def zhO{lo:Int}{n:Nat}:Drw S X B φ H (yo n lo (-1)) (Itd lo n):=by
 refine⟨λφ' H' s=>by rw[zr];exact A0 _,λi φ' H' s hi=>by rw[zr]at hi;exact hi,λi φ' H' st x H2 B' hB s rs hi q=>?_⟩;rw[zr]at hi;let⟨rfl,rfl⟩:=q;refine⟨.int (lo+i*(-1)),?_,by erw[yd],λ_ _ e=>e⟩;rw[zL,if_pos hi]
def ziL{j:Nat}(hg:Gl X "range")(hm:X.mg "range"=AD)(ha:PE X a (tE S X ca))(hb:PE X b (tE S X cb))(hs:starEach [a,b,.UnaryOp .USub (.Constant (.int 1) j p3) p4] X.env=[(AC,eval a X.env),(AC,eval b X.env),(AC,eval (.UnaryOp .USub (.Constant (.int 1) j p3) p4) X.env)]:=by rfl)
  (hs1:starEach [b,.UnaryOp .USub (.Constant (.int 1) j p3) p4] X.env=[(AC,eval b X.env),(AC,eval (.UnaryOp .USub (.Constant (.int 1) j p3) p4) X.env)]:=by rfl) (hs2:starEach [.UnaryOp .USub (.Constant (.int 1) j p3) p4] X.env=[(AC,eval (.UnaryOp .USub (.Constant (.int 1) j p3) p4) X.env)]:=by rfl):
  PI X tg (.Call (.Name "range" p) [a,b,.UnaryOp .USub (.Constant (.int 1) j p3) p4] [] pos) (tI S X (.rangeD ca cb)):=by
 intro π s σ H R I ⟨B,φ,st,ρ,rs,re,h⟩;erw[evi]at h;have h0:(yb6 (tE S X ca) (yb6 (tE S X cb) (yb6 (tUn (rU λi=>.int (-i)) (tC (.int 1))) yea))) σ H λvs H1=>∃i j:Int,vs=[.int i,.int j,.int (-1)]/\i.natAbs<1000000000/\j.natAbs<1000000000/\R (Itd i (i-j).toNat) H1:=by
  refine tE.bind rs re h λx H1 v st1 φ1 s1 rs1 re1 rv h1=>tE.bind rs1 re1 h1 λy H2 w st2 φ2 s2 rs2 re2 rw h2=>?_;let⟨xs,e,h2⟩:=ziH h2;let⟨i,j,rfl,rfl,hi,hj,rfl⟩:=zlb e;erw[yd]at rv rw;subst rv rw;exact⟨1,rfl,i,j,rfl,hi,hj,h2.ok rs2 zhO⟩
 refine Call_ (zdm I hg hm boot_range (CB (thn (zaO ha (zaO hb (zaO (zoc zlH ziV) zgY hs2) (by rw[hs1,hs2])) (by rw[hs,hs1]) pos π s σ H _ I h0) λus s1 kq=>?_) (by rw[hs,hs1]) (by rw[hs1];rfl)));let⟨vs,H1,I1,r1,q1⟩:=kq;let⟨i,j,e,hi,hj,q⟩:=q1;subst e
 cases r1 with
 |cons r rr=>
  cases rr with
  |cons r' rr=>
   cases rr with
   |cons r'' rr=>
    cases rr
    let⟨t,rfl⟩:=r;let⟨t',rfl⟩:=r';let⟨t'',rfl⟩:=r'';exact call_range_3 ⋯ (zje I1 hi hj q) (.inl (PyProof.noPylong_small ⋯))
end
end L2
namespace WK
open PySem L2 IC
section
variable {K:AG}{cl:Nat->AJ}{B:AJ->Prop}{φ:Ph}{H:Hp}
def zlC:yh K cl B φ H [] []:=by erw[yh]
def zjQ{v:PV}{x:V}{vs:List PV}{xs:List V}(h:yd K cl B φ H v x)(l:yh K cl B φ H vs xs):yh K cl B φ H (v::vs) (x::xs):=by
 erw[yh];exact⟨x,xs,rfl,h,l⟩
end
def zoC{P:Af}{w:Aw}{outer:List B7}{H:Hp}{s:AK}{e:AH}{s':AK}(h:CX1 P w outer H s (λ_ _ _=>False) e s'):False:=by
 let⟨_,_,_,_,_,_,_,_,_,_,_,_,_,_,z⟩:=h;exact z
def zi1{K:AG}{cl:Nat->AJ}{B:AJ->Prop}{φ:Ph}{H:Hp}:∀ns:List Int,yh K cl B φ H (ns.map .int) (ns.map V.int)
 |[]=>zlC
 |n::ns=>zjQ (by erw[yd]) (zi1 ns)
def spX(K:AG)(call:Nat->List PV->SO->R PV)(fi:Nat):Sp:=λvs H Q E=>∀cl,spI K cl call fi vs H Q E
def zi3{K:AG}{call:Nat->List PV->SO->R PV}{fi:Nat}{H:Hp}{a:AJ}{ns:List Int}(ht:∀ns:List Int,ns.length<=63->call fi [.scr (ns.map .int)] []=.ok (.bl AB) [])(hl:ns.length<=63)(hS:SqL K H a (ns.map V.int)):
  spX K call fi [.ref a] H (λv _=>v=.bl AB) λ_ _ _=>False:=by
 intro cl;refine⟨λ_=>False,[],[],[.scr (ns.map .int)],⟨rfl,λm n a e=>by simp at e,λn a e=>by simp at e,λn o e=>by simp at e,λa z=>by simp at z,λa z=>z.elim⟩,zjQ ?_ zlC,?_⟩
 .simp only[yd];refine⟨a,_,rfl,?_,zi1 ns⟩;rcases hS with hS|hS
  .exact .inl ⟨hS,λz=>z,by simp⟩
  .exact .inr hS
 .rw[ht ns hl];intro x H' φ' _ _ r;simpa only[yd] using r
end WK
namespace L2
open PySem PySem.Spec PyProof.Rows IC
def ziv{l:List A4}(h:l.Nodup){i j:Nat}(hi:i<l.length)(hj:j<l.length)(e:l[i]=l[j]):i=j:=by
 rcases Nat.lt_trichotomy i j with q|q|q
 .exact absurd e (EO.mp h i j hi hj q)
 .exact q
 .exact absurd e.symm (EO.mp h j i hj hi q)
section
variable {X:Cx}{π:List (AJ×CA)}{σ:St}{H:Hp}{s:AK}
theorem Inv.drop{h':BU}{m:A4->Option AH}{v:Option AH}{i:Nat}{n:A4}(I:Inv X π σ H s)(hN:X.N.Nodup)(hi:X.N[i]?=AA n)(hm:s.heap.Ns X.env.locals m)(look:∀(i:Nat) (x:A4) (v:V),X.N[i]?=AA x->σ[i]?=AA (AA v)->Vis X.env.scope x->∃u,RelV v u/\Look X.env s.heap m x u)(hs:Cr X.env.locals s.heap h')(hn:h'.Ns X.env.locals (λx=>if x=n then v else m x)):Inv X π (σ.set i AD) H {s with heap:=h'}:=by
 have k:∀b u,b≠X.env.locals->s.heap.get? b=AA u->h'.get? b=AA u:=λb u hb q=>(hs.2 b hb).trans q;have nl:∀b o,X.s₀.heap.get? b=AA o->b≠X.env.locals:=λb o e=>Az (Ae (Aa e) I.ok.above);refine⟨I.ok,I.os,I.bare,⟨λb o q n hb hx=>k b o (nl b o q) (I.base.keep b o q n hb hx),λb o q n hb hx=>?_,I.base.free,λb o q hx=>?_,I.base.tups,I.base.frzs,I.base.tbls⟩,⟨_,hn,λj x v e1 e2 hv=>?_⟩,λx c e=>?_,I.free,I.freeC,λp hp=>?_,λb u e=>?_,?_⟩
 .let⟨sl,q1⟩:=I.base.slot b o q n hb hx;exact⟨sl,k b _ (nl b o q) q1⟩
 .let⟨o',q1⟩:=I.base.there b o q hx;exact⟨o',k b o' (nl b o q) q1⟩
 .have hj:j≠i:=λz=>by
   subst z;rw[Ci]at e2;erw[if_true]at e2;split at e2<;>cases e2
  rw[Ah (Bf hj)]at e2;have hx:x≠n:=λz=>by
   subst z;let⟨l1,g1⟩:=BM.mp e1;let⟨l2,g2⟩:=BM.mp hi;exact hj (ziv hN l1 l2 (g1.trans g2.symm))
  let⟨u,r,lk⟩:=look j x v e1 e2 hv;refine⟨u,r,?_⟩;rcases lk with⟨q1,q2⟩|⟨q1,c,q2,o,q3,q4⟩
  .exact .inl ⟨q1,by dsimp only;rw[if_neg hx];exact q2⟩
  .exact .inr ⟨q1,c,q2,o,k c o (I.cne x c q2) q3,q4⟩
 .let⟨v,o,ho,hd⟩:=I.cell x c e;exact⟨v,o,k c o (I.cne x c e) ho,hd⟩
 .let⟨q1,q2,q3,q4⟩:=I.pin p hp;exact⟨k _ _ q3 q1,q2,q3,q4⟩
 .refine(I.hok b u e).stay (λc v hc q=>k c v (λz=>?_) q) (λ_ q=>q) λ_ _ q=>q;have fr:=I.free;subst z;rcases hc with z|z
  .rw[z,e]at fr
   cases fr
  .rw[z]at fr
   cases fr
 .rw[Ba];exact I.len
end
section
variable {X:Cx}{body suite:List By}{b₀:By}{x n:A4}{np hpos pos:CW}{W:AJ}{i:Nat}
end
section
variable {S:Se}{X:Cx}{σ:St}{B:AJ->Prop}{φ φ1:Ph}{H H1:Hp}{st:SO}{ρ:IC.Env}{D:Ends}{body suite:List By}{b₀:By}{x n:A4}{p p2 np hpos pos cpos:CW}{W:AJ}{i:Nat}{cb ch:Css}{a e:AZ}{es:List AZ}{ca ce:Ce}{ces:Ces}
theorem yN.drop{K:AG}{cl:Nat->AJ}(r:yN K cl B φ H ρ σ)(i:Nat):yN K cl B φ H (ρ.set i AD) (σ.set i AD):=by
 refine⟨by rw[Ba,Ba];exact r.len,λj w e=>?_⟩
 by_cases h:j=i
 .subst h;rw[Ci]at e;erw[if_true]at e;split at e<;>cases e
 .rw[Ah (Bf h)]at e ⊢;exact r.get j w e
abbrev Se.quiet(S:Se):Se:={S with may:=AC}
theorem all_nil{P:Nat->Prop}:∀c∈([]:List Nat),P c:=λ_ h=>by cases h
theorem all_cons{P:Nat->Prop}{c:Nat}{cs:List Nat}(h:P c)(t:∀d∈cs,P d):∀d∈c::cs,P d:=λd hd=>by
 rcases BB.mp hd with e|e
 .exact e ▸ h
 .exact t d e
structure ydN(K:AG)(mg:A4->Option AH)(C:AJ)(x:A4):Prop where
 m:mg x=AA (.ref C)
 q:Fi K C [.type "ValueError",.type "Exception",.type "BaseException",.type "object"] "ValueError.__new__"=AB
def tyZ(cl:Nat->AJ):Ty->AH
 |.cls d=>.ref (cl d)
 |_=>.type "ValueError"
def yfg(K:AG)(cl:Nat->AJ)(c:Nat)(t:Ty):Prop:=BX K (.ref (cl c)) (tyZ cl t)=AA (ybo (.exn c) t)
end
section
variable {S:Se}{X:Cx}{p pos p2 px apos:CW}{a b:AZ}{ca cb:Ce}
def GCI(mg:A4->Option AH)(x:A4)(i:Int):Prop:=∃t,mg x=AA (.int i t)
def zob{x:A4}{i:Int}(hg:Gl X x)(h:GCI X.mg x i)(hd:(x==("__debug__":A4))=false:=by decide):PE X (.Name x pos) (tE S X (.cst (.int i))):=by
 let⟨t,hm⟩:=h;exact(zfX hg hm (show RelV (.int i) (.int i t)from ⟨t,rfl⟩) hd).imp λσ H Q ⟨B,φ,st,ρ,rs,re,h⟩=>by
  erw[ev]at h;exact h.ok rs (by erw[yd])
end
end L2
namespace WE
open PySem PySem.Spec PyProof.Rows
section
variable {prog:Af}{w:Aw}{A:BC}{E:AH->AK->Prop}{s:AK}
def ydd(h:BU)(a t:AJ)(i:Int):Prop:=∃o,h.get? a=AA o/\o.cls=.type "reversed"/\o.data=.fields #[.ref t,rawInt i]
theorem ydd.typeIs{a t:AJ}{i:Int}(x:ydd s.heap a t i):s.TypeIs (.ref a) "reversed":=let ⟨o,ho,hc,_⟩:=x;⟨o,ho,hc⟩
end
end WE
namespace L2
open PySem PySem.Spec PyProof.Rows
end L2
namespace L2
open PySem PySem.Spec PyProof.Rows IC
open Classical in
section
variable {S:Se}{X:Cx}{σ:St}{B:AJ->Prop}{φ φ1:Ph}{H H1:Hp}{st:SO}{ρ:IC.Env}{p pos p2 px py pt pt2:CW}{a b c d o a' b' c' d':AZ}{ca cb cc cd ce cf:Ce}{π:List (AJ×CA)}{s:AK}{kt k2:Nat}{es:List AZ}{ces:Ces}{x:A4}
end
end L2
namespace IC
open PySem
end IC
namespace L2
open PySem PySem.Spec PyProof.Rows IC
section
variable {S:Se}{X:Cx}{σ:St}{B:AJ->Prop}{φ:Ph}{H:Hp}{p p2 pos pos2 apos:CW}{a b tg:AZ}{ca cb:Ce}
def zdo:∀bs:List Bool,((CK bs.length).any λi=>(bs[i]?).getD AB)=bs.any id
 |[]=>rfl
 |b::bs=>by
  rw[AL,Ew,BV,HJ,BV,<-zdo bs];rfl
def zjY(hc:X.calm=AB):yad X (.builtin "any") (λxs H Q=>∃(l:AJ) (bs:List Bool),xs=[.ref l]/\SqL X.K H l (bs.map V.bl)/\Q (.bl (bs.any id)) H):=by
 intro π s σ H xs us Q I r h;let⟨l,bs,rfl,hq,q⟩:=h;let⟨u,rfl,ru⟩:=Vals.one r
 cases (show u=BW l from ru)
 let⟨its,rv,pl,hz⟩:=I.list hq;have hb:=zdQ rv;have hl:=pl.isList;have hlt:l<s.heap.objs.size:=by
  let⟨_,e,_⟩:=hl;exact Aa e
 refine call_any_walk (ES hl ?_);refine⟨s.heap.objs.size,[s.heap.objs.size,l],[s.heap.objs.size],its.toArray.size,_,_,λi=>(bs[i]?).getD AB,rfl,Hj (A:=X.A.in1) (I.ok.hd hc) _ l (Az hlt) its.toArray,⟨⟨_,Au _ rfl,rfl,rfl⟩,hl.push _⟩,λi v s' Q' E' hP hQ=>?_,λh' tk hk=>?_⟩
 .let⟨b,e,rfl⟩:=hb.get i v (by simpa using hP);erw[e,B1]at hQ;exact B6 hQ
 .have e:((CK its.toArray.size).any λi=>(bs[i]?).getD AB)=bs.any id:=by
   rw[AV,hb.length];exact zdo bs
  rw[e];exact⟨.bl _,H,I.kept (t':=tk) (Fe hk),rfl,q⟩
def zl8:∀{vs:List PV} {m:Bool},IC.anyB vs=AA m->∃ns:List Bool,vs=ns.map .bl/\m=ns.any id
 |[],m,h=>by cases h;exact⟨[],rfl,rfl⟩
 |.bl i::r,m,h=>by
  erw[IC.anyB]at h;split at h
  .rename_i c e
   cases h
   let⟨ns,e1,e2⟩:=zl8 e;exact⟨i::ns,by rw[e1];rfl,by rw[e2];rfl⟩
  .cases h
 |.non::r,m,h=>by cases h
 |.int _::r,m,h=>by cases h
 |.str _::r,m,h=>by cases h
 |.tp _ _::r,m,h=>by cases h
 |.lst _::r,m,h=>by cases h
 |.loc _::r,m,h=>by cases h
 |.fnc _::r,m,h=>by cases h
 |.exn _::r,m,h=>by cases h
 |.scr _::r,m,h=>by cases h
def zoj:bootBuiltins "any"=AA (.builtin "any"):=by decide +kernel
def zgG:∀{ns:List Int} {us:List AH},Vals (ns.map V.int) us->us.length=ns.length/\∀(i:Nat) (v:AH),us[i]?=AA v->∃n t,ns[i]?=AA n/\v=.int n t
 |[],_,.nil=>⟨rfl,λi v h=>by simp at h⟩
 |n::ns,_,.cons r q=>by
  let⟨h1,h2⟩:=zgG q;let⟨t,rfl⟩:=r;refine⟨by simp[h1],λi v h=>?_⟩
  cases i with
  |zero=>simp at h;exact⟨n,t,rfl,h.symm⟩
  |succ i=>simp at h;simpa using h2 i v h
def zdt:∀ns:List Int,((CK ns.length).any λi=>((ns[i]?).getD 1) != 0)=ns.any (· != 0)
 |[]=>rfl
 |b::bs=>by
  rw[AL,Ew,BV,HJ,BV,<-zdt bs];rfl
def zh2(hc:X.calm=AB):yad X (.builtin "any") (λxs H Q=>∃(l:AJ) (ns:List Int),xs=[.ref l]/\SqT X.K H l (ns.map V.int)/\Q (.bl (ns.any (· != 0))) H):=by
 intro π s σ H xs us Q I r h;let⟨l,ns,rfl,hq,q⟩:=h;let⟨u,rfl,ru⟩:=Vals.one r
 cases (show u=BW l from ru)
 let⟨its,rv,p,hz⟩:=I.tuple hq;let⟨hn,hb⟩:=zgG rv;have hl:s.heap.IsTuple l its.toArray:=p;have hlt:l<s.heap.objs.size:=by
  let⟨_,e,_⟩:=hl;exact Aa e
 refine call_any_walk (Ca hl ?_);refine⟨s.heap.objs.size,[s.heap.objs.size,l],[s.heap.objs.size],its.toArray.size,_,_,λi=>((ns[i]?).getD 1) != 0,rfl,Walks.tuple (A:=X.A.in1) (I.ok.hd hc) _ l (Az hlt) its.toArray,⟨⟨_,Au _ rfl,rfl,rfl⟩,hl.push _⟩,λi v s' Q' E' hP hQ=>?_,λh' tk hk=>?_⟩
 .let⟨b,t,e,rfl⟩:=hb i v (by simpa using hP);erw[e,B1]at hQ;exact truthy_int hQ
 .have e:((CK its.toArray.size).any λi=>((ns[i]?).getD 1) != 0)=ns.any (· != 0):=by
   rw[AV,hn];exact zdt ns
  rw[e];exact⟨.bl _,H,I.kept (t':=tk) (Fe hk),rfl,q⟩
def zi7:∀{vs:List PV} {m:Bool},IC.anyI vs=AA m->∃ns:List Int,vs=ns.map .int/\m=ns.any (· != 0)
 |[],m,h=>by cases h;exact⟨[],rfl,rfl⟩
 |.int i::r,m,h=>by
  erw[IC.anyI]at h;split at h
  .rename_i c e
   cases h
   let⟨ns,e1,e2⟩:=zi7 e;exact⟨i::ns,by rw[e1];rfl,by rw[e2];rfl⟩
  .cases h
 |.non::r,m,h=>by cases h
 |.bl _::r,m,h=>by cases h
 |.str _::r,m,h=>by cases h
 |.tp _ _::r,m,h=>by cases h
 |.lst _::r,m,h=>by cases h
 |.loc _::r,m,h=>by cases h
 |.fnc _::r,m,h=>by cases h
 |.exn _::r,m,h=>by cases h
 |.scr _::r,m,h=>by cases h
def znQ(st:SO)(v:PV):(∃k xs,v=.tp k xs) \/ yan .any st [v]=(yK st v).bind λxs=>(anyB xs).map .bl:=by
 cases v<;>first|exact .inl ⟨_,_,rfl⟩|exact .inr rfl
def zpH(hc:X.calm=AB):yad X (.builtin "any") (rB S X .any):=by
 rintro π s σ H xs us Q I r ⟨B,φ,st,vs,z,rs,l,e,q⟩
 let⟨v,rfl⟩:=zbd e λ_ _=>rfl;let⟨x,rfl,rv⟩:=l.one;rcases znQ st v with⟨k,ws,rfl⟩|ev
 .have e:(IC.anyI ws).map PV.bl=AA z:=e
  cases e2:IC.anyI ws with
  |none=>rw[e2]at e;cases e
  |some m=>
   rw[e2]at e
   cases e
   let⟨ns,rfl,rfl⟩:=zi7 e2;erw[yd]at rv;let⟨a,ys,rfl,h,l⟩:=rv;have h:=h.sq;rw[l.ints]at h;exact zh2 hc π s σ H _ us Q I r ⟨a,ns,rfl,h,q _ H φ .rfl rs (by erw[yd])⟩
 .rw[ev]at e
  cases e1:yK st v with
  |none=>rw[e1]at e;cases e
  |some ws=>
   rw[e1]at e;erw[B3]at e
   cases e2:IC.anyB ws with
   |none=>rw[e2]at e;cases e
   |some m=>
    rw[e2]at e
    cases e
    let⟨ns,rfl,rfl⟩:=zl8 e2;let⟨a,ys,rfl,h,l⟩:=zaB rs rv e1;rw[l.bls]at h;exact zjY hc π s σ H _ us Q I r ⟨a,ns,rfl,h,q _ H φ .rfl rs (by erw[yd])⟩
end
end L2
namespace WE
open PySem PySem.Spec PyProof.Rows
section
variable {pg:Af}{wd:Aw}{A:BC}{Er:AH->AK->Prop}{s:AK}
end
end WE
namespace L2
open PySem PySem.Spec PyProof.Rows
end L2
namespace L2
open PySem PySem.Spec PyProof.Rows IC
inductive ycd(K:AG)(cl:Nat->AJ)(w:Aw):List (A4×PV)->List CV->Prop
 |nil:ycd K cl w [] []
 |cons {k:A4} {v:PV} {t:Hk} {u:AH} {x:V} {D:List (A4×PV)} {es:List CV} (hr:RelV x u) (hv:∀B φ H,yd K cl B φ H v x) (h:ycd K cl w D es):ycd K cl w ((k,v)::D) (⟨EF w.params k,.str k t,u⟩ :: es)
def GD(K:AG)(w:Aw)(mg:A4->Option AH)(cl:Nat->AJ)(x:A4)(D:List (A4×PV)):Prop:=
 ∃(y:AJ) (es:Array CV) (ep:Nat),mg x=AA (.ref y)/\K.lookup y=AA ⟨.type "dict",AD,.dict es ep,#[]⟩/\(y==sysModules)=AC/\ycd K cl w D es.toList/\(D.map (·.1)).Nodup
theorem ycd.pairs{K:AG}{cl:Nat->AJ}{P:Af}{w:Aw}{D:List (A4×PV)}{es:List CV}(h:ycd K cl w D es):
  ∃vs:List (A4×AH),Pairs (strKind P w) es vs/\(∀e∈es,∃k,(strKind P w).is k e.key=AB/\e.hash=(strKind P w).hash k)/\vs.map (·.1)=D.map (·.1) /\
   (∀s,(valueAt vs s).isSome=(yby s D).isSome)/\∀s v,yby s D=AA v->∃u x,valueAt vs s=AA u/\RelV x u/\∀B φ H,yd K cl B φ H v x:=by
 induction h with
 |nil=>exact⟨[],.nil,λe he=>(by cases he),rfl,λs=>rfl,λs v e=>by cases e⟩
 |@cons k v t u x D es hr hv h ih=>
  let⟨vs,h1,h2,h3,h4,h5⟩:=ih;have hat:∀s,valueAt ((k,u)::vs) s=if k=s then AA u else valueAt vs s:=λs=>by
   unfold valueAt;rw[Bw]
   by_cases e:k=s
   .simp[e]
   .simp[e]
  refine⟨(k,u)::vs,.cons (Ex P w k t) rfl h1,λe he=>?_,by rw[AM,AM,h3],λs=>?_,λs v' e=>?_⟩
  .rcases BB.1 he with rfl|he
   .exact⟨k,Ex P w k t,rfl⟩
   .exact h2 e he
  .rw[hat,yby]
   by_cases e:k=s
   .rw[if_pos e,if_pos (by simpa using e)];rfl
   .rw[if_neg e,if_neg (by simpa using e),h4]
  .rw[yby]at e;rw[hat]
   by_cases q:k=s
   .rw[if_pos (by simpa using q)]at e
    cases e
    exact⟨u,x,by rw[if_pos q],hr,hv⟩
   .rw[if_neg (by simpa using q)]at e;let⟨u',x',e1,e2,e3⟩:=h5 s v' e;exact⟨u',x',by rw[if_neg q];exact e1,e2,e3⟩
section
variable {S:Se}{X:Cx}{σ:St}{B:AJ->Prop}{φ:Ph}{H:Hp}{st:SO}{pos p:CW}{a b i:AZ}{ca cb:Ce}{x:A4}{D:List (A4×PV)}{ty:TE}
end
section
variable {K:AG}{cl:Nat->AJ}{B:AJ->Prop}{φ:Ph}{H:Hp}{st:SO}
end
section
variable {S:Se}{X:Cx}{K:AG}{cl:Nat->AJ}{σ:St}{B:AJ->Prop}{φ φ1:Ph}{H H1:Hp}{st:SO}{ρ:IC.Env}{pos p p2 px:CW}{a b c o tg l elt iter:AZ}{ca cb cc ce:Ce}{ci:Cit}{ct:Tg}
end
section
variable {K:AG}{cl:Nat->AJ}{B:AJ->Prop}{φ:Ph}{H:Hp}{st:SO}
theorem FS.lookup{f:A4}:∀{fs:List (A4×PV)} {ks:List (A4×V)},FS K cl B φ H fs ks->(∀v,fs.lookup f=AA v->∃x,ks.lookup f=AA x/\yd K cl B φ H v x)/\(fs.lookup f=AD->ks.lookup f=AD)
 |[],ks,h=>by
  cases (show ks=[]from h)
  exact⟨nofun,λ_=>rfl⟩
 |(k,v)::r,ks,h=>by
  let⟨x,s,rfl,rv,l⟩:=h;let⟨q1,q2⟩:=FS.lookup (f:=f) l;erw[G2]
  cases e:f==k with
  |true=>exact⟨λw z=>by cases z;exact⟨x,rfl,rv⟩,λz=>by cases z⟩
  |false=>exact⟨q1,q2⟩
theorem FS.put{f:A4}{v:PV}{x:V}(r:yd K cl B φ H v x):∀{fs:List (A4×PV)} {ks:List (A4×V)},FS K cl B φ H fs ks->FS K cl B φ H (ycU f v fs) (yba f x ks)
 |[],ks,h=>by
  cases (show ks=[]from h)
  exact⟨x,[],rfl,r,rfl⟩
 |(k,w)::q,ks,h=>by
  let⟨y,s,rfl,ry,l⟩:=h;erw[ycU,yba]
  by_cases c:k=f
  .rw[if_pos c,if_pos c];exact⟨x,s,rfl,r,l⟩
  .rw[if_neg c,if_neg c];exact⟨y,_,rfl,ry,FS.put r l⟩
theorem FS.len:∀{fs:List (A4×PV)} {ks:List (A4×V)},FS K cl B φ H fs ks->fs.length=ks.length
 |[],ks,h=>by cases (show ks=[]from h);rfl
 |(k,w)::q,ks,h=>by
  let⟨y,s,rfl,ry,l⟩:=h;simp[FS.len l]
theorem yE.ins{n c:Nat}{fs:List (A4×PV)}{x:V}(rs:yE K cl B φ H st)(r:yd K cl B φ H (.loc n) x)(h:st[n]?=AA (.ins c fs)):∃y ks dx,x=.ref y/\φ[n]?=AA (AA y)/\H y=AA (.ins (cl c) dx ks)/\FS K cl B φ H fs ks:=by
 erw[yd]at r;let⟨hn,y,rfl,hy⟩:=r;let⟨a,ha⟩:=rs.liv n _ h (by intro z;cases z);let⟨o,ho,ro⟩:=rs.obj n a ha;have e:=hy a ha;subst e;rw[h]at ho
 cases ho
 let⟨ks,⟨dx,q⟩,l⟩:=ro;exact⟨a,ks,dx,rfl,ha,q,l⟩
end
section
variable {S:Se}{X:Cx}{σ:St}{B:AJ->Prop}{φ φ1:Ph}{H H1:Hp}{st:SO}{ρ:IC.Env}{p pos pos' p2 apos:CW}{a b d o e:AZ}{ca cb cc:Ce}{es:List AZ}{ces:Ces}{c i k:Nat}{f m x:A4}{fa:AJ}{fd:BL}{ps:List A4}
end
inductive ych(w:Aw)(fa:Nat->AJ):List (A4×Nat)->List CV->Prop
 |nil:ych w fa [] []
 |cons {k:A4} {i:Nat} {t:Hk} {D:List (A4×Nat)} {es:List CV} (h:ych w fa D es):ych w fa ((k,i)::D) (⟨EF w.params k,.str k t,.ref (fa i)⟩ :: es)
def GDF(K:AG)(w:Aw)(mg:A4->Option AH)(fa:Nat->AJ)(x:A4)(D:List (A4×Nat)):Prop:=
 ∃(y:AJ) (es:Array CV) (ep:Nat),mg x=AA (.ref y)/\K.lookup y=AA ⟨.type "dict",AD,.dict es ep,#[]⟩/\ych w fa D es.toList/\(D.map (·.1)).Nodup
theorem ych.pairs{P:Af}{w:Aw}{fa:Nat->AJ}{D:List (A4×Nat)}{es:List CV}(h:ych w fa D es):
  ∃vs:List (A4×AH),Pairs (strKind P w) es vs/\(∀e∈es,∃k,(strKind P w).is k e.key=AB/\e.hash=(strKind P w).hash k)/\vs.map (·.1)=D.map (·.1) /\
   ∀s i,D.lookup s=AA i->valueAt vs s=AA (.ref (fa i)):=by
 induction h with
 |nil=>exact⟨[],.nil,λe he=>(by cases he),rfl,λs v e=>by cases e⟩
 |@cons k i t D es h ih=>
  let⟨vs,h1,h2,h3,h5⟩:=ih;have hat:∀s,valueAt ((k,BW (fa i))::vs) s=if k=s then AA (.ref (fa i))else valueAt vs s:=λs=>by
   unfold valueAt;rw[Bw]
   by_cases e:k=s
   .simp[e]
   .simp[e]
  refine⟨(k,.ref (fa i))::vs,.cons (Ex P w k t) rfl h1,λe he=>?_,by rw[AM,AM,h3],λs j e=>?_⟩
  .rcases BB.1 he with rfl|he
   .exact⟨k,Ex P w k t,rfl⟩
   .exact h2 e he
  .rw[hat];erw[G2]at e
   by_cases q:k=s
   .subst q;rw[beq_self_eq_true]at e
    cases e
    rw[if_pos rfl]
   .rw[beq_eq_false_iff_ne.2 (Bf q)]at e;rw[if_neg q];exact h5 s j e
section
variable {S:Se}{X:Cx}{σ:St}{B:AJ->Prop}{φ:Ph}{H:Hp}{st:SO}{ρ:IC.Env}{pos p p1 p2 p3 p4 p5 p6 p7:CW}{a b i e n:AZ}{es:List AZ}{ca cn:Ce}{ces:Ces}{x y:A4}{D:List (A4×Nat)}{ty:TE}{t:TA}{fa:Nat->AJ}{fdd:Nat->BL}{ps:Nat->List A4}{k ix:Nat}
def ydg(D:List (A4×Nat))(fa:Nat->AJ)(ty:TE):TE:=λσ H Q=>ty σ H λz H2=>∃s j,z=.str s/\D.lookup s=AA j/\Q (.ref (fa j)) H2
def zj2(hg:Gl X x)(h:GDF X.K X.w X.mg fa x D)(hi:PE X i ty)(hs:yd2 i)(hd:(x==("__debug__":A4))=false:=by decide):PE X (.Subscript (.Name x p) i pos) (ydg D fa ty):=by
 let⟨y,es,ep,hm,hk,hr,hn⟩:=h;let⟨vs,h1,h2,h3,h5⟩:=hr.pairs (P:=X.prog);intro π s σ H Q I q0;refine zmf PySem.F.slot_dict_getitem.lookup hs (thn (zfX (v:=.ref y) hg hm rfl hd π s σ H (λz H1=>z=.ref y/\ty σ H1 λz H2=>∃s j,z=.str s/\D.lookup s=AA j/\Q (.ref (fa j)) H2) I ⟨rfl,q0⟩) λu s1 kq=>?_);let⟨z,H1,I1,rz,ez,q1⟩:=kq;refine thn (hi π s1 σ H1 _ I1 q1) λiv s2 kq=>?_;let⟨z2,H2,I2,rz2,sx,j,ez2,e,q2⟩:=kq;subst ez;subst ez2;obtain rfl:u=BW y:=rz;let⟨t,rfl⟩:=rz2;have dd:s2.heap.DictOf (strKind X.prog X.w) y vs:=⟨_,es,ep,I2.kIn y _ hk,⟨rfl,rfl,rfl⟩,rfl,λe he=>h2 e (by simpa using he),h1,by rw[h3];exact hn⟩;exact⟨dd.typeIs,wpAny_getItem_of (Ex X.prog X.w sx t) dd.mapOf (h5 sx j e) ⟨.ref (fa j),H2,I2.tok _,rfl,q2⟩⟩
structure Makers(S:Se)(X:Cx)(k:Nat)(D:List (A4×Nat))(fa:Nat->AJ)(fdd:Nat->BL)(ps:Nat->List A4):Prop where
 F:∀s j,D.lookup s=AA j->ybj X.prog X.w X.K X.mg X.base (CX1 X.prog X.w) k (fa j) (fdd j) (ps j) (spI X.K S.cl S.call j)
 kp:∀s j,D.lookup s=AA j->Ax X.K (.ref (fa j))=AB
 b:∀s j,D.lookup s=AA j->Binds X.K (fdd j) (ps j) []
def ydk(S:Se)(X:Cx)(D:List (A4×Nat))(fa:Nat->AJ)(ix:Nat)(t:TA):TE:=λσ H Q=>∃s j,D.lookup s=AA j/\σ[ix]?=AA (AA (.ref (fa j)))/\t σ H λvs H1=>∃E:XK,spI X.K S.cl S.call j vs H1 Q E/\∀π s e s',Inv X π σ H1 s->CX1 X.prog X.w X.stack H1 s E e s'->X.xe e s'
def zkt(M:Makers S X k D fa fdd ps)(hr:yaW k X.A)(hN:X.N[ix]?=AA x)(hv:Vis X.env.scope x)(ha:PA X (e::es) t)
  (hd:(x==("__debug__":A4))=false:=by decide) (hcd:(x==("__classdict__":A4))=false:=by decide) (he:starEach (e::es) X.env=(AC,eval e X.env)::starEach es X.env:=by rfl) (hpl:(backTo pos (starEach es X.env)).any (·.1)=false:=by rfl):
  PE X (.Call (.Name x p) (e::es) [] pos) (ydk S X D fa ix t):=by
 intro π s σ H Q I ⟨sx,j,hl,hs,h⟩;refine Br (thn (zl2 hN hv hd hcd π s σ H (λz H1=>z=.ref (fa j)/\t σ H1 λvs H1=>∃E:XK,spI X.K S.cl S.call j vs H1 Q E/\∀π s e s',Inv X π σ H1 s->CX1 X.prog X.w X.stack H1 s E e s'->X.xe e s') I ⟨_,hs,rfl,h⟩) λu s1 kq=>?_);let⟨z,H1,I1,rz,ez,q1⟩:=kq;subst ez;obtain rfl:u=BW (fa j):=rz;refine Fx (h₀:=X.base) I.ok.mod.kin (M.kp sx j hl) (thn (ha pos π s1 σ H1 _ I1 q1) λus s2 kq=>?_) he hpl;let⟨vs,H2,I2,r,E,q,hx⟩:=kq;refine ⟨I2.kIn,?_⟩;exact zfZ (M.F sx j hl) hr (M.b sx j hl) .nil I2 r (by rw[CU];exact q) λe s' c=>hx π s2 e s' I2 c
theorem yN.hole{K:AG}{cl:Nat->AJ}{v:V}(re:yN K cl B φ H ρ σ):yN K cl B φ H (ρ.set ix AD) (σ.set ix (AA v)):=by
 refine⟨by simp[re.len],λj w e=>?_⟩
 by_cases q:ix=j
 .subst q
  by_cases hj:ix<ρ.length
  .rw[Ai hj]at e;cases e
  .rw[B4 (by simp;lia)]at e;cases e
 .rw[Ah q]at e ⊢;exact re.get j w e
def zkP{v:PV}{j:Nat}{b:Bool}(h:mkV D b v=AA j):∃s,v=.str s/\D.lookup s=AA j/\b=true:=by
 cases v with
 |str s=>
  cases b with
  |true=>exact⟨s,rfl,h,rfl⟩
  |false=>cases h
 |_=>cases h
def zpU(M:Makers S X k D fa fdd ps)(hr:yaW k X.A)(hN:X.N.Nodup)(hi:X.N[ix]?=AA x)(hx:Loc X.env.scope x)(hv:Vis X.env.scope x)(hg:Gl X y)(hd:GDF X.K X.w X.mg fa y D)(hn:PE X n (tE S X cn))(ha:PA X (e::es) (tAs S X ces))
  (hs:yd2 n:=by exact λ_ _=>rfl) (hsw:swapsWith (.Subscript (.Name y p2) n p3) (AA (.Name x p1)) p4.line X.env=pure false:=by rfl) (hf:X.fn x=AB \/ X.env.scope.names.lookup x=AA .local:=by first|exact .inl rfl|exact .inr rfl|assumption)
  (hyd:(y==("__debug__":A4))=false:=by decide) (hxd:(x==("__debug__":A4))=false:=by decide) (hcd:(x==("__classdict__":A4))=false:=by decide) (he:starEach (e::es) X.env=(AC,eval e X.env)::starEach es X.env:=by rfl) (hpl:(backTo p6 (starEach es X.env)).any (·.1)=false:=by rfl):
  PSs X [.Assign [.Name x p1] (.Subscript (.Name y p2) n p3) p4,.Return (AA (.Call (.Name x p5) (e::es) [] p6)) p7] (tSs S X (.cons (.mkr ix D cn ces) .nil)):=
 (zgF (zlN hN hi hx (zj2 hg hd hn hs hyd) hsw hf) (znS (zlL (zkt M hr hi hv ha hxd hcd he hpl)))).imp λD' σ H ⟨B,φ,st,ρ,rs,re,h⟩=>by
  have h:yaL S X B φ H (ex S.call ρ st (.mkr ix D cn ces)) D':=by
   erw[exs]at h
   cases q:ex S.call ρ st (.mkr ix D cn ces)with
   |nx ρ' s'=>
    exfalso;erw[ex]at q
    cases q1:ev S.call ρ st cn with
    |ok v1 s1=>
     rw[q1]at q;erw[R.fl]at q;split at q
     .rename_i j _
      cases q2:(evs S.call (ρ.set ix AD) s1 ces).bind λvs st2=>S.call j vs st2 with
      |ok v2 s2=>rw[q2]at q;cases q
      |exc c s2=>rw[q2]at q;cases q
      |bad=>rw[q2]at q;cases q
     .cases q
    |exc c s1=>rw[q1]at q;cases q
    |bad=>rw[q1]at q;cases q
   |rt v s'=>rw[q]at h;exact h
   |bk ρ' s'=>rw[q]at h;exact h
   |ct ρ' s'=>rw[q]at h;exact h
   |exc c ρ' s'=>rw[q]at h;exact h
   |bad=>rw[q]at h;exact h
  erw[ex]at h;refine tE.fl rs re h λx' H1 v st1 φ1 s1 rs1 re1 rv h1=>?_
  cases q:mkV D (decide (ix<ρ.length)) v with
  |none=>rw[q]at h1;exact h1.elim
  |some j=>
   rw[q]at h1;let⟨sx,rfl,hl,hb⟩:=zkP q;erw[yd]at rv;subst rv;have hlen:ix<σ.length:=by
    rw[<-re1.len];exact of_decide_eq_true hb
   refine⟨sx,j,rfl,hl,sx,j,hl,by rw[Ai hlen],B,φ1,st1,ρ.set ix AD,rs1,re1.hole,?_⟩;dsimp only at h1
   cases q2:evs S.call (ρ.set ix AD) st1 ces with
   |bad=>rw[q2]at h1;exact h1
   |exc c s2=>rw[q2]at h1;exact λe s' z=>h1 _ φ1 H1 e s' .rfl re1.hole z
   |ok vs st2=>
    rw[q2]at h1;intro xs H2 φ2 s2 rs2 rl;have h2:yaL S X B φ1 H1 ((S.call j vs st2).fl (ρ.set ix AD) λv st3=>.rt v st3) D':=h1;refine zbn rs2 rl ?_
    cases q3:S.call j vs st2 with
    |bad=>rw[q3]at h2;exact h2
    |ok v st3=>rw[q3]at h2;exact λx H' φ' s' rs' rv=>h2 x H' φ' (s2.trans s') rs' rv
    |exc c st3=>rw[q3]at h2;exact λe s' z=>h2 _ φ2 H2 e s' s2 (re1.hole.step s2) z
end
section
variable {P:Af}{w:Aw}{K:AG}{mg:A4->Option AH}{base:BU}{cl:Nat->AJ}{T:Nat->Option IC.Fn}{fi:Nat}{fn:IC.Fn}{x qual:A4}{stm:By}{f:AJ}{fd:BL}{N ps:List A4}{k m:Nat}
def zkg:ybj P w K mg base (CX1 P w) m f fd ps (spI K cl (yc T 0) fi):=
 ⟨λvs H Q E ⟨_,_,_,_,_,_,h⟩=>by rw[yc]at h;exact h.elim,λA outer s H args us vs Q E _ _ _ _ ⟨_,_,_,_,_,_,h⟩=>by rw[yc]at h;exact h.elim⟩
end
theorem yaT.units{k:Nat}{A:BC}(r:yaT k A):A.units+64<cLine:=by have:=r.un;lia
section
variable {P:Af}{w:Aw}{K:AG}{mg:A4->Option AH}{base:BU}{cl:Nat->AJ}{T:Nat->Option IC.Fn}{fi:Nat}{fn:IC.Fn}{x qual:A4}{stm:By}{f:AJ}{fd:BL}{N ps:List A4}{k m:Nat}
def zko(hT:T fi=AA fn)(hns:N.length=fn.ns)(hpu:fn.pure=AC){scope:Bj}{cdv:AH}{A:BC}{outer:List B7}{s:AK}{vs:List V}{H:Hp}{Q:VK}(h:spI K cl (yc T (k+1)) fi vs H Q E0):
  tSs ⟨cl,yc T k,AC⟩ (ybU P w K mg base N qual scope f cdv A outer s H) fn.body {nx:=λ_ H'=>Q .non H',rt:=Q} (L2.start N vs) H:=by
 let⟨B,φ,st,args,rs,l,h⟩:=h;have hl:args.length=fn.np:=zib (k:=k) hT args st λz=>by rw[z]at h;exact h
 have hlen:=l.length;rw[yc,hT]at h;dsimp only at h;rw[if_pos hl,hpu,if_neg (by simp)]at h;refine⟨B,φ,st,_,rs,yN.start l (fn.ns-fn.np) ∅,?_⟩;show yaL _ _ _ _ _ (exs (yc T k) (args.map AA++AS (fn.ns-fn.np) AD) st fn.body) _
 cases e:exs (yc T k) (args.map AA++AS (fn.ns-fn.np) AD) st fn.body with
 |nx ρ' st'=>
  rw[e]at h;intro σ' H' φ' s' rs' re';exact h .non H' φ' s' rs' (by erw[yd])
 |rt v st'=>
  rw[e]at h;intro y H' φ' s' rs' rv;exact h y H' φ' s' rs' rv
 |exc c ρ' st'=>
  rw[e]at h;intro σ' φ1 H1 ev s' s1 _ ex;rcases ex with⟨π,H2,s2,φ2,I,s3,q⟩|⟨hm,_⟩|⟨hm,_⟩
  .let⟨_,cls,_,H',_,_,_,_,_,_,_,_,_,_,e1,φ',s4,r⟩:=q;exact(h H' φ' (s1.trans (s3.trans s4)) r).elim
  .cases hm
  .cases hm
 |bk ρ' st'=>rw[e]at h;exact h.elim
 |ct ρ' st'=>rw[e]at h;exact h.elim
 |bad=>rw[e]at h;exact h.elim
def zqm(hT:T fi=AA fn)(F:Fun K x qual stm f fd)(Sc:yaN N ps (yp stm))(hnp:ps.length=fn.np)(hns:N.length=fn.ns)(hpu:fn.pure=AC)
  (body:∀(cdv:AH) (A:BC) (outer:List B7) (s:AK) (H:Hp),yaT m (A.deeper (envOfC qual (yp stm) s.heap.objs.size f cdv)) ->
   PSs (ybU P w K mg base N qual (yp stm) f cdv A outer s H) (yU stm) (tSs ⟨cl,yc T k,AC⟩ (ybU P w K mg base N qual (yp stm) f cdv A outer s H) fn.body)):
  yb4 P w K mg base (m+1) f fd ps (spI K cl (yc T (k+1)) fi):=
 F.okH Sc (λvs H Q E h=>zlS hT hnp h) λcdv A outer s H vs Q hr h=>⟨_,body cdv A outer s H hr,zko hT hns hpu h⟩
def zkx:yb4 P w K mg base m f fd ps (spI K cl (yc T 0) fi):=
 ⟨λvs H Q E ⟨_,_,_,_,_,_,h⟩=>by rw[yc]at h;exact h.elim,λA outer s H args us vs Q _ _ _ _ ⟨_,_,_,_,_,_,h⟩=>by rw[yc]at h;exact h.elim⟩
end
section
variable {S:Se}{X:Cx}{σ:St}{B:AJ->Prop}{φ:Ph}{H:Hp}{st:SO}{ρ:IC.Env}{p pos:CW}{e:AZ}{es:List AZ}{ces:Ces}{fi k:Nat}{x:A4}{f:AJ}{fd:BL}{ps:List A4}
end
end L2
namespace L2
open PySem IC
section
variable {S:Se}{X:Cx}{σ:St}{B:AJ->Prop}{φ φ1:Ph}{H H1:Hp}{st:SO}{ρ:IC.Env}{p pos p2 px py pt pt2:CW}{a b c d o a' b' c' d':AZ}{ca cb cc cd ce cf:Ce}{π:List (AJ×CA)}{s:AK}{kt k2:Nat}{es:List AZ}{ces:Ces}{x:A4}
end
end L2
namespace L2
open PySem PySem.Spec PyProof.Rows
section
variable {X:Cx}
def zkf{i:Int}(i0:0<=i)(i1:i<=sizeLine):(!Builtin.List.listFitsIndex i)=false:=by
 unfold Gk;have:sizeLine<=9000000000000000000:=by decide
 simp;lia
def ycG:V->List V->Hp->VK->Prop:=λx vs H Q=>∃l i xs y,x=.ref l/\vs=[.int i,y]/\H l=AA (.lst xs)/\0<=i/\i<=xs.length/\xs.length<sizeLine/\Q .non (upd H l (.lst (xs.take i.toNat++y::xs.drop i.toNat)))
def zjw:MtM X "list.insert" ycG:=by
 intro π s σ H x vs v us Q I rx rv h;let⟨l,i,xs,y,rfl,rfl,hH,i0,i1,hz,q⟩:=h
 cases rx
 let⟨u,w,rfl,ru,rw⟩:=rv.two;let⟨tk,rfl⟩:=ru;let⟨z,its,n,r,hl,e⟩:=I.lstM hH;refine Ck FH ⟨_,e,rfl⟩ F.entry_list_insert (F.args_list_insert_3 _ _ _) (AutoSeq1.list_insert_list_int_val_1 l its.toArray n i tk w (by rw[zkf i0 ∅];exact BD) (by rw[AV];lia)) ⟨e,?_⟩;refine⟨.non,_,I.lset (its':=its.take i.toNat++w::its.drop i.toNat) hH e ?_ ((r.take i.toNat).append (.cons rw (r.drop i.toNat))) ?_,rfl,q⟩
 .show (its.toArray.extract 0 (if i<0 then(i+(its.toArray.size:Int)).toNat else min i.toNat its.toArray.size)).push w++its.toArray.extract (if i<0 then(i+(its.toArray.size:Int)).toNat else min i.toNat its.toArray.size)=_;rw[if_neg ∅,AV,Nat.min_eq_left ∅];apply Array.toList_inj.mp;simp;exact List.take_of_length_le (by simp)
 .rw[Av,AL,DX,Ee];lia
end
end L2
namespace L2
open PySem PySem.Spec PyProof.Rows IC
section
variable {S:Se}{X:Cx}{σ:St}{B:AJ->Prop}{φ φ1:Ph}{H H1:Hp}{st:SO}{ρ:IC.Env}{p pos p2 apos:CW}{a b c d:AZ}{ca cb cc:Ce}{es:List AZ}{ces:Ces}{K:AG}{cl:Nat->AJ}
def zja(ha:PE X a (tE S X ca))(hb:PE X b (tE S X cb))(hc:PE X c (tE S X cc))(hs:starEach [b,c] X.env=[(AC,eval b X.env),(AC,eval c X.env)]:=by rfl)(hs2:starEach [c] X.env=[(AC,eval c X.env)]:=by rfl)(hbase:attributeBase a "insert" X.env (eval a X.env)=eval a X.env:=by rfl)(hline:(apos.endLine==pos.line)=true:=by rfl)(hany:((backTo pos (starEach [c] X.env)).any λx=>x.1)=false:=by rfl)
  (hfew:((backTo pos (starEach [b,c] X.env)).all (λx=>!x.1)&&(backToKw pos (keywordEach [] X.env)).all (λx=>x.1.isSome)&&decide (([b,c]:List AZ).length+([]:List Bo).length+(if ([]:List Bo).isEmpty then 0 else 1)<30))=true:=by rfl):
  PE X (.Call (.Attribute a "insert" apos) [b,c] [] pos) (tE S X (.mth .insert ca (.cons cb (.cons cc .nil)))):=
 (zjh Bm FH PySem.F.type_list_insert zjw ha (zaj (S:=S) hb (zaj (S:=S) hc zb2 hs2) (by rw[hs,hs2])) hbase hfew hline (by rw[hs,hs2]) hany).imp λσ H Q ⟨B,φ,st,ρ,rs,re,h⟩=>by
  erw[ev]at h;refine tE.bind rs re h λx H1 v st1 φ1 s1 rs1 re1 rv h1=>?_;let⟨_,e1,h1⟩:=zbb h1;have t1:∃ws,yK st1 v=AA ws:=by
   erw[yaA]at e1
   cases q:yK st1 v with
   |none=>rw[q]at e1;cases e1
   |some ws=>exact⟨ws,rfl⟩
  let⟨ws,t1⟩:=t1;let⟨l,xs,rfl,hl,_⟩:=zaB rs1 rv t1;refine⟨.inl ⟨rfl,xs,hl⟩,tAs.bind rs1 re1 h1 λys H2 vs st2 φ2 s2 rs2 re2 rvs h2=>?_⟩;have rv2:=rv.step s2;rcases vs with _|⟨w,_|⟨w',_|⟨w'',t⟩⟩⟩
  .exact h2.elim
  .exact h2.elim
  .let⟨y,y',rfl,rw,rw'⟩:=rvs.two;unfold ybl at h2;erw[yfE]at h2;split at h2
   .rename_i n;split at h2
    .rename_i zs hz;split at h2
     .rename_i k;split at h2
      .rename_i c;let⟨l',xs',e,hn,hx,lr⟩:=rs2.list rv2 hz
       cases e
       erw[yd]at rw;subst rw;have hln:=lr.length;refine⟨l,k,xs',y',rfl,rfl,hx,c.1,by lia,by have:=zhX;lia,?_⟩;exact h2 _ _ φ2 (.put (A3 hn)) (rs2.put hn ⟨_,zf,((lr.take k.toNat).append (show yh _ _ _ _ _ (w'::zs.drop k.toNat) (y'::xs'.drop k.toNat)by erw[yh];exact⟨y',_,rfl,rw',lr.drop k.toNat⟩)).step (.put (A3 hn))⟩) (by erw[yd])
      .exact h2.elim
     .exact h2.elim
    .exact h2.elim
   .exact h2.elim
  .exact h2.elim
end
section
variable {S:Se}{X:Cx}{a b:AZ}{c i:Nat}{j:Int}{f:A4}{pos tpos:CW}
end
end L2
namespace HT
open PySem PySem.Spec PyProof.Rows
section
variable {prog:Af}{w:Aw}{A:BC}{E:AH->AK->Prop}{s:AK}
end
end HT
namespace L2
open PySem PySem.Spec PyProof.Rows IC
section
variable {S:Se}{X:Cx}{pos p2:CW}{e e3:AZ}{te t3:TE}{a:AZ}{ca c3:Ce}
theorem yh.reverse{K:AG}{cl:Nat->AJ}{B:AJ->Prop}{φ:Ph}{H:Hp}:∀{vs:List PV} {xs:List V},yh K cl B φ H vs xs->yh K cl B φ H vs.reverse xs.reverse
 |[],xs,h=>by
  erw[yh]at h;subst h;erw[List.reverse_nil,yh]
 |v::vs,xs,h=>by
  erw[yh]at h;let⟨y,ys,rfl,r,l⟩:=h;rw[DN,DN];exact(yh.reverse l).append (by erw[yh];exact⟨y,[],rfl,r,rfl⟩)
end
section
variable {X:Cx}{prog:Af}{w:Aw}{A:BC}{E:AH->AK->Prop}{s:AK}
def zax:typeLookup (Fm "tuple") (dunderI "add")=pure none:=rfl
def zkI{t b:AJ}{vs ws:List AH}{Q:AH->AK->Prop}(ht:G9 s.heap t vs.toArray)(hb:G9 s.heap b ws.toArray)
  (h0:vs=[]->Q (.ref b) s) (h1:vs≠[]->ws=[]->Q (.ref t) s)
  (h2:vs≠[]->ws≠[]->Q (.ref s.heap.objs.size) {s with heap:=s.heap.push {cls:=.type "tuple",data:=.seq (vs++ws).toArray} })
  (hsz:vs.length+ws.length<=sizeLine):Al (model prog w) A (inplaceOp .Add (.ref t) (.ref b)) Q E s:=by
 let⟨⟨cls,dd,data,sl⟩,ho,hc,n,hd⟩:=id ht;let⟨⟨cls2,dd2,data2,sl2⟩,ho2,hc2,n2,hd2⟩:=id hb;simp only at hc hd hc2 hd2;subst hc hd hc2 hd2;have e:vs.toArray++ws.toArray=(vs++ws).toArray:=by simp
 by_cases hv:vs=[]
 .exact DQ ⟨_,ho,rfl⟩ ⟨_,ho2,rfl⟩ zax C3 Cy (Ck Bp ⟨_,ho,rfl⟩ Bl (Bi _ _)
   (tuple_addW0 t b vs.toArray ws.toArray n n2 dd dd2 sl sl2 (by simp[hv])) ⟨ho,ho2,h0 hv⟩)
 .by_cases hw:ws=[]
  .exact DQ ⟨_,ho,rfl⟩ ⟨_,ho2,rfl⟩ zax C3 Cy (Ck Bp ⟨_,ho,rfl⟩ Bl (Bi _ _)
    (tuple_addW1 t b vs.toArray ws.toArray n n2 dd dd2 sl sl2 (by simpa using hv) (by simp[hw])) ⟨ho,ho2,h1 hv hw⟩)
  .refine DQ ⟨_,ho,rfl⟩ ⟨_,ho2,rfl⟩ zax C3 Cy (Ck Bp ⟨_,ho,rfl⟩ Bl (Bi _ _)
    (tuple_addW2 t b vs.toArray ws.toArray n n2 dd dd2 sl sl2 (by simpa using hv) (by simpa using hw) (by rw[AV,AV];exact hsz)) ⟨ho,ho2,?_⟩)
   rw[e];exact h2 hv hw
end
section
variable {S:Se}{X:Cx}{pos px:CW}{a:AZ}{ca:Ce}
def yfd(x y:PV):Option PV:=match x with
 |.tp k xs=>yC .add (.tp k xs) y
 |_=>AD
def zna:PIp X .Add (rT2 S X yfd):=by
 rintro π s σ H x y v u Q I rx ry ⟨B,φ,st,a,b,z,rs,ra,rb,e,q⟩
 unfold yfd at e;split at e
 .rename_i k1 vs
  cases b with
  |tp k2 ws=>
   unfold yC at e;erw[yd]at ra rb;let⟨p,xs,rfl,r1,l1⟩:=ra;let⟨p',ys,rfl,r2,l2⟩:=rb;dsimp only at e;split at e
   .rename_i c
    cases e
    have n1:=l1.length;have n2:=l2.length
    cases rx
    cases ry
    let⟨its,t1,p1,_⟩:=I.tuple r1.sq;let⟨its2,t2,p2,_⟩:=I.tuple r2.sq;have hz:xs.length+ys.length<=sizeLine:=by rw[<-zn];lia
    have ht:=I.hok.fresh (A0 s.heap.objs.size);have vn:its=[] ↔ vs=[]:=by rw[t1.nil_iff];constructor<;>(intro h;apply Da;rw[h,AN]at n1;lia)
    have wn:its2=[] ↔ ws=[]:=by rw[t2.nil_iff];constructor<;>(intro h;apply Da;rw[h,AN]at n2;lia)
    unfold ydX at q;refine zkI p1 p2 (λz=>?_) (λz1 z2=>?_) (λz1 z2=>?_) (by rw[<-t1.length,<-t2.length];exact hz)
    .rw[vn.mp z]at q;erw[Eg,if_true]at q;exact⟨.ref p',H,I,rfl,q _ H φ .rfl rs (by erw[yd];exact⟨p',ys,rfl,r2,l2⟩)⟩
    .rw[if_neg (by rw[D0];exact λh=>z1 (vn.mpr h)),if_pos (by rw[D0];exact wn.mp z2)]at q;exact⟨.ref p,H,I,rfl,q _ H φ .rfl rs (by erw[yd];exact⟨p,xs,rfl,r1,l1⟩)⟩
    .rw[if_neg (by rw[D0];exact λh=>z1 (vn.mpr h)),if_neg (by rw[D0];exact λh=>z2 (wn.mpr h))]at q;refine⟨.ref s.heap.objs.size,_,I.laid (t':=s.toks) (o:=.tup (xs++ys)) (λb ob q=>A6 _ q) (A0 _) ?_,rfl,q _ _ φ (.upd ht) (rs.upd ht) (.tup_new ht rs (l1.append l2))⟩;exact⟨by rw[Av];exact hz,_,t1.append t2,F0 _ _⟩
   .cases e
  |_=>cases e
 .cases e
def zmv{α β:Type}(r:R α)(f:α->SO->R β)(ρ:IC.Env)(g:β->SO->Fl):(r.bind f).fl ρ g=r.fl ρ λv s=>(f v s).fl ρ g:=by cases r<;>rfl
def zmj{i:Nat}{x:A4}(hN:X.N.Nodup)(hi:X.N[i]?=AA x)(hx:Loc X.env.scope x)(he:PE X a (tE S X ca))
  (hf:X.fn x=AB \/ X.env.scope.names.lookup x=AA .local:=by first|exact .inl rfl|exact .inr rfl|assumption) (hd:(x==("__debug__":A4))=false:=by decide) (hcd:(x==("__classdict__":A4))=false:=by decide):PS X (.AugAssign (.Name x px) .Add a pos) (tS S X (.asg (.n i) (.ite (.isi (.var i) [.tuple]) (.bin .add (.var i) ca) .nope))):=
 (zlU hN hi hx he zna hf).imp λD σ H ⟨B,φ,st,ρ,rs,re,h⟩=>by
  erw[ex,ev]at h
  cases q:ρ[i]? with
  |none=>rw[q]at h;exact h.elim
  |some w=>
   cases w with
   |none=>rw[q]at h;exact h.elim
   |some w=>
    rw[q]at h;let⟨y,hy,rw⟩:=re.get i w q
    cases w with
    |tp k xs=>
     replace h:yaL S X B φ H ((ev S.call ρ st ca).fl ρ λv st1=>(toR (yC .add (.tp k xs) v) st1).fl ρ λv st1=>match yP (.n i) v ρ with
      |some ρ1=>Fl.nx ρ1 st1
      |none=>Fl.bad) D:=by rw[<-zmv];exact h
     refine⟨y,hy,tE.fl rs re h λz H1 v st1 φ1 s rs1 re1 rv h1=>?_⟩
     cases e:yC .add (.tp k xs) v with
     |none=>rw[e]at h1;exact h1.elim
     |some u=>
      rw[e]at h1;exact⟨B,φ1,st1,.tp k xs,v,u,rs1,rw.step s,rv,e,λz' H' φ' s' rs' rz=>h1 _ H' φ' s' rs' ((re1.step s').set i rz)⟩
    |_=>exact h.elim
end
section
variable {X:Cx}
def zh6{x:V}:∀{xs:List V} {us:List AH},Vals xs us->xs.all yaG=AB->us.countP (eqU x)=xs.countP λy=>eqV y x
 |_,_,.nil,_=>rfl
 |y::xs,u::us,.cons r t,f=>by
  rw[B0,AI]at f;rw[D1,D1,zel r f.1,zh6 t f.2]
def ydt:V->List V->Hp->VK->Prop:=λx vs H Q=>∃l xs y,x=.ref l/\vs=[y]/\H l=AA (.lst xs)/\yaG y=AB/\xs.all yaG=AB/\Q (.int (xs.countP λz=>eqV z y)) H
def zjX:MtM X "list.count" ydt:=by
 intro π s σ H x vs v us Q I rx rv h;let⟨l,xs,y,rfl,rfl,hH,fy,fs,q⟩:=h
 cases rx
 let⟨w,rfl,rw⟩:=vals1 rv;let⟨z,its,n,r,hl,e⟩:=I.lstM hH;refine Ck FR ⟨_,e,rfl⟩ F.entry_list_count (F.args_list_count_2 _ _) (SeqAt.list_countAt l its.toArray n AD #[] w (eqU y)) ⟨e,λu hu=>zas rw fy r fs u (by simpa using hu),?_⟩;refine⟨.int _,H,I.tok _,⟨_,rfl⟩,?_⟩;rw[show its.toArray.toList=its from rfl,zh6 r fs];exact q
def ydm:V->List V->Hp->VK->Prop:=λx vs H Q=>∃l xs y j,x=.ref l/\vs=[y]/\H l=AA (.lst xs)/\yaG y=AB/\xs.all yaG=AB/\(∃z,xs[j]?=AA z/\eqV z y=AB)/\(∀m z,m<j->xs[m]?=AA z->eqV z y=AC)/\Q (.int (j:Nat)) H
def zgV{xs:List V}{us:List AH}(h:Vals xs us):∀{m:Nat} {u:AH},us[m]?=AA u->∃z,xs[m]?=AA z/\RelV z u:=by
 induction h with
 |nil=>intro m u e;simp at e
 |cons r t ih=>
  intro m u e
  cases m with
  |zero=>simp at e;subst e;exact⟨_,rfl,r⟩
  |succ m=>simp at e;let⟨z,e1,e2⟩:=ih e;exact⟨z,by simpa using e1,e2⟩
def zkX:MtM X "list.index" ydm:=by
 intro π s σ H x vs v us Q I rx rv h;let⟨l,xs,y,j,rfl,rfl,hH,fy,fs,⟨z,hz,ez⟩,hno,q⟩:=h
 cases rx
 let⟨w,rfl,rw⟩:=vals1 rv;let⟨hsz,its,n,r,hl,e⟩:=I.lstM hH;have hj:j<its.length:=by
  have:=(BM.1 hz).1;lia
 have flatAt:∀{m:Nat} {z:V},xs[m]?=AA z->yaG z=true:=λ{m z} hm=>BF.1 fs z (A3 hm);have sz:sizeLine<2^63-1:=by rw[DG];decide
 refine Ck FT ⟨_,e,rfl⟩ F.entry_list_index (F.args_list_index_2 _ _) (SeqAt.list_indexAt l its.toArray n AD #[] w (eqU y) j (by simpa using hj) ∅ ?_ ?_) ⟨e,λu hu=>zas rw fy r fs u (by simpa using hu),?_⟩
 .let⟨z',e1,r1⟩:=zgV r (m:=j) (u:=its[j]) (by simp[hj]);rw[hz]at e1
  cases e1
  erw[FU];rw[zel r1 (flatAt hz)];exact ez
 .intro m hm hlt;have hm':m<its.length:=by simpa using hm
  let⟨z',e1,r1⟩:=zgV r (m:=m) (u:=its[m]) (by simp[hm']);erw[FU];rw[zel r1 (flatAt e1)];exact hno m z' hlt e1
 .exact⟨.int _,H,I.tok _,⟨_,rfl⟩,q⟩
end
section
variable {S:Se}{X:Cx}{σ:St}{B:AJ->Prop}{φ φ1:Ph}{H H1:Hp}{st:SO}{ρ:IC.Env}{p pos p2 apos:CW}{a b:AZ}{ca cb:Ce}{K:AG}{cl:Nat->AJ}
def zf0{v:PV}{x:V}(r:yd K cl B φ H v x)(h:IC.flat v=AB):∀{vs:List PV} {xs:List V},yh K cl B φ H vs xs->vs.all IC.flat=AB->(xs.countP λy=>eqV y x)=vs.countP λy=>peq y v
 |[],xs,l,_=>by erw[yh]at l;subst l;rfl
 |w::vs,xs,l,f=>by
  erw[yh]at l;let⟨y,ys,rfl,rw,l⟩:=l;rw[B0,AI]at f;rw[D1,D1,zf0 r h l f.2,(rw.flat f.1).2 v x h r]
def zf6{v:PV}{x:V}(r:yd K cl B φ H v x)(h:IC.flat v=AB):∀{vs:List PV} {xs:List V} {j:Nat},yh K cl B φ H vs xs->vs.all IC.flat=AB->yb2 v vs=AA j->(∃z,xs[j]?=AA z/\eqV z x=AB)/\∀m z,m<j->xs[m]?=AA z->eqV z x=AC
 |[],xs,j,l,_,e=>by cases e
 |w::vs,xs,j,l,f,e=>by
  erw[yh]at l;let⟨y,ys,rfl,rw,l⟩:=l;rw[B0,AI]at f;have hq:=(rw.flat f.1).2 v x h r;erw[yb2]at e;split at e
  .rename_i c
   cases e
   exact⟨⟨y,rfl,by rw[hq];exact c⟩,λm z hm=>by lia⟩
  .rename_i c
   cases e1:yb2 v vs with
   |none=>rw[e1]at e;cases e
   |some i=>
    rw[e1]at e
    cases e
    let⟨q1,q2⟩:=zf6 r h l f.2 e1;refine⟨by simpa using q1,λm z hm hz=>?_⟩
    cases m with
    |zero=>
     simp at hz;subst hz;rw[hq];simpa using c
    |succ m=>exact q2 m z (Nat.lt_of_succ_lt_succ hm) (by simpa using hz)
def zkB(ha:PE X a (tE S X ca))(hb:PE X b (tE S X cb))(hs:starEach [b] X.env=(AC,eval b X.env)::starEach [] X.env:=by rfl)(hbase:attributeBase a "count" X.env (eval a X.env)=eval a X.env:=by rfl)(hline:(apos.endLine==pos.line)=true:=by rfl)(hany:(backTo pos (starEach [] X.env)).any (·.1)=false:=by rfl)
  (hfew:((backTo pos (starEach [b] X.env)).all (λx=>!x.1)&&(backToKw pos (keywordEach [] X.env)).all (λx=>x.1.isSome)&&decide (([b]:List AZ).length+([]:List Bo).length+(if ([]:List Bo).isEmpty then 0 else 1)<30))=true:=by rfl):
  PE X (.Call (.Attribute a "count" apos) [b] [] pos) (tE S X (.mth .count ca (.cons cb .nil))):=
 (zjh Bm FR PySem.F.type_list_count zjX ha (zaj (S:=S) hb zb2 hs) hbase hfew hline hs hany).imp λσ H Q ⟨B,φ,st,ρ,rs,re,h⟩=>by
  erw[ev]at h;refine tE.bind rs re h λx H1 v st1 φ1 s1 rs1 re1 rv h1=>?_;let⟨_,e1,h1⟩:=zbb h1;obtain⟨ws,t1⟩:∃ws,yK st1 v=AA ws:=by
   erw[yaA]at e1
   cases q:yK st1 v with
   |none=>rw[q]at e1;cases e1
   |some ws=>exact⟨ws,rfl⟩
  let⟨l,xs,rfl,hl,_⟩:=zaB rs1 rv t1;refine⟨.inl ⟨rfl,xs,hl⟩,tAs.bind rs1 re1 h1 λys H2 vs st2 φ2 s2 rs2 re2 rvs h2=>?_⟩;have rv2:=rv.step s2;rcases vs with _|⟨w,_|⟨w',t⟩⟩
  .exact h2.elim
  .let⟨y,rfl,rw⟩:=rvs.one;unfold ybl at h2;erw[yfF]at h2
   cases t2:yK st2 v with
   |none=>rw[t2]at h2;exact h2.elim
   |some zs=>
    rw[t2]at h2;dsimp only at h2;split at h2
    .rename_i c;rw[AI]at c;let⟨l',xs',e',hl',lr⟩:=zaB rs2 rv2 t2
     cases e'
     let⟨q1,_⟩:=zah rw c.1 lr c.2
     cases v with
     |loc n=>
      erw[yK]at t2;split at t2
      .rename_i zs' hz
       cases t2
       let⟨l2,xs2,e2,hn,hx,lr2⟩:=rs2.list rv2 hz
       cases e2
       let⟨q1,_⟩:=zah rw c.1 lr2 c.2;exact⟨l,xs2,y,rfl,rfl,hx,(rw.flat c.1).1,q1,h2.ok rs2 (by erw[yd];rw[zf0 rw c.1 lr2 c.2])⟩
      .cases t2
     |lst zs'=>
      cases t2
      erw[yd]at rv2;let⟨a',xs2,e2,⟨hx,_,_⟩,lr2⟩:=rv2
      cases e2
      let⟨q1,_⟩:=zah rw c.1 lr2 c.2;exact⟨l,xs2,y,rfl,rfl,hx,(rw.flat c.1).1,q1,h2.ok rs2 (by erw[yd];rw[zf0 rw c.1 lr2 c.2])⟩
     |_=>cases t2
    .exact h2.elim
  .exact h2.elim
def zj9(ha:PE X a (tE S X ca))(hb:PE X b (tE S X cb))(hs:starEach [b] X.env=(AC,eval b X.env)::starEach [] X.env:=by rfl)(hbase:attributeBase a "index" X.env (eval a X.env)=eval a X.env:=by rfl)(hline:(apos.endLine==pos.line)=true:=by rfl)(hany:(backTo pos (starEach [] X.env)).any (·.1)=false:=by rfl)
  (hfew:((backTo pos (starEach [b] X.env)).all (λx=>!x.1)&&(backToKw pos (keywordEach [] X.env)).all (λx=>x.1.isSome)&&decide (([b]:List AZ).length+([]:List Bo).length+(if ([]:List Bo).isEmpty then 0 else 1)<30))=true:=by rfl):
  PE X (.Call (.Attribute a "index" apos) [b] [] pos) (tE S X (.mth .index ca (.cons cb .nil))):=
 (zjh Bm FT PySem.F.type_list_index zkX ha (zaj (S:=S) hb zb2 hs) hbase hfew hline hs hany).imp λσ H Q ⟨B,φ,st,ρ,rs,re,h⟩=>by
  erw[ev]at h;refine tE.bind rs re h λx H1 v st1 φ1 s1 rs1 re1 rv h1=>?_;let⟨_,e1,h1⟩:=zbb h1;obtain⟨ws,t1⟩:∃ws,yK st1 v=AA ws:=by
   erw[yaA]at e1
   cases q:yK st1 v with
   |none=>rw[q]at e1;cases e1
   |some ws=>exact⟨ws,rfl⟩
  let⟨l,xs,rfl,hl,_⟩:=zaB rs1 rv t1;refine⟨.inl ⟨rfl,xs,hl⟩,tAs.bind rs1 re1 h1 λys H2 vs st2 φ2 s2 rs2 re2 rvs h2=>?_⟩;have rv2:=rv.step s2;rcases vs with _|⟨w,_|⟨w',t⟩⟩
  .exact h2.elim
  .let⟨y,rfl,rw⟩:=rvs.one;unfold ybl at h2;erw[yfH]at h2
   cases t2:yK st2 v with
   |none=>rw[t2]at h2;exact h2.elim
   |some zs=>
    rw[t2]at h2;dsimp only at h2;split at h2
    .rename_i c;rw[AI]at c;split at h2
     .rename_i j hj
      cases v with
      |loc n=>
       erw[yK]at t2;split at t2
       .rename_i zs' hz
        cases t2
        let⟨l2,xs2,e2,hn,hx,lr2⟩:=rs2.list rv2 hz
        cases e2
        let⟨q1,_⟩:=zah rw c.1 lr2 c.2;let⟨q2,q3⟩:=zf6 rw c.1 lr2 c.2 hj;exact⟨l,xs2,y,j,rfl,rfl,hx,(rw.flat c.1).1,q1,q2,q3,h2.ok rs2 (by erw[yd])⟩
       .cases t2
      |lst zs'=>
       cases t2
       erw[yd]at rv2;let⟨a',xs2,e2,⟨hx,_,_⟩,lr2⟩:=rv2
       cases e2
       let⟨q1,_⟩:=zah rw c.1 lr2 c.2;let⟨q2,q3⟩:=zf6 rw c.1 lr2 c.2 hj;exact⟨l,xs2,y,j,rfl,rfl,hx,(rw.flat c.1).1,q1,q2,q3,h2.ok rs2 (by erw[yd])⟩
      |_=>cases t2
     .exact h2.elim
    .exact h2.elim
  .exact h2.elim
end
section
variable {S:Se}{X:Cx}{σ:St}{B:AJ->Prop}{φ:Ph}{H:Hp}{st:SO}{p pos p2 px apos:CW}{a b c d o tg l:AZ}{ca cb cc:Ce}{ct:Tg}{ss:List By}{cs:Css}
def zkj(ha:PE X a (tE S X ca))(hbase:attributeBase a "clear" X.env (eval a X.env)=eval a X.env:=by rfl)(hline:(apos.endLine==pos.line)=true:=by rfl):PE X (.Call (.Attribute a "clear" apos) [] [] pos) (tE S X (.mth .clear ca .nil)):=
 (zoQ Bm FP PySem.F.type_list_clear zln ha hbase hline).imp λσ H Q ⟨B,φ,st,ρ,rs,re,h⟩=>by
  erw[ev]at h;refine tE.bind rs re h λx H1 v st1 φ1 s1 rs1 re1 rv h1=>?_;let⟨_,e1,h1⟩:=zbb h1;erw[evs,R.bind,ybl]at h1
  cases v with
  |loc n=>
   erw[yfG]at h1;split at h1
   .rename_i zs hz;let⟨l',xs',e,hn,hx,lr⟩:=rs1.list rv hz;subst e;refine⟨.inl ⟨rfl,xs',.inl (.inl hx)⟩,l',xs',rfl,rfl,hx,?_⟩;exact h1 _ _ φ1 (.put (A3 hn)) (rs1.put hn ⟨[],zf,by erw[yh]⟩) (by erw[yd])
   .exact h1.elim
  |_=>cases e1
end
end L2
namespace L2
open PySem PySem.Spec PyProof.Rows IC WK
inductive GK where
 |fn (i:Nat)|fnD (i:Nat)|cst (v:PV)|dct (D:List (A4×PV))|exc (c:Nat)|cls (c i:Nat)
structure Gs where
 g:A4->Option GK
 b:A4->Bool
 t:Ty->Bool
 fl:Nat->A4->Bool
 me:Nat->A4->Option Nat
 kb:Nat->Nat->List A4->Option (List (Option Int))
 mr:A4->Option (List (A4×Nat))
 fv:A4->Nat->Bool
 xk:Nat->Ty->Bool
 xc:Nat->A4->Bool
 xm:Nat->A4->Bool
 qf:Nat->Bool
structure Kx where
 N:List A4
 sc:Bj
 own:Bool
 h:Bool
def Fo(m:Nat)(S:Se)(X:Cx)(i:Nat)(f:AJ)(fd:BL)(ps:List A4):Prop:=ybj X.prog X.w X.K X.mg X.base (CX1 X.prog X.w) m f fd ps (spI X.K S.cl S.call i)
def znT{β:Type}{x:A4}{k:β}:∀{l:List (A4×β)},l.lookup x=AA k->(x,k)∈l
 |[],h=>nomatch h
 |y::l,h=>by
  rw[Bd]at h
  cases hx:x==y.1 with
  |true=>rw[hx]at h;cases h;rw[eq_of_beq hx];exact Ao
  |false=>rw[hx]at h;exact A7 _ (znT h)
structure Glo(γ:Gs)(m:Nat)(S:Se)(X:Cx):Prop where
 F:∀x i,γ.g x=AA (.fn i)->∃f fd ps,Fo m S X i f fd ps/\X.mg x=AA (.ref f)/\Ax X.K (.ref f)=AB/\Binds X.K fd ps []
 Q:∀x i np ks sh,γ.g x=AA (.fnD i)->γ.kb i np ks=AA sh->∃f fd ps,Fo m S X i f fd ps/\X.mg x=AA (.ref f)/\Ax X.K (.ref f)=AB/\∃g,ybF X.K fd ps ks g (gK np sh)
 C:∀x v,γ.g x=AA (.cst v)->GC X.K X.mg S.cl x v \/ ∃i,v=.int i/\GCI X.mg x i
 D:∀x d,γ.g x=AA (.dct d)->GD X.K X.w X.mg S.cl x d
 E:∀x c,γ.g x=AA (.exc c)->ydN X.K X.mg (S.cl c) x
 N:∀x c i,γ.g x=AA (.cls c i)->X.mg x=AA (.ref (S.cl c))/\∃f fd ps,Mk X.K (S.cl c) f/\Fo m S X i f fd ps/\Binds X.K fd ps []
 B:∀x,γ.b x=AB->X.mg x=AD
 T:∀t,γ.t t=AB->yeN X.K t
 A:∀c f,γ.fl c f=AB->Cls X.K (S.cl c)/\yat X.K (S.cl c) f
 M:∀c n i,γ.me c n=AA i->Cls X.K (S.cl c)/\∃f fd ps,Meth X.K (S.cl c) n f/\Fo m S X i f fd ps/\Binds X.K fd ps []
 K:∀y D,γ.mr y=AA D->∃fa fdd ps,Makers S X m D fa fdd ps/\GDF X.K X.w X.mg fa y D
 V:∀x i,γ.g x=AA (.fn i)->γ.fv x i=AB->X.mg x=AA (.ref (S.cl (1000+i)))
 I:∀c t,γ.xk c t=AB->yeQ X.K (S.cl c)/\yfg X.K S.cl c t
 L:∀d x,γ.xc d x=AB->X.mg x=AA (.ref (S.cl d))
 H:∀c x,γ.xm c x=AB->∃W,X.mg x=AA (.ref W)/\Gm X.K (.ref (S.cl c)) (.ref W)=AA AB
 Z:∀x i,γ.g x=AA (.fn i)->γ.qf i=AB->∃f fd ps,yb4 X.prog X.w X.K X.mg X.base m f fd ps (spI X.K S.cl S.call i)/\X.mg x=AA (.ref f)/\Ax X.K (.ref f)=AB/\Binds X.K fd ps []
theorem Glo.mkr{γ:Gs}{m:Nat}{S:Se}{X:Cx}(G:Glo γ m S X){p:A4×Nat}{L:List (A4×Nat)}(h:∀q∈p::L,γ.g q.1=AA (.fn q.2)/\γ.fv q.1 q.2=AB):∃fdd ps,Makers S X m (p::L) (λj=>S.cl (1000+j)) fdd ps:=by
 have one:∀q∈p::L,∃z:BL×List A4,Fo m S X q.2 (S.cl (1000+q.2)) z.1 z.2/\Ax X.K (.ref (S.cl (1000+q.2)))=AB/\Binds X.K z.1 z.2 []:=λq hq=>by
  let⟨f,fd,ps,h1,h2,h3,h4⟩:=G.F q.1 q.2 (h q hq).1;have e:=G.V q.1 q.2 (h q hq).1 (h q hq).2;rw[h2]at e
  cases e
  exact⟨(fd,ps),h1,h3,h4⟩
 have all:∀j,∃z:BL×List A4,(∃s,(p::L).lookup s=AA j)->Fo m S X j (S.cl (1000+j)) z.1 z.2/\Ax X.K (.ref (S.cl (1000+j)))=AB/\Binds X.K z.1 z.2 []:=λj=>by
  by_cases hj:∃s,(p::L).lookup s=AA j
  .let⟨s,hs⟩:=hj;let⟨z,hz⟩:=one (s,j) (znT hs);exact⟨z,λ_=>hz⟩
  .let⟨z,_⟩:=one p Ao;exact⟨z,λq=>absurd q hj⟩
 let⟨f,hf⟩:=Classical.skolem.1 all;exact⟨λj=>(f j).1,λj=>(f j).2,⟨λs j e=>(hf j ⟨s,e⟩).1,λs j e=>(hf j ⟨s,e⟩).2.1,λs j e=>(hf j ⟨s,e⟩).2.2⟩⟩
structure Good(γ:Gs)(κ:Kx)(m:Nat)(S:Se)(X:Cx):Prop where
 n:X.N=κ.N
 sc:X.env.scope=κ.sc
 calm:κ.h=AC->X.calm=AB
 room:yaT (m+1) X.A
 hd:κ.h=AC->X.A.handled=AD
 own:κ.own=AB->Eb (model X.prog X.w) X.A X.env X.xe/\(∀x,X.fn x=AB)/\S.may=AB
 top:κ.own=AB->(∃outer,X.stack=X.env::outer)/\X.ex=[]/\X.env.frame=AA X.env.locals
 glo:Glo γ m S X
theorem Good.rm{γ:Gs}{κ:Kx}{m:Nat}{S:Se}{X:Cx}(G:Good γ κ m S X)(h:κ.h=AC):yaW (m+1) X.A:=⟨G.hd h,G.room.dp,G.room.un⟩
def zlR{k:Nat}{A:BC}(r:yaT k A):A.units+1<cLine:=by have:=r.units;lia
abbrev Pr(P:Prop):Type:=Option (PLift P)
abbrev YE(γ:Gs)(κ:Kx)(e:AZ)(c:Ce):Prop:=∀m S X,Good γ κ m S X->PE X e (tE S X c)
abbrev YT(γ:Gs)(κ:Kx)(e:AZ)(c:Ce):Prop:=∀m S X,Good γ κ m S X->PT X e (tTs S X c)
abbrev YW(γ:Gs)(κ:Kx)(e:AZ)(c:Ce):Prop:=∀m S X,Good γ κ m S X->PW X e (tTs S X c)
abbrev YA(γ:Gs)(κ:Kx)(e:List AZ)(c:Ces):Prop:=∀m S X,Good γ κ m S X->PA X e (tAs S X c)
abbrev YO(γ:Gs)(κ:Kx)(e:Option AZ)(c:Ce):Prop:=∀m S X,Good γ κ m S X->PO X e (tO S X c)
abbrev YS(γ:Gs)(κ:Kx)(s:By)(c:Cs):Prop:=∀m S X,Good γ κ m S X->PS X s (tS S X c)
abbrev YSs(γ:Gs)(κ:Kx)(s:List By)(c:Css):Prop:=∀m S X,Good γ κ m S X->PSs X s (tSs S X c)
def an{P Q:Prop}(a:Pr P)(k:P->Pr Q):Pr Q:=match a with
 |some h=>k h.down
 |none=>AD
def ok{P:Prop}(h:P):Pr P:=AA ⟨h⟩
def ask(p:Prop)[Decidable p]:Pr p:=if h:p then AA ⟨h⟩else AD
def nst:AZ->Bool
 |.Starred _ _=>AC
 |_=>AB
def zci{a:AZ}{es:List AZ}{env:B7}(h:nst a=AB):starEach (a::es) env=(AC,eval a env)::starEach es env:=by
 cases a<;>first|rfl|cases h
def yc4(es:List AZ):Bool:=es.all nst
theorem stars{pos:CW}{env:B7}:∀{es:List AZ},yc4 es=AB->(backTo pos (starEach es env)).any (·.1)=AC
 |[],_=>rfl
 |a::es,h=>by
  erw[yc4,B0,AI]at h;rw[zci h.1];have:=stars (pos:=pos) (env:=env) (es:=es) h.2;simpa [backTo] using this
def nco:AZ->Bool
 |.ListComp ..=>AC
 |.SetComp ..=>AC
 |.DictComp ..=>AC
 |_=>AB
theorem swp{a:AZ}{t:Option AZ}{l:Nat}{env:B7}(h:nco a=AB):swapsWith a t l env=pure false:=by
 cases a<;>first|rfl|cases h
def nse:AZ->Bool
 |.Set ..=>AC
 |_=>AB
theorem fse{a:AZ}{env:B7}(h:nse a=AB):∀x,foldedSetIterable a env x=pure x:=by
 cases a<;>first|exact λ_=>rfl|cases h
theorem nmk{op:Fc}{a:AZ}(h:nse a=AB):behindInMarks op a=false:=by
 cases a<;>first|rfl|cases h
def nsl:AZ->Bool
 |.Slice ..=>AC
 |_=>AB
theorem pix{a:AZ}(h:nsl a=AB):ybB a:=by
 cases a<;>first|exact λ_ _=>rfl|cases h
theorem nos{a:AZ}(h:nsl a=AB):yd2 a:=pix h
def ntu:AZ->Bool
 |.Tuple ..=>AC
 |_=>AB
def nte:AZ->Bool
 |.UnaryOp ..=>AC
 |.BoolOp ..=>AC
 |.IfExp ..=>AC
 |.Compare ..=>AC
 |_=>AB
theorem itr{a:AZ}{env:B7}(h:nte a=AB):∀whole,isTrue a env whole=(do let v <-whole;standAt a.pos;holding [v] (truthy v)):=by
 cases a<;>first|exact λ_=>rfl|cases h
def nca:AZ->Bool
 |.Call ..=>AC
 |_=>AB
def zgt{a:AZ}{f:A4}{env:B7}{w:Hf AH}(h:nca a=AB):attributeBase a f env w=w:=by
 cases a<;>first|rfl|cases h
def mOp(op:Ea)(o:BOp):Pr (∀S X,OpR X (binaryOp op) (rT2 S X (yC o))):=
 match op,o with
 |.Add,.add=>ok (λ_ _=>zon)
 |.Sub,.sub=>ok (λ_ _=>zpN)
 |.Mult,.mul=>ok (λ_ _=>zp2)
 |.FloorDiv,.fdiv=>ok (λ_ _=>zm1)
 |.Mod,.mod=>ok (λ_ _=>zqa)
 |.Pow,.pow=>ok (λ_ _=>zqk)
 |.LShift,.shl=>ok (λ_ _=>zps)
 |.RShift,.shr=>ok (λ_ _=>zpa)
 |.BitAnd,.band=>ok (λ_ _=>znx)
 |.BitOr,.bor=>ok (λ_ _=>zn1)
 |.BitXor,.bxor=>ok (λ_ _=>zmn)
 |_,_=>AD
def mCm(op:Fc)(o:COp):Pr (∀m S X,yaT m X.A->OpR X (compareOp op) (rT2 S X (ye o))):=
 match op,o with
 |.Eq,.eq=>ok (λ_ _ _ r=>zqT r.units)
 |.NotEq,.ne=>ok (λ_ _ _ r=>zqs r.units)
 |.Lt,.lt=>ok (λ_ _ _ _=>zqU)
 |.LtE,.le=>ok (λ_ _ _ _=>zqE)
 |.Gt,.gt=>ok (λ_ _ _ _=>zqC)
 |.GtE,.ge=>ok (λ_ _ _ _=>zqL)
 |.Is,.is=>ok (λ_ _ _ _=>zqB)
 |.In,.isin=>ok (λ_ _ _ _=>zqr)
 |.NotIn,.notin=>ok (λ_ _ _ _=>zk1)
 |_,_=>AD
def yed(sc:Bj)(x:A4):Bool:=match sc.names.lookup x with
 |some .local=>AB
 |some .cell=>AB
 |some .free=>AB
 |_=>AC
def ziD{sc:Bj}{x:A4}(h:yed sc x=AB):Vis sc x:=by
 unfold yed at h;split at h
 .exact .inl ‹_›
 .exact .inr (.inl ‹_›)
 .exact .inr (.inr ‹_›)
 .cases h
def yeb(sc:Bj)(x:A4):Bool:=match sc.names.lookup x with
 |some .local=>AB
 |some .cell=>AB
 |_=>AC
def zi4{sc:Bj}{x:A4}(h:yeb sc x=AB):Loc sc x:=by
 unfold yeb at h;split at h
 .exact .inl ‹_›
 .exact .inr ‹_›
 .cases h
def pln(x:A4):Bool:=!(x==("__debug__":A4))&&!(x==("__classdict__":A4))&&!(x==("__name__":A4))
def zdw{x:A4}(h:pln x=AB):(x==("__debug__":A4))=false:=by
 erw[pln,AI,CY]at h;exact h.1.1
def zh7{x:A4}(h:pln x=AB):(x==("__classdict__":A4))=false:=by
 erw[pln,AI,CY]at h;exact h.1.2
def zjB{x:A4}(h:pln x=AB):x ≠ "__name__":=by
 erw[pln,AI,CY]at h;intro e;rw[e]at h;exact absurd h.2 ⋯
def hf(κ:Kx){P:Prop}(f:κ.h=AC->Pr P):Pr P:=if h:κ.h=AC then f h else AD
def glB(κ:Kx)(x:A4):Bool:=decide (κ.sc.names.lookup x=AA .globalImplicit)&&pln x
def z7{γ:Gs}{κ:Kx}{m:Nat}{S:Se}{X:Cx}(G:Good γ κ m S X){x:A4}(h:glB κ x=AB):Gl X x:=by
 erw[glB,AI,decide_eq_true_eq]at h;show X.env.scope.names.lookup x=_;rw[G.sc];exact h.1
def zbS{κ:Kx}{x:A4}(h:glB κ x=AB):pln x=true:=by
 erw[glB,AI]at h;exact h.2
def setB(κ:Kx)(i:Nat)(x:A4):Bool:=decide (κ.N[i]?=AA x)&&decide κ.N.Nodup&&yeb κ.sc x&&(κ.own || decide (κ.sc.names.lookup x=AA .local))&&pln x
structure yeY(X:Cx)(i:Nat)(x:A4):Prop where
 d:X.N.Nodup
 i:X.N[i]?=AA x
 l:Loc X.env.scope x
 f:X.fn x=AB \/ X.env.scope.names.lookup x=AA .local
 p:pln x=AB
def zaE{γ:Gs}{κ:Kx}{m:Nat}{S:Se}{X:Cx}(G:Good γ κ m S X){i:Nat}{x:A4}(h:setB κ i x=AB):yeY X i x:=by
 erw[setB,AI,Cd,decide_eq_true_eq]at h;let⟨⟨⟨⟨h1,h2⟩,h3⟩,h4⟩,h5⟩:=h;refine⟨by rw[G.n];exact h2,by rw[G.n];exact h1,by rw[G.sc];exact zi4 h3,?_,h5⟩;rcases h4 with h4|h4
 .exact .inl ((G.own h4).2.1 x)
 .exact .inr (by rw[G.sc];exact h4)
def gFn(γ:Gs)(x:A4)(i:Nat):Pr (γ.g x=AA (.fn i)):=match h:γ.g x with
 |some (.fn j)=>if e:j=i then AA ⟨by subst e;rfl⟩else AD
 |_=>AD
section
variable {γ:Gs}{κ:Kx}{ca cb cc:Ce}{ces:Ces}
def yft(v:PV)(e:AZ):Pr (YE γ κ e (.cst v)):=
 match e with
 |.Constant (.int i) _ _=>match v with
  |.int j=>an (ask (i=j)) λh=>ok (λ_ _ _ _=>by cases h;exact zlz)
  |_=>AD
 |.Constant (.bool i) _ _=>match v with
  |.bl j=>an (ask (i=j)) λh=>ok (λ_ _ _ _=>by cases h;exact zqK)
  |_=>AD
 |.Constant .none _ _=>match v with
  |.non=>ok (λ_ _ _ _=>zpe)
  |_=>AD
 |.Constant (.str i) _ _=>match v with
  |.str j=>an (ask (i=j)) λh=>ok (λ_ _ _ _=>by cases h;exact zpb)
  |_=>AD
 |_=>AD
def yfs(i:Nat)(e:AZ):Pr (YE γ κ e (.var i)):=
 match e with
 |.Name x _=>an (ask (κ.N[i]?=AA x/\yed κ.sc x=AB/\pln x=AB)) λh=>ok (λ_ _ _ G=>zpc (by rw[G.n];exact h.1) (by rw[G.sc];exact ziD h.2.1) (zdw h.2.2) (zh7 h.2.2))
 |_=>AD
def yg5(o:BOp)(e:AZ)(fa:∀x,Pr (YE γ κ x ca))(fb:∀x,Pr (YE γ κ x cb)):Pr (YE γ κ e (.bin o ca cb)):=
 match e with
 |.BinOp a op b _=>
  an (mOp op o) λho=>an (fa a) λha=>an (fb b) λhb=>ok (λm S X G=>zo4 (ho S X) (ha m S X G) (hb m S X G))
 |_=>AD
def yfZ(e:AZ)(fa:∀x,Pr (YE γ κ x ca)):Pr (YE γ κ e (.neg ca)):=
 match e with
 |.UnaryOp .USub a _=>
  an (fa a) λha=>ok (λm S X G=>zmc (ha m S X G))
 |_=>AD
def ygB(e:AZ)(fa:∀x,Pr (YE γ κ x ca)):Pr (YE γ κ e (.not ca)):=
 match e with
 |.UnaryOp .Not a _=>
  an (fa a) λha=>ok (λm S X G=>zpy (ha m S X G))
 |_=>AD
def ygR(o:COp)(e:AZ)(fa:∀x,Pr (YE γ κ x ca))(fb:∀x,Pr (YE γ κ x cb)):Pr (YE γ κ e (.cmp o ca cb)):=
 match e with
 |.Compare a [op] [b] _=>
  an (mCm op o) λho=>an (ask (nse b=AB)) λhs=>an (fa a) λha=>an (fb b) λhb=>ok (λm S X G=>zp5 (ho _ S X G.room) (ha m S X G) (hb m S X G) (nmk hs))
 |_=>AD
def yen(o:COp)(e:AZ)(fa:∀x,Pr (YE γ κ x ca))(fb:∀x,Pr (YE γ κ x cb)):Pr (YT γ κ e (.cmp o ca cb)):=
 match e with
 |.Compare a [op] [b] _=>
  an (mCm op o) λho=>an (ask (nse b=AB)) λhs=>an (fa a) λha=>an (fb b) λhb=>ok (λm S X G=>zos (ho _ S X G.room) (ha m S X G) (hb m S X G) (nmk hs))
 |_=>AD
theorem lmk{op op':Fc}{b c:AZ}(h:nse c=AB):lastMarks [op,op'] [b,c]=false:=nmk h
def yg6(o p:COp)(e:AZ)(fa:∀x,Pr (YE γ κ x ca))(fb:∀x,Pr (YE γ κ x cb))(fc:∀x,Pr (YE γ κ x cc)):Pr (YE γ κ e (.chain o p ca cb cc)):=
 match e with
 |.Compare a [op,op'] [b,c] _=>
  an (mCm op o) λho=>an (mCm op' p) λhp=>an (ask (nse c=AB)) λhs=>an (fa a) λha=>an (fb b) λhb=>an (fc c) λhc=>ok (λm S X G=>zkZ (ho _ S X G.room) (hp _ S X G.room) (ha m S X G) (hb m S X G) (hc m S X G) (lmk hs))
 |_=>AD
def ye9(o p:COp)(e:AZ)(fa:∀x,Pr (YE γ κ x ca))(fb:∀x,Pr (YE γ κ x cb))(fc:∀x,Pr (YE γ κ x cc)):Pr (YT γ κ e (.chain o p ca cb cc)):=
 match e with
 |.Compare a [op,op'] [b,c] _=>
  an (mCm op o) λho=>an (mCm op' p) λhp=>an (ask (nse c=AB)) λhs=>an (fa a) λha=>an (fb b) λhb=>an (fc c) λhc=>ok (λm S X G=>zkl (ho _ S X G.room) (hp _ S X G.room) (ha m S X G) (hb m S X G) (hc m S X G) (lmk hs))
 |_=>AD
def ygn(e:AZ)(fc:∀x,Pr (YT γ κ x cc))(fa:∀x,Pr (YE γ κ x ca))(fb:∀x,Pr (YE γ κ x cb)):Pr (YE γ κ e (.ite cc ca cb)):=
 match e with
 |.IfExp c a b _=>
  an (fc c) λhc=>an (fa a) λha=>an (fb b) λhb=>ok (λm S X G=>zoR (hc m S X G) (ha m S X G) (hb m S X G))
 |_=>AD
def ygI(e:AZ)(fa:∀x,Pr (YA γ κ x ces)):Pr (YE γ κ e (.tup ces)):=
 match e with
 |.Tuple es _ _=>
  an (fa es) λha=>ok (λm S X G=>zqc (ha m S X G))
 |_=>AD
def yg9(e:AZ)(fa:∀x,Pr (YA γ κ x ces)):Pr (YE γ κ e (.lst ces)):=
 match e with
 |.List es _=>
  an (fa es) λha=>ok (λm S X G=>zqd (ha m S X G))
 |_=>AD
def yeF(e:AZ)(fa:∀x,Pr (YA γ κ x ces)):Pr (YE γ κ e (.newl ces)):=
 match e with
 |.List es _=>
  an (fa es) λha=>ok (λm S X G=>zmY (ha m S X G))
 |_=>AD
def ye3(t:Bool)(e:AZ):Pr (YE γ κ e (.dict0 t)):=
 match t,e with
 |true,.Dict [] [] _=>ok (λ_ _ _ _=>zjT)
 |_,_=>AD
def mIdx(e:AZ)(fa:∀x,Pr (YE γ κ x ca))(fb:∀x,Pr (YE γ κ x cb)):Pr (YE γ κ e (.idx ca cb)):=
 match e with
 |.Subscript a b _=>
  an (ask (nsl b=AB)) λhs=>an (fa a) λha=>an (fb b) λhb=>ok (λm S X G=>zo6 (ha m S X G) (hb m S X G) (pix hs))
 |_=>AD
def ygq(e:AZ)(fa:∀x,Pr (YE γ κ x ca))(fb:∀x,Pr (YO γ κ x cb))(fc:∀x,Pr (YO γ κ x cc)):Pr (YE γ κ e (.slc ca cb cc)):=
 match e with
 |.Subscript a (.Slice l h AD _) _=>
  an (fa a) λha=>an (fb l) λhb=>an (fc h) λhc=>ok (λm S X G=>zoJ (ha m S X G) (hb m S X G) (hc m S X G))
 |_=>AD
def yfA(c:Ce)(e:Option AZ)(fa:∀x,Pr (YE γ κ x c)):Pr (YO γ κ e c):=
 match e with
 |none=>match c with
  |.cst .non=>ok (λ_ _ _ _=>zms)
  |_=>AD
 |some a=>
  an (fa a) λha=>ok (λm S X G=>zmV (ha m S X G))
inductive Fs(γ:Gs)(κ:Kx):Ces->Type where
 |nil:Fs γ κ .nil
 |cons {c:Ce} {cs:Ces} (f:∀x,Pr (YE γ κ x c)) (r:Fs γ κ cs):Fs γ κ (.cons c cs)
def ybn:{ces:Ces}->Fs γ κ ces->(es:List AZ)->Pr (YA γ κ es ces)
 |_,.nil,[]=>ok λ_ _ _ _=>zb2
 |_,.cons f r,a::es=>an (ask (nst a=AB)) λhs=>an (f a) λha=>an (ybn r es) λhr=>ok λm S X G=>zaj (ha m S X G) (hr m S X G) (zci hs)
 |_,_,_=>AD
structure Sp2(γ:Gs)(κ:Kx)(ces:Ces)(np:Nat) where
 c1:Ces
 c2:Ces
 f1:Fs γ κ c1
 f2:Fs γ κ c2
 h:yS c1 c2=ces
 l:yc6 c1=np
def yct:(np:Nat)->{ces:Ces}->Fs γ κ ces->Option (Sp2 γ κ ces np)
 |0,ces,F=>AA ⟨.nil,ces,.nil,F,rfl,rfl⟩
 |n+1,_,.cons f r=>match yct n r with
  |some s=>AA ⟨.cons _ s.c1,s.c2,.cons f s.f1,s.f2,by rw[yS,s.h],by rw[yc6,s.l]⟩
  |none=>AD
 |_,_,_=>AD
structure It2(γ:Gs)(κ:Kx)(ces:Ces)(sh:List (Option Int))(kws:List Bo) where
 it:List (Sum Ce Int)
 h:yt it=ces
 s:it.map shC=sh
 k:∀m S X,Good γ κ m S X->PK X kws (tK S X it)
def yb8:(sh:List (Option Int))->{ces:Ces}->Fs γ κ ces->(kws:List Bo)->Option (It2 γ κ ces sh kws)
 |[],_,.nil,[]=>AA ⟨[],rfl,rfl,λ_ _ _ _=>zom⟩
 |none::sh,.cons c _,.cons f r,⟨_,e,_⟩ :: kws=>match f e,yb8 sh r kws with
  |some h,AA q=>AA ⟨.inl c::q.it,by rw[yt,q.h],by rw[AM,q.s];rfl,λm S X G=>zqV (h.down m S X G) (q.k m S X G)⟩
  |_,_=>AD
 |some i::sh,.cons (.cst (.int j)) _,.cons _ r,kws=>if e:i=j then match yb8 sh r kws with
  |some q=>AA ⟨.inr i::q.it,by rw[yt,q.h,e],by rw[AM,q.s];rfl,λm S X G=>zqw (q.k m S X G)⟩
  |none=>AD
  else AD
 |_,_,_,_=>AD
def kwN:List Bo->List A4
 |[]=>[]
 |⟨AA x,_,_⟩ :: r=>x::kwN r
 |_::r=>kwN r
def kwB:List Bo->Bool
 |[]=>AB
 |⟨AA _,_,_⟩ :: r=>kwB r
 |_=>AC
def zpX{pos:CW}{env:B7}:∀{kws:List Bo},kwB kws=AB->(backToKw pos (keywordEach kws env)).all (·.1.isSome)=AB/\(backToKw pos (keywordEach kws env)).filterMap (·.1)=kwN kws/\(backToKw pos (keywordEach kws env)).any (·.1.isNone)=AC
 |[],_=>⟨rfl,rfl,rfl⟩
 |⟨AA x,e,_⟩ :: r,h=>by
  let⟨h1,h2,h3⟩:=zpX (pos:=pos) (env:=env) (kws:=r) h;erw[backToKw]at h1 h2 h3 ⊢;erw[keywordEach,AM,B0,C1,BV,h1,h2,h3,kwN];simp
def ygE(hκ:κ.h=AC)(i:Nat)(F:Fs γ κ ces)(e:AZ):Pr (YE γ κ e (.call i ces)):=
 match e with
 |.Call (.Name x _) [] [] _=>match F with
  |.nil=>an (ask (glB κ x=AB)) λhg=>an (gFn γ x i) λhf=>ok λm S X G=>by
   let⟨f,fd,ps,h1,h2,h3,h4⟩:=G.glo.F x i hf;exact zkC h1 ((G.rm hκ).mono (ER m)) (z7 G hg) h2 h3 h4 (zdw (zbS hg))
  |_=>AD
 |.Call (.Name x _) (a::es) kws _=>an (ask (glB κ x=AB/\nst a=AB/\yc4 es=AB)) λhg=>
  match hx:γ.g x with
  |some (.fn j)=>match kws with
   |[]=>an (ask (j=i)) λhj=>an (ybn F (a::es)) λha=>ok λm S X G=>by
    subst hj;let⟨f,fd,ps,h1,h2,h3,h4⟩:=G.glo.F x j hx;exact zm2 h1 ((G.rm hκ).mono (ER m)) (z7 G hg.1) h2 h3 h4 (ha m S X G) (zdw (zbS hg.1)) (zci hg.2.1) (stars hg.2.2)
   |_=>AD
  |some (.fnD j)=>match hk:γ.kb j (es.length+1) (kwN kws)with
   |none=>AD
   |some sh=>match yct (es.length+1) F with
    |none=>AD
    |some s=>match yb8 sh s.f2 kws with
     |none=>AD
     |some q=>an (ask (kwB kws=AB/\j=i)) λhw=>an (ybn s.f1 (a::es)) λha=>ok λm S X G=>by
      let⟨hw,rfl⟩:=hw;let⟨f,fd,ps,h1,h2,h3,h4⟩:=G.glo.Q x j _ _ sh hx hk;rw[<-s.h,<-q.h];rw[<-q.s]at h4;have w:=λ{pos}=>zpX (pos:=pos) (env:=X.env) hw;exact zlh h1 ((G.rm hκ).mono (ER m)) (z7 G hg.1) h2 h3 h4 s.l (ha m S X G) (q.k m S X G) w.1 w.2.1 (zdw (zbS hg.1)) (zci hg.2.1) (by
       rw[w.2.2,Gr];exact stars (es:=a::es) (by erw[yc4,B0,hg.2.1,Fg];exact hg.2.2))
  |_=>AD
 |_=>AD
abbrev ye2(b:Blt)(x:A4):Prop:=∀S X,X.calm=AB->(∃id,yad X (.builtin id) (rB S X b)/\bootBuiltins x=AA (.builtin id)) \/ ∃T,yad X (.type T) (rB S X b)/\bootBuiltins x=AA (.type T)
def ygO(b:Blt)(x:A4):Pr (ye2 b x):=
 match b with
 |.len=>an (ask (x="len")) λh=>ok λ_ _ _=>.inl ⟨_,zpw,h ▸ zn6⟩
 |.int=>an (ask (x="int")) λh=>ok λ_ _ _=>.inr ⟨_,zqe,h ▸ zlZ⟩
 |.abs=>an (ask (x="abs")) λh=>ok λ_ _ _=>.inl ⟨_,zp6,h ▸ zoY⟩
 |.min=>an (ask (x="min")) λh=>ok λ_ _ c=>.inl ⟨_,zoA c,h ▸ zoS⟩
 |.max=>an (ask (x="max")) λh=>ok λ_ _ c=>.inl ⟨_,zqi c,h ▸ zpS⟩
 |.tuple=>an (ask (x="tuple")) λh=>ok λ_ _ _=>.inr ⟨_,zk0,h ▸ zg8⟩
 |.all=>an (ask (x="all")) λh=>ok λ_ _ c=>.inl ⟨_,zo8 c,h ▸ zpG⟩
 |.any=>an (ask (x="any")) λh=>ok λ_ _ c=>.inl ⟨_,zpH c,h ▸ zoj⟩
 |_=>AD
def ygG(b:Blt)(F:Fs γ κ ces)(e:AZ):Pr (YE γ κ e (.blt b ces)):=
 match e with
 |.Call (.Name x _) (a::es) [] _=>hf κ λhκ=>an (ask (glB κ x=AB/\nst a=AB/\yc4 es=AB/\γ.b x=AB)) λhg=>an (ygO b x) λhb=>an (ybn F (a::es)) λha=>ok λm S X G=>by
  rcases hb S X (G.calm hκ)with⟨id,h1,h2⟩|⟨T,h1,h2⟩
  .exact zo5 h1 (z7 G hg.1) (G.glo.B x hg.2.2.2) h2 (ha m S X G) (zjB (zbS hg.1)) (zdw (zbS hg.1)) (zci hg.2.1) (stars hg.2.2.1)
  .exact znd h1 (z7 G hg.1) (G.glo.B x hg.2.2.2) h2 (ha m S X G) (zjB (zbS hg.1)) (zdw (zbS hg.1)) (zci hg.2.1) (stars hg.2.2.1)
 |_=>AD
def ygX(b:Blt)(F:Fs γ κ ces)(e:AZ):Pr (YE γ κ e (.blt b ces)):=
 match b with
 |b=>ygG b F e
def tyB(t:Ty)(x:A4):Pr (ydA t=AB/\bootBuiltins x=AA (.type (tyN t))):=
 match t with
 |.int=>an (ask (x="int")) λh=>ok ⟨rfl,h ▸ zlZ⟩
 |.bool=>an (ask (x="bool")) λh=>ok ⟨rfl,h ▸ zmr⟩
 |.str=>an (ask (x="str")) λh=>ok ⟨rfl,h ▸ zpT⟩
 |.tuple=>an (ask (x="tuple")) λh=>ok ⟨rfl,h ▸ zg8⟩
 |_=>AD
def yga(ts:List Ty)(e:AZ)(fa:∀x,Pr (YE γ κ x ca)):Pr (YE γ κ e (.isi ca ts)):=
 match ts,e with
 |[t],.Call (.Name n _) [a,.Name x _] [] _=>an (ask (n="isinstance"/\glB κ n=AB/\γ.b n=AB/\glB κ x=AB/\γ.b x=AB/\γ.t t=AB/\nst a=AB)) λh=>an (tyB t x) λht=>an (fa a) λha=>ok λm S X G=>by
  let⟨rfl,h1,h2,h3,h4,h5,h6⟩:=h;exact zoH (G.glo.T t h5) ht.1 (z7 G h1) (G.glo.B _ h2) (z7 G h3) (G.glo.B _ h4) ht.2 (ha m S X G) (zjB (zbS h3)) (zdw (zbS h3)) (zci h6) rfl
 |_,_=>AD
mutual
noncomputable def yeI:(a b:PV)->Pr (a=b)
 |.non,.non=>ok rfl
 |.bl a,.bl b=>an (ask (a=b)) λh=>ok (by rw[h])
 |.int a,.int b=>an (ask (a=b)) λh=>ok (by rw[h])
 |.str a,.str b=>an (ask (a=b)) λh=>ok (by rw[h])
 |.tp k a,.tp j b=>an (ask (k=j)) λh=>an (ycH a b) λg=>ok (by rw[h,g])
 |.lst a,.lst b=>an (ycH a b) λg=>ok (by rw[g])
 |_,_=>AD
noncomputable def ycH:(a b:List PV)->Pr (a=b)
 |[],[]=>ok rfl
 |a::x,b::y=>an (yeI a b) λh=>an (ycH x y) λg=>ok (by rw[h,g])
 |_,_=>AD
end
def eqD:(a b:List (A4×PV))->Pr (a=b)
 |[],[]=>ok rfl
 |(k,a)::x,(j,b)::y=>an (ask (k=j)) λe=>an (yeI a b) λh=>an (eqD x y) λg=>ok (by rw[e,h,g])
 |_,_=>AD
def ygA(v:PV)(e:AZ):Pr (YE γ κ e (.cst v)):=
 match e with
 |.Name x _=>match h:γ.g x with
  |some (.cst u)=>an (ask (glB κ x=AB)) λhg=>an (yeI u v) λhv=>ok λm S X G=>by
   subst hv;rcases G.glo.C x u h with q|⟨i,rfl,q⟩
   .exact zqv (z7 G hg) q (zdw (zbS hg))
   .exact zob (z7 G hg) q (zdw (zbS hg))
  |some (.fn i)=>match v with
   |.fnc j=>an (ask (glB κ x=AB/\γ.fv x i=AB/\i=j)) λhg=>ok λm S X G=>by
    let⟨h1,h2,rfl⟩:=hg;exact ziZ (z7 G h1) (G.glo.V x i h h2) (λB φ H=>by erw[yd]) (zdw (zbS h1))
   |_=>AD
  |_=>AD
 |e=>yft v e
def ziG{pos:CW}{env:B7}{b:AZ}(h:nst b=AB):((backTo pos (starEach [b] env)).all (λx=>!x.1)&&(backToKw pos (keywordEach [] env)).all (λx=>x.1.isSome)&&decide (([b]:List AZ).length+([]:List Bo).length+(if ([]:List Bo).isEmpty then 0 else 1)<30))=true:=by
 rw[zci h];rfl
def yg3(k:Mth)(F:Fs γ κ ces)(e:AZ)(fa:∀x,Pr (YE γ κ x ca)):Pr (YE γ κ e (.mth k ca ces)):=
 match k,e,F with
 |.append,.Call (.Attribute a n ap) [b] [] pos,.cons fb .nil=>an (ask (n="append"/\nca a=AB/\nst b=AB/\(ap.endLine==pos.line)=AB)) λh=>an (fa a) λha=>an (fb b) λhb=>ok λm S X G=>by
  let⟨rfl,h1,h2,h3⟩:=h;exact ziQ (ha m S X G) (hb m S X G) (zci h2) (zgt h1) h3 (ziG h2)
 |.extend,.Call (.Attribute a n ap) [b] [] pos,.cons fb .nil=>an (ask (n="extend"/\nca a=AB/\nst b=AB/\(ap.endLine==pos.line)=AB)) λh=>an (fa a) λha=>an (fb b) λhb=>ok λm S X G=>by
  let⟨rfl,h1,h2,h3⟩:=h;exact zjL (ha m S X G) (hb m S X G) (zci h2) (zgt h1) h3 (ziG h2)
 |.get,.Call (.Attribute a n ap) [b,c] [] pos,.cons fb (.cons fc .nil)=>an (ask (n="get"/\nca a=AB/\nst b=AB/\nst c=AB/\(ap.endLine==pos.line)=AB)) λh=>an (fa a) λha=>an (fb b) λhb=>an (fc c) λhc=>ok λm S X G=>by
  let⟨rfl,h1,h2,h4,h3⟩:=h;exact zo9 (zlR G.room) (ha m S X G) (hb m S X G) (hc m S X G) ⟨zgt h1,by rw[zci h2,zci h4];rfl,h3,by rw[zci h2,zci h4];rfl⟩
 |.insert,.Call (.Attribute a n ap) [b,c] [] pos,.cons fb (.cons fc .nil)=>an (ask (n="insert"/\nca a=AB/\nst b=AB/\nst c=AB/\(ap.endLine==pos.line)=AB)) λh=>an (fa a) λha=>an (fb b) λhb=>an (fc c) λhc=>ok λm S X G=>by
  let⟨rfl,h1,h2,h4,h3⟩:=h;exact zja (ha m S X G) (hb m S X G) (hc m S X G) (by rw[zci h2,zci h4];rfl) (by rw[zci h4];rfl) (zgt h1) h3 (by rw[zci h4];rfl) (by rw[zci h2,zci h4];rfl)
 |.clear,.Call (.Attribute a n ap) [] [] pos,.nil=>an (ask (n="clear"/\nca a=AB/\(ap.endLine==pos.line)=AB)) λh=>an (fa a) λha=>ok λm S X G=>by
  let⟨rfl,h1,h3⟩:=h;exact zkj (ha m S X G) (zgt h1) h3
 |.count,.Call (.Attribute a n ap) [b] [] pos,.cons fb .nil=>an (ask (n="count"/\nca a=AB/\nst b=AB/\(ap.endLine==pos.line)=AB)) λh=>an (fa a) λha=>an (fb b) λhb=>ok λm S X G=>by
  let⟨rfl,h1,h2,h3⟩:=h;exact zkB (ha m S X G) (hb m S X G) (zci h2) (zgt h1) h3 rfl (ziG h2)
 |.index,.Call (.Attribute a n ap) [b] [] pos,.cons fb .nil=>an (ask (n="index"/\nca a=AB/\nst b=AB/\(ap.endLine==pos.line)=AB)) λh=>an (fa a) λha=>an (fb b) λhb=>ok λm S X G=>by
  let⟨rfl,h1,h2,h3⟩:=h;exact zj9 (ha m S X G) (hb m S X G) (zci h2) (zgt h1) h3 rfl (ziG h2)
 |_,_,_=>AD
end
structure Ev(γ:Gs)(c:Ce) where
 e:∀κ x,Pr (YE γ κ x c)
 t:∀κ x,Pr (YT γ κ x c)
 w:∀κ op l pos,Pr (YW γ κ (.BoolOp op l pos) c)
section
variable {γ:Gs}{ca cb cc:Ce}
def w1{c:Ce}(t:∀κ x,Pr (YT γ κ x c))(κ:Kx)(op:HI)(l:List AZ)(pos:CW):Pr (YW γ κ (.BoolOp op l pos) c):=
 match op,l with
 |.And,[a]=>an (t κ a) λh=>ok λm S X G=>znk (h m S X G)
 |.Or,[a]=>an (t κ a) λh=>ok λm S X G=>zpP (h m S X G)
 |_,_=>AD
def plT{c:Ce}(e:∀κ x,Pr (YE γ κ x c))(κ:Kx)(x:AZ):Pr (YT γ κ x c):=an (ask (nte x=AB)) λh=>an (e κ x) λhe=>ok λm S X G=>zpm (he m S X G) (itr h)
def plain{c:Ce}(e:∀κ x,Pr (YE γ κ x c)):Ev γ c:=⟨e,plT e,w1 (plT e)⟩
def ycF{c:Ce}(e:∀κ x,Pr (YE γ κ x c))(t:∀κ x,Pr (YT γ κ x c)):Ev γ c:=⟨e,t,w1 t⟩
def yhm(A:Ev γ ca)(κ:Kx)(e:AZ):Pr (YT γ κ e (.not ca)):=
 match e with
 |.UnaryOp .Not a _=>an (A.t κ a) λh=>ok λm S X G=>zpY (h m S X G)
 |_=>AD
def ygi(A:Ev γ ca)(B:Ev γ cb)(κ:Kx)(e:AZ):Pr (YE γ κ e (.and ca cb)):=
 match e with
 |.BoolOp .And (a::b::[]) _=>an (A.e κ a) λha=>an (B.e κ b) λhb=>ok λm S X G=>zmb (ha m S X G) (zlV (hb m S X G))
 |.BoolOp .And (a::b::c::r) p=>an (A.e κ a) λha=>an (B.e κ (.BoolOp .And (b::c::r) p)) λhb=>ok λm S X G=>zmb (ha m S X G) (hb m S X G)
 |_=>AD
def orE(A:Ev γ ca)(B:Ev γ cb)(κ:Kx)(e:AZ):Pr (YE γ κ e (.or ca cb)):=
 match e with
 |.BoolOp .Or (a::b::[]) _=>an (A.e κ a) λha=>an (B.e κ b) λhb=>ok λm S X G=>zn3 (ha m S X G) (zlV (hb m S X G))
 |.BoolOp .Or (a::b::c::r) p=>an (A.e κ a) λha=>an (B.e κ (.BoolOp .Or (b::c::r) p)) λhb=>ok λm S X G=>zn3 (ha m S X G) (hb m S X G)
 |_=>AD
def yeX(A:Ev γ ca)(B:Ev γ cb)(κ:Kx)(op:HI)(l:List AZ)(pos:CW):Pr (YW γ κ (.BoolOp op l pos) (.and ca cb)):=
 match op,l with
 |.And,a::b::r=>an (A.t κ a) λha=>an (B.w κ .And (b::r) pos) λhb=>ok λm S X G=>zqf (ha m S X G) (hb m S X G)
 |_,_=>AD
def orW(A:Ev γ ca)(B:Ev γ cb)(κ:Kx)(op:HI)(l:List AZ)(pos:CW):Pr (YW γ κ (.BoolOp op l pos) (.or ca cb)):=
 match op,l with
 |.Or,a::b::r=>an (A.t κ a) λha=>an (B.w κ .Or (b::r) pos) λhb=>ok λm S X G=>zqX (ha m S X G) (hb m S X G)
 |_,_=>AD
def ptW{c:Ce}(w:∀κ op l pos,Pr (YW γ κ (.BoolOp op l pos) c))(κ:Kx)(e:AZ):Pr (YT γ κ e c):=
 match e with
 |.BoolOp op l p=>an (w κ op l p) λh=>ok λm S X G=>PW.pt (h m S X G)
 |_=>AD
def yff{c:Ce}(t:∀κ x,Pr (YT γ κ x c))(w:∀κ op l pos,Pr (YW γ κ (.BoolOp op l pos) c))(κ:Kx)(op:HI)(l:List AZ)(pos:CW):Pr (YW γ κ (.BoolOp op l pos) c):=
 match l with
 |[a]=>w1 t κ op [a] pos
 |l=>w κ op l pos
def ye4(A:Ev γ ca)(B:Ev γ cb):Ev γ (.and ca cb):=⟨ygi A B,ptW (yeX A B),yff (ptW (yeX A B)) (yeX A B)⟩
def yg2(A:Ev γ ca)(B:Ev γ cb):Ev γ (.or ca cb):=⟨orE A B,ptW (orW A B),yff (ptW (orW A B)) (orW A B)⟩
end
abbrev YI(γ:Gs)(κ:Kx)(tg l:AZ)(c:Cit):Prop:=∀m S X,Good γ κ m S X->PI X tg l (tI S X c)
abbrev YG(γ:Gs)(κ:Kx)(tg:AZ)(c:Tg):Prop:=∀m S X,Good γ κ m S X->PG X tg (tG S X c)
section
variable {γ:Gs}{κ:Kx}{ca cb cc ce:Ce}{ci:Cit}
def ygD(e:∀x,Pr (YE γ κ x ca))(tg l:AZ):Pr (YI γ κ tg l (.seq ca)):=an (e l) λh=>ok λm S X G=>zoT (h m S X G)
def iR1(fa:∀x,Pr (YE γ κ x ca))(tg l:AZ):Pr (YI γ κ tg l (.range1 ca)):=
 match l with
 |.Call (.Name x _) [a] [] _=>an (ask (x="range"/\glB κ x=AB/\γ.b x=AB/\nst a=AB)) λh=>an (fa a) λha=>ok λm S X G=>by
  let⟨rfl,h1,h2,h3⟩:=h;exact zjS (z7 G h1) (G.glo.B _ h2) (ha m S X G) (zci h3)
 |_=>AD
def ye5(fa:∀x,Pr (YE γ κ x ca))(tg l:AZ):Pr (YI γ κ tg l (.enum ca)):=
 match tg,l with
 |.Tuple _ _ _,.Call (.Name x _) [a] [] _=>an (ask (x="enumerate"/\glB κ x=AB/\γ.b x=AB/\nst a=AB)) λh=>an (fa a) λha=>ok λm S X G=>by
  let⟨rfl,h1,h2,h3⟩:=h;exact zmx (z7 G h1) (G.glo.B _ h2) (ha m S X G) (zci h3)
 |_,_=>AD
def iRD(fa:∀x,Pr (YE γ κ x ca))(fb:∀x,Pr (YE γ κ x cb))(tg l:AZ):Pr (YI γ κ tg l (.rangeD ca cb)):=
 match l with
 |.Call (.Name x _) [a,b,.UnaryOp .USub (.Constant (.int i) _ _) _] [] _=>an (ask (x="range"/\glB κ x=AB/\γ.b x=AB/\nst a=AB/\nst b=AB/\i=1)) λh=>an (fa a) λha=>an (fb b) λhb=>ok λm S X G=>by
  let⟨rfl,h1,h2,h3,h4,rfl⟩:=h;exact ziL (z7 G h1) (G.glo.B _ h2) (ha m S X G) (hb m S X G) (by rw[zci h3,zci h4];rfl) (by rw[zci h4];rfl) rfl
 |_=>AD
def gNm(κ:Kx):(l:List Nat)->(es:List AZ)->Pr (∀m S X,Good γ κ m S X->PGs X es (gNs l)/\(assignEach es X.env).length=l.length/\(assignEach es X.env).findIdx? (·.1)=AD)
 |[],[]=>ok λ_ _ _ _=>⟨zmP,rfl,rfl⟩
 |i::l,.Name x _::es=>an (ask (setB κ i x=AB)) λh=>an (gNm κ l es) λhr=>ok λm S X G=>by
  have s:=zaE G h;let⟨h1,h2,h3⟩:=hr m S X G;refine⟨zkd s.d s.i s.l h1 s.f,?_,?_⟩
  .simp only[assignEach,AL,h2]
  .simp only[assignEach,List.findIdx?_cons,h3];rfl
 |_,_=>AD
def mTg(ct:Tg)(tg:AZ):Pr (YG γ κ tg ct):=
 match ct,tg with
 |.n i,.Name x _=>an (ask (setB κ i x=AB)) λh=>ok λm S X G=>let s:=zaE G h;znW s.d s.i s.l s.f
 |.t l,.Tuple es _ _=>hf κ λhκ=>an (gNm κ l es) λh=>ok λm S X G=>zod (G.calm hκ) (h m S X G).1 (h m S X G).2.1 (h m S X G).2.2
 |_,_=>AD
def tgN:AZ->List A4
 |.Name x _=>[x]
 |.Tuple es _ _=>es.filterMap fun
  |.Name x _=>AA x
  |_=>AD
 |_=>[]
def ydf(N:List A4)(sl:List (Option Nat))(tg:AZ):List Str:=tgN tg++(sl.drop (tgN tg).length).filterMap λo=>o.bind λj=>N[j]?
def ycl(sc so:Bj):Scope:={sc with names:=sc.names.map λ(n,k)=>if (k==Cg&&so.kind==.function&&so.names.lookup n==AA .cell)then(n,Fd)else(n,k)}
def ya4(N:List A4)(so sc:Bj)(NC:List A4)(sl:List (Option Nat)):Bool:=
 decide (sc.kind=.function)&&(sc.names.all λy=>y.2 != .local || decide (sc.names.lookup y.1=AA .local))&&(sc.names.all λy=>y.2 != .cell)&&(sc.names.all λy=>y.2 != .free || decide (so.names.lookup y.1=AA .cell)) &&
  ((NC.zip sl).all λp=>p.2.all λj=>decide (N[j]?=AA p.1/\sc.names.lookup p.1=AA .free))&&decide (sl.length=NC.length)
def zlm{X:Cx}{sc:Bj}{NC:List A4}{sl:List (Option Nat)}(h:ya4 X.N X.env.scope sc NC sl=AB):yao X sc NC sl:=by
 erw[ya4,AI,decide_eq_true_eq,BF,Cd,bne_iff_ne,ne_eq]at h;let⟨⟨⟨⟨⟨h1,h2⟩,h3⟩,h4⟩,h5⟩,h6⟩:=h;exact zqZ _ _ rfl rfl h1 (λy hy e=>(h2 y hy).resolve_left λz=>z e) h3 (λy hy e=>(h4 y hy).resolve_left λz=>z e) (λp hp=>by simpa using h5 p hp) h6
theorem Good.comp{m:Nat}{S:Se}{X:Cx}(G:Good γ κ m S X)(sc:Bj)(NC:List A4)(j:CI):Good γ ⟨NC,ycl sc κ.sc,AC,κ.h⟩ m S (cxC X sc NC j):=by
 refine⟨rfl,?_,G.calm,G.room,G.hd,(λh=>nomatch h),(λh=>nomatch h),⟨G.glo.F,G.glo.Q,G.glo.C,G.glo.D,G.glo.E,G.glo.N,G.glo.B,G.glo.T,G.glo.A,G.glo.M,λy D h=>let ⟨fa,fdd,ps,M,d⟩:=G.glo.K y D h;⟨fa,fdd,ps,⟨M.F,M.kp,M.b⟩,d⟩,G.glo.V,G.glo.I,G.glo.L,G.glo.H,G.glo.Z⟩⟩;show relabel sc X.env=_;rw[<-G.sc];rfl
def yf4(c:Ce)(f:∀x,Pr (YT γ κ x c))(ifs:List AZ):Pr (∀m S X,Good γ κ m S X->PTs X ifs (tT0 S X.K c)):=
 match ifs with
 |[]=>match c with
  |.cst (.bl AB)=>ok λ_ _ _ _=>zkG
  |_=>AD
 |[a]=>an (f a) λh=>ok λm S X G=>zm4 rfl (h m S X G)
 |_=>AD
structure ycP(γ:Gs)(κ:Kx)(sl:List (Option Nat))(ct:Tg)(ci:Cit)(cc ce:Ce)(elt tg it:AZ)(ifs:List AZ)(sc:Bj):Prop where
 q:∀m S X,Good γ κ m S X->∃NC,yao X sc NC sl/\PI X tg it (tI S X ci)/\(∀j,PG (cxC X sc NC j) tg (tG0 S X.K ct))/\(∀j,PTs (cxC X sc NC j) ifs (tT0 S X.K cc))/\∀j,PE (cxC X sc NC j) elt (tE0 S X.K ce)
 f:yaH ct sl=AB
 s:nse it=AB
def mCo(sl:List (Option Nat))(ct:Tg)(fi:∀tg l,Pr (YI γ κ tg l ci))(C:Ev γ cc)(E:Ev γ ce)(elt tg it:AZ)(ifs:List AZ)(sc:Bj):Pr (ycP γ κ sl ct ci cc ce elt tg it ifs sc):=
 an (ask (ya4 κ.N κ.sc sc (ydf κ.N sl tg) sl=AB/\yaH ct sl=AB/\nse it=AB)) λh=>an (fi tg it) λhi=>an (mTg (γ:=γ) (κ:=⟨ydf κ.N sl tg,ycl sc κ.sc,AC,κ.h⟩) ct tg) λhg=>
  an (yf4 (γ:=γ) (κ:=⟨ydf κ.N sl tg,ycl sc κ.sc,AC,κ.h⟩) cc (C.t _) ifs) λht=>an (E.e ⟨ydf κ.N sl tg,ycl sc κ.sc,AC,κ.h⟩ elt) λhe=>ok ⟨λm S X G=>⟨ydf κ.N sl tg,by
   rw[<-G.n,<-G.sc]at h;rw[<-G.n];exact zlm h.1,hi m S X G,λj=>zme rfl (hg m S _ (G.comp sc _ j)),λj=>ht m S _ (G.comp sc _ j),λj=>zml rfl (he m S _ (G.comp sc _ j))⟩,h.2.1,h.2.2⟩
def yee(sl:List (Option Nat))(ct:Tg)(fi:∀tg l,Pr (YI γ κ tg l ci))(C:Ev γ cc)(E:Ev γ ce)(e:AZ):Pr (YE γ κ e (.comp sl ct ci cc ce)):=
 match e with
 |.ListComp elt [⟨tg,it,ifs,0⟩] sc _=>hf κ λhκ=>an (mCo sl ct fi C E elt tg it ifs sc) λh=>ok λm S X G=>by
  let⟨NC,h1,h2,h3,h4,h5⟩:=h.q m S X G;exact zni (G.calm hκ) h1 h.f h2 h3 h4 h5 (fse h.s)
 |_=>AD
end
section
variable {γ:Gs}{κ:Kx}
def mPp:(kvs:List (A4×Int))->(ks:List (Option AZ))->(vs:List AZ)->Pr (∀X pos,PPs X pos ks vs (trC kvs))
 |[],[],[]=>ok λ_ _=>zpM
 |(x,i)::r,AA (.Constant (.str y) _ _)::ks,.Constant (.int j) _ _::vs=>an (ask (y=x/\j=i)) λh=>an (mPp r ks vs) λhr=>ok λX pos=>by
  let⟨rfl,rfl⟩:=h;exact zmQ (hr X pos)
 |_,_,_=>AD
def yeC(kvs:List (A4×Int))(e:AZ):Pr (YE γ κ e (.newd kvs)):=
 match e with
 |.Dict ks vs pos=>an (mPp kvs ks vs) λh=>an (ask (ks.all (·.isSome)=AB/\ks.length=vs.length/\ks.length≠0/\ks.length<=15)) λq=>ok λm S X G=>zmJ (h X pos) q.1 q.2.1 (λz=>q.2.2.1 (by rw[z];rfl)) q.2.2.2
 |_=>AD
end
mutual
noncomputable def ch(γ:Gs):(c:Ce)->Ev γ c
 |.cst v=>plain λκ x=>ygA v x
 |.var i=>plain λκ x=>yfs i x
 |.bin o a b=>plain λκ x=>yg5 o x ((ch γ a).e κ) ((ch γ b).e κ)
 |.neg a=>plain λκ x=>yfZ x ((ch γ a).e κ)
 |.not a=>ycF (λκ x=>ygB x ((ch γ a).e κ)) (yhm (ch γ a))
 |.and a b=>ye4 (ch γ a) (ch γ b)
 |.or a b=>yg2 (ch γ a) (ch γ b)
 |.cmp o a b=>ycF (λκ x=>ygR o x ((ch γ a).e κ) ((ch γ b).e κ)) (λκ x=>yen o x ((ch γ a).e κ) ((ch γ b).e κ))
 |.chain o p a b c=>ycF (λκ x=>yg6 o p x ((ch γ a).e κ) ((ch γ b).e κ) ((ch γ c).e κ)) (λκ x=>ye9 o p x ((ch γ a).e κ) ((ch γ b).e κ) ((ch γ c).e κ))
 |.ite c a b=>plain λκ x=>ygn x ((ch γ c).t κ) ((ch γ a).e κ) ((ch γ b).e κ)
 |.tup es=>plain λκ x=>ygI x (ybn (chs γ es κ))
 |.lst es=>plain λκ x=>yg9 x (ybn (chs γ es κ))
 |.newl es=>plain λκ x=>yeF x (ybn (chs γ es κ))
 |.newd kvs=>plain λκ x=>yeC kvs x
 |.dict0 t=>plain λκ x=>ye3 t x
 |.idx a i=>plain λκ x=>mIdx x ((ch γ a).e κ) ((ch γ i).e κ)
 |.slc a l h=>plain λκ x=>ygq x ((ch γ a).e κ) (λo=>yfA l o ((ch γ l).e κ)) (λo=>yfA h o ((ch γ h).e κ))
 |.call f es=>plain λκ x=>hf κ λh=>ygE h f (chs γ es κ) x
 |.blt b es=>plain λκ x=>ygX b (chs γ es κ) x
 |.mth k o es=>plain λκ x=>yg3 k (chs γ es κ) x ((ch γ o).e κ)
 |.isi a ts=>plain λκ x=>yga ts x ((ch γ a).e κ)
 |.comp sl tg it c e=>plain λκ x=>yee sl tg (chi γ it κ) (ch γ c) (ch γ e) x
 |.frz a=>plain λκ x=>an ((ch γ a).e κ x) λh=>ok λm S X G=>zox (h m S X G)
 |.nope=>plain λκ x=>ok λ_ _ _ _=>znD
noncomputable def chs(γ:Gs):(cs:Ces)->(κ:Kx)->Fs γ κ cs
 |.nil,_=>.nil
 |.cons c cs,κ=>.cons (λx=>(ch γ c).e κ x) (chs γ cs κ)
noncomputable def chi(γ:Gs):(c:Cit)->(κ:Kx)->∀tg l,Pr (YI γ κ tg l c)
 |.seq a,κ=>ygD ((ch γ a).e κ)
 |.range1 a,κ=>iR1 ((ch γ a).e κ)
 |.enum a,κ=>ye5 ((ch γ a).e κ)
 |.rangeD a b,κ=>iRD ((ch γ a).e κ) ((ch γ b).e κ)
 |_,_=>λ_ _=>AD
end
section
variable {γ:Gs}{κ:Kx}{ca cb cc ce:Ce}{ci:Cit}{ct:Tg}{cs cs':Css}{ces:Ces}
def yew(f:∀x,Pr (YE γ κ x ca))(s:By):Pr (YS γ κ s (.expr ca)):=
 match s with
 |.Expr a _=>an (ask (nco a=AB)) λhs=>an (f a) λh=>ok λm S X G=>znM (h m S X G) (swp hs)
 |_=>AD
def yfz(i:Nat)(f:∀x,Pr (YE γ κ x ca))(s:By):Pr (YS γ κ s (.asg (.n i) ca)):=
 match s with
 |.Assign [.Name x _] a _=>an (ask (nco a=AB/\setB κ i x=AB)) λhs=>an (f a) λh=>ok λm S X G=>let q:=zaE G hs.2;zpi q.d q.i q.l (h m S X G) (swp hs.1) q.f
 |_=>AD
def zop{a:AZ}(h:nst a=AB):(match (generalizing:=false) a with | .Starred _ _=>AB|_=>AC)=false:=by
 revert h;cases a<;>intro h<;>first|rfl|cases h
def swD(so:Bj)(x y:A4)(px py:CW)(a b:AZ):Bool:=(if so.kind.isAnnotationScope then Fy else so.kind)==.function&&so.names.lookup x==AA .local&&so.names.lookup y==AA .local&&py.line==px.line&&nst a&&nst b&&!(x==y)&&!(foldedForSure 8 a&&foldedForSure 8 b)&&!(constantsAlone 8 a&&constantsAlone 8 b)
def zq5{x y:A4}{px py pt pt2:CW}{kt k2:Nat}{a b:AZ}{env:B7}(h:swD env.scope x y px py a b=AB):
  swappedStores [.Tuple [.Name x px,.Name y py] kt pt] (.Tuple [a,b] k2 pt2) env=pure (AA [x,y]):=by
 erw[swD,AI,CY]at h;let⟨⟨⟨⟨⟨⟨⟨⟨h1,h2⟩,h3⟩,h4⟩,h5⟩,h6⟩,h7⟩,h8⟩,h9⟩:=h;have k1:(env.blockKind != .function)=false:=by
  show (!((if env.scope.kind.isAnnotationScope then Fy else env.scope.kind)==.function))=AC;rw[h1];rfl
 have k2:env.kindOf x=AA .local:=eq_of_beq h2;have k3:env.kindOf y=AA .local:=eq_of_beq h3;have k4:py.line=px.line:=eq_of_beq h4;have k7:¬y=x:=λz=>by subst z;simp at h7
 have m1:=zop h5;have m2:=zop h6;have c8:¬(foldedForSure 8 a=AB/\foldedForSure 8 b=AB):=λz=>by rw[z.1,z.2]at h8;cases h8
 have c9:¬(constantsAlone 8 a=AB/\constantsAlone 8 b=AB):=λz=>by rw[z.1,z.2]at h9;cases h9
 have x1:(Expr.Name x px).pos=px:=rfl;have x2:(Expr.Name y py).pos=py:=rfl;unfold swappedStores;simp[k1,m1,m2,k2,k3,k4,List.eraseDups_cons,k7,x1,x2,c8,c9,C1];intro z;exfalso;rcases z with z|z
 .exact BD (m1.symm.trans z)
 .exact BD (m2.symm.trans z)
def ygk(i j:Nat)(fa:∀x,Pr (YE γ κ x ca))(fb:∀x,Pr (YE γ κ x cb))(s:By):Pr (YS γ κ s (.asg (.t [i,j]) (.tup (.cons ca (.cons cb .nil))))):=
 match s with
 |.Assign [.Tuple [.Name x px,.Name y py] _ _] (.Tuple [a,b] _ _) _=>hf κ λhκ=>an (ask (setB κ i x=AB/\setB κ j y=AB/\i≠j/\swD κ.sc x y px py a b=AB)) λh=>an (fa a) λha=>an (fb b) λhb=>ok λm S X G=>by
  let⟨h1,h2,h3,h4⟩:=h;have q:=zaE G h1;have r:=zaE G h2;have h5:=h4;erw[swD,AI]at h5;have e1:X.env.scope.names.lookup x=AA .local:=by rw[G.sc];exact eq_of_beq h5.1.1.1.1.1.1.1.2
  have e2:X.env.scope.names.lookup y=AA .local:=by rw[G.sc];exact eq_of_beq h5.1.1.1.1.1.1.2
  exact zoa (G.calm hκ) q.d q.i r.i h3 (zn4 (G.calm hκ) q.d q.i r.i h3 e1 e2 (zaj (ha m S X G) (zaj (hb m S X G) zb2 (zci h5.1.1.1.2)) (zci h5.1.1.1.1.2)) (zq5 (by rw[G.sc];exact h4)))
 |_=>AD
theorem sw0{es:List AZ}{k:Nat}{p:CW}{a:AZ}{env:B7}(h:ntu a=AB):swappedStores [.Tuple es k p] a env=pure none:=by
 cases a<;>first|rfl|cases h
theorem sw1{b c:AZ}{p:CW}{a:AZ}{env:B7}:swappedStores [.Subscript b c p] a env=pure none:=by
 cases a<;>rfl
def zoq{t a:AZ}{l:Nat}{env:B7}(h:nco a=AB):swapsWithSole [t] a l env=pure false:=by
 show swapsWith a (AA t) l env=_;exact swp h
theorem asS{b c:AZ}{pos:CW}{env:B7}(h:nsl c=AB):∀v,assign (.Subscript b c pos) env v=(do
   let ov <-holding [v] (eval b env)
   let iv <-holding [v,ov] (eval c env)
   standAt pos
   holding [v,ov,iv] (setItem ov iv v)
   release [v,ov,iv] []):=by
 cases c<;>first|exact λ_=>rfl|cases h
def ygt(l:List Nat)(f:∀x,Pr (YE γ κ x ca))(s:By):Pr (YS γ κ s (.asg (.t l) ca)):=
 match s with
 |.Assign [.Tuple es k p] a _=>an (ask (nco a=AB/\ntu a=AB)) λhs=>an (mTg (γ:=γ) (κ:=κ) (.t l) (.Tuple es k p)) λhg=>an (f a) λh=>ok λm S X G=>zmZ (h m S X G) (hg m S X G) (zoq hs.1) (sw0 hs.2)
 |_=>AD
def ygy(f:∀x,Pr (YE γ κ x cc))(fo:∀x,Pr (YE γ κ x ca))(fi:∀x,Pr (YE γ κ x cb))(s:By):Pr (YS γ κ s (.six ca cb cc)):=
 match s with
 |.Assign [.Subscript b c _] a _=>an (ask (nco a=AB/\nsl c=AB)) λhs=>an (f a) λh=>an (fo b) λho=>an (fi c) λhi=>ok λm S X G=>zpQ (h m S X G) (ho m S X G) (hi m S X G) (zoq hs.1) sw1 (zly (ho m S X G) (hi m S X G) zgp (asS hs.2))
 |_=>AD
def yeU(f:∀x,Pr (YE γ κ x cc))(fo:∀x,Pr (YE γ κ x ca))(fi:∀x,Pr (YE γ κ x cb))(s:By):Pr (YS γ κ s (.dput ca cb cc)):=
 match s with
 |.Assign [.Subscript b c _] a _=>an (ask (nco a=AB)) λhs=>an (f a) λh=>an (fo b) λho=>an (fi c) λhi=>ok λm S X G=>zmt (zlR G.room) (ho m S X G) (hi m S X G) (h m S X G) (swp hs)
 |_=>AD
def yf8(op:Ea)(o:BOp):Pr (∀S X,PIp X op (rT2 S X (ybV o))):=
 match op,o with
 |.Add,.add=>ok λ_ _=>znC
 |_,_=>AD
def ygw(i:Nat)(o:BOp)(f:∀x,Pr (YE γ κ x ca))(s:By):Pr (YS γ κ s (.aug i o ca)):=
 match s with
 |.AugAssign (.Name x _) op a _=>an (ask (setB κ i x=AB)) λh=>an (yf8 op o) λhp=>an (f a) λha=>ok λm S X G=>let q:=zaE G h;zp3 q.d q.i q.l (ha m S X G) (hp S X) q.f (zdw q.p) (zh7 q.p)
 |_=>AD
def yg4(c:Ce)(f:∀x,Pr (YE γ κ x c))(s:By):Pr (YS γ κ s (.ret c)):=
 match s with
 |.Return (AA a) _=>an (f a) λh=>ok λm S X G=>zpR (h m S X G)
 |.Return AD _=>match c with
  |.cst .non=>ok λ_ _ _ _=>znN
  |_=>AD
 |_=>AD
def sIf(fc:∀x,Pr (YT γ κ x cc))(fa:∀x,Pr (YSs γ κ x cs))(fb:∀x,Pr (YSs γ κ x cs'))(s:By):Pr (YS γ κ s (.ite cc cs cs')):=
 match s with
 |.If c a b _=>an (fc c) λhc=>an (fa a) λha=>an (fb b) λhb=>ok λm S X G=>zqQ (hc m S X G) (ha m S X G) (hb m S X G)
 |_=>AD
def ygP(ct:Tg)(fi:∀tg l,Pr (YI γ κ tg l ci))(fb:∀x,Pr (YSs γ κ x cs))(s:By):Pr (YS γ κ s (.for ct ci cs)):=
 match s with
 |.For tg l b [] _=>hf κ λhκ=>an (ask (κ.own=AB/\nse l=AB)) λho=>an (fi tg l) λhi=>an (mTg (γ:=γ) (κ:=κ) ct tg) λhg=>an (fb b) λhb=>ok λm S X G=>zqb (G.own ho.1).1 (G.calm hκ) (hi m S X G) (hg m S X G) (hb m S X G) (fse ho.2)
 |_=>AD
def sWh(fc:∀x,Pr (YT γ κ x cc))(fb:∀x,Pr (YSs γ κ x cs))(s:By):Pr (YS γ κ s (.while cc cs)):=
 match s with
 |.While c b [] _=>an (ask (κ.own=AB)) λho=>an (fc c) λhc=>an (fb b) λhb=>ok λm S X G=>zj7 (G.own ho).1 (hc m S X G) (hb m S X G)
 |_=>AD
def yeT(i:Nat)(q:Ce)(o:BOp)(v e d:Ce)(fe:∀x,Pr (YE γ κ x e))(fw:∀x,Pr (YE γ κ x (.ite q (.bin o v e) d)))(s:By):Pr (YS γ κ s (.asg (.n i) (.ite q (.bin o v e) d))):=
 match s with
 |.AugAssign (.Name x px) .Add a p=>match q,o,v,d with
  |.isi (.var j) [.tuple],.add,.var k,.nope=>an (ask (j=i/\k=i/\setB κ i x=AB)) λh=>an (fe a) λha=>ok λm S X G=>by
   let⟨rfl,rfl,h⟩:=h;have q:=zaE G h;exact zmj q.d q.i q.l (ha m S X G) q.f (zdw q.p) (zh7 q.p)
  |_,_,_,_=>AD
 |s=>yfz i fw s
def yfM(hκ:κ.h=AC)(ix:Nat)(D:List (A4×Nat)){cn:Ce}{ces:Ces}(fn:∀x,Pr (YE γ κ x cn))(F:Fs γ κ ces)(ss:List By):Pr (YSs γ κ ss (.cons (.mkr ix D cn ces) .nil)):=
 match ss with
 |[.Assign [.Name x _] (.Subscript (.Name y _) n _) _,.Return (AA (.Call (.Name x' _) (e::es) [] _)) _]=>match hy:γ.mr y with
  |some E=>an (ask (E=D/\x'=x/\setB κ ix x=AB/\yed κ.sc x=AB/\glB κ y=AB/\nsl n=AB/\nst e=AB/\yc4 es=AB)) λh=>an (fn n) λhn=>an (ybn F (e::es)) λha=>ok λm S X G=>by
   let⟨rfl,rfl,h1,h2,h3,h4,h5,h6⟩:=h;have q:=zaE G h1;let⟨fa,fdd,ps,M,d⟩:=G.glo.K y E hy;exact zpU M ((G.rm hκ).mono (ER m)) q.d q.i q.l (by rw[G.sc];exact ziD h2) (z7 G h3) d (hn m S X G) (ha m S X G) (nos h4) (swp rfl) q.f (zdw (zbS h3)) (zdw q.p) (zh7 q.p) (zci h5) (stars h6)
  |none=>AD
 |_=>AD
end
mutual
noncomputable def chS(γ:Gs):(c:Cs)->(κ:Kx)->∀s,Pr (YS γ κ s c)
 |.expr e,κ=>yew ((ch γ e).e κ)
 |.asg (.n i) (.ite q (.bin o v e) d),κ=>yeT i q o v e d ((ch γ e).e κ) ((ch γ (.ite q (.bin o v e) d)).e κ)
 |.asg (.n i) c,κ=>yfz i ((ch γ c).e κ)
 |.asg (.t [i,j]) (.tup (.cons a (.cons b .nil))),κ=>ygk i j ((ch γ a).e κ) ((ch γ b).e κ)
 |.asg (.t l) c,κ=>ygt l ((ch γ c).e κ)
 |.six o i e,κ=>ygy ((ch γ e).e κ) ((ch γ o).e κ) ((ch γ i).e κ)
 |.dput o i e,κ=>yeU ((ch γ e).e κ) ((ch γ o).e κ) ((ch γ i).e κ)
 |.aug i o e,κ=>ygw i o ((ch γ e).e κ)
 |.ret e,κ=>yg4 e ((ch γ e).e κ)
 |.ite c a b,κ=>sIf ((ch γ c).t κ) (ycM γ a κ) (ycM γ b κ)
 |.for t it b,κ=>ygP t (chi γ it κ) (ycM γ b κ)
 |.while c b,κ=>sWh ((ch γ c).t κ) (ycM γ b κ)
 |.nope,_=>λ_=>ok λ_ _ _ _=>znH
 |_,_=>λ_=>AD
noncomputable def ycM(γ:Gs):(c:Css)->(κ:Kx)->∀s,Pr (YSs γ κ s c)
 |.nil,_,[]=>ok λ_ _ _ _=>zoG
 |.cons (.mkr ix D cn ces) .nil,κ,ss=>hf κ λh=>yfM h ix D ((ch γ cn).e κ) (chs γ ces κ) ss
 |.cons c cs,κ,s::ss=>an (chS γ c κ s) λh=>an (ycM γ cs κ ss) λhr=>ok λm S X G=>zmo (h m S X G) (hr m S X G)
 |_,_,_=>AD
end
inductive Dk where
 |fn|fd (ds:List Int)|me (c:Nat)|ini (c:Nat)
structure Df where
 gn:A4
 nm:A4
 q:A4
 st:By
 N:List A4
 ps:List A4
 fn:IC.Fn
 k:Dk
def scB(N P:List A4)(sc:Bj):Bool:=decide (sc.kind=.function)&&!sc.isCoroutine&&!sc.isGenerator&&decide N.Nodup&&decide (N.take P.length=P)&&P.all (yeb sc)&&sc.names.all λy=>y.2 != .free
def zlJ{N P:List A4}{sc:Bj}(h:scB N P sc=AB):yaN N P sc:=by
 erw[scB,AI,decide_eq_true_eq,CY,BF,bne_iff_ne,ne_eq]at h;let⟨⟨⟨⟨⟨⟨h1,h2⟩,h3⟩,h4⟩,h5⟩,h6⟩,h7⟩:=h;exact⟨h1,h2,h3,h4,h5,λx hx=>zi4 (h6 x hx),h7⟩
def okD(γ:Gs)(d:Df):Bool:=scB d.N d.ps (yp d.st)&&decide (d.ps.length=d.fn.np)&&decide (d.N.length=d.fn.ns)&&(ycM γ d.fn.body ⟨d.N,yp d.st,AB,AC⟩ (yU d.st)).isSome
def ybX{α:Type}(P:α->Prop):List α->Prop
 |[]=>True
 |d::r=>P d/\ybX P r
theorem ybX.get{α:Type}{P:α->Prop}:∀{l:List α},ybX P l->∀d∈l,P d
 |_::_,h,d,hd=>by
  rcases BB.1 hd with rfl|hd
  .exact h.1
  .exact h.2.get d hd
def ybM:List A4->(List AH->Prop)->Prop
 |[],P=>P []
 |_::r,P=>∀a,ybM r λus=>P (a::us)
theorem ybM.get:∀{ps:List A4} {P:List AH->Prop},ybM ps P->∀us,us.length=ps.length->P us
 |[],P,h,[],_=>h
 |_::r,P,h,a::us,e=>(h a).get us (by simpa using e)
def ybf(d:Df):Prop:=∀(kV doc pm:AH) (an:Option AJ) (cdv ct:AH),ybM d.ps λus=>bindArgs (Bc d.nm d.q (yag d.st) (yU d.st) (yp d.st) .none kV doc pm an cdv ct) ⟨us,[]⟩=pure (d.ps.zip us)
structure ycn(K:AG)(d:Df)(dv:AH)(f:AJ)(fd:BL):Prop where
 ex:∃(oc:AH) (od:Option AJ) (kV doc pm:AH) (an:Option AJ) (cdv ct:AH) (osl:Array (Option AH)),
  fd=Bc d.nm d.q (yag d.st) (yU d.st) (yp d.st) dv kV doc pm an cdv ct/\K.lookup f=AA ⟨oc,od,.func fd,osl⟩/\CM K cdv d.q=AB
 kp:Ax K (.ref f)=AB
def At(K:AG)(cn:Nat->A4)(d:Df)(f:AJ):Prop:=
 match d.k with
 |.fn=>BS K mainGlobals d.gn=AA (AA (.ref f))/\ybf d
 |.fd _=>BS K mainGlobals d.gn=AA (AA (.ref f))
 |.me c=>ybf d/\∃q,BS K mainGlobals (cn c)=AA (AA (.ref q))/\BI K (.ref q) d.nm=AA (AA (.ref f))/\DH K (.ref f)=AB
 |.ini c=>ybf d/\∃q,BS K mainGlobals (cn c)=AA (AA (.ref q))/\BI K (.ref q) d.nm=AA (AA (.ref f))/\DH K (.ref f)=AB/\FA K q=AB/\Ax K (.ref q)=AB
def DvP(K:AG)(d:Df)(dv:AH):Prop:=
 match d.k with
 |.fd ds=>∃dT o its n,dv=.ref dT/\K.lookup dT=AA o/\o.data=.seq its n/\Vals (ds.map V.int) its.toList
 |_=>dv=.none
def yc7(K:AG)(cn:Nat->A4)(d:Df):Prop:=∃dv f fd,ycn K d dv f fd/\At K cn d f/\DvP K d dv
section
variable {K:AG}{cn:Nat->A4}{gn nm:A4}{st:By}{N ps:List A4}{fn:IC.Fn}{f:AJ}{oc:AH}{od:Option AJ}{kV doc pm:AH}{an:Option AJ}{cdv ct:AH}{osl:Array (Option AH)}
theorem rowFn(a:BS K mainGlobals gn=AA (AA (.ref f)))(l:K.lookup f=AA ⟨oc,od,.func (Bc nm nm (yag st) (yU st) (yp st) .none kV doc pm an cdv ct),osl⟩)
  (c:CM K cdv nm=AB) (p:Ax K (.ref f)=AB) (b:ybf ⟨gn,nm,nm,st,N,ps,fn,.fn⟩):yc7 K cn ⟨gn,nm,nm,st,N,ps,fn,.fn⟩:=
 ⟨.none,f,_,⟨⟨oc,od,kV,doc,pm,an,cdv,ct,osl,rfl,l,c⟩,p⟩,⟨a,b⟩,rfl⟩
theorem rowFd{ds:List Int}{dT:AJ}{o:CA}{its:Array AH}{n:Nat}(a:BS K mainGlobals gn=AA (AA (.ref f)))(l:K.lookup f=AA ⟨oc,od,.func (Bc nm nm (yag st) (yU st) (yp st) (.ref dT) kV doc pm an cdv ct),osl⟩)
  (c:CM K cdv nm=AB) (p:Ax K (.ref f)=AB) (d:K.lookup dT=AA o) (e:o.data=.seq its n) (v:Vals (ds.map V.int) its.toList):yc7 K cn ⟨gn,nm,nm,st,N,ps,fn,.fd ds⟩:=
 ⟨.ref dT,f,_,⟨⟨oc,od,kV,doc,pm,an,cdv,ct,osl,rfl,l,c⟩,p⟩,a,dT,o,its,n,rfl,d,e,v⟩
theorem rowMe{qn:A4}{cc:Nat}{q:AJ}(z:BS K mainGlobals (cn cc)=AA (AA (.ref q)))(a:BI K (.ref q) nm=AA (AA (.ref f)))(i:DH K (.ref f)=AB)(l:K.lookup f=AA ⟨oc,od,.func (Bc nm qn (yag st) (yU st) (yp st) .none kV doc pm an cdv ct),osl⟩)
  (c:CM K cdv qn=AB) (p:Ax K (.ref f)=AB) (b:ybf ⟨gn,nm,qn,st,N,ps,fn,.me cc⟩):yc7 K cn ⟨gn,nm,qn,st,N,ps,fn,.me cc⟩:=
 ⟨.none,f,_,⟨⟨oc,od,kV,doc,pm,an,cdv,ct,osl,rfl,l,c⟩,p⟩,⟨b,q,z,a,i⟩,rfl⟩
theorem rowIni{qn:A4}{cc:Nat}{q:AJ}(z:BS K mainGlobals (cn cc)=AA (AA (.ref q)))(a:BI K (.ref q) nm=AA (AA (.ref f)))(i:DH K (.ref f)=AB)(l:K.lookup f=AA ⟨oc,od,.func (Bc nm qn (yag st) (yU st) (yp st) .none kV doc pm an cdv ct),osl⟩)
  (c:CM K cdv qn=AB) (p:Ax K (.ref f)=AB) (b:ybf ⟨gn,nm,qn,st,N,ps,fn,.ini cc⟩) (mk:FA K q=AB) (kq:Ax K (.ref q)=AB):yc7 K cn ⟨gn,nm,qn,st,N,ps,fn,.ini cc⟩:=
 ⟨.none,f,_,⟨⟨oc,od,kV,doc,pm,an,cdv,ct,osl,rfl,l,c⟩,p⟩,⟨b,q,z,a,i,mk,kq⟩,rfl⟩
theorem gdf_mk{w:Aw}{h:BU}{mg:A4->Option AH}{x:A4}{D:List (A4×Nat)}{fa:Nat->AJ}{y:AJ}{es:Array CV}{ep:Nat}(X:K.In h)(G:h.Ns mainGlobals mg)(a:BS K mainGlobals x=AA (AA (.ref y)))(l:K.lookup y=AA ⟨.type "dict",AD,.dict es ep,#[]⟩)
  (r:ych w fa D es.toList) (n:(D.map (·.1)).Nodup):GDF K w mg fa x D:=⟨y,es,ep,E8 X G a,l,r,n⟩
theorem gd_mk{w:Aw}{h:BU}{mg:A4->Option AH}{x:A4}{D:List (A4×PV)}{cl:Nat->AJ}{y:AJ}{es:Array CV}{ep:Nat}(X:K.In h)(G:h.Ns mainGlobals mg)(a:BS K mainGlobals x=AA (AA (.ref y)))(l:K.lookup y=AA ⟨.type "dict",AD,.dict es ep,#[]⟩)
  (s:(y==sysModules)=AC) (r:ycd K cl w D es.toList) (n:(D.map (·.1)).Nodup):GD K w mg cl x D:=⟨y,es,ep,E8 X G a,l,s,r,n⟩
end
abbrev KoV(K:AG)(v:PV)(u:AH):Prop:=∃x:V,RelV x u/\∀cl B φ H,yd K cl B φ H v x
abbrev KoL(K:AG)(vs:List PV)(us:List AH):Prop:=∃xs:List V,Vals xs us/\∀cl B φ H,yh K cl B φ H vs xs
mutual
noncomputable def yeD(K:AG):(v:PV)->(u:AH)->Pr (KoV K v u)
 |.int i,.int j t=>an (ask (i=j)) λh=>ok ⟨.int i,⟨t,by rw[h]⟩,λ_ _ _ _=>by erw[yd]⟩
 |.str i,.str j t=>an (ask (i=j)) λh=>ok ⟨.str i,⟨t,by rw[h]⟩,λ_ _ _ _=>by erw[yd]⟩
 |.tp AB vs,.ref a=>match h:K.lookup a with
  |some ⟨c,_,.seq its n,_⟩=>an (ask (c=.type "tuple"/\its.size<=sizeLine)) λq=>an (ydz K vs its.toList) λr=>ok (by
    let⟨xs,r1,r2⟩:=r;refine⟨.ref a,rfl,λcl B φ H=>?_⟩;erw[yd];exact⟨a,xs,rfl,.inr ⟨rfl,_,its,n,h,q.1,rfl,q.2,r1⟩,r2 cl B φ H⟩)
  |_=>AD
 |_,_=>AD
noncomputable def ydz(K:AG):(vs:List PV)->(us:List AH)->Pr (KoL K vs us)
 |[],[]=>ok ⟨[],.nil,λ_ _ _ _=>by erw[yh]⟩
 |v::vs,u::us=>an (yeD K v u) λh=>an (ydz K vs us) λr=>ok (by
   let⟨x,h1,h2⟩:=h;let⟨xs,r1,r2⟩:=r;refine⟨x::xs,.cons h1 r1,λcl B φ H=>?_⟩;erw[yh];exact⟨x,xs,rfl,h2 cl B φ H,r2 cl B φ H⟩)
 |_,_=>AD
end
theorem con_row{K:AG}{cl:Nat->AJ}{w:Aw}{k:A4}{v:PV}{tk:Hk}{u:AH}{D:List (A4×PV)}{es:List CV}(c:(yeD K v u).isSome=AB)(h:ycd K cl w D es):ycd K cl w ((k,v)::D) (⟨EF w.params k,.str k tk,u⟩ :: es):=by
 let⟨⟨x,r,q⟩,_⟩:=Ap.1 c;exact .cons r (q cl) h
theorem frow_cons{w:Aw}{fa:Nat->AJ}{k:A4}{i:Nat}{tk:Hk}{a:AJ}{D:List (A4×Nat)}{es:List CV}(e:fa i=a)(h:ych w fa D es):ych w fa ((k,i)::D) (⟨EF w.params k,.str k tk,.ref a⟩ :: es):=by
 subst e;exact .cons h
structure Tb where
 tbl:List Df
 al:List (A4×GK)
 bs:List A4
 ts:List Ty
 fl:List (Nat×A4)
 me:List ((Nat×A4)×Nat)
 kb:List ((Nat×Nat×List A4)×List (Option Int))
 cn:List (Nat×A4)
 dd:List (A4×List (A4×PV))
 ml:List (A4×List (A4×Nat))
 xs:List (Nat×Ty)
 xc:List (Nat×A4)
 xm:List (Nat×A4)
 qh:List A4
abbrev eF(x:A4)(i:Nat):A4×GK:=(x,.fn i)
abbrev eD(x:A4)(i:Nat):A4×GK:=(x,.fnD i)
abbrev eC(x:A4)(v:PV):A4×GK:=(x,.cst v)
abbrev eK(i n:Nat)(ks:List A4)(sh:List (Option Int)):(Nat×Nat×List A4)×List (Option Int):=((i,n,ks),sh)
abbrev eL(x:A4)(d:List (A4×Nat)):A4×List (A4×Nat):=(x,d)
def tyE:Ty->Ty->Bool
 |.int,.int=>AB
 |.bool,.bool=>AB
 |.str,.str=>AB
 |.tuple,.tuple=>AB
 |.list,.list=>AB
 |_,_=>AC
def zn9{a b:Ty}(h:tyE a b=AB):a=b:=by
 cases a<;>cases b<;>first|rfl|cases h
def tyX:Ty->Ty->Bool
 |.cls a,.cls b=>a==b
 |.val,.val=>AB
 |_,_=>AC
def zok{a b:Ty}(h:tyX a b=AB):a=b:=by
 cases a<;>cases b<;>first|rfl|(cases h;done)|(rw[eq_of_beq (show _=AB from h)])
def Tb.gs(t:Tb):Gs:=⟨λx=>t.al.lookup x,λx=>t.bs.contains x,λy=>t.ts.any (tyE y),λc f=>t.fl.contains (c,f),λc n=>t.me.lookup (c,n),λi n ks=>t.kb.lookup (i,n,ks),λx=>t.ml.lookup x,λx i=>decide (t.cn.lookup (1000+i)=AA x),λc y=>t.xs.any λp=>p.1==c&&tyX p.2 y,λd x=>t.xc.contains (d,x),λc x=>t.xm.contains (c,x),λi=>match t.tbl[i]? with
 |some d=>t.qh.contains d.gn
 |none=>AC⟩
def nmA(K:AG)(x:A4):Option Addr:=match BS K mainGlobals x with
 |some (AA (.ref q))=>AA q
 |_=>AD
def clA(K:AG)(t:Tb)(c:Nat):Addr:=((t.cn.lookup c).bind (nmA K)).getD 0
def cnm(t:Tb)(c:Nat):Str:=(t.cn.lookup c).getD ""
def faA(K:AG)(t:Tb)(i:Nat):Addr:=match t.tbl[i]? with
 |some d=>match d.k with
  |.fn=>(nmA K d.gn).getD 0
  |.fd _=>(nmA K d.gn).getD 0
  |.me c=>match BI K (.ref (clA K t c)) d.nm with
   |some (AA (.ref f))=>f
   |_=>0
  |.ini c=>match BI K (.ref (clA K t c)) d.nm with
   |some (AA (.ref f))=>f
   |_=>0
 |none=>0
def ycT:Dk->Bool
 |.fn=>AB
 |_=>AC
def yeo:Dk->Bool
 |.fd _=>AB
 |_=>AC
def ygQ:PV->Bool
 |.int _=>AB
 |.tp _ _=>AB
 |_=>AC
def alB(K:AG)(t:Tb):A4×GK->Bool
 |(x,.fn i)=>match t.tbl[i]? with
  |some d=>ycT d.k&&(decide (x=d.gn) || decide (nmA K x=nmA K d.gn))
  |none=>AC
 |(x,.fnD i)=>match t.tbl[i]? with
  |some d=>yeo d.k&&(decide (x=d.gn) || decide (nmA K x=nmA K d.gn))
  |none=>AC
 |(x,.cst v)=>ygQ v&&match BS K mainGlobals x with
  |some (AA u)=>(yeD K v u).isSome
  |_=>AC
 |(x,.dct d)=>t.dd.any λp=>decide (p.1=x)&&(eqD p.2 d).isSome
 |(x,.exc c)=>decide (t.cn.lookup c=AA x)&&(nmA K x).any λq=>Fi K q [.type "ValueError",.type "Exception",.type "BaseException",.type "object"] "ValueError.__new__"
 |(x,.cls c i)=>decide (t.cn.lookup c=AA x)&&(nmA K x).isSome&&match t.tbl[i]? with
  |some d=>match d.k with
   |.ini c'=>decide (c'=c)&&decide (d.nm="__init__")
   |_=>AC
  |none=>AC
def yfJ(K:AG)(t:Ty):Bool:=
 decide (BX K (.type "NoneType") (.type (tyN t))=AA (ybo .non t))&&decide (BX K (.type "bool") (.type (tyN t))=AA (ybo (.bl AB) t))&&decide (BX K (.type "int") (.type (tyN t))=AA (ybo (.int 0) t))&&decide (BX K (.type "str") (.type (tyN t))=AA (ybo (.str GV) t))&&decide (BX K (.type "tuple") (.type (tyN t))=AA (ybo (.tp AB []) t))&&decide (BX K (.type "list") (.type (tyN t))=AA (ybo (.lst []) t))
def yd7(K:AG)(q:AJ):Bool:=Ec K q GV&&GE K q&&GF K q&&decide (BI K (.ref q) "__setattr__"=AA (AA (.builtin "object.__setattr__")))
def ziy{K:AG}{q:AJ}(h:yd7 K q=AB):Cls K q:=by
 erw[yd7,AI,decide_eq_true_eq]at h;exact⟨h.1.1.1,h.1.1.2,h.1.2,h.2⟩
def yej(K:AG)(q:AJ):Bool:=decide (BI K (.ref q) "__getattribute__"=AA (AA (.builtin "BaseException.__getattribute__")))&&decide (BI K (.ref q) "__getattr__"=AA AD)&&decide (BI K (.ref q) "__class__"=AA (AA (.builtin "object.__class__")))&&decide (Gu K (.ref q) (.type "BaseException")=AA AB)&&decide (Gv K q (.type "object")=AA AB)&&(Gw K q).isSome
def znc{K:AG}{q:AJ}(h:yej K q=AB):yeQ K q:=by
 erw[yej,AI,decide_eq_true_eq]at h;let⟨⟨⟨⟨⟨h1,h2⟩,h3⟩,h4⟩,h5⟩,h6⟩:=h;exact⟨h1,h2,h3,h4,h5,Ap.1 h6⟩
def yfw(K:AG)(t:Tb):Bool:=
 t.xs.all (λp=>yej K (clA K t p.1)&&decide (BX K (.ref (clA K t p.1)) (tyZ (clA K t) p.2)=AA (ybo (.exn p.1) p.2))) &&
  t.xc.all (λp=>decide (t.cn.lookup p.1=AA p.2)&&(nmA K p.2).isSome) &&
  t.xm.all λp=>(nmA K p.2).any λW=>decide (Gm K (.ref (clA K t p.1)) (.ref W)=AA AB)
def ydo(K:AG)(t:Tb):Bool:=
 t.al.all (alB K t)&&t.bs.all (λx=>decide (BS K mainGlobals x=AA AD))&&t.ts.all (yfJ K) &&
  t.fl.all (λp=>(t.cn.lookup p.1).isSome&&(nmA K (cnm t p.1)).any λq=>yd7 K q&&decide (BI K (.ref q) p.2=AA AD)) &&
  t.me.all (λp=>(t.cn.lookup p.1.1).isSome&&(nmA K (cnm t p.1.1)).any λq=>yd7 K q&&match t.tbl[p.2]? with
   |some d=>(match d.k with
    |.me c=>decide (c=p.1.1)
    |_=>AC)&&decide (d.nm=p.1.2)
   |none=>AC) &&
  t.ml.all λp=>p.2.all λq=>match t.tbl[q.2]? with
   |some d=>ycT d.k
   |none=>AC
def ye0(K:AG)(t:Tb):Bool:=ydo K t&&yfw K t
def fd0:FuncData:=Bc "" "" (yag (.Pass ⟨0,0,0,0⟩)) [] (yp (.Pass ⟨0,0,0,0⟩)) .none .none .none .none AD .none .none
def fdA(K:AG)(t:Tb)(i:Nat):FuncData:=match K.lookup (faA K t i)with
 |some ⟨_,_,.func fd,_⟩=>fd
 |_=>fd0
def psA(t:Tb)(i:Nat):List Str:=match t.tbl[i]? with
 |some d=>d.ps
 |none=>[]
theorem lkm{α β:Type}[BEq α][LawfulBEq α]{x:α}{k:β}:∀{l:List (α×β)},l.lookup x=AA k->(x,k)∈l
 |[],h=>nomatch h
 |y::l,h=>by
  rw[Bd]at h
  cases hx:x==y.1 with
  |true=>rw[hx]at h;cases h;rw[eq_of_beq hx];exact Ao
  |false=>rw[hx]at h;exact A7 _ (lkm h)
def KbP(t:Tb)(p:(Nat×Nat×List A4)×List (Option Int)):Prop:=∀d ds,t.tbl[p.1.1]?=AA d->d.k=.fd ds->∀(K:AG) (mg:A4->Option AH) (f:AJ) (fd:BL),FnD K mg d.nm d.st d.ps ds f fd->∃g,ybF K fd d.ps p.1.2.2 g (gK p.1.2.1 p.2)
structure Fact(t:Tb)(w:Aw)(K:AG)(mg:A4->Option AH):Prop where
 X:∀x u,BS K mainGlobals x=AA u->mg x=u
 R:ybX (yc7 K (cnm t)) t.tbl
 B:ye0 K t=AB
 D:ybX (λp=>∀cl,GD K w mg cl p.1 p.2) t.dd
 Kb:ybX (KbP t) t.kb
 Ml:ybX (λp=>GDF K w mg (faA K t) p.1 p.2) t.ml
def zor{K:AG}{x:A4}{q:AJ}(h:nmA K x=AA q):BS K mainGlobals x=AA (AA (.ref q)):=by
 unfold nmA at h;split at h
 .cases h;assumption
 .cases h
def za3{K:AG}{x:A4}{q:AJ}(h:BS K mainGlobals x=AA (AA (.ref q))):nmA K x=AA q:=by
 erw[nmA,h]
def zgU{K:AG}{t:Tb}{c:Nat}{q:AJ}(h:nmA K (cnm t c)=AA q)(hc:(t.cn.lookup c).isSome=AB):clA K t c=q:=by
 let⟨x,e⟩:=Ap.1 hc;erw[clA,e,B3];erw[cnm,e,B1]at h;rw[h];rfl
def okH(t:Tb)(d:Df):Bool:=(ycM t.gs d.fn.body ⟨d.N,yp d.st,AC,AB⟩ (yU d.st)).isSome&&!d.fn.pure&&ycT d.k
def okT(t:Tb)(d:Df):Bool:=okD t.gs d&&(!t.qh.contains d.gn || okH t d)&&match d.k with
 |.fn=>AB
 |.fd _=>decide (d.q=d.nm)
 |.me c=>(t.cn.lookup c).isSome
 |.ini c=>(t.cn.lookup c).isSome&&decide (d.nm="__init__")
section
variable {t:Tb}{w:Aw}{K:AG}{mg:A4->Option AH}{T:Nat->Option IC.Fn}{P:Af}{base:BU}{k:Nat}
def zcd(F:Fact t w K mg)(O:∀d∈t.tbl,okT t d=AB){i:Nat}{d:Df}(h:t.tbl[i]?=AA d):∃dv fd,ycn K d dv (faA K t i) fd/\At K (cnm t) d (faA K t i)/\DvP K d dv:=by
 have hm:=A3 h;let⟨dv,f,fd,h1,h2,h3⟩:=F.R.get d hm;have e:f=faA K t i:=by
  have o:=O d hm;erw[okT,AI]at o;have o:=o.2;erw[faA,h];unfold At at h2
  cases q:d.k with
  |fn=>
   rw[q]at h2;erw[za3 h2.1,B1]
  |fd ds=>
   rw[q]at h2;have h2:BS K mainGlobals d.gn=AA (AA (.ref f)):=h2;erw[za3 h2,B1]
  |me c=>
   rw[q]at h2 o;let⟨_,q',e1,e2,_⟩:=h2;erw[zgU (za3 e1) o,e2]
  |ini c=>
   rw[q]at h2 o;let⟨_,q',e1,e2,_⟩:=h2;erw[AI]at o;erw[zgU (za3 e1) o.1,e2]
 subst e;exact⟨dv,fd,h1,h2,h3⟩
theorem ycn.binds{d:Df}{f:AJ}{fd:BL}(R:ycn K d .none f fd)(b:ybf d):Binds K fd d.ps []:=
 Fun.binds ⟨R.ex,R.kp⟩ λkV doc pm an cdv ct us hl=>(b kV doc pm an cdv ct).get us hl
theorem ycn.ok{d:Df}{dv:AH}{f:AJ}{fd:BL}{fi m:Nat}{cl:Nat->AJ}(R:ycn K d dv f fd)(hT:T fi=AA d.fn)(Sc:yaN d.N d.ps (yp d.st))(hnp:d.ps.length=d.fn.np)(hns:d.N.length=d.fn.ns)
  (body:∀(cdv:AH) (A:BC) (outer:List B7) (s:AK) (H:Hp) (E:XK),yaW m (A.deeper (envOfC d.q (yp d.st) s.heap.objs.size f cdv)) ->
   PSs (yaU (CX1 P w) P w K mg base d.N d.q (yp d.st) f cdv A outer s H E) (yU d.st) (tSs ⟨cl,yc T k,AB⟩ (yaU (CX1 P w) P w K mg base d.N d.q (yp d.st) f cdv A outer s H E) d.fn.body)):
  ybj P w K mg base (CX1 P w) (m+1) f fd d.ps (spI K cl (yc T (k+1)) fi):=by
 let⟨oc,od,kV,doc,pm,an,cdv,ct,osl,rfl,lk,hcd⟩:=R.ex;exact zqS lk hcd Sc (λvs H Q E h=>zlS hT hnp h) λA outer s H vs Q E hr h=>⟨_,body cdv A outer s H E hr,znf hT hns h⟩
def Fn2(t:Tb)(P:Af)(w:Aw)(K:AG)(mg:A4->Option AH)(base:BU)(T:Nat->Option IC.Fn)(k:Nat):Prop:=
 ∀i d dv fd,t.tbl[i]?=AA d->ycn K d dv (faA K t i) fd->ybj P w K mg base (CX1 P w) (2*k) (faA K t i) fd d.ps (spI K (clA K t) (yc T k) i)
def FnH(t:Tb)(P:Af)(w:Aw)(K:AG)(mg:A4->Option AH)(base:BU)(T:Nat->Option IC.Fn)(k:Nat):Prop:=
 ∀i d fd,t.tbl[i]?=AA d->t.qh.contains d.gn=AB->ycn K d .none (faA K t i) fd->yb4 P w K mg base (2*k) (faA K t i) fd d.ps (spI K (clA K t) (yc T k) i)
def zgJ(F:Fact t w K mg)(O:∀d∈t.tbl,okT t d=AB)(C:Fn2 t P w K mg base T k)(CH:FnH t P w K mg base T k){N:List A4}{q:A4}{sc:Bj}{f:AJ}{cdv:AH}{A:BC}{outer:List B7}{s:AK}{H:Hp}{E:XK}:
  Glo t.gs (2*k) ⟨clA K t,yc T k,AB⟩ (yaU (CX1 P w) P w K mg base N q sc f cdv A outer s H E):=by
 have B:=F.B;erw[ye0,AI]at B;let⟨B,B2⟩:=B;erw[ydo,AI,BF]at B;erw[yfw,AI,BF]at B2;let⟨⟨⟨⟨⟨b1,b2⟩,b3⟩,b4⟩,b5⟩,b6⟩:=B;let⟨⟨b7,b8⟩,b9⟩:=B2;have mgr:∀{x:A4} {a:AJ},nmA K x=AA a->mg x=AA (.ref a):=λh=>F.X _ _ (zor h);have same:∀{x y:A4} {a:AJ},(decide (x=y) || decide (nmA K x=nmA K y))=AB->nmA K y=AA a->nmA K x=AA a:=λ{x y a} h e=>by
  erw[Cd,decide_eq_true_eq]at h;rcases h with rfl|h
  .exact e
  .rw[h];exact e
 refine⟨λx i h=>?_,λx i np ks sh h hk=>?_,λx v h=>?_,λx d h=>?_,λx c h=>?_,λx c i h=>?_,λx h=>?_,λy h=>?_,λc n h=>?_,λc n i h=>?_,λy D h=>?_,λx i h hv=>?_,λc y h=>?_,λd x h=>?_,λc x h=>?_,λx i h hq=>?_⟩
 .have q:=b1 _ (lkm h);erw[alB]at q;split at q
  .rename_i d hd;erw[AI]at q;let⟨dv,fd,r1,r2,r3⟩:=zcd F O hd;have hk:d.k=.fn:=by cases e:d.k<;>rw[e]at q<;>first|rfl|cases q.1
   erw[At,hk]at r2;erw[DvP,hk]at r3;subst r3;exact⟨_,fd,d.ps,C i d _ fd hd r1,mgr (same q.2 (za3 r2.1)),r1.kp,r1.binds r2.2⟩
  .cases q
 .have q:=b1 _ (lkm h);erw[alB]at q;split at q
  .rename_i d hd;erw[AI]at q;let⟨dv,fd,r1,r2,r3⟩:=zcd F O hd;obtain⟨ds,hk'⟩:∃ds,d.k=.fd ds:=by cases e:d.k<;>rw[e]at q<;>first|exact⟨_,rfl⟩|cases q.1
   erw[At,hk']at r2;erw[DvP,hk']at r3;let⟨dT,o,its,n,rfl,e1,e2,e3⟩:=r3;have oo:=O d (A3 hd);erw[okT,hk',AI,decide_eq_true_eq]at oo;have D:FnD K (λ_=>AA (.ref (faA K t i))) d.nm d.st d.ps ds (faA K t i) fd:=by
    let⟨oc,od,kV,doc,pm,an,cdv,ct,osl,z1,z2,z3⟩:=r1.ex;rw[oo.2]at z1 z3;exact⟨⟨oc,od,dT,kV,doc,pm,an,cdv,ct,osl,o,its,n,z1,z2,z3,e1,e2,e3⟩,r1.kp,rfl⟩
   exact⟨_,fd,d.ps,C i d _ fd hd r1,mgr (same q.2 (za3 r2)),r1.kp,F.Kb.get _ (lkm hk) d ds hd hk' K _ _ _ D⟩
  .cases q
 .have q:=b1 _ (lkm h);erw[alB,AI]at q;let⟨q0,q⟩:=q;split at q
  .rename_i u hu;let⟨⟨y,r,z⟩,_⟩:=Ap.1 q;have hm:=F.X _ _ hu
   cases v with
   |int i=>
    have z:=z (λ_=>0) (λ_=>False) [] (λ_=>AD);erw[yd]at z;subst z;let⟨tk,rfl⟩:=r;exact .inr ⟨i,rfl,tk,hm⟩
   |tp b vs=>
    have z0:=z (λ_=>0) (λ_=>False) [] (λ_=>AD);erw[yd]at z0;let⟨a,xs,rfl,_⟩:=z0;have r:u=.ref a:=r;subst r;exact .inl ⟨a,hm,λB φ H=>z _ B φ H⟩
   |_=>cases q0
  .cases q
 .have q:=b1 _ (lkm h);erw[alB,DZ,AI,decide_eq_true_eq]at q;let⟨p,hp,rfl,q⟩:=q;let⟨⟨e⟩,_⟩:=Ap.1 q;rw[<-e];exact F.D.get p hp _
 .have q:=b1 _ (lkm h);erw[alB,AI,decide_eq_true_eq,Cq]at q;let⟨q1,q2,q3⟩:=q;let⟨a,ha⟩:=Ap.1 q2;have e:clA K t c=a:=by erw[clA,q1,B3,ha,B1]
  erw[ha,FC]at q3;exact⟨by show mg x=AA (.ref (clA K t c));rw[e];exact mgr ha,by show Fi K (clA K t c) _ _=AB;rw[e];exact q3⟩
 .have q:=b1 _ (lkm h);erw[alB,AI,decide_eq_true_eq]at q;let⟨⟨q1,q2⟩,q3⟩:=q;let⟨a,ha⟩:=Ap.1 q2;have e:clA K t c=a:=by erw[clA,q1,B3,ha,B1]
  split at q3
  .rename_i d hd
   cases hk:d.k with
   |ini c'=>
    rw[hk]at q3;erw[AI,decide_eq_true_eq]at q3;let⟨rfl,hn⟩:=q3;let⟨dv,fd,r1,r2,r3⟩:=zcd F O hd;erw[At,hk]at r2;erw[DvP,hk]at r3;subst r3;let⟨r0,q',r4,r5,r6,r7,r8⟩:=r2;have e2:q'=a:=by
     have:nmA K (cnm t c')=AA q':=za3 r4;erw[cnm,q1,B1,ha]at this;exact(A8 this).symm
    subst e2;rw[hn]at r5;refine⟨by show mg x=AA (.ref (clA K t c'));rw[e];exact mgr ha,_,fd,d.ps,?_,C i d _ fd hd r1,r1.binds r0⟩;show Mk K (clA K t c') _;rw[e];exact⟨r7,r5,r6,r8⟩
   |_=>rw[hk]at q3;cases q3
  .cases q3
 .have q:x∈t.bs:=by simpa [Tb.gs] using h
  have:=b2 x q;erw[decide_eq_true_eq]at this;exact F.X _ _ this
 .simp only[Tb.gs,DZ]at h;let⟨y',hy,e⟩:=h;have:=zn9 e;subst this;have q:=b3 y hy;erw[yfJ,AI,decide_eq_true_eq]at q;exact⟨q.1.1.1.1.1,q.1.1.1.1.2,q.1.1.1.2,q.1.1.2,q.1.2,q.2⟩
 .have q:(c,n)∈t.fl:=by simpa [Tb.gs] using h
  have q:=b4 _ q;erw[AI,Cq,decide_eq_true_eq]at q;let⟨q1,q2,q3⟩:=q;let⟨a,ha⟩:=Ap.1 q2;erw[ha,FC]at q3;have e:clA K t c=a:=zgU ha q1;show Cls K (clA K t c)/\yat K (clA K t c) n;rw[e];exact⟨ziy q3.1,q3.2⟩
 .have q:=b5 _ (lkm h);erw[AI,Cq,decide_eq_true_eq]at q;let⟨q1,q2,q3,q4⟩:=q;let⟨a,ha⟩:=Ap.1 q2;erw[ha,FC]at q3;have e:clA K t c=a:=zgU ha q1;split at q4
  .rename_i d hd;erw[AI,decide_eq_true_eq]at q4;let⟨q4,hn⟩:=q4
   cases hk:d.k with
   |me c'=>
    rw[hk]at q4;have q4:c'=c:=by simpa using q4
    subst q4;let⟨dv,fd,r1,r2,r3⟩:=zcd F O hd;erw[At,hk]at r2;erw[DvP,hk]at r3;subst r3;let⟨r0,q',r4,r5,r6⟩:=r2;have e2:q'=a:=A8 ((za3 r4).symm.trans ha);subst e2;refine⟨by show Cls K (clA K t c');rw[e];exact ziy q3,_,fd,d.ps,?_,C i d _ fd hd r1,r1.binds r0⟩;show Meth K (clA K t c') n _;rw[e,<-hn];exact⟨r5,r6,r1.kp⟩
   |_=>rw[hk]at q4;cases q4
  .cases q4
 .have q:=b6 _ (lkm h);have g:∀s j,D.lookup s=AA j->∃d dv fd,t.tbl[j]?=AA d/\ycn K d dv (faA K t j) fd/\dv=.none/\ybf d/\fd=fdA K t j/\d.ps=psA t j:=λs j hj=>by
   have q:=q _ (lkm hj);split at q
   .rename_i d hd;let⟨dv,fd,r1,r2,r3⟩:=zcd F O hd;have hk:d.k=.fn:=by cases e:d.k<;>rw[e]at q<;>first|rfl|cases q
    erw[At,hk]at r2;erw[DvP,hk]at r3;let⟨oc,od,kV,doc,pm,an,cdv,ct,osl,_,lk,_⟩:=r1.ex;exact⟨d,dv,fd,hd,r1,r3,r2.2,by erw[fdA,lk],by erw[psA,hd]⟩
   .cases q
  refine⟨faA K t,fdA K t,psA t,⟨λs j hj=>?_,λs j hj=>?_,λs j hj=>?_⟩,F.Ml.get _ (lkm h)⟩
  .let⟨d,dv,fd,h1,h2,h3,h4,h5,h6⟩:=g s j hj;rw[<-h5,<-h6];exact C j d dv fd h1 h2
  .let⟨d,dv,fd,h1,h2,h3,h4,h5,h6⟩:=g s j hj;exact h2.kp
  .let⟨d,dv,fd,h1,h2,h3,h4,h5,h6⟩:=g s j hj;subst h3;rw[<-h5,<-h6];exact h2.binds h4
 .have q:=b1 _ (lkm h);erw[alB]at q;split at q
  .rename_i d hd;erw[AI]at q;let⟨dv,fd,r1,r2,r3⟩:=zcd F O hd;have hk:d.k=.fn:=by cases e:d.k<;>rw[e]at q<;>first|rfl|cases q.1
   erw[At,hk]at r2;have hn:=same q.2 (za3 r2.1);have e:t.cn.lookup (1000+i)=AA x:=of_decide_eq_true hv;have z:clA K t (1000+i)=faA K t i:=by erw[clA,e,B3,hn,B1]
   show mg x=AA (.ref (clA K t (1000+i)));rw[z];exact mgr hn
  .cases q
 .let⟨p,hp,q⟩:=DZ.1 h;erw[AI,beq_iff_eq]at q;let⟨rfl,q⟩:=q;have:=zok q;subst this;have b:=b7 p hp;erw[decide_eq_true_eq]at b;exact⟨znc b.1,b.2⟩
 .have b:=b8 _ (FI.1 h);erw[decide_eq_true_eq]at b;let⟨a,ha⟩:=Ap.1 b.2;have e:clA K t d=a:=by erw[clA,b.1,B3,ha,B1]
  show mg x=AA (.ref (clA K t d));rw[e];exact mgr ha
 .have b:=b9 _ (FI.1 h)
  cases ha:nmA K x with
  |none=>rw[ha]at b;cases b
  |some W=>
   rw[ha]at b;exact⟨W,mgr ha,of_decide_eq_true b⟩
 .have q:=b1 _ (lkm h);erw[alB]at q;split at q
  .rename_i d hd;erw[AI]at q;let⟨dv,fd,r1,r2,r3⟩:=zcd F O hd;have hk:d.k=.fn:=by cases e:d.k<;>rw[e]at q<;>first|rfl|cases q.1
   erw[At,hk]at r2;erw[DvP,hk]at r3;subst r3;have hq:t.qh.contains d.gn=true:=by simpa only[Tb.gs,hd] using hq
   exact⟨_,fd,d.ps,CH i d fd hd hq r1,mgr (same q.2 (za3 r2.1)),r1.kp,r1.binds r2.2⟩
  .cases q
def zjl(F:Fact t w K mg)(O:∀d∈t.tbl,okT t d=AB)(hT:∀i d,t.tbl[i]?=AA d->T i=AA d.fn):∀k,Fn2 t P w K mg base T k/\FnH t P w K mg base T k
 |0=>⟨λi d dv fd _ _=>zkg,λi d fd _ _ _=>zkx⟩
 |k+1=>by
  have ih:=zjl F O hT k;refine⟨λi d dv fd h R=>?_,λi d fd h hq R=>?_⟩
  .have o:=O d (A3 h);erw[okT,okD,AI,decide_eq_true_eq]at o;let⟨⟨⟨⟨⟨o1,o2⟩,o3⟩,o4⟩,_⟩,_⟩:=o;let⟨⟨y⟩,_⟩:=Ap.1 o4;exact R.ok (m:=2*k+1) (hT i d h) (zlJ o1) o2 o3 λ_ _ _ _ _ _ hr=>y (2*k) _ _ ⟨rfl,rfl,λ_=>rfl,hr.h,λ_=>hr.hd,λ_=>⟨own1,λ_=>rfl,rfl⟩,λ_=>⟨⟨_,rfl⟩,rfl,rfl⟩,zgJ F O ih.1 ih.2⟩
  .have o:=O d (A3 h);erw[okT,okD,AI,decide_eq_true_eq]at o;let⟨⟨⟨⟨⟨o1,o2⟩,o3⟩,_⟩,oq⟩,_⟩:=o;have oh:okH t d=true:=by rw[hq]at oq;simpa using oq
   erw[okH,AI,CY]at oh;let⟨⟨y⟩,_⟩:=Ap.1 oh.1.1;refine zqm (m:=2*k+1) (hT i d h) ⟨R.ex,R.kp⟩ (zlJ o1) o2 o3 oh.1.2 λcdv A outer s H hr=>y (2*k) _ _ ⟨rfl,rfl,(λh=>nomatch h),hr,(λh=>nomatch h),(λh=>nomatch h),(λh=>nomatch h),?_⟩;have G:=zgJ (N:=d.N) (q:=d.q) (sc:=yp d.st) (f:=faA K t i) (cdv:=cdv) (A:=A) (outer:=outer) (s:=s) (H:=H) (E:=E0) F O ih.1 ih.2;exact⟨G.F,G.Q,G.C,G.D,G.E,G.N,G.B,G.T,G.A,G.M,λy D h=>let ⟨fa,fdd,ps,M,d⟩:=G.K y D h;⟨fa,fdd,ps,⟨M.F,M.kp,M.b⟩,d⟩,G.V,G.I,G.L,G.H,G.Z⟩
def zmi(F:Fact t w K mg)(O:∀d∈t.tbl,okT t d=AB)(hT:∀i d,t.tbl[i]?=AA d->T i=AA d.fn)(k:Nat):Fn2 t P w K mg base T k:=(zjl F O hT k).1
def yda:Nat->(List AH->Prop)->Prop
 |0,P=>P []
 |n+1,P=>∀a,yda n λus=>P (a::us)
theorem yda.get:∀{n:Nat} {P:List AH->Prop},yda n P->∀us,us.length=n->P us
 |0,P,h,[],_=>h
 |n+1,P,h,a::us,e=>(h a).get us (by simpa using e)
theorem kbP{i np:Nat}{ks:List A4}{sh:List (Option Int)}{d:Df}{ds:List Int}(hd:t.tbl[i]?=AA d)(hk:d.k=.fd ds)(h1:ks.length=nKw sh)(h2:sh.length=(ds.drop (ds.length-sh.length)).length)
  (h3:((sh.zip (ds.drop (ds.length-sh.length))).all λp=>p.1.all λi=>decide (i=p.2))=AB) (hp:0<d.ps.length)
  (h:∀(dT:AJ) (kV doc pm:AH) (an:Option AJ) (cdv ct:AH),yda np λus=>yda ks.length λws=>yda ds.length λits=>
   ∃k,bindArgs (Bc d.nm d.nm (yag d.st) (yU d.st) (yp d.st) (.ref dT) kV doc pm an cdv ct) ⟨us,ks.zip ws⟩=seqItems? (.ref dT) >>= k/\k (AA its.toArray)=pure (d.ps.zip (us++ybd sh ws (its.drop (ds.length-sh.length))))):KbP t ((i,np,ks),sh):=by
 intro d' ds' e1 e2 K mg f fd D;have e1:t.tbl[i]?=AA d':=e1;rw[hd]at e1
 cases e1
 rw[hk]at e2
 cases e2
 exact kbD D h1 h2 h3 (λdT kV doc pm an cdv ct us ws its z1 z2 z3=>(((h dT kV doc pm an cdv ct).get us z1).get ws z2).get its z3) hp
theorem all_mk2{h:BU}{fx:AJ}(X:K.In h)(G:h.Ns mainGlobals mg)(hfa:mg "law"=AA (.ref fx))(R:ybX (yc7 K (cnm t)) t.tbl)(B:ye0 K t=AB)(D:ybX (λp=>∀cl,GD K w mg cl p.1 p.2) t.dd)(Kb:ybX (KbP t) t.kb)(Ml:ybX (λp=>GDF K w mg (faA K t) p.1 p.2) t.ml)
  (O:t.tbl.all (okT t)=AB) (hT:∀i d,t.tbl[i]?=AA d->T i=AA d.fn) {L:Nat} {st:By} {N:List A4} {fn:IC.Fn} (hL:t.tbl[L]?=AA ⟨"law","law","law",st,N,["_law_script"],fn,.fn⟩) (lvl:Nat):
  ∃fd:BL,(∀(s:AK) (v:AH),Em s fd ⟨[v],[]⟩ [("_law_script",v)])/\∀base:BU,K.In base->base.Ns mainGlobals mg->ybj P w K mg base (CX1 P w) (2*lvl) fx fd ["_law_script"] (spX K (yc T lvl) L):=by
 have F:Fact t w K mg:=⟨λx u e=>by
  cases u with
  |none=>exact PySem.W.mg_none_of X G e
  |some v=>exact E8 X G e,R,B,D,Kb,Ml⟩
 have O':=BF.1 O;let⟨dv,fd,r1,r2,r3⟩:=zcd F O' hL;have r3:dv=.none:=r3;subst r3;have r2:BS K mainGlobals "law"=AA (AA (.ref (faA K t L)))/\ybf _:=r2;have e:=Value.ref.inj (A8 (hfa.symm.trans (E8 X G r2.1)));subst e;refine⟨fd,λs v=>?_,λbase _ _=>(zmi F O' hT lvl L _ _ fd hL r1).imp λ_ _ _ _ h=>h _⟩;let⟨oc,od,kV,doc,pm,an,cdv,ct,osl,rfl,_⟩:=r1.ex;exact .of_eq (r2.2 kV doc pm an cdv ct v)
end
end L2
namespace IC
open PySem
def yds:List (A4×Nat):=[(A2 "sum",51),(A2 "difference",52),(A2 "turned",53),(A2 "both",54),(A2 "any",55),(A2 "odd",56),(A2 "bare",57),(A2 "left",58),(A2 "right",59),(A2 "down",60),(A2 "roll",61),(A2 "product",62),(A2 "signed product",63),(A2 "quotient",64),(A2 "signed quotient",65)]
def yn:PV:=(.tp AB [(.int 0),(.int 1),(.int 0)])
def yes:PV:=(.tp AB [(.str "f"),(.tp AB [(.int 0),(.int 0),(.int 0),(.int 0)])])
def yhQ:PV:=(.tp AB [(.str "turned"),(.str "bare")])
def yet:PV:=(.tp AB [(.str "h"),(.tp AB [(.int 0),(.int 0),(.int 0),(.int 0)])])
def yb:PV:=(.tp AB [(.tp AB [(.str "m"),(.tp AB [(.int 0),(.int 0),(.int 0),(.int 0)])]),(.tp AB [(.str "m"),(.tp AB [(.int 1),(.int 0),(.int 0),(.int 0)])]),(.tp AB [(.str "m"),(.tp AB [(.int 2),(.int 0),(.int 0),(.int 0)])]),(.tp AB [(.str "m"),(.tp AB [(.int 3),(.int 0),(.int 0),(.int 0)])])])
def ybR:PV:=(.tp AB [(.str "z"),(.tp AB [(.int 0),(.int 0),(.int 0),(.int 0)])])
def yhu:PV:=(.tp AB [(.str "sum"),(.str "difference"),(.str "compare"),(.str "both"),(.str "any"),(.str "odd"),(.str "product"),(.str "signed product"),(.str "quotient"),(.str "signed quotient")])
def yhR:PV:=(.tp AB [(.str "both"),(.str "any"),(.str "odd")])
def ydC:PV:=(.tp AB [(.str "product"),(.str "signed product")])
def yz:PV:=(.tp AB [(.str "quotient"),(.str "signed quotient")])
def yeu:PV:=(.tp AB [(.str "g"),(.tp AB [(.int 0),(.int 0),(.int 0),(.int 0)])])
def yc2:PV:=(.tp AB [(.str "s"),(.tp AB [(.int 0),(.int 0),(.int 0),(.int 0)])])
def yc5:PV:=(.tp AB [(.str "left"),(.str "right"),(.str "down"),(.str "roll")])
def yf:PV:=(.tp AB [(.str "t"),(.tp AB [(.int 0),(.int 0),(.int 0),(.int 0)])])
def yhv:PV:=(.tp AB [(.str "plain"),(.str "signed")])
section yk
local macro_rules|`(#[$x,*])=>do
 let mut a←`(.e)
 for y in x.getElems.reverse do a←`(.k $y $a)
 pure a
def yhS:Fn:=⟨5,5,AB,#[.ret (.tup #[.v 0,.tup #[.v 1,.v 2,.v 3,.v 4]])]⟩
def yhT:Fn:=⟨1,1,AB,#[.ret (.call 0 (yS #[.v 0,.neg (.i 1)] (yt [.inr 0,.inr 0,.inl (.i 1)])))]⟩
def yhU:Fn:=⟨1,1,AB,#[.ret (.blt .tuple #[.comp [AD] (.n 0) (.seq (.v 0)) (.cst (.bl AB)) (.tup #[.s "row",.v 0])])]⟩
def yhV:Fn:=⟨3,3,AB,#[.ret (.tup #[.tup #[.s "rounds",.v 0,.v 1,.v 2]])]⟩
def yhW:Fn:=⟨5,5,AB,#[.ret (.tup #[.s "slice",.v 0,.tup #[.i 0,.i 0,.i 0,.i 0],.tup #[.v 1,.v 2,.v 3,.v 4]])]⟩
def yhX:Fn:=⟨6,6,AB,#[.ret (.tup #[.v 0,.tup #[.i 0,.v 2,.i 0,.v 3,.v 4,.v 5],.v 1])]⟩
def yhY:Fn:=⟨3,4,AB,#[.asg (.n 3) (.tup #[.call 5 (yS #[.i 1,.tup #[.call 4 (yS #[.v 1] (yt [.inr 0,.inl (.i 1),.inr 0,.inr 0]))]] (yt [.inr 0,.inr 0,.inr 0,.inr 0])),.call 5 (yS #[.neg (.i 1),.tup #[.call 4 (yS #[.v 0] (yt [.inr 0,.inl (.i 1),.inr 0,.inr 0]))]] (yt [.inr 0,.inr 0,.inr 0,.inr 0]))]),.ret (.call 3 #[.tup #[.v 2,.i 1,.i 0],.v 3,.call 2 #[.lst #[.tup #[.s "move",.call 0 (yS #[.v 0] (yt [.inr 0,.inl (.i 1),.inr 0,.inr 0])),.call 0 (yS #[.v 1] (yt [.inr 0,.inl (.i 1),.inr 0,.inr 0]))]]]])]⟩
def yhZ:Fn:=⟨2,2,AB,#[.ret (.call 3 #[.v 1,.tup .e,.call 2 #[.lst #[.tup #[.s "twice",.call 0 (yS #[.v 0] (yt [.inr 0,.inr 0,.inl (.i 1),.inr 0])),.call 0 (yS #[.v 0] (yt [.inr 0,.inr 0,.inl (.i 1),.inr 0]))]]]])]⟩
def yh0:Fn:=⟨1,1,AB,#[.ret (.tup #[.s "sum",.v 0,.cst ybR,.cst ybR])]⟩
def yh1:Fn:=⟨1,1,AB,#[.ret (.lst #[.tup #[.s "set",.v 0,.i 1],.tup #[.s "less",.v 0,.v 0,.cst ybR]])]⟩
def yh2:Fn:=⟨2,2,AB,#[.ret (.lst #[.tup #[.s "twice",.cst yf,.v 1],.tup #[.s "less",.v 0,.cst ybR,.cst ybR]])]⟩
def yh3:Fn:=⟨4,4,AB,#[.ret (.call 3 #[.v 3,.tup .e,.call 2 #[.lst #[.tup #[.s "odd",.cst yf,.v 1,.v 2],.tup #[.s "any",.v 0,.v 0,.cst yf]]]])]⟩
def yh4:Fn:=⟨3,4,AB,#[.asg (.n 3) (.tup #[.s "any",.cst yc2,.cst yc2,.call 0 (yS #[.v 0] (yt [.inr 0,.inl (.i 1),.inr 0,.inl (.v 1)]))]),.ret (.bin .add (.bin .add (.call 2 #[.lst #[.tup #[.s "set",.cst yc2,.i 0]]]) (.call 3 #[.v 2,.tup .e,.call 2 #[.lst #[.v 3]]])) (.call 2 #[.lst #[.tup #[.s "ask",.cst yc2]]]))]⟩
def yh5:Fn:=⟨2,3,AB,#[.asg (.n 2) (.lst #[.tup #[.s "twice",.cst yf,.call 0 (yS #[.s "c",.bin .sub (.v 0) (.i 1)] (yt [.inr 0,.inr 0,.inl (.v 1)]))],.call 8 #[.idx (.cst yb) (.i 3)]]),.ret (.bin .add (.call 12 #[.s "c",.i 0,.tup #[.v 0,.v 1,.i 0]]) (.call 2 #[.bin .add (.call 9 #[.idx (.cst yb) (.i 2)]) (.v 2)]))]⟩
def yh6:Fn:=⟨3,4,AB,#[.asg (.n 3) (.bin .add (.call 6 (yS #[.s "c",.s "a",.blt .min #[.v 2,.i 0]] (yt []))) (.call 15 #[.cst yes,.v 0,.call 1 #[.s "a"]])),.ite (.cmp .gt (.v 2) (.i 0)) #[.asg (.n 3) (.ite (.isi (.v 3) [.tuple]) (.bin .add (.v 3) (.call 16 #[.v 2])) .nope)] .e,.asg (.n 3) (.ite (.isi (.v 3) [.tuple]) (.bin .add (.v 3) (.bin .add (.call 15 #[.cst yeu,.v 1,.call 0 (yS #[.s "c",.bin .sub (.v 2) (.i 1)] (yt [.inr 0,.inr 0,.inl (.i 1)]))]) (.call 2 #[.lst #[.tup #[.s "odd",.cst yet,.cst yes,.cst yeu]]]))) .nope),.ite (.cmp .lt (.v 2) (.i 0)) #[.asg (.n 3) (.ite (.isi (.v 3) [.tuple]) (.bin .add (.v 3) (.call 17 #[.v 2])) .nope)] .e,.ret (.bin .add (.bin .add (.v 3) (.call 2 #[.lst #[.tup #[.s "ask",.cst yet],.call 8 #[.idx (.cst yb) (.i 1)]]])) (.call 13 #[.v 2,.i 1]))]⟩
def yh7:Fn:=⟨3,3,AB,#[.ret (.call 2 #[.ite (.cmp .eq (.v 1) (.s "signed")) (.call 10 #[.v 0,.v 2]) (.lst #[.tup #[.s "mark",.i 0],.tup #[.s "less",.v 0,.cst ybR,.cst ybR]])])]⟩
def yh8:Fn:=⟨1,2,AB,#[.asg (.n 1) (.tup #[.call 5 (yS #[.i 1,.tup #[.call 4 (yS #[.s "c"] (yt [.inr 0,.inl (.i 1),.inr 0,.inl (.i 1)]))]] (yt [.inr 0,.inr 0,.inr 0,.inr 0])),.call 5 (yS #[.neg (.i 1),.tup #[.call 4 (yS #[.s "a"] (yt [.inr 0,.inr 0,.inr 0,.inl (.i 1)]))]] (yt [.inr 0,.inr 0,.inr 0,.inr 0])),.call 5 (yS #[.neg (.i 1),.tup #[.tup #[.s "mark"]]] (yt [.inr 0,.inl (.i 1),.inr 0,.inl (.i 1)])),.call 5 (yS #[.i 1,.tup #[.tup #[.s "mark"]]] (yt [.inr 0,.inr 0,.inr 0,.inl (.i 1)]))]),.ret (.call 3 #[.tup #[.v 0,.i 0,.i 0],.v 1,.call 2 #[.lst #[.tup #[.s "move",.call 0 (yS #[.s "c"] (yt [.inr 0,.inl (.i 1),.inr 0,.inl (.i 1)])),.cst yes]]]])]⟩
def yh9:Fn:=⟨1,1,AB,#[.ret (.call 11 #[.cst yet,.call 0 (yS #[.s "a",.v 0] (yt [.inl (.i 1),.inr 0,.inl (.i 1)])),.cst yeu,.tup #[.neg (.v 0),.i 0,.i 0]])]⟩
def yia:Fn:=⟨3,3,AB,#[.ret (.and (.isi (.v 0) [.int]) (.and (.not (.isi (.v 0) [.bool])) (.chain .le .le (.v 1) (.v 0) (.v 2))))]⟩
def yib:Fn:=⟨1,1,AB,#[.ret (.bin .add (.bin .add (.call 23 #[.v 0,.tup #[.s "mark",.i 0],.call 7 #[.s "c",.cst yn]]) (.call 26 .e)) (.call 13 #[.i 0,.i 1]))]⟩
def yic:Fn:=⟨1,1,AB,#[.ret (.bin .add (.bin .add (.call 23 #[.v 0,.tup #[.s "mark",.i 0],.call 24 .e]) (.call 26 .e)) (.call 13 #[.i 0,.i 1]))]⟩
def yid:Fn:=⟨1,1,AB,#[.ret (.bin .add (.bin .add (.call 23 #[.v 0,.call 25 .e,.call 24 .e]) (.call 26 .e)) (.call 13 #[.i 0,.i 1]))]⟩
def yie:Fn:=⟨1,1,AB,#[.ret (.bin .add (.call 23 #[.v 0,.call 25 .e,.call 7 #[.s "c",.cst yn]]) (.call 13 #[.i 0,.i 1]))]⟩
def yif:Fn:=⟨3,3,AB,#[.ret (.bin .add (.call 6 (yS #[.s "c",.s "a"] (yt [.inr 0]))) (.call 3 #[.tup #[.v 0,.i 0,.i 0],.tup .e,.bin .add (.call 2 #[.lst #[.v 1]]) (.v 2)]))]⟩
def yig:Fn:=⟨0,1,AB,#[.asg (.n 0) (.call 0 (yS #[.s "c",.neg (.i 1)] (yt [.inr 0,.inl (.neg (.i 1)),.inl (.i 1)]))),.ret (.call 3 #[.cst yn,.tup .e,.call 2 #[.lst #[.tup #[.s "half",.v 0,.v 0]]]])]⟩
def yih:Fn:=⟨0,0,AB,#[.ret (.tup #[.s "twice",.cst yf,.call 1 #[.s "c"]])]⟩
def yii:Fn:=⟨0,0,AB,#[.ret (.call 2 #[.lst #[.call 8 #[.idx (.cst yb) (.i 0)]]])]⟩
def yij:Fn:=⟨0,3,AB,#[.asg (.n 0) (.tup #[.s "sum",.call 0 (yS #[.s "c"] (yt [.inr 0,.inl (.i 1),.inr 0,.inr 0])),.call 0 (yS #[.s "a"] (yt [.inr 0,.inl (.i 1),.inr 0,.inr 0])),.call 0 (yS #[.s "b"] (yt [.inr 0,.inl (.i 1),.inr 0,.inr 0]))]),.asg (.n 1) (.tup #[.call 5 (yS #[.i 1,.tup #[.call 4 (yS #[.s "a"] (yt [.inr 0,.inl (.i 1),.inr 0,.inr 0]))]] (yt [.inr 0,.inr 0,.inr 0,.inr 0])),.call 5 (yS #[.i 1,.tup #[.call 4 (yS #[.s "b"] (yt [.inr 0,.inl (.i 1),.inr 0,.inr 0]))]] (yt [.inr 0,.inr 0,.inr 0,.inr 0])),.call 5 (yS #[.neg (.i 1),.tup #[.call 4 (yS #[.s "c"] (yt [.inr 0,.inl (.i 1),.inr 0,.inr 0]))]] (yt [.inr 0,.inr 0,.inr 0,.inr 0])),.call 5 (yS #[.neg (.i 1),.tup #[.tup #[.s "mark"]]] (yt [.inr 0,.inl (.i 1),.inr 0,.inr 0]))]),.asg (.n 2) (.call 34 #[.call 1 #[.s "c"],.call 1 #[.s "a"],.call 1 #[.s "b"]]),.ret (.bin .add (.bin .add (.call 33 #[.v 0,.v 1]) (.v 2)) (.call 13 #[.i 0,.i 1]))]⟩
def y9:Fn:=⟨0,3,AB,#[.asg (.n 0) (.tup #[.s "less",.call 0 (yS #[.s "c"] (yt [.inr 0,.inl (.i 1),.inr 0,.inr 0])),.call 0 (yS #[.s "a"] (yt [.inr 0,.inl (.i 1),.inr 0,.inr 0])),.call 0 (yS #[.s "b"] (yt [.inr 0,.inl (.i 1),.inr 0,.inr 0]))]),.asg (.n 1) (.tup #[.call 5 (yS #[.i 1,.tup #[.call 4 (yS #[.s "a"] (yt [.inr 0,.inl (.i 1),.inr 0,.inr 0]))]] (yt [.inr 0,.inr 0,.inr 0,.inr 0])),.call 5 (yS #[.neg (.i 1),.tup #[.call 4 (yS #[.s "b"] (yt [.inr 0,.inl (.i 1),.inr 0,.inr 0]))]] (yt [.inr 0,.inr 0,.inr 0,.inr 0])),.call 5 (yS #[.neg (.i 1),.tup #[.call 4 (yS #[.s "c"] (yt [.inr 0,.inl (.i 1),.inr 0,.inr 0]))]] (yt [.inr 0,.inr 0,.inr 0,.inr 0])),.call 5 (yS #[.i 1,.tup #[.tup #[.s "mark"]]] (yt [.inr 0,.inl (.i 1),.inr 0,.inr 0]))]),.asg (.n 2) (.call 34 #[.call 1 #[.s "a"],.call 1 #[.s "b"],.call 1 #[.s "c"]]),.ret (.bin .add (.bin .add (.call 33 #[.v 0,.v 1]) (.v 2)) (.call 13 #[.i 0,.i 1]))]⟩
def yik:Fn:=⟨0,3,AB,#[.asg (.n 0) (.tup #[.s "less",.call 0 (yS #[.s "c"] (yt [.inr 0,.inl (.i 1),.inr 0,.inr 0])),.cst ybR,.call 0 (yS #[.s "a"] (yt [.inr 0,.inl (.i 1),.inr 0,.inr 0]))]),.asg (.n 1) (.tup #[.call 5 (yS #[.i 1,.tup #[.call 4 (yS #[.s "a"] (yt [.inr 0,.inl (.i 1),.inr 0,.inr 0]))]] (yt [.inr 0,.inr 0,.inr 0,.inr 0])),.call 5 (yS #[.i 1,.tup #[.call 4 (yS #[.s "c"] (yt [.inr 0,.inl (.i 1),.inr 0,.inr 0]))]] (yt [.inr 0,.inr 0,.inr 0,.inr 0])),.call 5 (yS #[.neg (.i 1),.tup #[.tup #[.s "mark"]]] (yt [.inr 0,.inl (.i 1),.inr 0,.inr 0]))]),.asg (.n 2) (.call 34 #[.cst ybR,.call 1 #[.s "a"],.call 1 #[.s "c"]]),.ret (.bin .add (.bin .add (.call 33 #[.v 0,.v 1]) (.v 2)) (.call 13 #[.i 0,.i 1]))]⟩
def yil:Fn:=⟨0,1,AB,#[.asg (.n 0) (.lst #[.tup #[.s "odd",.idx (.cst yb) (.i 1),.idx (.cst yb) (.i 1),.idx (.cst yb) (.i 3)],.tup #[.s "set",.idx (.cst yb) (.i 3),.i 0]]),.ret (.bin .add (.call 28 .e) (.call 2 #[.v 0]))]⟩
def yim:Fn:=⟨1,2,AB,#[.asg (.n 1) (.tup #[.v 0,.call 0 (yS #[.s "c"] (yt [.inr 0,.inl (.i 1),.inr 0,.inr 0])),.call 0 (yS #[.s "a"] (yt [.inr 0,.inl (.i 1),.inr 0,.inr 0])),.call 0 (yS #[.s "b"] (yt [.inr 0,.inl (.i 1),.inr 0,.inr 0]))]),.ret (.bin .add (.call 3 #[.cst yn,.tup .e,.call 2 #[.lst #[.v 1]]]) (.call 13 #[.i 0,.i 1]))]⟩
def yin:Fn:=⟨0,2,AB,#[.asg (.n 0) (.tup #[.call 5 (yS #[.i 1,.tup #[.call 4 (yS #[.s "a"] (yt [.inr 0,.inl (.i 1),.inr 0,.inr 0]))]] (yt [.inr 0,.inr 0,.inr 0,.inr 0])),.call 5 (yS #[.i 1,.tup #[.call 4 (yS #[.s "c"] (yt [.inr 0,.inl (.i 1),.inr 0,.inr 0]))]] (yt [.inr 0,.inr 0,.inr 0,.inr 0])),.call 5 (yS #[.neg (.i 1),.tup .e] (yt [.inr 0,.inl (.i 1),.inr 0,.inr 0])),.call 5 (yS #[.i 1,.tup .e] (yt [.inr 0,.inr 0,.inr 0,.inr 0]))]),.asg (.n 1) (.tup #[.s "bare",.call 0 (yS #[.s "c"] (yt [.inr 0,.inl (.i 1),.inr 0,.inr 0])),.call 0 (yS #[.s "a"] (yt [.inr 0,.inl (.i 1),.inr 0,.inr 0]))]),.ret (.bin .add (.call 3 #[.cst yn,.v 0,.call 2 #[.lst #[.v 1]]]) (.call 13 #[.i 0,.i 1]))]⟩
def yio:Fn:=⟨2,2,AB,#[.ret (.bin .add (.bin .add (.call 2 #[.lst #[.tup #[.s "mark",.i 0]]]) (.call 3 #[.cst yn,.v 1,.call 2 #[.lst #[.v 0]]])) (.call 2 #[.lst #[.call 8 #[.idx (.cst yb) (.i 0)]]]))]⟩
def yip:Fn:=⟨3,3,AB,#[.ret (.call 2 #[.lst #[.tup #[.s "odd",.cst yf,.v 0,.v 1],.tup #[.s "odd",.cst yc2,.v 0,.v 2],.tup #[.s "both",.cst yf,.cst yf,.cst yc2],.tup #[.s "twice",.cst yf,.cst yf],.call 8 #[.idx (.cst yb) (.i 1)]]])]⟩
def yhw:Fn:=⟨1,1,AB,#[.ite (.not (.call 36 #[.v 0])) #[.nope] .e,.ite (.cmp .eq (.idx (.v 0) (.i 0)) (.s "led")) #[.ret (.call 14 #[.idx (.v 0) (.i 1),.idx (.v 0) (.i 2),.idx (.v 0) (.i 3)])] .e,.ite (.cmp .isin (.idx (.v 0) (.i 0)) (.cst yc5)) #[.ret (.call 40 #[.idx (.v 0) (.i 0),.idx (.v 0) (.i 1)])] .e,.ite (.cmp .isin (.idx (.v 0) (.i 0)) (.cst yhR)) #[.ret (.call 31 #[.idx (.v 0) (.i 0)])] .e,.ret (.call 41 #[.idx (.v 0) (.i 0)])]⟩
def yhx:Fn:=⟨1,1,AB,#[.ite (.or (.not (.isi (.v 0) [.tuple])) (.cmp .eq (.blt .len #[.v 0]) (.i 0))) #[.nope] .e,.ite (.cmp .eq (.idx (.v 0) (.i 0)) (.s "led")) #[.ret (.and (.cmp .eq (.blt .len #[.v 0]) (.i 4)) (.and (.cmp .isin (.idx (.v 0) (.i 1)) (.cst yhv)) (.and (.cmp .isin (.idx (.v 0) (.i 2)) (.cst yhv)) (.call 18 #[.idx (.v 0) (.i 3),.neg (.i 3),.i 4]))))] .e,.ite (.cmp .isin (.idx (.v 0) (.i 0)) (.cst yc5)) #[.ret (.and (.cmp .eq (.blt .len #[.v 0]) (.i 2)) (.call 18 #[.idx (.v 0) (.i 1),.i 0,.i 100]))] .e,.ret (.and (.cmp .eq (.blt .len #[.v 0]) (.i 1)) (.or (.cmp .isin (.idx (.v 0) (.i 0)) (.cst yhu)) (.cmp .isin (.idx (.v 0) (.i 0)) (.cst yhQ))))]⟩
def yhy:Fn:=⟨1,1,AB,#[.ret (.cmp .isin (.idx (.v 0) (.i 0)) (.cst yhu))]⟩
def ym:Fn:=⟨2,2,AB,#[.ite (.cmp .eq (.idx (.v 0) (.i 0)) (.s "compare")) #[.nope] .e,.ite (.cmp .eq (.idx (.v 0) (.i 0)) (.s "led")) #[.ret (.bin .add (.v 1) (.idx (.v 0) (.i 3)))] .e,.ret (.ite (.cmp .isin (.idx (.v 0) (.i 0)) (.cst ydC)) (.bin .mul (.i 2) (.v 1)) (.v 1))]⟩
def yeH:Fn:=⟨2,2,AB,#[.ret (.ite (.cmp .isin (.idx (.v 0) (.i 0)) (.cst yz)) (.v 1) (.i 0))]⟩
def yiq:Fn:=⟨2,2,AB,#[.ite (.cmp .eq (.v 0) (.s "left")) #[.ret (.call 19 #[.v 1])] .e,.ite (.cmp .eq (.v 0) (.s "right")) #[.ret (.call 20 #[.v 1])] .e,.ite (.cmp .eq (.v 0) (.s "down")) #[.ret (.call 21 #[.v 1])] .e,.ret (.call 22 #[.v 1])]⟩
def yir:Fn:=⟨1,1,AB,#[.ite (.cmp .eq (.v 0) (.s "sum")) #[.ret (.call 27 .e)] .e,.ite (.cmp .eq (.v 0) (.s "difference")) #[.ret (.call 28 .e)] .e,.ite (.cmp .eq (.v 0) (.s "turned")) #[.ret (.call 29 .e)] .e,.ite (.cmp .eq (.v 0) (.s "compare")) #[.ret (.call 30 .e)] .e,.ite (.cmp .eq (.v 0) (.s "bare")) #[.ret (.call 32 .e)] .e,.nope,.nope,.nope,.nope]⟩
def yfb:Fn:=⟨3,3,AB,#[.ite (.or (.cmp .lt (.v 0) (.i 0)) (.cmp .ge (.v 0) (.bin .shl (.i 1) (.bin .mul (.v 1) (.v 2))))) #[.nope] .e,.ret (.call 44 #[.v 0,.v 1,.v 2])]⟩
def yfi:Fn:=⟨2,2,AB,#[.ret (.bin .shr (.idx (.v 0) (.neg (.i 1))) (.bin .sub (.v 1) (.i 1)))]⟩
def yY:Fn:=⟨3,4,AB,#[.asg (.n 3) (.bin .sub (.bin .shl (.i 1) (.v 1)) (.i 1)),.ret (.blt .tuple #[.comp [AD,AA 3,AA 0,AA 1] (.n 0) (.range1 (.v 2)) (.cst (.bl AB)) (.bin .band (.bin .shr (.v 2) (.bin .mul (.v 3) (.v 0))) (.v 1))])]⟩
def yaO:Fn:=⟨5,10,AB,#[.expr (.call 46 #[.v 0,.v 1,.v 2,.v 3,.v 4]),.ite (.cmp .eq (.idx (.v 0) (.i 0)) (.s "compare")) #[.ret (.tup #[.tup .e,.tup .e,.call 50 #[.v 3,.v 4,.bin .mul (.v 1) (.v 2)]])] .e,.asg (.t [5,6,7]) (.call 47 #[.v 0,.v 1,.v 2,.v 3,.v 4]),.asg (.n 8) (.call 44 #[.v 5,.v 1,.call 38 #[.v 0,.v 2]]),.asg (.n 9) (.call 44 #[.bin .sub (.v 3) (.bin .mul (.v 4) (.v 5)),.v 1,.call 39 #[.v 0,.v 2]]),.ret (.tup #[.v 8,.v 9,.tup #[.v 6,.v 7,.ite (.blt .any #[.v 8]) (.i 0) (.i 1),.call 43 #[.v 8,.v 1]]])]⟩
def yB:Fn:=⟨5,5,AB,#[.ite (.not (.call 36 #[.v 0])) #[.nope] .e,.expr (.call 42 #[.v 3,.v 1,.v 2]),.expr (.call 42 #[.v 4,.v 1,.v 2]),.ite (.and (.cmp .ne (.v 4) (.i 0)) (.not (.call 37 #[.v 0]))) #[.nope] .e,.ite (.and (.cmp .eq (.v 4) (.i 0)) (.cmp .isin (.idx (.v 0) (.i 0)) (.cst yz))) #[.nope] .e]⟩
def yX:Fn:=⟨5,6,AB,#[.ite (.cmp .eq (.idx (.v 0) (.i 0)) (.s "led")) #[.ret (.call 66 #[.v 0,.v 1,.v 2,.v 3])] .e,.mkr 5 yds (.idx (.v 0) (.i 0)) #[.v 3,.ite (.cmp .isin (.idx (.v 0) (.i 0)) (.cst yc5)) (.idx (.v 0) (.i 1)) (.v 4),.bin .mul (.v 1) (.v 2)]]⟩
def y2:Fn:=⟨2,2,AB,#[.ret (.bin .sub (.v 0) (.bin .shl (.bin .shr (.v 0) (.bin .sub (.v 1) (.i 1))) (.v 1)))]⟩
def yec:Fn:=⟨2,3,AB,#[.asg (.n 2) (.bin .shl (.i 1) (.bin .sub (.v 1) (.i 1))),.ret (.ite (.chain .le .lt (.neg (.v 2)) (.v 0) (.v 2)) (.i 0) (.i 1))]⟩
def yfk:Fn:=⟨3,3,AB,#[.ret (.tup #[.blt .int #[.cmp .lt (.v 0) (.v 1)],.blt .int #[.cmp .lt (.call 48 #[.v 0,.v 2]) (.call 48 #[.v 1,.v 2])],.blt .int #[.cmp .eq (.v 0) (.v 1)],.i 0])]⟩
def yfp:Fn:=⟨3,3,AB,#[.ret (.tup #[.bin .add (.v 0) (.v 1),.bin .shr (.bin .add (.v 0) (.v 1)) (.v 2),.call 49 #[.bin .add (.call 48 #[.v 0,.v 2]) (.call 48 #[.v 1,.v 2]),.v 2]])]⟩
def yfr:Fn:=⟨3,3,AB,#[.ret (.tup #[.bin .sub (.v 0) (.v 1),.blt .int #[.cmp .lt (.v 0) (.v 1)],.call 49 #[.bin .sub (.call 48 #[.v 0,.v 2]) (.call 48 #[.v 1,.v 2]),.v 2]])]⟩
def yfI:Fn:=⟨3,3,AB,#[.ret (.call 52 #[.i 0,.v 0,.v 2])]⟩
def yfP:Fn:=⟨3,3,AB,#[.ret (.tup #[.bin .band (.v 0) (.v 1),.i 0,.i 0])]⟩
def yfQ:Fn:=⟨3,3,AB,#[.ret (.tup #[.bin .bor (.v 0) (.v 1),.i 0,.i 0])]⟩
def yfX:Fn:=⟨3,3,AB,#[.ret (.tup #[.bin .bxor (.v 0) (.v 1),.i 0,.i 0])]⟩
def yf5:Fn:=⟨3,3,AB,#[.ret (.tup #[.bin .sub (.neg (.i 1)) (.v 0),.i 0,.i 0])]⟩
def yf7:Fn:=⟨3,3,AB,#[.ret (.tup #[.bin .shl (.v 0) (.v 1),.bin .band (.bin .shr (.bin .shl (.v 0) (.v 1)) (.v 2)) (.i 1),.i 0])]⟩
def y4:Fn:=⟨3,3,AB,#[.ret (.tup #[.bin .shr (.v 0) (.v 1),.bin .band (.bin .shr (.bin .mul (.i 2) (.v 0)) (.v 1)) (.i 1),.i 0])]⟩
def ygb:Fn:=⟨3,3,AB,#[.ret (.call 59 #[.call 48 #[.v 0,.v 2],.v 1,.v 2])]⟩
def ygc:Fn:=⟨3,4,AB,#[.asg (.n 3) (.bin .mod (.v 1) (.v 2)),.ret (.tup #[.bin .bor (.bin .shl (.v 0) (.v 3)) (.bin .shr (.v 0) (.bin .sub (.v 2) (.v 3))),.i 0,.i 0])]⟩
def yis:Fn:=⟨3,3,AB,#[.ret (.tup #[.bin .mul (.v 0) (.v 1),.i 0,.ite (.cmp .eq (.bin .shr (.bin .mul (.v 0) (.v 1)) (.v 2)) (.i 0)) (.i 0) (.i 1)])]⟩
def yit:Fn:=⟨3,4,AB,#[.asg (.n 3) (.bin .mul (.call 48 #[.v 0,.v 2]) (.call 48 #[.v 1,.v 2])),.ret (.tup #[.v 3,.i 0,.call 49 #[.v 3,.v 2]])]⟩
def yiu:Fn:=⟨3,3,AB,#[.ret (.tup #[.bin .fdiv (.v 0) (.v 1),.i 0,.i 0])]⟩
def yiv:Fn:=⟨3,6,AB,#[.asg (.t [3,4]) (.tup #[.call 48 #[.v 0,.v 2],.call 48 #[.v 1,.v 2]]),.asg (.n 5) (.bin .fdiv (.blt .abs #[.v 3]) (.blt .abs #[.v 4])),.ite (.cmp .ne (.cmp .lt (.v 3) (.i 0)) (.cmp .lt (.v 4) (.i 0))) #[.asg (.n 5) (.neg (.v 5))] .e,.ret (.tup #[.v 5,.i 0,.call 49 #[.v 5,.v 2]])]⟩
def yc9:Fn:=⟨4,6,AB,#[.asg (.n 4) (.ite (.cmp .eq (.idx (.v 0) (.i 1)) (.s "signed")) (.call 48 #[.v 3,.bin .mul (.v 1) (.v 2)]) (.v 3)),.asg (.n 5) (.bin .mul (.v 1) (.call 38 #[.v 0,.v 2])),.ite (.cmp .eq (.idx (.v 0) (.i 2)) (.s "signed")) #[.ret (.tup #[.v 4,.i 0,.call 49 #[.v 4,.v 5]])] .e,.ret (.tup #[.v 4,.i 0,.ite (.cmp .eq (.bin .shr (.v 4) (.v 5)) (.i 0)) (.i 0) (.i 1)])]⟩
def ygh:Fn:=⟨1,1,AC,#[.ret (.newl #[.slc (.v 0) (.cst .non) (.i 63),.i 0,.i 0,.cst (.bl AC)])]⟩
def yaD:Fn:=⟨1,8,AB,#[.asg (.n 1) (.tup #[.i 2147483647,.i 2147483629,.i 2147483587,.i 2147483579,.i 2147483563]),.asg (.n 2) (.i 0),.for (.t [3,4]) (.enum (.v 1)) #[.asg (.n 5) (.bin .add (.v 0) (.idx (.tup #[.i 11,.i 101,.i 1009,.i 10007,.i 100003]) (.v 3))),.asg (.n 5) (.bin .mod (.bin .mul (.v 5) (.bin .add (.i 48271) (.bin .mul (.i 2) (.v 3)))) (.v 4)),.asg (.n 6) (.bin .mod (.bin .mul (.v 5) (.v 5)) (.v 4)),.asg (.n 7) (.bin .mod (.bin .mul (.bin .mod (.bin .mul (.v 6) (.v 6)) (.v 4)) (.v 5)) (.v 4)),.asg (.n 2) (.bin .add (.bin .mul (.v 2) (.v 4)) (.v 7))],.ret (.v 2)]⟩
def yaj:Fn:=⟨1,4,AC,#[.asg (.t [1,2]) (.tup #[.idx (.v 0) (.i 0),.idx (.v 0) (.i 1)]),.asg (.n 3) (.bin .add (.bin .mul (.i 31) (.v 2)) (.i 7)),.ite (.cmp .gt (.blt .len #[.v 1]) (.i 0)) #[.asg (.n 3) (.bin .mul (.i 104729) (.bin .fdiv (.v 2) (.blt .len #[.v 1]))),.asg (.n 3) (.bin .add (.v 3) (.idx (.v 1) (.bin .mod (.v 2) (.blt .len #[.v 1]))))] .e,.six (.v 0) (.i 1) (.bin .add (.v 2) (.i 1)),.six (.v 0) (.i 3) (.or (.cmp .ge (.v 2) (.blt .len #[.v 1])) (.cmp .lt (.v 3) (.bin .pow (.i 10) (.i 18)))),.ite (.idx (.v 0) (.i 3)) #[.six (.v 0) (.i 2) (.call 68 #[.v 3])] #[.six (.v 0) (.i 2) (.bin .sub (.v 3) (.bin .pow (.i 10) (.i 18)))]]⟩
def yae:Fn:=⟨2,4,AC,#[.asg (.n 2) (.i 0),.while (.and (.cmp .lt (.v 2) (.i 64)) (.or (.cmp .eq (.idx (.v 0) (.i 2)) (.i 0)) (.and (.idx (.v 0) (.i 3)) (.cmp .lt (.idx (.v 0) (.i 2)) (.bin .mul (.v 1) (.i 4096)))))) #[.expr (.call 69 #[.v 0]),.aug 2 .add (.i 1),.ite (.and (.idx (.v 0) (.i 3)) (.cmp .lt (.idx (.v 0) (.i 2)) (.bin .mul (.v 1) (.i 4096)))) #[.six (.v 0) (.i 2) (.bin .add (.idx (.v 0) (.i 2)) (.bin .mul (.bin .mul (.v 1) (.i 4096)) (.bin .add (.i 1) (.bin .mod (.idx (.v 0) (.i 2)) (.i 4093)))))] .e],.asg (.n 3) (.bin .mod (.idx (.v 0) (.i 2)) (.v 1)),.six (.v 0) (.i 2) (.bin .fdiv (.idx (.v 0) (.i 2)) (.v 1)),.ret (.v 3)]⟩
def ygj:Fn:=⟨2,2,AC,#[.ret (.tup #[.bin .add (.i 4) (.call 70 #[.v 0,.i 13]),.bin .add (.i 1) (.call 70 #[.v 0,.v 1])])]⟩
def yaa:Fn:=⟨3,13,AC,#[.asg (.n 3) (.call 70 #[.v 0,.i 12]),.asg (.n 4) (.i 1),.for (.n 5) (.range1 (.bin .mul (.v 1) (.v 2))) #[.asg (.n 4) (.bin .mul (.i 2) (.v 4))],.asg (.n 6) (.tup #[.i 0,.i 1,.bin .sub (.v 4) (.i 1),.bin .fdiv (.v 4) (.i 2),.bin .sub (.bin .fdiv (.v 4) (.i 2)) (.i 1),.bin .sub (.v 4) (.i 2)]),.ite (.cmp .lt (.v 3) (.i 6)) #[.ret (.idx (.v 6) (.v 3))] .e,.asg (.n 7) (.call 70 #[.v 0,.v 4]),.ite (.cmp .eq (.v 3) (.i 6)) #[.asg (.n 8) (.i 1),.for (.n 5) (.range1 (.call 70 #[.v 0,.bin .mul (.v 1) (.v 2)])) #[.asg (.n 8) (.bin .mul (.i 2) (.v 8))],.ret (.bin .mul (.bin .fdiv (.v 7) (.v 8)) (.v 8))] .e,.ite (.cmp .eq (.v 3) (.i 7)) #[.asg (.n 8) (.i 1),.for (.n 5) (.range1 (.call 70 #[.v 0,.bin .mul (.v 1) (.v 2)])) #[.asg (.n 8) (.bin .mul (.i 2) (.v 8))],.ret (.bin .sub (.v 4) (.v 8))] .e,.ite (.cmp .gt (.v 3) (.i 9)) #[.ret (.v 7)] .e,.asg (.n 9) (.i 1),.for (.n 5) (.range1 (.v 1)) #[.asg (.n 9) (.bin .mul (.i 2) (.v 9))],.asg (.n 10) (.i 0),.for (.n 5) (.range1 (.v 2)) #[.asg (.n 11) (.bin .mod (.bin .fdiv (.v 7) (.bin .add (.v 5) (.i 1))) (.v 9)),.asg (.n 12) (.tup #[.i 0,.i 1,.bin .sub (.v 9) (.i 1),.bin .fdiv (.v 9) (.i 2),.v 11]),.asg (.n 10) (.bin .add (.bin .mul (.v 10) (.v 9)) (.idx (.v 12) (.call 70 #[.v 0,.i 5])))],.ret (.v 10)]⟩
def ygm:Fn:=⟨1,3,AB,#[.asg (.n 1) (.i 1),.for (.n 2) (.range1 (.v 0)) #[.asg (.n 1) (.bin .mul (.i 2) (.v 1))],.ret (.v 1)]⟩
def ygC:Fn:=⟨3,6,AB,#[.asg (.n 3) (.call 73 #[.v 1]),.asg (.n 4) (.newl .e),.for (.n 5) (.range1 (.v 2)) #[.expr (.mth .append (.v 4) #[.bin .mod (.v 0) (.v 3)]),.asg (.n 0) (.bin .fdiv (.v 0) (.v 3))],.ret (.blt .tuple #[.v 4])]⟩
def yiw:Fn:=⟨1,1,AB,#[.ret (.and (.isi (.v 0) [.int]) (.not (.isi (.v 0) [.bool])))]⟩
def yix:Fn:=⟨3,3,AB,#[.ite (.or (.not (.isi (.v 0) [.tuple])) (.cmp .ne (.blt .len #[.v 0]) (.v 1))) #[.nope] .e,.ret (.blt .all #[.comp [AD,AA 2] (.n 0) (.seq (.v 0)) (.cst (.bl AB)) (.and (.call 75 #[.v 0]) (.chain .le .le (.bin .sub (.i 0) (.v 1)) (.v 0) (.v 1)))])]⟩
def yiy:Fn:=⟨1,1,AB,#[.ret (.and (.isi (.v 0) [.str]) (.and (.cmp .eq (.blt .len #[.v 0]) (.i 1)) (.cmp .isin (.v 0) (.s "abcdefghijklmnopqrstuvwxyz"))))]⟩
def yiz:Fn:=⟨1,1,AB,#[.ret (.and (.isi (.v 0) [.tuple]) (.and (.cmp .eq (.blt .len #[.v 0]) (.i 2)) (.and (.call 77 #[.idx (.v 0) (.i 0)]) (.call 76 #[.idx (.v 0) (.i 1),.i 4,.i 200]))))]⟩
def yiA:Fn:=⟨1,2,AB,#[.ite (.or (.not (.isi (.v 0) [.tuple])) (.or (.cmp .lt (.blt .len #[.v 0]) (.i 2)) (.not (.isi (.idx (.v 0) (.i 0)) [.str])))) #[.ret (.cst (.bl AC))] .e,.ite (.cmp .eq (.idx (.v 0) (.i 0)) (.s "mark")) #[.ret (.and (.cmp .eq (.blt .len #[.v 0]) (.i 2)) (.and (.call 75 #[.idx (.v 0) (.i 1)]) (.cmp .isin (.idx (.v 0) (.i 1)) (.tup #[.i 0,.i 1]))))] .e,.ite (.cmp .eq (.idx (.v 0) (.i 0)) (.s "ask")) #[.ret (.and (.cmp .eq (.blt .len #[.v 0]) (.i 2)) (.call 78 #[.idx (.v 0) (.i 1)]))] .e,.ite (.cmp .eq (.idx (.v 0) (.i 0)) (.s "set")) #[.ret (.and (.cmp .eq (.blt .len #[.v 0]) (.i 3)) (.and (.call 78 #[.idx (.v 0) (.i 1)]) (.and (.call 75 #[.idx (.v 0) (.i 2)]) (.cmp .isin (.idx (.v 0) (.i 2)) (.tup #[.i 0,.i 1])))))] .e,.asg (.n 1) (.newd [("move",3),("bare",3),("twice",3),("half",3),("sum",4),("less",4),("both",4),("any",4),("odd",4)]),.dput (.v 1) (.s "times") (.i 5),.ite (.or (.cmp .ne (.mth .get (.v 1) #[.idx (.v 0) (.i 0),.i 0]) (.blt .len #[.v 0])) (.not (.blt .all #[.comp [AD] (.n 0) (.seq (.slc (.v 0) (.i 1) (.cst .non))) (.cst (.bl AB)) (.call 78 #[.v 0])]))) #[.ret (.cst (.bl AC))] .e,.ret (.or (.cmp .ne (.idx (.v 0) (.i 0)) (.s "times")) (.cmp .ne (.idx (.v 0) (.i 1)) (.idx (.v 0) (.i 2))))]⟩
def yiB:Fn:=⟨1,1,AB,#[.ite (.cmp .eq (.v 0) (.tup #[.s "mark"])) #[.ret (.cst (.bl AB))] .e,.ite (.or (.not (.isi (.v 0) [.tuple])) (.or (.cmp .ne (.blt .len #[.v 0]) (.i 4)) (.or (.cmp .ne (.idx (.v 0) (.i 0)) (.s "slice")) (.not (.call 77 #[.idx (.v 0) (.i 1)]))))) #[.ret (.cst (.bl AC))] .e,.ret (.and (.call 76 #[.idx (.v 0) (.i 2),.i 4,.i 200]) (.call 76 #[.idx (.v 0) (.i 3),.i 4,.i 200]))]⟩
def yiC:Fn:=⟨1,2,AB,#[.ite (.or (.not (.isi (.v 0) [.tuple])) (.cmp .gt (.blt .len #[.v 0]) (.i 20))) #[.ret (.cst (.bl AC))] .e,.for (.n 1) (.seq (.v 0)) #[.ite (.or (.not (.isi (.v 1) [.tuple])) (.or (.cmp .ne (.blt .len #[.v 1]) (.i 3)) (.not (.call 76 #[.idx (.v 1) (.i 1),.i 6,.i 200])))) #[.ret (.cst (.bl AC))] .e,.ite (.or (.not (.call 75 #[.idx (.v 1) (.i 0)])) (.or (.cmp .ge (.blt .abs #[.idx (.v 1) (.i 0)]) (.bin .pow (.i 10) (.i 40))) (.not (.isi (.idx (.v 1) (.i 2)) [.tuple])))) #[.ret (.cst (.bl AC))] .e,.ite (.or (.cmp .gt (.blt .len #[.idx (.v 1) (.i 2)]) (.i 2)) (.not (.blt .all #[.comp [AD] (.n 0) (.seq (.idx (.v 1) (.i 2))) (.cst (.bl AB)) (.call 80 #[.v 0])]))) #[.ret (.cst (.bl AC))] .e],.ret (.cst (.bl AB))]⟩
def yiD:Fn:=⟨2,2,AB,#[.ite (.or (.not (.isi (.v 0) [.tuple])) (.cmp .lt (.blt .len #[.v 0]) (.i 2))) #[.ret (.cst (.bl AC))] .e,.ite (.cmp .eq (.idx (.v 0) (.i 0)) (.s "row")) #[.ret (.and (.cmp .eq (.blt .len #[.v 0]) (.i 2)) (.call 79 #[.idx (.v 0) (.i 1)]))] .e,.ite (.or (.cmp .ne (.idx (.v 0) (.i 0)) (.s "rounds")) (.or (.cmp .ne (.blt .len #[.v 0]) (.i 4)) (.or (.cmp .gt (.v 1) (.i 1)) (.not (.call 76 #[.idx (.v 0) (.i 1),.i 3,.i 200]))))) #[.ret (.cst (.bl AC))] .e,.ite (.or (.not (.call 81 #[.idx (.v 0) (.i 2)])) (.not (.isi (.idx (.v 0) (.i 3)) [.tuple]))) #[.ret (.cst (.bl AC))] .e,.ret (.blt .all #[.comp [AD,AA 1] (.n 0) (.seq (.idx (.v 0) (.i 3))) (.cst (.bl AB)) (.call 82 #[.v 0,.bin .add (.v 1) (.i 1)])])]⟩
def yhz:Fn:=⟨1,1,AB,#[.ret (.and (.isi (.v 0) [.tuple]) (.blt .all #[.comp [AD] (.n 0) (.seq (.v 0)) (.cst (.bl AB)) (.call 82 #[.v 0,.i 0])]))]⟩
def ygJ:Fn:=⟨4,4,AB,#[.ret (.bin .add (.bin .add (.bin .add (.idx (.v 0) (.i 0)) (.bin .mul (.idx (.v 0) (.i 1)) (.v 1))) (.bin .mul (.idx (.v 0) (.i 2)) (.v 2))) (.bin .mul (.idx (.v 0) (.i 3)) (.v 3)))]⟩
def yQ:Fn:=⟨4,6,AB,#[.asg (.n 4) (.newl #[.idx (.v 0) (.i 0)]),.for (.n 5) (.seq (.slc (.v 0) (.i 1) (.cst .non))) #[.ite (.isi (.v 5) [.tuple]) #[.expr (.mth .append (.v 4) #[.tup #[.idx (.v 5) (.i 0),.call 84 #[.idx (.v 5) (.i 1),.v 1,.v 2,.v 3]]])] #[.expr (.mth .append (.v 4) #[.v 5])]],.ret (.blt .tuple #[.v 4])]⟩
def yv:Fn:=⟨4,5,AC,#[.asg (.n 4) (.mth .get (.v 0) #[.idx (.v 2) (.i 2),.i 0]),.ite (.cmp .eq (.idx (.v 2) (.i 0)) (.s "move")) #[.dput (.v 0) (.idx (.v 2) (.i 1)) (.v 4)] .e,.ite (.cmp .eq (.idx (.v 2) (.i 0)) (.s "bare")) #[.dput (.v 0) (.idx (.v 2) (.i 1)) (.bin .sub (.bin .sub (.v 3) (.i 1)) (.v 4))] .e,.ite (.cmp .eq (.idx (.v 2) (.i 0)) (.s "twice")) #[.dput (.v 0) (.idx (.v 2) (.i 1)) (.bin .mod (.bin .add (.bin .mul (.i 2) (.v 4)) (.v 1)) (.v 3)),.ret (.bin .fdiv (.bin .add (.bin .mul (.i 2) (.v 4)) (.v 1)) (.v 3))] .e,.ite (.cmp .eq (.idx (.v 2) (.i 0)) (.s "half")) #[.dput (.v 0) (.idx (.v 2) (.i 1)) (.bin .add (.bin .fdiv (.v 4) (.i 2)) (.bin .mul (.v 1) (.bin .fdiv (.v 3) (.i 2)))),.ret (.bin .mod (.v 4) (.i 2))] .e,.ret (.v 1)]⟩
def ya:Fn:=⟨4,7,AC,#[.ite (.cmp .eq (.idx (.v 2) (.i 0)) (.s "mark")) #[.ret (.idx (.v 2) (.i 1))] .e,.ite (.cmp .eq (.idx (.v 2) (.i 0)) (.s "ask")) #[.ret (.blt .int #[.cmp .ne (.mth .get (.v 0) #[.idx (.v 2) (.i 1),.i 0]) (.i 0)])] .e,.ite (.cmp .eq (.idx (.v 2) (.i 0)) (.s "set")) #[.dput (.v 0) (.idx (.v 2) (.i 1)) (.idx (.v 2) (.i 2)),.ret (.v 1)] .e,.ite (.cmp .eq (.blt .len #[.v 2]) (.i 3)) #[.ret (.call 86 #[.v 0,.v 1,.v 2,.v 3])] .e,.ite (.cmp .eq (.idx (.v 2) (.i 0)) (.s "times")) #[.asg (.n 4) (.bin .mul (.mth .get (.v 0) #[.idx (.v 2) (.i 3),.i 0]) (.mth .get (.v 0) #[.idx (.v 2) (.i 4),.i 0])),.dput (.v 0) (.idx (.v 2) (.i 1)) (.bin .mod (.v 4) (.v 3)),.dput (.v 0) (.idx (.v 2) (.i 2)) (.bin .fdiv (.v 4) (.v 3)),.ret (.v 1)] .e,.asg (.n 5) (.mth .get (.v 0) #[.idx (.v 2) (.i 2),.i 0]),.asg (.n 6) (.mth .get (.v 0) #[.idx (.v 2) (.i 3),.i 0]),.ite (.cmp .eq (.idx (.v 2) (.i 0)) (.s "sum")) #[.dput (.v 0) (.idx (.v 2) (.i 1)) (.bin .mod (.bin .add (.bin .add (.v 5) (.v 6)) (.v 1)) (.v 3)),.ret (.bin .fdiv (.bin .add (.bin .add (.v 5) (.v 6)) (.v 1)) (.v 3))] .e,.ite (.cmp .eq (.idx (.v 2) (.i 0)) (.s "less")) #[.dput (.v 0) (.idx (.v 2) (.i 1)) (.bin .mod (.bin .sub (.bin .sub (.v 5) (.v 6)) (.v 1)) (.v 3)),.ret (.blt .int #[.cmp .lt (.bin .sub (.bin .sub (.v 5) (.v 6)) (.v 1)) (.i 0)])] .e,.ite (.cmp .eq (.idx (.v 2) (.i 0)) (.s "both")) #[.dput (.v 0) (.idx (.v 2) (.i 1)) (.bin .band (.v 5) (.v 6))] .e,.ite (.cmp .eq (.idx (.v 2) (.i 0)) (.s "any")) #[.dput (.v 0) (.idx (.v 2) (.i 1)) (.bin .bor (.v 5) (.v 6))] .e,.ite (.cmp .eq (.idx (.v 2) (.i 0)) (.s "odd")) #[.dput (.v 0) (.idx (.v 2) (.i 1)) (.bin .bxor (.v 5) (.v 6))] .e,.ret (.v 1)]⟩
def ygK:Fn:=⟨3,3,AB,#[.ret (.bin .add (.bin .add (.idx (.v 0) (.i 0)) (.bin .mul (.idx (.v 0) (.i 1)) (.v 2))) (.bin .mul (.bin .mul (.idx (.v 0) (.i 2)) (.v 1)) (.v 2)))]⟩
def yL:Fn:=⟨4,11,AB,#[.asg (.n 4) (.newl .e),.asg (.n 5) (.i 0),.for (.n 6) (.seq (.v 0)) #[.ite (.cmp .eq (.idx (.v 6) (.i 0)) (.s "row")) #[.expr (.mth .append (.v 4) #[.call 85 #[.idx (.v 6) (.i 1),.i 0,.i 0,.v 2]])] #[.for (.n 7) (.range1 (.blt .min #[.call 88 #[.idx (.v 6) (.i 1),.v 1,.v 2],.i 4001])) #[.aug 5 .add (.i 1),.for (.n 8) (.seq (.idx (.v 6) (.i 3))) #[.ite (.cmp .eq (.idx (.v 8) (.i 0)) (.s "row")) #[.expr (.mth .append (.v 4) #[.call 85 #[.idx (.v 8) (.i 1),.v 7,.i 0,.v 2]])] #[.ite (.and (.cmp .le (.v 5) (.i 4000)) (.cmp .le (.blt .len #[.v 4]) (.v 3))) #[.asg (.n 9) (.blt .min #[.blt .max #[.i 0,.call 88 #[.idx (.v 8) (.i 1),.v 1,.v 2]],.i 4001]),.aug 5 .add (.v 9),.for (.n 10) (.range1 (.v 9)) #[.ite (.and (.cmp .le (.v 5) (.i 4000)) (.cmp .le (.blt .len #[.v 4]) (.v 3))) #[.expr (.mth .extend (.v 4) #[.comp [AD,AA 7,AA 10,AA 2] (.n 0) (.seq (.idx (.v 8) (.i 3))) (.cst (.bl AB)) (.call 85 #[.idx (.v 0) (.i 1),.v 1,.v 2,.v 3])])] .e]] .e]],.ite (.or (.cmp .gt (.v 5) (.i 4000)) (.cmp .gt (.blt .len #[.v 4]) (.v 3))) #[.ret (.cst .non)] .e]]],.ite (.cmp .gt (.blt .len #[.v 4]) (.v 3)) #[.ret (.cst .non)] .e,.ret (.frz (.v 4))]⟩
def yg:Fn:=⟨1,3,AB,#[.for (.n 1) (.seq (.v 0)) #[.for (.n 2) (.seq (.slc (.v 1) (.i 1) (.cst .non))) #[.ite (.and (.isi (.v 2) [.tuple]) (.not (.chain .le .le (.i 0) (.idx (.v 2) (.i 1)) (.i 99)))) #[.ret (.cst (.bl AC))] .e],.ite (.and (.cmp .eq (.idx (.v 1) (.i 0)) (.s "times")) (.or (.cmp .eq (.idx (.v 1) (.i 1)) (.idx (.v 1) (.i 2))) (.cmp .isin (.idx (.idx (.v 1) (.i 2)) (.i 0)) (.s "ab")))) #[.ret (.cst (.bl AC))] .e,.ite (.and (.cmp .notin (.idx (.v 1) (.i 0)) (.tup #[.s "mark",.s "ask"])) (.cmp .isin (.idx (.idx (.v 1) (.i 1)) (.i 0)) (.s "ab"))) #[.ret (.cst (.bl AC))] .e],.ret (.cst (.bl AB))]⟩
def ygM:Fn:=⟨4,7,AC,#[.asg (.n 4) (.dict0 AB),.for (.t [5,6]) (.enum (.call 74 #[.v 2,.v 0,.v 1])) #[.dput (.v 4) (.tup #[.s "a",.v 5]) (.v 6)],.for (.t [5,6]) (.enum (.call 74 #[.v 3,.v 0,.v 1])) #[.dput (.v 4) (.tup #[.s "b",.v 5]) (.v 6)],.ret (.v 4)]⟩
def ybc:Fn:=⟨5,10,AC,#[.ite (.not (.call 83 #[.v 0])) #[.nope] .e,.asg (.n 5) (.call 89 #[.v 0,.v 1,.v 2,.i 4000]),.ite (.or (.cmp .is (.v 5) (.cst .non)) (.not (.call 90 #[.v 5]))) #[.nope] .e,.asg (.n 6) (.call 91 #[.v 1,.v 2,.v 3,.v 4]),.asg (.n 7) (.call 73 #[.v 1]),.asg (.n 8) (.i 0),.for (.n 9) (.seq (.v 5)) #[.asg (.n 8) (.call 87 #[.v 6,.v 8,.v 9,.v 7])],.ret (.v 6)]⟩
def ygY:Fn:=⟨4,7,AC,#[.asg (.n 4) (.call 73 #[.v 3]),.asg (.n 5) (.i 0),.for (.n 6) (.rangeD (.bin .sub (.v 2) (.i 1)) (.neg (.i 1))) #[.asg (.n 5) (.bin .add (.bin .mul (.v 5) (.v 4)) (.mth .get (.v 0) #[.tup #[.v 1,.v 6],.i 0]))],.ret (.v 5)]⟩
def yhb:Fn:=⟨1,1,AC,#[.ret (.blt .tuple #[.comp [AD,AA 0] (.n 0) (.range1 (.i 4)) (.cst (.bl AB)) (.mth .get (.v 1) #[.tup #[.s "m",.v 0],.i 0])])]⟩
def yW:Fn:=⟨1,5,AC,#[.asg (.n 1) (.call 70 #[.v 0,.i 14]),.asg (.n 2) (.call 70 #[.v 0,.i 21]),.asg (.n 3) (.bin .sub (.call 70 #[.v 0,.i 8]) (.i 3)),.asg (.n 4) (.call 70 #[.v 0,.i 4]),.ite (.cmp .lt (.v 1) (.i 8)) #[.ret (.tup #[.tup #[.idx (.tup #[.s "sum",.s "difference",.s "turned",.s "compare",.s "both",.s "any",.s "odd",.s "bare"]) (.v 1)],.i 0])] .e,.ite (.cmp .lt (.v 1) (.i 12)) #[.ret (.tup #[.tup #[.idx (.tup #[.s "left",.s "right",.s "down",.s "roll"]) (.bin .sub (.v 1) (.i 8)),.v 2],.i 0])] .e,.ret (.tup #[.tup #[.s "led",.idx (.tup #[.s "plain",.s "signed"]) (.bin .mod (.v 4) (.i 2)),.idx (.tup #[.s "plain",.s "signed"]) (.bin .fdiv (.v 4) (.i 2)),.v 3],.v 3])]⟩
def yaC:Fn:=⟨6,11,AB,#[.asg (.n 6) (.call 92 #[.v 0,.v 2,.v 3,.v 4,.v 5]),.ite (.cmp .is (.v 6) (.cst .non)) #[.nope] .e,.asg (.t [7,8,9]) (.call 45 #[.v 1,.v 2,.v 3,.v 4,.v 5]),.asg (.n 10) (.call 74 #[.call 93 #[.v 6,.s "c",.blt .len #[.v 7],.v 2],.v 2,.blt .len #[.v 7]]),.ret (.and (.cmp .eq (.v 10) (.v 7)) (.cmp .eq (.call 94 #[.v 6]) (.v 9)))]⟩
def ybg:Fn:=⟨1,10,AB,#[.asg (.n 1) (.call 67 #[.v 0]),.asg (.t [2,3]) (.call 95 #[.v 1]),.asg (.n 4) (.call 35 #[.v 2]),.ite (.not (.call 83 #[.v 4])) #[.nope] .e,.for (.n 5) (.range1 (.i 3)) #[.asg (.t [6,7]) (.call 71 #[.v 1,.i 4]),.asg (.n 7) (.blt .max #[.v 7,.bin .sub (.i 1) (.v 3)]),.asg (.n 8) (.call 72 #[.v 1,.v 6,.v 7]),.asg (.n 9) (.call 72 #[.v 1,.v 6,.v 7]),.ite (.cmp .notin (.idx (.v 2) (.i 0)) (.tup #[.s "sum",.s "difference",.s "compare",.s "both",.s "any",.s "odd"])) #[.asg (.n 9) (.i 0)] .e,.ite (.not (.call 96 #[.v 4,.v 2,.v 6,.v 7,.v 8,.v 9])) #[.nope] .e],.ret (.cmp .eq (.call 35 #[.v 2]) (.v 4))]⟩
end yk
def Tl:List Fn:=[yhS,yhT,yhU,yhV,yhW,yhX,yhY,yhZ,yh0,yh1,yh2,yh3,yh4,yh5,yh6,yh7,yh8,yh9,yia,yib,yic,yid,yie,yif,yig,yih,yii,yij,y9,yik,yil,yim,yin,yio,yip,yhw,yhx,yhy,ym,yeH,yiq,yir,yfb,yfi,yY,yaO,yB,yX,y2,yec,yfk,yfp,yfr,yfI,yfP,yfQ,yfX,yf5,yf7,y4,ygb,ygc,yis,yit,yiu,yiv,yc9,ygh,yaD,yaj,yae,ygj,yaa,ygm,ygC,yiw,yix,yiy,yiz,yiA,yiB,yiC,yiD,yhz,ygJ,yQ,yv,ya,ygK,yL,yg,ygM,ybc,ygY,yhb,yW,yaC,ybg]
def T(i:Nat):Option Fn:=Tl[i]?
abbrev yhc:Nat:=35
abbrev yhg:Nat:=36
abbrev yhA:Nat:=37
abbrev yi:Nat:=38
abbrev yhB:Nat:=39
abbrev yhp:Nat:=42
abbrev yek:Nat:=43
abbrev yk:Nat:=44
abbrev ydr:Nat:=45
abbrev y6:Nat:=46
abbrev yl:Nat:=47
abbrev y7:Nat:=48
abbrev yhq:Nat:=49
abbrev yhC:Nat:=50
abbrev yiE:Nat:=51
abbrev yiF:Nat:=52
abbrev yiG:Nat:=53
abbrev yiH:Nat:=54
abbrev yiI:Nat:=55
abbrev yiJ:Nat:=56
abbrev yiK:Nat:=57
abbrev yhD:Nat:=58
abbrev yhE:Nat:=59
abbrev yiL:Nat:=60
abbrev yhF:Nat:=61
abbrev yhG:Nat:=66
abbrev yhH:Nat:=67
abbrev yhI:Nat:=68
abbrev yiM:Nat:=69
abbrev yhJ:Nat:=70
abbrev yhK:Nat:=71
abbrev yhr:Nat:=72
abbrev yhL:Nat:=73
abbrev yhM:Nat:=74
abbrev yA:Nat:=83
abbrev yiN:Nat:=84
abbrev yhN:Nat:=85
abbrev yiS:Nat:=86
abbrev yiO:Nat:=87
abbrev yiP:Nat:=88
abbrev yT:Nat:=89
abbrev y8:Nat:=90
abbrev yhO:Nat:=91
abbrev yhs:Nat:=92
abbrev yiQ:Nat:=93
abbrev yiR:Nat:=94
abbrev yhP:Nat:=95
abbrev yy:Nat:=96
abbrev yht:Nat:=97
end IC
namespace WK
open PySem L2 IC
def top(i:Nat):Stmt:=EG.main.body.getD i (.Pass ⟨0,0,0,0⟩)
def tbQ:Tb where
 tbl:=[⟨"word","word","word",top 11,["letter","c","i","j","m"],["letter","c","i","j","m"],yhS,.fd [0,0,0,0]⟩,⟨"last_word","last_word","last_word",top 12,["letter"],["letter"],yhT,.fn⟩,⟨"rows","rows","rows",top 13,["told"],["told"],yhU,.fn⟩,⟨"rounds","rounds","rounds",top 14,["count","sentence","inner"],["count","sentence","inner"],yhV,.fn⟩,⟨"lowest","lowest","lowest",top 15,["letter","c","i","j","m"],["letter","c","i","j","m"],yhW,.fd [0,0,0,0]⟩,⟨"term","term","term",top 16,["f","things","i","p","q","r"],["f","things","i","p","q","r"],yhX,.fd [0,0,0,0]⟩,⟨"moved","moved","moved",top 17,["to","source","c","sentence"],["to","source","c"],yhY,.fd [0]⟩,⟨"doubled","doubled","doubled",top 18,["letter","count"],["letter","count"],yhZ,.fn⟩,⟨"kept_mark","kept_mark","kept_mark",top 19,["to"],["to"],yh0,.fn⟩,⟨"kept_contrary","kept_contrary","kept_contrary",top 20,["to"],["to"],yh1,.fn⟩,⟨"sign_filled","sign_filled","sign_filled",top 21,["to","last"],["to","last"],yh2,.fn⟩,⟨"gathered_unlike","gathered_unlike","gathered_unlike",top 22,["to","here","fill","count"],["to","here","fill","count"],yh3,.fn⟩,⟨"asked_words","asked_words","asked_words",top 23,["letter","m","count","gathered"],["letter","m","count"],yh4,.fn⟩,⟨"answer_marks","answer_marks","answer_marks",top 24,["c","m","sign"],["c","m"],yh5,.fn⟩,⟨"led_telling","led_telling","led_telling",top 29,["read","meant","e","told"],["read","meant","e"],yh6,.fn⟩,⟨"filled","filled","filled",top 30,["to","way","last"],["to","way","last"],yh7,.fn⟩,⟨"widened","widened","widened",top 31,["e","sentence"],["e"],yh8,.fn⟩,⟨"dropped","dropped","dropped",top 32,["e"],["e"],yh9,.fn⟩,⟨"is_whole","is_whole","is_whole",top 53,["thing","low","high"],["thing","low","high"],yia,.fn⟩,⟨"left_telling","left_telling","left_telling",top 55,["s"],["s"],yib,.fn⟩,⟨"right_telling","right_telling","right_telling",top 56,["s"],["s"],yic,.fn⟩,⟨"down_telling","down_telling","down_telling",top 57,["s"],["s"],yid,.fn⟩,⟨"roll_telling","roll_telling","roll_telling",top 58,["s"],["s"],yie,.fn⟩,⟨"shifted","shifted","shifted",top 59,["s","ahead","by_one"],["s","ahead","by_one"],yif,.fn⟩,⟨"halved","halved","halved",top 60,["here"],[],yig,.fn⟩,⟨"highest_two","highest_two","highest_two",top 61,[],[],yih,.fn⟩,⟨"left_behind","left_behind","left_behind",top 62,[],[],yii,.fn⟩,⟨"sum_telling","sum_telling","sum_telling",top 83,["added","sentence","lone"],[],yij,.fn⟩,⟨"difference_telling","difference_telling","difference_telling",top 84,["taken","sentence","lone"],[],y9,.fn⟩,⟨"turned_telling","turned_telling","turned_telling",top 85,["taken","sentence","lone"],[],yik,.fn⟩,⟨"compare_telling","compare_telling","compare_telling",top 86,["below"],[],yil,.fn⟩,⟨"pairwise_telling","pairwise_telling","pairwise_telling",top 87,["name","paired"],["name"],yim,.fn⟩,⟨"bare_telling","bare_telling","bare_telling",top 88,["sentence","bared"],[],yin,.fn⟩,⟨"carried","carried","carried",top 89,["row","sentence"],["row","sentence"],yio,.fn⟩,⟨"lone_sign","lone_sign","lone_sign",top 90,["lone","one","other"],["lone","one","other"],yip,.fn⟩,⟨"telling","telling","telling",top 99,["deed"],["deed"],yhw,.fn⟩,⟨"is_deed","is_deed","is_deed",top 100,["thing"],["thing"],yhx,.fn⟩,⟨"is_paired","is_paired","is_paired",top 101,["deed"],["deed"],yhy,.fn⟩,⟨"answer_words","answer_words","answer_words",top 102,["deed","n"],["deed","n"],ym,.fn⟩,⟨"rest_words","rest_words","rest_words",top 103,["deed","n"],["deed","n"],yeH,.fn⟩,⟨"shift_telling","shift_telling","shift_telling",top 104,["name","s"],["name","s"],yiq,.fn⟩,⟨"named_telling","named_telling","named_telling",top 105,["name"],["name"],yir,.fn⟩,⟨"words_of","words_of","words_of",top 107,["worth","w","n"],["worth","w","n"],yfb,.fn⟩,⟨"sign_of","sign_of","sign_of",top 108,["number","w"],["number","w"],yfi,.fn⟩,⟨"lowest_words","lowest_words","lowest_words",top 109,["worth","w","n","highest"],["worth","w","n"],yY,.fn⟩,⟨"comes","comes","comes",top 111,["deed","w","n","x","y","worth","first","second","answer","rest"],["deed","w","n","x","y"],yaO,.fn⟩,⟨"refuse_deed","refuse_deed","refuse_deed",top 112,["deed","w","n","x","y"],["deed","w","n","x","y"],yB,.fn⟩,⟨"reckoned","reckoned","reckoned",top 113,["deed","w","n","x","y","reckon"],["deed","w","n","x","y"],yX,.fn⟩,⟨"signed_worth","signed_worth","signed_worth",top 114,["x","k"],["x","k"],y2,.fn⟩,⟨"unfit","unfit","unfit",top 115,["worth","k","half"],["worth","k"],yec,.fn⟩,⟨"compared","compared","compared",top 116,["x","y","k"],["x","y","k"],yfk,.fn⟩,⟨"summed","summed","summed",top 117,["x","y","k"],["x","y","k"],yfp,.fn⟩,⟨"taken_away","taken_away","taken_away",top 118,["x","y","k"],["x","y","k"],yfr,.fn⟩,⟨"turned","turned","turned",top 119,["x","y","k"],["x","y","k"],yfI,.fn⟩,⟨"in_both","in_both","in_both",top 120,["x","y","k"],["x","y","k"],yfP,.fn⟩,⟨"in_any","in_any","in_any",top 121,["x","y","k"],["x","y","k"],yfQ,.fn⟩,⟨"in_one","in_one","in_one",top 122,["x","y","k"],["x","y","k"],yfX,.fn⟩,⟨"bared","bared","bared",top 123,["x","y","k"],["x","y","k"],yf5,.fn⟩,⟨"moved_left","moved_left","moved_left",top 124,["x","s","k"],["x","s","k"],yf7,.fn⟩,⟨"moved_right","moved_right","moved_right",top 125,["x","s","k"],["x","s","k"],y4,.fn⟩,⟨"moved_down","moved_down","moved_down",top 126,["x","s","k"],["x","s","k"],ygb,.fn⟩,⟨"rolled","rolled","rolled",top 127,["x","s","k","places"],["x","s","k"],ygc,.fn⟩,⟨"multiplied","multiplied","multiplied",top 128,["x","y","k"],["x","y","k"],yis,.fn⟩,⟨"signed_multiplied","signed_multiplied","signed_multiplied",top 130,["x","y","k","worth"],["x","y","k"],yit,.fn⟩,⟨"divided","divided","divided",top 131,["x","y","k"],["x","y","k"],yiu,.fn⟩,⟨"signed_divided","signed_divided","signed_divided",top 133,["x","y","k","above","below","worth"],["x","y","k"],yiv,.fn⟩,⟨"led","led","led",top 134,["deed","w","n","x","worth","places"],["deed","w","n","x"],yc9,.fn⟩,⟨"_law_fresh","_law_fresh","_law_fresh",top 137,["_law_script"],["_law_script"],ygh,.fn⟩,⟨"_law_mixed","_law_mixed","_law_mixed",top 138,["_law_seed","_law_primes","_law_number","_law_k","_law_prime","_law_far","_law_square","_law_power"],["_law_seed"],yaD,.fn⟩,⟨"_law_fill","_law_fill","_law_fill",top 139,["_law_state","_law_cells","_law_at_here","_law_seed"],["_law_state"],yaj,.fn⟩,⟨"_law_take","_law_take","_law_take",top 140,["_law_state","_law_many","_law_turns","_law_digit"],["_law_state","_law_many"],yae,.fn⟩,⟨"_law_sizes","_law_sizes","_law_sizes",top 141,["_law_state","_law_most"],["_law_state","_law_most"],ygj,.fn⟩,⟨"_law_worth","_law_worth","_law_worth",top 142,["_law_state","_law_w","_law_n","_law_way","_law_top","_law_k","_law_edges","_law_any_one","_law_low","_law_wide","_law_worth_here","_law_some","_law_words_here"],["_law_state","_law_w","_law_n"],yaa,.fn⟩,⟨"_law_two_to","_law_two_to","_law_two_to",top 143,["_law_many","_law_found","_law_k"],["_law_many"],ygm,.fn⟩,⟨"_law_words","_law_words","_law_words",top 144,["_law_worth_here","_law_w","_law_n","_law_wide","_law_words_here","_law_k"],["_law_worth_here","_law_w","_law_n"],ygC,.fn⟩,⟨"_law_whole","_law_whole","_law_whole",top 145,["_law_thing_here"],["_law_thing_here"],yiw,.fn⟩,⟨"_law_wholes","_law_wholes","_law_wholes",top 146,["_law_thing_here","_law_many","_law_most"],["_law_thing_here","_law_many","_law_most"],yix,.fn⟩,⟨"_law_letter","_law_letter","_law_letter",top 147,["_law_thing_here"],["_law_thing_here"],yiy,.fn⟩,⟨"_law_index_cell","_law_index_cell","_law_index_cell",top 148,["_law_thing_here"],["_law_thing_here"],yiz,.fn⟩,⟨"_law_telling_row","_law_telling_row","_law_telling_row",top 149,["_law_row","_law_lengths"],["_law_row"],yiA,.fn⟩,⟨"_law_thing","_law_thing","_law_thing",top 150,["_law_thing_here"],["_law_thing_here"],yiB,.fn⟩,⟨"_law_is_sentence","_law_is_sentence","_law_is_sentence",top 151,["_law_told","_law_term"],["_law_told"],yiC,.fn⟩,⟨"_law_part","_law_part","_law_part",top 152,["_law_part_here","_law_deep"],["_law_part_here","_law_deep"],yiD,.fn⟩,⟨"_law_is_telling","_law_is_telling","_law_is_telling",top 153,["_law_told"],["_law_told"],yhz,.fn⟩,⟨"_law_at","_law_at","_law_at",top 154,["_law_index","_law_i","_law_j","_law_n"],["_law_index","_law_i","_law_j","_law_n"],ygJ,.fn⟩,⟨"_law_plain_row","_law_plain_row","_law_plain_row",top 155,["_law_row","_law_i","_law_j","_law_n","_law_told","_law_part_here"],["_law_row","_law_i","_law_j","_law_n"],yQ,.fn⟩,⟨"_law_one_done","_law_one_done","_law_one_done",top 156,["_law_cells","_law_mark","_law_row","_law_wide","_law_x"],["_law_cells","_law_mark","_law_row","_law_wide"],yv,.fn⟩,⟨"_law_done","_law_done","_law_done",top 157,["_law_cells","_law_mark","_law_row","_law_wide","_law_both","_law_x","_law_y"],["_law_cells","_law_mark","_law_row","_law_wide"],ya,.fn⟩,⟨"_law_count","_law_count","_law_count",top 158,["_law_count_here","_law_w","_law_n"],["_law_count_here","_law_w","_law_n"],ygK,.fn⟩,⟨"_law_unrolled","_law_unrolled","_law_unrolled",top 159,["_law_told","_law_w","_law_n","_law_most","_law_rows","_law_rounds","_law_part_here","_law_i","_law_inner","_law_many","_law_j"],["_law_told","_law_w","_law_n","_law_most"],yL,.fn⟩,⟨"_law_rows_right","_law_rows_right","_law_rows_right",top 160,["_law_rows","_law_row","_law_part_here"],["_law_rows"],yg,.fn⟩,⟨"_law_begun","_law_begun","_law_begun",top 161,["_law_w","_law_n","_law_x","_law_y","_law_cells","_law_k","_law_word"],["_law_w","_law_n","_law_x","_law_y"],ygM,.fn⟩,⟨"_law_run","_law_run","_law_run",top 162,["_law_told","_law_w","_law_n","_law_x","_law_y","_law_rows","_law_cells","_law_wide","_law_mark","_law_row"],["_law_told","_law_w","_law_n","_law_x","_law_y"],ybc,.fn⟩,⟨"_law_read","_law_read","_law_read",top 163,["_law_cells","_law_letter_here","_law_many","_law_w","_law_wide","_law_worth_here","_law_k"],["_law_cells","_law_letter_here","_law_many","_law_w"],ygY,.fn⟩,⟨"_law_marks","_law_marks","_law_marks",top 164,["_law_cells"],["_law_cells"],yhb,.fn⟩,⟨"_law_some_deed","_law_some_deed","_law_some_deed",top 165,["_law_state","_law_way","_law_s","_law_e","_law_kinds"],["_law_state"],yW,.fn⟩,⟨"_law_come_so","_law_come_so","_law_come_so",top 166,["_law_told","_law_deed","_law_w","_law_n","_law_x","_law_y","_law_cells","_law_answer","_law_rest","_law_marks_here","_law_found"],["_law_told","_law_deed","_law_w","_law_n","_law_x","_law_y"],yaC,.fn⟩,⟨"law","law","law",top 167,["_law_script","_law_state","_law_deed","_law_more","_law_told","_law_turn","_law_w","_law_n","_law_x","_law_y"],["_law_script"],ybg,.fn⟩]
 al:=[eD "word" 0,eF "last_word" 1,eF "rows" 2,eF "rounds" 3,eD "lowest" 4,eD "term" 5,eD "moved" 6,eF "doubled" 7,eF "kept_mark" 8,eF "kept_contrary" 9,eF "sign_filled" 10,eF "gathered_unlike" 11,eF "asked_words" 12,eF "answer_marks" 13,eF "led_telling" 14,eF "filled" 15,eF "widened" 16,eF "dropped" 17,eF "is_whole" 18,eF "left_telling" 19,eF "right_telling" 20,eF "down_telling" 21,eF "roll_telling" 22,eF "shifted" 23,eF "halved" 24,eF "highest_two" 25,eF "left_behind" 26,eF "sum_telling" 27,eF "difference_telling" 28,eF "turned_telling" 29,eF "compare_telling" 30,eF "pairwise_telling" 31,eF "bare_telling" 32,eF "carried" 33,eF "lone_sign" 34,eF "telling" 35,eF "is_deed" 36,eF "is_paired" 37,eF "answer_words" 38,eF "rest_words" 39,eF "shift_telling" 40,eF "named_telling" 41,eF "words_of" 42,eF "sign_of" 43,eF "lowest_words" 44,eF "comes" 45,eF "refuse_deed" 46,eF "reckoned" 47,eF "signed_worth" 48,eF "unfit" 49,eF "compared" 50,eF "summed" 51,eF "taken_away" 52,eF "turned" 53,eF "in_both" 54,eF "in_any" 55,eF "in_one" 56,eF "bared" 57,eF "moved_left" 58,eF "moved_right" 59,eF "moved_down" 60,eF "rolled" 61,eF "multiplied" 62,eF "signed_multiplied" 63,eF "divided" 64,eF "signed_divided" 65,eF "led" 66,eF "_law_fresh" 67,eF "_law_mixed" 68,eF "_law_fill" 69,eF "_law_take" 70,eF "_law_sizes" 71,eF "_law_worth" 72,eF "_law_two_to" 73,eF "_law_words" 74,eF "_law_whole" 75,eF "_law_wholes" 76,eF "_law_letter" 77,eF "_law_index_cell" 78,eF "_law_telling_row" 79,eF "_law_thing" 80,eF "_law_is_sentence" 81,eF "_law_part" 82,eF "_law_is_telling" 83,eF "_law_at" 84,eF "_law_plain_row" 85,eF "_law_one_done" 86,eF "_law_done" 87,eF "_law_count" 88,eF "_law_unrolled" 89,eF "_law_rows_right" 90,eF "_law_begun" 91,eF "_law_run" 92,eF "_law_read" 93,eF "_law_marks" 94,eF "_law_some_deed" 95,eF "_law_come_so" 96,eF "law" 97,eF "divided_worths" 64,eF "multiplied_worths" 62,eC "EACH_WORD" yn,eC "FILL_led" yes,eC "LONE" yhQ,eC "LOST_led" yet,eC "MARKS" yb,eC "NIL" ybR,eC "PAIRED" yhu,eC "PAIRWISE" yhR,eC "PRODUCTS" ydC,eC "QUOTIENTS" yz,eC "REFILL" yeu,eC "SEEN" yc2,eC "SHIFTS" yc5,eC "SPARE" yf,eC "WAYS" yhv]
 bs:=["abs","all","any","bool","enumerate","int","isinstance","len","max","min","range","str","tuple"]
 ts:=[.bool,.int,.str,.tuple]
 fl:=[]
 me:=[]
 kb:=[eK 0 1 ["i"] [AA 0,AD,AA 0,AA 0],eK 0 1 ["i","m"] [AA 0,AD,AA 0,AD],eK 0 1 ["j"] [AA 0,AA 0,AD,AA 0],eK 0 2 ["i","m"] [AD,AA 0,AD],eK 0 2 ["j","m"] [AA 0,AD,AD],eK 0 2 ["m"] [AA 0,AA 0,AD],eK 4 1 ["i"] [AA 0,AD,AA 0,AA 0],eK 4 1 ["i","m"] [AA 0,AD,AA 0,AD],eK 4 1 ["m"] [AA 0,AA 0,AA 0,AD],eK 5 2 [] [AA 0,AA 0,AA 0,AA 0],eK 5 2 ["p"] [AA 0,AD,AA 0,AA 0],eK 5 2 ["p","r"] [AA 0,AD,AA 0,AD],eK 5 2 ["r"] [AA 0,AA 0,AA 0,AD],eK 6 2 [] [AA 0],eK 6 3 [] []]
 cn:=[]
 dd:=[]
 ml:=[eL "RECKONED" yds]
 xs:=[]
 xc:=[]
 xm:=[]
 qh:=[]
theorem ok_all:tbQ.tbl.all (okT tbQ)=true:=by decide +kernel
theorem T_ok:∀i d,tbQ.tbl[i]?=AA d->T i=AA d.fn:=λi d h=>by
 have e:Tl=tbQ.tbl.map (·.fn):=rfl;rw[T,e,Bu,h];rfl
theorem kb_all:ybX (KbP tbQ) tbQ.kb:=by
 repeat' (first|exact trivial|(refine⟨kbP rfl rfl rfl rfl rfl ⋯ ?_,?_⟩;((repeat intro _);exact⟨_,rfl,rfl⟩)))
end WK
namespace IC
open PySem
def yaY(call:Cl)(t:Tg)(b:Css)(xs:List PV)(ρ:Env)(st:SO):Fl:=forL t (λρ2 st2=>exs call ρ2 st2 b) xs ρ st
def ya2(call:Cl)(c:Ce)(b:Css)(n:Nat)(ρ:Env)(st:SO):Fl:=yau (λρ2 st2=>ev call ρ2 st2 c) (λρ2 st2=>exs call ρ2 st2 b) n ρ st
def ycA(call:Cl)(ρ0:Env)(t:Tg)(c e:Ce)(x:PV)(st2:SO):R (Option PV):=match yP t x ρ0 with
 |none=>.bad
 |some ρ1=>(ev call ρ1 st2 c).bind λb st3=>onO (yaR st3 b) λk=>cond k ((ev call ρ1 st3 e).bind λy st4=>.ok (AA y) st4) (.ok AD st3)
def ya4(call:Cl)(ρ0:Env)(t:Tg)(c e:Ce)(xs:List PV)(st:SO):R (List PV):=ya1 (ycA call ρ0 t c e) xs st
def yaB(f:Fl)(k:Env->SO->Fl):Fl:=
 match f with
 |.nx ρ st=>k ρ st
 |f=>f
def nxO(o:Option Env)(st:SO):Fl:=
 match o with
 |some ρ=>.nx ρ st
 |none=>.bad
def stO(ρ:Env)(o:Option SO):Fl:=
 match o with
 |some st=>.nx ρ st
 |none=>.bad
section
variable {call:Cl}{ρ:Env}{st:SO}
theorem x_for{t:Tg}{it:Cit}{b:Css}:ex call ρ st (.for t it b)=(evi call ρ st it).fl ρ λxs st1=>yaY call t b xs ρ st1:=rfl
def zmA{c:Ce}{b:Css}:ex call ρ st (.while c b)=ya2 call c b 100000 ρ st:=rfl
theorem v_comp{sl:List (Option Nat)}{t:Tg}{it:Cit}{c e:Ce}:ev call ρ st (.comp sl t it c e)=(evi call ρ st it).bind λxs st1=>yb3 (ya4 call (sl.map λo=>o.bind λj=>(ρ[j]?).join) t c e xs st1):=rfl
def zx{t:Tg}{b:Css}:yaY call t b [] ρ st=.nx ρ st:=rfl
def zk{t:Tg}{b:Css}{x:PV}{xs:List PV}{ρ1:Env}(h:yP t x ρ=AA ρ1):yaY call t b (x::xs) ρ st=yax (exs call ρ1 st b) λρ2 st2=>yaY call t b xs ρ2 st2:=by
 rw[yaY,forL,h];rfl
def zbB{t:Tg}{b:Css}(P:Nat->Env->SO->Prop):∀(xs:List PV) (i:Nat) (ρ:Env) (st:SO),P i ρ st ->
  (∀(j:Nat) (x:PV) (ρ:Env) (st:SO),xs[j]?=AA x->P (i+j) ρ st->∃ρ1 ρ2 st2,yP t x ρ=AA ρ1/\exs call ρ1 st b=.nx ρ2 st2/\P (i+j+1) ρ2 st2) ->
  ∃ρ' st',yaY call t b xs ρ st=.nx ρ' st'/\P (i+xs.length) ρ' st'
 |[],i,ρ,st,h,_=>⟨ρ,st,zx,h⟩
 |x::xs,i,ρ,st,h,k=>by
  let⟨ρ1,ρ2,st2,e1,e2,h2⟩:=k 0 x ρ st rfl h;let⟨ρ',st',e3,h3⟩:=zbB P xs (i+1) ρ2 st2 h2 λj y ρ st hy hp=>by
   have:=k (j+1) y ρ st (by simpa using hy) (by rw[show i+(j+1)=i+1+j by lia];exact hp);rw[show i+(j+1)+1=i+1+j+1 by lia]at this;exact this
  refine⟨ρ',st',?_,by rw[AL,show i+(xs.length+1)=i+1+xs.length by lia];exact h3⟩;rw[zk e1,e2];exact e3
def ziF{c:Ce}{b:Css}{n:Nat}{x:PV}{st1 st2:SO}{ρ2:Env}(h:ev call ρ st c=.ok x st1)(ht:yaR st1 x=AA AB)(hb:exs call ρ st1 b=.nx ρ2 st2):ya2 call c b (n+1) ρ st=ya2 call c b n ρ2 st2:=by
 rw[ya2,yau,h];erw[R.fl,ht,onF,cond_true,hb,yax];rfl
def zgg{c:Ce}{b:Css}{n:Nat}{x:PV}{st1:SO}(h:ev call ρ st c=.ok x st1)(ht:yaR st1 x=AA AC):ya2 call c b (n+1) ρ st=.nx ρ st1:=by
 rw[ya2,yau,h];erw[R.fl,ht,onF,cond_false]
def zfo{ρ0:Env}{t:Tg}{c e:Ce}:ya4 call ρ0 t c e [] st=.ok [] st:=rfl
def zdu{ρ0:Env}{t:Tg}{c e:Ce}{x:PV}{xs:List PV}:ya4 call ρ0 t c e (x::xs) st=(ycA call ρ0 t c e x st).bind λo st1=>(ya4 call ρ0 t c e xs st1).bind λys st2=>.ok (yb5 o ys) st2:=rfl
def zcJ{ρ0:Env}{t:Tg}{c e:Ce}{f:PV->PV}:∀(xs:List PV),(∀x∈xs,ycA call ρ0 t c e x st=.ok (AA (f x)) st)->ya4 call ρ0 t c e xs st=.ok (xs.map f) st
 |[],_=>zfo
 |x::xs,h=>by
  rw[zdu,h x Ao];erw[R.bind];rw[zcJ xs λy hy=>h y (A7 _ hy)];rfl
theorem xs_nil:exs call ρ st .nil=.nx ρ st:=rfl
theorem xs_cons{s:Cs}{ss:Css}:exs call ρ st (.cons s ss)=yaB (ex call ρ st s) λρ1 st1=>exs call ρ1 st1 ss:=rfl
theorem x_asg{t:Tg}{e:Ce}:ex call ρ st (.asg t e)=(ev call ρ st e).fl ρ λv st1=>nxO (yP t v ρ) st1:=rfl
theorem x_expr{e:Ce}:ex call ρ st (.expr e)=(ev call ρ st e).fl ρ λ_ st1=>.nx ρ st1:=rfl
theorem x_ret{e:Ce}:ex call ρ st (.ret e)=(ev call ρ st e).fl ρ λv st1=>.rt v st1:=rfl
theorem x_ite{c:Ce}{a b:Css}:ex call ρ st (.ite c a b)=(ev call ρ st c).fl ρ λx st1=>onF (yaR st1 x) λk=>cond k (exs call ρ st1 a) (exs call ρ st1 b):=rfl
theorem x_six{o i e:Ce}:ex call ρ st (.six o i e)=(ev call ρ st e).fl ρ λv st1=>(ev call ρ st1 o).fl ρ λx st2=>(ev call ρ st2 i).fl ρ λy st3=>stO ρ (ybz st3 x y v):=rfl
def yeP(o:Option Nat)(k:Nat->Fl):Fl:=match o with
 |some j=>k j
 |none=>.bad
def zof{i:Nat}{D:List (A4×Nat)}{n:Ce}{es:Ces}:ex call ρ st (.mkr i D n es)=(ev call ρ st n).fl ρ λx st1=>yeP (mkV D (decide (i<ρ.length)) x) λj=>((evs call (ρ.set i AD) st1 es).bind λvs st2=>call j vs st2).fl (ρ.set i AD) λv st3=>.rt v st3:=rfl
def zI{o i e:Ce}:ex call ρ st (.dput o i e)=(ev call ρ st e).fl ρ λv st1=>(ev call ρ st1 o).fl ρ λx st2=>(ev call ρ st2 i).fl ρ λy st3=>stO ρ (ybD st3 x y v):=rfl
def zp1{i:Nat}{o:BOp}{e:Ce}{x:PV}(h:ρ[i]?=AA (AA x)):ex call ρ st (.aug i o e)=(ev call ρ st e).fl ρ λy st1=>nxO ((ybV o x y).map λz=>ρ.set i (AA z)) st1:=by
 rw[ex,h];show (ev call ρ st e).fl ρ _=_;refine congrArg _ (funext λy=>funext λst1=>?_)
 cases ybV o x y<;>rfl
end
theorem ve1(call:Nat->List PV->SO->R PV)(ρ:Env)(st:SO)(v:PV):
  ev call ρ st (Ce.cst v)=R.ok v st:=rfl
theorem ve2(call:Nat->List PV->SO->R PV)(ρ:Env)(st:SO)(i:Nat):
  ev call ρ st (Ce.var i) =
  match ρ[i]? with
  |some (AA v)=>R.ok v st
  |x=>R.bad:=rfl
theorem ve3(call:Nat->List PV->SO->R PV)(ρ:Env)(st:SO)(o:BOp)(a b:Ce):
  ev call ρ st (Ce.bin o a b)=R.bind (ev call ρ st a) λx st1=>R.bind (ev call ρ st1 b) λy st2=>toR (yC o x y) st2:=rfl
theorem ve4(call:Nat->List PV->SO->R PV)(ρ:Env)(st:SO)(a:Ce):
  ev call ρ st (Ce.neg a) =
  R.bind (ev call ρ st a) λx st1=>
   match x with
   |PV.int i=>R.ok (PV.int (-i)) st1
   |x=>R.bad:=rfl
theorem ve5(call:Nat->List PV->SO->R PV)(ρ:Env)(st:SO)(a:Ce):
  ev call ρ st (Ce.not a)=R.bind (ev call ρ st a) λx st1=>onBl x λk=>R.ok (PV.bl !k) st1:=rfl
theorem ve6(call:Nat->List PV->SO->R PV)(ρ:Env)(st:SO)(a b:Ce):
  ev call ρ st (Ce.and a b)=R.bind (ev call ρ st a) λx st1=>onBl x λk=>bif k then ev call ρ st1 b else R.ok (PV.bl AC) st1:=rfl
theorem ve7(call:Nat->List PV->SO->R PV)(ρ:Env)(st:SO)(a b:Ce):
  ev call ρ st (Ce.or a b)=R.bind (ev call ρ st a) λx st1=>onBl x λk=>bif k then R.ok (PV.bl AB) st1 else ev call ρ st1 b:=rfl
theorem ve8(call:Nat->List PV->SO->R PV)(ρ:Env)(st:SO)(o:COp)(a b:Ce):
  ev call ρ st (Ce.cmp o a b)=R.bind (ev call ρ st a) λx st1=>R.bind (ev call ρ st1 b) λy st2=>toR (ye o x y) st2:=rfl
theorem ve9(call:Nat->List PV->SO->R PV)(ρ:Env)(st:SO)(o p:COp)(a b c:Ce):
  ev call ρ st (Ce.chain o p a b c)=R.bind (ev call ρ st a) λx st1=>R.bind (ev call ρ st1 b) λy st2=>onO (blO (ye o x y)) λk=>bif k then R.bind (ev call ρ st2 c) λz st3=>toR (ye p y z) st3 else R.ok (PV.bl AC) st2:=rfl
theorem ve10(call:Nat->List PV->SO->R PV)(ρ:Env)(st:SO)(c a b:Ce):
  ev call ρ st (Ce.ite c a b)=R.bind (ev call ρ st c) λx st1=>onO (yaR st1 x) λk=>bif k then ev call ρ st1 a else ev call ρ st1 b:=rfl
theorem ve11(call:Nat->List PV->SO->R PV)(ρ:Env)(st:SO)(es:Ces):
  ev call ρ st (Ce.tup es)=R.bind (evs call ρ st es) λvs st1=>if C7 vs<=sizeMax then R.ok (PV.tup vs) st1 else R.bad:=rfl
theorem ve12(call:Nat->List PV->SO->R PV)(ρ:Env)(st:SO)(es:Ces):
  ev call ρ st (Ce.lst es)=R.bind (evs call ρ st es) λvs st1=>if C7 vs<=sizeMax then R.ok (PV.lst vs) st1 else R.bad:=rfl
theorem ve13(call:Nat->List PV->SO->R PV)(ρ:Env)(st:SO)(es:Ces):
  ev call ρ st (Ce.newl es)=R.bind (evs call ρ st es) λvs st1=>if C7 vs<=sizeMax then R.ok (PV.loc (C7 st1)) (st1++[Ob.lst vs])else R.bad:=rfl
theorem ve14(call:Nat->List PV->SO->R PV)(ρ:Env)(st:SO)(kvs:List (A4×Int)):
  ev call ρ st (Ce.newd kvs)=if C7 kvs<=15 then R.ok (PV.loc (C7 st)) (st++[Ob.dct AC (List.foldl (λacc kv=>put (PV.str (Prod.fst kv)) (PV.int (Prod.snd kv)) acc) [] kvs)])else R.bad:=rfl
theorem ve15(call:Nat->List PV->SO->R PV)(ρ:Env)(st:SO)(t:Bool):
  ev call ρ st (Ce.dict0 t)=R.ok (PV.loc (C7 st)) (st++[Ob.dct t []]):=rfl
theorem ve16(call:Nat->List PV->SO->R PV)(ρ:Env)(st:SO)(a i:Ce):
  ev call ρ st (Ce.idx a i)=R.bind (ev call ρ st a) λx st1=>R.bind (ev call ρ st1 i) λy st2=>toR (idxV st2 x y) st2:=rfl
theorem ve17(call:Nat->List PV->SO->R PV)(ρ:Env)(st:SO)(a l h:Ce):
  ev call ρ st (Ce.slc a l h)=R.bind (ev call ρ st a) λx st1=>R.bind (ev call ρ st1 l) λy st2=>onP (yaV y) λo=>R.bind (ev call ρ st2 h) λz st3=>toR (yco x o z) st3:=rfl
theorem ve18(call:Nat->List PV->SO->R PV)(ρ:Env)(st:SO)(f:Nat)(es:Ces):
  ev call ρ st (Ce.call f es)=R.bind (evs call ρ st es) λvs st1=>call f vs st1:=rfl
theorem ve19(call:Nat->List PV->SO->R PV)(ρ:Env)(st:SO)(b:Blt)(es:Ces):
  ev call ρ st (Ce.blt b es)=R.bind (evs call ρ st es) λvs st1=>toR (yan b st1 vs) st1:=rfl
theorem ve20(call:Nat->List PV->SO->R PV)(ρ:Env)(st:SO)(m:Mth)(o:Ce)(es:Ces):
  ev call ρ st (Ce.mth m o es)=R.bind (ev call ρ st o) λx st1=>onO (yaA m st1 x) λx_1=>R.bind (evs call ρ st1 es) λvs st2=>ybl m st2 x vs:=rfl
theorem ve21(call:Nat->List PV->SO->R PV)(ρ:Env)(st:SO)(a:Ce)(ts:List Ty):
  ev call ρ st (Ce.isi a ts)=R.bind (ev call ρ st a) λx st1=>toR (ybG x ts) st1:=rfl
theorem ve24(call:Nat->List PV->SO->R PV)(ρ:Env)(st:SO):
  ev call ρ st Ce.nope=R.bad:=rfl
theorem ve25(call:Nat->List PV->SO->R PV)(ρ:Env)(st:SO)(a:Ce):
  ev call ρ st (Ce.frz a)=R.bind (ev call ρ st a) λx st1=>yd0 x st1:=rfl
end IC
namespace WK
open IC PySem
mutual
noncomputable def pvq:PV->PV->Bool
 |.non,.non=>AB
 |.bl a,.bl b=>a==b
 |.int i,.int j=>decide (i=j)
 |.str x,.str y=>decide (x=y)
 |.tp k xs,.tp l ys=>(k==l)&&ycC xs ys
 |.lst xs,.lst ys=>ycC xs ys
 |_,_=>AC
noncomputable def ycC:List PV->List PV->Bool
 |[],[]=>AB
 |x::xs,y::ys=>pvq x y&&ycC xs ys
 |_,_=>AC
end
mutual
theorem zlI:∀(a b:PV),pvq a b=AB->a=b
 |.non,b,h=>by cases b<;>simp[pvq]at h ⊢
 |.bl a,b,h=>by cases b<;>simp[pvq]at h ⊢;exact h
 |.int a,b,h=>by cases b<;>simp[pvq]at h ⊢;exact h
 |.str a,b,h=>by cases b<;>simp[pvq]at h ⊢;exact h
 |.tp k xs,b,h=>by
  cases b<;>simp[pvq]at h ⊢
  exact⟨h.1,zd0 _ _ h.2⟩
 |.lst xs,b,h=>by
  cases b<;>simp[pvq]at h ⊢
  exact zd0 _ _ h
 |.loc _,b,h=>by cases b<;>simp[pvq]at h
 |.exn _,b,h=>by cases b<;>simp[pvq]at h
 |.fnc _,b,h=>by cases b<;>simp[pvq]at h
 |.scr _,b,h=>by cases b<;>simp[pvq]at h
theorem zd0:∀(a b:List PV),ycC a b=AB->a=b
 |[],b,h=>by cases b<;>simp[ycC]at h ⊢
 |x::xs,b,h=>by
  cases b with
  |nil=>simp[ycC]at h
  |cons y ys=>
   simp[ycC]at h;rw[zlI x y h.1,zd0 xs ys h.2]
end
def isOk(r:R PV)(v:PV):Bool:=match r with
 |.ok w []=>pvq w v
 |_=>AC
def zfw{r:R PV}{v:PV}(h:isOk r v=AB):r=.ok v []:=by
 match r with
 |.ok w []=>rw[zlI w v h]
 |.ok w (_::_)=>simp[isOk]at h
 |.exc _ _=>simp[isOk]at h
 |.bad=>simp[isOk]at h
def chS(c:Nat):Str:=⟨#[c]⟩
def yab(c:Nat)(i:Int):PV:=.tup [.str (chS c),.int i]
def zne{c d:Nat}(h:chS c=chS d):c=d:=by
 have:=congrArg (λx=>x.cps) h;simpa [chS] using this
def zav(c d:Nat)(i j:Int):peq (yab c i) (yab d j)=decide (c=d/\i=j):=by
 have h:(chS c==chS d)=decide (c=d):=by
  rw[DE];simp;exact⟨zne,λe=>by rw[e]⟩
 simp[yab,peq,ybv,h,Bool.decide_and]
 try rfl
abbrev Mem:=Nat->Int->Int
def upd(M:Mem)(c:Nat)(i v:Int):Mem:=λd j=>if d=c/\j=i then v else M d j
def ycq(kvs:List (PV×PV)):Prop:=∀p∈kvs,∃c i,p.1=yab c i
def Rel(kvs:List (PV×PV))(M:Mem):Prop:=∀c i,(look (yab c i) kvs).getD (.int 0)=.int (M c i)
def zha(c:Nat)(i:Int)(v:PV)(d:Nat)(j:Int):∀kvs,ycq kvs->look (yab d j) (kvs.map λp=>if peq p.1 (yab c i)=AB then(p.1,v)else p)=if d=c/\j=i then(if (kvs.any λp=>peq p.1 (yab c i))=AB then AA v else AD)else look (yab d j) kvs
 |[],_=>by simp[look]
 |p::kvs,h=>by
  let⟨e,g,hp⟩:=h p Ao;let⟨p1,p2⟩:=p;simp only at hp;subst hp;have ih:=zha c i v d j kvs λq hq=>h q (A7 _ hq);rw[AM,BV];erw[zav]
  by_cases h1:e=c/\g=i
  .let⟨rfl,rfl⟩:=h1;erw[and_self,decide_true,if_true,look,zav,Et]
   by_cases h2:e=d/\g=j
   .let⟨rfl,rfl⟩:=h2;simp
   .have h3:¬(d=e/\j=g):=λz=>h2 ⟨z.1.symm,z.2.symm⟩;erw[h2,h3,decide_false,if_false,A5];rw[ih,if_neg h3]
  .simp only[h1,decide_false,Ff,A5,if_false];rw[look,look];erw[zav]
   by_cases h2:e=d/\g=j
   .let⟨rfl,rfl⟩:=h2;simp[h1]
   .simp only[h2,decide_false,A5,if_false];exact ih
def zgl(c:Nat)(i:Int)(v:PV)(d:Nat)(j:Int):∀kvs,ycq kvs->(kvs.any λp=>peq p.1 (yab c i))=AC->look (yab d j) (kvs++[(yab c i,v)])=if d=c/\j=i then AA v else look (yab d j) kvs
 |[],_,_=>by
  erw[AW,look,zav]
  by_cases h2:c=d/\i=j
  .let⟨rfl,rfl⟩:=h2;simp
  .have h3:¬(d=c/\j=i):=λz=>h2 ⟨z.1.symm,z.2.symm⟩;simp[h2,h3]
 |p::kvs,h,hn=>by
  let⟨e,g,hp⟩:=h p Ao;let⟨p1,p2⟩:=p;simp only at hp;subst hp;rw[BV,Bool.or_eq_false_iff]at hn;have ih:=zgl c i v d j kvs (λq hq=>h q (A7 _ hq)) hn.2;have h1:¬(e=c/\g=i):=by simpa [zav] using hn.1
  rw[AT,look,look];erw[zav]
  by_cases h2:e=d/\g=j
  .let⟨rfl,rfl⟩:=h2;simp[h1]
  .simp only[h2,decide_false,A5,if_false];exact ih
def zkv(c:Nat)(i:Int)(v:PV)(d:Nat)(j:Int)(kvs:List (PV×PV))(h:ycq kvs):look (yab d j) (put (yab c i) v kvs)=if d=c/\j=i then AA v else look (yab d j) kvs:=by
 unfold put;split
 .rename_i z;rw[zha _ _ _ _ _ _ h,z,if_pos rfl]
 .rename_i z;exact zgl _ _ _ _ _ _ h (by simpa using z)
def zj3{c:Nat}{i:Int}{v:PV}{kvs:List (PV×PV)}(h:ycq kvs):ycq (put (yab c i) v kvs):=by
 unfold put;split
 .intro p hp;let⟨q,hq,rfl⟩:=List.mem_map.1 hp;let⟨e,g,he⟩:=h q hq;refine⟨e,g,?_⟩;split
  .exact he
  .exact he
 .intro p hp;rcases DC.1 hp with hp|hp
  .exact h p hp
  .simp at hp;exact⟨c,i,by rw[hp]⟩
def zmO{c:Nat}{i v:Int}{kvs:List (PV×PV)}{M:Mem}(h:ycq kvs)(r:Rel kvs M):Rel (put (yab c i) (.int v) kvs) (upd M c i v):=by
 intro d j;rw[zkv _ _ _ _ _ _ h];unfold upd;split
 .rfl
 .exact r d j
def znF{k v:PV}{kvs:List (PV×PV)}:(put k v kvs).length<=kvs.length+1:=by
 unfold put;split
 .simp
 .simp
def zgk(c:Nat)(i:Int):isKey AB (yab c i)=true:=rfl
structure Dc(st:SO)(n:Nat)(M:Mem)(L:Nat):Prop where
 ex:∃kvs,st[n]?=AA (.dct AB kvs)/\ycq kvs/\Rel kvs M/\kvs.length<=L
def zm{st:SO}{n L:Nat}{M:Mem}(h:Dc st n M L)(c:Nat)(i:Int):ydn st (.loc n) (yab c i) (.int 0)=.ok (.int (M c i)) st:=by
 let⟨kvs,h1,h2,h3,h4⟩:=h;erw[ydn,ybi,h1,zgk,if_true,h3 c i]
def zB{st:SO}{n L:Nat}{M:Mem}(h:Dc st n M L)(hL:L<999999)(c:Nat)(i v:Int):∃kvs,ybD st (.loc n) (yab c i) (.int v)=AA (st.set n (.dct AB kvs))/\Dc (st.set n (.dct AB kvs)) n (upd M c i v) (L+1):=by
 let⟨kvs,h1,h2,h3,h4⟩:=h;have hn:n<st.length:=by
  rcases Ct n st.length with z|z
  .exact z
  .rw[B4 z]at h1;cases h1
 refine⟨put (yab c i) (.int v) kvs,?_,⟨_,Ai hn,zj3 h2,zmO h2 h3,B5 znF ∅⟩⟩;have h5:kvs.length<1000000:=by lia
 erw[ybD,h1,zgk,h5,and_self,if_true]
abbrev Cel:=Nat×Int
def yG(x:Cel):PV:=yab x.1 x.2
inductive Rw where
 |mark (d:Int)|ask (x:Cel)|set (t:Cel) (d:Int)|move (t x:Cel)|bare (t x:Cel)|twice (t x:Cel)|half (t x:Cel)
 |sum (t x y:Cel)|less (t x y:Cel)|both (t x y:Cel)|any (t x y:Cel)|odd (t x y:Cel)|times (l h x y:Cel)
def yM:Rw->PV
 |.mark d=>.tup [.str "mark",.int d]
 |.ask x=>.tup [.str "ask",yG x]
 |.set t d=>.tup [.str "set",yG t,.int d]
 |.move t x=>.tup [.str "move",yG t,yG x]
 |.bare t x=>.tup [.str "bare",yG t,yG x]
 |.twice t x=>.tup [.str "twice",yG t,yG x]
 |.half t x=>.tup [.str "half",yG t,yG x]
 |.sum t x y=>.tup [.str "sum",yG t,yG x,yG y]
 |.less t x y=>.tup [.str "less",yG t,yG x,yG y]
 |.both t x y=>.tup [.str "both",yG t,yG x,yG y]
 |.any t x y=>.tup [.str "any",yG t,yG x,yG y]
 |.odd t x y=>.tup [.str "odd",yG t,yG x,yG y]
 |.times l h x y=>.tup [.str "times",yG l,yG h,yG x,yG y]
def rd(M:Mem)(x:Cel):Int:=M x.1 x.2
def wr(M:Mem)(x:Cel)(v:Int):Mem:=upd M x.1 x.2 v
def stepM(W:Int)(M:Mem)(k:Int):Rw->Mem×Int
 |.mark d=>(M,d)
 |.ask x=>(M,bi (!(rd M x==0)))
 |.set t d=>(wr M t d,k)
 |.move t x=>(wr M t (rd M x),k)
 |.bare t x=>(wr M t (W-1-rd M x),k)
 |.twice t x=>(wr M t ((2*rd M x+k)%W),(2*rd M x+k)/W)
 |.half t x=>(wr M t (rd M x/2+k*(W/2)),rd M x%2)
 |.sum t x y=>(wr M t ((rd M x+rd M y+k)%W),(rd M x+rd M y+k)/W)
 |.less t x y=>(wr M t ((rd M x-rd M y-k)%W),bi (decide (rd M x-rd M y-k<0)))
 |.both t x y=>(wr M t (An (rd M x) (rd M y)),k)
 |.any t x y=>(wr M t (BR (rd M x) (rd M y)),k)
 |.odd t x y=>(wr M t (Ar (rd M x) (rd M y)),k)
 |.times l h x y=>(wr (wr M l (rd M x*rd M y%W)) h (rd M x*rd M y/W),k)
def yj(W:Int):List Rw->Mem->Int->Mem×Int
 |[],M,k=>(M,k)
 |r::rs,M,k=>yj W rs (stepM W M k r).1 (stepM W M k r).2
def zd(W:Int):∀(a b:List Rw) (M:Mem) (k:Int),yj W (a++b) M k=yj W b (yj W a M k).1 (yj W a M k).2
 |[],b,M,k=>rfl
 |r::a,b,M,k=>by rw[AT,yj,zd W a b,yj]
def zgO{st:SO}{n:Nat}{o:Ob}(h:st[n]?=AA o):st=st.set n o:=by
 refine EU λi=>?_;rw[Ci];split
 .rename_i e;subst e;split
  .exact h
  .rename_i z;rw[B4 ∅]at h
   cases h
 .rfl
def zc0(i:Int):shp (.int i)=true:=rfl
section
variable {st:SO}{k:Bool}{a b c d e:PV}{r:List PV}{i j:Int}
theorem ix0:idxV st (.tp k (a::r)) (.int 0)=AA a:=by simp[idxV,ya7,at?,ixI]
theorem ix1:idxV st (.tp k (a::b::r)) (.int 1)=AA b:=by
 have:(1:Int)<(r.length:Int)+1+1:=by lia
 simp[idxV,ya7,at?,ixI,this]
theorem ix2:idxV st (.tp k (a::b::c::r)) (.int 2)=AA c:=by
 have:(2:Int)<(r.length:Int)+1+1+1:=by lia
 simp[idxV,ya7,at?,ixI,this]
theorem ix3:idxV st (.tp k (a::b::c::d::r)) (.int 3)=AA d:=by
 have:(3:Int)<(r.length:Int)+1+1+1+1:=by lia
 simp[idxV,ya7,at?,ixI,this]
theorem ix4:idxV st (.tp k (a::b::c::d::e::r)) (.int 4)=AA e:=by
 have:(4:Int)<(r.length:Int)+1+1+1+1+1:=by lia
 simp[idxV,ya7,at?,ixI,this]
theorem b_add:yC .add (.int i) (.int j)=AA (.int (i+j)):=rfl
theorem b_sub:yC .sub (.int i) (.int j)=AA (.int (i-j)):=rfl
def znm(h:i.natAbs<18446744073709551616 \/ j.natAbs<18446744073709551616):yC .mul (.int i) (.int j)=AA (.int (i*j)):=by
 have:yaK i j=true:=by simpa [yaK] using h
 simp[yC,binI,this]
def zaF(h:i.natAbs<18446744073709551616):yC .mul (.int i) (.int j)=AA (.int (i*j)):=znm (.inl h)
def zy(h:j.natAbs<18446744073709551616):yC .mul (.int i) (.int j)=AA (.int (i*j)):=znm (.inr h)
theorem b_mul2:yC .mul (.int 2) (.int j)=AA (.int (2*j)):=znm (.inl ⋯)
def zai(h:0<j)(h2:j<18446744073709551616*18446744073709551616):yC .fdiv (.int i) (.int j)=AA (.int (i/j)):=by
 have h3:j<10000000000000000000000000000000000000000000000000000000000000000000000:=by lia
 simp[yC,binI,h,h3]
theorem b_div2:yC .fdiv (.int i) (.int 2)=AA (.int (i/2)):=rfl
def z8(h:0<j):yC .mod (.int i) (.int j)=AA (.int (i%j)):=by simp[yC,binI,h]
def zQ:yC .mod (.int i) (.int 2)=AA (.int (i%2)):=rfl
def zal:yC .band (.int i) (.int j)=AA (.int (An i j)):=rfl
def zcG:yC .bor (.int i) (.int j)=AA (.int (BR i j)):=rfl
def zaC:yC .bxor (.int i) (.int j)=AA (.int (Ar i j)):=rfl
theorem toR_some{v:PV}:toR (AA v) st=.ok v st:=rfl
theorem c_ne:ye .ne (.int i) (.int j)=AA (.bl (!(i==j))):=by simp[ye,zc0,peq]
theorem c_eq:ye .eq (.int i) (.int j)=AA (.bl (i==j)):=by simp[ye,zc0,peq]
theorem c_lt:ye .lt (.int i) (.int j)=AA (.bl (decide (i<j))):=rfl
theorem c_le:ye .le (.int i) (.int j)=AA (.bl (decide (i<=j))):=rfl
theorem c_gt:ye .gt (.int i) (.int j)=AA (.bl (decide (j<i))):=rfl
theorem c_ge:ye .ge (.int i) (.int j)=AA (.bl (decide (j<=i))):=rfl
theorem t_bl{b:Bool}:yaR st (.bl b)=AA b:=rfl
theorem on_t{f:Bool->Fl}{b:Bool}:onF (AA b) f=f b:=rfl
theorem ono{α:Type}{f:Bool->R α}{b:Bool}:onO (AA b) f=f b:=rfl
def zl{ρ:IC.Env}:stO ρ (AA st)=.nx ρ st:=rfl
theorem nxO_some{ρ:IC.Env}:nxO (AA ρ) st=.nx ρ st:=rfl
theorem fl_ok{α:Type}{a:α}{ρ:IC.Env}{k:α->SO->Fl}:(R.ok a st).fl ρ k=k a st:=rfl
theorem bd_ok{α β:Type}{a:α}{k:α->SO->R β}:(R.ok a st).bind k=k a st:=rfl
theorem th_nx{ρ:IC.Env}{k:IC.Env->SO->Fl}:yaB (.nx ρ st) k=k ρ st:=rfl
theorem th_rt{v:PV}{k:IC.Env->SO->Fl}:yaB (.rt v st) k=.rt v st:=rfl
theorem fl_exc{α:Type}{c:Nat}{ρ:IC.Env}{k:α->SO->Fl}:(R.exc c st:R α).fl ρ k=.exc c ρ st:=rfl
theorem bd_exc{α β:Type}{c:Nat}{k:α->SO->R β}:(R.exc c st:R α).bind k=.exc c st:=rfl
theorem th_exc{c:Nat}{ρ:IC.Env}{k:IC.Env->SO->Fl}:yaB (.exc c ρ st) k=.exc c ρ st:=rfl
theorem noLocs_ints:∀(l:List Int),nLs (l.map PV.int)=AB
 |[]=>rfl
 |_::l=>by simp[nLs,nL,noLocs_ints l]
def zz{x:PV}:yan .int st [x]=yey x:=rfl
def zR{b:Bool}:yey (.bl b)=AA (.int (bi b)):=rfl
theorem bT_n{i:Nat}{v:PV}{ρ:IC.Env}:yP (.n i) v ρ=AA (ρ.set i (AA v)):=rfl
theorem mget{o k d:PV}:ybl .get st o [k,d]=ydn st o k d:=rfl
end
set_option backward.eqns.nonrecursive true
local macro_rules | `(tactic| simp! [$xs,*])=>do
 let l<-("IC.xs_cons IC.xs_nil IC.x_asg IC.x_ite IC.x_ret IC.x_expr IC.x_for IC.x_six IC.evs IC.evi IC.ve1 IC.ve2 IC.ve3 IC.ve4 IC.ve5 IC.ve6 IC.ve7 IC.ve8 IC.ve9 IC.ve10 IC.ve11 IC.ve12 IC.ve13 IC.ve14 IC.ve15 IC.ve16 IC.ve17 IC.ve18 IC.ve19 IC.ve20 IC.ve21 IC.ve24 IC.ve25 IC.v_comp List.getElem?_cons_zero List.getElem?_cons_succ WK.bd_ok WK.fl_ok WK.bd_exc WK.fl_exc WK.toR_some IC.toL WK.bT_n WK.nxO_some WK.th_nx WK.th_rt WK.th_exc List.set_cons_zero List.set_cons_succ WK.on_t WK.t_bl WK.ono IC.onBl cond_true cond_false List.length_cons List.length_nil Nat.zero_add Nat.reduceAdd Nat.reduceSub Nat.reduceLeDiff if_true IC.nL IC.nLs WK.noLocs_ints Bool.and_self Bool.not_true Bool.not_false List.map_cons List.map_nil List.replicate List.cons_append List.nil_append List.append_nil Option.bind_none Option.bind_some Option.join_some WK.b_add WK.b_sub WK.b_mul2 WK.b_div2 WK.c_lt WK.c_le WK.c_gt WK.c_ge WK.c_eq WK.c_ne IC.PV.tup IC.sizeMax".splitOn " ").toArray.mapM λs=>`(Lean.Parser.Tactic.simpLemma| $(Lean.mkIdent s.toName):term)
 `(tactic| simp only[$l,*,$xs,*])
def yaw:PV:=.tup [.int 2147483647,.int 2147483629,.int 2147483587,.int 2147483579,.int 2147483563]
def ydE:Css:=match yaD.body with
 |.cons _ (.cons _ (.cons (.for _ _ b) _))=>b
 |_=>.nil
def zc5{c:Cl}{s num g p:Int}{i:Nat}{u5 u6 u7:Option PV}(hg:∀st,idxV st (.tup [.int 11,.int 101,.int 1009,.int 10007,.int 100003]) (.int i)=AA (.int g))(hi:i<5)(hp:0<p)(hp2:p<18446744073709551616):
  ∃num' v5 v6 v7,exs c [AA (.int s),AA yaw,AA (.int num),AA (.int i),AA (.int p),u5,u6,u7] [] ydE=.nx [AA (.int s),AA yaw,AA (.int num'),AA (.int i),AA (.int p),v5,v6,v7] []:=by
 have h1:∀z:Int,yC .mul (.int z) (.int (48271+2*(i:Int)))=AA (.int (z*(48271+2*(i:Int)))):=λz=>zy ∅;have h2:∀z y:Int,yC .mul (.int z) (.int (y%p))=AA (.int (z*(y%p))):=λz y=>zy (by
  have a:=As y (show p≠0 by lia);have b:=Aj y hp;lia)
 have h3:∀z:Int,yC .mul (.int z) (.int p)=AA (.int (z*p)):=λz=>zy ∅;simp! [ydE,yaD,hg,h1,h2,h3,z8 hp];exact⟨_,_,_,_,rfl⟩
def zkU{c:Cl}{s num:Int}{u5 u6 u7:Option PV}(i:Nat)(p:Int)(h:(i,p)∈[(0,(2147483647:Int)),(1,2147483629),(2,2147483587),(3,2147483579),(4,2147483563)]):
  ∃num' v5 v6 v7,exs c [AA (.int s),AA yaw,AA (.int num),AA (.int i),AA (.int p),u5,u6,u7] [] ydE=.nx [AA (.int s),AA yaw,AA (.int num'),AA (.int i),AA (.int p),v5,v6,v7] []:=by
 erw[BB,Prod.mk.injEq,D2,or_false]at h;rcases h with⟨rfl,rfl⟩|⟨rfl,rfl⟩|⟨rfl,rfl⟩|⟨rfl,rfl⟩|⟨rfl,rfl⟩
 .exact zc5 (λ_=>rfl) ⋯ ⋯ ⋯
 .exact zc5 (λ_=>rfl) ⋯ ⋯ ⋯
 .exact zc5 (λ_=>rfl) ⋯ ⋯ ⋯
 .exact zc5 (λ_=>rfl) ⋯ ⋯ ⋯
 .exact zc5 (λ_=>rfl) ⋯ ⋯ ⋯
def yd5:List PV:=[.tup [.int 0,.int 2147483647],.tup [.int 1,.int 2147483629],.tup [.int 2,.int 2147483587],.tup [.int 3,.int 2147483579],.tup [.int 4,.int 2147483563]]
theorem mixed(k:Nat)(s:Int)(st:SO):∃num,yc T (k+1) yhI [.int s] st=.ok (.int num) st:=by
 let⟨ρ',st',h,num,a,b,c,d,e,e1,e2⟩:=zbB (call:=yc T k) (t:=.t [3,4]) (b:=ydE) (λ_ ρ st=>∃num a b c d e,ρ=[AA (.int s),AA yaw,AA (.int num),a,b,c,d,e]/\st=[]) yd5 0 [AA (.int s),AA yaw,AA (.int 0),AD,AD,AD,AD,AD] [] ⟨_,_,_,_,_,_,rfl,rfl⟩ (by
  rintro j x ρ st hx ⟨num,a,b,c,d,e,rfl,rfl⟩
  have hx:=A3 hx;have hx:∃i p,x=.tup [.int ((i:Nat):Int),.int p]/\(i,p)∈[(0,(2147483647:Int)),(1,2147483629),(2,2147483587),(3,2147483579),(4,2147483563)]:=by
   erw[yd5,BB,D2,or_false]at hx;rcases hx with rfl|rfl|rfl|rfl|rfl
   .exact⟨0,_,rfl,by simp⟩
   .exact⟨1,_,rfl,by simp⟩
   .exact⟨2,_,rfl,by simp⟩
   .exact⟨3,_,rfl,by simp⟩
   .exact⟨4,_,rfl,by simp⟩
  let⟨i,p,rfl,hm⟩:=hx;let⟨num',v5,v6,v7,hh⟩:=zkU (c:=yc T k) (s:=s) (num:=num) (u5:=c) (u6:=d) (u7:=e) i p hm;exact⟨_,_,_,rfl,hh,_,_,_,_,_,_,rfl,rfl⟩)
 subst e1 e2;refine⟨num,?_⟩;rw[yc];have hb:yaD.body=.cons (.asg (.n 1) (.tup (.cons (.cst (.int 2147483647)) (.cons (.cst (.int 2147483629)) (.cons (.cst (.int 2147483587)) (.cons (.cst (.int 2147483579)) (.cons (.cst (.int 2147483563)) .nil))))))) (.cons (.asg (.n 2) (.cst (.int 0))) (.cons (.for (.t [3,4]) (.enum (.var 1)) ydE) (.cons (.ret (.var 2)) .nil))):=rfl;have hT:T yhI=AA ⟨1,8,AB,yaD.body⟩:=rfl;have hp:PV.tup [.int 2147483647,.int 2147483629,.int 2147483587,.int 2147483579,.int 2147483563]=yaw:=rfl;rw[hT,hb];have h5:ev (yc T k) [AA (.int s),AD,AD,AD,AD,AD,AD,AD] [] (.tup (.cons (.cst (.int 2147483647)) (.cons (.cst (.int 2147483629)) (.cons (.cst (.int 2147483587)) (.cons (.cst (.int 2147483579)) (.cons (.cst (.int 2147483563)) .nil))))))=.ok yaw []:=by
  simp[IC.ve1,IC.ve11,evs,R.bind,sizeMax,yaw]
 have he:evi (yc T k) [AA (.int s),AA yaw,AA (.int 0),AD,AD,AD,AD,AD] [] (.enum (.var 1))=.ok yd5 []:=by
  simp[evi,IC.ve2,R.bind,yaw,yac,yd5]
 erw[AL,AN,if_true,nLs,nL,Bs,AM,A9,Ak,AS,AT,AW,xs_cons,xs_nil,x_asg,x_for,x_ret,h5,R.fl,yP,nxO,yaB,AQ,AR,IC.ve1,he,h,IC.ve2,AF,AE]
def znr(ys:List PV)(h:ys.length<=1000000)(st:SO):yb3 (.ok ys st)=.ok (.lst ys) st:=by simp[yb3,h]
def zbq(n:Nat)(h:n<1000):ybu (.int (n:Int))=AA (yo n 0 1):=by
 simp[ybu];lia
def za9{z:Int}(h:0<=z):∃n:Nat,z=n:=⟨z.toNat,by lia⟩
def ybY(st:SO)(f:Fl):R PV:=
 match f with
 |.rt v _=>if nL v then .ok v st else .bad
 |.nx _ _=>.ok .non st
 |.exc c _ _=>.exc c st
 |_=>.bad
def za{T:Nat->Option IC.Fn}{k f:Nat}{fn:IC.Fn}{args:List PV}{st:SO}(hT:T f=AA fn)(hp:fn.pure=AB)(hl:args.length=fn.np)(hn:nLs args=AB):
  yc T (k+1) f args st=ybY st (exs (yc T k) (args.map AA++AS (fn.ns-fn.np) AD) [] fn.body):=by
 rw[yc,hT];dsimp only;rw[if_pos hl,if_pos hp,if_pos hn];rfl
def outI(f:Fl):R PV:=
 match f with
 |.rt v st1=>.ok v st1
 |.nx _ st1=>.ok .non st1
 |.exc c _ st1=>.exc c st1
 |_=>.bad
def zbk{T:Nat->Option IC.Fn}{k f:Nat}{fn:IC.Fn}{args:List PV}{st:SO}(hT:T f=AA fn)(hp:fn.pure=AC)(hl:args.length=fn.np):
  yc T (k+1) f args st=outI (exs (yc T k) (args.map AA++AS (fn.ns-fn.np) AD) st fn.body):=by
 rw[yc,hT];dsimp only;rw[if_pos hl,hp,if_neg (by simp)];rfl
def zik{st:SO}{v:PV}:outI (.rt v st)=.ok v st:=rfl
def zlF{st s:SO}{b:Bool}:ybY st (.rt (.bl b) s)=.ok (.bl b) st:=rfl
theorem rdS{st:SO}{n:Nat}{o x:Ob}(h:st[n]?=AA o):(st.set n x)[n]?=AA x:=by
 have:n<st.length:=by
  rcases Ct n st.length with h1|h1
  .exact h1
  .rw[B4 h1]at h;cases h
 rw[Ai this]
def zph(ns:List Int)(a:Int)(h:ns≠[]):∃v,ya7 (ns.map PV.int) (.int (a%(ns.length:Int)))=AA (.int v):=by
 have h0:0<ns.length:=F7.2 h;have h1:=As a (show (ns.length:Int)≠0 by lia);have h2:=Aj a (show (0:Int)<ns.length by lia);have h3:(a%(ns.length:Int)).toNat<ns.length:=by lia
 refine⟨ns[(a%(ns.length:Int)).toNat],?_⟩;simp[ya7,at?,ixI,h1,h2,h3]
def flT:Css:=match yaj.body with
 |.cons _ (.cons _ (.cons _ t))=>t
 |x=>x
abbrev flS(l:PV)(a p:Int)(f:Bool):Ob:=.lst [l,.int a,.int p,.bl f]
def zqO{st:SO}{n:Nat}{l:PV}{a p v:Int}{f:Bool}(h:st[n]?=AA (flS l a p f)):ybz st (.loc n) (.int 1) (.int v)=AA (st.set n (flS l v p f)):=by erw[ybz,h];rfl
def zqP{st:SO}{n:Nat}{l:PV}{a p v:Int}{f:Bool}(h:st[n]?=AA (flS l a p f)):ybz st (.loc n) (.int 2) (.int v)=AA (st.set n (flS l a v f)):=by erw[ybz,h];rfl
def zqW{st:SO}{n:Nat}{l:PV}{a p:Int}{f g:Bool}(h:st[n]?=AA (flS l a p f)):ybz st (.loc n) (.int 3) (.bl g)=AA (st.set n (flS l a p g)):=by erw[ybz,h];rfl
def zq6{st:SO}{n:Nat}{l:PV}{a p:Int}{f:Bool}(h:st[n]?=AA (flS l a p f)):idxV st (.loc n) (.int 0)=AA l:=by erw[idxV,h];rfl
def zq7{st:SO}{n:Nat}{l:PV}{a p:Int}{f:Bool}(h:st[n]?=AA (flS l a p f)):idxV st (.loc n) (.int 1)=AA (.int a):=by erw[idxV,h];rfl
def zq8{st:SO}{n:Nat}{l:PV}{a p:Int}{f:Bool}(h:st[n]?=AA (flS l a p f)):idxV st (.loc n) (.int 3)=AA (.bl f):=by erw[idxV,h];rfl
theorem p18:yC .pow (.int 10) (.int 18)=AA (.int 1000000000000000000):=by ac_rfl
def zg6(k n:Nat){l:PV}{m a v p q:Int}{f g:Bool}{st:SO}(h:st[n]?=AA (flS l a p f))(hl:∀st,yan .len st [l]=AA (.int m))(hg:(decide (a ≥ m) || decide (v<1000000000000000000))=g)
  (h1:g=AB->yc T (k+1) yhI [.int v] (st.set n (flS l (a+1) p AB))=.ok (.int q) (st.set n (flS l (a+1) p AB))) (h2:g=AC->q=v-1000000000000000000):
  exs (yc T (k+1)) [AA (.loc n),AA l,AA (.int a),AA (.int v)] st flT=.nx [AA (.loc n),AA l,AA (.int a),AA (.int v)] (st.set n (flS l (a+1) q g)):=by
 have s1:=zqO h (v:=a+1);have r1:=rdS h (x:=flS l (a+1) p f);have s2:=zqW r1 (g:=g);have r2:=rdS r1 (x:=flS l (a+1) p g);have s3:=zqP r2 (v:=q);have i3:=zq8 r2;rw[CD]at s2 s3 i3 r2;rw[CD]at s3
 have hb:flT=(match flT with
  |.cons a (.cons (.six x y _) r)=>.cons a (.cons (.six x y (.or (.cmp .ge (.var 2) (.blt .len (.cons (.var 1) .nil))) (.cmp .lt (.var 3) (.bin .pow (.cst (.int 10)) (.cst (.int 18)))))) r)
  |x=>x):=rfl
 have hor:∀st,ev (yc T (k+1)) [AA (.loc n),AA l,AA (.int a),AA (.int v)] st (.or (.cmp .ge (.var 2) (.blt .len (.cons (.var 1) .nil))) (.cmp .lt (.var 3) (.bin .pow (.cst (.int 10)) (.cst (.int 18)))))=.ok (.bl g) st:=λst=>by
  cases c:decide (a ≥ m)
  .rw[c,Ff]at hg;simp! [hl,c,p18,hg]
  .rw[c,Et]at hg;subst hg;simp! [hl,c]
 generalize hE:(Ce.or (.cmp .ge (.var 2) (.blt .len (.cons (.var 1) .nil))) (.cmp .lt (.var 3) (.bin .pow (.cst (.int 10)) (.cst (.int 18)))))=E at *
 cases g with
 |true=>
  have h1:=h1 rfl;rw[hb];simp! [flT,yaj,stO,s1,hor,s2,i3,h1,s3]
 |false=>
  have h2:=h2 rfl;subst h2;rw[hb];simp! [flT,yaj,stO,s1,hor,s2,i3,p18,s3]
theorem fill(k n:Nat)(ns:List Int)(hns:ns.length<=1000)(a p:Int)(ha:0<=a)(f:Bool)(st:SO)(h:st[n]?=AA (.lst [.lst (ns.map .int),.int a,.int p,.bl f])):
  ∃p' f',yc T (k+2) yiM [.loc n] st=.ok .non (st.set n (.lst [.lst (ns.map .int),.int (a+1),.int p',.bl f'])):=by
 have hT:T yiM=AA ⟨1,4,AC,yaj.body⟩:=rfl;have hl:∀st,yan .len st [.lst (ns.map .int)]=AA (.int (ns.length:Int)):=λst=>by
  show AA (PV.int (((ns.map PV.int).length:Nat):Int))=_;simp
 have i0:=zq6 h;have i1:=zq7 h;have bt:∀(a b:PV) (ρ:IC.Env),yP (.t [1,2]) (.tp AC [a,b]) ρ=AA ((ρ.set 1 (AA a)).set 2 (AA b)):=λ_ _ _=>rfl
 have hb:yaj.body=(match yaj.body with
  |.cons a (.cons b (.cons c _))=>.cons a (.cons b (.cons c flT))
  |x=>x):=rfl
 have m31:yC .mul (.int 31) (.int a)=AA (.int (31*a)):=zaF ⋯;obtain⟨v,hv⟩:∃v,exs (yc T (k+1)) [AA (.loc n),AD,AD,AD] st yaj.body=exs (yc T (k+1)) [AA (.loc n),AA (.lst (ns.map .int)),AA (.int a),AA (.int v)] st flT:=by
  by_cases hn:ns=[]
  .have c0:decide ((ns.length:Int) > 0)=false:=by subst hn;rfl
   refine⟨31*a+7,?_⟩;rw[hb];generalize flT=F,ns.map PV.int=L at *;simp! [yaj,i0,i1,bt,m31,hl,c0]
  .have h0:0<ns.length:=F7.2 hn;let⟨v,hv⟩:=zph ns a hn;have c0:decide ((ns.length:Int) > 0)=true:=decide_eq_true ∅;have d1:=zai (i:=a) (j:=(ns.length:Int)) ∅ ∅;have d2:=z8 (i:=a) (j:=(ns.length:Int)) ∅;have m1:yC .mul (.int 104729) (.int (a/(ns.length:Int)))=AA (.int (104729*(a/(ns.length:Int)))):=zaF ⋯;have ix:∀st,idxV st (.lst (ns.map .int)) (.int (a%(ns.length:Int)))=AA (.int v):=λ_=>hv;refine⟨104729*(a/(ns.length:Int))+v,?_⟩;rw[hb];generalize flT=F,ns.map PV.int=L at *;simp! [yaj,i0,i1,bt,m31,hl,c0,d1,d2,m1,ix]
 cases c:(decide (a ≥ (ns.length:Int)) || decide (v<1000000000000000000))with
 |true=>
  let⟨q,hq⟩:=mixed k v (st.set n (flS (.lst (ns.map .int)) (a+1) p AB));refine⟨q,AB,?_⟩;rw[zbk hT rfl rfl];have e:=zg6 k n h hl c (λ_=>hq) (λh=>nomatch h);rw[<-hv]at e;exact(congrArg _ e).trans rfl
 |false=>
  refine⟨v-1000000000000000000,AC,?_⟩;rw[zbk hT rfl rfl];have e:=zg6 k n h hl c (λh=>nomatch h) (λ_=>rfl);rw[<-hv]at e;exact(congrArg _ e).trans rfl
def ybA:Ce:=match yae.body with
 |.cons _ (.cons (.while c _) _)=>c
 |_=>.nope
def ybO:Css:=match yae.body with
 |.cons _ (.cons (.while _ b) _)=>b
 |_=>.nil
def zjb{c:Cl}{n:Nat}{ns:List Int}{a p m t:Int}{f:Bool}{u:Option PV}{st:SO}(h:st[n]?=AA (.lst [.lst (ns.map .int),.int a,.int p,.bl f])):
  ∃B,ev c [AA (.loc n),AA (.int m),AA (.int t),u] st ybA=.ok (.bl B) st/\(B=AB->t<64):=by
 by_cases h1:t<64
 .by_cases h2:p=0
  .refine⟨AB,?_,λ_=>h1⟩;simp! [ybA,yae,R.bind,h,idxV,ya7,at?,ixI,yC,binI,yaK,toR,ye,ybS];simp[h1,h2,zc0,peq]
  .have h2:(p==0)=false:=by simp[h2]
   cases f
   .refine⟨AC,?_,λ_=>h1⟩;simp! [ybA,yae,R.bind,h,idxV,ya7,at?,ixI,yC,binI,yaK,toR,ye,ybS];simp[h,h1,h2,zc0,peq]
   .refine⟨decide (p<m*4096),?_,λ_=>h1⟩;simp! [ybA,yae,R.bind,h,idxV,ya7,at?,ixI,yC,binI,yaK,toR,ye,ybS];simp[h,h1,h2,zc0,peq]
 .refine⟨AC,?_,λz=>by cases z⟩;simp! [ybA,yae,R.bind,h,idxV,ya7,at?,ixI,yC,binI,yaK,toR,ye,ybS];simp[h1]
def zjI(k:Nat){n:Nat}{ns:List Int}(hns:ns.length<=1000){a p m t:Int}(ha:0<=a){f:Bool}{u:Option PV}{st:SO}(h:st[n]?=AA (.lst [.lst (ns.map .int),.int a,.int p,.bl f])):
  ∃p' f',exs (yc T (k+2)) [AA (.loc n),AA (.int m),AA (.int t),u] st ybO=.nx [AA (.loc n),AA (.int m),AA (.int (t+1)),u] (st.set n (.lst [.lst (ns.map .int),.int (a+1),.int p',.bl f'])):=by
 let⟨q,g,hq⟩:=fill k n ns hns a p ha f st h;have hm:(1+q%4093).natAbs<18446744073709551616:=by lia
 have hau:∀st,ex (yc T (k+2)) [AA (.loc n),AA (.int m),AA (.int t),u] st (.aug 2 .add (.cst (.int 1)))=.nx [AA (.loc n),AA (.int m),AA (.int (t+1)),u] st:=λst=>by
  rw[zp1 (x:=.int t) rfl];simp[IC.ve1,R.fl,ybV,yC,binI,nxO]
 cases g
 .refine⟨q,AC,?_⟩;simp! [ybO,yae,hau,yaB,nxO,R.fl,R.bind,hq,ybV,yC,binI,Dm,rdS h,idxV,ya7,at?,ixI,yaK,toR,ye,ybS,onF,yaR];simp[rdS h]
 .by_cases hl:q<m*4096
  .refine⟨q+m*4096*(1+q%4093),AB,?_⟩;simp! [ybO,yae,hau,yaB,nxO,R.fl,R.bind,hq,ybV,yC,binI,Dm,rdS h,idxV,ya7,at?,ixI,yaK,toR,ye,ybS,onF,yaR,stO,ybz];simp[rdS h,hl,hm]
  .refine⟨q,AB,?_⟩;simp! [ybO,yae,hau,yaB,nxO,R.fl,R.bind,hq,ybV,yC,binI,Dm,rdS h,idxV,ya7,at?,ixI,yaK,toR,ye,ybS,onF,yaR];simp[rdS h,hl]
def zeH(k:Nat){n:Nat}{ns:List Int}(hns:ns.length<=1000){m:Int}{u:Option PV}:∀(r N:Nat) (t a p:Int) (f:Bool) (st:SO),r<=N->64-t<=r->0<=a->st[n]?=AA (.lst [.lst (ns.map .int),.int a,.int p,.bl f]) ->
  ∃t' a' p' f',0<=a'/\ya2 (yc T (k+2)) ybA ybO (N+1) [AA (.loc n),AA (.int m),AA (.int t),u] st=.nx [AA (.loc n),AA (.int m),AA (.int t'),u] (st.set n (.lst [.lst (ns.map .int),.int a',.int p',.bl f']))
 |r,N,t,a,p,f,st,hN,ht,ha,h=>by
  let⟨B,hB,hb⟩:=zjb (c:=yc T (k+2)) (m:=m) (t:=t) (u:=u) h;have hs:st.set n (.lst [.lst (ns.map .int),.int a,.int p,.bl f])=st:=by
   refine EU λi=>?_;rw[Ci];split
   .rename_i e;subst e;split
    .exact h.symm
    .rename_i z;rw[B4 ∅]at h
     cases h
   .rfl
  cases B with
  |false=>exact⟨t,a,p,f,ha,by rw[zgg hB rfl,hs]⟩
  |true=>
   have h64:=hb rfl
   match r,N with
   |0,_=>exact absurd ht ∅
   |r+1,N+1=>
    let⟨p1,f1,hx⟩:=zjI k hns (m:=m) (t:=t) ha (u:=u) h;let⟨t',a',p',f',h0,h2⟩:=zeH k hns (m:=m) (u:=u) r N (t+1) (a+1) p1 f1 _ ∅ ∅ ∅ (rdS h);refine⟨t',a',p',f',h0,?_⟩;rw[ziF hB rfl hx,h2,CD]
theorem take(k n:Nat)(ns:List Int)(hns:ns.length<=1000)(a p m:Int)(ha:0<=a)(hm:0<m)(hm2:m<10000000000000000000000000000000000000000000000000000000000000000000000)(f:Bool)(st:SO)(h:st[n]?=AA (.lst [.lst (ns.map .int),.int a,.int p,.bl f])):
  ∃d a' p' f',0<=d/\d<m/\0<=a'/\yc T (k+3) yhJ [.loc n,.int m] st=.ok (.int d) (st.set n (.lst [.lst (ns.map .int),.int a',.int p',.bl f'])):=by
 let⟨t',a',p',f',h0,h2⟩:=zeH k hns (m:=m) (u:=AD) 64 99999 0 a p f st ∅ ∅ ha h;refine⟨p'%m,a',p'/m,f',As _ ∅,Aj _ hm,h0,?_⟩;have hb:yae.body=.cons (.asg (.n 2) (.cst (.int 0))) (.cons (.while ybA ybO) (.cons (.asg (.n 3) (.bin .mod (.idx (.var 0) (.cst (.int 2))) (.var 1))) (.cons (.six (.var 0) (.cst (.int 2)) (.bin .fdiv (.idx (.var 0) (.cst (.int 2))) (.var 1))) (.cons (.ret (.var 3)) .nil)))):=rfl;have hT:T yhJ=AA ⟨2,4,AC,yae.body⟩:=rfl;rw[yc,hT,hb];simp! [zmA,yaB,nxO,stO,R.fl,R.bind,yP,h2,rdS h,idxV,ya7,at?,ixI,yC,binI,hm,hm2,and_self,toR,ybz];simp[rdS h,hm,hm2]
def zeF:ye .eq (.str "mark") (.str "mark")=AA (.bl AB):=by ac_rfl
def zgj:ye .eq (.str "mark") (.str "ask")=AA (.bl AC):=by ac_rfl
def zf5:ye .eq (.str "mark") (.str "set")=AA (.bl AC):=by ac_rfl
def zdS:ye .eq (.str "mark") (.str "times")=AA (.bl AC):=by ac_rfl
def zf8:ye .eq (.str "mark") (.str "sum")=AA (.bl AC):=by ac_rfl
def zeQ:ye .eq (.str "mark") (.str "less")=AA (.bl AC):=by ac_rfl
def zeq:ye .eq (.str "mark") (.str "both")=AA (.bl AC):=by ac_rfl
def zfI:ye .eq (.str "mark") (.str "any")=AA (.bl AC):=by ac_rfl
def zfV:ye .eq (.str "mark") (.str "odd")=AA (.bl AC):=by ac_rfl
def zf3:ye .eq (.str "ask") (.str "mark")=AA (.bl AC):=by ac_rfl
def zhl:ye .eq (.str "ask") (.str "ask")=AA (.bl AB):=by ac_rfl
def zh1:ye .eq (.str "ask") (.str "set")=AA (.bl AC):=by ac_rfl
def zep:ye .eq (.str "ask") (.str "times")=AA (.bl AC):=by ac_rfl
def zhD:ye .eq (.str "ask") (.str "sum")=AA (.bl AC):=by ac_rfl
def zfz:ye .eq (.str "ask") (.str "less")=AA (.bl AC):=by ac_rfl
def zfy:ye .eq (.str "ask") (.str "both")=AA (.bl AC):=by ac_rfl
def zhs:ye .eq (.str "ask") (.str "any")=AA (.bl AC):=by ac_rfl
def zhr:ye .eq (.str "ask") (.str "odd")=AA (.bl AC):=by ac_rfl
def zfS:ye .eq (.str "set") (.str "mark")=AA (.bl AC):=by ac_rfl
def zhh:ye .eq (.str "set") (.str "ask")=AA (.bl AC):=by ac_rfl
def zhW:ye .eq (.str "set") (.str "set")=AA (.bl AB):=by ac_rfl
def ze8:ye .eq (.str "set") (.str "times")=AA (.bl AC):=by ac_rfl
def zhN:ye .eq (.str "set") (.str "sum")=AA (.bl AC):=by ac_rfl
def zfT:ye .eq (.str "set") (.str "less")=AA (.bl AC):=by ac_rfl
def zfM:ye .eq (.str "set") (.str "both")=AA (.bl AC):=by ac_rfl
def zhR:ye .eq (.str "set") (.str "any")=AA (.bl AC):=by ac_rfl
def zhw:ye .eq (.str "set") (.str "odd")=AA (.bl AC):=by ac_rfl
def zb6:ye .eq (.str "move") (.str "mark")=AA (.bl AC):=by ac_rfl
def zdg:ye .eq (.str "move") (.str "ask")=AA (.bl AC):=by ac_rfl
def zcK:ye .eq (.str "move") (.str "set")=AA (.bl AC):=by ac_rfl
def zbW:ye .eq (.str "move") (.str "move")=AA (.bl AB):=by ac_rfl
def zbV:ye .eq (.str "move") (.str "bare")=AA (.bl AC):=by ac_rfl
def zbx:ye .eq (.str "move") (.str "twice")=AA (.bl AC):=by ac_rfl
def zb0:ye .eq (.str "move") (.str "half")=AA (.bl AC):=by ac_rfl
def zca:ye .eq (.str "bare") (.str "mark")=AA (.bl AC):=by ac_rfl
def zcO:ye .eq (.str "bare") (.str "ask")=AA (.bl AC):=by ac_rfl
def zcN:ye .eq (.str "bare") (.str "set")=AA (.bl AC):=by ac_rfl
def zb5:ye .eq (.str "bare") (.str "move")=AA (.bl AC):=by ac_rfl
def zbY:ye .eq (.str "bare") (.str "bare")=AA (.bl AB):=by ac_rfl
def zbh:ye .eq (.str "bare") (.str "twice")=AA (.bl AC):=by ac_rfl
def zb8:ye .eq (.str "bare") (.str "half")=AA (.bl AC):=by ac_rfl
def zbm:ye .eq (.str "twice") (.str "mark")=AA (.bl AC):=by ac_rfl
def zcc:ye .eq (.str "twice") (.str "ask")=AA (.bl AC):=by ac_rfl
def zb3:ye .eq (.str "twice") (.str "set")=AA (.bl AC):=by ac_rfl
def zbi:ye .eq (.str "twice") (.str "move")=AA (.bl AC):=by ac_rfl
def zbL:ye .eq (.str "twice") (.str "bare")=AA (.bl AC):=by ac_rfl
def za0:ye .eq (.str "twice") (.str "twice")=AA (.bl AB):=by ac_rfl
def zbs:ye .eq (.str "twice") (.str "half")=AA (.bl AC):=by ac_rfl
def zb7:ye .eq (.str "half") (.str "mark")=AA (.bl AC):=by ac_rfl
def zcC:ye .eq (.str "half") (.str "ask")=AA (.bl AC):=by ac_rfl
def zcY:ye .eq (.str "half") (.str "set")=AA (.bl AC):=by ac_rfl
def zb4:ye .eq (.str "half") (.str "move")=AA (.bl AC):=by ac_rfl
def zcf:ye .eq (.str "half") (.str "bare")=AA (.bl AC):=by ac_rfl
def zbj:ye .eq (.str "half") (.str "twice")=AA (.bl AC):=by ac_rfl
def zbX:ye .eq (.str "half") (.str "half")=AA (.bl AB):=by ac_rfl
def zfu:ye .eq (.str "sum") (.str "mark")=AA (.bl AC):=by ac_rfl
def zhi:ye .eq (.str "sum") (.str "ask")=AA (.bl AC):=by ac_rfl
def zhy:ye .eq (.str "sum") (.str "set")=AA (.bl AC):=by ac_rfl
def zfj:ye .eq (.str "sum") (.str "times")=AA (.bl AC):=by ac_rfl
def zhB:ye .eq (.str "sum") (.str "sum")=AA (.bl AB):=by ac_rfl
def zf9:ye .eq (.str "sum") (.str "less")=AA (.bl AC):=by ac_rfl
def zfx:ye .eq (.str "sum") (.str "both")=AA (.bl AC):=by ac_rfl
def zho:ye .eq (.str "sum") (.str "any")=AA (.bl AC):=by ac_rfl
def zhA:ye .eq (.str "sum") (.str "odd")=AA (.bl AC):=by ac_rfl
def zeA:ye .eq (.str "less") (.str "mark")=AA (.bl AC):=by ac_rfl
def zgb:ye .eq (.str "less") (.str "ask")=AA (.bl AC):=by ac_rfl
def zf7:ye .eq (.str "less") (.str "set")=AA (.bl AC):=by ac_rfl
def zdV:ye .eq (.str "less") (.str "times")=AA (.bl AC):=by ac_rfl
def zfN:ye .eq (.str "less") (.str "sum")=AA (.bl AC):=by ac_rfl
def zfp:ye .eq (.str "less") (.str "less")=AA (.bl AB):=by ac_rfl
def zeC:ye .eq (.str "less") (.str "both")=AA (.bl AC):=by ac_rfl
def zfR:ye .eq (.str "less") (.str "any")=AA (.bl AC):=by ac_rfl
def zfs:ye .eq (.str "less") (.str "odd")=AA (.bl AC):=by ac_rfl
def zex:ye .eq (.str "both") (.str "mark")=AA (.bl AC):=by ac_rfl
def zf4:ye .eq (.str "both") (.str "ask")=AA (.bl AC):=by ac_rfl
def zfB:ye .eq (.str "both") (.str "set")=AA (.bl AC):=by ac_rfl
def zec:ye .eq (.str "both") (.str "times")=AA (.bl AC):=by ac_rfl
def zfQ:ye .eq (.str "both") (.str "sum")=AA (.bl AC):=by ac_rfl
def zeS:ye .eq (.str "both") (.str "less")=AA (.bl AC):=by ac_rfl
def zeZ:ye .eq (.str "both") (.str "both")=AA (.bl AB):=by ac_rfl
def zfL:ye .eq (.str "both") (.str "any")=AA (.bl AC):=by ac_rfl
def zge:ye .eq (.str "both") (.str "odd")=AA (.bl AC):=by ac_rfl
def zfK:ye .eq (.str "any") (.str "mark")=AA (.bl AC):=by ac_rfl
def zhk:ye .eq (.str "any") (.str "ask")=AA (.bl AC):=by ac_rfl
def zhQ:ye .eq (.str "any") (.str "set")=AA (.bl AC):=by ac_rfl
def ze2:ye .eq (.str "any") (.str "times")=AA (.bl AC):=by ac_rfl
def zhf:ye .eq (.str "any") (.str "sum")=AA (.bl AC):=by ac_rfl
def zfD:ye .eq (.str "any") (.str "less")=AA (.bl AC):=by ac_rfl
def zgd:ye .eq (.str "any") (.str "both")=AA (.bl AC):=by ac_rfl
def zht:ye .eq (.str "any") (.str "any")=AA (.bl AB):=by ac_rfl
def zhc:ye .eq (.str "any") (.str "odd")=AA (.bl AC):=by ac_rfl
def zfP:ye .eq (.str "odd") (.str "mark")=AA (.bl AC):=by ac_rfl
def zhx:ye .eq (.str "odd") (.str "ask")=AA (.bl AC):=by ac_rfl
def zhq:ye .eq (.str "odd") (.str "set")=AA (.bl AC):=by ac_rfl
def zet:ye .eq (.str "odd") (.str "times")=AA (.bl AC):=by ac_rfl
def zhT:ye .eq (.str "odd") (.str "sum")=AA (.bl AC):=by ac_rfl
def zfC:ye .eq (.str "odd") (.str "less")=AA (.bl AC):=by ac_rfl
def zf2:ye .eq (.str "odd") (.str "both")=AA (.bl AC):=by ac_rfl
def zhd:ye .eq (.str "odd") (.str "any")=AA (.bl AC):=by ac_rfl
def zhM:ye .eq (.str "odd") (.str "odd")=AA (.bl AB):=by ac_rfl
def zed:ye .eq (.str "times") (.str "mark")=AA (.bl AC):=by ac_rfl
def zeR:ye .eq (.str "times") (.str "ask")=AA (.bl AC):=by ac_rfl
def zeY:ye .eq (.str "times") (.str "set")=AA (.bl AC):=by ac_rfl
def zdk:ye .eq (.str "times") (.str "times")=AA (.bl AB):=by ac_rfl
theorem mok{st:SO}{n L:Nat}{M:Mem}(h:Dc st n M L):yaA .get st (.loc n)=AA true:=by
 let⟨kvs,h1,h2,h3,h4⟩:=h;simp[yaA,ybi,h1]
def zJ:T yiO=AA ya:=rfl
def zgM:T yiS=AA yv:=rfl
def zcS{a b c:PV}{st:SO}{k:Bool}:yan .len st [.tp k [a,b,c]]=AA (.int 3):=rfl
def zcU{a b c d:PV}{st:SO}{k:Bool}:yan .len st [.tp k [a,b,c,d]]=AA (.int 4):=rfl
theorem c33:ye .eq (.int 3) (.int 3)=AA (.bl AB):=rfl
theorem c43:ye .eq (.int 4) (.int 3)=AA (.bl AC):=rfl
def Done(k n:Nat)(st:SO)(M:Mem)(L:Nat)(W m:Int)(r:Rw):Prop:=∃st',yc T (k+2) yiO [.loc n,.int m,yM r,.int W] st=.ok (.int (stepM W M m r).2) st'/\(∃o,st'=st.set n o)/\Dc st' n (stepM W M m r).1 (L+2)
def zdO{st:SO}{n L:Nat}{M:Mem}(h:Dc st n M L):∃o,st=st.set n o:=by
 let⟨kvs,h1,_⟩:=h;exact⟨_,zgO h1⟩
def zG{st:SO}{n L:Nat}{M:Mem}(h:Dc st n M L):Dc st n M (L+1):=by
 let⟨kvs,h1,h2,h3,h4⟩:=h;exact⟨kvs,h1,h2,h3,by lia⟩
def zjR(k:Nat){n:Nat}{st:SO}{M:Mem}{L:Nat}{W m:Int}(h:Dc st n M L)(hL:L<999999)(hW:0<W)(hW2:W<18446744073709551616)(d:Int):Done k n st M L W m (.mark d):=by
 have hW3:W<18446744073709551616*18446744073709551616:=by lia
 have hW4:(W/2).natAbs<18446744073709551616:=by lia
 refine⟨st,?_,zdO h,zG (zG h)⟩;rw[yc,zJ];erw[ya,yM,yG,AL,AN,AU,AY,if_true,AM,A9,Ak,AS,AT,AW,xs_cons,xs_nil,x_asg,x_ite,x_ret,zI,th_nx,th_rt,nxO_some,zl,IC.ve1,IC.ve2,IC.ve3,IC.ve8,IC.ve16,IC.ve18,IC.ve19,IC.ve20,evs,fl_ok,bd_ok,bT_n,AQ,AR,AF,AE,ix0,ix1,ix2,ix3,toR_some,on_t,ono,t_bl,mget,b_add,b_sub,b_mul2,b_div2,zQ,zal,zcG,zaC,c_ne,c_lt,zz,zR,cond_true,cond_false,A5,if_false,zeF,zgj,zf5,zdS,zf8,zeQ,zeq,zfI,zfV,mok h,z8 hW,zai hW hW3,zy hW4,c33,c43,zcS,zcU]
 first|rfl|(erw[stepM,rd];done)
def zkn(k:Nat){n:Nat}{st:SO}{M:Mem}{L:Nat}{W m:Int}(h:Dc st n M L)(hL:L<999999)(hW:0<W)(hW2:W<18446744073709551616)(x:Cel):Done k n st M L W m (.ask x):=by
 have hW3:W<18446744073709551616*18446744073709551616:=by lia
 have hW4:(W/2).natAbs<18446744073709551616:=by lia
 refine⟨st,?_,zdO h,zG (zG h)⟩;have gx:=zm h x.1 x.2;rw[yc,zJ];erw[ya,yM,yG,AL,AN,AU,AY,if_true,AM,A9,Ak,AS,AT,AW,xs_cons,xs_nil,x_asg,x_ite,x_ret,zI,th_nx,th_rt,nxO_some,zl,IC.ve1,IC.ve2,IC.ve3,IC.ve8,IC.ve16,IC.ve18,IC.ve19,IC.ve20,evs,fl_ok,bd_ok,bT_n,AQ,AR,AF,AE,ix0,ix1,ix2,ix3,toR_some,on_t,ono,t_bl,mget,b_add,b_sub,b_mul2,b_div2,zQ,zal,zcG,zaC,c_ne,c_lt,zz,zR,cond_true,cond_false,A5,if_false,zf3,zhl,zh1,zep,zhD,zfz,zfy,zhs,zhr,gx,mok h,z8 hW,zai hW hW3,zy hW4,c33,c43,zcS,zcU]
 first|rfl|(erw[stepM,rd];done)
def zlu(k:Nat){n:Nat}{st:SO}{M:Mem}{L:Nat}{W m:Int}(h:Dc st n M L)(hL:L<999999)(hW:0<W)(hW2:W<18446744073709551616)(t:Cel)(d:Int):Done k n st M L W m (.set t d):=by
 have hW3:W<18446744073709551616*18446744073709551616:=by lia
 have hW4:(W/2).natAbs<18446744073709551616:=by lia
 let⟨kvs,hp,hd⟩:=zB h hL t.1 t.2 (d);refine⟨_,?_,⟨_,rfl⟩,zG hd⟩;rw[yc,zJ];erw[ya,yM,yG,AL,AN,AU,AY,if_true,AM,A9,Ak,AS,AT,AW,xs_cons,xs_nil,x_asg,x_ite,x_ret,zI,th_nx,th_rt,nxO_some,zl,IC.ve1,IC.ve2,IC.ve3,IC.ve8,IC.ve16,IC.ve18,IC.ve19,IC.ve20,evs,fl_ok,bd_ok,bT_n,AQ,AR,AF,AE,ix0,ix1,ix2,ix3,toR_some,on_t,ono,t_bl,mget,b_add,b_sub,b_mul2,b_div2,zQ,zal,zcG,zaC,c_ne,c_lt,zz,zR,cond_true,cond_false,A5,if_false,zfS,zhh,zhW,ze8,zhN,zfT,zfM,zhR,zhw,hp,mok h,z8 hW,zai hW hW3,zy hW4,c33,c43,zcS,zcU]
 first|rfl|(erw[stepM,rd];done)
def zh4(k:Nat){n:Nat}{st:SO}{M:Mem}{L:Nat}{W m:Int}(h:Dc st n M L)(hL:L<999999)(hW:0<W)(hW2:W<18446744073709551616)(t x:Cel):Done k n st M L W m (.move t x):=by
 have hW3:W<18446744073709551616*18446744073709551616:=by lia
 have hW4:(W/2).natAbs<18446744073709551616:=by lia
 let⟨kvs,hp,hd⟩:=zB h hL t.1 t.2 (M x.1 x.2);refine⟨_,?_,⟨_,rfl⟩,zG hd⟩;have gx:=zm h x.1 x.2;rw[yc,zJ];erw[ya,yM,yG,AL,AN,AU,AY,if_true,AM,A9,Ak,AS,AT,AW,xs_cons,xs_nil,x_asg,x_ite,x_ret,zI,th_nx,th_rt,nxO_some,zl,IC.ve1,IC.ve2,IC.ve3,IC.ve8,IC.ve16,IC.ve18,IC.ve19,IC.ve20,evs,fl_ok,bd_ok,bT_n,AQ,AR,AF,AE,ix0,ix1,ix2,ix3,toR_some,on_t,ono,t_bl,mget,b_add,b_sub,b_mul2,b_div2,zQ,zal,zcG,zaC,c_ne,c_lt,zz,zR,cond_true,cond_false,A5,if_false,zb6,zdg,zcK,zbW,zbV,zbx,zb0,gx,hp,mok h,z8 hW,zai hW hW3,zy hW4,c33,c43,zcS,zcU];rw[yc,zgM];erw[yv,AL,AN,AU,AY,if_true,AM,A9,Ak,AS,AT,AW,xs_cons,xs_nil,x_asg,x_ite,x_ret,zI,th_nx,th_rt,nxO_some,zl,IC.ve1,IC.ve2,IC.ve3,IC.ve8,IC.ve16,IC.ve18,IC.ve19,IC.ve20,evs,fl_ok,bd_ok,bT_n,AQ,AR,AF,AE,ix0,ix1,ix2,ix3,toR_some,on_t,ono,t_bl,mget,b_add,b_sub,b_mul2,b_div2,zQ,zal,zcG,zaC,c_ne,c_lt,zz,zR,cond_true,cond_false,A5,if_false,zb6,zdg,zcK,zbW,zbV,zbx,zb0,gx,hp,mok h,z8 hW,zai hW hW3,zy hW4,c33,c43,zcS,zcU]
 first|rfl|(erw[stepM,rd];done)
def ziR(k:Nat){n:Nat}{st:SO}{M:Mem}{L:Nat}{W m:Int}(h:Dc st n M L)(hL:L<999999)(hW:0<W)(hW2:W<18446744073709551616)(t x:Cel):Done k n st M L W m (.bare t x):=by
 have hW3:W<18446744073709551616*18446744073709551616:=by lia
 have hW4:(W/2).natAbs<18446744073709551616:=by lia
 let⟨kvs,hp,hd⟩:=zB h hL t.1 t.2 (W-1-M x.1 x.2);refine⟨_,?_,⟨_,rfl⟩,zG hd⟩;have gx:=zm h x.1 x.2;rw[yc,zJ];erw[ya,yM,yG,AL,AN,AU,AY,if_true,AM,A9,Ak,AS,AT,AW,xs_cons,xs_nil,x_asg,x_ite,x_ret,zI,th_nx,th_rt,nxO_some,zl,IC.ve1,IC.ve2,IC.ve3,IC.ve8,IC.ve16,IC.ve18,IC.ve19,IC.ve20,evs,fl_ok,bd_ok,bT_n,AQ,AR,AF,AE,ix0,ix1,ix2,ix3,toR_some,on_t,ono,t_bl,mget,b_add,b_sub,b_mul2,b_div2,zQ,zal,zcG,zaC,c_ne,c_lt,zz,zR,cond_true,cond_false,A5,if_false,zca,zcO,zcN,zb5,zbY,zbh,zb8,gx,hp,mok h,z8 hW,zai hW hW3,zy hW4,c33,c43,zcS,zcU];rw[yc,zgM];erw[yv,AL,AN,AU,AY,if_true,AM,A9,Ak,AS,AT,AW,xs_cons,xs_nil,x_asg,x_ite,x_ret,zI,th_nx,th_rt,nxO_some,zl,IC.ve1,IC.ve2,IC.ve3,IC.ve8,IC.ve16,IC.ve18,IC.ve19,IC.ve20,evs,fl_ok,bd_ok,bT_n,AQ,AR,AF,AE,ix0,ix1,ix2,ix3,toR_some,on_t,ono,t_bl,mget,b_add,b_sub,b_mul2,b_div2,zQ,zal,zcG,zaC,c_ne,c_lt,zz,zR,cond_true,cond_false,A5,if_false,zca,zcO,zcN,zb5,zbY,zbh,zb8,gx,hp,mok h,z8 hW,zai hW hW3,zy hW4,c33,c43,zcS,zcU]
 first|rfl|(erw[stepM,rd];done)
def zhZ(k:Nat){n:Nat}{st:SO}{M:Mem}{L:Nat}{W m:Int}(h:Dc st n M L)(hL:L<999999)(hW:0<W)(hW2:W<18446744073709551616)(t x:Cel):Done k n st M L W m (.twice t x):=by
 have hW3:W<18446744073709551616*18446744073709551616:=by lia
 have hW4:(W/2).natAbs<18446744073709551616:=by lia
 let⟨kvs,hp,hd⟩:=zB h hL t.1 t.2 ((2*M x.1 x.2+m)%W);refine⟨_,?_,⟨_,rfl⟩,zG hd⟩;have gx:=zm h x.1 x.2;rw[yc,zJ];erw[ya,yM,yG,AL,AN,AU,AY,if_true,AM,A9,Ak,AS,AT,AW,xs_cons,xs_nil,x_asg,x_ite,x_ret,zI,th_nx,th_rt,nxO_some,zl,IC.ve1,IC.ve2,IC.ve3,IC.ve8,IC.ve16,IC.ve18,IC.ve19,IC.ve20,evs,fl_ok,bd_ok,bT_n,AQ,AR,AF,AE,ix0,ix1,ix2,ix3,toR_some,on_t,ono,t_bl,mget,b_add,b_sub,b_mul2,b_div2,zQ,zal,zcG,zaC,c_ne,c_lt,zz,zR,cond_true,cond_false,A5,if_false,zbm,zcc,zb3,zbi,zbL,za0,zbs,gx,hp,mok h,z8 hW,zai hW hW3,zy hW4,c33,c43,zcS,zcU];rw[yc,zgM];erw[yv,AL,AN,AU,AY,if_true,AM,A9,Ak,AS,AT,AW,xs_cons,xs_nil,x_asg,x_ite,x_ret,zI,th_nx,th_rt,nxO_some,zl,IC.ve1,IC.ve2,IC.ve3,IC.ve8,IC.ve16,IC.ve18,IC.ve19,IC.ve20,evs,fl_ok,bd_ok,bT_n,AQ,AR,AF,AE,ix0,ix1,ix2,ix3,toR_some,on_t,ono,t_bl,mget,b_add,b_sub,b_mul2,b_div2,zQ,zal,zcG,zaC,c_ne,c_lt,zz,zR,cond_true,cond_false,A5,if_false,zbm,zcc,zb3,zbi,zbL,za0,zbs,gx,hp,mok h,z8 hW,zai hW hW3,zy hW4,c33,c43,zcS,zcU]
 first|rfl|(erw[stepM,rd];done)
def ziw(k:Nat){n:Nat}{st:SO}{M:Mem}{L:Nat}{W m:Int}(h:Dc st n M L)(hL:L<999999)(hW:0<W)(hW2:W<18446744073709551616)(t x:Cel):Done k n st M L W m (.half t x):=by
 have hW3:W<18446744073709551616*18446744073709551616:=by lia
 have hW4:(W/2).natAbs<18446744073709551616:=by lia
 let⟨kvs,hp,hd⟩:=zB h hL t.1 t.2 (M x.1 x.2/2+m*(W/2));refine⟨_,?_,⟨_,rfl⟩,zG hd⟩;have gx:=zm h x.1 x.2;rw[yc,zJ];erw[ya,yM,yG,AL,AN,AU,AY,if_true,AM,A9,Ak,AS,AT,AW,xs_cons,xs_nil,x_asg,x_ite,x_ret,zI,th_nx,th_rt,nxO_some,zl,IC.ve1,IC.ve2,IC.ve3,IC.ve8,IC.ve16,IC.ve18,IC.ve19,IC.ve20,evs,fl_ok,bd_ok,bT_n,AQ,AR,AF,AE,ix0,ix1,ix2,ix3,toR_some,on_t,ono,t_bl,mget,b_add,b_sub,b_mul2,b_div2,zQ,zal,zcG,zaC,c_ne,c_lt,zz,zR,cond_true,cond_false,A5,if_false,zb7,zcC,zcY,zb4,zcf,zbj,zbX,gx,hp,mok h,z8 hW,zai hW hW3,zy hW4,c33,c43,zcS,zcU];rw[yc,zgM];erw[yv,AL,AN,AU,AY,if_true,AM,A9,Ak,AS,AT,AW,xs_cons,xs_nil,x_asg,x_ite,x_ret,zI,th_nx,th_rt,nxO_some,zl,IC.ve1,IC.ve2,IC.ve3,IC.ve8,IC.ve16,IC.ve18,IC.ve19,IC.ve20,evs,fl_ok,bd_ok,bT_n,AQ,AR,AF,AE,ix0,ix1,ix2,ix3,toR_some,on_t,ono,t_bl,mget,b_add,b_sub,b_mul2,b_div2,zQ,zal,zcG,zaC,c_ne,c_lt,zz,zR,cond_true,cond_false,A5,if_false,zb7,zcC,zcY,zb4,zcf,zbj,zbX,gx,hp,mok h,z8 hW,zai hW hW3,zy hW4,c33,c43,zcS,zcU]
 first|rfl|(erw[stepM,rd];done)
def zla(k:Nat){n:Nat}{st:SO}{M:Mem}{L:Nat}{W m:Int}(h:Dc st n M L)(hL:L<999999)(hW:0<W)(hW2:W<18446744073709551616)(t x y:Cel):Done k n st M L W m (.sum t x y):=by
 have hW3:W<18446744073709551616*18446744073709551616:=by lia
 have hW4:(W/2).natAbs<18446744073709551616:=by lia
 let⟨kvs,hp,hd⟩:=zB h hL t.1 t.2 ((M x.1 x.2+M y.1 y.2+m)%W);refine⟨_,?_,⟨_,rfl⟩,zG hd⟩;have gx:=zm h x.1 x.2;have gy:=zm h y.1 y.2;rw[yc,zJ];erw[ya,yM,yG,AL,AN,AU,AY,if_true,AM,A9,Ak,AS,AT,AW,xs_cons,xs_nil,x_asg,x_ite,x_ret,zI,th_nx,th_rt,nxO_some,zl,IC.ve1,IC.ve2,IC.ve3,IC.ve8,IC.ve16,IC.ve18,IC.ve19,IC.ve20,evs,fl_ok,bd_ok,bT_n,AQ,AR,AF,AE,ix0,ix1,ix2,ix3,toR_some,on_t,ono,t_bl,mget,b_add,b_sub,b_mul2,b_div2,zQ,zal,zcG,zaC,c_ne,c_lt,zz,zR,cond_true,cond_false,A5,if_false,zfu,zhi,zhy,zfj,zhB,zf9,zfx,zho,zhA,gx,gy,hp,mok h,z8 hW,zai hW hW3,zy hW4,c33,c43,zcS,zcU]
 first|rfl|(erw[stepM,rd];done)
def zju(k:Nat){n:Nat}{st:SO}{M:Mem}{L:Nat}{W m:Int}(h:Dc st n M L)(hL:L<999999)(hW:0<W)(hW2:W<18446744073709551616)(t x y:Cel):Done k n st M L W m (.less t x y):=by
 have hW3:W<18446744073709551616*18446744073709551616:=by lia
 have hW4:(W/2).natAbs<18446744073709551616:=by lia
 let⟨kvs,hp,hd⟩:=zB h hL t.1 t.2 ((M x.1 x.2-M y.1 y.2-m)%W);refine⟨_,?_,⟨_,rfl⟩,zG hd⟩;have gx:=zm h x.1 x.2;have gy:=zm h y.1 y.2;rw[yc,zJ];erw[ya,yM,yG,AL,AN,AU,AY,if_true,AM,A9,Ak,AS,AT,AW,xs_cons,xs_nil,x_asg,x_ite,x_ret,zI,th_nx,th_rt,nxO_some,zl,IC.ve1,IC.ve2,IC.ve3,IC.ve8,IC.ve16,IC.ve18,IC.ve19,IC.ve20,evs,fl_ok,bd_ok,bT_n,AQ,AR,AF,AE,ix0,ix1,ix2,ix3,toR_some,on_t,ono,t_bl,mget,b_add,b_sub,b_mul2,b_div2,zQ,zal,zcG,zaC,c_ne,c_lt,zz,zR,cond_true,cond_false,A5,if_false,zeA,zgb,zf7,zdV,zfN,zfp,zeC,zfR,zfs,gx,gy,hp,mok h,z8 hW,zai hW hW3,zy hW4,c33,c43,zcS,zcU]
 first|rfl|(erw[stepM,rd];done)
def ziJ(k:Nat){n:Nat}{st:SO}{M:Mem}{L:Nat}{W m:Int}(h:Dc st n M L)(hL:L<999999)(hW:0<W)(hW2:W<18446744073709551616)(t x y:Cel):Done k n st M L W m (.both t x y):=by
 have hW3:W<18446744073709551616*18446744073709551616:=by lia
 have hW4:(W/2).natAbs<18446744073709551616:=by lia
 let⟨kvs,hp,hd⟩:=zB h hL t.1 t.2 (An (M x.1 x.2) (M y.1 y.2));refine⟨_,?_,⟨_,rfl⟩,zG hd⟩;have gx:=zm h x.1 x.2;have gy:=zm h y.1 y.2;rw[yc,zJ];erw[ya,yM,yG,AL,AN,AU,AY,if_true,AM,A9,Ak,AS,AT,AW,xs_cons,xs_nil,x_asg,x_ite,x_ret,zI,th_nx,th_rt,nxO_some,zl,IC.ve1,IC.ve2,IC.ve3,IC.ve8,IC.ve16,IC.ve18,IC.ve19,IC.ve20,evs,fl_ok,bd_ok,bT_n,AQ,AR,AF,AE,ix0,ix1,ix2,ix3,toR_some,on_t,ono,t_bl,mget,b_add,b_sub,b_mul2,b_div2,zQ,zal,zcG,zaC,c_ne,c_lt,zz,zR,cond_true,cond_false,A5,if_false,zex,zf4,zfB,zec,zfQ,zeS,zeZ,zfL,zge,gx,gy,hp,mok h,z8 hW,zai hW hW3,zy hW4,c33,c43,zcS,zcU]
 first|rfl|(erw[stepM,rd];done)
def zli(k:Nat){n:Nat}{st:SO}{M:Mem}{L:Nat}{W m:Int}(h:Dc st n M L)(hL:L<999999)(hW:0<W)(hW2:W<18446744073709551616)(t x y:Cel):Done k n st M L W m (.any t x y):=by
 have hW3:W<18446744073709551616*18446744073709551616:=by lia
 have hW4:(W/2).natAbs<18446744073709551616:=by lia
 let⟨kvs,hp,hd⟩:=zB h hL t.1 t.2 (BR (M x.1 x.2) (M y.1 y.2));refine⟨_,?_,⟨_,rfl⟩,zG hd⟩;have gx:=zm h x.1 x.2;have gy:=zm h y.1 y.2;rw[yc,zJ];erw[ya,yM,yG,AL,AN,AU,AY,if_true,AM,A9,Ak,AS,AT,AW,xs_cons,xs_nil,x_asg,x_ite,x_ret,zI,th_nx,th_rt,nxO_some,zl,IC.ve1,IC.ve2,IC.ve3,IC.ve8,IC.ve16,IC.ve18,IC.ve19,IC.ve20,evs,fl_ok,bd_ok,bT_n,AQ,AR,AF,AE,ix0,ix1,ix2,ix3,toR_some,on_t,ono,t_bl,mget,b_add,b_sub,b_mul2,b_div2,zQ,zal,zcG,zaC,c_ne,c_lt,zz,zR,cond_true,cond_false,A5,if_false,zfK,zhk,zhQ,ze2,zhf,zfD,zgd,zht,zhc,gx,gy,hp,mok h,z8 hW,zai hW hW3,zy hW4,c33,c43,zcS,zcU]
 first|rfl|(erw[stepM,rd];done)
def zkW(k:Nat){n:Nat}{st:SO}{M:Mem}{L:Nat}{W m:Int}(h:Dc st n M L)(hL:L<999999)(hW:0<W)(hW2:W<18446744073709551616)(t x y:Cel):Done k n st M L W m (.odd t x y):=by
 have hW3:W<18446744073709551616*18446744073709551616:=by lia
 have hW4:(W/2).natAbs<18446744073709551616:=by lia
 let⟨kvs,hp,hd⟩:=zB h hL t.1 t.2 (Ar (M x.1 x.2) (M y.1 y.2));refine⟨_,?_,⟨_,rfl⟩,zG hd⟩;have gx:=zm h x.1 x.2;have gy:=zm h y.1 y.2;rw[yc,zJ];erw[ya,yM,yG,AL,AN,AU,AY,if_true,AM,A9,Ak,AS,AT,AW,xs_cons,xs_nil,x_asg,x_ite,x_ret,zI,th_nx,th_rt,nxO_some,zl,IC.ve1,IC.ve2,IC.ve3,IC.ve8,IC.ve16,IC.ve18,IC.ve19,IC.ve20,evs,fl_ok,bd_ok,bT_n,AQ,AR,AF,AE,ix0,ix1,ix2,ix3,toR_some,on_t,ono,t_bl,mget,b_add,b_sub,b_mul2,b_div2,zQ,zal,zcG,zaC,c_ne,c_lt,zz,zR,cond_true,cond_false,A5,if_false,zfP,zhx,zhq,zet,zhT,zfC,zf2,zhd,zhM,gx,gy,hp,mok h,z8 hW,zai hW hW3,zy hW4,c33,c43,zcS,zcU]
 first|rfl|(erw[stepM,rd];done)
def zq9{a b c d e:PV}{st:SO}{k:Bool}:yan .len st [.tp k [a,b,c,d,e]]=AA (.int 5):=rfl
theorem c53:ye .eq (.int 5) (.int 3)=AA (.bl AC):=rfl
def zh0(k:Nat){n:Nat}{st:SO}{M:Mem}{L:Nat}{W m:Int}(h:Dc st n M L)(hL:L+1<999999)(hW:0<W)(hW2:W<18446744073709551616)(l t x y:Cel)(hx:0<=rd M x)(hx2:rd M x<W):Done k n st M L W m (.times l t x y):=by
 have hW3:W<18446744073709551616*18446744073709551616:=by lia
 let⟨kvs,hp,hd⟩:=zB h ∅ l.1 l.2 (M x.1 x.2*M y.1 y.2%W);let⟨kvs2,hp2,hd2⟩:=zB hd ∅ t.1 t.2 (M x.1 x.2*M y.1 y.2/W);have hxa:(M x.1 x.2).natAbs<18446744073709551616:=by
  have h1:0<=M x.1 x.2:=hx;have h2:M x.1 x.2<W:=hx2;lia
 refine⟨_,?_,⟨_,by rw[CD]⟩,hd2⟩;have gx:=zm h x.1 x.2;have gy:=zm h y.1 y.2;rw[yc,zJ];erw[ya,yM,yG,AL,AN,AU,AY,if_true,AM,A9,Ak,AS,AT,AW,xs_cons,xs_nil,x_asg,x_ite,x_ret,zI,th_nx,th_rt,nxO_some,zl,IC.ve1,IC.ve2,IC.ve3,IC.ve8,IC.ve16,IC.ve18,IC.ve19,IC.ve20,evs,fl_ok,bd_ok,bT_n,AQ,AR,AF,AE,ix0,ix1,ix2,ix3,toR_some,on_t,ono,t_bl,mget,b_add,b_sub,b_mul2,b_div2,zQ,zal,zcG,zaC,c_ne,c_lt,zz,zR,cond_true,cond_false,A5,if_false,zed,zeR,zeY,zdk,gx,gy,hp,hp2,mok h, z8 hW,zai hW hW3,zaF hxa,c53,zq9,ix4]
 first|rfl|(erw[stepM,rd];done)
def zmy(k:Nat){n:Nat}{st:SO}{M:Mem}{L:Nat}{W m:Int}(h:Dc st n M L)(hL:L+1<999999)(hW:0<W)(hW2:W<18446744073709551616)(hg:∀c i,0<=M c i/\M c i<W)(r:Rw):Done k n st M L W m r:=by
 cases r
 .exact zjR k h ∅ hW hW2 _
 .exact zkn k h ∅ hW hW2 _
 .exact zlu k h ∅ hW hW2 _ _
 .exact zh4 k h ∅ hW hW2 _ _
 .exact ziR k h ∅ hW hW2 _ _
 .exact zhZ k h ∅ hW hW2 _ _
 .exact ziw k h ∅ hW hW2 _ _
 .exact zla k h ∅ hW hW2 _ _ _
 .exact zju k h ∅ hW hW2 _ _ _
 .exact ziJ k h ∅ hW hW2 _ _ _
 .exact zli k h ∅ hW hW2 _ _ _
 .exact zkW k h ∅ hW hW2 _ _ _
 .exact zh0 k h ∅ hW hW2 _ _ _ _ (hg _ _).1 (hg _ _).2
abbrev cZ:Cel:=(122,0)
abbrev cS:Cel:=(115,0)
abbrev cT:Cel:=(116,0)
def yu(f:Int->Rw):Nat->List Rw
 |0=>[]
 |n+1=>yu f n++[f n]
def yH(n:Nat)(f:Cel->Cel->Cel->Rw):List Rw:=yu (λi=>f (99,i) (97,i) (98,i)) n
def yq(n:Nat):List Rw:=[.set cS 0]++yu (λi=>Rw.any cS cS (99,i)) n++[.ask cS,.set (109,2) 1,.less (109,2) (109,2) cZ,.twice cT (99,(n:Int)-1),.sum (109,3) cZ cZ]
def yR(a b c:Cel):List Rw:=[.odd cT a b,.odd cS a c,.both cT cT cS,.twice cT cT,.sum (109,1) cZ cZ]
def yaz(n:Nat):List Rw:=[.mark 0]++yH n .sum++[.sum (109,0) cZ cZ]++yR (99,(n:Int)-1) (97,(n:Int)-1) (98,(n:Int)-1)++yq n
def yaf(n:Nat):List Rw:=[.mark 0]++yH n .less++[.sum (109,0) cZ cZ]++yR (97,(n:Int)-1) (98,(n:Int)-1) (99,(n:Int)-1)++yq n
def yam(n:Nat):List Rw:=[.mark 0]++yu (λi=>.less (99,i) cZ (97,i)) n++[.sum (109,0) cZ cZ]++yR cZ (97,(n:Int)-1) (99,(n:Int)-1)++yq n
def yaF(n:Nat):List Rw:=yu (λi=>.bare (99,i) (97,i)) n++yq n
def yaE(n:Nat):List Rw:=yaf n++[.odd (109,1) (109,1) (109,3),.set (109,3) 0]
def yal(f:Cel->Cel->Cel->Rw)(n:Nat):List Rw:=yH n f++yq n
def yr(W:Int):Nat->Int->List Int
 |0,_=>[]
 |n+1,x=>x%W::yr W n (x/W)
def zt(W:Int):∀n x,(yr W n x).length=n
 |0,_=>rfl
 |n+1,x=>by rw[yr,AL,zt]
def yaI(c:Nat):Nat->List Int->Mem->Mem
 |_,[],M=>M
 |i,v::vs,M=>yaI c (i+1) vs (upd M c i v)
def M0:Mem:=λ_ _=>0
def yx(W:Int)(n:Nat)(x y:Int):Mem:=yaI 98 0 (yr W n y) (yaI 97 0 (yr W n x) M0)
def yw(W:Int)(M:Mem)(c:Nat):Nat->Int
 |0=>0
 |n+1=>yw W M c n+M c n*W^n
def zog:∀(n x y:Nat),x<=n->(x ^^^ y)+(x &&& y)=x ||| y
 |n,x,y,h=>by
  by_cases hx:x=0
  .subst hx;simp
  .have ih:=zog (n-1) (x/2) (y/2) ∅;rw[<-Nat.xor_div_two,<-Nat.and_div_two,<-Nat.or_div_two]at ih;have m1:(x ^^^ y)%2=((x%2) ^^^ (y%2)):=by
    have:=F8 (a:=x) (b:=y) (n:=1);simpa using this
   have m2:(x &&& y)%2=((x%2) &&& (y%2)):=by
    have:=F9 (a:=x) (b:=y) (n:=1);simpa using this
   have m3:(x ||| y)%2=((x%2) ||| (y%2)):=by
    have:=Fz (a:=x) (b:=y) (n:=1);simpa using this
   rcases EH x with a|a<;>rcases EH y with b|b<;>rw[a,b]at m1 m2 m3<;>erw[Nat.reduceXor,Nat.reduceAnd,Nat.reduceOr]at m1 m2 m3<;>lia
def zey(x y:Nat):An (x:Int) (y:Int)=((x &&& y:Nat):Int):=by
 simp[An]
def zce(x y:Nat):BR (x:Int) (y:Int)=((x ||| y:Nat):Int):=by
 have h1:¬(0:Int)<=-(x:Int)-1:=by lia
 have h2:¬(0:Int)<=-(y:Int)-1:=by lia
 have h3:(-(-(x:Int)-1)-1).toNat=x:=by lia
 have h4:(-(-(y:Int)-1)-1).toNat=y:=by lia
 erw[BR,An,EI,h1,h2,decide_false,h3,h4];lia
def zeE(x y:Nat):Ar (x:Int) (y:Int)=((x ^^^ y:Nat):Int):=by
 have:=zog x x y (A0 x);rw[Ar,zce,zey];lia
theorem pw(w:Nat):((2^w:Nat):Int)=2^w:=by simp
def zlM{w:Nat}{a b:Int}(a0:0<=a)(b0:0<=b)(b1:b<2^w):0<=An a b/\An a b<2^w:=by
 obtain⟨x,rfl⟩:∃n:Nat,a=n:=⟨a.toNat,by lia⟩;obtain⟨y,rfl⟩:∃n:Nat,b=n:=⟨b.toNat,by lia⟩;rw[zey];rw[<-pw]at b1 ⊢;exact⟨by lia,by exact_mod_cast EJ x (by lia:y<2^w)⟩
def zgx{w:Nat}{a b:Int}(a0:0<=a)(a1:a<2^w)(b0:0<=b)(b1:b<2^w):0<=Ar a b/\Ar a b<2^w:=by
 obtain⟨x,rfl⟩:∃n:Nat,a=n:=⟨a.toNat,by lia⟩;obtain⟨y,rfl⟩:∃n:Nat,b=n:=⟨b.toNat,by lia⟩;rw[zeE];rw[<-pw]at a1 b1 ⊢;exact⟨by lia,by exact_mod_cast EK (by lia:x<2^w) (by lia:y<2^w)⟩
def zlO{w:Nat}{a b:Int}(a0:0<=a)(a1:a<2^w)(b0:0<=b)(b1:b<2^w):0<=BR a b/\BR a b<2^w:=by
 obtain⟨x,rfl⟩:∃n:Nat,a=n:=⟨a.toNat,by lia⟩;obtain⟨y,rfl⟩:∃n:Nat,b=n:=⟨b.toNat,by lia⟩;rw[zce];rw[<-pw]at a1 b1 ⊢;exact⟨by lia,by exact_mod_cast GR (by lia:x<2^w) (by lia:y<2^w)⟩
def ziO{a b:Int}(a0:0<=a)(b0:0<=b):BR a b=0 ↔ a=0/\b=0:=by
 obtain⟨x,rfl⟩:∃n:Nat,a=n:=⟨a.toNat,by lia⟩;obtain⟨y,rfl⟩:∃n:Nat,b=n:=⟨b.toNat,by lia⟩;rw[zce];have:=Nat.or_eq_zero_iff (n:=x) (m:=y);lia
def zbP{w x:Nat}(h:x<2^(w+1)):(2*(x:Int))/2^(w+1)=((x/2^w:Nat):Int)/\(x/2^w=0 \/ x/2^w=1):=by
 have hp:0<2^w:=FV ∅;constructor
 .rw[<-pw];have:(2*x)/2^(w+1)=x/2^w:=by
   rw[Ds,Cc 2 x,Nat.mul_div_mul_right _ _ ∅]
  rw[<-this];rfl
 .have:x/2^w<2:=Db (by rw[Ds]at h;lia);generalize x/2^w=q at this;lia
def tb(w:Nat)(a:Int):Int:=(2*a)/2^w
def zqj{w:Nat}(hw:0<w){a b:Int}(a0:0<=a)(a1:a<2^w)(b0:0<=b)(b1:b<2^w):tb w (An a b)=tb w a*tb w b:=by
 obtain⟨x,rfl⟩:∃n:Nat,a=n:=⟨a.toNat,by lia⟩;obtain⟨y,rfl⟩:∃n:Nat,b=n:=⟨b.toNat,by lia⟩;obtain⟨w,rfl⟩:∃v,w=v+1:=⟨w-1,by lia⟩;rw[<-pw]at a1 b1;have hx:=zbP (show x<2^(w+1)by lia);have hy:=zbP (show y<2^(w+1)by lia);have hz:=zbP (EJ x (show y<2^(w+1)by lia));rw[zey,tb,tb,tb,hx.1,hy.1,hz.1,Fa];rcases hx.2 with e|e<;>rcases hy.2 with f|f<;>rw[e,f]<;>rfl
def zl9{w:Nat}(hw:0<w){a b:Int}(a0:0<=a)(a1:a<2^w)(b0:0<=b)(b1:b<2^w):tb w (Ar a b)=(tb w a+tb w b)%2:=by
 obtain⟨x,rfl⟩:∃n:Nat,a=n:=⟨a.toNat,by lia⟩;obtain⟨y,rfl⟩:∃n:Nat,b=n:=⟨b.toNat,by lia⟩;obtain⟨w,rfl⟩:∃v,w=v+1:=⟨w-1,by lia⟩;rw[<-pw]at a1 b1;have hx:=zbP (show x<2^(w+1)by lia);have hy:=zbP (show y<2^(w+1)by lia);have hz:=zbP (EK (show x<2^(w+1)by lia) (show y<2^(w+1)by lia));rw[zeE,tb,tb,tb,hx.1,hy.1,hz.1,Fb];rcases hx.2 with e|e<;>rcases hy.2 with f|f<;>rw[e,f]<;>rfl
def zl4{w:Nat}(hw:0<w){a:Int}(a0:0<=a)(a1:a<2^w):tb w a=if 2^w<=2*a then 1 else 0:=by
 have h1:(0:Int)<2^w:=A1 ∅;unfold tb;split
 .rename_i h;exact Int.le_antisymm (Int.le_of_lt_add_one (BA h1 ∅)) (Ch h1 ∅)
 .exact Aq ∅ ∅
def Dg(W:Int)(M:Mem)(c n:Nat):Prop:=∀i:Nat,i<n->0<=M c i/\M c i<W
theorem Dg.mono{W:Int}{M:Mem}{c n:Nat}(h:Dg W M c (n+1)):Dg W M c n:=λi hi=>h i ∅
def zb{W:Int}{M M':Mem}{c c':Nat}:∀n,(∀i:Nat,i<n->M c i=M' c' i)->yw W M c n=yw W M' c' n
 |0,_=>rfl
 |n+1,h=>by rw[yw,yw,zb n λi hi=>h i ∅,h n ∅]
def zae{W:Int}(hW:0<W){M:Mem}{c:Nat}:∀n,Dg W M c n->0<=yw W M c n/\yw W M c n<W^n
 |0,_=>by simp[yw]
 |n+1,h=>by
  let⟨a,b⟩:=zae hW n h.mono;let⟨c0,c1⟩:=h n ∅;have hp:0<W^n:=A1 hW;have h1:0<=M c n*W^n:=C5 c0 ∅;have h2:M c n*W^n<=(W-1)*W^n:=BY ∅ ∅;rw[CG,BQ]at h2;rw[yw,Ab,Ad (W^n) W];lia
def zfn{W:Int}(hW:0<W){M:Mem}{c:Nat}:∀n,Dg W M c n->(yw W M c n=0 ↔ ∀i:Nat,i<n->M c i=0)
 |0,_=>by simp[yw]
 |n+1,h=>by
  have ih:=zfn hW n h.mono;let⟨a,b⟩:=zae hW n h.mono;let⟨c0,c1⟩:=h n ∅;have hp:0<W^n:=A1 hW;have h1:0<=M c n*W^n:=C5 c0 ∅;rw[yw];constructor
  .intro h2 i hi;have h3:M c n*W^n=0:=by omega
   rcases Ct i n with z|z
   .exact ih.1 ∅ i z
   .rw[show i=n by lia];rcases Int.mul_eq_zero.1 h3 with e|e
    .exact e
    .lia
  .intro h2;rw[h2 n ∅,ih.2 λi hi=>h2 i ∅];simp
def zT{w:Nat}(hw:0<w){M:Mem}{c n:Nat}(h:Dg (2^w) M c (n+1)):tb w (M c n)=if (2^w:Int)^(n+1)<=2*yw (2^w) M c (n+1)then 1 else 0:=by
 let⟨c0,c1⟩:=h n ∅;let⟨a,b⟩:=zae (A1 ∅) n h.mono;rw[zl4 hw c0 c1,yw];obtain⟨v,rfl⟩:∃v,w=v+1:=⟨w-1,by lia⟩;have hp:0<((2:Int)^(v+1))^n:=A1 (A1 ∅);rw[Ab ((2:Int)^(v+1)) n];generalize ((2:Int)^(v+1))^n=P,hV:yw (2^(v+1)) M c n=V at *;rw[Ab]at *;generalize (2:Int)^v=H,M c (n:Int)=d at *
 by_cases hd:H<=d
 .have h1:=BY hd (show 0<=P by lia);have h2:P*(H*2)=2*(H*P):=by rw[Ad P,BH,Ad 2 P,<-BH,Ad 2]
  rw[if_pos ∅,if_pos (by rw[h2];lia)]
 .have h1:=BY (show d<=H-1 by lia) (show 0<=P by lia);rw[CG,BQ]at h1;have h2:P*(H*2)=2*(H*P):=by rw[Ad P,BH,Ad 2 P,<-BH,Ad 2]
  rw[if_neg ∅,if_neg (by rw[h2];lia)]
def zgr{W:Int}(hW:0<W)(hW2:2<=W)(M:Mem)(k:Int)(k0:0<=k)(k1:k<=1):∀n,Dg W M 97 n->Dg W M 98 n ->
  (∀d j,(d≠99 \/ (n:Int)<=j)->(yj W (yH n .sum) M k).1 d j=M d j)/\Dg W (yj W (yH n .sum) M k).1 99 n/\0<=(yj W (yH n .sum) M k).2/\(yj W (yH n .sum) M k).2<=1/\yw W (yj W (yH n .sum) M k).1 99 n+(yj W (yH n .sum) M k).2*W^n=yw W M 97 n+yw W M 98 n+k
 |0,_,_=>⟨λ_ _ _=>rfl,λi hi=>by lia,k0,k1,by simp[yw,yH,yu,yj]⟩
 |n+1,ha,hb=>by
  let⟨h1,h2,h3,h4,h5⟩:=zgr hW hW2 M k k0 k1 n ha.mono hb.mono;have e:yH (n+1) .sum=yH n .sum++[.sum (99,n) (97,n) (98,n)]:=rfl;rw[e,zd];generalize yj W (yH n .sum) M k=R at *;let⟨M1,k'⟩:=R;simp only at *;let⟨a0,a1⟩:=ha n ∅;let⟨b0,b1⟩:=hb n ∅;erw[yj,stepM,rd,wr,h1 97 n (.inl ⋯),h1 98 n (.inl ⋯)];generalize hA:M 97 (n:Int)=A,hB:M 98 (n:Int)=B at *;have d1:=As (A+B+k') (show W≠0 by lia);have d2:=Aj (A+B+k') hW;have d3:=BJ (A+B+k') W;have d4:0<=(A+B+k')/W:=Bb ∅ ∅;have d5:(A+B+k')/W<2:=BA hW ∅;refine⟨λd j hd=>?_,λi hi=>?_,d4,by lia,?_⟩
  .unfold upd;rw[if_neg ∅,h1 d j ∅]
  .unfold upd
   by_cases hin:i=n
   .subst hin;rw[if_pos ⟨rfl,rfl⟩];exact⟨d1,d2⟩
   .rw[if_neg ∅];exact h2 i ∅
  .have hv:yw W (upd M1 99 (n:Int) ((A+B+k')%W)) 99 (n+1)=yw W M1 99 n+(A+B+k')%W*W^n:=by
    rw[yw,zb (M':=M1) (c':=99) n λi hi=>by unfold upd;rw[if_neg ∅]];unfold upd;rw[if_pos ⟨rfl,rfl⟩]
   rw[hv,yw,yw,hA,hB,Ab];generalize W^n=P,(A+B+k')%W=r,(A+B+k')/W=q at *;have e2:r=A+B+k'-W*q:=by lia
   subst e2;have e3:(A+B+k'-W*q)*P+q*(P*W)=A*P+B*P+k' * P:=by
    rw[CG,Cp,Cp,Ad W q,BH q W P,Ad W P];lia
   generalize (A+B+k'-W*q)*P=X1,q*(P*W)=X2 at *;lia
def zgL{W:Int}(M:Mem)(k:Int)(hS:0<=M 115 0):∀n,(∀i:Nat,i<n->0<=M 99 i) ->
  (yj W (yu (λi=>Rw.any cS cS (99,i)) n) M k).2=k/\(∀d j,d≠115->(yj W (yu (λi=>Rw.any cS cS (99,i)) n) M k).1 d j=M d j)/\0<=(yj W (yu (λi=>Rw.any cS cS (99,i)) n) M k).1 115 0/\((yj W (yu (λi=>Rw.any cS cS (99,i)) n) M k).1 115 0=0 ↔ M 115 0=0/\∀i:Nat,i<n->M 99 i=0)
 |0,_=>⟨rfl,λ_ _ _=>rfl,hS,by simp[yu,yj]⟩
 |n+1,h=>by
  let⟨h1,h2,h3,h4⟩:=zgL (W:=W) M k hS n λi hi=>h i ∅;rw[yu,zd];generalize yj W (yu (λi=>Rw.any cS cS (99,i)) n) M k=R at *;let⟨M1,k'⟩:=R;simp only at *;have hb:=h n ∅;erw[yj,stepM,rd,wr,cS,h2 99 n ⋯];have hz:=ziO h3 hb;refine⟨h1,λd j hd=>?_,?_,?_⟩
  .unfold upd;rw[if_neg ∅,h2 d j hd]
  .unfold upd;rw[if_pos ⟨rfl,rfl⟩];obtain⟨x,hx⟩:∃x:Nat,M1 115 0=x:=⟨(M1 115 0).toNat,by lia⟩;obtain⟨y,hy⟩:∃y:Nat,M 99 n=y:=⟨(M 99 n).toNat,by lia⟩;rw[hx,hy,zce];lia
  .unfold upd;rw[if_pos ⟨rfl,rfl⟩,hz,h4];constructor
   .rintro⟨⟨a,b⟩,c⟩
    refine⟨a,λi hi=>?_⟩;rcases Ct i n with z|z
    .exact b i z
    .rw[show i=n by lia];exact c
   .rintro⟨a,b⟩
    exact⟨⟨a,λi hi=>b i ∅⟩,b n ∅⟩
def zp{W:Int}{r:Rw}{rs:List Rw}{M:Mem}{k:Int}:yj W (r::rs) M k=yj W rs (stepM W M k r).1 (stepM W M k r).2:=rfl
def ze9(b:Bool):0<=bi b/\bi b<=1:=by cases b<;>decide
def zaV{w:Nat}(hw:1<w){n:Nat}(M:Mem)(k:Int)(hc:Dg (2^w) M 99 (n+1))(hz:M 122 0=0):
  (∀j,(yj (2^w) (yq (n+1)) M k).1 99 j=M 99 j)/\(yj (2^w) (yq (n+1)) M k).1 109 0=M 109 0/\(yj (2^w) (yq (n+1)) M k).1 109 1=M 109 1 /\
  (yj (2^w) (yq (n+1)) M k).1 109 2=bi (yw (2^w) M 99 (n+1)==0)/\(yj (2^w) (yq (n+1)) M k).1 109 3=bi (decide ((2^w:Int)^(n+1)<=2*yw (2^w) M 99 (n+1))):=by
 have hW:(0:Int)<2^w:=A1 ∅;have hW4:(4:Int)<=2^w:=by
  have h:(2:Nat)^2<=2^w:=Ac ∅ ∅;have h2:=pw w;lia
 let⟨h1,h2,h3,h4⟩:=zgL (W:=2^w) (wr M cS 0) k (by simp[wr,upd]) (n+1) (λi hi=>by simp[wr,upd];exact(hc i hi).1);have e:yq (n+1)=.set cS 0::(yu (λi=>Rw.any cS cS (99,i)) (n+1)++[.ask cS,.set (109,2) 1,.less (109,2) (109,2) cZ,.twice cT (99,((n+1:Nat):Int)-1),.sum (109,3) cZ cZ]):=rfl;have hst:stepM (2^w) M k (.set cS 0)=(wr M cS 0,k):=rfl;rw[e,zp,hst,zd];generalize yj (2^w) (yu (λi=>Rw.any cS cS (99,i)) (n+1)) (wr M cS 0) k=R at *;let⟨M1,k'⟩:=R;simp only at *;subst h1;have g:∀d j,d≠115->M1 d j=M d j:=λd j hd=>by
  rw[h2 d j hd];erw[wr,upd,cS];rw[if_neg ∅]
 have hn:((n+1:Nat):Int)-1=n:=by lia
 have h5:M1 115 0=0 ↔ yw (2^w) M 99 (n+1)=0:=by
  rw[h4,zfn hW (n+1) hc];constructor
  .rintro⟨_,b⟩ i hi
   have:=b i hi;simpa [wr,upd] using this
  .intro b;exact⟨by simp[wr,upd],λi hi=>by simpa [wr,upd] using b i hi⟩
 have ht:=zT ∅ hc;have hb:bi (!(M1 115 0==0))=1-bi (yw (2^w) M 99 (n+1)==0):=by
  by_cases hv:yw (2^w) M 99 (n+1)=0
  .rw[h5.2 hv,hv];rfl
  .have:¬M1 115 0=0:=λz=>hv (h5.1 z);rw[beq_eq_false_iff_ne.2 this,beq_eq_false_iff_ne.2 hv];rfl
 have hbr:=ze9 (yw (2^w) M 99 (n+1)==0);rw[hn];erw[yj,stepM,rd,wr,upd,cS,cT,cZ];rw[hb];generalize bi (yw (2^w) M 99 (n+1)==0)=v at *;have hm:bi (decide ((1:Int)-0-(1-v)<0))=0:=by
  rw[decide_eq_false ∅];rfl
 have hm2:(1-0-(1-v))%(2:Int)^w=v:=by
  rw[show 1-0-(1-v)=v by lia];exact AX ∅ ∅
 have hT:(2*M 99 n+0)/2^w=bi (decide ((2^w:Int)^(n+1)<=2*yw (2^w) M 99 (n+1))):=by
  rw[DR];show tb w (M 99 n)=_;rw[ht]
  by_cases q:(2^w:Int)^(n+1)<=2*yw (2^w) M 99 (n+1)
  .rw[if_pos q,decide_eq_true q];rfl
  .rw[if_neg q,decide_eq_false q];rfl
 have hTr:=ze9 (decide ((2^w:Int)^(n+1)<=2*yw (2^w) M 99 (n+1)));erw[D3,false_and,if_false,HK,and_false,and_self,if_true,g _ _ (show (99:Nat)≠115 by decide),g _ _ (show (109:Nat)≠115 by decide),g _ _ (show (122:Nat)≠115 by decide),hz,hm,hm2,hT];refine⟨λj=>trivial,trivial,trivial,trivial,?_⟩;rw[show (0:Int)+0+bi (decide ((2^w:Int)^(n+1)<=2*yw (2^w) M 99 (n+1)))=bi (decide ((2^w:Int)^(n+1)<=2*yw (2^w) M 99 (n+1)))by lia];exact AX ∅ ∅
def zbC{c d:Nat}(h:d≠c)(j:Int):∀(vs:List Int) (i:Nat) (M:Mem),yaI c i vs M d j=M d j
 |[],_,_=>rfl
 |v::vs,i,M=>by
  rw[yaI,zbC h j vs,upd,if_neg ∅]
def zc6{c:Nat}(j:Int):∀(vs:List Int) (i:Nat) (M:Mem),j<i->yaI c i vs M c j=M c j
 |[],_,_,_=>rfl
 |v::vs,i,M,h=>by
  rw[yaI,zc6 j vs (i+1) _ ∅,upd,if_neg ∅]
def zeb{c:Nat}:∀(vs:List Int) (i:Nat) (M:Mem) (k:Nat),k<vs.length->yaI c i vs M c ((i+k:Nat):Int)=vs.getD k 0
 |[],_,_,_,h=>by simp at h
 |v::vs,i,M,0,h=>by
  rw[yaI,zc6 _ vs (i+1) _ ∅,upd,if_pos ⟨rfl,by simp⟩];rfl
 |v::vs,i,M,k+1,h=>by
  rw[yaI,show i+(k+1)=i+1+k by lia,zeb vs (i+1) _ k (by simpa using h)];rfl
def zda{W:Int}(hW:0<W):∀(n:Nat) (x:Int) (k:Nat),k<n->(yr W n x).getD k 0=x/W^k%W
 |0,_,_,h=>by lia
 |n+1,x,0,h=>by simp[yr]
 |n+1,x,k+1,h=>by
  rw[yr];show (yr W n (x/W)).getD k 0=_;rw[zda hW n (x/W) k ∅,Ab,Ad (W^k),Am ∅]
def zbo{W x:Int}(hW:0<W)(n:Nat):x%W^(n+1)=x%W^n+x/W^n%W*W^n:=by
 have hp:0<W^n:=A1 hW;rw[Ab];generalize W^n=P at *;have e1:=BJ x P;have e2:=BJ (x/P) W;have a0:=As x (show P≠0 by lia);have a1:=Aj x hp;have b0:=As (x/P) (show W≠0 by lia);have b1:=Aj (x/P) hW;generalize x%P=r,x/P=q at *;generalize q%W=s,q/W=t at *;subst e2;have e3:x=r+s*P+P*W*t:=by
  rw[<-e1,HX,Ad P s,BH P W t];lia
 have c1:s*P<=(W-1)*P:=BY ∅ ∅;have c0:0<=s*P:=C5 b0 ∅;rw[CG,BQ]at c1;rw[e3,B8,AX ∅ (by rw[Ad P W];lia)]
def zcm{W:Int}(hW:0<W){M:Mem}{c:Nat}{x:Int}:∀n,(∀i:Nat,i<n->M c i=x/W^i%W)->yw W M c n=x%W^n
 |0,_=>by simp[yw,HL]
 |n+1,h=>by rw[yw,zcm hW n λi hi=>h i ∅,h n ∅,zbo hW]
section
variable {W:Int}(n:Nat)(x y:Int)
def zap{d:Nat}(h1:d≠97)(h2:d≠98)(j:Int):yx W n x y d j=0:=by
 rw[yx,zbC h2,zbC h1];rfl
variable (hW:0<W)
include hW
def zld{i:Nat}(h:i<n):yx W n x y 97 i=x/W^i%W:=by
 rw[yx,zbC ⋯];have:=zeb (c:=97) (yr W n x) 0 M0 i (by rw[zt];exact h);rw[AU]at this;rw[this,zda hW n x i h]
def zmq{i:Nat}(h:i<n):yx W n x y 98 i=y/W^i%W:=by
 rw[yx];have:=zeb (c:=98) (yr W n y) 0 (yaI 97 0 (yr W n x) M0) i (by rw[zt];exact h);rw[AU]at this;rw[this,zda hW n y i h]
def zdC:Dg W (yx W n x y) 97 n:=λi hi=>by
 rw[zld n x y hW hi];exact⟨As _ ∅,Aj _ hW⟩
def zl5:Dg W (yx W n x y) 98 n:=λi hi=>by
 rw[zmq n x y hW hi];exact⟨As _ ∅,Aj _ hW⟩
def zbe(h0:0<=x)(h1:x<W^n):yw W (yx W n x y) 97 n=x:=by
 rw[zcm hW n λi hi=>zld n x y hW hi,AX h0 h1]
def ziY(h0:0<=y)(h1:y<W^n):yw W (yx W n x y) 98 n=y:=by
 rw[zcm hW n λi hi=>zmq n x y hW hi,AX h0 h1]
end
def zeT{w:Nat}(hw:1<w)(M:Mem)(a b c:Cel)(ha:a.1≠115/\a.1≠116)(hb:b.1≠115/\b.1≠116)(hc:c.1≠115/\c.1≠116)(hz:M 122 0=0)
  (a0:0<=rd M a/\rd M a<2^w) (b0:0<=rd M b/\rd M b<2^w) (c0:0<=rd M c/\rd M c<2^w):
  (∀d j,d≠115->d≠116->(d≠109 \/ j≠1)->(yj (2^w) (yR a b c) M 0).1 d j=M d j)/\(yj (2^w) (yR a b c) M 0).2=0/\(yj (2^w) (yR a b c) M 0).1 109 1=(tb w (rd M a)+tb w (rd M b))%2*((tb w (rd M a)+tb w (rd M c))%2):=by
 have hW:(0:Int)<2^w:=A1 ∅;have hW4:(4:Int)<=2^w:=by
  have h:(2:Nat)^2<=2^w:=Ac ∅ ∅;have h2:=pw w;lia
 have x1:=zgx a0.1 a0.2 b0.1 b0.2;have x2:=zgx a0.1 a0.2 c0.1 c0.2;have t1:=zqj (by lia:0<w) x1.1 x1.2 x2.1 x2.2;rw[zl9 ∅ a0.1 a0.2 b0.1 b0.2,zl9 ∅ a0.1 a0.2 c0.1 c0.2]at t1;let⟨a1,a2⟩:=a;let⟨b1,b2⟩:=b;let⟨c1,c2⟩:=c;erw[rd]at *;have m1:=As (tb w (M a1 a2)+tb w (M b1 b2)) (show (2:Int)≠0 by decide);have m2:=Aj (tb w (M a1 a2)+tb w (M b1 b2)) (show (0:Int)<2 by decide);have m3:=As (tb w (M a1 a2)+tb w (M c1 c2)) (show (2:Int)≠0 by decide);have m4:=Aj (tb w (M a1 a2)+tb w (M c1 c2)) (show (0:Int)<2 by decide);have hr:0<=(tb w (M a1 a2)+tb w (M b1 b2))%2*((tb w (M a1 a2)+tb w (M c1 c2))%2)/\(tb w (M a1 a2)+tb w (M b1 b2))%2*((tb w (M a1 a2)+tb w (M c1 c2))%2)<=1:=by
  rcases (by lia:(tb w (M a1 a2)+tb w (M b1 b2))%2=0 \/ (tb w (M a1 a2)+tb w (M b1 b2))%2=1)with e|e<;>rw[e]<;>lia
 generalize (tb w (M a1 a2)+tb w (M b1 b2))%2*((tb w (M a1 a2)+tb w (M c1 c2))%2)=v at *;have n1:¬(c1=116):=hc.2;have n2:¬(a1=116):=ha.2;erw[yR,yj,stepM,rd,wr,upd,cS,cT,cZ,n1,n2,D3,false_and,if_false,and_self,if_true,hz,DR];unfold tb at t1;rw[t1];refine⟨λd j h1 h2 h3=>?_,?_,?_⟩
 .simp only[h1,h2,false_and,if_false];rw[if_neg ∅]
 .exact Aq ∅ ∅
 .rw[DS];exact AX ∅ ∅
def Good(w:Nat)(M:Mem)(k:Int):Prop:=(∀c i,0<=M c i/\M c i<2^w)/\0<=k/\k<=1
def okD:Rw->Prop
 |.mark d=>0<=d/\d<=1
 |.set _ d=>0<=d/\d<=1
 |_=>True
def zS{w:Nat}{M:Mem}(h:∀c i,0<=M c i/\M c i<2^w)(t:Cel){v:Int}(v0:0<=v)(v1:v<2^w):∀c i,0<=wr M t v c i/\wr M t v c i<2^w:=by
 intro c i;unfold wr upd;split
 .exact⟨v0,v1⟩
 .exact h c i
def zix{w:Nat}(hw:1<=w){M:Mem}{k:Int}(h:Good w M k){r:Rw}(hd:okD r):Good w (stepM (2^w) M k r).1 (stepM (2^w) M k r).2:=by
 let⟨g,k0,k1⟩:=h;have hW2:(2:Int)<=2^w:=by
  have h:(2:Nat)^1<=2^w:=Ac ∅ hw;have h2:=pw w;lia
 have hW0:(2:Int)^w≠0:=by lia
 have hWp:(0:Int)<2^w:=by lia
 have md:∀z:Int,0<=z%2^w/\z%2^w<2^w:=λz=>⟨As _ hW0,Aj _ hWp⟩;have dv:∀z:Int,0<=z->z<2*2^w->0<=z/2^w/\z/2^w<=1:=λz z0 z1=>⟨Bb z0 ∅,by
  have:=BA hWp (a:=z) (b:=2) ∅;lia⟩
 cases r with
 |mark d=>exact⟨g,hd⟩
 |ask x=>exact⟨g,ze9 _⟩
 |set t d=>exact⟨zS g t hd.1 (by have:=hd.2;lia),k0,k1⟩
 |move t x=>exact⟨zS g t (g _ _).1 (g _ _).2,k0,k1⟩
 |bare t x=>
  have:=g x.1 x.2;exact⟨zS g t (by erw[rd];lia) (by erw[rd];lia),k0,k1⟩
 |twice t x=>
  have:=g x.1 x.2;exact⟨zS g t (md _).1 (md _).2,dv _ (by erw[rd];lia) (by erw[rd];lia)⟩
 |half t x=>
  have:=g x.1 x.2;have hH:(2:Int)^w=2*(2^w/2):=by
   obtain⟨v,rfl⟩:∃v,w=v+1:=⟨w-1,by lia⟩;rw[Ab];lia
  have hk:k*(2^w/2)=0 \/ k*((2:Int)^w/2)=2^w/2:=by
   rcases (by lia:k=0 \/ k=1)with rfl|rfl
   .left;lia
   .right;lia
  refine⟨zS g t ?_ ?_,?_,?_⟩
  .simp only[rd];lia
  .simp only[rd];lia
  .simp only[stepM,rd];lia
  .simp only[stepM,rd];lia
 |sum t x y=>
  have:=g x.1 x.2;have:=g y.1 y.2;exact⟨zS g t (md _).1 (md _).2,dv _ (by erw[rd];lia) (by erw[rd];lia)⟩
 |less t x y=>exact⟨zS g t (md _).1 (md _).2,ze9 _⟩
 |both t x y=>
  have h:=zlM (w:=w) (g x.1 x.2).1 (g y.1 y.2).1 (g y.1 y.2).2;exact⟨zS g t h.1 h.2,k0,k1⟩
 |any t x y=>
  have h:=zlO (w:=w) (g x.1 x.2).1 (g x.1 x.2).2 (g y.1 y.2).1 (g y.1 y.2).2;exact⟨zS g t h.1 h.2,k0,k1⟩
 |odd t x y=>
  have h:=zgx (w:=w) (g x.1 x.2).1 (g x.1 x.2).2 (g y.1 y.2).1 (g y.1 y.2).2;exact⟨zS g t h.1 h.2,k0,k1⟩
 |times l t x y=>
  have a:=g x.1 x.2;have b:=g y.1 y.2;have p0:0<=M x.1 x.2*M y.1 y.2:=C5 a.1 b.1;have p1:M x.1 x.2*M y.1 y.2<2^w*2^w:=by
   rcases (by lia:M x.1 x.2=0 \/ 0<M x.1 x.2)with z|z
   .rw[z,CZ];exact HY hWp hWp
   .exact Int.lt_of_lt_of_le (Int.mul_lt_mul_of_pos_left b.2 z) (BY ∅ ∅)
  refine⟨zS (zS g l (md _).1 (md _).2) t ?_ ?_,k0,k1⟩
  .exact Bb p0 ∅
  .exact BA hWp p1
def zdb{w:Nat}{c:Nat}:∀(vs:List Int) (i:Nat) (M:Mem),(∀c i,0<=M c i/\M c i<2^w)->(∀v∈vs,0<=v/\v<2^w)->∀d j,0<=yaI c i vs M d j/\yaI c i vs M d j<2^w
 |[],_,_,h,_=>h
 |v::vs,i,M,h,hv=>by
  rw[yaI];refine zdb vs (i+1) _ (λc' j=>?_) λu hu=>hv u (A7 _ hu);unfold upd;split
  .exact hv v Ao
  .exact h c' j
def zbN{w:Nat}:∀(n:Nat) (x:Int),∀v∈yr (2^w) n x,0<=v/\v<2^w
 |0,_,v,h=>by cases h
 |n+1,x,v,h=>by
  have hWp:(0:Int)<2^w:=A1 ∅;rw[yr,BB]at h;rcases h with rfl|h
  .exact⟨As _ ∅,Aj _ hWp⟩
  .exact zbN n _ v h
def zkm{w:Nat}(hw:1<=w)(n:Nat)(x y:Int):Good w (yx (2^w) n x y) 0:=by
 have hWp:(0:Int)<2^w:=A1 ∅;exact⟨zdb _ _ _ (zdb _ _ _ (λc i=>⟨FW _,hWp⟩) (zbN n x)) (zbN n y),by lia,by lia⟩
def zkL{c:Cl}{N acc lo:Int}{st:SO}:exs c [AA (.int N),AA (.int acc),AA (.int lo)] st (.cons (.asg (.n 1) (.bin .mul (.cst (.int 2)) (.var 1))) .nil)=.nx [AA (.int N),AA (.int (2*acc)),AA (.int lo)] st:=by
 erw[xs_nil,xs_cons,x_asg,yaB,nxO,IC.ve1,IC.ve2,IC.ve3,R.bind,R.fl,yP,yC,binI,yaK,toR,AQ,AR,AF,AE];simp
def zh3(k n:Nat)(hn:n<1000)(st:SO):yc T (k+1) yhL [.int n] st=.ok (.int (2^n)) st:=by
 let⟨ρ',st',h,u,e1,e2⟩:=zbB (call:=yc T k) (t:=.n 2) (b:=.cons (.asg (.n 1) (.bin .mul (.cst (.int 2)) (.var 1))) .nil) (λi ρ st=>∃u,ρ=[AA (.int n),AA (.int (2^i)),u]/\st=[]) (yo n 0 1) 0 [AA (.int n),AA (.int 1),AD] [] ⟨_,rfl,rfl⟩ (by
  rintro j x ρ st hx ⟨u,rfl,rfl⟩
  have hx:∃i,x=.int i:=by
   have:∀(n:Nat) (a d:Int) (j:Nat) x,(yo n a d)[j]?=AA x->∃i,x=.int i:=by
    intro n
    induction n with
    |zero=>intro a d j x h;simp[yo]at h
    |succ n ih=>
     intro a d j x h
     cases j with
     |zero=>simp[yo]at h;exact⟨a,h.symm⟩
     |succ j=>simp[yo]at h;exact ih _ _ _ _ h
   exact this _ _ _ _ _ hx
  let⟨i,rfl⟩:=hx;exact⟨_,_,_,rfl,zkL,_,by rw[Ab,Ad],rfl⟩)
 have hl:(yo n 0 1).length=n:=by
  have:∀(n:Nat) (a d:Int),(yo n a d).length=n:=by
   intro n
   induction n with
   |zero=>intro a d;rfl
   |succ n ih=>intro a d;simp[yo,ih]
  exact this _ _ _
 rw[hl,AU]at e1;subst e1 e2;rw[yc,show T yhL=AA ygm from rfl];erw[ygm,AL,AN,if_true,nLs,nL,Bs,AM,A9,Ak,AS,AT,AW,xs_cons,xs_nil,x_asg,x_for,x_ret,yaB,nxO,IC.ve1,IC.ve2,R.fl,yP,AQ,AR,evi,R.bind,AF,ybu,toL];erw[show (n:Int).natAbs<1000000000 by lia,if_true,Bv,h];simp[nL]
def ydY:Css:=match ybc.body with
 |.cons _ (.cons _ (.cons _ (.cons _ (.cons _ (.cons _ (.cons (.for _ _ b) _))))))=>b
 |_=>.nil
def zgK(k:Nat){n w:Nat}(hw1:1<=w)(hW2:(2:Int)^w<18446744073709551616){p0 p1 p2 p3 p4 p5:Option PV}:∀(rs:List Rw) (M:Mem) (m:Int) (st:SO) (u:Option PV) (L:Nat),Dc st n M L->L+2*rs.length<999999->Good w M m->(∀r∈rs,okD r) ->
  ∃st' u',yaY (yc T (k+2)) (.n 9) ydY (rs.map yM) [p0,p1,p2,p3,p4,p5,AA (.loc n),AA (.int (2^w)),AA (.int m),u] st=.nx [p0,p1,p2,p3,p4,p5,AA (.loc n),AA (.int (2^w)),AA (.int (yj (2^w) rs M m).2),u'] st'/\(∃o,st'=st.set n o)/\Dc st' n (yj (2^w) rs M m).1 (L+2*rs.length)
 |[],M,m,st,u,L,h,_,_,_=>⟨st,u,by rw[A9,zx];rfl,zdO h,h⟩
 |r::rs,M,m,st,u,L,h,hl,hg,hd=>by
  rw[AL]at hl;have hW:(0:Int)<2^w:=A1 ∅;let⟨s1,h1,⟨o1,h2⟩,h3⟩:=zmy k (m:=m) h ∅ hW hW2 hg.1 r;have hg2:=zix hw1 hg (hd r Ao);let⟨s2,u2,e1,⟨o2,e2⟩,e3⟩:=zgK k hw1 hW2 (p0:=p0) (p1:=p1) (p2:=p2) (p3:=p3) (p4:=p4) (p5:=p5) rs _ (stepM (2^w) M m r).2 s1 (AA (yM r)) (L+2) h3 ∅ hg2 λq hq=>hd q (A7 _ hq);refine⟨s2,u2,?_,⟨o2,by rw[e2,h2,CD]⟩,by rw[AL,show L+2*(rs.length+1)=L+2+2*rs.length by lia];exact e3⟩;rw[AM,zk (ρ1:=[p0,p1,p2,p3,p4,p5,AA (.loc n),AA (.int (2^w)),AA (.int m),AA (yM r)]) rfl];have hb:exs (yc T (k+2)) [p0,p1,p2,p3,p4,p5,AA (.loc n),AA (.int (2^w)),AA (.int m),AA (yM r)] st ydY=.nx [p0,p1,p2,p3,p4,p5,AA (.loc n),AA (.int (2^w)),AA (.int (stepM (2^w) M m r).2),AA (yM r)] s1:=by
   erw[ydY,ybc,xs_cons,xs_nil,x_asg,IC.ve18,IC.ve2,evs,AF,AE,bd_ok,fl_ok,h1,bT_n,nxO_some,th_nx,AQ,AR]
  rw[hb];exact e1
def zdn{call:Cl}{W:Int}(hW:0<W)(hW2:W<18446744073709551616){p1 p2:Option PV}:∀(n:Nat) (a x:Int) (acc:List PV) (u:Option PV),acc.length+n<1000000 ->
  ∃x' u',yaY call (.n 5) (.cons (.expr (.mth .append (.var 4) (.cons (.bin .mod (.var 0) (.var 3)) .nil))) (.cons (.asg (.n 0) (.bin .fdiv (.var 0) (.var 3))) .nil)) (yo n a 1) [AA (.int x),p1,p2,AA (.int W),AA (.loc 0),u] [.lst acc]=.nx [AA (.int x'),p1,p2,AA (.int W),AA (.loc 0),u'] [.lst (acc++(yr W n x).map .int)]
 |0,a,x,acc,u,_=>⟨x,u,by rw[yo,zx];simp[yr]⟩
 |n+1,a,x,acc,u,h=>by
  let⟨x',u',e⟩:=zdn (call:=call) hW hW2 (p1:=p1) (p2:=p2) n (a+1) (x/W) (acc++[.int (x%W)]) (AA (.int a)) (by simp;lia);refine⟨x',u',?_⟩;have hW3:W<18446744073709551616*18446744073709551616:=by lia
  have hl:acc.length<1000000:=by lia
  rw[yo,zk (ρ1:=[AA (.int x),p1,p2,AA (.int W),AA (.loc 0),AA (.int a)]) rfl];have hm:yaA .append [Ob.lst acc] (.loc 0)=AA true:=rfl;have hap:ybl .append [Ob.lst acc] (.loc 0) [.int (x%W)]=.ok .non [.lst (acc++[.int (x%W)])]:=by
   simp[ybl,ydG,hl]
  erw[xs_cons,xs_nil,x_asg,x_expr,IC.ve20,IC.ve2,IC.ve3,evs,AF,AE,bd_ok,fl_ok,hm,ono,z8 hW,zai hW hW3,toR_some,hap,bT_n,nxO_some,th_nx,AQ,AR,yax];rw[e];simp[yr]
theorem words(k:Nat)(x:Int)(w n:Nat)(hw:w<=16)(hn:n<1000)(st:SO):yc T (k+2) yhM [.int x,.int w,.int n] st=.ok (.tup ((yr (2^w) n x).map .int)) st:=by
 have hW:(0:Int)<2^w:=A1 ∅;have hW2:(2:Int)^w<18446744073709551616:=by
  have h:(2:Nat)^w<=2^16:=Ac ∅ hw;have h2:((2^w:Nat):Int)=2^w:=by simp
  lia
 let⟨x',u',e⟩:=zdn (call:=yc T (k+1)) hW hW2 (p1:=AA (.int w)) (p2:=AA (.int n)) n 0 x [] AD (by simp;lia);have ht:=zh3 k w ∅ [];have hT:T yhM=AA ygC:=rfl;rw[yc,hT];erw[ygC,AL,AN,AU,AY,if_true,nLs,nL,Bs,AM,A9,Ak,AS,AT,AW,xs_cons,xs_nil,x_asg,x_for,x_ret,IC.ve18,IC.ve2,IC.ve13,IC.ve19,evs,evi,AF,AE,bd_ok,fl_ok,ht,bT_n,nxO_some,th_nx,AQ,AR,zbq n hn,toL,Cm,sizeMax,e];simp[yan,ydh,yK,toR,fl_ok,nL,noLocs_ints,R.fl,yaB]
def sgd(T x:Int):Int:=if T<=2*x then x-T else x
def yaP(T s:Int):Bool:=decide (0-T<=2*s)&&decide (2*s<T)
def zkc{T x y z k:Int}(x0:0<=x)(x1:x<T)(y0:0<=y)(y1:y<T)(r0:0<=z)(r1:z<T)(hk:k=0 \/ k=1)(s:z+k*T=x+y):k=bi (decide (T<=x+y))/\((if T<=2*z then 1 else 0)+if T<=2*x then(1:Int)else 0)%2*(((if T<=2*z then 1 else 0)+if T<=2*y then 1 else 0)%2)=bi (!yaP T (sgd T x+sgd T y)):=by
 constructor
 .rcases hk with rfl|rfl
  .rw[decide_eq_false ∅];rfl
  .rw[decide_eq_true ∅];rfl
 .unfold sgd yaP
  by_cases q1:T<=2*x<;>by_cases q2:T<=2*y<;>by_cases q3:T<=2*z<;>erw[q1,q2,q3,if_true,if_false]
  all_goals (rcases hk with rfl|rfl)
  all_goals first
   |(exfalso;lia)
   |(rw[decide_eq_true ∅,decide_eq_true ∅];rfl)
   |(rw[decide_eq_false ∅];rfl)
   |(rw[decide_eq_true ∅,decide_eq_false ∅];rfl)
def zkp{w:Nat}(hw:1<w){n:Nat}{x y:Int}(x0:0<=x)(x1:x<(2^w:Int)^(n+1))(y0:0<=y)(y1:y<(2^w:Int)^(n+1)):
  yw (2^w) (yj (2^w) (yaz (n+1)) (yx (2^w) (n+1) x y) 0).1 99 (n+1)=(x+y)%(2^w:Int)^(n+1) /\
  (yj (2^w) (yaz (n+1)) (yx (2^w) (n+1) x y) 0).1 109 0=bi (decide ((2^w:Int)^(n+1)<=x+y)) /\
  (yj (2^w) (yaz (n+1)) (yx (2^w) (n+1) x y) 0).1 109 1=bi (!yaP ((2^w:Int)^(n+1)) (sgd ((2^w:Int)^(n+1)) x+sgd ((2^w:Int)^(n+1)) y)) /\
  (yj (2^w) (yaz (n+1)) (yx (2^w) (n+1) x y) 0).1 109 2=bi ((x+y)%(2^w:Int)^(n+1)==0) /\
  (yj (2^w) (yaz (n+1)) (yx (2^w) (n+1) x y) 0).1 109 3=bi (decide ((2^w:Int)^(n+1)<=2*((x+y)%(2^w:Int)^(n+1)))):=by
 have hW:(0:Int)<2^w:=A1 ∅;have hW4:(4:Int)<=2^w:=by
  have h:(2:Nat)^2<=2^w:=Ac ∅ ∅;have h2:=pw w;lia
 have e:yaz (n+1)=.mark 0::(yH (n+1) .sum++(.sum (109,0) cZ cZ::(yR (99,((n+1:Nat):Int)-1) (97,((n+1:Nat):Int)-1) (98,((n+1:Nat):Int)-1)++yq (n+1)))):=by
  simp[yaz,BZ]
 have hn:((n+1:Nat):Int)-1=n:=by lia
 have da:=zdC (n+1) x y hW;have db:=zl5 (n+1) x y hW;have va:=zbe (n+1) x y hW x0 x1;have vb:=ziY (n+1) x y hW y0 y1;have zo:yx (2^w) (n+1) x y 122 0=0:=zap _ _ _ ⋯ ⋯ _;generalize yx (2^w) (n+1) x y=M at *;let⟨s1,s2,s3,s4,s5⟩:=zgr hW ∅ M 0 ∅ ∅ (n+1) da db;have hs0:stepM (2^w) M 0 (.mark 0)=(M,0):=rfl;rw[e,zp,hs0,zd,zp,hn];generalize yj (2^w) (yH (n+1) .sum) M 0=R at *;let⟨M1,k1⟩:=R;simp only at *;have z1:M1 122 0=0:=by rw[s1 122 0 (.inl ⋯),zo]
 have hs:stepM (2^w) M1 k1 (.sum (109,0) cZ cZ)=(wr M1 (109,0) k1,0):=by
  erw[stepM,rd,cZ,z1];rw[show (0:Int)+0+k1=k1 by lia,AX s3 ∅,Aq s3 ∅]
 rw[hs,zd];simp only;have g2:∀d j,(d≠109 \/ j≠0)->wr M1 (109,0) k1 d j=M1 d j:=λd j h=>by
  erw[wr,upd];rw[if_neg ∅]
 have g3:wr M1 (109,0) k1 109 0=k1:=by simp[wr,upd]
 generalize wr M1 (109,0) k1=M2 at *;have ga:∀j,M2 97 j=M 97 j:=λj=>by rw[g2 97 j (.inl ⋯),s1 97 j (.inl ⋯)]
 have gb:∀j,M2 98 j=M 98 j:=λj=>by rw[g2 98 j (.inl ⋯),s1 98 j (.inl ⋯)]
 have gc:∀j,M2 99 j=M1 99 j:=λj=>g2 99 j (.inl ⋯);have da2:Dg (2^w) M2 97 (n+1):=λi hi=>by rw[ga];exact da i hi
 have db2:Dg (2^w) M2 98 (n+1):=λi hi=>by rw[gb];exact db i hi
 have dc2:Dg (2^w) M2 99 (n+1):=λi hi=>by rw[gc];exact s2 i hi
 have ta:=zT ∅ da2;have tb':=zT ∅ db2;have tc:=zT ∅ dc2;rw[zb (M':=M) (c':=97) _ λi hi=>ga i,va]at ta;rw[zb (M':=M) (c':=98) _ λi hi=>gb i,vb]at tb';let⟨r0,r1⟩:=zae hW (n+1) dc2;have vc:yw (2^w) M2 99 (n+1)=yw (2^w) M1 99 (n+1):=zb _ λi hi=>gc i;rw[<-vc,va,vb]at s5;let⟨l1,l2,l3⟩:=zeT hw M2 (99,n) (97,n) (98,n) ⟨by simp,by simp⟩ ⟨by simp,by simp⟩ ⟨by simp,by simp⟩ (by rw[g2 122 0 (.inl ⋯),z1]) (dc2 n ∅) (da2 n ∅) (db2 n ∅);generalize yj (2^w) (yR (99,(n:Int)) (97,(n:Int)) (98,(n:Int))) M2 0=R at *;let⟨M3,k3⟩:=R;simp only at *;have gc3:∀j,M3 99 j=M2 99 j:=λj=>l1 99 j ⋯ ⋯ (.inl ⋯);have dc3:Dg (2^w) M3 99 (n+1):=λi hi=>by rw[gc3];exact dc2 i hi
 have vc3:yw (2^w) M3 99 (n+1)=yw (2^w) M2 99 (n+1):=zb _ λi hi=>gc3 i;let⟨e1,e2,e3,e4,e5⟩:=zaV hw M3 k3 dc3 (by rw[l1 122 0 ⋯ ⋯ (.inl ⋯),g2 122 0 (.inl ⋯),z1]);rw[zb (M':=M3) (c':=99) _ λi hi=>e1 i,e2,e3,e4,e5,vc3,l1 109 0 ⋯ ⋯ (.inr ⋯),g3,l3];erw[rd];rw[tc,ta,tb'];generalize yw (2^w) M2 99 (n+1)=z,(2^w:Int)^(n+1)=T at *;have hz:(x+y)%T=z:=by
  rw[show x+y=z+k1*T by lia,CF,AX r0 r1]
 have hk:k1=0 \/ k1=1:=by lia
 rw[hz];let⟨o1,o2⟩:=zkc x0 x1 y0 y1 r0 r1 hk ∅;exact⟨rfl,o1,o2,rfl,rfl⟩
def yaX(W:Int)(f:Nat->Int):Nat->Int
 |0=>0
 |n+1=>yaX W f n+f n*W^n
def zgE(W:Int)(M:Mem)(c:Nat):∀n,yaX W (λi=>M c i) n=yw W M c n
 |0=>rfl
 |n+1=>by rw[yaX,yw,zgE W M c n]
def zlX(W:Int):∀n,yaX W (λ_=>0) n=0
 |0=>rfl
 |n+1=>by rw[yaX,zlX W n];simp
def zeg{W:Int}(hW:0<W)(M:Mem)(k:Int)(k0:0<=k)(k1:k<=1)(X Y:Int->Cel)(hX:∀i,(X i).1≠99)(hY:∀i,(Y i).1≠99):∀n:Nat,(∀i:Nat,i<n->0<=rd M (X i)/\rd M (X i)<W)->(∀i:Nat,i<n->0<=rd M (Y i)/\rd M (Y i)<W) ->
  (∀d j,(d≠99 \/ (n:Int)<=j)->(yj W (yu (λi=>.less (99,i) (X i) (Y i)) n) M k).1 d j=M d j)/\Dg W (yj W (yu (λi=>.less (99,i) (X i) (Y i)) n) M k).1 99 n/\0<=(yj W (yu (λi=>.less (99,i) (X i) (Y i)) n) M k).2/\(yj W (yu (λi=>.less (99,i) (X i) (Y i)) n) M k).2<=1/\yw W (yj W (yu (λi=>.less (99,i) (X i) (Y i)) n) M k).1 99 n-(yj W (yu (λi=>.less (99,i) (X i) (Y i)) n) M k).2*W^n=yaX W (λi=>rd M (X i)) n-yaX W (λi=>rd M (Y i)) n-k
 |0,_,_=>⟨λ_ _ _=>rfl,λi hi=>by lia,k0,k1,by simp[yw,yaX,yu,yj]⟩
 |n+1,ha,hb=>by
  let⟨h1,h2,h3,h4,h5⟩:=zeg hW M k k0 k1 X Y hX hY n (λi hi=>ha i ∅) (λi hi=>hb i ∅);rw[yu,zd];generalize yj W (yu (λi=>.less (99,i) (X i) (Y i)) n) M k=R at *;let⟨M1,k'⟩:=R;simp only at *;let⟨a0,a1⟩:=ha n ∅;let⟨b0,b1⟩:=hb n ∅;have rx:rd M1 (X n)=rd M (X n):=h1 _ _ (.inl (hX _));have ry:rd M1 (Y n)=rd M (Y n):=h1 _ _ (.inl (hY _));erw[yj,stepM,wr,rx,ry];rw[yaX,yaX];generalize rd M (X n)=A,rd M (Y n)=B at *;have hq:∃q,0<=q/\q<=1/\bi (decide (A-B-k' < 0))=q/\(A-B-k')%W=A-B-k'+q*W:=by
   by_cases hl:A-B-k' < 0
   .refine⟨1,by lia,by lia,by rw[decide_eq_true hl];rfl,?_⟩;rw[BQ,<-EL];exact AX ∅ ∅
   .refine⟨0,by lia,by lia,by rw[decide_eq_false hl];rfl,?_⟩;rw[CZ,DR];exact AX ∅ ∅
  let⟨q,q0,q1,e1,e2⟩:=hq;have d1:=As (A-B-k') (show W≠0 by lia);have d2:=Aj (A-B-k') hW;rw[e1];refine⟨λd j hd=>?_,λi hi=>?_,q0,q1,?_⟩
  .unfold upd;rw[if_neg ∅,h1 d j ∅]
  .unfold upd
   by_cases hin:i=n
   .subst hin;rw[if_pos ⟨rfl,rfl⟩];exact⟨d1,d2⟩
   .rw[if_neg ∅];exact h2 i ∅
  .have hv:yw W (upd M1 99 (n:Int) ((A-B-k')%W)) 99 (n+1)=yw W M1 99 n+(A-B-k')%W*W^n:=by
    rw[yw,zb (M':=M1) (c':=99) n λi hi=>by unfold upd;rw[if_neg ∅]];unfold upd;rw[if_pos ⟨rfl,rfl⟩]
   rw[hv,e2,Ab];generalize W^n=P at *;have e3:(A-B-k'+q*W)*P-q*(P*W)=A*P-B*P-k' * P:=by
    rw[Cp,CG,CG,BH q W P,Ad W P];lia
   generalize (A-B-k'+q*W)*P=X1,q*(P*W)=X2 at *;lia
def zfa{w:Nat}(hw:1<w){n:Nat}(M:Mem)(X Y:Int->Cel)(L0 L1:Cel)(hX:∀i,(X i).1≠99)(hY:∀i,(Y i).1≠99)
  (ha:∀i:Nat,i<n+1->0<=rd M (X i)/\rd M (X i)<2^w) (hb:∀i:Nat,i<n+1->0<=rd M (Y i)/\rd M (Y i)<2^w) (zo:M 122 0=0)
  (hL0:L0=X n) (hL1:L1=Y n) (l0:L0.1≠115/\L0.1≠116/\L0.1≠109) (l1:L1.1≠115/\L1.1≠116/\L1.1≠109):
  ∃z k1,0<=z/\z<(2^w:Int)^(n+1)/\(k1=0 \/ k1=1)/\z-k1*(2^w:Int)^(n+1)=yaX (2^w) (λi=>rd M (X i)) (n+1)-yaX (2^w) (λi=>rd M (Y i)) (n+1) /\
   ∃M4 k4,yj (2^w) (.mark 0::(yu (λi=>.less (99,i) (X i) (Y i)) (n+1)++(.sum (109,0) cZ cZ::(yR L0 L1 (99,n)++yq (n+1))))) M 0=(M4,k4) /\
    yw (2^w) M4 99 (n+1)=z/\M4 109 0=k1/\M4 109 1=(tb w (rd M L0)+tb w (rd M L1))%2*((tb w (rd M L0)+if (2^w:Int)^(n+1)<=2*z then 1 else 0)%2)/\M4 109 2=bi (z==0)/\M4 109 3=bi (decide ((2^w:Int)^(n+1)<=2*z)):=by
 have hW:(0:Int)<2^w:=A1 ∅;have hW4:(4:Int)<=2^w:=by
  have h:(2:Nat)^2<=2^w:=Ac ∅ ∅;have h2:=pw w;lia
 let⟨s1,s2,s3,s4,s5⟩:=zeg hW M 0 ∅ ∅ X Y hX hY (n+1) ha hb;have hs0:stepM (2^w) M 0 (.mark 0)=(M,0):=rfl;rw[zp,hs0,zd,zp];generalize yj (2^w) (yu (λi=>.less (99,i) (X i) (Y i)) (n+1)) M 0=R at *;let⟨M1,k1⟩:=R;simp only at *;have z1:M1 122 0=0:=by rw[s1 122 0 (.inl ⋯),zo]
 have hs:stepM (2^w) M1 k1 (.sum (109,0) cZ cZ)=(wr M1 (109,0) k1,0):=by
  erw[stepM,rd,cZ,z1];rw[show (0:Int)+0+k1=k1 by lia,AX s3 ∅,Aq s3 ∅]
 rw[hs,zd];simp only;have g2:∀d j,(d≠109 \/ j≠0)->wr M1 (109,0) k1 d j=M1 d j:=λd j h=>by
  erw[wr,upd];rw[if_neg ∅]
 have g3:wr M1 (109,0) k1 109 0=k1:=by simp[wr,upd]
 generalize wr M1 (109,0) k1=M2 at *;have gc:∀j,M2 99 j=M1 99 j:=λj=>g2 99 j (.inl ⋯);have dc2:Dg (2^w) M2 99 (n+1):=λi hi=>by rw[gc];exact s2 i hi
 have tc:=zT ∅ dc2;let⟨r0,r1⟩:=zae hW (n+1) dc2;have vc:yw (2^w) M2 99 (n+1)=yw (2^w) M1 99 (n+1):=zb _ λi hi=>gc i;rw[<-vc]at s5;have n0:L0.1≠99:=by rw[hL0];exact hX _
 have n1:L1.1≠99:=by rw[hL1];exact hY _
 have q0:rd M2 L0=rd M L0:=by
  show M2 L0.1 L0.2=M L0.1 L0.2;rw[g2 _ _ (.inl l0.2.2),s1 _ _ (.inl n0)]
 have q1:rd M2 L1=rd M L1:=by
  show M2 L1.1 L1.2=M L1.1 L1.2;rw[g2 _ _ (.inl l1.2.2),s1 _ _ (.inl n1)]
 have a0:=ha n ∅;have b0:=hb n ∅;rw[<-hL0,<-q0]at a0;rw[<-hL1,<-q1]at b0;let⟨e1,e2,e3⟩:=zeT hw M2 L0 L1 (99,n) ⟨l0.1,l0.2.1⟩ ⟨l1.1,l1.2.1⟩ ⟨by simp,by simp⟩ (by rw[g2 122 0 (.inl ⋯),z1]) a0 b0 (dc2 n ∅);rw[q0,q1,show rd M2 (99,(n:Int))=M2 99 n from rfl,tc]at e3;generalize yj (2^w) (yR L0 L1 (99,(n:Int))) M2 0=R at *;let⟨M3,k3⟩:=R;simp only at *;have gc3:∀j,M3 99 j=M2 99 j:=λj=>e1 99 j ⋯ ⋯ (.inl ⋯);have dc3:Dg (2^w) M3 99 (n+1):=λi hi=>by rw[gc3];exact dc2 i hi
 have vc3:yw (2^w) M3 99 (n+1)=yw (2^w) M2 99 (n+1):=zb _ λi hi=>gc3 i;let⟨f1,f2,f3,f4,f5⟩:=zaV hw M3 k3 dc3 (by rw[e1 122 0 ⋯ ⋯ (.inl ⋯),g2 122 0 (.inl ⋯),z1]);refine⟨yw (2^w) M2 99 (n+1),k1,r0,r1,by lia,by lia,(yj (2^w) (yq (n+1)) M3 k3).1,(yj (2^w) (yq (n+1)) M3 k3).2,rfl,?_,?_,?_,?_,?_⟩
 .rw[zb (M':=M3) (c':=99) _ λi hi=>f1 i,vc3]
 .rw[f2,e1 109 0 ⋯ ⋯ (.inr ⋯),g3]
 .rw[f3,e3]
 .rw[f4,vc3]
 .rw[f5,vc3]
def zjq{T x y z k:Int}(x0:0<=x)(x1:x<T)(y0:0<=y)(y1:y<T)(r0:0<=z)(r1:z<T)(hk:k=0 \/ k=1)(s:z-k*T=x-y):k=bi (decide (x<y))/\((if T<=2*x then 1 else 0)+if T<=2*y then(1:Int)else 0)%2*(((if T<=2*x then 1 else 0)+if T<=2*z then 1 else 0)%2)=bi (!yaP T (sgd T x-sgd T y)):=by
 constructor
 .rcases hk with rfl|rfl
  .rw[decide_eq_false ∅];rfl
  .rw[decide_eq_true ∅];rfl
 .unfold sgd yaP
  by_cases q1:T<=2*x<;>by_cases q2:T<=2*y<;>by_cases q3:T<=2*z<;>erw[q1,q2,q3,if_true,if_false]
  all_goals (rcases hk with rfl|rfl)
  all_goals first
   |(exfalso;lia)
   |(rw[decide_eq_true ∅,decide_eq_true ∅];rfl)
   |(rw[decide_eq_false ∅];rfl)
   |(rw[decide_eq_true ∅,decide_eq_false ∅];rfl)
def zez{w:Nat}(hw:1<w){n:Nat}{x y:Int}(x0:0<=x)(x1:x<(2^w:Int)^(n+1))(y0:0<=y)(y1:y<(2^w:Int)^(n+1)):
  yw (2^w) (yj (2^w) (yaf (n+1)) (yx (2^w) (n+1) x y) 0).1 99 (n+1)=(x-y)%(2^w:Int)^(n+1) /\
  (yj (2^w) (yaf (n+1)) (yx (2^w) (n+1) x y) 0).1 109 0=bi (decide (x<y)) /\
  (yj (2^w) (yaf (n+1)) (yx (2^w) (n+1) x y) 0).1 109 1=bi (!yaP ((2^w:Int)^(n+1)) (sgd ((2^w:Int)^(n+1)) x-sgd ((2^w:Int)^(n+1)) y)) /\
  (yj (2^w) (yaf (n+1)) (yx (2^w) (n+1) x y) 0).1 109 2=bi ((x-y)%(2^w:Int)^(n+1)==0) /\
  (yj (2^w) (yaf (n+1)) (yx (2^w) (n+1) x y) 0).1 109 3=bi (decide ((2^w:Int)^(n+1)<=2*((x-y)%(2^w:Int)^(n+1)))):=by
 have hW:(0:Int)<2^w:=A1 ∅;have hn:((n+1:Nat):Int)-1=n:=by lia
 have e:yaf (n+1)=.mark 0::(yu (λi=>.less (99,i) (97,i) (98,i)) (n+1)++(.sum (109,0) cZ cZ::(yR (97,n) (98,n) (99,n)++yq (n+1)))):=by
  erw[yaf,yH,hn,BZ,AT,AW]
 have da:=zdC (n+1) x y hW;have db:=zl5 (n+1) x y hW;let⟨z,k1,r0,r1,hk,s5,M4,k4,e0,v1,v2,v3,v4,v5⟩:=zfa hw (n:=n) (yx (2^w) (n+1) x y) (λi=>(97,i)) (λi=>(98,i)) (97,n) (98,n) (λ_=>by simp) (λ_=>by simp) (λi hi=>da i hi) (λi hi=>db i hi) (zap _ _ _ ⋯ ⋯ _) rfl rfl ⟨by simp,by simp,by simp⟩ ⟨by simp,by simp,by simp⟩;rw[e,e0];erw[rd]at v3 s5;rw[zgE (2^w) (yx (2^w) (n+1) x y) 97,zgE (2^w) (yx (2^w) (n+1) x y) 98,zbe (n+1) x y hW x0 x1,ziY (n+1) x y hW y0 y1]at s5;rw[zT ∅ da,zT ∅ db,zbe (n+1) x y hW x0 x1,ziY (n+1) x y hW y0 y1]at v3;generalize (2^w:Int)^(n+1)=T at *;have hz:(x-y)%T=z:=by
  rw[show x-y=z+(-k1)*T by rw[HZ];lia,CF,AX r0 r1]
 erw[v1,v2,v3,v4,v5,hz];let⟨o1,o2⟩:=zjq x0 x1 y0 y1 r0 r1 hk ∅;exact⟨trivial,o1,o2,trivial,trivial⟩
def zi8{w:Nat}(hw:1<w){n:Nat}{x y:Int}(x0:0<=x)(x1:x<(2^w:Int)^(n+1)):
  yw (2^w) (yj (2^w) (yam (n+1)) (yx (2^w) (n+1) x y) 0).1 99 (n+1)=(0-x)%(2^w:Int)^(n+1) /\
  (yj (2^w) (yam (n+1)) (yx (2^w) (n+1) x y) 0).1 109 0=bi (!(x==0)) /\
  (yj (2^w) (yam (n+1)) (yx (2^w) (n+1) x y) 0).1 109 1=bi (2*x==(2^w:Int)^(n+1)) /\
  (yj (2^w) (yam (n+1)) (yx (2^w) (n+1) x y) 0).1 109 2=bi ((0-x)%(2^w:Int)^(n+1)==0) /\
  (yj (2^w) (yam (n+1)) (yx (2^w) (n+1) x y) 0).1 109 3=bi (decide ((2^w:Int)^(n+1)<=2*((0-x)%(2^w:Int)^(n+1)))):=by
 have hW:(0:Int)<2^w:=A1 ∅;have hn:((n+1:Nat):Int)-1=n:=by lia
 have e:yam (n+1)=.mark 0::(yu (λi=>.less (99,i) ((λ_=>cZ) i) ((λi=>(97,i)) i)) (n+1)++(.sum (109,0) cZ cZ::(yR cZ (97,n) (99,n)++yq (n+1)))):=by
  erw[yam,hn,BZ,AT,AW]
 have da:=zdC (n+1) x y hW;have zo:yx (2^w) (n+1) x y 122 0=0:=zap _ _ _ ⋯ ⋯ _;let⟨z,k1,r0,r1,hk,s5,M4,k4,e0,v1,v2,v3,v4,v5⟩:=zfa hw (n:=n) (yx (2^w) (n+1) x y) (λ_=>cZ) (λi=>(97,i)) cZ (97,n) (λ_=>by simp) (λ_=>by simp) (λi hi=>by erw[rd,cZ,zo];lia) (λi hi=>da i hi) zo rfl rfl ⟨by simp,by simp,by simp⟩ ⟨by simp,by simp,by simp⟩;rw[e,e0];erw[rd,cZ,zo]at v3 s5;rw[zlX,zgE (2^w) (yx (2^w) (n+1) x y) 97,zbe (n+1) x y hW x0 x1]at s5;rw[zT ∅ da,zbe (n+1) x y hW x0 x1,show tb w 0=0 by simp[tb]]at v3;generalize (2^w:Int)^(n+1)=T at *;have hz:(0-x)%T=z:=by
  rw[show 0-x=z+(-k1)*T by rw[HZ];lia,CF,AX r0 r1]
 erw[v1,v2,v3,v4,v5,hz];refine⟨trivial,?_,?_,trivial,trivial⟩
 .rcases hk with rfl|rfl
  .rw[show x=0 by lia];rfl
  .rw[beq_eq_false_iff_ne.2 ∅];rfl
 .rcases hk with rfl|rfl<;>by_cases q1:T<=2*x<;>by_cases q3:T<=2*z<;>erw[q1,q3,if_true,if_false]
  all_goals first
   |(exfalso;lia)
   |(rw[beq_eq_false_iff_ne.2 ∅];rfl)
   |(rw[beq_iff_eq.2 ∅];rfl)
def zcA{W:Int}(M:Mem)(k:Int)(f:Int->Rw)(g:Int->Int)(hf:∀(M1:Mem) (i:Int),(∀d j,d≠99->M1 d j=M d j)->stepM W M1 k (f i)=(wr M1 (99,i) (g i),k)):∀n:Nat,
  (yj W (yu f n) M k).2=k/\(∀d j,d≠99->(yj W (yu f n) M k).1 d j=M d j)/\∀i:Nat,i<n->(yj W (yu f n) M k).1 99 i=g i
 |0=>⟨rfl,λ_ _ _=>rfl,λi hi=>by lia⟩
 |n+1=>by
  let⟨h1,h2,h3⟩:=zcA M k f g hf n;rw[yu,zd];generalize yj W (yu f n) M k=R at *;let⟨M1,k'⟩:=R;simp only at *;subst h1;erw[yj,hf M1 n h2];refine⟨trivial,λd j hd=>?_,λi hi=>?_⟩
  .simp only[wr,upd];rw[if_neg ∅,h2 d j hd]
  .simp only[wr,upd]
   by_cases hin:i=n
   .subst hin;rw[if_pos ⟨trivial,rfl⟩]
   .rw[if_neg ∅];exact h3 i ∅
def zgw{w:Nat}(hw:1<w){n:Nat}(M:Mem)(f:Int->Rw)(g:Int->Int)(hf:∀(M1:Mem) (i:Int),(∀d j,d≠99->M1 d j=M d j)->stepM (2^w) M1 0 (f i)=(wr M1 (99,i) (g i),0))(hg:∀i:Nat,i<n+1->0<=g i/\g i<2^w)(zo:M 122 0=0)(m0:M 109 0=0)(m1:M 109 1=0):
  yw (2^w) (yj (2^w) (yu f (n+1)++yq (n+1)) M 0).1 99 (n+1)=yaX (2^w) (λi=>g i) (n+1)/\(yj (2^w) (yu f (n+1)++yq (n+1)) M 0).1 109 0=0/\(yj (2^w) (yu f (n+1)++yq (n+1)) M 0).1 109 1=0 /\
  (yj (2^w) (yu f (n+1)++yq (n+1)) M 0).1 109 2=bi (yaX (2^w) (λi=>g i) (n+1)==0)/\(yj (2^w) (yu f (n+1)++yq (n+1)) M 0).1 109 3=bi (decide ((2^w:Int)^(n+1)<=2*yaX (2^w) (λi=>g i) (n+1))):=by
 let⟨h1,h2,h3⟩:=zcA (W:=2^w) M 0 f g hf (n+1);rw[zd];generalize yj (2^w) (yu f (n+1)) M 0=R at *;let⟨M1,k'⟩:=R;simp only at *;have dc:Dg (2^w) M1 99 (n+1):=λi hi=>by rw[h3 i hi];exact hg i hi
 have hv:∀m,m<=n+1->yw (2^w) M1 99 m=yaX (2^w) (λi=>g i) m:=by
  intro m
  induction m with
  |zero=>intro _;rfl
  |succ m ih=>intro hm;rw[yw,yaX,ih ∅,h3 m ∅]
 let⟨e1,e2,e3,e4,e5⟩:=zaV hw M1 k' dc (by rw[h2 122 0 ⋯,zo]);rw[zb (M':=M1) (c':=99) _ λi hi=>e1 i,e2,e3,e4,e5,hv _ (A0 _),h2 109 0 ⋯,h2 109 1 ⋯,m0,m1];exact⟨rfl,rfl,rfl,rfl,rfl⟩
def zjm{w:Nat}(hw:1<w){n:Nat}{x y:Int}(x0:0<=x)(x1:x<(2^w:Int)^(n+1)):
  yw (2^w) (yj (2^w) (yaF (n+1)) (yx (2^w) (n+1) x y) 0).1 99 (n+1)=(2^w:Int)^(n+1)-1-x /\
  (yj (2^w) (yaF (n+1)) (yx (2^w) (n+1) x y) 0).1 109 0=0 /\
  (yj (2^w) (yaF (n+1)) (yx (2^w) (n+1) x y) 0).1 109 1=0 /\
  (yj (2^w) (yaF (n+1)) (yx (2^w) (n+1) x y) 0).1 109 2=bi ((2^w:Int)^(n+1)-1-x==0) /\
  (yj (2^w) (yaF (n+1)) (yx (2^w) (n+1) x y) 0).1 109 3=bi (decide ((2^w:Int)^(n+1)<=2*((2^w:Int)^(n+1)-1-x))):=by
 have hW:(0:Int)<2^w:=A1 ∅;have da:=zdC (n+1) x y hW;let⟨a1,a2,a3,a4,a5⟩:=zgw hw (n:=n) (yx (2^w) (n+1) x y) (λi=>.bare (99,i) (97,i)) (λi=>2^w-1-yx (2^w) (n+1) x y 97 i) (λM1 i h=>by
  erw[stepM,rd,h 97 i ⋯]) (λi hi=>by have:=da i hi;lia) (zap _ _ _ ⋯ ⋯ _) (zap _ _ _ ⋯ ⋯ _) (zap _ _ _ ⋯ ⋯ _)
 have hv:∀m,yaX (2^w) (λi=>2^w-1-yx (2^w) (n+1) x y 97 (i:Nat)) m=(2^w:Int)^m-1-yw (2^w) (yx (2^w) (n+1) x y) 97 m:=by
  intro m
  induction m with
  |zero=>simp[yaX,yw]
  |succ m ih=>
   rw[yaX,yw,ih,Ab,CG,CG,BQ,Ad (2^w) ((2^w)^m)];lia
 rw[hv,zbe (n+1) x y hW x0 x1]at a1 a4 a5;exact⟨a1,a2,a3,a4,a5⟩
def zgR{W:Int}(hW:0<W){f:Nat->Int}{x:Int}:∀n,(∀i:Nat,i<n->f i=x/W^i%W)->yaX W f n=x%W^n
 |0,_=>by simp[yaX,HL]
 |n+1,h=>by rw[yaX,zgR hW n λi hi=>h i ∅,h n ∅,zbo hW]
structure Two(op:Nat->Nat->Nat)(oi:Int->Int->Int):Prop where
 cast:∀a b:Nat,oi a b=(op a b:Nat)
 mod:∀a b k:Nat,op a b%2^k=op (a%2^k) (b%2^k)
 div:∀a b k:Nat,op a b/2^k=op (a/2^k) (b/2^k)
 lt:∀a b k:Nat,a<2^k->b<2^k->op a b<2^k
def zm8:Two (· &&& ·) An:=⟨zey,λa b k=>F9,λa b k=>Fa,λa b k h1 h2=>EJ a h2⟩
def zpz:Two (· ||| ·) BR:=⟨zce,λa b k=>Fz,λa b k=>Nat.or_div_two_pow,λa b k h1 h2=>GR h1 h2⟩
def zmh:Two (· ^^^ ·) Ar:=⟨zeE,λa b k=>F8,λa b k=>Fb,λa b k h1 h2=>EK h1 h2⟩
def zfY(w i X:Nat):((X:Int)/(2^w:Int)^i%2^w)=((X/2^(w*i)%2^w:Nat):Int):=by
 rw[Nat.pow_mul];simp
def zc3{op:Nat->Nat->Nat}{oi:Int->Int->Int}(O:Two op oi)(f:Cel->Cel->Cel->Rw)(hf:∀W M k t x y,stepM W M k (f t x y)=(wr M t (oi (rd M x) (rd M y)),k)){w:Nat}(hw:1<w){n:Nat}{X Y:Nat}(x1:X<2^(w*(n+1)))(y1:Y<2^(w*(n+1))):
  yw (2^w) (yj (2^w) (yal f (n+1)) (yx (2^w) (n+1) X Y) 0).1 99 (n+1)=(op X Y:Nat) /\
  (yj (2^w) (yal f (n+1)) (yx (2^w) (n+1) X Y) 0).1 109 0=0 /\
  (yj (2^w) (yal f (n+1)) (yx (2^w) (n+1) X Y) 0).1 109 1=0 /\
  (yj (2^w) (yal f (n+1)) (yx (2^w) (n+1) X Y) 0).1 109 2=bi (((op X Y:Nat):Int)==0) /\
  (yj (2^w) (yal f (n+1)) (yx (2^w) (n+1) X Y) 0).1 109 3=bi (decide ((2^w:Int)^(n+1)<=2*((op X Y:Nat):Int))):=by
 have hW:(0:Int)<2^w:=A1 ∅;have hg:∀i:Nat,i<n+1->oi (yx (2^w) (n+1) X Y 97 i) (yx (2^w) (n+1) X Y 98 i)=((op X Y/2^(w*i)%2^w:Nat):Int):=λi hi=>by
  rw[zld _ _ _ hW hi,zmq _ _ _ hW hi,zfY,zfY,O.cast,O.div,O.mod]
 let⟨a1,a2,a3,a4,a5⟩:=zgw hw (n:=n) (yx (2^w) (n+1) X Y) (λi=>f (99,i) (97,i) (98,i)) (λi=>oi (yx (2^w) (n+1) X Y 97 i) (yx (2^w) (n+1) X Y 98 i)) (λM1 i h=>by
  rw[hf];erw[rd,h 97 i ⋯,h 98 i ⋯]) (λi hi=>by
   rw[hg i hi,<-pw];have:=EM (op X Y/2^(w*i)) (FV (n:=w) (show 0<2 by lia));lia) (zap _ _ _ ⋯ ⋯ _) (zap _ _ _ ⋯ ⋯ _) (zap _ _ _ ⋯ ⋯ _)
 have hv:yaX (2^w) (λi=>oi (yx (2^w) (n+1) X Y 97 (i:Nat)) (yx (2^w) (n+1) X Y 98 (i:Nat))) (n+1)=(op X Y:Nat):=by
  rw[zgR (x:=((op X Y:Nat):Int)) hW (n+1) λi hi=>by rw[hg i hi,zfY]];have h1:=O.lt X Y _ x1 y1;rw[<-Bg,<-pw];exact AX ∅ ∅
 rw[hv]at a1 a4 a5;exact⟨a1,a2,a3,a4,a5⟩
def zp7(a b:Bool):Ar (bi a) (bi b)=bi (a != b):=by
 cases a<;>cases b<;>decide +kernel
def ziU{w:Nat}(hw:1<w){n:Nat}{x y:Int}(x0:0<=x)(x1:x<(2^w:Int)^(n+1))(y0:0<=y)(y1:y<(2^w:Int)^(n+1)):
  (yj (2^w) (yaE (n+1)) (yx (2^w) (n+1) x y) 0).1 109 0=bi (decide (x<y)) /\
  (yj (2^w) (yaE (n+1)) (yx (2^w) (n+1) x y) 0).1 109 1=bi (decide (sgd ((2^w:Int)^(n+1)) x<sgd ((2^w:Int)^(n+1)) y)) /\
  (yj (2^w) (yaE (n+1)) (yx (2^w) (n+1) x y) 0).1 109 2=bi (x==y) /\
  (yj (2^w) (yaE (n+1)) (yx (2^w) (n+1) x y) 0).1 109 3=0:=by
 let⟨a1,a2,a3,a4,a5⟩:=zez hw x0 x1 y0 y1;rw[yaE,zd];generalize yj (2^w) (yaf (n+1)) (yx (2^w) (n+1) x y) 0=R at *;let⟨M,k⟩:=R;simp only at *;erw[yj,stepM,rd,wr,upd,a2,a3,a4,a5,zp7,D3,HK,and_false,and_self,if_true,if_false];generalize (2^w:Int)^(n+1)=T at *;have hT:0<T:=by lia
 obtain⟨z,hz,hzz⟩:∃z,(x-y)%T=z/\((x<y/\z=x-y+T) \/ (¬x<y/\z=x-y)):=by
  refine⟨_,rfl,?_⟩
  by_cases h:x<y
  .left;refine⟨h,?_⟩;rw[<-EL];exact AX ∅ ∅
  .right;exact⟨h,AX ∅ ∅⟩
 rw[hz];refine⟨trivial,?_,?_,trivial⟩
 .congr 1
  unfold sgd yaP;rcases hzz with⟨h,e⟩|⟨h,e⟩<;>by_cases q1:T<=2*x<;>by_cases q2:T<=2*y<;>by_cases q3:T<=2*z<;>erw[q1,q2,q3,if_true,if_false,decide_true,decide_false]
  all_goals first
   |(exfalso;lia)
   |(rw[decide_eq_true ∅,decide_eq_true ∅,decide_eq_true ∅];rfl)
   |(rw[decide_eq_true ∅,decide_eq_true ∅,decide_eq_false ∅];rfl)
   |(rw[decide_eq_true ∅,decide_eq_false ∅,decide_eq_true ∅];rfl)
   |(rw[decide_eq_true ∅,decide_eq_false ∅,decide_eq_false ∅];rfl)
   |(rw[decide_eq_false ∅,decide_eq_true ∅,decide_eq_true ∅];rfl)
   |(rw[decide_eq_false ∅,decide_eq_true ∅,decide_eq_false ∅];rfl)
 .congr 1
  rw[DE];erw[beq_iff_eq];lia
theorem band(a b:Int):yC .band (.int a) (.int b)=AA (.int (An a b)):=rfl
def zo3{x y:Int}(hx:0<=x)(hy:0<=y):An x y=((x.toNat &&& y.toNat:Nat):Int):=by simp[An,hx,hy]
def zo1{x y:Int}(hx:¬0<=x)(hy:0<=y):An x y=y-((y.toNat &&& (EI x).toNat:Nat):Int):=by simp[An,hx,hy]
def zoy{n:Nat}(a:Int):An a (2^n-1)=a%2^n:=by
 have hp:(0:Int)<2^n:=A1 ⋯;have hc:((2^n:Nat):Int)=2^n:=by simp
 have ht:((2:Int)^n-1).toNat=2^n-1:=by lia
 by_cases h:0<=a
 .rw[zo3 h ∅,ht,D4,D5,hc,Do h]
 .have hb:EI a=-a-1:=rfl;rw[zo1 h ∅,ht,Nat.and_comm,D4,D5,hc,hb,Do ∅];have e:=BJ (-a-1) (2^n);have r0:=As (-a-1) (show (2:Int)^n≠0 by lia);have r1:=Aj (-a-1) hp;generalize (-a-1)%2^n=r,(-a-1)/2^n=q at *;generalize (2:Int)^n=P at *;have m:P*(-q-1)=-(P*q)-P:=by rw[De,Ha,C6]
  rw[show a=(P-1-r)+P*(-q-1)by lia,B8,AX ∅ ∅]
def zfi(W:Int)(hW:0<W)(x:Int):∀(n a:Nat),(yo n (a:Int) 1).map (λp=>match p with | .int j=>PV.int (x/W^j.toNat%W)|q=>q)=(yr W n (x/W^a)).map .int
 |0,a=>rfl
 |n+1,a=>by
  have h:=zfi W hW x n (a+1);rw[yo,AM,yr,AM]
  congr 1
  .rw[show ((a:Int)+1)=((a+1:Nat):Int)by lia,h,Ab,Am (DU (A1 hW))]
def zn0(n:Nat)(hn:n<=1000):yC .shl (.int 1) (.int (n:Int))=AA (.int (2^n)):=by
 erw[yC,binI];rw[if_pos ⟨by lia,by lia,by decide⟩];simp
def zcP(a b:Nat)(ha:a<=1000):yC .mul (.int (a:Int)) (.int (b:Int))=AA (.int ((a*b:Nat):Int)):=by
 have h:yaK (a:Int) (b:Int)=true:=by
  erw[yaK,Cd,decide_eq_true_eq];exact .inl (by simp;lia)
 erw[yC,binI,h,if_true];simp
theorem lowest(k:Nat)(x:Int)(w n:Nat)(hw:w<=16)(hn:n<=8)(st:SO):yc T (k+1) yk [.int x,.int w,.int n] st=.ok (.tp AC ((yr (2^w) n x).map .int)) st:=by
 have hT:T yk=AA yY:=rfl;have e1:=zn0 w ∅;have hr:=zbq n ∅;have hc:ya4 (yc T k) [AD,AA (.int (2^w-1)),AA (.int x),AA (.int w)] (.n 0) (.cst (.bl AB)) (.bin .band (.bin .shr (.var 2) (.bin .mul (.var 3) (.var 0))) (.var 1)) (yo n 0 1) []=.ok ((yr (2^w) n x).map .int) []:=by
  have h:=zfi (2^w) (A1 ⋯) x n 0;rw[Bq,CC]at h;rw[<-h];refine zcJ _ λp hp=>?_;obtain⟨j,hj,rfl⟩:∃j:Nat,j<n/\p=.int (j:Int):=by
   have:∀(n a:Nat) (p:PV),p∈yo n (a:Int) 1->∃j:Nat,a<=j/\j<a+n/\p=.int (j:Int):=by
    intro n
    induction n with
    |zero=>intro a p h;cases h
    |succ n ih=>
     intro a p h;rw[yo]at h;rcases BB.1 h with rfl|h
     .exact⟨a,A0 _,by lia,rfl⟩
     .let⟨j,h1,h2,h3⟩:=ih (a+1) p (by rw[show ((a+1:Nat):Int)=(a:Int)+1 by lia];exact h);exact⟨j,by lia,by lia,h3⟩
   let⟨j,_,h2,h3⟩:=this n 0 p hp;exact⟨j,by lia,h3⟩
  have m1:=zcP w j ∅;have s1:yC .shr (.int x) (.int ((w*j:Nat):Int))=AA (.int (x/2^(w*j))):=by
   erw[yC,binI];rw[if_pos ∅,Bv]
  have b1:=band (x/2^(w*j)) (2^w-1);rw[zoy (n:=w) (x/2^(w*j))]at b1;simp! [ycA,m1,s1,b1];rw[Bv,<-Bg]
 rw[za hT rfl rfl rfl];simp! [yY,e1,hr,hc];rw[znr _ (by simp[zt];lia)];have ht:yan .tuple [] [.lst ((yr (2^w) n x).map .int)]=AA (.tp AC ((yr (2^w) n x).map .int)):=rfl;simp! [ht];simp[ybY,nL,noLocs_ints]
def znU{X:Fl}{v:PV}{st:SO}(h:ybY [] X=.ok v []):ybY st X=.ok v st:=by
 cases X with
 |rt u s=>
  erw[ybY]at h ⊢
  by_cases c:nL u=AB
  .rw[if_pos c]at h ⊢;cases h;rfl
  .rw[if_neg c]at h;cases h
 |nx ρ s=>erw[ybY]at h ⊢;cases h;rfl
 |_=>cases h
def zm7{k f:Nat}{fn:IC.Fn}{args:List PV}{v:PV}(hT:T f=AA fn)(hp:fn.pure=AB)(hl:args.length=fn.np)(hn:nLs args=AB)(h:yc T (k+1) f args []=.ok v [])(st:SO):yc T (k+1) f args st=.ok v st:=by
 rw[za hT hp hl hn]at h ⊢;exact znU h
def zg0(k:Nat)(x:Int)(w n:Nat)(hw:w<=16)(hn:n<=8)(x0:0<=x)(x1:x<2^(w*n))(st:SO):yc T (k+2) yhp [.int x,.int w,.int n] st=.ok (.tp AC ((yr (2^w) n x).map .int)) st:=by
 have hT:T yhp=AA yfb:=rfl;have hwn:w*n<=1000:=by
  have:w*n<=16*8:=BK hw hn;lia
 have m1:=zcP w n ∅;have s1:=zn0 (w*n) hwn;have e1:∀s,yc T (k+1) yk [.int x,.int w,.int n] s=_:=λs=>lowest k x w n hw hn s;have c1:decide (x<0)=false:=decide_eq_false ∅;have c2:decide ((2:Int)^(w*n)<=x)=false:=decide_eq_false ∅;rw[za hT rfl rfl rfl];generalize hL:yr (2^w) n x=ws at *;simp! [yfb,c1,m1,s1,c2,e1];simp[ybY,nL,noLocs_ints]
def zdj{i:Int}{j:Nat}:yC .shr (.int i) (.int (j:Int))=AA (.int (i/2^j)):=by
 erw[yC,binI];rw[if_pos ∅];simp
def znl{i:Int}{j:Nat}(h:i.natAbs<18446744073709551616)(hj:j<=1000):yC .shl (.int i) (.int (j:Int))=AA (.int (i*2^j)):=by
 have hc:(0:Int)<=j/\(j:Int)<=1000000/\i.natAbs<18446744073709551616:=⟨by lia,by lia,h⟩;show (if (0:Int)<=j/\(j:Int)<=1000000/\i.natAbs<18446744073709551616 then AA (PV.int (i*2^(j:Int).toNat))else AD)=_;rw[if_pos hc];rfl
def zp9(k:Nat){x a b u v r:Int}(hs:a-1=b)(q1:yC .shr (.int x) (.int b)=AA (.int u))(q2:yC .shl (.int u) (.int a)=AA (.int v))(q3:x-v=r)(st:SO):yc T (k+1) y7 [.int x,.int a] st=.ok (.int r) st:=by
 have hT:T y7=AA y2:=rfl;rw[za hT rfl rfl rfl];simp! [y2,hs,q1,q2,q3];rfl
def zpt(k:Nat){s a b h:Int}{f:Bool}(hs:a-1=b)(q1:yC .shl (.int 1) (.int b)=AA (.int h))(q2:(decide (-h<=s)&&decide (s<h))=f)(st:SO):yc T (k+1) yhq [.int s,.int a] st=.ok (.int (bi (!f))) st:=by
 have hT:T yhq=AA yec:=rfl;rw[za hT rfl rfl rfl]
 cases e1:decide (-h<=s)with
 |false=>
  rw[e1,Gd]at q2;subst q2;simp! [yec,hs,q1,e1,blO];rfl
 |true=>
  rw[e1,Fg]at q2;subst q2
  cases e2:decide (s<h)<;>simp! [yec,hs,q1,e1,e2,blO]<;>rfl
def zu(k:Nat){K:Nat}(hK:1<=K)(hK2:K<=64){x:Int}(x0:0<=x)(x1:x<2^K)(st:SO):yc T (k+1) y7 [.int x,.int K] st=.ok (.int (sgd (2^K) x)) st:=by
 obtain⟨j,rfl⟩:∃j,K=j+1:=⟨K-1,by lia⟩;have p:(0:Int)<2^j:=A1 ∅;have e:(2:Int)^(j+1)=2*2^j:=by rw[Ab,Ad]
 have hd:x/2^j=if 2*2^j<=2*x then 1 else 0:=by
  rw[e]at x1;split
  .have h1:1<=x/2^j:=Ch p ∅;have h2:x/2^j<2:=BA p ∅;lia
  .exact Aq x0 ∅
 refine zp9 k (b:=(j:Int)) ∅ zdj (znl (by rw[hd];split<;>lia) ∅) ?_ st;rw[hd,e];unfold sgd;split
 .rw[BQ]
 .lia
def zkw(k:Nat){K:Nat}(hK:1<=K)(hK2:K<=200)(s:Int)(st:SO):yc T (k+1) yhq [.int s,.int K] st=.ok (.int (bi (!yaP (2^K) s))) st:=by
 obtain⟨j,rfl⟩:∃j,K=j+1:=⟨K-1,by lia⟩;have e:(2:Int)^(j+1)=2*2^j:=by rw[Ab,Ad]
 refine zpt k (b:=(j:Int)) ∅ (zn0 j ∅) ?_ st;unfold yaP;rw[e]
 congr 1
 .exact decide_eq_decide.2 ∅
 .exact decide_eq_decide.2 ∅
def zfe{W:Int}(hW:0<W):∀(n:Nat) (v:Int),yr W n (v%W^n)=yr W n v
 |0,v=>rfl
 |n+1,v=>by
  have hp:0<W^n:=A1 hW;have e1:v%W^(n+1)%W=v%W:=Int.emod_emod_of_dvd v ⟨W^n,by rw[Ab,Ad]⟩;have e2:v%W^(n+1)/W=v/W%W^n:=by
   have h1:=BJ v W;have h2:=BJ (v/W) (W^n);have r0:=As v (show W≠0 by lia);have r1:=Aj v hW;have s0:=As (v/W) (show W^n≠0 by lia);have s1:=Aj (v/W) hp;have e:v=v%W+W*(v/W%W^n)+W^(n+1)*(v/W/W^n):=by
    have:W^(n+1)*(v/W/W^n)=W*(W^n*(v/W/W^n)):=by rw[Ab,Ad (W^n) W,BH]
    rw[this];have h3:W*(v/W)=W*(v/W%W^n)+W*(W^n*(v/W/W^n)):=by rw[<-HX,h2]
    lia
   have hb:v%W+W*(v/W%W^n)<W^(n+1):=by
    have:=C9 (show v/W%W^n<=W^n-1 by lia) (show 0<=W by lia);rw[De,C6]at this;rw[Ab,Ad (W^n) W];lia
   have hb0:0<=W*(v/W%W^n):=C5 ∅ s0;have q:v%W^(n+1)=v%W+W*(v/W%W^n):=by
    rw[e,B8];rw[<-e];exact AX ∅ hb
   rw[q,FJ _ _ ∅,Aq r0 r1,DS]
  rw[yr,yr,e1,e2,zfe hW n]
def zfq{W:Int}(hW:0<W):∀(n:Nat) (v:Int),0<=v->v<W^n->(yr W n v).any (· != 0)=!(v==0)
 |0,v,h0,h1=>by
  have:v=0:=by rw[Bq]at h1;lia
  subst this;rfl
 |n+1,v,h0,h1=>by
  have h2:=Bb h0 (show 0<=W by lia);have h3:v/W<W^n:=BA hW (by rw[Ab]at h1;exact h1);have h4:=BJ v W;rw[yr,BV,zfq hW n _ h2 h3]
  by_cases q:v=0
  .subst q;simp
  .rw[beq_eq_false_iff_ne.2 q]
   by_cases a:v%W=0
   .have b:v/W≠0:=λz=>q (by rw[a,z]at h4;lia);rw[beq_eq_false_iff_ne.2 b,Bool.not_false,Bool.or_true]
   .rw[bne_iff_ne.2 a,Et];rfl
def zdD{W:Int}(hW:0<W):∀(n:Nat) (v:Int),(yr W (n+1) v)[n]?=AA (v/W^n%W)
 |0,v=>by simp[yr]
 |n+1,v=>by
  rw[yr,AE,zdD hW n,Am ∅,Ab,Ad W]
def zil(ws:List Int):anyI (ws.map .int)=AA (ws.any (· != 0)):=by
 induction ws with
 |nil=>rfl
 |cons a ws ih=>rw[AM,anyI,ih];rfl
def zka(k:Nat){ws:List Int}{w b l r:Int}(hs:w-1=b)(hi:∀st,idxV st (.tp AC (ws.map .int)) (.int (-1))=AA (.int l))(q:yC .shr (.int l) (.int b)=AA (.int r))(st:SO):yc T (k+1) yek [.tp AC (ws.map .int),.int w] st=.ok (.int r) st:=by
 have hT:T yek=AA yfi:=rfl;rw[za hT rfl rfl (by simp[nLs,nL,noLocs_ints])];generalize PV.tp AC (ws.map .int)=v at *;simp! [yfi,hi,hs,q];rfl
def zhI(k:Nat){w n:Nat}(hw:1<=w){v:Int}(v0:0<=v)(v1:v<(2^w:Int)^(n+1))(st:SO):yc T (k+1) yek [.tp AC ((yr (2^w) (n+1) v).map .int),.int w] st=.ok (.int (bi (decide ((2^w:Int)^(n+1)<=2*v)))) st:=by
 obtain⟨j,rfl⟩:∃j,w=j+1:=⟨w-1,by lia⟩;have hW:(0:Int)<2^(j+1):=A1 ∅;have hp:(0:Int)<(2^(j+1):Int)^n:=A1 hW;have hj:(0:Int)<2^j:=A1 ∅;have e:(2:Int)^(j+1)=2^j*2:=Ab 2 j;have hl:=zdD hW n v;have hd1:v/(2^(j+1):Int)^n<2^(j+1):=BA hp (by rw[Ab,Ad]at v1;exact v1);have hdA:=Bb v0 (DU hp);rw[AX hdA hd1]at hl;have hi:∀st,idxV st (.tp AC ((yr (2^(j+1)) (n+1) v).map .int)) (.int (-1))=AA (.int (v/(2^(j+1):Int)^n)):=λst=>by
  have hlen:=zt (2^(j+1)) (n+1) v;erw[idxV,ya7,at?,ixI,BN,hlen];rw[if_neg ∅,if_pos ∅];rw[show ((-1:Int)+((n+1:Nat):Int)).toNat=n by lia];simp[hl]
 refine zka k (b:=(j:Int)) ∅ hi ?_ st;rw[zdj]
 congr 2
 have P:(2^(j+1):Int)^(n+1)=(2^(j+1):Int)^n*2^j*2:=by rw[Ab,BH,<-e]
 rw[Am (DU hp)];have hq:0<(2^(j+1):Int)^n*2^j:=HY hp hj;rw[P]at v1 ⊢;generalize (2^(j+1):Int)^n*2^j=H at *
 by_cases h:H*2<=2*v
 .have h1:1<=v/H:=Ch hq ∅;have h2:v/H<2:=BA hq ∅;rw[decide_eq_true h];show _=(1:Int);lia
 .rw[decide_eq_false h];exact Aq v0 ∅
abbrev dv(ws:List Int)(a b c d:Int):PV:=.tp AC [.tp AC (ws.map .int),.tp AC [],.tp AC [.int a,.int b,.int c,.int d]]
def znX(k:Nat){d:PV}(hd:nL d=AB){s:A4}{w n N x y a b c t r z:Int}{ws:List Int}{g:Bool}(i0:∀st,idxV st d (.int 0)=AA (.str s))(c0:ye .eq (.str s) (.str "compare")=AA (.bl AC))(E0:∀st,yc T k y6 [d,.int w,.int n,.int x,.int y] st=.ok .non st)(E1:∀st,yc T k yl [d,.int w,.int n,.int x,.int y] st=.ok (.tp AC [.int a,.int b,.int c]) st)
  (E2:∀st,yc T k yi [d,.int n] st=.ok (.int N) st) (E3:∀st,yc T k yk [.int a,.int w,.int N] st=.ok (.tp AC (ws.map .int)) st) (m1:yC .mul (.int y) (.int a)=AA (.int t)) (E4:∀st,yc T k yhB [d,.int n] st=.ok (.int 0) st) (E5:∀st,yc T k yk [.int (x-t),.int w,.int 0] st=.ok (.tp AC []) st)
  (E6:∀st,yan .any st [.tp AC (ws.map .int)]=AA (.bl g)) (hz:(bif g then(0:Int)else 1)=z) (E7:∀st,yc T k yek [.tp AC (ws.map .int),.int w] st=.ok (.int r) st) (st:SO):
  yc T (k+1) ydr [d,.int w,.int n,.int x,.int y] st=.ok (dv ws b c z r) st:=by
 have hT:T ydr=AA ⟨5,10,AB,yaO.body⟩:=rfl;have bt:∀(a b c:PV) (ρ:IC.Env),yP (.t [5,6,7]) (.tp AC [a,b,c]) ρ=AA (((ρ.set 5 (AA a)).set 6 (AA b)).set 7 (AA c)):=λ_ _ _ _=>rfl;rw[za hT rfl rfl (by simp[nLs,nL,hd])];dsimp only;have nl:nL (.tp AC (ws.map .int))=true:=by simp[nL,noLocs_ints]
 unfold dv;generalize PV.tp AC (ws.map .int)=A at *
 cases g<;>subst hz<;>simp! [yaO,E0,i0,c0,E1,bt,E2,E3,m1,E4,E5,E6,E7]<;>simp[ybY,nL,nLs,nl]
theorem upL{k j:Nat}{f:Nat}{fn:IC.Fn}{args:List PV}{v:PV}(a:T f=AA fn)(b:fn.pure=AB)(c:args.length=fn.np)(d:nLs args=AB)(e:yc T (j+1) f args []=.ok v [])(s:SO):yc T (j+1+k) f args s=.ok v s:=by
 have:=zd3 e k;rw[show j+1+k=j+k+1 by lia]at this ⊢;exact zm7 a b c d this s
structure Dd(pr:Prop)(d:PV)(nm:A4):Prop where
 nl:nL d=AB
 i0:∀st,idxV st d (.int 0)=AA (.str nm)
 isd:yc T 4 yhg [d] []=.ok (.bl AB) []
 isp:pr->yc T 4 yhA [d] []=.ok (.bl AB) []
 quo:ye .isin (.str nm) yz=AA (.bl AC)
def zeW(k:Nat){pr:Prop}{d:PV}{nm:A4}{w n:Nat}(D:Dd pr d nm)(hw:w<=16)(hn:n<=8){x y:Int}(x0:0<=x)(x1:x<2^(w*n))(y0:0<=y)(y1:y<2^(w*n))(hp:y≠0->pr)(st:SO):yc T (k+5) y6 [d,.int w,.int n,.int x,.int y] st=.ok .non st:=by
 have hT:T y6=AA yB:=rfl;have hnl:nLs [d,.int w,.int n,.int x,.int y]=true:=by simp[nLs,D.nl,nL]
 have e1:=λs=>upL (k:=k) (f:=yhg) (fn:=yhx) rfl rfl rfl (by simp[nLs,D.nl]) D.isd s;rw[show 3+1+k=k+4 by lia]at e1;have e3:∀s,yc T (k+4) yhp [.int x,.int w,.int n] s=.ok (.tp AC ((yr (2^w) n x).map .int)) s:=λs=>zg0 (k+2) x w n hw hn x0 x1 s;have e4:∀s,yc T (k+4) yhp [.int y,.int w,.int n] s=.ok (.tp AC ((yr (2^w) n y).map .int)) s:=λs=>zg0 (k+2) y w n hw hn y0 y1 s;rw[show k+5=k+4+1 by lia,za hT rfl rfl hnl];have q:=D.quo;have hi:=D.i0;generalize yr (2^w) n x=xs,yr (2^w) n y=ys at *
 cases hy:(y==0)with
 |true=>simp! [yB,e1,e3,e4,hy,hi,q];rfl
 |false=>
  have e2:=λs=>upL (k:=k) (f:=yhA) (fn:=yhy) rfl rfl rfl (by simp[nLs,D.nl]) (D.isp (hp (by intro h;rw[h]at hy;exact absurd hy ⋯))) s;rw[show 3+1+k=k+4 by lia]at e2;simp! [yB,e1,e2,e3,e4,hy];rfl
def zk9(k:Nat){pr:Prop}{d:PV}{nm:A4}{w n N:Nat}(D:Dd pr d nm)(hA:yc T 4 yi [d,.int n] []=.ok (.int N) [])(c0:ye .eq (.str nm) (.str "compare")=AA (.bl AC))(hw:4<=w)(hw2:w<=16)(hn2:n<=4)(hN:1<=N)(hN2:N<=8){x y:Int}(x0:0<=x)(x1:x<2^(w*n))(y0:0<=y)(y1:y<2^(w*n))(hp:y≠0->pr){a b c V:Int}(hV:a%2^(w*N)=V)
  (E1:∀t,yc T (k+5) yl [d,.int w,.int n,.int x,.int y] t=.ok (.tp AC [.int a,.int b,.int c]) t) (st:SO):yc T (k+6) ydr [d,.int w,.int n,.int x,.int y] st=.ok (dv (yr (2^w) N V) b c (bi (V==0)) (bi (decide ((2:Int)^(w*N)<=2*V)))) st:=by
 have hW:(0:Int)<2^w:=A1 ∅;have hP0:(0:Int)<2^(w*N):=A1 ⋯;have hpN:(2:Int)^(w*N)=(2^w:Int)^N:=Bg;have V0:0<=V:=by rw[<-hV];exact As _ ∅
 have V1:V<2^(w*N):=by rw[<-hV];exact Aj _ hP0
 have hK2:w*n<=64:=BK hw2 hn2;have hp64:(2:Int)^(w*n)<=2^64:=by
  have hh:(2:Nat)^(w*n)<=2^64:=Ac ∅ hK2;have h2:=pw (w*n);lia
 have E0:=λt=>zeW k D hw2 ∅ x0 x1 y0 y1 hp t;have nl2:nLs [d,.int (n:Int)]=true:=by simp[nLs,D.nl,nL]
 have E2:=λs=>upL (k:=k+1) (f:=yi) (fn:=ym) rfl rfl rfl nl2 hA s;rw[show 3+1+(k+1)=k+5 by lia]at E2;have E4:∀s,yc T (k+5) yhB [d,.int n] s=.ok (.int 0) s:=λs=>by
  have hT:T yhB=AA yeH:=rfl;have hi:=D.i0;have q:=D.quo;rw[show k+5=k+4+1 by lia,za hT rfl rfl nl2];simp! [yeH,hi,q,IC.ve9];rfl
 have E3:∀t,yc T (k+5) yk [.int a,.int w,.int (N:Int)] t=.ok (.tp AC ((yr (2^w) N V).map .int)) t:=λt=>by
  rw[<-hV,hpN,zfe hW,show k+5=k+4+1 by lia];exact lowest (k+4) _ w N hw2 hN2 t
 have E5:∀t,yc T (k+5) yk [.int (x-y*a),.int w,.int 0] t=.ok (.tp AC []) t:=λt=>by
  rw[show k+5=k+4+1 by lia];exact lowest (k+4) _ w 0 hw2 ∅ t
 have m1:yC .mul (.int y) (.int a)=AA (.int (y*a)):=zaF ∅;have E6:∀t,yan .any t [.tp AC ((yr (2^w) N V).map .int)]=AA (.bl (!(V==0))):=λt=>by
  show (anyI _).map PV.bl=_;rw[zil,zfq hW _ _ V0 (by rw[<-hpN];exact V1)];rfl
 have E7:∀t,yc T (k+5) yek [.tp AC ((yr (2^w) N V).map .int),.int w] t=.ok (.int (bi (decide ((2:Int)^(w*N)<=2*V)))) t:=λt=>by
  rw[hpN]at V1 ⊢;obtain⟨m,rfl⟩:∃m,N=m+1:=⟨N-1,by lia⟩;rw[show k+5=k+4+1 by lia];exact zhI (k+4) (w:=w) (n:=m) ∅ V0 V1 t
 exact znX (k+5) D.nl D.i0 c0 E0 E1 E2 E3 m1 E4 E5 E6 (by cases (V==0)<;>rfl) E7 st
def nm8:Nat->A4
 |0=>A2 "sum" | 1=>A2 "difference" | 2=>A2 "turned" | 3=>A2 "compare" | 4=>A2 "both" | 5=>A2 "any" | 6=>A2 "odd" | _=>A2 "bare"
def rw8:Nat->Nat->List Rw
 |0,n=>yaz n|1,n=>yaf n|2,n=>yam n|3,n=>yaE n|4,n=>yal .both n|5,n=>yal .any n|6,n=>yal .odd n|_,n=>yaF n
def pr8(i:Nat):Bool:=i != 2&&i != 7
def dd8(i:Nat):PV:=.tp AC [.str (nm8 i)]
def sp8(i:Nat)(P x y:Int):Int×Int×Int:=match i with
 |0=>((x+y)%P,bi (decide (P<=x+y)),bi (!yaP P (sgd P x+sgd P y)))
 |1=>((x-y)%P,bi (decide (x<y)),bi (!yaP P (sgd P x-sgd P y)))
 |2=>((0-x)%P,bi (!(x==0)),bi (2*x==P))
 |4=>(An x y,0,0)
 |5=>(BR x y,0,0)
 |6=>(Ar x y,0,0)
 |_=>(P-1-x,0,0)
def zra{i:Nat}(hi:i<8)(h3:i≠3){w n:Nat}(hw:4<=w){x y:Int}(x0:0<=x)(x1:x<(2^w:Int)^(n+1))(y0:0<=y)(y1:y<(2^w:Int)^(n+1)):
  yw (2^w) (yj (2^w) (rw8 i (n+1)) (yx (2^w) (n+1) x y) 0).1 99 (n+1)=(sp8 i ((2^w:Int)^(n+1)) x y).1 /\
  (yj (2^w) (rw8 i (n+1)) (yx (2^w) (n+1) x y) 0).1 109 0=(sp8 i ((2^w:Int)^(n+1)) x y).2.1 /\
  (yj (2^w) (rw8 i (n+1)) (yx (2^w) (n+1) x y) 0).1 109 1=(sp8 i ((2^w:Int)^(n+1)) x y).2.2 /\
  (yj (2^w) (rw8 i (n+1)) (yx (2^w) (n+1) x y) 0).1 109 2=bi ((sp8 i ((2^w:Int)^(n+1)) x y).1==0) /\
  (yj (2^w) (rw8 i (n+1)) (yx (2^w) (n+1) x y) 0).1 109 3=bi (decide ((2^w:Int)^(n+1)<=2*(sp8 i ((2^w:Int)^(n+1)) x y).1)):=by
 let⟨X,rfl⟩:=za9 x0;let⟨Y,rfl⟩:=za9 y0;have X1:X<2^(w*(n+1)):=by
  have:=pw (w*(n+1));rw[<-Bg]at x1;lia
 have Y1:Y<2^(w*(n+1)):=by
  have:=pw (w*(n+1));rw[<-Bg]at y1;lia
 rcases (by lia:i=0 \/ i=1 \/ i=2 \/ i=4 \/ i=5 \/ i=6 \/ i=7)with rfl|rfl|rfl|rfl|rfl|rfl|rfl
 .exact zkp ∅ x0 x1 y0 y1
 .exact zez ∅ x0 x1 y0 y1
 .exact zi8 ∅ x0 x1
 .have h:=zc3 zm8 .both (λ_ _ _ _ _ _=>rfl) (w:=w) ∅ X1 Y1;erw[sp8,zey];exact h
 .have h:=zc3 zpz .any (λ_ _ _ _ _ _=>rfl) (w:=w) ∅ X1 Y1;erw[sp8,zce];exact h
 .have h:=zc3 zmh .odd (λ_ _ _ _ _ _=>rfl) (w:=w) ∅ X1 Y1;erw[sp8,zeE];exact h
 .exact zjm ∅ x0 x1
theorem ib(b:Bool)(st:SO):yan .int st [.bl b]=AA (.int (bi b)):=by cases b<;>rfl
theorem compared(k:Nat){K:Nat}(hK:1<=K)(hK2:K<=64){x y:Int}(x0:0<=x)(x1:x<2^K)(y0:0<=y)(y1:y<2^K)(st:SO):yc T (k+2) yhC [.int x,.int y,.int K] st=.ok (.tp AC [.int (bi (decide (x<y))),.int (bi (decide (sgd (2^K) x<sgd (2^K) y))),.int (bi (x==y)),.int 0]) st:=by
 have hT:T yhC=AA yfk:=rfl;have e1:=λs=>zu k hK hK2 x0 x1 s;have e2:=λs=>zu k hK hK2 y0 y1 s;rw[za hT rfl rfl rfl];generalize (K:Int)=a at *;generalize sgd (2^K) x=u,sgd (2^K) y=v at *;simp! [yfk,e1,e2,ib];rfl
def zqq(k:Nat){K:Nat}(hK:1<=K)(hK2:K<=64){x y:Int}(x0:0<=x)(x1:x<2^K)(y0:0<=y)(y1:y<2^K)(st:SO):yc T (k+2) yiE [.int x,.int y,.int K] st=.ok (.tp AC [.int (x+y),.int (bi (decide ((2:Int)^K<=x+y))),.int (bi (!yaP (2^K) (sgd (2^K) x+sgd (2^K) y)))]) st:=by
 have hT:T yiE=AA yfp:=rfl;have e1:=λs=>zu k hK hK2 x0 x1 s;have e2:=λs=>zu k hK hK2 y0 y1 s;have e3:=λs=>zkw k hK ∅ (sgd (2^K) x+sgd (2^K) y) s;have hp:(0:Int)<2^K:=A1 ∅;have q1:=zdj (i:=x+y) (j:=K);have hd:(x+y)/2^K=bi (decide ((2:Int)^K<=x+y)):=by
  by_cases h:(2:Int)^K<=x+y
  .have h1:1<=(x+y)/2^K:=Ch hp ∅;have h2:(x+y)/2^K<2:=BA hp ∅;rw[decide_eq_true h];show _=(1:Int);lia
  .rw[decide_eq_false h];exact Aq ∅ ∅
 rw[hd]at q1;rw[za hT rfl rfl rfl];generalize (K:Int)=a at *;generalize sgd (2^K) x=u,sgd (2^K) y=v,bi (decide ((2:Int)^K<=x+y))=c at *;simp! [yfp,e1,e2,e3,q1];rfl
def zlv(k:Nat){K:Nat}(hK:1<=K)(hK2:K<=64){x y:Int}(x0:0<=x)(x1:x<2^K)(y0:0<=y)(y1:y<2^K)(st:SO):yc T (k+2) yiF [.int x,.int y,.int K] st=.ok (.tp AC [.int (x-y),.int (bi (decide (x<y))),.int (bi (!yaP (2^K) (sgd (2^K) x-sgd (2^K) y)))]) st:=by
 have hT:T yiF=AA yfr:=rfl;have e1:=λs=>zu k hK hK2 x0 x1 s;have e2:=λs=>zu k hK hK2 y0 y1 s;have e3:=λs=>zkw k hK ∅ (sgd (2^K) x-sgd (2^K) y) s;rw[za hT rfl rfl rfl];generalize (K:Int)=a at *;generalize sgd (2^K) x=u,sgd (2^K) y=v at *;simp! [yfr,e1,e2,e3,ib];rfl
def zol(k:Nat){K:Nat}(hK:1<=K)(hK2:K<=64){x:Int}(y:Int)(x0:0<=x)(x1:x<2^K)(st:SO):yc T (k+3) yiG [.int x,.int y,.int K] st=.ok (.tp AC [.int (0-x),.int (bi (!(x==0))),.int (bi (2*x==2^K))]) st:=by
 have hT:T yiG=AA yfI:=rfl;have hp:(0:Int)<2^K:=A1 ∅;have e1:=λs=>zlv k hK hK2 (x:=0) (y:=x) ∅ hp x0 x1 s;have h1:decide (0<x)=!(x==0):=by
  by_cases h:x=0
  .rw[h];rfl
  .rw[decide_eq_true ∅,beq_eq_false_iff_ne.2 h];rfl
 have h2:(!yaP (2^K) (sgd (2^K) 0-sgd (2^K) x))=(2*x==2^K):=by
  have s0:sgd (2^K) 0=0:=by unfold sgd;rw[if_neg ∅]
  rw[s0];unfold sgd yaP
  by_cases h:(2:Int)^K<=2*x
  .rw[if_pos h]
   by_cases h3:2*x=2^K
   .rw[beq_iff_eq.2 h3,decide_eq_true ∅,decide_eq_false ∅];rfl
   .rw[beq_eq_false_iff_ne.2 h3,decide_eq_true ∅,decide_eq_true ∅];rfl
  .rw[if_neg h,beq_eq_false_iff_ne.2 ∅,decide_eq_true ∅,decide_eq_true ∅];rfl
 rw[h1,h2]at e1;rw[za hT rfl rfl rfl];generalize (K:Int)=a at *;simp! [yfI,e1];rfl
def zoz(k:Nat)(x y K:Int)(st:SO):yc T (k+1) yiH [.int x,.int y,.int K] st=.ok (.tp AC [.int (An x y),.int 0,.int 0]) st:=by
 have hT:T yiH=AA yfP:=rfl;rw[za hT rfl rfl rfl];simp! [yfP,zal];rfl
def zqp(k:Nat)(x y K:Int)(st:SO):yc T (k+1) yiI [.int x,.int y,.int K] st=.ok (.tp AC [.int (BR x y),.int 0,.int 0]) st:=by
 have hT:T yiI=AA yfQ:=rfl;rw[za hT rfl rfl rfl];simp! [yfQ,zcG];rfl
def zqM(k:Nat)(x y K:Int)(st:SO):yc T (k+1) yiJ [.int x,.int y,.int K] st=.ok (.tp AC [.int (Ar x y),.int 0,.int 0]) st:=by
 have hT:T yiJ=AA yfX:=rfl;rw[za hT rfl rfl rfl];simp! [yfX,zaC];rfl
def zoD(k:Nat)(x y K:Int)(st:SO):yc T (k+1) yiK [.int x,.int y,.int K] st=.ok (.tp AC [.int (-1-x),.int 0,.int 0]) st:=by
 have hT:T yiK=AA yf5:=rfl;rw[za hT rfl rfl rfl];simp! [yf5];rfl
def zar(k:Nat){s:A4}{f:Nat}{w n x y K:Int}{v:PV}(hv:nL v=AB)(c1:ye .eq (.str s) (.str "led")=AA (.bl AC))(c2:ye .isin (.str s) yc5=AA (.bl AC))(hm:mkV yds AB (.str s)=AA f)(m1:yC .mul (.int w) (.int n)=AA (.int K))(E:∀st,yc T k f [.int x,.int y,.int K] st=.ok v st)(st:SO):
  yc T (k+1) yl [.tp AC [.str s],.int w,.int n,.int x,.int y] st=.ok v st:=by
 have hT:T yl=AA ⟨5,6,AB,yX.body⟩:=rfl;have i0:∀st,idxV st (.tp AC [.str s]) (.int 0)=AA (.str s):=λ_=>ix0;have hl:decide (5<6)=true:=rfl;rw[za hT rfl rfl rfl];dsimp only;generalize PV.tp AC [.str s]=d at *;simp! [yX,i0,c1,c2,zof,hl,hm,yeP,m1,E];simp[ybY,hv]
def rk8(i:Nat)(x y:Int):Int:=match i with
 |0=>x+y|1=>x-y|2=>0-x|4=>An x y|5=>BR x y|6=>Ar x y|_=>-1-x
def zrb(k:Nat){i:Nat}(hi:i<8)(h3:i≠3){w n:Nat}(hw:4<=w)(hw2:w<=16)(h1:1<=n)(h2:n<=4){x y:Int}(x0:0<=x)(x1:x<(2^w:Int)^n)(y0:0<=y)(y1:y<(2^w:Int)^n)(st:SO):
  yc T (k+4) yl [dd8 i,.int w,.int n,.int x,.int y] st=.ok (.tp AC [.int (rk8 i x y),.int (sp8 i ((2^w:Int)^n) x y).2.1,.int (sp8 i ((2^w:Int)^n) x y).2.2]) st:=by
 have hK:1<=w*n:=by have:=BK hw h1;lia
 have hK2:w*n<=64:=BK hw2 h2;have m1:=zcP w n ∅;rw[<-Bg]at x1 y1 ⊢;rcases (by lia:i=0 \/ i=1 \/ i=2 \/ i=4 \/ i=5 \/ i=6 \/ i=7)with rfl|rfl|rfl|rfl|rfl|rfl|rfl
 .exact zar (k+3) rfl (by ac_rfl) (by ac_rfl) (by ac_rfl) m1 (λs=>zqq (k+1) hK hK2 x0 x1 y0 y1 s) st
 .exact zar (k+3) rfl (by ac_rfl) (by ac_rfl) (by ac_rfl) m1 (λs=>zlv (k+1) hK hK2 x0 x1 y0 y1 s) st
 .exact zar (k+3) rfl (by ac_rfl) (by ac_rfl) (by ac_rfl) m1 (λs=>zol k hK hK2 y x0 x1 s) st
 .exact zar (k+3) rfl (by ac_rfl) (by ac_rfl) (by ac_rfl) m1 (λs=>zoz (k+2) x y _ s) st
 .exact zar (k+3) rfl (by ac_rfl) (by ac_rfl) (by ac_rfl) m1 (λs=>zqp (k+2) x y _ s) st
 .exact zar (k+3) rfl (by ac_rfl) (by ac_rfl) (by ac_rfl) m1 (λs=>zqM (k+2) x y _ s) st
 .exact zar (k+3) rfl (by ac_rfl) (by ac_rfl) (by ac_rfl) m1 (λs=>zoD (k+2) x y _ s) st
def zoV{i:Nat}(hi:i<8)(h3:i≠3){K:Nat}{x y:Int}(x0:0<=x)(x1:x<2^K)(y0:0<=y)(y1:y<2^K):rk8 i x y%2^K=(sp8 i (2^K) x y).1/\0<=(sp8 i (2^K) x y).1/\(sp8 i (2^K) x y).1<2^K:=by
 have hp:(0:Int)<2^K:=A1 ∅;have md:∀v:Int,0<=v%2^K/\v%2^K<2^K:=λv=>⟨As _ ∅,Aj _ hp⟩;rcases (by lia:i=0 \/ i=1 \/ i=2 \/ i=4 \/ i=5 \/ i=6 \/ i=7)with rfl|rfl|rfl|rfl|rfl|rfl|rfl
 .exact⟨rfl,md _⟩
 .exact⟨rfl,md _⟩
 .exact⟨rfl,md _⟩
 .have h:=zlM (w:=K) x0 y0 y1;exact⟨AX h.1 h.2,h⟩
 .have h:=zlO (w:=K) x0 x1 y0 y1;exact⟨AX h.1 h.2,h⟩
 .have h:=zgx (w:=K) x0 x1 y0 y1;exact⟨AX h.1 h.2,h⟩
 .refine⟨?_,?_,?_⟩
  .show (-1-x)%2^K=2^K-1-x;rw[<-EL,show -1-x+2^K=2^K-1-x by lia];exact AX ∅ ∅
  .show 0<=2^K-1-x;lia
  .show 2^K-1-x<2^K;lia
def zrc(k:Nat){w n x y K:Int}{v:PV}(hv:nL v=AB)(c0:ye .eq (.str (nm8 3)) (.str "compare")=AA (.bl AB))(m1:yC .mul (.int w) (.int n)=AA (.int K))(E0:∀st,yc T k y6 [dd8 3,.int w,.int n,.int x,.int y] st=.ok .non st)(E1:∀st,yc T k yhC [.int x,.int y,.int K] st=.ok v st)(st:SO):
  yc T (k+1) ydr [dd8 3,.int w,.int n,.int x,.int y] st=.ok (.tp AC [.tp AC [],.tp AC [],v]) st:=by
 have hT:T ydr=AA ⟨5,10,AB,yaO.body⟩:=rfl;have i0:∀st,idxV st (dd8 3) (.int 0)=AA (.str (nm8 3)):=λ_=>ix0;rw[za hT rfl rfl rfl];dsimp only;generalize dd8 3=d,nm8 3=s at *;simp! [yaO,E0,i0,c0,m1,E1];simp[ybY,nL,nLs,hv]
structure Cx where
 l:Nat
 c:Int
 i:Int
 j:Int
 m:Int
deriving DecidableEq
inductive Op where
 |fig (d:Int)|cel (x:Cx)
deriving DecidableEq
structure Rs where
 nm:A4
 ops:List Op
deriving DecidableEq
inductive T2 where
 |row (r:Rs)|rounds (c m t:Int) (rs:List Rs)
deriving DecidableEq
inductive T1 where
 |row (r:Rs)|rounds (c m t:Int) (ps:List T2)
deriving DecidableEq
def Cx.at(x:Cx)(I J n:Int):Int:=x.c+x.i*I+x.j*J+x.m*n
def Op.pv(I J n:Int):Op->PV
 |.fig d=>.int d
 |.cel x=>yab x.l (x.at I J n)
def Rs.pv(r:Rs)(I J n:Int):PV:=.tup (.str r.nm::r.ops.map (Op.pv I J n))
def cnt(c m t w n:Int):Nat:=(c+m*n+t*w*n).toNat
def upTo{α:Type}(f:Nat->List α):Nat->List α
 |0=>[]
 |n+1=>upTo f n++f n
def T2.rows(w n:Int)(I:Nat):T2->List PV
 |.row r=>[r.pv I 0 n]
 |.rounds c m t rs=>upTo (λJ=>rs.map λr=>r.pv I J n) (cnt c m t w n)
def T2.rnd(w n:Int):T2->Nat
 |.row _=>0
 |.rounds c m t _=>cnt c m t w n
def yaq(w n:Int)(I:Nat)(ps:List T2):List PV:=ps.flatMap (T2.rows w n I)
def ya5(w n:Int)(ps:List T2):Nat:=(ps.map (T2.rnd w n)).sum
def T1.rows(w n:Int):T1->List PV
 |.row r=>[r.pv 0 0 n]
 |.rounds c m t ps=>upTo (λI=>yaq w n I ps) (cnt c m t w n)
def T1.rnd(w n:Int):T1->Nat
 |.row _=>0
 |.rounds c m t ps=>cnt c m t w n*(1+ya5 w n ps)
def yay(w n:Int)(ps:List T1):List PV:=ps.flatMap (T1.rows w n)
def ybW(w n:Int)(ps:List T1):Nat:=(ps.map (T1.rnd w n)).sum
def sm(i:Int):Bool:=decide (i.natAbs<=200)
def intOf:PV->Option Int
 |.int i=>AA i
 |_=>AD
def strOf:PV->Option A4
 |.str s=>AA s
 |_=>AD
def ydb:PV->Option (Bool×List PV)
 |.tp k l=>AA (k,l)
 |_=>AD
def yeG:List PV->Option (PV×PV×PV×PV)
 |[a,b,c,d]=>AA (a,b,c,d)
 |_=>AD
def yeA(l:List PV):Option (Int×Int×Int×Int):=(yeG l).bind λp=>(intOf p.1).bind λi=>(intOf p.2.1).bind λj=>(intOf p.2.2.1).bind λk=>(intOf p.2.2.2).bind λm=>AA (i,j,k,m)
def yfq(l:List PV):Option (Int×Int×Int):=(yeA (l++[.int 0])).bind λz=>AA (z.1,z.2.1,z.2.2.1)
def opC(x y:PV):Option Op:=(strOf x).bind λs=>(ydb y).bind λq=>(yeA q.2).bind λz=>if s=chS (s.cps.getD 0 0)/\(sm z.1&&sm z.2.1&&sm z.2.2.1&&sm z.2.2.2)=AB then AA (.cel ⟨s.cps.getD 0 0,z.1,z.2.1,z.2.2.1,z.2.2.2⟩)else AD
def yfD:List PV->Option (PV×PV)
 |[a,b]=>AA (a,b)
 |_=>AD
def yd1(v:PV):Option Op:=match intOf v with
 |some d=>AA (.fig d)
 |none=>(ydb v).bind λp=>(yfD p.2).bind λq=>opC q.1 q.2
def ybE:List PV->Option (List Op)
 |[]=>AA []
 |v::vs=>match yd1 v,ybE vs with
  |some a,AA b=>AA (a::b)
  |_,_=>AD
def rowOf:PV->Option Rs
 |.tp _ (.str nm::vs)=>match ybE vs with
  |some ops=>if vs.length<100 then AA ⟨nm,ops⟩else AD
  |none=>AD
 |_=>AD
def ydP(s:A4):Bool:=decide (s=A2 "row")
def ycg:PV->Option Rs
 |.tp _ [.str s,v]=>if ydP s then rowOf v else AD
 |_=>AD
def deepOf:List PV->Option (List Rs)
 |[]=>AA []
 |v::vs=>match ycg v,deepOf vs with
  |some a,AA b=>AA (a::b)
  |_,_=>AD
def ycW(s:A4):Bool:=decide (s=A2 "rounds")
def ydl(v:PV):Option (Int×Int×Int×List PV):=(ydb v).bind λp=>(yeG p.2).bind λq=>(strOf q.1).bind λs=>(ydb q.2.1).bind λy=>(yfq y.2).bind λc=>(ydb q.2.2.2).bind λu=>if (ycW s&&(sm c.1&&sm c.2.1&&sm c.2.2))=AB then AA (c.1,c.2.1,c.2.2,u.2)else AD
def part2(v:PV):Option T2:=match ydl v with
 |some z=>(deepOf z.2.2.2).map (.rounds z.1 z.2.1 z.2.2.1)
 |none=>(ycg v).map .row
def yaQ:List PV->Option (List T2)
 |[]=>AA []
 |v::vs=>match part2 v,yaQ vs with
  |some a,AA b=>AA (a::b)
  |_,_=>AD
def part1(v:PV):Option T1:=match ydl v with
 |some z=>(yaQ z.2.2.2).map (.rounds z.1 z.2.1 z.2.2.1)
 |none=>(ycg v).map .row
def ybs:List PV->Option (List T1)
 |[]=>AA []
 |v::vs=>match part1 v,ybs vs with
  |some a,AA b=>AA (a::b)
  |_,_=>AD
theorem bnd{α β:Type}{o:Option α}{f:α->Option β}{b:β}(h:o.bind f=AA b):∃a,o=AA a/\f a=AA b:=by
 cases o with
 |none=>exact nomatch h
 |some a=>exact⟨a,rfl,h⟩
theorem mpd{α β:Type}{o:Option α}{f:α->β}{b:β}(h:o.map f=AA b):∃a,o=AA a/\b=f a:=by
 cases o with
 |none=>exact nomatch h
 |some a=>have h:AA (f a)=AA b:=h;cases h;exact⟨a,rfl,rfl⟩
def zbt{v:PV}{i:Int}(h:intOf v=AA i):v=.int i:=by
 cases v with
 |int j=>have h:AA j=AA i:=h;cases h;rfl
 |_=>exact nomatch (show AD=AA i from h)
def zgW{v:PV}{i:A4}(h:strOf v=AA i):v=.str i:=by
 cases v with
 |str j=>have h:AA j=AA i:=h;cases h;rfl
 |_=>exact nomatch (show AD=AA i from h)
def zcZ{v:PV}{p:Bool×List PV}(h:ydb v=AA p):v=.tp p.1 p.2:=by
 cases v with
 |tp k l=>have h:AA (k,l)=AA p:=h;cases h;rfl
 |_=>exact nomatch (show AD=AA p from h)
def zin{l:List PV}{p:PV×PV×PV×PV}(h:yeG l=AA p):l=[p.1,p.2.1,p.2.2.1,p.2.2.2]:=by
 rcases l with _|⟨a,_|⟨b,_|⟨c,_|⟨d,_|⟨e,l⟩⟩⟩⟩⟩
 case cons.cons.cons.cons.nil=>have h:AA (a,b,c,d)=AA p:=h;cases h;rfl
 all_goals exact nomatch (show AD=AA p from h)
def znz{l:List PV}{p:PV×PV}(h:yfD l=AA p):l=[p.1,p.2]:=by
 rcases l with _|⟨a,_|⟨b,_|⟨c,l⟩⟩⟩
 case cons.cons.nil=>have h:AA (a,b)=AA p:=h;cases h;rfl
 all_goals exact nomatch (show AD=AA p from h)
def zjM{l:List PV}{z:Int×Int×Int×Int}(h:yeA l=AA z):l=[.int z.1,.int z.2.1,.int z.2.2.1,.int z.2.2.2]:=by
 let⟨p,e,h⟩:=bnd h;let⟨i,e1,h⟩:=bnd h;let⟨j,e2,h⟩:=bnd h;let⟨k,e3,h⟩:=bnd h;let⟨m,e4,h⟩:=bnd h;have h:AA (i,j,k,m)=AA z:=h
 cases h
 rw[zin e,zbt e1,zbt e2,zbt e3,zbt e4]
def zmS{l:List PV}{z:Int×Int×Int}(h:yfq l=AA z):l=[.int z.1,.int z.2.1,.int z.2.2]:=by
 let⟨p,e,h⟩:=bnd h;have e:=zjM e;have h:AA (p.1,p.2.1,p.2.2.1)=AA z:=h
 cases h
 have e:l++[.int 0]=[.int p.1,.int p.2.1,.int p.2.2.1]++[.int p.2.2.2]:=e;exact(List.append_inj' e rfl).1
def ziI{v:PV}{o:Op}(h:yd1 v=AA o):(∃d,o=.fig d/\v=.int d) \/ ∃a b x,o=.cel x/\v=.tp a [.str (chS x.l),.tp b [.int x.c,.int x.i,.int x.j,.int x.m]]/\x.i.natAbs<=200/\x.j.natAbs<=200/\x.m.natAbs<=200:=by
 unfold yd1 at h
 cases e:intOf v with
 |some d=>rw[e]at h;have h:AA (Op.fig d)=AA o:=h;cases h;exact .inl ⟨d,rfl,zbt e⟩
 |none=>
  rw[e]at h;let⟨p,e1,h⟩:=bnd h;let⟨q,e2,h⟩:=bnd h;let⟨s,e3,h⟩:=bnd h;let⟨y,e4,h⟩:=bnd h;let⟨z,e5,h⟩:=bnd h
  by_cases c:s=chS (s.cps.getD 0 0)/\(sm z.1&&sm z.2.1&&sm z.2.2.1&&sm z.2.2.2)=AB
  .rw[if_pos c]at h;have q2:=c.2;erw[sm,AI,decide_eq_true_eq]at q2
   cases h
   refine .inr ⟨p.1,y.1,_,rfl,?_,q2.1.1.2,q2.1.2,q2.2⟩;rw[zcZ e1,znz e2,zgW e3,zcZ e4,zjM e5];simp only;rw[<-c.1]
  .rw[if_neg c]at h;cases h
def zjA{v:PV}{z:Int×Int×Int×List PV}(h:ydl v=AA z):∃a b sn d,v=.tp a [.str "rounds",.tp b [.int z.1,.int z.2.1,.int z.2.2.1],sn,.tp d z.2.2.2]/\z.1.natAbs<=200/\z.2.1.natAbs<=200/\z.2.2.1.natAbs<=200:=by
 let⟨p,e1,h⟩:=bnd h;let⟨q,e2,h⟩:=bnd h;let⟨s,e3,h⟩:=bnd h;let⟨y,e4,h⟩:=bnd h;let⟨c,e5,h⟩:=bnd h;let⟨u,e6,h⟩:=bnd h
 by_cases k:(ycW s&&(sm c.1&&sm c.2.1&&sm c.2.2))=AB
 .rw[if_pos k]at h;erw[ycW,sm,AI,decide_eq_true_eq]at k
  cases h
  refine⟨p.1,y.1,q.2.2.1,u.1,?_,k.2.1.1,k.2.1.2,k.2.2⟩;rw[zcZ e1,zin e2,zgW e3,zcZ e4,zmS e5,zcZ e6,k.1]
 .rw[if_neg k]at h;cases h
def zg2{v:PV}{r:Rs}(h:rowOf v=AA r):∃a vs,v=.tp a (.str r.nm::vs)/\ybE vs=AA r.ops/\vs.length<100:=by
 unfold rowOf at h;split at h
 .rename_i a nm vs;split at h
  .rename_i ops q;split at h
   .rename_i z
    cases h;exact⟨a,vs,rfl,q,z⟩
   .cases h
  .cases h
 .cases h
def zf1{v:PV}{r:Rs}(h:ycg v=AA r):∃a v1,v=.tp a [.str "row",v1]/\rowOf v1=AA r:=by
 unfold ycg at h;split at h
 .rename_i a s v1;split at h
  .rename_i q;have q:s=A2 "row":=by simpa [ydP] using q
   exact⟨a,v1,by rw[q],h⟩
  .cases h
 .cases h
def zlr{v:PV}{p:T2}(h:part2 v=AA p):(∃r,p=.row r/\ycg v=AA r) \/ ∃a b sn d vs c m t rs,p=.rounds c m t rs/\v=.tp a [.str "rounds",.tp b [.int c,.int m,.int t],sn,.tp d vs]/\deepOf vs=AA rs/\c.natAbs<=200/\m.natAbs<=200/\t.natAbs<=200:=by
 unfold part2 at h
 cases e:ydl v with
 |some z=>
  rw[e]at h;let⟨a,b,sn,d,hv,hc,hm,ht⟩:=zjA e;let⟨rs,e2,hp⟩:=mpd (f:=T2.rounds z.1 z.2.1 z.2.2.1) (o:=deepOf z.2.2.2) h;exact .inr ⟨a,b,sn,d,_,_,_,_,rs,hp,hv,e2,hc,hm,ht⟩
 |none=>
  rw[e]at h;let⟨r,e2,hp⟩:=mpd (f:=T2.row) (o:=ycg v) h;exact .inl ⟨r,hp,e2⟩
def zkQ{v:PV}{p:T1}(h:part1 v=AA p):(∃r,p=.row r/\ycg v=AA r) \/ ∃a b sn d vs c m t ps,p=.rounds c m t ps/\v=.tp a [.str "rounds",.tp b [.int c,.int m,.int t],sn,.tp d vs]/\yaQ vs=AA ps/\c.natAbs<=200/\m.natAbs<=200/\t.natAbs<=200:=by
 unfold part1 at h
 cases e:ydl v with
 |some z=>
  rw[e]at h;let⟨a,b,sn,d,hv,hc,hm,ht⟩:=zjA e;let⟨rs,e2,hp⟩:=mpd (f:=T1.rounds z.1 z.2.1 z.2.2.1) (o:=yaQ z.2.2.2) h;exact .inr ⟨a,b,sn,d,_,_,_,_,rs,hp,hv,e2,hc,hm,ht⟩
 |none=>
  rw[e]at h;let⟨r,e2,hp⟩:=mpd (f:=T1.row) (o:=ycg v) h;exact .inl ⟨r,hp,e2⟩
def zn8(k:Nat){b:Bool}{c i j m I J n:Int}(hi:i.natAbs<=200)(hj:j.natAbs<=200)(hm:m.natAbs<=200)(st:SO):yc T (k+1) yiN [.tp b [.int c,.int i,.int j,.int m],.int I,.int J,.int n] st=.ok (.int (c+i*I+j*J+m*n)) st:=by
 have hT:T yiN=AA ygJ:=rfl;have h1:i.natAbs<18446744073709551616:=by lia
 have h2:j.natAbs<18446744073709551616:=by lia
 have h3:m.natAbs<18446744073709551616:=by lia
 rw[yc,hT];erw[ygJ,AL,AN,AU,AY,if_true,nLs,nL,Bs,AM,A9,Ak,AS,CU,AT,AW,xs_cons,xs_nil,x_ret,IC.ve1,IC.ve2,IC.ve3,IC.ve16,AF,AE,bd_ok,fl_ok,toR_some,ix0,ix1,ix2,ix3,zaF h1,zaF h2,zaF h3,b_add,th_rt]
def plB:Css:=match yQ.body with
 |.cons _ (.cons (.for _ _ b) _)=>b
 |_=>.nil
def zdx(k:Nat){p0:Option PV}{I J n:Int}:∀(vs:List PV) (ops:List Op) (acc:List PV) (u:Option PV),ybE vs=AA ops->acc.length+vs.length<1000000 ->
  ∃u',yaY (yc T (k+1)) (.n 5) plB vs [p0,AA (.int I),AA (.int J),AA (.int n),AA (.loc 0),u] [.lst acc]=.nx [p0,AA (.int I),AA (.int J),AA (.int n),AA (.loc 0),u'] [.lst (acc++ops.map (Op.pv I J n))]
 |[],ops,acc,u,h,_=>by
  cases h
  exact⟨u,by rw[zx];simp⟩
 |v::vs,ops,acc,u,h,hl=>by
  rw[AL]at hl;unfold ybE at h;split at h
  .rename_i a b ha hb
   cases h
   let⟨u',e⟩:=zdx k (p0:=p0) (I:=I) (J:=J) (n:=n) vs b (acc++[Op.pv I J n a]) (AA v) hb (by simp;lia);refine⟨u',?_⟩;have hal:acc.length<1000000:=by lia
   have hm:yaA .append [Ob.lst acc] (.loc 0)=AA true:=rfl;have hap:∀x:PV,ybl .append [Ob.lst acc] (.loc 0) [x]=.ok .non [.lst (acc++[x])]:=λx=>by simp[ybl,ydG,hal]
   have hs:exs (yc T (k+1)) [p0,AA (.int I),AA (.int J),AA (.int n),AA (.loc 0),AA v] [.lst acc] plB=.nx [p0,AA (.int I),AA (.int J),AA (.int n),AA (.loc 0),AA v] [.lst (acc++[Op.pv I J n a])]:=by
    rcases ziI ha with⟨d,rfl,rfl⟩|⟨f1,f2,x,rfl,rfl,q1,q2,q3⟩
    .have hi:ybG (.int d) [.tuple]=AA (.bl AC):=rfl;erw[plB,yQ,xs_cons,xs_nil,x_ite,x_expr,IC.ve2,IC.ve20,IC.ve21,evs,AF,AE,bd_ok,fl_ok,toR_some,hi,t_bl,on_t,cond_false,hm,ono,hap,th_nx,Op.pv]
    .have hi:ybG (.tp f1 [.str (chS x.l),.tp f2 [.int x.c,.int x.i,.int x.j,.int x.m]]) [.tuple]=AA (.bl AB):=rfl;have hat:=zn8 k (b:=f2) (c:=x.c) (I:=I) (J:=J) (n:=n) q1 q2 q3 [.lst acc];erw[plB,yQ,xs_cons,xs_nil,x_ite,x_expr,IC.ve1,IC.ve2,IC.ve11,IC.ve16,IC.ve18,IC.ve20,IC.ve21,evs,AF,AE,bd_ok,fl_ok,toR_some,hi,t_bl,on_t,cond_true,hm,ono,hap,th_nx,Op.pv,ix0,ix1,hat,AL,AN,AU,AY,sizeMax,BG,if_true,yab,Cx.at]
   rw[zk (ρ1:=[p0,AA (.int I),AA (.int J),AA (.int n),AA (.loc 0),AA v]) rfl,hs];show yaY _ _ _ _ _ _=_;rw[e];simp
  .cases h
def zkF(I J n:Int)(o:Op):nL (o.pv I J n)=true:=by cases o<;>rfl
def zeu(I J n:Int):∀ops:List Op,nLs (ops.map (Op.pv I J n))=AB
 |[]=>rfl
 |o::ops=>by simp[nLs,zkF,zeu I J n ops]
def zkO{v:PV}{o:Op}(h:yd1 v=AA o):nL v=true:=by
 rcases ziI h with⟨d,rfl,rfl⟩|⟨f1,f2,x,rfl,rfl,_⟩<;>rfl
def ze5:∀{vs:List PV} {ops:List Op},ybE vs=AA ops->nLs vs=AB
 |[],_,_=>rfl
 |v::vs,ops,h=>by
  unfold ybE at h;split at h
  .rename_i a b ha hb;simp[nLs,zkO ha,ze5 hb]
  .cases h
def zjy{v:PV}{r:Rs}(h:rowOf v=AA r):nL v=true:=by
 let⟨a,vs,rfl,h2,_⟩:=zg2 h;simp[nL,nLs,ze5 h2]
def zdf(k:Nat){v:PV}{r:Rs}(h:rowOf v=AA r)(I J n:Int)(st:SO):yc T (k+2) yhN [v,.int I,.int J,.int n] st=.ok (r.pv I J n) st:=by
 have hnv:=zjy h;let⟨a,vs,rfl,h2,h3⟩:=zg2 h;let⟨u',e⟩:=zdx k (p0:=AA (.tp a (.str r.nm::vs))) (I:=I) (J:=J) (n:=n) vs r.ops [.str r.nm] AD h2 (by simp;lia);have hT:T yhN=AA ⟨4,6,AB,yQ.body⟩:=rfl;have hb:yQ.body=.cons (.asg (.n 4) (.newl (.cons (.idx (.var 0) (.cst (.int 0))) .nil))) (.cons (.for (.n 5) (.seq (.slc (.var 0) (.cst (.int 1)) (.cst .non))) plB) (.cons (.ret (.blt .tuple (.cons (.var 4) .nil))) .nil)):=rfl;have hsl:yco (.tp a (.str r.nm::vs)) (AA 1) .non=AA (.tup vs):=by
  have h1:yaZ (vs.length+1) 1=1:=by simp[yaZ]
  simp[yco,yaV,ycm,ycw,ycY,cut,h1]
 have hnl:nLs [.tp a (.str r.nm::vs),.int I,.int J,.int n]=true:=by simp[nLs,nL]at hnv ⊢;exact hnv
 rw[yc,hT,hb];erw[AL,AN,AU,AY,if_true,hnl,AM,A9,Ak,AS,AT,AW];rw[xs_cons,x_asg];erw[IC.ve1,IC.ve2,IC.ve13,IC.ve16,evs,AF,AE,bd_ok,fl_ok,toR_some,ix0,AL,AN,AU,sizeMax,BG,if_true,bT_n,nxO_some,th_nx,AQ,AR,AW];rw[xs_cons,x_for];erw[evi,IC.ve1,IC.ve2,IC.ve17,AF,AE,bd_ok,fl_ok,yaV,onP,hsl,toR_some,e,th_nx];simp[xs_cons,xs_nil,x_ret,IC.ve2,IC.ve19,evs,yan,ydh,yK,toR,R.fl,R.bind,yaB,nL,nLs,zeu,Rs.pv]
def zgc{α:Type}(f:Nat->List α){i:Nat}:∀n,i<=n->(upTo f i).length<=(upTo f n).length
 |0,h=>by rw[show i=0 by lia];exact A0 _
 |n+1,h=>by
  by_cases e:i=n+1
  .rw[e];exact A0 _
  .have:=zgc f n (show i<=n by lia);simp[upTo];lia
def zL:∀(N:Nat) (a:Int) (j:Nat) (x:PV),(yo N a 1)[j]?=AA x->x=.int (a+j)/\j<N
 |0,a,j,x,h=>by simp[yo]at h
 |N+1,a,0,x,h=>by simp[yo]at h;exact⟨by simp[h],by lia⟩
 |N+1,a,j+1,x,h=>by
  simp[yo]at h;let⟨h1,h2⟩:=zL N (a+1) j x h;exact⟨by rw[h1];congr 1;lia,by lia⟩
def zr:∀(N:Nat) (a:Int),(yo N a 1).length=N
 |0,_=>rfl
 |N+1,a=>by simp[yo,zr N]
def zfb{c m t w n:Int}(hc:c.natAbs<=200)(hm:m.natAbs<=200)(ht:t.natAbs<=200)(w0:0<=w)(w1:w<=16)(n0:0<=n)(n1:n<=8):(c+m*n+t*w*n).natAbs<1000000:=by
 have h1:(m*n).natAbs<=200*8:=by rw[FX];exact BK hm ∅
 have h2:(t*w*n).natAbs<=200*16*8:=by rw[FX,FX];exact BK (BK ht ∅) ∅
 generalize m*n=A,t*w*n=B at *;lia
def zeN(k:Nat){b:Bool}{c m t w n:Int}(hm:m.natAbs<=200)(ht:t.natAbs<=200)(n0:0<=n)(n1:n<=8)(st:SO):yc T (k+1) yiP [.tp b [.int c,.int m,.int t],.int w,.int n] st=.ok (.int (c+m*n+t*w*n)) st:=by
 have hT:T yiP=AA ygK:=rfl;have h1:m.natAbs<18446744073709551616:=by lia
 have h2:t.natAbs<18446744073709551616:=by lia
 have h3:n.natAbs<18446744073709551616:=by lia
 rw[yc,hT];erw[ygK,AL,AN,AU,AY,if_true,nLs,nL,Bs,AM,A9,Ak,AS,CU,AT,AW,xs_cons,xs_nil,x_ret,IC.ve1,IC.ve2,IC.ve3,IC.ve16,AF,AE,bd_ok,fl_ok,toR_some,ix0,ix1,ix2,zaF h1,zaF h2,zy h3,b_add,th_rt]
def zlP{call:Cl}{ρ:IC.Env}{st:SO}{e:Ce}{R v:Int}(h:ρ[5]?=AA (AA (.int R)))(he:ev call ρ st e=.ok (.int v) st):ex call ρ st (.aug 5 .add e)=.nx (ρ.set 5 (AA (.int (R+v)))) st:=by
 rw[zp1 h,he];rfl
def ycc:Css:=match yL.body with
 |.cons _ (.cons _ (.cons (.for _ _ b) _))=>b
 |_=>.nil
def ycy:Css:=match ycc with
 |.cons (.ite _ _ (.cons (.for _ _ b) _)) _=>b
 |_=>.nil
def ycr:Css:=match ycy with
 |.cons _ (.cons (.for _ _ b) _)=>b
 |_=>.nil
def yb7:Css:=match ycr with
 |.cons (.ite _ _ (.cons (.ite _ (.cons _ (.cons _ (.cons (.for _ _ b) _))) _) _)) _=>b
 |_=>.nil
def unC:Ce:=.call yhN (.cons (.idx (.var 0) (.cst (.int 1))) (.cons (.var 1) (.cons (.var 2) (.cons (.var 3) .nil))))
def zeO(k:Nat){I J n:Int}{st:SO}:∀(vs:List PV) (rs:List Rs),deepOf vs=AA rs->ya4 (yc T (k+2)) [AD,AA (.int I),AA (.int J),AA (.int n)] (.n 0) (.cst (.bl AB)) unC vs st=.ok (rs.map λr=>r.pv I J n) st
 |[],rs,h=>by cases h;exact zfo
 |v::vs,rs,h=>by
  unfold deepOf at h;split at h
  .rename_i a b ha hb
   cases h
   let⟨f,v1,rfl,h1⟩:=zf1 ha;have hp:=zdf k h1 I J n st;have ih:=zeO k (I:=I) (J:=J) (n:=n) (st:=st) vs b hb;have h1:ycA (yc T (k+2)) [AD,AA (.int I),AA (.int J),AA (.int n)] (.n 0) (.cst (.bl AB)) unC (.tp f [.str "row",v1]) st=.ok (AA (a.pv I J n)) st:=by
    erw[ycA,unC,bT_n,AQ,IC.ve1,IC.ve2,IC.ve16,IC.ve18,evs,AF,AE,bd_ok,t_bl,ono,cond_true,toR_some,ix1,hp]
   rw[zdu,h1,bd_ok,ih,bd_ok];rfl
  .cases h
def zpL{acc:List PV}:yaA .extend [Ob.lst acc] (.loc 0)=AA true:=rfl
def zlA{acc:List PV}:yaA .append [Ob.lst acc] (.loc 0)=AA true:=rfl
theorem len0{acc:List PV}:yan .len [Ob.lst acc] [.loc 0]=AA (.int acc.length):=rfl
def zit(k:Nat){p0 p6 p9:Option PV}{w n I J R:Int}{f:Bool}{s c sn:PV}{d:Bool}{vs:List PV}{rs:List Rs}(hd:deepOf vs=AA rs){acc:List PV}(hR:R<=4000)(hl:acc.length+rs.length<=4000):
  exs (yc T (k+2)) [p0,AA (.int w),AA (.int n),AA (.int 4000),AA (.loc 0),AA (.int R),p6,AA (.int I),AA (.tp f [s,c,sn,.tp d vs]),p9,AA (.int J)] [.lst acc] yb7=.nx [p0,AA (.int w),AA (.int n),AA (.int 4000),AA (.loc 0),AA (.int R),p6,AA (.int I),AA (.tp f [s,c,sn,.tp d vs]),p9,AA (.int J)] [.lst (acc++rs.map λr=>r.pv I J n)]:=by
 have hc:=zeO k (I:=I) (J:=J) (n:=n) (st:=[.lst acc]) vs rs hd;have h1:(acc.length:Int)<=4000:=by lia
 have h2:rs.length<=1000000:=by lia
 have h3:acc.length+rs.length<=1000000:=by lia
 have hls:yb3 (.ok (rs.map λr=>r.pv I J n) [.lst acc])=.ok (.lst (rs.map λr=>r.pv I J n)) [.lst acc]:=by simp[yb3,h2]
 have hex:ybl .extend [Ob.lst acc] (.loc 0) [.lst (rs.map λr=>r.pv I J n)]=.ok .non [.lst (acc++rs.map λr=>r.pv I J n)]:=by simp[ybl,yeg,h3]
 have hb:yb7=.cons (.ite (.and (.cmp .le (.var 5) (.cst (.int 4000))) (.cmp .le (.blt .len (.cons (.var 4) .nil)) (.var 3))) (.cons (.expr (.mth .extend (.var 4) (.cons (.comp [AD,AA 7,AA 10,AA 2] (.n 0) (.seq (.idx (.var 8) (.cst (.int 3)))) (.cst (.bl AB)) unC) .nil))) .nil) .nil) .nil:=rfl;rw[hb];erw[xs_cons,xs_nil,x_ite,x_expr,v_comp,evi,IC.ve1,IC.ve2,IC.ve6,IC.ve8,IC.ve16,IC.ve19,IC.ve20,evs,AF,AE,bd_ok,fl_ok,toR_some,len0,c_le,hR,h1,decide_true,onBl,cond_true,t_bl,on_t,ono,zpL,AM,A9,G0,B3,Eh,ix3,hc,hls,hex,th_nx]
def zrd(k:Nat){p0 p6 p9:Option PV}{w n R:Int}{I:Nat}{f:Bool}{s c sn:PV}{d:Bool}{vs:List PV}{rs:List Rs}(hd:deepOf vs=AA rs){acc:List PV}{N:Nat}{u:Option PV}(hR:R<=4000)(hl:acc.length+(upTo (λJ=>rs.map λr=>r.pv I J n) N).length<=4000):
  ∃u',yaY (yc T (k+2)) (.n 10) yb7 (yo N 0 1) [p0,AA (.int w),AA (.int n),AA (.int 4000),AA (.loc 0),AA (.int R),p6,AA (.int I),AA (.tp f [s,c,sn,.tp d vs]),p9,u] [.lst acc]=.nx [p0,AA (.int w),AA (.int n),AA (.int 4000),AA (.loc 0),AA (.int R),p6,AA (.int I),AA (.tp f [s,c,sn,.tp d vs]),p9,u'] [.lst (acc++upTo (λJ=>rs.map λr=>r.pv I J n) N)]:=by
 let⟨ρ',st',h1,u',rfl,rfl⟩:=zbB (call:=yc T (k+2)) (t:=.n 10) (b:=yb7) (λi ρ st=>∃u,ρ=[p0,AA (.int w),AA (.int n),AA (.int 4000),AA (.loc 0),AA (.int R),p6,AA (.int I),AA (.tp f [s,c,sn,.tp d vs]),p9,u]/\st=[.lst (acc++upTo (λJ=>rs.map λr=>r.pv I J n) i)]) (yo N 0 1) 0 [p0,AA (.int w),AA (.int n),AA (.int 4000),AA (.loc 0),AA (.int R),p6,AA (.int I),AA (.tp f [s,c,sn,.tp d vs]),p9,u] [.lst acc] ⟨u,rfl,by simp[upTo]⟩ (by
  rintro j x ρ st hx ⟨u,rfl,rfl⟩
  let⟨rfl,hj⟩:=zL N 0 j x hx;rw[AU,DS];have hle:=zgc (λJ=>rs.map λr=>r.pv I J n) (i:=j+1) N ∅;erw[upTo,Av,BN]at hle hl;refine⟨_,_,_,rfl,zit k hd hR (by simp;lia),_,rfl,?_⟩;rw[upTo,BZ])
 rw[zr,AU]at h1;exact⟨u',h1⟩
def zdB:ye .eq (.str "row") (.str "row")=AA (.bl AB):=by ac_rfl
def zds:ye .eq (.str "rounds") (.str "row")=AA (.bl AC):=by ac_rfl
def zoE{acc:List PV}{x:PV}(h:acc.length<1000000):ybl .append [Ob.lst acc] (.loc 0) [x]=.ok .non [.lst (acc++[x])]:=by simp[ybl,ydG,h]
def zjf{z:Int}(h:z.natAbs<1000000):ybu (.int z)=AA (yo z.toNat 0 1):=by
 erw[ybu];rw[if_pos ∅]
def zkb(k:Nat){p0 p6 u9 u10:Option PV}{w n R:Int}{I:Nat}{v:PV}{p:T2}(hp:part2 v=AA p){acc:List PV}(w0:0<=w)(w1:w<=16)(n0:0<=n)(n1:n<=8)(hR0:0<=R)(hR:R+p.rnd w n<=4000)(hl:acc.length+(p.rows w n I).length<=4000):
  ∃v9 v10,exs (yc T (k+2)) [p0,AA (.int w),AA (.int n),AA (.int 4000),AA (.loc 0),AA (.int R),p6,AA (.int I),AA v,u9,u10] [.lst acc] ycr=.nx [p0,AA (.int w),AA (.int n),AA (.int 4000),AA (.loc 0),AA (.int (R+p.rnd w n)),p6,AA (.int I),AA v,v9,v10] [.lst (acc++p.rows w n I)]:=by
 rcases zlr hp with⟨r,rfl,hr⟩|⟨a,b,sn,d,vs,c,m,t,rs,rfl,rfl,hd,hc,hm,ht⟩
 .let⟨f,v1,rfl,h1⟩:=zf1 hr;have hpl:=zdf k h1 I 0 n [.lst acc];have hal:acc.length<1000000:=by lia
  refine⟨u9,u10,?_⟩;erw[ycr,ycy,ycc,yL,xs_cons,xs_nil,x_ite,x_expr,IC.ve1,IC.ve2,IC.ve8,IC.ve16,IC.ve18,IC.ve20,evs,AF,AE,bd_ok,fl_ok,toR_some,ix0,ix1,zdB,t_bl,on_t,cond_true,ono,zlA,hpl,zoE hal,th_nx,T2.rnd,T2.rows];simp
 .have hcn:=zeN (k+1) (b:=b) (c:=c) (w:=w) hm ht n0 n1 [.lst acc];have hcb:=zfb hc hm ht w0 w1 n0 n1;erw[T2.rnd,T2.rows]at hR hl ⊢;have hN:((cnt c m t w n:Nat):Int)=if 0<(c+m*n+t*w*n)then(c+m*n+t*w*n)else 0:=by
   unfold cnt;split<;>lia
  have h40:R<=4000:=by lia
  have hal:(acc.length:Int)<=4000:=by lia
  have hmax:yan .max [Ob.lst acc] [.int 0,.int (c+m*n+t*w*n)]=AA (.int ((cnt c m t w n:Nat):Int)):=by
   erw[yan,maxV];rw[hN]
  have hmin:yan .min [Ob.lst acc] [.int ((cnt c m t w n:Nat):Int),.int 4001]=AA (.int ((cnt c m t w n:Nat):Int)):=by
   erw[yan,ydZ];rw[if_neg ∅]
  have hrg:ybu (.int ((cnt c m t w n:Nat):Int))=AA (yo (cnt c m t w n) 0 1):=by
   rw[zjf ∅,Bv]
  let⟨u',e⟩:=zrd k (p0:=p0) (p6:=p6) (p9:=AA (.int ((cnt c m t w n:Nat):Int))) (w:=w) (n:=n) (R:=R+(cnt c m t w n:Nat)) (I:=I) (f:=a) (s:=.str "rounds") (c:=.tp b [.int c,.int m,.int t]) (sn:=sn) (d:=d) hd (acc:=acc) (N:=cnt c m t w n) (u:=u10) hR hl;refine⟨AA (.int ((cnt c m t w n:Nat):Int)),u',?_⟩;have hau:∀st,ex (yc T (k+2)) [p0,AA (.int w),AA (.int n),AA (.int 4000),AA (.loc 0),AA (.int R),p6,AA (.int I),AA (.tp a [.str "rounds",.tp b [.int c,.int m,.int t],sn,.tp d vs]),AA (.int ((cnt c m t w n:Nat):Int)),u10] st (.aug 5 .add (.var 9))=.nx [p0,AA (.int w),AA (.int n),AA (.int 4000),AA (.loc 0),AA (.int (R+(cnt c m t w n:Nat))),p6,AA (.int I),AA (.tp a [.str "rounds",.tp b [.int c,.int m,.int t],sn,.tp d vs]),AA (.int ((cnt c m t w n:Nat):Int)),u10] st:=λst=>zlP rfl (by erw[IC.ve2,AF,AE])
  have hb:ycr=(match ycr with
   |.cons (.ite q1 q2 (.cons (.ite q3 (.cons q4 (.cons q5 (.cons (.for q6 q7 _) q8))) q9) q10)) q11=>.cons (.ite q1 q2 (.cons (.ite q3 (.cons q4 (.cons q5 (.cons (.for q6 q7 yb7) q8))) q9) q10)) q11
   |_=>.nil):=rfl
  rw[hb];erw[ycr,ycy,ycc,yL,xs_cons,xs_nil,x_ite,x_asg,x_for,evi,IC.ve1,IC.ve2,IC.ve6,IC.ve8,IC.ve16,IC.ve18,IC.ve19,evs,AF,AE,bd_ok,fl_ok,toR_some,ix0,ix1,ix3,zds,t_bl,on_t,onBl,cond_true,cond_false,c_le,len0,h40,hal,decide_true,hcn,hmax,hmin,bT_n,nxO_some,th_nx,AQ,AR,hau,hrg,toL,e]
theorem un8(k:Nat){p0 p6:Option PV}{w n:Int}{I:Nat}(w0:0<=w)(w1:w<=16)(n0:0<=n)(n1:n<=8):∀(vs:List PV) (ps:List T2) (R:Int) (acc:List PV) (u8 u9 u10:Option PV),yaQ vs=AA ps->0<=R->R+ya5 w n ps<=4000->acc.length+(yaq w n I ps).length<=4000 ->
  ∃v8 v9 v10,yaY (yc T (k+2)) (.n 8) ycr vs [p0,AA (.int w),AA (.int n),AA (.int 4000),AA (.loc 0),AA (.int R),p6,AA (.int I),u8,u9,u10] [.lst acc]=.nx [p0,AA (.int w),AA (.int n),AA (.int 4000),AA (.loc 0),AA (.int (R+ya5 w n ps)),p6,AA (.int I),v8,v9,v10] [.lst (acc++yaq w n I ps)]
 |[],ps,R,acc,u8,u9,u10,h,_,_,_=>by
  cases h
  exact⟨u8,u9,u10,by rw[zx];simp[ya5,yaq]⟩
 |v::vs,ps,R,acc,u8,u9,u10,h,hR0,hR,hl=>by
  unfold yaQ at h;split at h
  .rename_i a b ha hb
   cases h
   have q1:ya5 w n (a::b)=a.rnd w n+ya5 w n b:=by simp[ya5]
   have q2:yaq w n I (a::b)=a.rows w n I++yaq w n I b:=by simp[yaq]
   rw[q1]at hR;rw[q2,Av]at hl;let⟨v9,v10,e1⟩:=zkb k (p0:=p0) (p6:=p6) (u9:=u9) (u10:=u10) (R:=R) (I:=I) ha (acc:=acc) w0 w1 n0 n1 hR0 ∅ ∅;let⟨x8,x9,x10,e2⟩:=un8 k (p0:=p0) (p6:=p6) (I:=I) w0 w1 n0 n1 vs b (R+a.rnd w n) (acc++a.rows w n I) (AA v) v9 v10 hb ∅ ∅ (by rw[Av];lia);refine⟨x8,x9,x10,?_⟩;rw[zk (ρ1:=[p0,AA (.int w),AA (.int n),AA (.int 4000),AA (.loc 0),AA (.int R),p6,AA (.int I),AA v,u9,u10]) rfl,e1,q1,q2];show yaY _ _ _ _ _ _=_;rw[e2,BZ,G6,Fh]
  .cases h
def zlc(k:Nat){p0 u8 u9 u10:Option PV}{w n R:Int}{I:Nat}{a b d:Bool}{sn:PV}{vs:List PV}{c m t:Int}{ps:List T2}(hp:yaQ vs=AA ps){acc:List PV}(w0:0<=w)(w1:w<=16)(n0:0<=n)(n1:n<=8)(hR0:0<=R)(hR:R+1+ya5 w n ps<=4000)(hl:acc.length+(yaq w n I ps).length<=4000):
  ∃v8 v9 v10,exs (yc T (k+2)) [p0,AA (.int w),AA (.int n),AA (.int 4000),AA (.loc 0),AA (.int R),AA (.tp a [.str "rounds",.tp b [.int c,.int m,.int t],sn,.tp d vs]),AA (.int I),u8,u9,u10] [.lst acc] ycy=.nx [p0,AA (.int w),AA (.int n),AA (.int 4000),AA (.loc 0),AA (.int (R+1+ya5 w n ps)),AA (.tp a [.str "rounds",.tp b [.int c,.int m,.int t],sn,.tp d vs]),AA (.int I),v8,v9,v10] [.lst (acc++yaq w n I ps)]:=by
 let⟨v8,v9,v10,e⟩:=un8 k (p0:=p0) (p6:=AA (.tp a [.str "rounds",.tp b [.int c,.int m,.int t],sn,.tp d vs])) (I:=I) w0 w1 n0 n1 vs ps (R+1) acc u8 u9 u10 hp ∅ hR hl;refine⟨v8,v9,v10,?_⟩;have hau:∀st,ex (yc T (k+2)) [p0,AA (.int w),AA (.int n),AA (.int 4000),AA (.loc 0),AA (.int R),AA (.tp a [.str "rounds",.tp b [.int c,.int m,.int t],sn,.tp d vs]),AA (.int I),u8,u9,u10] st (.aug 5 .add (.cst (.int 1)))=.nx [p0,AA (.int w),AA (.int n),AA (.int 4000),AA (.loc 0),AA (.int (R+1)),AA (.tp a [.str "rounds",.tp b [.int c,.int m,.int t],sn,.tp d vs]),AA (.int I),u8,u9,u10] st:=λst=>zlP rfl (by erw[IC.ve1]);have hb:ycy=.cons (.aug 5 .add (.cst (.int 1))) (.cons (.for (.n 8) (.seq (.idx (.var 6) (.cst (.int 3)))) ycr) (.cons (.ite (.or (.cmp .gt (.var 5) (.cst (.int 4000))) (.cmp .gt (.blt .len (.cons (.var 4) .nil)) (.var 3))) (.cons (.ret (.cst .non)) .nil) .nil) .nil)):=rfl;have g1:¬(4000:Int)<R+1+ya5 w n ps:=by lia
 have g2:¬(4000:Int)<((acc++yaq w n I ps).length:Nat):=by rw[Av];lia
 rw[hb];erw[xs_cons,xs_nil,x_ite,x_for,evi,hau,IC.ve1,IC.ve2,IC.ve7,IC.ve8,IC.ve16,IC.ve19,evs,AF,AE,bd_ok,fl_ok,toR_some,ix3,th_nx,e,c_gt,len0,g1,g2,decide_false,onBl,cond_false,t_bl,on_t]
theorem un7(k:Nat){p0:Option PV}{w n R:Int}{a b d:Bool}{sn:PV}{vs:List PV}{c m t:Int}{ps:List T2}(hp:yaQ vs=AA ps){acc:List PV}{N:Nat}{u7 u8 u9 u10:Option PV}(w0:0<=w)(w1:w<=16)(n0:0<=n)(n1:n<=8)(hR0:0<=R)(hR:R+(N*(1+ya5 w n ps):Nat)<=4000)(hl:acc.length+(upTo (λI=>yaq w n I ps) N).length<=4000):
  ∃v7 v8 v9 v10,yaY (yc T (k+2)) (.n 7) ycy (yo N 0 1) [p0,AA (.int w),AA (.int n),AA (.int 4000),AA (.loc 0),AA (.int R),AA (.tp a [.str "rounds",.tp b [.int c,.int m,.int t],sn,.tp d vs]),u7,u8,u9,u10] [.lst acc]=.nx [p0,AA (.int w),AA (.int n),AA (.int 4000),AA (.loc 0),AA (.int (R+(N*(1+ya5 w n ps):Nat))),AA (.tp a [.str "rounds",.tp b [.int c,.int m,.int t],sn,.tp d vs]),v7,v8,v9,v10] [.lst (acc++upTo (λI=>yaq w n I ps) N)]:=by
 let⟨ρ',st',h1,v7,v8,v9,v10,rfl,rfl⟩:=zbB (call:=yc T (k+2)) (t:=.n 7) (b:=ycy) (λi ρ st=>∃v7 v8 v9 v10,ρ=[p0,AA (.int w),AA (.int n),AA (.int 4000),AA (.loc 0),AA (.int (R+(i*(1+ya5 w n ps):Nat))),AA (.tp a [.str "rounds",.tp b [.int c,.int m,.int t],sn,.tp d vs]),v7,v8,v9,v10]/\st=[.lst (acc++upTo (λI=>yaq w n I ps) i)]) (yo N 0 1) 0 [p0,AA (.int w),AA (.int n),AA (.int 4000),AA (.loc 0),AA (.int R),AA (.tp a [.str "rounds",.tp b [.int c,.int m,.int t],sn,.tp d vs]),u7,u8,u9,u10] [.lst acc] ⟨u7,u8,u9,u10,by simp,by simp[upTo]⟩ (by
  rintro j x ρ st hx ⟨v7,v8,v9,v10,rfl,rfl⟩
  let⟨rfl,hj⟩:=zL N 0 j x hx;rw[AU,DS];have hle:=zgc (λI=>yaq w n I ps) (i:=j+1) N ∅;have hmu:(j+1)*(1+ya5 w n ps)<=N*(1+ya5 w n ps):=Nat.mul_le_mul_right _ ∅;have hms:(j+1)*(1+ya5 w n ps)=j*(1+ya5 w n ps)+(1+ya5 w n ps):=Nat.succ_mul _ _;erw[upTo,Av]at hle hl;let⟨x8,x9,x10,e⟩:=zlc k (p0:=p0) (u8:=v8) (u9:=v9) (u10:=v10) (R:=R+(j*(1+ya5 w n ps):Nat)) (I:=j) (a:=a) (b:=b) (d:=d) (sn:=sn) (c:=c) (m:=m) (t:=t) hp (acc:=acc++upTo (λI=>yaq w n I ps) j) w0 w1 n0 n1 ∅ ∅ (by erw[Av];lia);refine⟨_,_,_,rfl,e,AA (.int j),x8,x9,x10,?_,?_⟩
  .rw[hms];erw[List.cons.injEq,and_true,true_and,GQ,PV.int.injEq];lia
  .rw[upTo,BZ])
 rw[zr,AU]at h1;exact⟨v7,v8,v9,v10,h1⟩
def zjZ(k:Nat){p0 u7 u8 u9 u10:Option PV}{w n R:Int}{v:PV}{p:T1}(hp:part1 v=AA p){acc:List PV}(w0:0<=w)(w1:w<=16)(n0:0<=n)(n1:n<=8)(hR0:0<=R)(hR:R+p.rnd w n<=4000)(hl:acc.length+(p.rows w n).length<=4000):
  ∃v7 v8 v9 v10,exs (yc T (k+2)) [p0,AA (.int w),AA (.int n),AA (.int 4000),AA (.loc 0),AA (.int R),AA v,u7,u8,u9,u10] [.lst acc] ycc=.nx [p0,AA (.int w),AA (.int n),AA (.int 4000),AA (.loc 0),AA (.int (R+p.rnd w n)),AA v,v7,v8,v9,v10] [.lst (acc++p.rows w n)]:=by
 rcases zkQ hp with⟨r,rfl,hr⟩|⟨a,b,sn,d,vs,c,m,t,ps,rfl,rfl,hd,hc,hm,ht⟩
 .let⟨f,v1,rfl,h1⟩:=zf1 hr;have hpl:=zdf k h1 0 0 n [.lst acc];have hal:acc.length<1000000:=by lia
  refine⟨u7,u8,u9,u10,?_⟩;erw[ycc,yL,xs_cons,xs_nil,x_ite,x_expr,IC.ve1,IC.ve2,IC.ve8,IC.ve16,IC.ve18,IC.ve20,evs,AF,AE,bd_ok,fl_ok,toR_some,ix0,ix1,zdB,t_bl,on_t,cond_true,ono,zlA,hpl,zoE hal,th_nx,T1.rnd,T1.rows];simp
 .have hcn:=zeN (k+1) (b:=b) (c:=c) (w:=w) hm ht n0 n1 [.lst acc];have hcb:=zfb hc hm ht w0 w1 n0 n1;erw[T1.rnd,T1.rows]at hR hl ⊢;let⟨v7,v8,v9,v10,e⟩:=un7 k (p0:=p0) (R:=R) (a:=a) (b:=b) (d:=d) (sn:=sn) (c:=c) (m:=m) (t:=t) hd (acc:=acc) (N:=cnt c m t w n) (u7:=u7) (u8:=u8) (u9:=u9) (u10:=u10) w0 w1 n0 n1 hR0 hR hl;have hN1:cnt c m t w n<=cnt c m t w n*(1+ya5 w n ps):=Nat.le_mul_of_pos_right _ ∅;have hmin:yan .min [Ob.lst acc] [.int (c+m*n+t*w*n),.int 4001]=AA (.int (c+m*n+t*w*n)):=by
   erw[yan,ydZ];rw[if_neg (by unfold cnt at *;lia)]
  have hrg:ybu (.int (c+m*n+t*w*n))=AA (yo (cnt c m t w n) 0 1):=zjf hcb;refine⟨v7,v8,v9,v10,?_⟩
  have hb:ycc=(match ycc with
   |.cons (.ite q1 q2 (.cons (.for q6 q7 _) q8)) q11=>.cons (.ite q1 q2 (.cons (.for q6 q7 ycy) q8)) q11
   |_=>.nil):=rfl
  rw[hb];erw[ycc,yL,xs_cons,xs_nil,x_ite,x_for,evi,IC.ve1,IC.ve2,IC.ve8,IC.ve16,IC.ve18,IC.ve19,evs,AF,AE,bd_ok,fl_ok,toR_some,ix0,ix1,zds,t_bl,on_t,cond_false,hcn,hmin,hrg,toL,e,th_nx]
theorem un6(k:Nat){p0:Option PV}{w n:Int}(w0:0<=w)(w1:w<=16)(n0:0<=n)(n1:n<=8):∀(vs:List PV) (ps:List T1) (R:Int) (acc:List PV) (u6 u7 u8 u9 u10:Option PV),ybs vs=AA ps->0<=R->R+ybW w n ps<=4000->acc.length+(yay w n ps).length<=4000 ->
  ∃v6 v7 v8 v9 v10,yaY (yc T (k+2)) (.n 6) ycc vs [p0,AA (.int w),AA (.int n),AA (.int 4000),AA (.loc 0),AA (.int R),u6,u7,u8,u9,u10] [.lst acc]=.nx [p0,AA (.int w),AA (.int n),AA (.int 4000),AA (.loc 0),AA (.int (R+ybW w n ps)),v6,v7,v8,v9,v10] [.lst (acc++yay w n ps)]
 |[],ps,R,acc,u6,u7,u8,u9,u10,h,_,_,_=>by
  cases h
  exact⟨u6,u7,u8,u9,u10,by rw[zx];simp[ybW,yay]⟩
 |v::vs,ps,R,acc,u6,u7,u8,u9,u10,h,hR0,hR,hl=>by
  unfold ybs at h;split at h
  .rename_i a b ha hb
   cases h
   have q1:ybW w n (a::b)=a.rnd w n+ybW w n b:=by simp[ybW]
   have q2:yay w n (a::b)=a.rows w n++yay w n b:=by simp[yay]
   rw[q1]at hR;rw[q2,Av]at hl;let⟨v7,v8,v9,v10,e1⟩:=zjZ k (p0:=p0) (u7:=u7) (u8:=u8) (u9:=u9) (u10:=u10) (R:=R) ha (acc:=acc) w0 w1 n0 n1 hR0 ∅ ∅;let⟨x6,x7,x8,x9,x10,e2⟩:=un6 k (p0:=p0) w0 w1 n0 n1 vs b (R+a.rnd w n) (acc++a.rows w n) (AA v) v7 v8 v9 v10 hb ∅ ∅ (by rw[Av];lia);refine⟨x6,x7,x8,x9,x10,?_⟩;rw[zk (ρ1:=[p0,AA (.int w),AA (.int n),AA (.int 4000),AA (.loc 0),AA (.int R),AA v,u7,u8,u9,u10]) rfl,e1,q1,q2];show yaY _ _ _ _ _ _=_;rw[e2,BZ,G6,Fh]
  .cases h
theorem unrolled(k:Nat){b:Bool}{vs:List PV}{ps:List T1}{w n:Int}(hv:nLs vs=AB)(hp:ybs vs=AA ps)(w0:0<=w)(w1:w<=16)(n0:0<=n)(n1:n<=8)(hR:ybW w n ps<=4000)(hl:(yay w n ps).length<=4000)(hno:nLs (yay w n ps)=AB)(st:SO):
  yc T (k+3) yT [.tp b vs,.int w,.int n,.int 4000] st=.ok (.lst (yay w n ps)) st:=by
 let⟨v6,v7,v8,v9,v10,e⟩:=un6 k (p0:=AA (.tp b vs)) w0 w1 n0 n1 vs ps 0 [] AD AD AD AD AD hp ∅ ∅ (by simpa using hl);rw[AW]at e;have hT:T yT=AA ⟨4,11,AB,yL.body⟩:=rfl;have hb:yL.body=.cons (.asg (.n 4) (.newl .nil)) (.cons (.asg (.n 5) (.cst (.int 0))) (.cons (.for (.n 6) (.seq (.var 0)) ycc) (.cons (.ite (.cmp .gt (.blt .len (.cons (.var 4) .nil)) (.var 3)) (.cons (.ret (.cst .non)) .nil) .nil) (.cons (.ret (.frz (.var 4))) .nil)))):=rfl;have hnl:nLs [.tp b vs,.int w,.int n,.int 4000]=true:=by simp[nLs,nL,hv]
 have g:¬(4000:Int)<((yay w n ps).length:Nat):=by lia
 have hf:yd0 (.loc 0) [.lst (yay w n ps)]=.ok (.lst (yay w n ps)) [.dead]:=rfl;rw[yc,hT,hb];erw[AL,AN,AU,AY,if_true,hnl,AM,A9,Ak,AS,AT,AW,xs_cons,xs_nil,x_asg,x_for,x_ite,x_ret,evi,IC.ve1,IC.ve2,IC.ve8,IC.ve13,IC.ve19,IC.ve25,evs,AF,AE,bd_ok,fl_ok,toR_some,sizeMax,Cm,bT_n,nxO_some,th_nx,th_rt,AQ,AR,e,len0,c_gt,g,decide_false,t_bl,on_t,cond_false,hf,nL,hno]
def zng:ye .eq (.str "mark") (.str "times")=AA (.bl AC):=by ac_rfl
def zmu:ye .notin (.str "mark") (.tup [.str "mark",.str "ask"])=AA (.bl AC):=by ac_rfl
def zn5:ye .eq (.str "ask") (.str "times")=AA (.bl AC):=by ac_rfl
def zpE:ye .notin (.str "ask") (.tup [.str "mark",.str "ask"])=AA (.bl AC):=by ac_rfl
def zqn:ye .eq (.str "set") (.str "times")=AA (.bl AC):=by ac_rfl
def zpn:ye .notin (.str "set") (.tup [.str "mark",.str "ask"])=AA (.bl AB):=by ac_rfl
def zmB:ye .eq (.str "move") (.str "times")=AA (.bl AC):=by ac_rfl
def znu:ye .notin (.str "move") (.tup [.str "mark",.str "ask"])=AA (.bl AB):=by ac_rfl
def znq:ye .eq (.str "bare") (.str "times")=AA (.bl AC):=by ac_rfl
def zny:ye .notin (.str "bare") (.tup [.str "mark",.str "ask"])=AA (.bl AB):=by ac_rfl
def zk5:ye .eq (.str "twice") (.str "times")=AA (.bl AC):=by ac_rfl
def zk2:ye .notin (.str "twice") (.tup [.str "mark",.str "ask"])=AA (.bl AB):=by ac_rfl
def znJ:ye .eq (.str "half") (.str "times")=AA (.bl AC):=by ac_rfl
def zm5:ye .notin (.str "half") (.tup [.str "mark",.str "ask"])=AA (.bl AB):=by ac_rfl
def zpF:ye .eq (.str "sum") (.str "times")=AA (.bl AC):=by ac_rfl
def zp8:ye .notin (.str "sum") (.tup [.str "mark",.str "ask"])=AA (.bl AB):=by ac_rfl
def zmG:ye .eq (.str "less") (.str "times")=AA (.bl AC):=by ac_rfl
def zm0:ye .notin (.str "less") (.tup [.str "mark",.str "ask"])=AA (.bl AB):=by ac_rfl
def zm3:ye .eq (.str "both") (.str "times")=AA (.bl AC):=by ac_rfl
def zns:ye .notin (.str "both") (.tup [.str "mark",.str "ask"])=AA (.bl AB):=by ac_rfl
def zoK:ye .eq (.str "any") (.str "times")=AA (.bl AC):=by ac_rfl
def zoW:ye .notin (.str "any") (.tup [.str "mark",.str "ask"])=AA (.bl AB):=by ac_rfl
def zot:ye .eq (.str "odd") (.str "times")=AA (.bl AC):=by ac_rfl
def zoB:ye .notin (.str "odd") (.tup [.str "mark",.str "ask"])=AA (.bl AB):=by ac_rfl
def zkA:ye .eq (.str "times") (.str "times")=AA (.bl AB):=by ac_rfl
def zlj:ye .notin (.str "times") (.tup [.str "mark",.str "ask"])=AA (.bl AB):=by ac_rfl
theorem abS:A2 "ab"=⟨#[97,98]⟩:=by ac_rfl
def zch{l:Nat}(h1:l≠97)(h2:l≠98):ye .isin (.str (chS l)) (.str "ab")=AA (.bl AC):=by
 have e0:(#[97,98]:Array Nat).extract 0 1=#[97]:=rfl;have e1:(#[97,98]:Array Nat).extract 1 2=#[98]:=rfl;have n1:¬(97=l):=λz=>h1 z.symm;have n2:¬(98=l):=λz=>h2 z.symm;rw[abS];simp[ye,inS,chS,Gf,CK,List.range.loop,e0,e1,n1,n2]
def okC(x:Cel):Prop:=0<=x.2/\x.2<=99
def okP(x:Cel):Prop:=okC x/\x.1≠97/\x.1≠98
def okR:Rw->Prop
 |.mark _=>True
 |.ask x=>okC x
 |.set t _=>okP t
 |.move t x=>okP t/\okC x
 |.bare t x=>okP t/\okC x
 |.twice t x=>okP t/\okC x
 |.half t x=>okP t/\okC x
 |.sum t x y=>okP t/\okC x/\okC y
 |.less t x y=>okP t/\okC x/\okC y
 |.both t x y=>okP t/\okC x/\okC y
 |.any t x y=>okP t/\okC x/\okC y
 |.odd t x y=>okP t/\okC x/\okC y
 |.times l t x y=>okP l/\okP t/\okC x/\okC y/\l.1≠t.1/\l.1<1000/\t.1<1000
def ya8:Css:=match yg.body with
 |.cons (.for _ _ b) _=>b
 |_=>.nil
def ydi:Css:=match ya8 with
 |.cons (.for _ _ b) _=>b
 |_=>.nil
def zbG{call:Cl}{p0 p1:Option PV}{st:SO}:∀(vs:List PV) (u:Option PV),(∀v∈vs,(∃d,v=.int d) \/ ∃x,v=yG x/\okC x)->∃u',yaY call (.n 2) ydi vs [p0,p1,u] st=.nx [p0,p1,u'] st
 |[],u,_=>⟨u,zx⟩
 |v::vs,u,h=>by
  let⟨u',e⟩:=zbG (call:=call) (p0:=p0) (p1:=p1) (st:=st) vs (AA v) λx hx=>h x (A7 _ hx);refine⟨u',?_⟩;have hb:exs call [p0,p1,AA v] st ydi=.nx [p0,p1,AA v] st:=by
   rcases h v Ao with⟨d,rfl⟩|⟨x,rfl,h1,h2⟩
   .have hi:ybG (.int d) [.tuple]=AA (.bl AC):=rfl;erw[ydi,ya8,yg,xs_cons,xs_nil,x_ite,IC.ve2,IC.ve6,IC.ve21,AF,AE,bd_ok,fl_ok,toR_some,hi,onBl,cond_false,t_bl,on_t,th_nx]
   .have hi:ybG (yG x) [.tuple]=AA (.bl AB):=rfl;have hx:∀st,idxV st (yG x) (.int 1)=AA (.int x.2):=λst=>ix1;erw[ydi,ya8,yg,xs_cons,xs_nil,x_ite,IC.ve1,IC.ve2,IC.ve5,IC.ve6,IC.ve9,IC.ve16,IC.ve21,AF,AE,bd_ok,fl_ok,toR_some,hi,hx,c_le,h1,h2,decide_true,blO,onO,onBl,cond_true,cond_false,t_bl,on_t,Gx,th_nx]
  rw[zk (ρ1:=[p0,p1,AA v]) rfl,hb];exact e
def zdG{a:Bool}{x:PV}{vs:List PV}:yco (.tp a (x::vs)) (AA 1) .non=AA (.tup vs):=by
 have h1:yaZ (vs.length+1) 1=1:=by simp[yaZ]
 simp[yco,yaV,ycm,ycw,ycY,cut,h1]
def zm6{l t:Cel}(h:l.1≠t.1)(h1:l.1<1000)(h2:t.1<1000):ye .eq (yG l) (yG t)=AA (.bl AC):=by
 have e:peq (yG l) (yG t)=false:=by
  unfold yG;rw[zav];exact decide_eq_false λz=>h z.1
 erw[ye,e];simp[yG,yab,shd,ybm,shp];refine⟨λi hi=>?_,λi hi=>?_⟩<;>(simp[chS]at hi ⊢;lia)
def zn2{call:Cl}{p0 u:Option PV}{st:SO}(r:Rw)(h:okR r):∃u',exs call [p0,AA (yM r),u] st ya8=.nx [p0,AA (yM r),u'] st:=by
 have hb:ya8=(match ya8 with
  |.cons (.for t i _) q=>.cons (.for t i ydi) q
  |_=>.nil):=rfl
 rw[hb]
 cases r
 .rename_i d;let⟨u',e⟩:=zbG (call:=call) (p0:=p0) (p1:=AA (yM (.mark d))) (st:=st) [.int d] u (λv hv=>by simp at hv;exact .inl ⟨d,hv⟩);refine⟨u',?_⟩;erw[yM]at e;erw[yg,ya8,yM,xs_cons,xs_nil,x_for,x_ite,evi,IC.ve1,IC.ve2,IC.ve6,IC.ve7,IC.ve8,IC.ve11,IC.ve16,IC.ve17,evs,AF,AE,bd_ok,fl_ok,toR_some,yaV,onP,zdG,th_nx,ix0,ix1,onBl,cond_true,cond_false,t_bl,on_t,AL,AN,AU,AY,sizeMax,BG,if_true,e,zng,zmu]
 .rename_i x;let⟨u',e⟩:=zbG (call:=call) (p0:=p0) (p1:=AA (yM (.ask x))) (st:=st) [yG x] u (λv hv=>by simp at hv;exact .inr ⟨x,hv,h⟩);refine⟨u',?_⟩;erw[yM]at e;erw[yg,ya8,yM,xs_cons,xs_nil,x_for,x_ite,evi,IC.ve1,IC.ve2,IC.ve6,IC.ve7,IC.ve8,IC.ve11,IC.ve16,IC.ve17,evs,AF,AE,bd_ok,fl_ok,toR_some,yaV,onP,zdG,th_nx,ix0,ix1,onBl,cond_true,cond_false,t_bl,on_t,AL,AN,AU,AY,sizeMax,BG,if_true,e,zn5,zpE]
 .rename_i t d;let⟨u',e⟩:=zbG (call:=call) (p0:=p0) (p1:=AA (yM (.set t d))) (st:=st) [yG t,.int d] u (λv hv=>by
   simp at hv;rcases hv with rfl|rfl
   .exact .inr ⟨t,rfl,h.1⟩
   .exact .inl ⟨d,rfl⟩)
  have hl:∀st,idxV st (yG t) (.int 0)=AA (.str (chS t.1)):=λst=>ix0;refine⟨u',?_⟩;erw[yM]at e;erw[yg,ya8,yM,xs_cons,xs_nil,x_for,x_ite,evi,IC.ve1,IC.ve2,IC.ve6,IC.ve7,IC.ve8,IC.ve11,IC.ve16,IC.ve17,evs,AF,AE,bd_ok,fl_ok,toR_some,yaV,onP,zdG,th_nx,ix0,ix1,onBl,cond_true,cond_false,t_bl,on_t,AL,AN,AU,AY,sizeMax,BG,if_true,e,zqn,zpn,hl,zch h.2.1 h.2.2]
 .rename_i t x;let⟨u',e⟩:=zbG (call:=call) (p0:=p0) (p1:=AA (yM (.move t x))) (st:=st) [yG t,yG x] u (λv hv=>by
   simp at hv;rcases hv with rfl|rfl
   .exact .inr ⟨t,rfl,h.1.1⟩
   .exact .inr ⟨x,rfl,h.2⟩)
  have hl:∀st,idxV st (yG t) (.int 0)=AA (.str (chS t.1)):=λst=>ix0;refine⟨u',?_⟩;erw[yM]at e;erw[yg,ya8,yM,xs_cons,xs_nil,x_for,x_ite,evi,IC.ve1,IC.ve2,IC.ve6,IC.ve7,IC.ve8,IC.ve11,IC.ve16,IC.ve17,evs,AF,AE,bd_ok,fl_ok,toR_some,yaV,onP,zdG,th_nx,ix0,ix1,onBl,cond_true,cond_false,t_bl,on_t,AL,AN,AU,AY,sizeMax,BG,if_true,e,zmB,znu,hl,zch h.1.2.1 h.1.2.2]
 .rename_i t x;let⟨u',e⟩:=zbG (call:=call) (p0:=p0) (p1:=AA (yM (.bare t x))) (st:=st) [yG t,yG x] u (λv hv=>by
   simp at hv;rcases hv with rfl|rfl
   .exact .inr ⟨t,rfl,h.1.1⟩
   .exact .inr ⟨x,rfl,h.2⟩)
  have hl:∀st,idxV st (yG t) (.int 0)=AA (.str (chS t.1)):=λst=>ix0;refine⟨u',?_⟩;erw[yM]at e;erw[yg,ya8,yM,xs_cons,xs_nil,x_for,x_ite,evi,IC.ve1,IC.ve2,IC.ve6,IC.ve7,IC.ve8,IC.ve11,IC.ve16,IC.ve17,evs,AF,AE,bd_ok,fl_ok,toR_some,yaV,onP,zdG,th_nx,ix0,ix1,onBl,cond_true,cond_false,t_bl,on_t,AL,AN,AU,AY,sizeMax,BG,if_true,e,znq,zny,hl,zch h.1.2.1 h.1.2.2]
 .rename_i t x;let⟨u',e⟩:=zbG (call:=call) (p0:=p0) (p1:=AA (yM (.twice t x))) (st:=st) [yG t,yG x] u (λv hv=>by
   simp at hv;rcases hv with rfl|rfl
   .exact .inr ⟨t,rfl,h.1.1⟩
   .exact .inr ⟨x,rfl,h.2⟩)
  have hl:∀st,idxV st (yG t) (.int 0)=AA (.str (chS t.1)):=λst=>ix0;refine⟨u',?_⟩;erw[yM]at e;erw[yg,ya8,yM,xs_cons,xs_nil,x_for,x_ite,evi,IC.ve1,IC.ve2,IC.ve6,IC.ve7,IC.ve8,IC.ve11,IC.ve16,IC.ve17,evs,AF,AE,bd_ok,fl_ok,toR_some,yaV,onP,zdG,th_nx,ix0,ix1,onBl,cond_true,cond_false,t_bl,on_t,AL,AN,AU,AY,sizeMax,BG,if_true,e,zk5,zk2,hl,zch h.1.2.1 h.1.2.2]
 .rename_i t x;let⟨u',e⟩:=zbG (call:=call) (p0:=p0) (p1:=AA (yM (.half t x))) (st:=st) [yG t,yG x] u (λv hv=>by
   simp at hv;rcases hv with rfl|rfl
   .exact .inr ⟨t,rfl,h.1.1⟩
   .exact .inr ⟨x,rfl,h.2⟩)
  have hl:∀st,idxV st (yG t) (.int 0)=AA (.str (chS t.1)):=λst=>ix0;refine⟨u',?_⟩;erw[yM]at e;erw[yg,ya8,yM,xs_cons,xs_nil,x_for,x_ite,evi,IC.ve1,IC.ve2,IC.ve6,IC.ve7,IC.ve8,IC.ve11,IC.ve16,IC.ve17,evs,AF,AE,bd_ok,fl_ok,toR_some,yaV,onP,zdG,th_nx,ix0,ix1,onBl,cond_true,cond_false,t_bl,on_t,AL,AN,AU,AY,sizeMax,BG,if_true,e,znJ,zm5,hl,zch h.1.2.1 h.1.2.2]
 .rename_i t x y;let⟨u',e⟩:=zbG (call:=call) (p0:=p0) (p1:=AA (yM (.sum t x y))) (st:=st) [yG t,yG x,yG y] u (λv hv=>by
   simp at hv;rcases hv with rfl|rfl|rfl
   .exact .inr ⟨t,rfl,h.1.1⟩
   .exact .inr ⟨x,rfl,h.2.1⟩
   .exact .inr ⟨y,rfl,h.2.2⟩)
  have hl:∀st,idxV st (yG t) (.int 0)=AA (.str (chS t.1)):=λst=>ix0;refine⟨u',?_⟩;erw[yM]at e;erw[yg,ya8,yM,xs_cons,xs_nil,x_for,x_ite,evi,IC.ve1,IC.ve2,IC.ve6,IC.ve7,IC.ve8,IC.ve11,IC.ve16,IC.ve17,evs,AF,AE,bd_ok,fl_ok,toR_some,yaV,onP,zdG,th_nx,ix0,ix1,onBl,cond_true,cond_false,t_bl,on_t,AL,AN,AU,AY,sizeMax,BG,if_true,e,zpF,zp8,hl,zch h.1.2.1 h.1.2.2]
 .rename_i t x y;let⟨u',e⟩:=zbG (call:=call) (p0:=p0) (p1:=AA (yM (.less t x y))) (st:=st) [yG t,yG x,yG y] u (λv hv=>by
   simp at hv;rcases hv with rfl|rfl|rfl
   .exact .inr ⟨t,rfl,h.1.1⟩
   .exact .inr ⟨x,rfl,h.2.1⟩
   .exact .inr ⟨y,rfl,h.2.2⟩)
  have hl:∀st,idxV st (yG t) (.int 0)=AA (.str (chS t.1)):=λst=>ix0;refine⟨u',?_⟩;erw[yM]at e;erw[yg,ya8,yM,xs_cons,xs_nil,x_for,x_ite,evi,IC.ve1,IC.ve2,IC.ve6,IC.ve7,IC.ve8,IC.ve11,IC.ve16,IC.ve17,evs,AF,AE,bd_ok,fl_ok,toR_some,yaV,onP,zdG,th_nx,ix0,ix1,onBl,cond_true,cond_false,t_bl,on_t,AL,AN,AU,AY,sizeMax,BG,if_true,e,zmG,zm0,hl,zch h.1.2.1 h.1.2.2]
 .rename_i t x y;let⟨u',e⟩:=zbG (call:=call) (p0:=p0) (p1:=AA (yM (.both t x y))) (st:=st) [yG t,yG x,yG y] u (λv hv=>by
   simp at hv;rcases hv with rfl|rfl|rfl
   .exact .inr ⟨t,rfl,h.1.1⟩
   .exact .inr ⟨x,rfl,h.2.1⟩
   .exact .inr ⟨y,rfl,h.2.2⟩)
  have hl:∀st,idxV st (yG t) (.int 0)=AA (.str (chS t.1)):=λst=>ix0;refine⟨u',?_⟩;erw[yM]at e;erw[yg,ya8,yM,xs_cons,xs_nil,x_for,x_ite,evi,IC.ve1,IC.ve2,IC.ve6,IC.ve7,IC.ve8,IC.ve11,IC.ve16,IC.ve17,evs,AF,AE,bd_ok,fl_ok,toR_some,yaV,onP,zdG,th_nx,ix0,ix1,onBl,cond_true,cond_false,t_bl,on_t,AL,AN,AU,AY,sizeMax,BG,if_true,e,zm3,zns,hl,zch h.1.2.1 h.1.2.2]
 .rename_i t x y;let⟨u',e⟩:=zbG (call:=call) (p0:=p0) (p1:=AA (yM (.any t x y))) (st:=st) [yG t,yG x,yG y] u (λv hv=>by
   simp at hv;rcases hv with rfl|rfl|rfl
   .exact .inr ⟨t,rfl,h.1.1⟩
   .exact .inr ⟨x,rfl,h.2.1⟩
   .exact .inr ⟨y,rfl,h.2.2⟩)
  have hl:∀st,idxV st (yG t) (.int 0)=AA (.str (chS t.1)):=λst=>ix0;refine⟨u',?_⟩;erw[yM]at e;erw[yg,ya8,yM,xs_cons,xs_nil,x_for,x_ite,evi,IC.ve1,IC.ve2,IC.ve6,IC.ve7,IC.ve8,IC.ve11,IC.ve16,IC.ve17,evs,AF,AE,bd_ok,fl_ok,toR_some,yaV,onP,zdG,th_nx,ix0,ix1,onBl,cond_true,cond_false,t_bl,on_t,AL,AN,AU,AY,sizeMax,BG,if_true,e,zoK,zoW,hl,zch h.1.2.1 h.1.2.2]
 .rename_i t x y;let⟨u',e⟩:=zbG (call:=call) (p0:=p0) (p1:=AA (yM (.odd t x y))) (st:=st) [yG t,yG x,yG y] u (λv hv=>by
   simp at hv;rcases hv with rfl|rfl|rfl
   .exact .inr ⟨t,rfl,h.1.1⟩
   .exact .inr ⟨x,rfl,h.2.1⟩
   .exact .inr ⟨y,rfl,h.2.2⟩)
  have hl:∀st,idxV st (yG t) (.int 0)=AA (.str (chS t.1)):=λst=>ix0;refine⟨u',?_⟩;erw[yM]at e;erw[yg,ya8,yM,xs_cons,xs_nil,x_for,x_ite,evi,IC.ve1,IC.ve2,IC.ve6,IC.ve7,IC.ve8,IC.ve11,IC.ve16,IC.ve17,evs,AF,AE,bd_ok,fl_ok,toR_some,yaV,onP,zdG,th_nx,ix0,ix1,onBl,cond_true,cond_false,t_bl,on_t,AL,AN,AU,AY,sizeMax,BG,if_true,e,zot,zoB,hl,zch h.1.2.1 h.1.2.2]
 .rename_i l t x y;let⟨u',e⟩:=zbG (call:=call) (p0:=p0) (p1:=AA (yM (.times l t x y))) (st:=st) [yG l,yG t,yG x,yG y] u (λv hv=>by
   simp at hv;rcases hv with rfl|rfl|rfl|rfl
   .exact .inr ⟨l,rfl,h.1.1⟩
   .exact .inr ⟨t,rfl,h.2.1.1⟩
   .exact .inr ⟨x,rfl,h.2.2.1⟩
   .exact .inr ⟨y,rfl,h.2.2.2.1⟩)
  have hl:∀st,idxV st (yG l) (.int 0)=AA (.str (chS l.1)):=λst=>ix0;have ht:∀st,idxV st (yG t) (.int 0)=AA (.str (chS t.1)):=λst=>ix0;have hne:ye .eq (yG l) (yG t)=AA (.bl AC):=zm6 h.2.2.2.2.1 h.2.2.2.2.2.1 h.2.2.2.2.2.2;refine⟨u',?_⟩;erw[yM]at e;erw[yg,ya8,yM,xs_cons,xs_nil,x_for,x_ite,evi,IC.ve1,IC.ve2,IC.ve6,IC.ve7,IC.ve8,IC.ve11,IC.ve16,IC.ve17,evs,AF,AE,bd_ok,fl_ok,toR_some,yaV,onP,zdG,th_nx,ix0,ix1,onBl,cond_true,cond_false,t_bl,on_t,AL,AN,AU,AY,sizeMax,BG,if_true,e,zkA,zlj,hl,ht,hne,ix2,zch h.1.2.1 h.1.2.2,zch h.2.1.2.1 h.2.1.2.2]
def zij{call:Cl}{p0:Option PV}{st:SO}:∀(rs:List Rw) (u1 u2:Option PV),(∀r∈rs,okR r)->∃v1 v2,yaY call (.n 1) ya8 (rs.map yM) [p0,u1,u2] st=.nx [p0,v1,v2] st
 |[],u1,u2,_=>⟨u1,u2,by rw[A9,zx]⟩
 |r::rs,u1,u2,h=>by
  let⟨u',e1⟩:=zn2 (call:=call) (p0:=p0) (u:=u2) (st:=st) r (h r Ao);let⟨v1,v2,e2⟩:=zij (call:=call) (p0:=p0) (st:=st) rs (AA (yM r)) u' λx hx=>h x (A7 _ hx);refine⟨v1,v2,?_⟩;rw[AM,zk (ρ1:=[p0,AA (yM r),u2]) rfl,e1];exact e2
def zkH(r:Rw):nL (yM r)=true:=by cases r<;>rfl
def zcQ:∀rs:List Rw,nLs (rs.map yM)=AB
 |[]=>rfl
 |r::rs=>by simp[nLs,zkH,zcQ rs]
def zhG(k:Nat){rs:List Rw}(h:∀r∈rs,okR r)(st:SO):yc T (k+1) y8 [.lst (rs.map yM)] st=.ok (.bl AB) st:=by
 let⟨v1,v2,e⟩:=zij (call:=yc T k) (p0:=AA (.lst (rs.map yM))) (st:=[]) rs AD AD h;have hT:T y8=AA ⟨1,3,AB,yg.body⟩:=rfl;have hb:yg.body=.cons (.for (.n 1) (.seq (.var 0)) ya8) (.cons (.ret (.cst (.bl AB))) .nil):=rfl;have hnl:nLs [.lst (rs.map yM)]=true:=by simp[nLs,nL,zcQ]
 rw[yc,hT,hb];erw[AL,AN,AU,AY,if_true,hnl,AM,A9,Ak,AS,AT,AW,xs_cons,xs_nil,x_for,x_ret,evi,IC.ve1,IC.ve2,AF,bd_ok,fl_ok,e,th_nx,th_rt,nL]
theorem chA:A2 "a"=chS 97:=by ac_rfl
theorem chB:A2 "b"=chS 98:=by ac_rfl
theorem chM:A2 "m"=chS 109:=by ac_rfl
def zi6{st:SO}{n L:Nat}{M:Mem}{call:Cl}(h:Dc st n M L)(hL:L<999999){ρ:IC.Env}{o i e:Ce}{c:Nat}{j v:Int}(he:ev call ρ st e=.ok (.int v) st)(ho:ev call ρ st o=.ok (.loc n) st)(hi:ev call ρ st i=.ok (yab c j) st):
  ∃kvs,ex call ρ st (.dput o i e)=.nx ρ (st.set n (.dct AB kvs))/\Dc (st.set n (.dct AB kvs)) n (upd M c j v) (L+1):=by
 let⟨kvs,h1,h2⟩:=zB h hL c j v;exact⟨kvs,by erw[zI,he,ho,hi,fl_ok,h1,zl],h2⟩
def zc8{call:Cl}{n:Nat}{s:A4}{c:Nat}(hs:s=chS c){p0 p1 p2 p3:Option PV}:∀(vs:List Int) (i:Nat) (M:Mem) (st:SO) (L:Nat) (u v:Option PV),Dc st n M L->L+vs.length<999999 ->
  ∃st' u' v',yaY call (.t [5,6]) (.cons (.dput (.var 4) (.tup (.cons (.cst (.str s)) (.cons (.var 5) .nil))) (.var 6)) .nil) (yac i (vs.map .int)) [p0,p1,p2,p3,AA (.loc n),u,v] st=.nx [p0,p1,p2,p3,AA (.loc n),u',v'] st'/\(∃o,st'=st.set n o)/\Dc st' n (yaI c i vs M) (L+vs.length)
 |[],i,M,st,L,u,v,h,_=>⟨st,u,v,by rw[A9,yac,zx],zdO h,h⟩
 |x::vs,i,M,st,L,u,v,h,hl=>by
  rw[AL]at hl;let⟨kvs,e1,h1⟩:=zi6 (call:=call) (ρ:=[p0,p1,p2,p3,AA (.loc n),AA (.int i),AA (.int x)]) (o:=.var 4) (i:=.tup (.cons (.cst (.str s)) (.cons (.var 5) .nil))) (e:=.var 6) (c:=c) (j:=i) (v:=x) h ∅ (by erw[IC.ve2,AF,AE]) (by erw[IC.ve2,AF,AE]) (by
   subst hs;erw[IC.ve2,IC.ve1,IC.ve11,evs,AF,AE,bd_ok,AL,AN];rw[if_pos ⋯];rfl)
  let⟨s2,u2,v2,e2,⟨o2,e3⟩,h2⟩:=zc8 (call:=call) hs (p0:=p0) (p1:=p1) (p2:=p2) (p3:=p3) vs (i+1) _ _ (L+1) (AA (.int i)) (AA (.int x)) h1 ∅;refine⟨s2,u2,v2,?_,⟨o2,by rw[e3,CD]⟩,by rw[AL,show L+(vs.length+1)=L+1+vs.length by lia];exact h2⟩;rw[AM,yac,zk (ρ1:=[p0,p1,p2,p3,AA (.loc n),AA (.int i),AA (.int x)]) rfl,xs_cons,e1,th_nx,xs_nil];exact e2
theorem begun(k:Nat)(w n:Nat)(hw:w<=16)(hn:n<1000)(x y:Int)(st:SO):∃o,yc T (k+3) yhO [.int w,.int n,.int x,.int y] st=.ok (.loc st.length) (st++[o])/\Dc (st++[o]) st.length (yx (2^w) n x y) (2*n):=by
 have h0:Dc (st++[.dct AB []]) st.length M0 0:=⟨[],by simp,by simp[ycq],λc i=>rfl,by simp⟩;have w1:=words k x w n hw hn;have w2:=words k y w n hw hn;let⟨s1,u1,v1,e1,⟨o1,f1⟩,h1⟩:=zc8 (call:=yc T (k+2)) chA (p0:=AA (.int w)) (p1:=AA (.int n)) (p2:=AA (.int x)) (p3:=AA (.int y)) (yr (2^w) n x) 0 M0 _ 0 AD AD h0 (by rw[zt];lia);let⟨s2,u2,v2,e2,⟨o2,f2⟩,h2⟩:=zc8 (call:=yc T (k+2)) chB (p0:=AA (.int w)) (p1:=AA (.int n)) (p2:=AA (.int x)) (p3:=AA (.int y)) (yr (2^w) n y) 0 _ _ _ u1 v1 h1 (by rw[zt,zt];lia);have f3:s2=st++[o2]:=by rw[f2,f1,CD];simp
 rw[zt,zt,show 0+n+n=2*n by lia]at h2;refine⟨o2,?_,by rw[<-f3];exact h2⟩;have hT:T yhO=AA ygM:=rfl;rw[yc,hT,<-f3];erw[ygM,AL,AN,AU,AY,if_true,A5,if_false,AM,A9,Ak,AS,AT,AW,xs_cons,xs_nil,x_asg,x_for,x_ret,IC.ve18,IC.ve2,IC.ve15,evs,evi,AF,AE,bd_ok,fl_ok,bT_n,nxO_some,th_nx,th_rt,AQ,AR,w1,w2,e1,e2]
def zma{call:Cl}{st:SO}{n L:Nat}{M:Mem}(h:Dc st n M L){ρ:IC.Env}{o i d:Ce}{c:Nat}{j:Int}(ho:ev call ρ st o=.ok (.loc n) st)(hi:ev call ρ st i=.ok (yab c j) st)(hd:ev call ρ st d=.ok (.int 0) st):ev call ρ st (.mth .get o (.cons i (.cons d .nil)))=.ok (.int (M c j)) st:=by
 erw[IC.ve20,ho,hi,hd,evs,bd_ok,mok h,ono,mget,zm h]
def zmw{f:Nat}{a:List PV}{s s':SO}{v:PV}(h:yc T 8 f a s=.ok v s')(j:Nat):yc T (8+j) f a s=.ok v s':=zd3 h j
theorem w_lt{w:Nat}(hw:w<=16):(2:Int)^w<18446744073709551616:=by
 have h:(2:Nat)^w<=2^16:=Ac ∅ hw;have h2:((2^w:Nat):Int)=2^w:=by simp
 lia
def znn{f k:Nat}{a:List PV}{v:PV}{fn:IC.Fn}(hT:T f=AA fn)(hp:fn.pure=AB)(h:yc T k f a []=.ok v [])(st:SO):yc T k f a st=.ok v st:=by
 cases k with
 |zero=>cases h
 |succ k=>
  rw[yc,hT]at h ⊢;erw[hp,if_true]at h ⊢
  by_cases h1:a.length=fn.np
  .rw[if_pos h1]at h ⊢
   by_cases h2:nLs a=AB
   .rw[if_pos h2]at h ⊢;generalize exs (yc T k) (a.map AA++AS (fn.ns-fn.np) AD) [] fn.body=r at h
    cases r with
    |rt v' s'=>
     simp only at h ⊢
     by_cases h3:nL v'=AB
     .rw[if_pos h3]at h ⊢;cases h;rfl
     .rw[if_neg h3]at h;cases h
    |nx _ _=>cases h;rfl
    |exc _ _ _=>cases h
    |_=>cases h
   .rw[if_neg h2]at h;cases h
  .rw[if_neg h1]at h;cases h
def zre(j:Nat){v:PV}{rs:List Rw}(w n:Nat)(hw1:1<=w)(hw:w<=16)(hn:n<1000)(hl:rs.length<5000)(hd:∀r∈rs,okD r)(x y:Int)(st:SO)
  (h1:yc T 8 yA [v] []=.ok (.bl AB) []) (h2:yc T 8 yT [v,.int w,.int n,.int 4000] []=.ok (.lst (rs.map yM)) []) (h3:yc T 8 y8 [.lst (rs.map yM)] []=.ok (.bl AB) []):
  ∃o,yc T (8+j+1) yhs [v,.int w,.int n,.int x,.int y] st=.ok (.loc st.length) (st++[o])/\∃L,Dc (st++[o]) st.length (yj (2^w) rs (yx (2^w) n x y) 0).1 L:=by
 have g1:=znn rfl rfl (zmw h1 j) st;have g2:=znn rfl rfl (zmw h2 j) st;have g3:=znn rfl rfl (zmw h3 j) st;let⟨o,b1,b2⟩:=begun (5+j) w n hw hn x y st;rw[show 5+j+3=8+j by lia]at b1;have ht:=zh3 (7+j) w ∅ (st++[o]);rw[show 7+j+1=8+j by lia]at ht;let⟨s2,u2,e1,⟨o2,e2⟩,e3⟩:=zgK (6+j) hw1 (w_lt hw) (p0:=AA v) (p1:=AA (.int w)) (p2:=AA (.int n)) (p3:=AA (.int x)) (p4:=AA (.int y)) (p5:=AA (.lst (rs.map yM))) rs _ 0 _ AD _ b2 ∅ (zkm hw1 n x y) hd;rw[show 6+j+2=8+j by lia]at e1;have e4:s2=st++[o2]:=by rw[e2];simp
 rw[e4]at e1 e3;refine⟨o2,?_,_,e3⟩;have hT:T yhs=AA ⟨5,10,AC,ybc.body⟩:=rfl;have hb:ybc.body=(.cons (.ite (.not (.call yA (.cons (.var 0) .nil))) (.cons .nope .nil) .nil) (.cons (.asg (.n 5) (.call yT (.cons (.var 0) (.cons (.var 1) (.cons (.var 2) (.cons (.cst (.int 4000)) .nil)))))) (.cons (.ite (.or (.cmp .is (.var 5) (.cst .non)) (.not (.call y8 (.cons (.var 5) .nil)))) (.cons .nope .nil) .nil) (.cons (.asg (.n 6) (.call yhO (.cons (.var 1) (.cons (.var 2) (.cons (.var 3) (.cons (.var 4) .nil)))))) (.cons (.asg (.n 7) (.call yhL (.cons (.var 1) .nil))) (.cons (.asg (.n 8) (.cst (.int 0))) (.cons (.for (.n 9) (.seq (.var 5)) ydY) (.cons (.ret (.var 6)) .nil)))))))):=rfl;have ci:ye .is (.lst (rs.map yM)) .non=AA (.bl AC):=rfl;rw[yc,hT,hb];erw[AL,AN,AU,AY,if_true,A5,if_false,AM,A9,Ak,AS,AT,AW,xs_cons,xs_nil,x_asg,x_ite,x_for,x_ret,IC.ve18,IC.ve1,IC.ve2,IC.ve5,IC.ve7,IC.ve8,evs,evi,AF,AE,bd_ok,fl_ok,g1,g2,g3,ci,b1,ht,toR_some,bT_n,nxO_some,th_nx,th_rt,AQ,AR,t_bl,on_t,ono,Gx,cond_false,onBl,e1]
def zew{call:Cl}{st:SO}{n L:Nat}{M:Mem}(h:Dc st n M L){c:Nat}{W:Int}(hW:0<W)(hW2:W<18446744073709551616){p2 p3:Option PV}:∀(z:Nat) (acc:Int) (u:Option PV),
  ∃u',yaY call (.n 6) (.cons (.asg (.n 5) (.bin .add (.bin .mul (.var 5) (.var 4)) (.mth .get (.var 0) (.cons (.tup (.cons (.var 1) (.cons (.var 6) .nil))) (.cons (.cst (.int 0)) .nil))))) .nil) (yo z ((z:Int)-1) (-1)) [AA (.loc n),AA (.str (chS c)),p2,p3,AA (.int W),AA (.int acc),u] st=.nx [AA (.loc n),AA (.str (chS c)),p2,p3,AA (.int W),AA (.int (acc*W^z+yw W M c z)),u'] st
 |0,acc,u=>⟨u,by rw[yo,zx];simp[yw]⟩
 |z+1,acc,u=>by
  let⟨u',e⟩:=zew (call:=call) h (c:=c) hW hW2 (p2:=p2) (p3:=p3) z (acc*W+M c z) (AA (.int z));refine⟨u',?_⟩;have hz:((z+1:Nat):Int)-1=z:=by lia
  rw[yo,hz,zk (ρ1:=[AA (.loc n),AA (.str (chS c)),p2,p3,AA (.int W),AA (.int acc),AA (.int z)]) rfl];have hg:=zma (call:=call) h (ρ:=[AA (.loc n),AA (.str (chS c)),p2,p3,AA (.int W),AA (.int acc),AA (.int z)]) (o:=.var 0) (i:=.tup (.cons (.var 1) (.cons (.var 6) .nil))) (d:=.cst (.int 0)) (c:=c) (j:=z) (by erw[IC.ve2,AF,AE]) (by
   erw[IC.ve2,IC.ve1,IC.ve11,evs,AF,AE,bd_ok,AL,AN];rw[if_pos ⋯];rfl) (by erw[IC.ve1])
  have hm:(W).natAbs<18446744073709551616:=by lia
  erw[xs_cons,xs_nil,x_asg,IC.ve3,IC.ve2,hg,AF,AE,bd_ok,fl_ok,zy hm,b_add,toR_some,bT_n,nxO_some,th_nx,AQ,AR,yax];rw[show (z:Int)+-1=(z:Int)-1 by lia,e];have hf:(acc*W+M c z)*W^z+yw W M c z=acc*W^(z+1)+yw W M c (z+1):=by
   rw[yw,Ab,Cp,BH,Ad W];lia
  rw[hf]
def zrf{call:Cl}{ρ:IC.Env}{st:SO}:ev call ρ st (.neg (.cst (.int 1)))=.ok (.int (-1)) st:=by
 ac_rfl
theorem read(k:Nat){st:SO}{n L:Nat}{M:Mem}(h:Dc st n M L)(s:A4)(c:Nat)(hs:s=chS c)(w z:Nat)(hw:w<=16)(hz:z<1000):yc T (k+2) yiQ [.loc n,.str s,.int z,.int w] st=.ok (.int (yw (2^w) M c z)) st:=by
 subst hs;have hW:(0:Int)<2^w:=A1 ∅;have hW2:(2:Int)^w<18446744073709551616:=by
  have h:(2:Nat)^w<=2^16:=Ac ∅ hw;have h2:((2^w:Nat):Int)=2^w:=by simp
  lia
 let⟨u',e⟩:=zew (call:=yc T (k+1)) h (c:=c) hW hW2 (p2:=AA (.int z)) (p3:=AA (.int w)) z 0 AD;have ht:=zh3 k w ∅ st;have hT:T yiQ=AA ygY:=rfl;have hr:ydx (.int ((z:Int)-1)) (.int (-1))=AA (yo z ((z:Int)-1) (-1)):=by
  erw[ydx];rw[if_pos ⟨by lia,by decide⟩,show ((z:Int)-1 - -1).toNat=z by lia]
 rw[yc,hT];erw[ygY,AL,AN,AU,AY,if_true,A5,if_false,AM,A9,Ak,AS,AT,AW,xs_cons,xs_nil,x_asg,x_for,x_ret,IC.ve18,IC.ve1,IC.ve2,IC.ve3,zrf,evs,evi,AF,AE,bd_ok,fl_ok,ht,b_sub,toR_some,bT_n,nxO_some,th_nx,th_rt,AQ,AR,hr,toL,e];simp
theorem marks(k:Nat){st:SO}{n L:Nat}{M:Mem}(h:Dc st n M L):yc T (k+1) yiR [.loc n] st=.ok (.tup [.int (M 109 0),.int (M 109 1),.int (M 109 2),.int (M 109 3)]) st:=by
 have hT:T yiR=AA yhb:=rfl;have hc:=zcJ (call:=yc T k) (st:=st) (ρ0:=[AD,AA (.loc n)]) (t:=.n 0) (c:=.cst (.bl AB)) (e:=.mth .get (.var 1) (.cons (.tup (.cons (.cst (.str "m")) (.cons (.var 0) .nil))) (.cons (.cst (.int 0)) .nil))) (f:=λx=>match x with | .int i=>.int (M 109 i)|_=>.non) [.int 0,.int 1,.int 2,.int 3] (by
  have:∀i:Int,ycA (yc T k) [AD,AA (.loc n)] (.n 0) (.cst (.bl AB)) (.mth .get (.var 1) (.cons (.tup (.cons (.cst (.str "m")) (.cons (.var 0) .nil))) (.cons (.cst (.int 0)) .nil))) (.int i) st=.ok (AA (.int (M 109 i))) st:=by
   intro i;have hg:=zma (call:=yc T k) h (ρ:=[AA (.int i),AA (.loc n)]) (o:=.var 1) (i:=.tup (.cons (.cst (.str "m")) (.cons (.var 0) .nil))) (d:=.cst (.int 0)) (c:=109) (j:=i) (by erw[IC.ve2,AF,AE]) (by
    rw[chM];erw[IC.ve2,IC.ve1,IC.ve11,evs,AF,AE,bd_ok,AL,AN];rw[if_pos ⋯];rfl) (by erw[IC.ve1])
   erw[ycA,bT_n,AQ,hg,IC.ve1,bd_ok,t_bl,ono,cond_true]
  intro x hx;erw[BB,D2,or_false]at hx;rcases hx with rfl|rfl|rfl|rfl<;>exact this _)
 rw[yc,hT];have hr:ybu (.int 4)=AA [.int 0,.int 1,.int 2,.int 3]:=rfl;erw[yhb,AL,AN,AU,AY,if_true,A5,if_false,AM,A9,Ak,AS,AT,CU,AW,xs_cons,xs_nil,x_ret,v_comp,IC.ve1,IC.ve19,evs,evi,hr,toL,bd_ok,fl_ok,G0,B3,AF,Eh,Option.bind_fun_some];rw[hc];simp[yb3,bd_ok,yan,ydh,yK,toR,R.fl,R.bind,yaB,sizeMax]
def nw2:T2->Bool
 |.row _=>AB
 |.rounds _ _ t _=>decide (t=0)
def nw1:T1->Bool
 |.row _=>AB
 |.rounds _ _ t ps=>decide (t=0)&&ps.all nw2
def zlD(c m w n:Int):cnt c m 0 w n=cnt c m 0 0 n:=by simp[cnt]
def zfH{w n:Int}{I:Nat}:∀ps:List T2,ps.all nw2=AB->yaq w n I ps=yaq 0 n I ps/\ya5 w n ps=ya5 0 n ps
 |[],_=>⟨rfl,rfl⟩
 |p::ps,h=>by
  rw[B0,AI]at h;let⟨a,b⟩:=zfH ps h.2;have hp:p.rows w n I=p.rows 0 n I/\p.rnd w n=p.rnd 0 n:=by
   cases p with
   |row r=>exact⟨rfl,rfl⟩
   |rounds c m t rs=>
    cases of_decide_eq_true h.1
    erw[T2.rows,T2.rnd,zlD c m w n,and_self]
  constructor
  .rw[yaq,GS,hp.1];exact congrArg _ a
  .simp only[ya5,AM,Gy,hp.2];exact congrArg _ b
def ziW{w n:Int}:∀ps:List T1,ps.all nw1=AB->yay w n ps=yay 0 n ps/\ybW w n ps=ybW 0 n ps
 |[],_=>⟨rfl,rfl⟩
 |p::ps,h=>by
  rw[B0,AI]at h;let⟨a,b⟩:=ziW ps h.2;have hp:p.rows w n=p.rows 0 n/\p.rnd w n=p.rnd 0 n:=by
   cases p with
   |row r=>exact⟨rfl,rfl⟩
   |rounds c m t rs=>
    let⟨ht,hr⟩:=B9.1 h.1
    cases of_decide_eq_true ht
    have e:(λI=>yaq w n I rs)=λI=>yaq 0 n I rs:=funext λI=>(zfH rs hr).1;erw[T1.rows,T1.rnd,zlD c m w n,e,(zfH (I:=0) rs hr).2,and_self]
  constructor
  .rw[yay,GS,hp.1];exact congrArg _ a
  .simp only[ybW,AM,Gy,hp.2];exact congrArg _ b
def cB(x:Cel):Bool:=decide (0<=x.2)&&decide (x.2<=99)
def pB(x:Cel):Bool:=cB x&&(decide (x.1≠97)&&decide (x.1≠98))
def rB:Rw->Bool
 |.mark d=>decide (0<=d)&&decide (d<=1)
 |.ask x=>cB x
 |.set t d=>pB t&&(decide (0<=d)&&decide (d<=1))
 |.move t x | .bare t x | .twice t x | .half t x=>pB t&&cB x
 |.sum t x y | .less t x y | .both t x y | .any t x y | .odd t x y=>pB t&&(cB x&&cB y)
 |.times _ _ _ _=>AC
def zfh{x:Cel}(h:cB x=AB):okC x:=by
 erw[cB,AI,decide_eq_true_eq]at h;exact h
def zhL{x:Cel}(h:pB x=AB):okP x:=by
 erw[pB,AI,decide_eq_true_eq]at h;exact⟨zfh h.1,h.2⟩
def zqu{r:Rw}(h:rB r=AB):okR r/\okD r:=by
 cases r with
 |mark d=>erw[rB,AI,decide_eq_true_eq]at h;exact⟨trivial,h⟩
 |ask x=>exact⟨zfh h,trivial⟩
 |set t d=>erw[rB,AI,decide_eq_true_eq]at h;exact⟨zhL h.1,h.2⟩
 |move t x=>let⟨a,b⟩:=B9.1 h;exact⟨⟨zhL a,zfh b⟩,trivial⟩
 |bare t x=>let⟨a,b⟩:=B9.1 h;exact⟨⟨zhL a,zfh b⟩,trivial⟩
 |twice t x=>let⟨a,b⟩:=B9.1 h;exact⟨⟨zhL a,zfh b⟩,trivial⟩
 |half t x=>let⟨a,b⟩:=B9.1 h;exact⟨⟨zhL a,zfh b⟩,trivial⟩
 |times _ _ _ _=>cases h
 |_ t x y=>
  let⟨a,b⟩:=B9.1 h;let⟨b,c⟩:=B9.1 b;exact⟨⟨zhL a,zfh b,zfh c⟩,trivial⟩
mutual
theorem znA:∀(v:PV) (n:Nat),shd n v=AB->peq v v=AB
 |.non,n,h=>rfl
 |.bl b,n,h=>by simp[peq]
 |.int i,n,h=>by simp[peq]
 |.str s,n,h=>by simp[peq]
 |.tp k xs,n,h=>by
  erw[shd,AI]at h;erw[peq];exact znG xs (n-1) h.2
 |.lst xs,n,h=>by
  erw[shd,AI]at h;erw[peq];exact znG xs (n-1) h.2
 |.loc _,n,h=>by simp[shd]at h
 |.exn _,n,h=>by simp[shd]at h
 |.scr _,n,h=>by simp[shd]at h
 |.fnc _,n,h=>by simp[shd]at h
theorem znG:∀(v:List PV) (n:Nat),ybm n v=AB->ybv v v=AB
 |[],n,h=>rfl
 |x::xs,n,h=>by
  erw[ybm,AI]at h;erw[ybv,znA x n h.1,znG xs n h.2,Bs]
end
def okN(ps:List T1)(f:Nat->List Rw)(n:Nat):Bool:=ycC (yay 0 n ps) ((f n).map yM)&&(f n).all rB&&decide ((f n).length<=4000)&&decide (ybW 0 n ps<=4000)
def ydj(d:PV)(ns:List Nat)(f:Nat->List Rw):Bool:=match yc T 8 yhc [d] []with
 | .ok (.tp b vs) []=>(match ybs vs with
  |some ps=>ps.all nw1&&ns.all (okN ps f)
  |none=>AC)&&nLs vs&&isOk (yc T 8 yA [.tp b vs] []) (.bl AB)&&isOk (yc T 4 yhg [d] []) (.bl AB)&&shp (.tp b vs)
 |_=>AC
structure Tel(d:PV)(ns:List Nat)(f:Nat->List Rw)(tv:PV):Prop where
 nl:nL tv=AB
 tel:yc T 8 yhc [d] []=.ok tv []
 ist:yc T 8 yA [tv] []=.ok (.bl AB) []
 isd:yc T 4 yhg [d] []=.ok (.bl AB) []
 eq:ye .eq tv tv=AA (.bl AB)
 unr:∀n∈ns,n<=8->∀w:Nat,w<=16->yc T 8 yT [tv,.int w,.int n,.int 4000] []=.ok (.lst ((f n).map yM)) []
 ok:∀n∈ns,(∀r∈f n,okR r/\okD r)/\(f n).length<=4000
def zfv{d:PV}{ns:List Nat}{f:Nat->List Rw}(h:ydj d ns f=AB):∃tv,Tel d ns f tv:=by
 unfold ydj at h;split at h
 .rename_i b vs e0;erw[AI]at h;let⟨⟨⟨⟨c1,c2⟩,c3⟩,c4⟩,c5⟩:=h;split at c1
  .rename_i ps e1;let⟨hw,hn⟩:=B9.1 c1;have ok:∀n∈ns,yay 0 n ps=(f n).map yM/\(∀r∈f n,rB r=AB)/\(f n).length<=4000/\ybW 0 n ps<=4000:=λn hm=>by
    have:=BF.1 hn n hm;erw[okN,AI,decide_eq_true_eq,BF]at this;exact⟨zd0 _ _ this.1.1.1,this.1.1.2,this.1.2,this.2⟩
   have c5:shd 60 (.tp b vs)=true:=c5;refine⟨.tp b vs,by simpa [nL] using c2,e0,zfw c3,zfw c4,by erw[ye,c5,znA _ _ c5,Bs,if_true],λn hm hn8 w hw2=>?_,λn hm=>⟨λr hr=>zqu ((ok n hm).2.1 r hr),(ok n hm).2.2.1⟩⟩;let⟨o1,o2,o3,o4⟩:=ok n hm;let⟨r1,r2⟩:=ziW (w:=(w:Int)) (n:=(n:Int)) ps hw;have hu:=WK.unrolled 5 (b:=b) (w:=(w:Int)) (n:=(n:Int)) c2 e1 ∅ ∅ ∅ ∅ (by rw[r2];exact o4) (by rw[r1,o1,BN];exact o3) (by rw[r1,o1];exact zcQ _) [];rw[r1,o1]at hu;exact hu
  .cases c1
 .cases h
def zrg(j:Nat){d tv:PV}{ns:List Nat}{f:Nat->List Rw}(H:Tel d ns f tv){w n:Nat}(hw1:1<=w)(hw2:w<=16)(hm:n∈ns)(hn:n<=8)(x y:Int)(st:SO):
  ∃o,yc T (8+j+1) yhs [tv,.int w,.int n,.int x,.int y] st=.ok (.loc st.length) (st++[o])/\∃L,Dc (st++[o]) st.length (yj (2^w) (f n) (yx (2^w) n x y) 0).1 L:=by
 let⟨ok,hl⟩:=H.ok n hm;exact zre j w n hw1 hw2 ∅ (rs:=f n) ∅ (λr hr=>(ok r hr).2) x y st H.ist (H.unr n hm hn w hw2) (zhG 7 (λr hr=>(ok r hr).1) [])
def zrh:A2 "c"=chS 99:=by ac_rfl
def zg3(l:List Int):ye .eq (.tp AC (l.map .int)) (.tp AC (l.map .int))=AA (.bl AB):=by
 have h:shd 60 (.tp AC (l.map .int))=true:=by
  erw[shd];rw[show ybm (60-1) (l.map PV.int)=AB from by
   induction l with
   |nil=>rfl
   |cons a l ih=>erw[AM,ybm,shd,ih,Bs]]
  rfl
 erw[ye,h,znA _ _ h,Bs,if_true]
def zls(a b c e:Int):ye .eq (.tp AC [.int a,.int b,.int c,.int e]) (.tp AC [.int a,.int b,.int c,.int e])=AA (.bl AB):=zg3 [a,b,c,e]
def zgy(k:Nat){d tv:PV}{ns:List Nat}{f:Nat->List Rw}(H:Tel d ns f tv)(hd:nL d=AB){w n N:Nat}(hw1:1<=w)(hw2:w<=16)(hm:n∈ns)(hn:n<=8)(hN:N<=8){x y V b c z s:Int}
  (m0:yw (2^w) (yj (2^w) (f n) (yx (2^w) n x y) 0).1 99 N=V) (m1:(yj (2^w) (f n) (yx (2^w) n x y) 0).1 109 0=b) (m2:(yj (2^w) (f n) (yx (2^w) n x y) 0).1 109 1=c) (m3:(yj (2^w) (f n) (yx (2^w) n x y) 0).1 109 2=z) (m4:(yj (2^w) (f n) (yx (2^w) n x y) 0).1 109 3=s)
  (E:∀st,yc T (k+9) ydr [d,.int w,.int n,.int x,.int y] st=.ok (dv (yr (2^w) N V) b c z s) st) (st:SO):yc T (k+10) yy [tv,d,.int w,.int n,.int x,.int y] st=.ok (.bl AB) st:=by
 have hT:T yy=AA ⟨6,11,AB,yaC.body⟩:=rfl;let⟨o,r1,L,r2⟩:=zrg k H hw1 hw2 hm hn x y [];have r1:yc T (k+9) yhs [tv,.int w,.int n,.int x,.int y] []=.ok (.loc 0) [o]:=by rw[show k+9=8+k+1 by lia];exact r1
 have r2:Dc [o] 0 (yj (2^w) (f n) (yx (2^w) n x y) 0).1 L:=r2;have rd:=read (k+7) r2 (A2 "c") 99 zrh w N hw2 ∅;have mk:=marks (k+8) r2;rw[m0]at rd;rw[m1,m2,m3,m4]at mk;have wd:yc T (k+9) yhM [.int V,.int w,.int (N:Int)] [o]=.ok (.tp AC ((yr (2^w) N V).map .int)) [o]:=words (k+7) V w N hw2 ∅ [o];have ci:ye .is (.loc 0) .non=AA (.bl AC):=rfl;have bt:∀(a b c:PV) (ρ:IC.Env),yP (.t [7,8,9]) (.tp AC [a,b,c]) ρ=AA (((ρ.set 7 (AA a)).set 8 (AA b)).set 9 (AA c)):=λ_ _ _ _=>rfl;have hl:∀st,yan .len st [.tp AC ((yr (2^w) N V).map .int)]=AA (.int (N:Int)):=λst=>by
  show AA (PV.int ((((yr (2^w) N V).map PV.int).length:Nat):Int))=_;rw[BN,zt]
 have q1:=zg3 (yr (2^w) N V);have q2:=zls b c z s;rw[show k+10=k+9+1 by lia,za hT rfl rfl (by simp[nLs,nL,H.nl,hd])];dsimp only;unfold dv at E;erw[PV.tup]at mk;generalize PV.tp AC ((yr (2^w) N V).map .int)=A at *;simp! [yaC,r1,ci,E,bt,hl,rd,wd,q1,mk,q2,zlF]
def yJ(n:Nat):List Rw:=yu (λi=>.move (99,i) (97,i)) n
def yD(body:List Rw):Nat->List Rw
 |0=>[]
 |s+1=>yD body s++body
def twiceRows(n:Nat):List Rw:=yu (λj=>.twice (99,j) (99,j)) n
def yF(n:Nat):List Rw:=yu (λj=>.half (99,(n:Int)-1-j) (99,(n:Int)-1-j)) n
def yap(n:Nat):Rw:=.twice cT (99,(n:Int)-1)
def yas(s n:Nat):List Rw:=yJ n++yD (.mark 0::twiceRows n) s++[.sum (109,0) cZ cZ]++yq n
def yai(s n:Nat):List Rw:=yJ n++yD (.mark 0::yF n) s++[.sum (109,0) cZ cZ]++yq n
def yar(s n:Nat):List Rw:=yJ n++yD (yap n::yF n) s++[.sum (109,0) cZ cZ]++yq n
def yah(s n:Nat):List Rw:=yJ n++yD (yap n::twiceRows n) s++yq n
def zbQ{W:Int}(hW:2<=W)(M:Mem)(k:Int)(k0:0<=k)(k1:k<=1):∀n,Dg W M 99 n ->
  (∀d j,(d≠99 \/ (n:Int)<=j)->(yj W (twiceRows n) M k).1 d j=M d j)/\Dg W (yj W (twiceRows n) M k).1 99 n/\0<=(yj W (twiceRows n) M k).2/\(yj W (twiceRows n) M k).2<=1/\yw W (yj W (twiceRows n) M k).1 99 n+(yj W (twiceRows n) M k).2*W^n=2*yw W M 99 n+k
 |0,_=>⟨λ_ _ _=>rfl,λi hi=>by lia,k0,k1,by simp[yw,twiceRows,yu,yj]⟩
 |n+1,ha=>by
  let⟨h1,h2,h3,h4,h5⟩:=zbQ hW M k k0 k1 n ha.mono;have e:twiceRows (n+1)=twiceRows n++[.twice (99,n) (99,n)]:=rfl;rw[e,zd];generalize yj W (twiceRows n) M k=R at *;let⟨M1,k'⟩:=R;simp only at *;let⟨a0,a1⟩:=ha n ∅;erw[yj,stepM,rd,wr,h1 99 n (.inr ∅)];generalize hA:M 99 (n:Int)=A at *;have hW0:0<W:=by lia
  have d1:=As (2*A+k') (show W≠0 by lia);have d2:=Aj (2*A+k') hW0;have d3:=BJ (2*A+k') W;have d4:0<=(2*A+k')/W:=Bb ∅ ∅;have d5:(2*A+k')/W<2:=BA hW0 ∅;refine⟨λd j hd=>?_,λi hi=>?_,d4,by lia,?_⟩
  .unfold upd;rw[if_neg ∅,h1 d j ∅]
  .unfold upd
   by_cases hin:i=n
   .subst hin;rw[if_pos ⟨rfl,rfl⟩];exact⟨d1,d2⟩
   .rw[if_neg ∅];exact h2 i ∅
  .have hv:yw W (upd M1 99 (n:Int) ((2*A+k')%W)) 99 (n+1)=yw W M1 99 n+(2*A+k')%W*W^n:=by
    rw[yw,zb (M':=M1) (c':=99) n λi hi=>by unfold upd;rw[if_neg ∅]];unfold upd;rw[if_pos ⟨rfl,rfl⟩]
   rw[hv,yw,hA,Ab];generalize W^n=P,(2*A+k')%W=r,(2*A+k')/W=q at *;have e2:r=2*A+k'-W*q:=by lia
   subst e2;have e3:(2*A+k'-W*q)*P+q*(P*W)=2*(A*P)+k' * P:=by
    rw[CG,Cp,Ad W q,BH q W P,Ad W P,BH 2 A P];lia
   generalize (2*A+k'-W*q)*P=X1,q*(P*W)=X2 at *;lia
def zcg(f:Int->Rw):∀n:Nat,yu f (n+1)=f 0::yu (λj=>f (j+1)) n
 |0=>rfl
 |n+1=>by
  rw[yu,zcg f n,yu,AT];rfl
def zc9{H:Int}(hH:1<=H):∀(n:Nat) (M:Mem) (k:Int),0<=k->k<=1->Dg (2*H) M 99 n ->
  (∀d j,(d≠99 \/ (n:Int)<=j)->(yj (2*H) (yF n) M k).1 d j=M d j)/\Dg (2*H) (yj (2*H) (yF n) M k).1 99 n/\0<=(yj (2*H) (yF n) M k).2/\(yj (2*H) (yF n) M k).2<=1/\2*yw (2*H) (yj (2*H) (yF n) M k).1 99 n+(yj (2*H) (yF n) M k).2=yw (2*H) M 99 n+k*(2*H)^n
 |0,M,k,k0,k1,_=>⟨λ_ _ _=>rfl,λi hi=>by lia,k0,k1,by simp[yw,yF,yu,yj]⟩
 |n+1,M,k,k0,k1,ha=>by
  have e:yF (n+1)=.half (99,n) (99,n)::yF n:=by
   unfold yF;rw[zcg]
   congr 1
   .rw[show ((n+1:Nat):Int)-1-0=n by lia]
   .congr 1
    funext j
    rw[show ((n+1:Nat):Int)-1-(j+1)=(n:Int)-1-j by lia]
  let⟨a0,a1⟩:=ha n ∅;rw[e,zp];erw[stepM,rd,wr];rw[show 2*H/2=H by lia];generalize hA:M 99 (n:Int)=A at *;have q0:0<=A/2:=by lia
  have hkH:k*H=0 \/ k*H=H:=by
   rcases (by lia:k=0 \/ k=1)with rfl|rfl
   .left;lia
   .right;lia
  have hM:∀i:Nat,i<n->upd M 99 (n:Int) (A/2+k*H) 99 i=M 99 i:=λi hi=>by unfold upd;rw[if_neg ∅]
  let⟨h1,h2,h3,h4,h5⟩:=zc9 hH n (upd M 99 (n:Int) (A/2+k*H)) (A%2) ∅ ∅ (λi hi=>by rw[hM i hi];exact ha i ∅);generalize yj (2*H) (yF n) (upd M 99 (n:Int) (A/2+k*H)) (A%2)=R at *;let⟨M1,k'⟩:=R;simp only at *;have hn1:M1 99 n=A/2+k*H:=by
   rw[h1 99 n (.inr ∅)];unfold upd;rw[if_pos ⟨rfl,rfl⟩]
  refine⟨λd j hd=>?_,λi hi=>?_,h3,h4,?_⟩
  .rw[h1 d j ∅];unfold upd;rw[if_neg ∅]
  .by_cases hin:i=n
   .subst hin;rw[hn1];lia
   .exact h2 i ∅
  .rw[zb (M':=M) (c':=99) n hM]at h5;rw[yw,yw,hn1,hA,Ab];generalize (2*H)^n=P at *;have e1:A*P=A%2*P+2*(A/2*P):=by
    have:A=A%2+2*(A/2):=by lia
    conv=>lhs;rw[this]
    rw[Cp,BH]
   have e2:(A/2+k*H)*P=A/2*P+k*(H*P):=by rw[Cp,BH]
   have e3:k*(P*(2*H))=2*(k*(H*P)):=by
    rw[Ad P,BH 2 H P,<-BH k 2,Ad k 2,BH]
   rw[e1,e2,e3];generalize A%2*P=X1,A/2*P=X2,k*(H*P)=X3 at *;lia
structure Shf(W:Int)(n:Nat)(M0 M:Mem)(v:Int):Prop where
 dg:Dg W M 99 n
 val:yw W M 99 n=v
 keep:∀d j,d≠99->d≠116->M d j=M0 d j
def zcx{W:Int}(hW:0<W){n:Nat}{x y:Int}(x0:0<=x)(x1:x<W^n):(yj W (yJ n) (yx W n x y) 0).2=0/\Shf W n (yx W n x y) (yj W (yJ n) (yx W n x y) 0).1 x:=by
 have da:=zdC n x y hW;let⟨h1,h2,h3⟩:=zcA (W:=W) (yx W n x y) 0 (λi=>.move (99,i) (97,i)) (λi=>yx W n x y 97 i) (λM1 i h=>by erw[stepM,rd,h 97 i ⋯]) n;refine⟨h1,⟨λi hi=>?_,?_,λd j hd _=>h2 d j hd⟩⟩
 .have:=h3 i hi;unfold yJ;rw[this];exact da i hi
 .exact(zb (M':=yx W n x y) (c':=97) n λi hi=>h3 i hi).trans (zbe n x y hW x0 x1)
def zj4{W:Int}(hW:2<=W){n:Nat}{M0 M:Mem}{k v:Int}(h:Shf W n M0 M v):∃M' k',yj W (.mark 0::twiceRows n) M k=(M',k')/\0<=k'/\k'<=1/\Shf W n M0 M' (2*v%W^n)/\k'=2*v/W^n:=by
 let⟨h1,h2,h3,h4,h5⟩:=zbQ hW M 0 ∅ ∅ n h.dg;have hs0:stepM W M k (.mark 0)=(M,0):=rfl;rw[zp,hs0];rw[h.val,DR]at h5;have hP:0<W^n:=A1 ∅;let⟨r0,r1⟩:=zae ∅ n h2;refine⟨_,_,rfl,h3,h4,⟨h2,?_,λd j hd ht=>by rw[h1 d j (.inl hd),h.keep d j hd ht]⟩,?_⟩
 .rw[<-h5,CF,AX r0 r1]
 .rw[<-h5,Int.add_mul_ediv_right _ _ ∅,Aq r0 r1,DS]
def zjD{H:Int}(hH:1<=H){n:Nat}{M0 M:Mem}{k v:Int}(h:Shf (2*H) n M0 M v):∃M' k',yj (2*H) (.mark 0::yF n) M k=(M',k')/\0<=k'/\k'<=1/\Shf (2*H) n M0 M' (v/2)/\k'=v%2:=by
 let⟨h1,h2,h3,h4,h5⟩:=zc9 hH n M 0 ∅ ∅ h.dg;have hs0:stepM (2*H) M k (.mark 0)=(M,0):=rfl;rw[zp,hs0];rw[h.val,CZ,DR]at h5;simp only;refine⟨_,_,rfl,h3,h4,⟨h2,by lia,λd j hd ht=>by rw[h1 d j (.inl hd),h.keep d j hd ht]⟩,by lia⟩
def zdh{w:Nat}(hw:1<w){n:Nat}{M0 M:Mem}{k v:Int}(h:Shf (2^w) (n+1) M0 M v)(k0:0<=k)(k1:k<=1)(zo:M0 122 0=0)(m1:M0 109 1=0):
  yw (2^w) (yj (2^w) (.sum (109,0) cZ cZ::yq (n+1)) M k).1 99 (n+1)=v/\(yj (2^w) (.sum (109,0) cZ cZ::yq (n+1)) M k).1 109 0=k/\(yj (2^w) (.sum (109,0) cZ cZ::yq (n+1)) M k).1 109 1=0 /\
  (yj (2^w) (.sum (109,0) cZ cZ::yq (n+1)) M k).1 109 2=bi (v==0)/\(yj (2^w) (.sum (109,0) cZ cZ::yq (n+1)) M k).1 109 3=bi (decide ((2^w:Int)^(n+1)<=2*v)):=by
 have hW4:(4:Int)<=2^w:=by
  have h:(2:Nat)^2<=2^w:=Ac ∅ ∅;have h2:=pw w;lia
 have z1:M 122 0=0:=by rw[h.keep 122 0 ⋯ ⋯,zo]
 have hs:stepM (2^w) M k (.sum (109,0) cZ cZ)=(wr M (109,0) k,0):=by
  erw[stepM,rd,cZ,z1];rw[show (0:Int)+0+k=k by lia,AX k0 ∅,Aq k0 ∅]
 rw[zp,hs];have g2:∀d j,(d≠109 \/ j≠0)->wr M (109,0) k d j=M d j:=λd j h=>by
  erw[wr,upd];rw[if_neg ∅]
 have g3:wr M (109,0) k 109 0=k:=by simp[wr,upd]
 generalize wr M (109,0) k=M2 at *;have dc:Dg (2^w) M2 99 (n+1):=λi hi=>by rw[g2 99 i (.inl ⋯)];exact h.dg i hi
 have hv:yw (2^w) M2 99 (n+1)=v:=by rw[<-h.val];exact zb _ λi hi=>g2 99 i (.inl ⋯)
 let⟨e1,e2,e3,e4,e5⟩:=zaV hw M2 0 dc (by rw[g2 122 0 (.inl ⋯),z1]);rw[zb (M':=M2) (c':=99) _ λi hi=>e1 i,e2,e3,e4,e5,hv,g3,g2 109 1 (.inr ⋯),h.keep 109 1 ⋯ ⋯,m1];exact⟨rfl,rfl,rfl,rfl,rfl⟩
def zdK{W:Int}(hW:2<=W){n:Nat}{M0 M:Mem}{x:Int}(h:Shf W n M0 M x)(x0:0<=x)(x1:x<W^n):∀s:Nat,∃M' k',yj W (yD (.mark 0::twiceRows n) s) M 0=(M',k')/\0<=k'/\k'<=1/\Shf W n M0 M' (x*2^s%W^n)/\k'=if s=0 then 0 else 2*(x*2^(s-1)%W^n)/W^n
 |0=>⟨M,0,rfl,by lia,by lia,by rw[Bq,C6,AX x0 x1];exact h,rfl⟩
 |s+1=>by
  let⟨M1,k1,e1,a0,a1,h1,_⟩:=zdK hW h x0 x1 s;let⟨M2,k2,e2,b0,b1,h2,q⟩:=zj4 hW (k:=k1) h1;refine⟨M2,k2,?_,b0,b1,?_,?_⟩
  .rw[yD,zd,e1];exact e2
  .have:2*(x*2^s%W^n)%W^n=x*2^(s+1)%W^n:=by
    rw[Ab,<-BH,Ad _ 2,HM 2 (x*2^s%W^n),Int.emod_emod,<-HM]
   rw[<-this];exact h2
  .rw[if_neg ∅,q];rfl
def zcL{H:Int}(hH:1<=H){n:Nat}{M0 M:Mem}{x:Int}(h:Shf (2*H) n M0 M x):∀s:Nat,∃M' k',yj (2*H) (yD (.mark 0::yF n) s) M 0=(M',k')/\0<=k'/\k'<=1/\Shf (2*H) n M0 M' (x/2^s)/\k'=if s=0 then 0 else x/2^(s-1)%2
 |0=>⟨M,0,rfl,by lia,by lia,by rw[Bq,CC];exact h,rfl⟩
 |s+1=>by
  let⟨M1,k1,e1,a0,a1,h1,_⟩:=zcL hH h s;let⟨M2,k2,e2,b0,b1,h2,q⟩:=zjD hH (k:=k1) h1;refine⟨M2,k2,?_,b0,b1,?_,?_⟩
  .rw[yD,zd,e1];exact e2
  .have:x/2^s/2=x/2^(s+1):=by
    rw[Ab,Am (DU (A1 ∅))]
   rw[<-this];exact h2
  .rw[if_neg ∅,q];rfl
def zki{K s X:Nat}(hs:0<s)(hX:X<2^K):2*(X*2^(s-1)%2^K)/2^K=if s<=K then X/2^(K-s)%2 else 0:=by
 split
 .rename_i h;obtain⟨a,rfl⟩:∃a,K=a+s:=⟨K-s,by lia⟩;obtain⟨t,rfl⟩:∃t,s=t+1:=⟨s-1,by lia⟩;rw[show a+(t+1)-(t+1)=a by lia,show t+1-1=t by lia];have e1:2^(a+(t+1))=2^t*(2^a*2):=by rw[<-Ds,<-EV];congr 1;lia
  rw[e1,Cc X,Nat.mul_mod_mul_left,show 2*(2^t*(X%(2^a*2)))=2^t*(2*(X%(2^a*2)))by rw[EW],FY _ _ (FV ∅),Cc (2^a) 2,FY _ _ ∅,Cc 2 (2^a),Nat.mod_mul_right_div_self]
 .rename_i h;obtain⟨a,rfl⟩:∃a,s=K+a+1:=⟨s-K-1,by lia⟩;have:X*2^(K+a+1-1)%2^K=0:=by
   rw[show K+a+1-1=K+a by lia,EV,EW];exact Nat.mul_mod_right _ _
  rw[this];simp
def ziN{w:Nat}(hw:1<w){n s X:Nat}(x1:X<2^(w*(n+1))):
  yw (2^w) (yj (2^w) (yas s (n+1)) (yx (2^w) (n+1) X 0) 0).1 99 (n+1)=((X:Int)*2^s)%2^(w*(n+1)) /\
  (yj (2^w) (yas s (n+1)) (yx (2^w) (n+1) X 0) 0).1 109 0=((if 0<s/\s<=w*(n+1)then X/2^(w*(n+1)-s)%2 else 0:Nat):Int) /\
  (yj (2^w) (yas s (n+1)) (yx (2^w) (n+1) X 0) 0).1 109 1=0 /\
  (yj (2^w) (yas s (n+1)) (yx (2^w) (n+1) X 0) 0).1 109 2=bi (((X:Int)*2^s)%2^(w*(n+1))==0) /\
  (yj (2^w) (yas s (n+1)) (yx (2^w) (n+1) X 0) 0).1 109 3=bi (decide ((2:Int)^(w*(n+1))<=2*(((X:Int)*2^s)%2^(w*(n+1))))):=by
 have hp:(2:Int)^(w*(n+1))=(2^w:Int)^(n+1):=Bg;have hW4:(4:Int)<=2^w:=by
  have h:(2:Nat)^2<=2^w:=Ac ∅ ∅;have h2:=pw w;lia
 have x2:(X:Int)<(2^w:Int)^(n+1):=by rw[<-hp,<-pw];lia
 let⟨a1,a2⟩:=zcx (W:=2^w) ∅ (n:=n+1) (x:=X) (y:=0) ∅ x2;have e:yas s (n+1)=yJ (n+1)++(yD (.mark 0::twiceRows (n+1)) s++(.sum (109,0) cZ cZ::yq (n+1))):=by
  erw[yas,BZ,AT,AW]
 let⟨M',k',e1,k0,k1,h1,q⟩:=zdK (W:=2^w) ∅ a2 ∅ x2 s;rw[e,zd,a1,zd,e1];have hse:=zdh hw h1 k0 k1 (zap _ _ _ ⋯ ⋯ _) (zap _ _ _ ⋯ ⋯ _);rw[<-hp]at hse q;have hq:k'=((if 0<s/\s<=w*(n+1)then X/2^(w*(n+1)-s)%2 else 0:Nat):Int):=by
  rw[q]
  by_cases hs:s=0
  .subst hs;simp
  .have ho:=zki (K:=w*(n+1)) (s:=s) ∅ x1;rw[if_neg hs];have hc:(2*((X:Int)*2^(s-1)%2^(w*(n+1)))/2^(w*(n+1)))=((2*(X*2^(s-1)%2^(w*(n+1)))/2^(w*(n+1)):Nat):Int):=by simp
   rw[hc,ho]
   by_cases h2:s<=w*(n+1)
   .rw[if_pos h2,if_pos ⟨by lia,h2⟩]
   .rw[if_neg h2,if_neg ∅]
 rw[<-hq];exact hse
def zdW{w:Nat}(hw:0<w):(2:Int)^w=2*2^(w-1):=by
 obtain⟨v,rfl⟩:∃v,w=v+1:=⟨w-1,by lia⟩;rw[show v+1-1=v by lia,Ab,Ad]
def zhU{w:Nat}(hw:1<w){n s:Nat}{x:Int}(x0:0<=x)(x1:x<(2^w:Int)^(n+1)):
  yw (2^w) (yj (2^w) (yai s (n+1)) (yx (2^w) (n+1) x 0) 0).1 99 (n+1)=x/2^s /\
  (yj (2^w) (yai s (n+1)) (yx (2^w) (n+1) x 0) 0).1 109 0=(if s=0 then 0 else x/2^(s-1)%2) /\
  (yj (2^w) (yai s (n+1)) (yx (2^w) (n+1) x 0) 0).1 109 1=0 /\
  (yj (2^w) (yai s (n+1)) (yx (2^w) (n+1) x 0) 0).1 109 2=bi (x/2^s==0) /\
  (yj (2^w) (yai s (n+1)) (yx (2^w) (n+1) x 0) 0).1 109 3=bi (decide ((2^w:Int)^(n+1)<=2*(x/2^s))):=by
 have hH:=zdW (w:=w) ∅;have hH0:(0:Int)<2^(w-1):=A1 ∅;have hH1:(1:Int)<=2^(w-1):=by lia
 have hW:(0:Int)<2^w:=A1 ∅;let⟨a1,a2⟩:=zcx (W:=2^w) hW (n:=n+1) (x:=x) (y:=0) x0 x1;have e:yai s (n+1)=yJ (n+1)++(yD (.mark 0::yF (n+1)) s++(.sum (109,0) cZ cZ::yq (n+1))):=by
  erw[yai,BZ,AT,AW]
 have hr:=zcL (H:=2^(w-1)) hH1 (n:=n+1) (M0:=yx (2^w) (n+1) x 0) (M:=(yj (2^w) (yJ (n+1)) (yx (2^w) (n+1) x 0) 0).1) (x:=x);rw[<-hH]at hr;let⟨M',k',e1,k0,k1,h1,q⟩:=hr a2 s;rw[e,zd,a1,zd,e1];have hse:=zdh hw h1 k0 k1 (zap _ _ _ ⋯ ⋯ _) (zap _ _ _ ⋯ ⋯ _);rw[<-q];exact hse
def zj8{w:Nat}(hw:1<w){n:Nat}{M0 M:Mem}{k v:Int}(k0:0<=k)(k1:k<=1)(h:Shf (2^w) (n+1) M0 M v):
  ∃M' k' v',yj (2^w) (yap (n+1)::yF (n+1)) M k=(M',k')/\0<=k'/\k'<=1/\Shf (2^w) (n+1) M0 M' v'/\2*v'+k'=v+(if (2^w:Int)^(n+1)<=2*v then 1 else 0)*(2^w:Int)^(n+1):=by
 have hH:=zdW (w:=w) ∅;have hH0:(0:Int)<2^(w-1):=A1 ∅;have hH1:(1:Int)<=2^(w-1):=by lia
 have hc:=h.dg n ∅;have ht:=zT (by lia:0<w) h.dg;rw[h.val]at ht;have hm:(2*M 99 n+k)/2^w=tb w (M 99 n):=by
  unfold tb;rw[hH,<-Am ∅,<-Am ∅,show (2*M 99 n+k)/2=M 99 n by lia,show 2*M 99 n/2=M 99 n by lia]
 have hst:stepM (2^w) M k (yap (n+1))=(wr M cT ((2*M 99 n+k)%2^w),if (2^w:Int)^(n+1)<=2*v then 1 else 0):=by
  erw[yap,stepM,rd];rw[show ((n+1:Nat):Int)-1=n by lia,hm,ht]
 rw[zp,hst];simp only;have g:∀d j,d≠116->wr M cT ((2*M 99 n+k)%2^w) d j=M d j:=λd j hd=>by
  erw[wr,upd];rw[if_neg ∅]
 generalize wr M cT ((2*M 99 n+k)%2^w)=M1 at *;have d1:Dg (2^w) M1 99 (n+1):=λi hi=>by rw[g 99 i ⋯];exact h.dg i hi
 have v1:yw (2^w) M1 99 (n+1)=v:=by rw[<-h.val];exact zb _ λi hi=>g 99 i ⋯
 have hl:=zc9 (H:=2^(w-1)) hH1 (n+1) M1 (if (2^w:Int)^(n+1)<=2*v then 1 else 0) (by split<;>lia) (by split<;>lia);rw[<-hH]at hl;let⟨h1,h2,h3,h4,h5⟩:=hl d1;rw[v1]at h5;exact⟨_,_,_,rfl,h3,h4,⟨h2,rfl,λd j hd ht=>by rw[h1 d j (.inl hd),g d j ht,h.keep d j hd ht]⟩,h5⟩
def zdp{w:Nat}(hw:1<w){n:Nat}{M0 M:Mem}{x:Int}(h:Shf (2^w) (n+1) M0 M x)(x0:0<=x)(x1:x<(2^w:Int)^(n+1)):∀s:Nat,∃M' k' v,yj (2^w) (yD (yap (n+1)::yF (n+1)) s) M 0=(M',k')/\0<=k'/\k'<=1/\Shf (2^w) (n+1) M0 M' v/\0<=v/\v<(2^w:Int)^(n+1)/\sgd ((2^w:Int)^(n+1)) v=sgd ((2^w:Int)^(n+1)) x/2^s/\k'=if s=0 then 0 else sgd ((2^w:Int)^(n+1)) x/2^(s-1)%2
 |0=>⟨M,0,x,rfl,by lia,by lia,h,x0,x1,by rw[Bq,CC],rfl⟩
 |s+1=>by
  let⟨M1,k1,v1,e1,a0,a1,h1,b0,b1,q1,_⟩:=zdp hw h x0 x1 s;let⟨M2,k2,v2,e2,c0,c1,h2,q2⟩:=zj8 hw a0 a1 h1;have hT:(2:Int)<=(2^w:Int)^(n+1):=by
   have hp:(2:Int)^(w*(n+1))=(2^w:Int)^(n+1):=Bg;rw[<-hp,<-pw];have:(2:Nat)^1<=2^(w*(n+1)):=Ac ∅ (B5 ∅ (BK (by lia:1<=w) (by lia:1<=n+1)));lia
  have hS:2*sgd ((2^w:Int)^(n+1)) v2+k2=sgd ((2^w:Int)^(n+1)) v1/\0<=v2/\v2<(2^w:Int)^(n+1):=by
   generalize (2^w:Int)^(n+1)=T at *;unfold sgd
   by_cases z:T<=2*v1
   .rw[if_pos z,BQ]at q2;rw[if_pos z,if_pos ∅];lia
   .rw[if_neg z,CZ]at q2;rw[if_neg z,if_neg ∅];lia
  have hd:sgd ((2^w:Int)^(n+1)) x/2^s/2=sgd ((2^w:Int)^(n+1)) x/2^(s+1):=by
   rw[show (2:Int)^(s+1)=2^s*2 from Ab ..,Am (DU (A1 ∅))]
  refine⟨M2,k2,v2,?_,c0,c1,h2,hS.2.1,hS.2.2,?_,?_⟩
  .rw[yD,zd,e1];exact e2
  .rw[<-hd,<-q1];lia
  .rw[if_neg ∅,show s+1-1=s by lia,<-q1];lia
def zi0{w:Nat}(hw:1<w){n s:Nat}{x:Int}(x0:0<=x)(x1:x<(2^w:Int)^(n+1)):
  yw (2^w) (yj (2^w) (yar s (n+1)) (yx (2^w) (n+1) x 0) 0).1 99 (n+1)=sgd ((2^w:Int)^(n+1)) x/2^s%(2^w:Int)^(n+1) /\
  (yj (2^w) (yar s (n+1)) (yx (2^w) (n+1) x 0) 0).1 109 0=(if s=0 then 0 else sgd ((2^w:Int)^(n+1)) x/2^(s-1)%2) /\
  (yj (2^w) (yar s (n+1)) (yx (2^w) (n+1) x 0) 0).1 109 1=0 /\
  (yj (2^w) (yar s (n+1)) (yx (2^w) (n+1) x 0) 0).1 109 2=bi (sgd ((2^w:Int)^(n+1)) x/2^s%(2^w:Int)^(n+1)==0) /\
  (yj (2^w) (yar s (n+1)) (yx (2^w) (n+1) x 0) 0).1 109 3=bi (decide ((2^w:Int)^(n+1)<=2*(sgd ((2^w:Int)^(n+1)) x/2^s%(2^w:Int)^(n+1)))):=by
 have hW:(0:Int)<2^w:=A1 ∅;let⟨a1,a2⟩:=zcx (W:=2^w) hW (n:=n+1) (x:=x) (y:=0) x0 x1;have e:yar s (n+1)=yJ (n+1)++(yD (yap (n+1)::yF (n+1)) s++(.sum (109,0) cZ cZ::yq (n+1))):=by
  erw[yar,BZ,AT,AW]
 let⟨M',k',v,e1,k0,k1,h1,v0,v1,q1,q2⟩:=zdp hw a2 x0 x1 s;rw[e,zd,a1,zd,e1];have hse:=zdh hw h1 k0 k1 (zap _ _ _ ⋯ ⋯ _) (zap _ _ _ ⋯ ⋯ _);have hv:sgd ((2^w:Int)^(n+1)) x/2^s%(2^w:Int)^(n+1)=v:=by
  rw[<-q1];unfold sgd;split
  .rw[Int.sub_emod_right];exact AX v0 v1
  .exact AX v0 v1
 rw[<-q2,hv];exact hse
def rol(K r X:Nat):Nat:=2^r*(X%2^(K-r))+X/2^(K-r)
def zgs{K r X:Nat}(hr:r<K)(hX:X<2^K):∃b,(b=0 \/ b=1)/\2*rol K r X+b=rol K (r+1) X+b*2^K/\rol K (r+1) X<2^K/\(b=1 ↔ 2^K<=2*rol K r X):=by
 obtain⟨m,hm⟩:∃m,K-r=m+1:=⟨K-r-1,by lia⟩;have hm2:K-(r+1)=m:=by lia
 unfold rol;rw[hm,hm2];have hP:0<2^m:=FV ∅;have e1:X%2^(m+1)=X%2^m+2^m*(X/2^m%2):=Nat.mod_pow_succ;have e2:X/2^(m+1)=X/2^m/2:=by rw[Ds,Nat.div_div_eq_div_mul]
 have e3:2^K=2^(r+1)*2^m:=by rw[<-EV];congr 1;lia
 have e4:2^(r+1)=2*2^r:=by rw[Ds,Cc]
 have l1:X%2^m<2^m:=EM _ hP;have l2:X/2^m<2^(r+1):=by
  apply Db;rw[Cc,<-e3];exact hX
 have hb:X/2^m%2=0 \/ X/2^m%2=1:=by lia
 have l3:2^(r+1)*(X%2^m)+X/2^m<2^K:=by
  rw[e3];have:2^(r+1)*(X%2^m)+2^(r+1)<=2^(r+1)*2^m:=by
   rw[<-Nat.mul_succ];exact Nat.mul_le_mul_left _ l1
  lia
 have key:2*(2^r*(X%2^(m+1))+X/2^(m+1))+X/2^m%2=2^(r+1)*(X%2^m)+X/2^m+X/2^m%2*2^K:=by
  rw[e1,e2,e3,e4];have h1:2^r*(X%2^m+2^m*(X/2^m%2))=2^r*(X%2^m)+X/2^m%2*(2^r*2^m):=by
   rw[Hb,<-E9,Cc (2^r*2^m)]
  have h2:X/2^m%2*(2*2^r*2^m)=2*(X/2^m%2*(2^r*2^m)):=by
   rw[E9 2,EW]
  rw[h1,h2,E9 2];have h3:X/2^m=2*(X/2^m/2)+X/2^m%2:=by lia
  generalize X/2^m%2*(2^r*2^m)=A,2^r*(X%2^m)=B at *;generalize X/2^m=q at *;lia
 refine⟨X/2^m%2,hb,key,l3,?_⟩;have l4:X/2^m%2<=2^(r+1)*(X%2^m)+X/2^m:=B5 (Nat.mod_le _ _) (Nat.le_add_left _ _);generalize 2^r*(X%2^(m+1))+X/2^(m+1)=V,2^(r+1)*(X%2^m)+X/2^m=V2,X/2^m%2=b,2^K=P at *;rcases hb with rfl|rfl
 .rw[Nat.zero_mul]at key;lia
 .rw[Nat.one_mul]at key;lia
def zdM{K X:Nat}(hX:X<2^K):rol K 0 X=X:=by
 unfold rol;rw[GP,Cu hX,Nat.div_eq_of_lt hX];simp
def zlo{K X:Nat}:rol K K X=X:=by
 unfold rol;rw[Nat.sub_self,Nat.pow_zero,Nat.mod_one,Nat.div_one];simp
def zlK{K X:Nat}(hX:X<2^K):∀r,r<=K->rol K r X<2^K
 |0,_=>by rw[zdM hX];exact hX
 |r+1,h=>by
  let⟨b,_,_,l,_⟩:=zgs (K:=K) (r:=r) ∅ hX;exact l
def znK{K s X:Nat}(hK:0<K)(hX:X<2^K):∃b,(b=0 \/ b=1)/\2*rol K (s%K) X+b=rol K ((s+1)%K) X+b*2^K/\(b=1 ↔ 2^K<=2*rol K (s%K) X):=by
 have hs:=EM s hK;let⟨b,h1,h2,h3,h4⟩:=zgs hs hX;refine⟨b,h1,?_,h4⟩
 by_cases e:s%K+1=K
 .have:(s+1)%K=0:=by
   by_cases k1:K=1
   .subst k1;lia
   .rw[Hc,Cu (show 1<K by lia),e,Nat.mod_self]
  rw[this,zdM hX];rw[e,zlo]at h2;exact h2
 .have:(s+1)%K=s%K+1:=by
   rw[Hc,Cu (show 1<K by lia),Cu (show s%K+1<K by lia)]
  rw[this];exact h2
def zkq{w:Nat}(hw:1<w){n:Nat}{M0 M:Mem}{k v:Int}(k0:0<=k)(k1:k<=1)(h:Shf (2^w) (n+1) M0 M v):
  ∃M' k' v',yj (2^w) (yap (n+1)::twiceRows (n+1)) M k=(M',k')/\0<=k'/\k'<=1/\Shf (2^w) (n+1) M0 M' v'/\0<=v'/\v' < (2^w:Int)^(n+1)/\v'+k' * (2^w:Int)^(n+1)=2*v+(if (2^w:Int)^(n+1)<=2*v then 1 else 0):=by
 have hH:=zdW (w:=w) ∅;have hH0:(0:Int)<2^(w-1):=A1 ∅;have hW4:(4:Int)<=2^w:=by
  have h:(2:Nat)^2<=2^w:=Ac ∅ ∅;have h2:=pw w;lia
 have ht:=zT (by lia:0<w) h.dg;rw[h.val]at ht;have hm:(2*M 99 n+k)/2^w=tb w (M 99 n):=by
  unfold tb;rw[hH,<-Am ∅,<-Am ∅,show (2*M 99 n+k)/2=M 99 n by lia,show 2*M 99 n/2=M 99 n by lia]
 have hst:stepM (2^w) M k (yap (n+1))=(wr M cT ((2*M 99 n+k)%2^w),if (2^w:Int)^(n+1)<=2*v then 1 else 0):=by
  erw[yap,stepM,rd];rw[show ((n+1:Nat):Int)-1=n by lia,hm,ht]
 rw[zp,hst];simp only;have g:∀d j,d≠116->wr M cT ((2*M 99 n+k)%2^w) d j=M d j:=λd j hd=>by
  erw[wr,upd];rw[if_neg ∅]
 generalize wr M cT ((2*M 99 n+k)%2^w)=M1 at *;have d1:Dg (2^w) M1 99 (n+1):=λi hi=>by rw[g 99 i ⋯];exact h.dg i hi
 have v1:yw (2^w) M1 99 (n+1)=v:=by rw[<-h.val];exact zb _ λi hi=>g 99 i ⋯
 let⟨h1,h2,h3,h4,h5⟩:=zbQ (W:=2^w) ∅ M1 (if (2^w:Int)^(n+1)<=2*v then 1 else 0) (by split<;>lia) (by split<;>lia) (n+1) d1;rw[v1]at h5;let⟨r0,r1⟩:=zae ∅ (n+1) h2;exact⟨_,_,_,rfl,h3,h4,⟨h2,rfl,λd j hd ht=>by rw[h1 d j (.inl hd),g d j ht,h.keep d j hd ht]⟩,r0,r1,h5⟩
def zdH{w:Nat}(hw:1<w){n:Nat}{M0 M:Mem}{X:Nat}(h:Shf (2^w) (n+1) M0 M X)(x1:X<2^(w*(n+1))):∀s:Nat,∃M' k',yj (2^w) (yD (yap (n+1)::twiceRows (n+1)) s) M 0=(M',k')/\0<=k'/\k'<=1/\Shf (2^w) (n+1) M0 M' (rol (w*(n+1)) (s%(w*(n+1))) X:Nat)
 |0=>⟨M,0,rfl,by lia,by lia,by rw[Nat.zero_mod,zdM x1];exact h⟩
 |s+1=>by
  let⟨M1,k1,e1,a0,a1,h1⟩:=zdH hw h x1 s;let⟨M2,k2,v2,e2,c0,c1,h2,r0,r1,q2⟩:=zkq hw a0 a1 h1;have hK:0<w*(n+1):=Hd ∅ ∅;let⟨b,b1,b2,b3⟩:=znK (s:=s) hK x1;have hp:(2:Int)^(w*(n+1))=(2^w:Int)^(n+1):=Bg;have hl:=zlK x1 ((s+1)%(w*(n+1))) (Ej (EM _ hK));refine⟨M2,k2,?_,c0,c1,?_⟩
  .rw[yD,zd,e1];exact e2
  .have:v2=(rol (w*(n+1)) ((s+1)%(w*(n+1))) X:Nat):=by
    rw[<-hp,<-pw]at q2 r1;generalize rol (w*(n+1)) (s%(w*(n+1))) X=A,rol (w*(n+1)) ((s+1)%(w*(n+1))) X=B,2^(w*(n+1))=P at *;rcases (by lia:k2=0 \/ k2=1)with rfl|rfl<;>rcases b1 with rfl|rfl<;>split at q2<;>lia
   rw[<-this];exact h2
def ziA{w:Nat}(hw:1<w){n s X:Nat}(x1:X<2^(w*(n+1))):
  yw (2^w) (yj (2^w) (yah s (n+1)) (yx (2^w) (n+1) X 0) 0).1 99 (n+1)=(rol (w*(n+1)) (s%(w*(n+1))) X:Nat) /\
  (yj (2^w) (yah s (n+1)) (yx (2^w) (n+1) X 0) 0).1 109 0=0 /\
  (yj (2^w) (yah s (n+1)) (yx (2^w) (n+1) X 0) 0).1 109 1=0 /\
  (yj (2^w) (yah s (n+1)) (yx (2^w) (n+1) X 0) 0).1 109 2=bi (((rol (w*(n+1)) (s%(w*(n+1))) X:Nat):Int)==0) /\
  (yj (2^w) (yah s (n+1)) (yx (2^w) (n+1) X 0) 0).1 109 3=bi (decide ((2^w:Int)^(n+1)<=2*((rol (w*(n+1)) (s%(w*(n+1))) X:Nat):Int))):=by
 have hW:(0:Int)<2^w:=A1 ∅;have hp:(2:Int)^(w*(n+1))=(2^w:Int)^(n+1):=Bg;have x2:(X:Int)<(2^w:Int)^(n+1):=by rw[<-hp,<-pw];lia
 let⟨a1,a2⟩:=zcx (W:=2^w) hW (n:=n+1) (x:=X) (y:=0) ∅ x2;have e:yah s (n+1)=yJ (n+1)++(yD (yap (n+1)::twiceRows (n+1)) s++yq (n+1)):=by
  erw[yah,BZ]
 let⟨M',k',e1,k0,k1,h1⟩:=zdH hw a2 x1 s;rw[e,zd,a1,zd,e1];have z1:M' 122 0=0:=by rw[h1.keep 122 0 ⋯ ⋯];exact zap _ _ _ ⋯ ⋯ _
 have z2:M' 109 0=0:=by rw[h1.keep 109 0 ⋯ ⋯];exact zap _ _ _ ⋯ ⋯ _
 have z3:M' 109 1=0:=by rw[h1.keep 109 1 ⋯ ⋯];exact zap _ _ _ ⋯ ⋯ _
 let⟨f1,f2,f3,f4,f5⟩:=zaV hw M' k' h1.dg z1;rw[zb (M':=M') (c':=99) _ λi hi=>f1 i,f2,f3,f4,f5,h1.val,z2,z3];exact⟨rfl,rfl,rfl,rfl,rfl⟩
abbrev cF:Cel:=(102,0)
abbrev cG:Cel:=(103,0)
abbrev cH:Cel:=(104,0)
def ya9(to last:Cel)(sg:Bool):List Rw:=[if sg=AB then .twice cT last else .mark 0,.less to cZ cZ]
def yaJ(N:Nat)(k:Nat):List Rw:=upTo (λi=>[.odd cT (97,(N:Int)+i) cG,.any cH cH cT]) k
def ybq(n e:Nat):List Rw:=yu (λi=>.move (99,(n:Int)+i) cF) e
def ycp(sr sm:Bool)(n N:Nat):List Rw:=yJ (min n N)++(ya9 cF (97,(n:Int)-1) sr++(ybq n (N-n)++(ya9 cG (99,(N:Int)-1) sm++(.odd cH cF cG::(yaJ N (n-N)++(.ask cH :: .sum (109,1) cZ cZ::yq N))))))
def zkE{P C t kG:Int}{sm:Bool}(c0:0<=C)(c1:C<P)(hk:kG=if sm=AB/\P<=2*C then 1 else 0):(if sm=AB then yaP P (C+P*t)else decide (0<=C+P*t)&&decide (C+P*t<P))=decide (t=-kG):=by
 have hP:0<P:=by lia
 rcases (by lia:t<=-2 \/ t=-1 \/ t=0 \/ 1<=t)with h|rfl|rfl|h
 .have h1:P*t<=P*(-2):=C9 h ∅;rw[decide_eq_false (by split at hk<;>lia:¬t=-kG)];generalize P*t=Q at *
  cases sm<;>simp[yaP]<;>lia
 .cases sm
  .rw[if_neg (by simp)]at hk ⊢;subst hk;simp;lia
  .by_cases q:P<=2*C
   .rw[if_pos ⟨rfl,q⟩]at hk;subst hk;simp[yaP];lia
   .rw[if_neg (by simp[q])]at hk;subst hk;simp[yaP];lia
 .cases sm
  .rw[if_neg (by simp)]at hk ⊢;subst hk;simp;lia
  .by_cases q:P<=2*C
   .rw[if_pos ⟨rfl,q⟩]at hk;subst hk;simp[yaP];lia
   .rw[if_neg (by simp[q])]at hk;subst hk;simp[yaP];lia
 .have h1:P*1<=P*t:=C9 h ∅;rw[decide_eq_false (by split at hk<;>lia:¬t=-kG)];generalize P*t=Q at *
  cases sm<;>simp[yaP]<;>lia
def zfl{W:Int}(hW:0<W):∀(k:Nat) (D:Int),0<=D->D<W^k->((∀i:Nat,i<k->D/W^i%W=0) ↔ D=0)
 |0,D,h0,h1=>⟨λ_=>by simp at h1;lia,λ_ i hi=>by lia⟩
 |k+1,D,h0,h1=>by
  have hd:D/W<W^k:=BA hW (by rw[<-Ab];exact h1);have ih:=zfl hW k (D/W) (Bb h0 ∅) hd;have e:=BJ D W;constructor
  .intro h;have a:=h 0 ∅;rw[Bq,CC]at a;have b:=ih.1 λi hi=>by
    have:=h (i+1) ∅;rw[Ab,Ad (W^i),<-Am ∅]at this;exact this
   rw[a,b]at e;simp at e;exact e.symm
  .rintro rfl i _
   simp
def zeV{W:Int}(hW:0<W):∀(k:Nat) (D:Int),0<=D->D<W^k->((∀i:Nat,i<k->D/W^i%W=W-1) ↔ D=W^k-1)
 |0,D,h0,h1=>⟨λ_=>by simp at h1;rw[Bq];lia,λ_ i hi=>by lia⟩
 |k+1,D,h0,h1=>by
  have hd:D/W<W^k:=BA hW (by rw[<-Ab];exact h1);have ih:=zeV hW k (D/W) (Bb h0 ∅) hd;have e:=BJ D W;have hs:∀i:Nat,D/W^(i+1)%W=D/W/W^i%W:=λi=>by
   rw[Ab,Ad (W^i),<-Am ∅]
  constructor
  .intro h;have a:=h 0 ∅;rw[Bq,CC]at a;have b:=ih.1 λi hi=>by rw[<-hs];exact h (i+1) ∅
   rw[a,b,De]at e;rw[Ab,Ad];generalize W*W^k=Q at *;lia
  .intro h;have e2:D=(W-1)+W*(W^k-1):=by
    rw[h,Ab,Ad,De];generalize W*W^k=Q at *;lia
   have e3:D%W=W-1:=by
    rw[e2,B8];exact AX ∅ ∅
   have e4:D/W=W^k-1:=by
    rw[e2,FJ _ _ ∅,Aq ∅ ∅,DS]
   intro i hi
   cases i with
   |zero=>rw[Bq,CC];exact e3
   |succ i=>rw[hs];exact ih.2 e4 i ∅
def zeh{w:Nat}(hw:1<w)(M:Mem){k:Int}(k0:0<=k)(k1:k<=1)(to last:Cel)(sg:Bool)(ht:to.1≠116)(hl:last.1≠116)(hz:M 122 0=0)(l0:0<=rd M last)(l1:rd M last<2^w):
  ∃M' k',yj (2^w) (ya9 to last sg) M k=(M',k')/\0<=k'/\k'<=1/\k'=(if sg=AB then tb w (rd M last)else 0)/\M' to.1 to.2=k' * (2^w-1)/\∀d j,d≠116->(d≠to.1 \/ j≠to.2)->M' d j=M d j:=by
 have hW4:(4:Int)<=2^w:=by
  have h:(2:Nat)^2<=2^w:=Ac ∅ ∅;have h2:=pw w;lia
 have hv:∀q:Int,0<=q->q<=1->(0-0-q)%(2:Int)^w=q*(2^w-1)/\bi (decide (0-0-q<0))=q:=λq q0 q1=>by
  rcases (by lia:q=0 \/ q=1)with rfl|rfl
  .simp;rfl
  .refine⟨?_,rfl⟩;rw[show (0:Int)-0-1=(2^w-1)+2^w*(-1)by lia,B8,AX ∅ ∅,BQ]
 cases sg
 .simp only[ya9,yj,stepM,A5,if_false,rd,cZ,hz];let⟨a,b⟩:=hv 0 ∅ ∅;refine⟨_,_,rfl,?_,?_,?_,?_,λd j h1 h2=>?_⟩
  .rw[b];lia
  .rw[b];lia
  .rw[b]
  .rw[b];simp[wr,upd]
  .simp only[wr,upd];rw[if_neg ∅]
 .have hm:(2*rd M last+k)/2^w=tb w (rd M last):=by
   have hH:(2:Int)^w=2*2^(w-1):=by
    obtain⟨v,rfl⟩:∃v,w=v+1:=⟨w-1,by lia⟩;rw[show v+1-1=v by lia,Ab,Ad]
   unfold tb;rw[hH,<-Am ∅,<-Am ∅,show (2*rd M last+k)/2=rd M last by lia,show 2*rd M last/2=rd M last by lia]
  have hq:0<=tb w (rd M last)/\tb w (rd M last)<=1:=by
   rw[zl4 ∅ l0 l1];split<;>lia
  let⟨a,b⟩:=hv _ hq.1 hq.2;have hz2:∀v:Int,wr M cT v 122 0=0:=λv=>by simp[wr,upd,hz]
  erw[ya9,yj,stepM,if_true,hm];refine⟨_,_,rfl,?_,?_,?_,?_,λd j h1 h2=>?_⟩<;>erw[rd,cZ,hz2]
  .rw[show bi (decide (0-0-tb w (M last.1 last.2)<0))=tb w (M last.1 last.2)from b];exact hq.1
  .rw[show bi (decide (0-0-tb w (M last.1 last.2)<0))=tb w (M last.1 last.2)from b];exact hq.2
  .exact b
  .rw[show bi (decide (0-0-tb w (M last.1 last.2)<0))=tb w (M last.1 last.2)from b,show (0-0-tb w (M last.1 last.2))%2^w=tb w (M last.1 last.2)*(2^w-1)from a];simp[wr,upd]
  .simp only[wr,upd,cT];rw[if_neg ∅,if_neg ∅]
def ze7{W:Int}(M:Mem)(k:Int)(n:Nat):∀e:Nat,(yj W (ybq n e) M k).2=k/\(∀(d:Nat) (j:Int),(d≠99 \/ j<n)->(yj W (ybq n e) M k).1 d j=M d j)/\∀i:Nat,i<e->(yj W (ybq n e) M k).1 99 ((n+i:Nat):Int)=M 102 0
 |0=>⟨rfl,λ_ _ _=>rfl,λi hi=>by lia⟩
 |e+1=>by
  let⟨h1,h2,h3⟩:=ze7 (W:=W) M k n e;have ee:ybq n (e+1)=ybq n e++[.move (99,(n:Int)+e) cF]:=rfl;rw[ee,zd];generalize yj W (ybq n e) M k=R at *;let⟨M1,k'⟩:=R;simp only at *;subst h1;erw[yj,stepM,wr,rd,cF];refine⟨trivial,λd j hd=>?_,λi hi=>?_⟩
  .unfold upd;rw[if_neg ∅,h2 d j hd]
  .unfold upd
   by_cases hin:i=e
   .subst hin;rw[if_pos ⟨rfl,by lia⟩,h2 102 0 (.inl ⋯)]
   .rw[if_neg ∅];exact h3 i ∅
def ziP{a b:Int}(a0:0<=a)(b0:0<=b):0<=Ar a b/\(Ar a b=0 ↔ a=b):=by
 obtain⟨x,rfl⟩:∃x:Nat,a=x:=⟨a.toNat,by lia⟩;obtain⟨y,rfl⟩:∃y:Nat,b=y:=⟨b.toNat,by lia⟩;rw[zeE];refine⟨by lia,?_⟩;have:x ^^^ y=0 ↔ x=y:=⟨λh=>by
  have e:(x ^^^ y) ^^^ y=x:=by rw[Nat.xor_assoc,HN,Nat.xor_zero]
  rw[h,Nat.zero_xor]at e;exact e.symm,λh=>by rw[h,HN]⟩
 lia
def zqN{a b:Int}(a0:0<=a)(b0:0<=b):0<=BR a b:=by
 obtain⟨x,rfl⟩:∃x:Nat,a=x:=⟨a.toNat,by lia⟩;obtain⟨y,rfl⟩:∃y:Nat,b=y:=⟨b.toNat,by lia⟩;rw[zce];lia
def zeI{W:Int}(M:Mem)(k:Int)(N:Nat)(hH:0<=M 104 0)(hG:0<=M 103 0):∀e:Nat,(∀i:Nat,i<e->0<=M 97 ((N+i:Nat):Int)) ->
  (yj W (yaJ N e) M k).2=k/\(∀d j,d≠116->d≠104->(yj W (yaJ N e) M k).1 d j=M d j)/\0<=(yj W (yaJ N e) M k).1 104 0/\((yj W (yaJ N e) M k).1 104 0=0 ↔ M 104 0=0/\∀i:Nat,i<e->M 97 ((N+i:Nat):Int)=M 103 0)
 |0,_=>⟨rfl,λ_ _ _ _=>rfl,hH,by simp[yaJ,upTo,yj]⟩
 |e+1,h=>by
  let⟨h1,h2,h3,h4⟩:=zeI (W:=W) M k N hH hG e λi hi=>h i ∅;have ee:yaJ N (e+1)=yaJ N e++[.odd cT (97,(N:Int)+e) cG,.any cH cH cT]:=rfl;rw[ee,zd];generalize yj W (yaJ N e) M k=R at *;let⟨M1,k'⟩:=R;simp only at *;subst h1;have hb:=h e ∅;let⟨x0,x1⟩:=ziP hb hG;have z0:=zqN h3 x0;have z1:=ziO h3 x0;have hc:(N:Int)+(e:Int)=((N+e:Nat):Int):=by lia
  erw[yj,stepM,wr,rd,cT,cG,cH,hc,h2 97 _ ⋯ ⋯,h2 103 _ ⋯ ⋯];erw[upd,D3,false_and,if_false,and_self,if_true];refine⟨trivial,λd j a b=>?_,z0,?_⟩
  .rw[if_neg ∅,if_neg ∅,h2 d j a b]
  .rw[z1,h4,x1];constructor
   .rintro⟨⟨a,b⟩,c⟩
    refine⟨a,λi hi=>?_⟩;rcases Ct i e with z|z
    .exact b i z
    .rw[show i=e by lia];exact c
   .rintro⟨a,b⟩
    exact⟨⟨a,λi hi=>b i ∅⟩,b e ∅⟩
def ze4{W:Int}{M:Mem}{n:Nat}{v q:Int}(hq:q=0 \/ q=1)(h1:yw W M 99 n=v):∀e:Nat,(∀i:Nat,i<e->M 99 ((n+i:Nat):Int)=q*(W-1))->yw W M 99 (n+e)=v+q*(W^(n+e)-W^n)
 |0,_=>by rw[Nat.add_zero,h1,Int.sub_self,HP,DR]
 |e+1,h=>by
  rw[show n+(e+1)=n+e+1 by lia,yw,ze4 hq h1 e λi hi=>h i ∅,h e ∅,Ab];generalize W^(n+e)=P;generalize W^n=R;rcases hq with rfl|rfl
  .simp
  .rw[BQ,BQ,BQ,CG,Ad P W,BQ];lia
def znV{W x xr k3:Int}{n N:Nat}{A M3:Mem}(hW:0<W)(x0:0<=x)(x1:x<W^(n+1))(hxk:xr=x-k3*W^(n+1))(hq:k3=0 \/ k3=1)(hVa:yw W A 97 (n+1)=x)(hAd:∀i:Nat,i<n+1->A 97 i=x/W^i%W)
  (c3:∀i:Nat,i<n+1->i<N+1->M3 99 i=A 97 i) (w3:∀i:Nat,i<N+1-(n+1)->M3 99 ((n+1+i:Nat):Int)=k3*(W-1)):
  ∃t:Int,xr=yw W M3 99 (N+1)+W^(N+1)*t/\∀kG:Int,(kG=0 \/ kG=1)->((k3=kG/\∀i:Nat,i<n+1-(N+1)->A 97 ((N+1+i:Nat):Int)=kG*(W-1)) ↔ t=-kG):=by
 by_cases hle:n+1<=N+1
 .obtain⟨e,he⟩:∃e,N+1=n+1+e:=⟨N-n,by lia⟩;have hv0:yw W M3 99 (n+1)=x:=(zb (M':=A) (c':=97) (n+1) λi hi=>c3 i hi ∅).trans hVa;have hv:=ze4 hq hv0 e λi hi=>w3 i ∅;rw[<-he]at hv;refine⟨-k3,?_,λkG hk=>?_⟩
  .rw[hxk,hv,Ha,Ad (W^(N+1)),De];lia
  .constructor
   .rintro⟨rfl,_⟩;rfl
   .intro h;exact⟨by lia,λi hi=>by lia⟩
 .obtain⟨e,he⟩:∃e,n+1=N+1+e:=⟨n-N,by lia⟩;have hP:0<W^(N+1):=A1 hW;have hQ:0<W^e:=A1 hW;have hv:yw W M3 99 (N+1)=x%W^(N+1):=zcm hW (N+1) λi hi=>by rw[c3 i ∅ hi,hAd i ∅]
  have hD0:0<=x/W^(N+1):=Bb x0 ∅;have hD1:x/W^(N+1)<W^e:=BA hP (by rw[Ad,<-EX,<-he];exact x1);have hdg:∀i:Nat,i<e->A 97 ((N+1+i:Nat):Int)=x/W^(N+1)/W^i%W:=λi hi=>by
   rw[hAd _ ∅,EX,Am ∅]
  have hm:=BJ x (W^(N+1));have hz:=zfl hW e _ hD0 hD1;have hf:=zeV hW e _ hD0 hD1;refine⟨x/W^(N+1)-k3*W^e,?_,λkG hk=>?_⟩
  .rw[hxk,hv,he,EX,De,Int.mul_left_comm (W^(N+1)) k3];generalize k3*(W^(N+1)*W^e)=Y;lia
  .rw[show n+1-(N+1)=e by lia];rcases hk with rfl|rfl
   .have:(∀i:Nat,i<e->A 97 ((N+1+i:Nat):Int)=0*(W-1)) ↔ x/W^(N+1)=0:=by
     rw[<-hz];exact⟨λh i hi=>by rw[<-hdg i hi,h i hi,CZ],λh i hi=>by rw[hdg i hi,h i hi,CZ]⟩
    rw[this];generalize x/W^(N+1)=D at *;rcases hq with rfl|rfl
    .rw[CZ];lia
    .rw[BQ];lia
   .have:(∀i:Nat,i<e->A 97 ((N+1+i:Nat):Int)=1*(W-1)) ↔ x/W^(N+1)=W^e-1:=by
     rw[<-hf];exact⟨λh i hi=>by rw[<-hdg i hi,h i hi,BQ],λh i hi=>by rw[hdg i hi,h i hi,BQ]⟩
    rw[this];generalize x/W^(N+1)=D at *;rcases hq with rfl|rfl
    .rw[CZ];lia
    .rw[BQ];lia
def zku{w:Nat}(hw:1<w)(sm:Bool){n N:Nat}{A M3:Mem}{k3 xr t:Int}(hW:(0:Int)<2^w)(hW4:(4:Int)<=2^w)(f0:0<=k3)(f1:k3<=1)(hq:k3=0 \/ k3=1)(da:Dg (2^w) A 97 (n+1))(o3:∀d j,d≠99->d≠116->(d≠102 \/ j≠0)->M3 d j=A d j)(hZ0:A 122 0=0)(hM0:∀i,A 109 i=0)(d3:Dg (2^w) M3 99 (N+1))(hF3:M3 102 0=k3*(2^w-1))(hFr:0<=k3*((2:Int)^w-1)/\k3*((2:Int)^w-1)<2^w)(ht:xr=yw (2^w) M3 99 (N+1)+(2^w:Int)^(N+1)*t)
  (htk:∀kG:Int,(kG=0 \/ kG=1)->((k3=kG/\∀i:Nat,i<n+1-(N+1)->A 97 ((N+1+i:Nat):Int)=kG*(2^w-1)) ↔ t=-kG)) (hr3:0<=yw (2^w) M3 99 (N+1)/\yw (2^w) M3 99 (N+1)<(2^w:Int)^(N+1)) (hmod:xr%(2^w:Int)^(N+1)=yw (2^w) M3 99 (N+1)):
  yw (2^w) (yj (2^w) (ya9 cG (99,(N:Int)) sm++Rw.odd cH cF cG::(yaJ (N+1) (n+1-(N+1))++Rw.ask cH::Rw.sum (109,1) cZ cZ::yq (N+1))) M3 k3).1 99 (N+1)=xr%(2^w:Int)^(N+1)/\(yj (2^w) (ya9 cG (99,(N:Int)) sm++Rw.odd cH cF cG::(yaJ (N+1) (n+1-(N+1))++Rw.ask cH::Rw.sum (109,1) cZ cZ::yq (N+1))) M3 k3).1 109 0=0/\(yj (2^w) (ya9 cG (99,(N:Int)) sm++Rw.odd cH cF cG::(yaJ (N+1) (n+1-(N+1))++Rw.ask cH::Rw.sum (109,1) cZ cZ::yq (N+1))) M3 k3).1 109 1=bi (!(if sm=AB then yaP ((2^w:Int)^(N+1)) xr else decide (0<=xr)&&decide (xr<(2^w:Int)^(N+1))))/\(yj (2^w) (ya9 cG (99,(N:Int)) sm++Rw.odd cH cF cG::(yaJ (N+1) (n+1-(N+1))++Rw.ask cH::Rw.sum (109,1) cZ cZ::yq (N+1))) M3 k3).1 109 2=bi (xr%(2^w:Int)^(N+1)==0)/\(yj (2^w) (ya9 cG (99,(N:Int)) sm++Rw.odd cH cF cG::(yaJ (N+1) (n+1-(N+1))++Rw.ask cH::Rw.sum (109,1) cZ cZ::yq (N+1))) M3 k3).1 109 3=bi (decide ((2^w:Int)^(N+1)<=2*(xr%(2^w:Int)^(N+1)))):=by
 let⟨M4,kG,r4,g0,g1,g2,g3,g4⟩:=zeh hw M3 (k:=k3) f0 f1 cG (99,N) sm ⋯ (by simp) (by rw[o3 122 0 ⋯ ⋯ (.inl ⋯)];exact hZ0) (d3 N ∅).1 (d3 N ∅).2;rw[zd,r4];have hkG:kG=if sm=AB/\(2^w:Int)^(N+1)<=2*yw (2^w) M3 99 (N+1)then 1 else 0:=by
  rw[g2,rd]
  cases sm
  .simp
  .simp only[if_true,true_and];exact zT ∅ d3
 have hkk:kG=0 \/ kG=1:=by lia
 have hfit:=zkE (t:=t) hr3.1 hr3.2 hkG;rw[<-ht]at hfit;have hGr:0<=kG*((2:Int)^w-1):=by rcases hkk with rfl|rfl<;>lia
 simp only at g3 g4;have hF4:M4 102 0=k3*(2^w-1):=by rw[g4 102 0 ⋯ (.inl ⋯)];exact hF3
 have hx:=ziP (a:=k3*(2^w-1)) (b:=kG*(2^w-1)) hFr.1 hGr;have hst:stepM (2^w) M4 kG (.odd cH cF cG)=(wr M4 cH (Ar (k3*(2^w-1)) (kG*(2^w-1))),kG):=by
  erw[stepM,rd];rw[show M4 103 0=kG*(2^w-1)from g3,hF4]
 simp only;rw[zp,hst];simp only;have h5:∀d j,(d≠104 \/ j≠0)->wr M4 cH (Ar (k3*(2^w-1)) (kG*(2^w-1))) d j=M4 d j:=λd j h=>by
  erw[wr,upd,cH];rw[if_neg ∅]
 have h5b:wr M4 cH (Ar (k3*(2^w-1)) (kG*(2^w-1))) 104 0=Ar (k3*(2^w-1)) (kG*(2^w-1)):=by simp[wr,upd]
 generalize wr M4 cH (Ar (k3*(2^w-1)) (kG*(2^w-1)))=M5 at *;have o5:∀d j,d≠116->d≠102->d≠103->d≠104->M5 d j=M3 d j:=λd j a b c e=>by
  rw[h5 d j (.inl e),g4 d j a (.inl c)]
 have a5:∀j,M5 97 j=A 97 j:=λj=>by rw[o5 97 j ⋯ ⋯ ⋯ ⋯,o3 97 j ⋯ ⋯ (.inl ⋯)]
 have hG5:M5 103 0=kG*(2^w-1):=by rw[h5 103 0 (.inl ⋯)];exact g3
 let⟨q1,q2,q3,q4⟩:=zeI (W:=2^w) M5 kG (N+1) (by rw[h5b];exact hx.1) (by rw[hG5];exact hGr) (n+1-(N+1)) (λi hi=>by rw[a5];exact(da _ ∅).1);rw[zd];generalize yj (2^w) (yaJ (N+1) (n+1-(N+1))) M5 kG=R6 at *;let⟨M6,k6⟩:=R6;simp only at q1 q2 q3 q4 ⊢;subst q1;have hH:M6 104 0=0 ↔ t=-k6:=by
  rw[q4,h5b,hx.2,<-htk k6 hkk,hG5];constructor
  .rintro⟨a,b⟩
   refine⟨?_,λi hi=>by rw[<-a5];exact b i hi⟩;rcases hq with rfl|rfl<;>rcases hkk with rfl|rfl<;>lia
  .rintro⟨rfl,b⟩
   exact⟨rfl,λi hi=>by rw[a5];exact b i hi⟩
 have z6:M6 122 0=0:=by rw[q2 122 0 ⋯ ⋯,o5 122 0 ⋯ ⋯ ⋯ ⋯,o3 122 0 ⋯ ⋯ (.inl ⋯)];exact hZ0
 have m6:∀i,M6 109 i=0:=λi=>by rw[q2 109 i ⋯ ⋯,o5 109 i ⋯ ⋯ ⋯ ⋯,o3 109 i ⋯ ⋯ (.inl ⋯)];exact hM0 i
 have c6:∀i,M6 99 i=M3 99 i:=λi=>by rw[q2 99 i ⋯ ⋯,o5 99 i ⋯ ⋯ ⋯ ⋯]
 have hb:bi (!(M6 104 0==0))=bi (!(decide (t=-k6))):=by
  by_cases z:t=-k6
  .rw[hH.2 z,decide_eq_true z];rfl
  .rw[decide_eq_false z,beq_eq_false_iff_ne.2 λy=>z (hH.1 y)]
 have hs1:stepM (2^w) M6 k6 (.ask cH)=(M6,bi (!(decide (t=-k6)))):=by
  erw[stepM,rd];rw[hb]
 rw[zp,hs1];have hbr:=ze9 (!(decide (t=-k6)));generalize hbv:bi (!(decide (t=-k6)))=v at *;have hs2:stepM (2^w) M6 v (.sum (109,1) cZ cZ)=(wr M6 (109,1) v,0):=by
  erw[stepM,rd,cZ,z6];rw[show (0:Int)+0+v=v by lia,AX hbr.1 ∅,Aq hbr.1 ∅]
 simp only;rw[zp,hs2];simp only;have j1:∀d j,(d≠109 \/ j≠1)->wr M6 (109,1) v d j=M6 d j:=λd j h=>by
  erw[wr,upd];rw[if_neg ∅]
 have j2:wr M6 (109,1) v 109 1=v:=by simp[wr,upd]
 generalize wr M6 (109,1) v=M7 at *;have c7:∀i:Nat,i<N+1->M7 99 i=M3 99 i:=λi _=>by rw[j1 99 i (.inl ⋯),c6]
 have d7:Dg (2^w) M7 99 (N+1):=λi hi=>by rw[c7 i hi];exact d3 i hi
 let⟨e1,e2,e3,e4,e5⟩:=zaV hw M7 0 d7 (by rw[j1 122 0 (.inl ⋯),z6]);have v7:yw (2^w) M7 99 (N+1)=yw (2^w) M3 99 (N+1):=zb _ c7;rw[zb (M':=M7) (c':=99) _ λi hi=>e1 i,e2,e3,e4,e5,v7,j2,j1 109 0 (.inr ⋯),m6,hmod,hfit,hbv];exact⟨rfl,rfl,rfl,rfl,rfl⟩
def zj5{w:Nat}(hw:1<w)(sr sm:Bool){n N:Nat}{x:Int}(x0:0<=x)(x1:x<(2^w:Int)^(n+1)){xr:Int}(hxr:xr=if sr=AB then sgd ((2^w:Int)^(n+1)) x else x):
  yw (2^w) (yj (2^w) (ycp sr sm (n+1) (N+1)) (yx (2^w) (n+1) x 0) 0).1 99 (N+1)=xr%(2^w:Int)^(N+1) /\
  (yj (2^w) (ycp sr sm (n+1) (N+1)) (yx (2^w) (n+1) x 0) 0).1 109 0=0 /\
  (yj (2^w) (ycp sr sm (n+1) (N+1)) (yx (2^w) (n+1) x 0) 0).1 109 1=bi (!(if sm=AB then yaP ((2^w:Int)^(N+1)) xr else decide (0<=xr)&&decide (xr<(2^w:Int)^(N+1)))) /\
  (yj (2^w) (ycp sr sm (n+1) (N+1)) (yx (2^w) (n+1) x 0) 0).1 109 2=bi (xr%(2^w:Int)^(N+1)==0) /\
  (yj (2^w) (ycp sr sm (n+1) (N+1)) (yx (2^w) (n+1) x 0) 0).1 109 3=bi (decide ((2^w:Int)^(N+1)<=2*(xr%(2^w:Int)^(N+1)))):=by
 have hW:(0:Int)<2^w:=A1 ∅;have hW4:(4:Int)<=2^w:=by
  have h:(2:Nat)^2<=2^w:=Ac ∅ ∅;have h2:=pw w;lia
 have da:=zdC (n+1) x 0 hW;have hZ0:yx (2^w) (n+1) x 0 122 0=0:=zap _ _ _ ⋯ ⋯ _;have hM0:∀i,yx (2^w) (n+1) x 0 109 i=0:=λi=>zap _ _ _ ⋯ ⋯ _;have hAt:tb w (yx (2^w) (n+1) x 0 97 n)=if (2^w:Int)^(n+1)<=2*x then 1 else 0:=by
  rw[zT ∅ da,zbe _ _ _ hW x0 x1]
 have hAd:∀i:Nat,i<n+1->yx (2^w) (n+1) x 0 97 i=x/(2^w)^i%2^w:=λi hi=>zld _ _ _ hW hi;have hVa:=zbe (n+1) x 0 hW x0 x1;generalize yx (2^w) (n+1) x 0=A at *;let⟨p1,p2,p3⟩:=zcA (W:=2^w) A 0 (λi=>.move (99,i) (97,i)) (λi=>A 97 i) (λM1 i h=>by erw[stepM,rd,h 97 i ⋯]) (min (n+1) (N+1));have e0:yJ (min (n+1) (N+1))=yu (λi=>.move (99,i) (97,i)) (min (n+1) (N+1)):=rfl;rw[ycp,e0,zd];generalize yj (2^w) (yu (λi=>.move (99,i) (97,i)) (min (n+1) (N+1))) A 0=R1 at *;let⟨M1,k1⟩:=R1;simp only at p1 p2 p3 ⊢;subst p1;have hn1:((n+1:Nat):Int)-1=n:=by lia
 have hN1:((N+1:Nat):Int)-1=N:=by lia
 rw[hn1,hN1];let⟨M2,kF,r2,f0,f1,f2,f3,f4⟩:=zeh hw M1 (k:=0) ∅ ∅ cF (97,n) sr ⋯ (by simp) (by rw[p2 122 0 ⋯];exact hZ0) (by rw[rd,p2 97 n ⋯];exact(da n ∅).1) (by rw[rd,p2 97 n ⋯];exact(da n ∅).2);have f2:kF=if sr=AB then tb w (A 97 n)else 0:=by rw[f2,rd,p2 97 n ⋯]
 rw[zd,r2];simp only at f3 f4 ⊢;let⟨w1,w2,w3⟩:=ze7 (W:=2^w) M2 kF (n+1) (N+1-(n+1));rw[zd];generalize yj (2^w) (ybq (n+1) (N+1-(n+1))) M2 kF=R3 at *;let⟨M3,k3⟩:=R3;simp only at w1 w2 w3 ⊢;subst w1;have c3:∀i:Nat,i<n+1->i<N+1->M3 99 i=A 97 i:=λi h1 h2=>by
  rw[w2 99 i (.inr ∅),f4 99 i ⋯ (.inl ⋯),p3 i ∅]
 have o3:∀d j,d≠99->d≠116->(d≠102 \/ j≠0)->M3 d j=A d j:=λd j h1 h2 h3=>by
  rw[w2 d j (.inl h1),f4 d j h2 h3,p2 d j h1]
 have hF3:M3 102 0=k3*(2^w-1):=by rw[w2 102 0 (.inl ⋯)];exact f3
 have hq:k3=0 \/ k3=1:=by lia
 have hFr:0<=k3*((2:Int)^w-1)/\k3*((2:Int)^w-1)<2^w:=by
  rcases hq with rfl|rfl<;>lia
 have d3:Dg (2^w) M3 99 (N+1):=λi hi=>by
  by_cases h:i<n+1
  .rw[c3 i h hi];exact da i h
  .have:=w3 (i-(n+1)) ∅;rw[show n+1+(i-(n+1))=i by lia]at this;rw[this,f3];exact hFr
 have hC:=znV (n:=n) (N:=N) hW x0 x1 (by
   rw[hxr,f2,hAt];unfold sgd
   cases sr
   .simp
   .simp only[if_true]
    by_cases q:(2^w:Int)^(n+1)<=2*x
    .rw[if_pos q,if_pos q,BQ]
    .rw[if_neg q,if_neg q,CZ,Int.sub_zero]:xr=x-k3*(2^w:Int)^(n+1)) hq hVa hAd c3 (λi hi=>by rw[w3 i hi,f3])
 let⟨t,ht,htk⟩:=hC;have hr3:=zae hW (N+1) d3;have hmod:xr%(2^w:Int)^(N+1)=yw (2^w) M3 99 (N+1):=by
  rw[ht,B8];exact AX hr3.1 hr3.2
 exact zku hw sm hW hW4 f0 f1 hq da o3 hZ0 hM0 d3 hF3 hFr ht htk hr3 hmod
def ycv(top:Bool)(n:Nat):Rw:=if top=AB then yap n else .mark 0
def ydV(up:Bool)(n:Nat):List Rw:=if up=AB then twiceRows n else yF n
def shR(up top:Bool)(s n:Nat):List Rw:=yJ n++yD (ycv top n::ydV up n) s++(if (up&&top)=AB then []else [.sum (109,0) cZ cZ])++yq n
def nmS:Bool->Bool->A4
 |true,AC=>A2 "left"
 |false,AC=>A2 "right"
 |false,AB=>A2 "down"
 |true,AB=>A2 "roll"
def ycb(up top:Bool)(s:Int):PV:=.tp AC [.str (nmS up top),.int s]
def wS(up top:Bool)(K s:Nat)(x:Int):Int:=match up,top with
 |true,AC=>x*2^s
 |false,AC=>x/2^s
 |false,AB=>sgd (2^K) x/2^s
 |true,AB=>x*2^(s%K)+x/2^(K-s%K)
def uS(up top:Bool)(K s:Nat)(x:Int):Int:=match up,top with
 |true,AC=>if 0<s/\s<=K then x/2^(K-s)%2 else 0
 |false,AC=>if s=0 then 0 else x/2^(s-1)%2
 |false,AB=>if s=0 then 0 else sgd (2^K) x/2^(s-1)%2
 |true,AB=>0
def zoI{K p X:Nat}(hp:p<K)(hX:X<2^K):((X:Int)*2^p+X/2^(K-p))%2^K=(rol K p X:Nat):=by
 have h1:=Nat.mod_add_div X (2^(K-p));have h2:(2:Nat)^K=2^p*2^(K-p):=by rw[<-EV,show p+(K-p)=K by lia]
 have h3:=zlK hX p ∅;have e:X*2^p+X/2^(K-p)=rol K p X+2^K*(X/2^(K-p)):=by
  unfold rol;have:X*2^p=2^p*(X%2^(K-p))+2^K*(X/2^(K-p)):=by
   rw[h2,E9,<-Hb,h1,Cc]
  lia
 have e2:(X:Int)*2^p+X/2^(K-p)=((X*2^p+X/2^(K-p):Nat):Int):=by simp
 have e3:(2:Int)^K=((2^K:Nat):Int):=by simp
 rw[e2,e3,<-D5,e,Nat.add_mul_mod_self_left,Cu h3]
def zri(up top:Bool){w n s:Nat}(hw:1<w){x:Int}(x0:0<=x)(x1:x<2^(w*(n+1))):
  yw (2^w) (yj (2^w) (shR up top s (n+1)) (yx (2^w) (n+1) x 0) 0).1 99 (n+1)=wS up top (w*(n+1)) s x%2^(w*(n+1)) /\
  (yj (2^w) (shR up top s (n+1)) (yx (2^w) (n+1) x 0) 0).1 109 0=uS up top (w*(n+1)) s x /\
  (yj (2^w) (shR up top s (n+1)) (yx (2^w) (n+1) x 0) 0).1 109 1=0 /\
  (yj (2^w) (shR up top s (n+1)) (yx (2^w) (n+1) x 0) 0).1 109 2=bi (wS up top (w*(n+1)) s x%2^(w*(n+1))==0) /\
  (yj (2^w) (shR up top s (n+1)) (yx (2^w) (n+1) x 0) 0).1 109 3=bi (decide ((2:Int)^(w*(n+1))<=2*(wS up top (w*(n+1)) s x%2^(w*(n+1))))):=by
 have hp:(2:Int)^(w*(n+1))=(2^w:Int)^(n+1):=Bg;have x2:x<(2^w:Int)^(n+1):=by rw[<-hp];exact x1
 have hK:0<w*(n+1):=Hd ∅ ∅;let⟨X,hX⟩:=za9 x0;have X1:X<2^(w*(n+1)):=by have:=pw (w*(n+1));lia
 cases up<;>cases top
 .have h:=zhU (w:=w) hw (n:=n) (s:=s) x0 x2;have hm:x/2^s%2^(w*(n+1))=x/2^s:=AX (Bb x0 (DU (A1 ⋯))) (GA (Int.ediv_le_self _ x0) x1);have g:wS AC AC (w*(n+1)) s x%2^(w*(n+1))=x/2^s:=hm;rw[<-hp]at h;rw[g];exact h
 .have h:=zi0 (w:=w) hw (n:=n) (s:=s) x0 x2;rw[<-hp]at h;exact h
 .have h:=ziN (w:=w) hw (n:=n) (s:=s) X1;rw[<-hX]at h;have ho:((if 0<s/\s<=w*(n+1)then X/2^(w*(n+1)-s)%2 else 0:Nat):Int)=if 0<s/\s<=w*(n+1)then x/2^(w*(n+1)-s)%2 else 0:=by
   split
   .rw[hX];simp
   .rfl
  rw[ho]at h;exact h
 .have h:=ziA (w:=w) hw (n:=n) (s:=s) X1;have e:=zoI (p:=s%(w*(n+1))) (EM _ hK) X1;rw[<-hX]at h e;rw[<-e,<-hp]at h;rw[show shR AB AB s (n+1)=yah s (n+1)by simp[yah,shR,ycv,ydV]];exact h
theorem bA1(i:Int):An i 1=i%2:=by
 have h1:decide ((0:Int)<=1)=true:=rfl
 by_cases h:0<=i
 .simp only[An,decide_eq_true h,h1];rw[show (1:Int).toNat=1 from rfl,Nat.and_one_is_mod];lia
 .simp only[An,decide_eq_false h,h1,EI];rw[show (1:Int).toNat=1 from rfl,Nat.one_and_eq_mod_two];lia
def zoO(k:Nat){x s K a b:Int}(q1:yC .shl (.int x) (.int s)=AA (.int a))(q2:yC .shr (.int a) (.int K)=AA (.int b))(st:SO):yc T (k+1) yhD [.int x,.int s,.int K] st=.ok (.tp AC [.int a,.int (b%2),.int 0]) st:=by
 have hT:T yhD=AA yf7:=rfl;rw[za hT rfl rfl rfl];simp! [yf7,q1,q2,zal,bA1];rfl
def zl1(k:Nat){x s K a b:Int}(q1:yC .shr (.int x) (.int s)=AA (.int a))(q2:yC .shr (.int (2*x)) (.int s)=AA (.int b))(st:SO):yc T (k+1) yhE [.int x,.int s,.int K] st=.ok (.tp AC [.int a,.int (b%2),.int 0]) st:=by
 have hT:T yhE=AA y4:=rfl;rw[za hT rfl rfl rfl];simp! [y4,q1,q2,zal,bA1];rfl
def zqg(k:Nat){x s K p d a b c:Int}(q1:yC .mod (.int s) (.int K)=AA (.int p))(hd:K-p=d)(q2:yC .shl (.int x) (.int p)=AA (.int a))(q3:yC .shr (.int x) (.int d)=AA (.int b))(q4:yC .bor (.int a) (.int b)=AA (.int c))(st:SO):yc T (k+1) yhF [.int x,.int s,.int K] st=.ok (.tp AC [.int c,.int 0,.int 0]) st:=by
 have hT:T yhF=AA ygc:=rfl;rw[za hT rfl rfl rfl];simp! [ygc,q1,hd,q2,q3,q4];rfl
def zoN(x:Int)(s:Nat):2*x/2^s%2=if s=0 then 0 else x/2^(s-1)%2:=by
 cases s with
 |zero=>rw[if_pos rfl,Bq,CC];lia
 |succ s=>rw[if_neg ∅,show s+1-1=s from rfl,Ab,Ad 2 x,Dn _ _ (by decide:(0:Int)<2)]
def zrj(k:Nat)(up top:Bool){w n s:Nat}(hs:s<=100)(hw:4<=w)(hw2:w<=16)(h1:1<=n)(h2:n<=4){x:Int}(x0:0<=x)(x1:x<2^(w*n)):∃f,mkV yds AB (.str (nmS up top))=AA f/\∀st,yc T (k+2) f [.int x,.int s,.int ((w*n:Nat):Int)] st=.ok (.tp AC [.int (wS up top (w*n) s x),.int (uS up top (w*n) s x),.int 0]) st:=by
 have hK:1<=w*n:=by have:=BK hw h1;lia
 have hK2:w*n<=64:=BK hw2 h2;have hx64:x.natAbs<18446744073709551616:=by
  have a:(2:Nat)^(w*n)<=2^64:=Ac ⋯ hK2;have b:=pw (w*n);lia
 have q1:yC .shr (.int x) (.int (s:Int))=AA (.int (x/2^s)):=zdj
 cases up<;>cases top
 .refine⟨yhE,by ac_rfl,λst=>?_⟩;have h:=zl1 (k+1) (K:=((w*n:Nat):Int)) q1 zdj st;rw[zoN]at h;exact h
 .refine⟨yiL,by ac_rfl,λst=>?_⟩;have e1:=λst=>zu k hK hK2 x0 x1 st;have h:=λst=>zl1 k (K:=((w*n:Nat):Int)) (x:=sgd (2^(w*n)) x) (s:=s) zdj zdj st;rw[zoN]at h;have hT:T yiL=AA ygb:=rfl;rw[show k+2=k+1+1 by lia,za hT rfl rfl rfl];erw[wS,uS];generalize ((w*n:Nat):Int)=K,sgd (2^(w*n)) x=u at *;generalize u/2^s=v,(if s=0 then 0 else u/2^(s-1)%2)=r at *;simp! [ygb,e1,h];rfl
 .refine⟨yhD,by ac_rfl,λst=>?_⟩;have h:=zoO (k+1) (znl (i:=x) (j:=s) hx64 ∅) (zdj (j:=w*n)) st;have e:x*2^s/2^(w*n)%2=if 0<s/\s<=w*n then x/2^(w*n-s)%2 else 0:=by
   by_cases hs2:s<=w*n
   .have hp:(2:Int)^(w*n)=2^(w*n-s)*2^s:=by rw[<-EX,show w*n-s+s=w*n by lia]
    rw[hp,Dn _ _ (A1 ⋯)]
    by_cases h0:s=0
    .subst h0;rw[if_neg ∅,GP,Aq x0 x1];rfl
    .rw[if_pos ⟨by lia,hs2⟩]
   .have hp:(2:Int)^s=2^(s-w*n-1)*2*2^(w*n):=by rw[<-Ab,<-EX,show s-w*n-1+1+w*n=s by lia]
    rw[if_neg ∅,hp,<-BH,Int.mul_ediv_cancel _ (Int.ne_of_gt (A1 ⋯)),<-BH];exact Int.mul_emod_left _ _
  rw[e]at h;exact h
 .refine⟨yhF,by ac_rfl,λst=>?_⟩;have hp:s%(w*n)<w*n:=EM _ ∅;have q0:yC .mod (.int (s:Int)) (.int ((w*n:Nat):Int))=AA (.int ((s%(w*n):Nat):Int)):=by
   rw[D5];exact z8 ∅
  have h:=zqg (k+1) (d:=((w*n-s%(w*n):Nat):Int)) q0 ∅ (znl (i:=x) hx64 ∅) zdj zcG st;have e:BR (x*2^(s%(w*n))) (x/2^(w*n-s%(w*n)))=x*2^(s%(w*n))+x/2^(w*n-s%(w*n)):=by
   let⟨X,rfl⟩:=za9 x0;have X1:X<2^(w*n):=by have:=pw (w*n);lia
   have hb:X/2^(w*n-s%(w*n))<2^(s%(w*n)):=Db (by rw[<-EV,show w*n-s%(w*n)+s%(w*n)=w*n by lia];exact X1);have e1:(X:Int)*2^(s%(w*n))=((2^(s%(w*n))*X:Nat):Int):=by simp[Ad]
   have e2:(X:Int)/2^(w*n-s%(w*n))=((X/2^(w*n-s%(w*n)):Nat):Int):=by simp
   rw[e1,e2,zce,<-Nat.two_pow_add_eq_or_of_lt hb];simp
  rw[e]at h;exact h
def zrk(k:Nat){nm:A4}{S w n x K:Int}{f:Nat}{v:PV}(hv:nL v=AB)(c1:ye .eq (.str nm) (.str "led")=AA (.bl AC))(c2:ye .isin (.str nm) yc5=AA (.bl AB))(hm:mkV yds AB (.str nm)=AA f)(m1:yC .mul (.int w) (.int n)=AA (.int K))(E:∀st,yc T k f [.int x,.int S,.int K] st=.ok v st)(st:SO):
  yc T (k+1) yl [.tp AC [.str nm,.int S],.int w,.int n,.int x,.int 0] st=.ok v st:=by
 have hT:T yl=AA ⟨5,6,AB,yX.body⟩:=rfl;have i0:∀st,idxV st (.tp AC [.str nm,.int S]) (.int 0)=AA (.str nm):=λ_=>ix0;have i1:∀st,idxV st (.tp AC [.str nm,.int S]) (.int 1)=AA (.int S):=λ_=>rfl;have hl:decide (5<6)=true:=rfl;rw[za hT rfl rfl rfl];dsimp only;generalize PV.tp AC [.str nm,.int S]=d at *;simp! [yX,i0,i1,c1,c2,zof,hl,hm,yeP,m1,E];simp[ybY,hv]
def ycs(b:Bool):Str:=if b=AB then A2 "signed" else A2 "plain"
abbrev ycD:PV:=.str "led"
def yav(sr sm:Bool)(e:Int):PV:=.tp AC [ycD,.str (ycs sr),.str (ycs sm),.int e]
def xrd(sr:Bool)(T x:Int):Int:=if sr=AB then sgd T x else x
def ovr(sm:Bool)(T x:Int):Int:=bi (!(if sm=AB then yaP T x else decide (0<=x)&&decide (x<T)))
def zmW(k:Nat){w n N:Nat}{x:Int}(st:SO){d:PV}(hd:nL d=AB){K P X:Int}{sr sm g:Bool}(i1:∀st,idxV st d (.int 1)=AA (.str (ycs sr)))(i2:∀st,idxV st d (.int 2)=AA (.str (ycs sm)))(m1:yC .mul (.int w) (.int n)=AA (.int K))(hX:sr=AC->X=x)(E1:sr=AB->∀st,yc T k y7 [.int x,.int K] st=.ok (.int X) st)(E2:∀st,yc T k yi [d,.int n] st=.ok (.int N) st)(m2:yC .mul (.int w) (.int N)=AA (.int P))(E3:sm=AB->∀st,yc T k yhq [.int X,.int P] st=.ok (.int (bi (!g))) st)(m3:sm=AC->∃v,yC .shr (.int X) (.int P)=AA (.int v)/\(v==0)=g):
  yc T (k+1) yhG [d,.int w,.int n,.int x] st=.ok (.tp AC [.int X,.int 0,.int (bi (!g))]) st:=by
 have hT:T yhG=AA yc9:=rfl;have w1:∀b,ye .eq (.str (ycs b)) (.str "signed")=AA (.bl b):=λb=>by cases b<;>ac_rfl
 rw[za hT rfl rfl (by simp[nLs,nL,hd])]
 cases sr<;>cases sm
 .have hX:=hX rfl;let⟨v,a,b⟩:=m3 rfl;subst hX
  cases g<;>simp! [yc9,i1,i2,w1,m1,E2,m2,a,b]<;>rfl
 .have hX:=hX rfl;have E3:=E3 rfl;subst hX;simp! [yc9,i1,i2,w1,m1,E2,m2,E3];rfl
 .have E1:=E1 rfl;let⟨v,a,b⟩:=m3 rfl
  cases g<;>simp! [yc9,i1,i2,w1,m1,E1,E2,m2,a,b]<;>rfl
 .have E1:=E1 rfl;have E3:=E3 rfl;simp! [yc9,i1,i2,w1,m1,E1,E2,m2,E3];rfl
theorem aw4{nm:A4}{xs:List PV}{n:Nat}(nl:nLs xs=AB)(i0:∀st,idxV st (.tp AC (.str nm::xs)) (.int 0)=AA (.str nm))(q1:ye .eq (.str nm) (.str "compare")=AA (.bl AC))(q2:ye .eq (.str nm) (.str "led")=AA (.bl AC))(q4:ye .isin (.str nm) ydC=AA (.bl AC)):yc T 4 yi [.tp AC (.str nm::xs),.int n] []=.ok (.int (n:Int)) []:=by
 have nl:nL (.tp AC (.str nm::xs))=true:=by simp[nL,nLs,nl]
 generalize PV.tp AC (.str nm::xs)=d at *;have hT1:T yi=AA ym:=rfl;have nl2:nLs [d,.int n]=true:=by simp[nLs,nl,nL]
 rw[show (4:Nat)=3+1 from rfl,za hT1 rfl rfl nl2];simp! [ym,i0,q1,q2,q4];rfl
def zoP(sr sm:Bool){e:Int}{n N:Nat}(he:e=(N:Int)-n):yc T 4 yi [yav sr sm e,.int n] []=.ok (.int (N:Int)) []:=by
 have hT1:T yi=AA ym:=rfl;have i0:∀st,idxV st (yav sr sm e) (.int 0)=AA ycD:=λ_=>rfl;have i3:∀st,idxV st (yav sr sm e) (.int 3)=AA (.int e):=λ_=>rfl;have q1:ye .eq ycD (.str "compare")=AA (.bl AC):=by ac_rfl
 have q2:ye .eq ycD ycD=AA (.bl AB):=by ac_rfl
 have nl2:nLs [yav sr sm e,.int n]=true:=by cases sr<;>cases sm<;>rfl
 rw[show (4:Nat)=3+1 from rfl,za hT1 rfl rfl nl2];generalize yav sr sm e=d at *;simp! [ym,i0,i3,q1,q2];rw[show (n:Int)+e=N by lia];rfl
def zrl:((CK 8).all λi=>ydj (dd8 i) [1,2,3,4] (rw8 i))=true:=by decide +kernel
def zrm:([AC,AB].all λu=>[AC,AB].all λt=>(CK 21).all λs=>ydj (ycb u t s) [1,2,3,4] (shR u t s))=true:=by decide +kernel
def zrn:([AC,AB].all λa=>[AC,AB].all λb=>(CK 8).all λj=>ydj (yav a b ((j:Int)-3)) ([1,2,3,4].filter λn=>decide (4<=n+j)) λn=>ycp a b n (n+j-3))=true:=by decide +kernel
theorem in4{n:Nat}(hn:1<=n)(hn2:n<=4):n∈[1,2,3,4]:=by
 erw[BB,D2,or_false];lia
section
variable (k:Nat){w n:Nat}(hw:4<=w)(hw2:w<=16)(hn:1<=n)(hn2:n<=4){x y:Int}(x0:0<=x)(x1:x<2^(w*n))(y0:0<=y)(y1:y<2^(w*n))(st:SO)
include hw hw2 hn hn2 x0 x1 y0 y1
theorem so8{i:Nat}(hi:i<8){tv:PV}(H:Tel (dd8 i) [1,2,3,4] (rw8 i) tv)(hy:pr8 i=AC->y=0):yc T (k+10) yy [tv,dd8 i,.int w,.int n,.int x,.int y] st=.ok (.bl AB) st:=by
 have hp:(2:Int)^(w*n)=(2^w:Int)^n:=Bg;have X1:x<(2^w:Int)^n:=by rw[<-hp];exact x1
 have Y1:y<(2^w:Int)^n:=by rw[<-hp];exact y1
 have hK:1<=w*n:=by have:=BK hw hn;lia
 have hK2:w*n<=64:=BK hw2 hn2;have qq:ye .isin (.str (nm8 i)) yz=AA (.bl AC):=by
  rcases (by lia:i=0 \/ i=1 \/ i=2 \/ i=3 \/ i=4 \/ i=5 \/ i=6 \/ i=7)with rfl|rfl|rfl|rfl|rfl|rfl|rfl|rfl<;>ac_rfl
 have ip:pr8 i=AB->yc T 4 yhA [dd8 i] []=.ok (.bl AB) []:=λh=>by
  rcases (by lia:i=0 \/ i=1 \/ i=2 \/ i=3 \/ i=4 \/ i=5 \/ i=6 \/ i=7)with rfl|rfl|rfl|rfl|rfl|rfl|rfl|rfl<;>first|(exact zfw (by decide +kernel))|(exact absurd h ⋯)
 have hpr:y≠0->pr8 i=true:=λh=>by
  cases e:pr8 i with
  |true=>rfl
  |false=>exact absurd (hy e) h
 by_cases h3:i=3
 .subst h3;have D:Dd (pr8 3=AB) (dd8 3) (nm8 3):=⟨rfl,λ_=>ix0,H.isd,ip,qq⟩;obtain⟨m,rfl⟩:∃m,n=m+1:=⟨n-1,by lia⟩;let⟨m1,m2,m3,m4⟩:=ziU (w:=w) ∅ x0 X1 y0 Y1;rw[<-hp]at m2;exact zgy k H rfl (N:=0) ∅ hw2 (in4 hn hn2) ∅ ∅ rfl m1 m2 m3 m4 (λst=>zrc (k+8) rfl (by ac_rfl) (zcP w (m+1) ∅) (λst=>zeW (k+3) D hw2 ∅ x0 x1 y0 y1 hpr st) (λst=>compared (k+6) hK hK2 x0 x1 y0 y1 st) st) st
 .have q1:ye .eq (.str (nm8 i)) (.str "compare")=AA (.bl AC)/\ye .eq (.str (nm8 i)) (.str "led")=AA (.bl AC)/\ye .isin (.str (nm8 i)) ydC=AA (.bl AC):=by
   rcases (by lia:i=0 \/ i=1 \/ i=2 \/ i=4 \/ i=5 \/ i=6 \/ i=7)with rfl|rfl|rfl|rfl|rfl|rfl|rfl<;>exact⟨by ac_rfl,by ac_rfl,by ac_rfl⟩
  have D:Dd (pr8 i=AB) (dd8 i) (nm8 i):=⟨rfl,λ_=>ix0,H.isd,ip,qq⟩;have E1:=λt=>zrb (k+4) hi h3 hw hw2 hn hn2 x0 X1 y0 Y1 t;let⟨v1,v2,v3⟩:=zoV hi h3 (K:=w*n) x0 x1 y0 y1;have E:=λt=>zk9 (k+3) D (aw4 rfl (λ_=>ix0) q1.1 q1.2.1 q1.2.2) q1.1 hw hw2 hn2 hn ∅ x0 x1 y0 y1 hpr v1 E1 t;obtain⟨m,rfl⟩:∃m,n=m+1:=⟨n-1,by lia⟩;let⟨m1,m2,m3,m4,m5⟩:=zra hi h3 hw x0 X1 y0 Y1;rw[<-hp]at m1 m2 m3 m4 m5 E;exact zgy k H rfl ∅ hw2 (in4 hn hn2) ∅ ∅ m1 m2 m3 m4 m5 E st
omit y0 y1 in
theorem soS(up top:Bool){s:Nat}(hs:s<=20){tv:PV}(H:Tel (ycb up top s) [1,2,3,4] (shR up top s) tv):yc T (k+10) yy [tv,ycb up top s,.int w,.int n,.int x,.int 0] st=.ok (.bl AB) st:=by
 have hP0:(0:Int)<2^(w*n):=A1 ⋯;have q:ye .isin (.str (nmS up top)) yz=AA (.bl AC)/\ye .eq (.str (nmS up top)) (.str "compare")=AA (.bl AC)/\ye .eq (.str (nmS up top)) (.str "led")=AA (.bl AC)/\ye .isin (.str (nmS up top)) ydC=AA (.bl AC)/\ye .isin (.str (nmS up top)) yc5=AA (.bl AB):=by
  cases up<;>cases top<;>exact⟨by ac_rfl,by ac_rfl,by ac_rfl,by ac_rfl,by ac_rfl⟩
 have D:Dd False (ycb up top s) (nmS up top):=⟨rfl,λ_=>ix0,H.isd,Bk,q.1⟩;let⟨f,hf,ef⟩:=zrj (k+5) up top (s:=s) ∅ hw hw2 hn hn2 x0 x1;have E1:=λt=>zrk (k+7) (w:=(w:Int)) (n:=(n:Int)) rfl q.2.2.1 q.2.2.2.2 hf (zcP w n ∅) ef t;have E:=λt=>zk9 (k+3) D (aw4 (xs:=[.int (s:Int)]) rfl (λ_=>ix0) q.2.1 q.2.2.1 q.2.2.2.1) q.2.1 hw hw2 hn2 hn ∅ x0 x1 (FW 0) hP0 (λh=>absurd rfl h) rfl E1 t;obtain⟨m,rfl⟩:∃m,n=m+1:=⟨n-1,by lia⟩;let⟨m1,m2,m3,m4,m5⟩:=zri up top (s:=s) (w:=w) (n:=m) ∅ x0 x1;exact zgy k H rfl ∅ hw2 (in4 hn hn2) ∅ ∅ m1 m2 m3 m4 m5 E st
omit y0 y1 in
theorem soL(sr sm:Bool){e:Int}{N:Nat}(he:e=(N:Int)-n)(hN:1<=N)(hN2:N<=8){ns:List Nat}{f:Nat->List Rw}(hns:n∈ns)(hf:f n=ycp sr sm n N){tv:PV}(H:Tel (yav sr sm e) ns f tv):yc T (k+10) yy [tv,yav sr sm e,.int w,.int n,.int x,.int 0] st=.ok (.bl AB) st:=by
 have hP0:(0:Int)<2^(w*n):=A1 ⋯;have hQ0:(0:Int)<2^(w*N):=A1 ⋯;have hK:1<=w*n:=by have:=BK hw hn;lia
 have hK2:w*n<=64:=BK hw2 hn2;have hQ:1<=w*N:=by have:=BK hw hN;lia
 have hQ2:w*N<=128:=BK hw2 hN2;have nd:nL (yav sr sm e)=true:=by cases sr<;>cases sm<;>rfl
 have D:Dd False (yav sr sm e) (A2 "led"):=⟨nd,λ_=>rfl,H.isd,Bk,by ac_rfl⟩;have nl2:nLs [yav sr sm e,.int (n:Int)]=true:=by simp[nLs,nd,nL]
 have E2:=λs=>upL (k:=k+2) (f:=yi) (fn:=ym) rfl rfl rfl nl2 (zoP sr sm he) s;rw[show 3+1+(k+2)=k+6 by lia]at E2;have i1:∀st,idxV st (yav sr sm e) (.int 1)=AA (.str (ycs sr)):=λ_=>rfl;have i2:∀st,idxV st (yav sr sm e) (.int 2)=AA (.str (ycs sm)):=λ_=>rfl;have i0:∀st,idxV st (yav sr sm e) (.int 0)=AA ycD:=λ_=>rfl;obtain⟨X,hX⟩:∃X,X=xrd sr (2^(w*n)) x:=⟨_,rfl⟩;have eL:∀s,yc T (k+7) yhG [yav sr sm e,.int w,.int n,.int x] s=.ok (.tp AC [.int X,.int 0,.int (ovr sm (2^(w*N)) X)]) s:=λs=>
  zmW (k+6) (x:=x) s nd (X:=X) (g:=if sm=AB then yaP (2^(w*N)) X else decide (0<=X)&&decide (X<2^(w*N))) i1 i2 (zcP w n ∅) (λhs=>by rw[hX,hs];rfl) (λhs s=>by rw[hX,hs];exact zu (k+5) hK hK2 x0 x1 s) E2
   (zcP w N ∅) (λhs s=>by rw[hs];exact zkw (k+5) hQ ∅ X s) (λhs=>⟨_,zdj,by
    rw[hs];show (X/2^(w*N)==0)=(decide (0<=X)&&decide (X<2^(w*N)))
    by_cases g:0<=X/\X<2^(w*N)
    .rw[decide_eq_true g.1,decide_eq_true g.2,Aq g.1 g.2];rfl
    .have:X/2^(w*N)≠0:=λz=>g (by
      have e1:=BJ X (2^(w*N));have e2:=As X (show (2:Int)^(w*N)≠0 by lia);have e3:=Aj X hQ0;rw[z,HP]at e1;lia)
     rw[beq_eq_false_iff_ne.2 this]
     by_cases g1:0<=X
     .rw[decide_eq_true g1,decide_eq_false (λh=>g ⟨g1,h⟩)];rfl
     .rw[decide_eq_false g1];rfl⟩)
 have hTr:T yl=AA ⟨5,6,AB,yX.body⟩:=rfl;have E1:∀s,yc T (k+8) yl [yav sr sm e,.int w,.int n,.int x,.int 0] s=.ok (.tp AC [.int X,.int 0,.int (ovr sm (2^(w*N)) X)]) s:=λs=>by
  have q2:ye .eq ycD ycD=AA (.bl AB):=by ac_rfl
  rw[show k+8=k+7+1 by lia,za hTr rfl rfl (by simp[nLs,nL,nd])];dsimp only;generalize yav sr sm e=d,ovr sm (2^(w*N)) X=o at *;simp! [yX,i0,q2,eL];rfl
 have E:=λt=>zk9 (k+3) D (zoP sr sm he) (by ac_rfl) hw hw2 hn2 hN hN2 x0 x1 (FW 0) hP0 (λh=>absurd rfl h) rfl E1 t;subst hX;obtain⟨n,rfl⟩:∃m,n=m+1:=⟨n-1,by lia⟩;obtain⟨N,rfl⟩:∃m,N=m+1:=⟨N-1,by lia⟩;have hp:(2:Int)^(w*(n+1))=(2^w:Int)^(n+1):=Bg;have hpN:(2:Int)^(w*(N+1))=(2^w:Int)^(N+1):=Bg;have mm:=zj5 (w:=w) ∅ sr sm (n:=n) (N:=N) (x:=x) x0 (by rw[<-hp];exact x1) rfl;rw[<-hp,<-hpN]at mm;let⟨m1,m2,m3,m4,m5⟩:=mm;rw[<-hf]at m1 m2 m3 m4 m5;exact zgy k H nd ∅ hw2 hns ∅ hN2 m1 m2 m3 m4 m5 E st
end
def Drw(ns:List Int)(n:Nat)(st:SO):Prop:=∃a p f,0<=a/\st[n]?=AA (.lst [.lst (ns.map .int),.int a,.int p,.bl f])
def Onl(ns:List Int)(n:Nat)(st st':SO):Prop:=∃a p f,0<=a/\st'=st.set n (.lst [.lst (ns.map .int),.int a,.int p,.bl f])
theorem Onl.drw{ns:List Int}{n:Nat}{st st':SO}(h:Drw ns n st)(o:Onl ns n st st'):Drw ns n st':=by
 let⟨a,p,f,ha,h⟩:=h;let⟨b,q,g,hb,rfl⟩:=o;exact⟨b,q,g,hb,rdS h⟩
theorem Onl.trans{ns:List Int}{n:Nat}{st st1 st2:SO}(o:Onl ns n st st1)(o2:Onl ns n st1 st2):Onl ns n st st2:=by
 let⟨b,q,g,hb,rfl⟩:=o;let⟨c,r,j,hc,rfl⟩:=o2;exact⟨c,r,j,hc,by rw[CD]⟩
def zei(k:Nat){n:Nat}{ns:List Int}(hns:ns.length<=1000){m:Int}(hm:0<m)(hm2:m<10000000000000000000000000000000000000000000000000000000000000000000000){st:SO}(h:Drw ns n st):
  ∃d st',0<=d/\d<m/\Onl ns n st st'/\yc T (k+3) yhJ [.loc n,.int m] st=.ok (.int d) st':=by
 let⟨a,p,f,ha,h⟩:=h;let⟨d,a',p',f',h1,h2,h3,h4⟩:=take k n ns hns a p m ha hm hm2 f st h;exact⟨d,_,h1,h2,⟨_,_,_,h3,rfl⟩,h4⟩
theorem sizes(k:Nat){n:Nat}{ns:List Int}(hns:ns.length<=1000){m:Int}(hm:0<m)(hm2:m<=100){st:SO}(h:Drw ns n st):
  ∃w z st',4<=w/\w<=16/\1<=z/\z<=m/\Onl ns n st st'/\yc T (k+4) yhK [.loc n,.int m] st=.ok (.tup [.int w,.int z]) st':=by
 let⟨d,s1,d1,d2,o1,e1⟩:=zei k hns (m:=13) ∅ ∅ h;let⟨e,s2,d3,d4,o2,e2⟩:=zei k hns (m:=m) hm ∅ (o1.drw h);refine⟨4+d,1+e,s2,by lia,by lia,by lia,by lia,o1.trans o2,?_⟩;have hT:T yhK=AA ygj:=rfl;rw[yc,hT];simp! [ygj,yaB,R.fl,R.bind,e1,e2,yC,binI,toR];simp[sizeMax]
theorem fresh(k:Nat)(ns:List Int)(h:ns.length<=63)(st:SO):∃v,yc T (k+1) yhH [.scr (ns.map .int)] st=.ok (.loc st.length) (st++[v])/\v=.lst [.lst (ns.map .int),.int 0,.int 0,.bl AC]:=by
 have hT:T yhH=AA ygh:=rfl;refine⟨_,?_,rfl⟩;rw[yc,hT];simp! [ygh,yaB,ev,R.fl,R.bind,toR];have hc:yco (.scr (ns.map PV.int)) AD (.int 63)=AA (.lst (ns.map .int)):=by
  have hk:yaZ ns.length 63=ns.length:=by
   show min 63 ns.length=ns.length;lia
  simp[yco,yaV,ycm,cut,ycw,ycY,hk]
  try rw[<-BN (f:=PV.int),GY]
 simp[yaV,onP,hc,sizeMax]
theorem dbl{call:Cl}{i j:Nat}(hij:i≠j):∀(N:Nat) (a:Int) (ρ:IC.Env) (v:Int) (st:SO),ρ[i]?=AA (AA (.int v)) ->
  ∃u,yaY call (.n j) (.cons (.asg (.n i) (.bin .mul (.cst (.int 2)) (.var i))) .nil) (yo N a 1) ρ st=.nx ((ρ.set i (AA (.int (2^N*v)))).set j u) st/\(N=0->ρ[j]?=AA u \/ ρ.length<=j)
 |0,a,ρ,v,st,h=>by
  have hi:ρ.set i (AA (.int v))=ρ:=by
   refine EU λz=>?_;rw[Ci];split
   .rename_i e;subst e;split
    .exact h.symm
    .rw[B4 ∅]at h
     cases h
   .rfl
  rcases Ct j ρ.length with hj|hj
  .refine⟨ρ[j],?_,λ_=>.inl (DA hj)⟩;rw[yo,zx,Bq,BQ,hi,List.set_getElem_self]
  .refine⟨AD,?_,λ_=>.inr hj⟩;rw[yo,zx,Bq,BQ,hi,List.set_eq_of_length_le hj]
 |N+1,a,ρ,v,st,h=>by
  have h1:(ρ.set j (AA (.int a)))[i]?=AA (AA (.int v)):=by
   rw[Ah (Bf hij)];exact h
  have hil:i<ρ.length:=by
   rcases Ct i ρ.length with z|z
   .exact z
   .rw[B4 z]at h;cases h
  have h2:exs call (ρ.set j (AA (.int a))) st (.cons (.asg (.n i) (.bin .mul (.cst (.int 2)) (.var i))) .nil)=.nx ((ρ.set j (AA (.int a))).set i (AA (.int (2*v)))) st:=by
   erw[xs_nil,xs_cons,x_asg,yaB,nxO,IC.ve1,IC.ve2,IC.ve3,R.bind,R.fl,h1,yP,yC,binI,yaK,toR];simp
  let⟨u,h3,_⟩:=dbl (call:=call) hij N (a+1) ((ρ.set j (AA (.int a))).set i (AA (.int (2*v)))) (2*v) st (by rw[Ai (by rw[Ba];exact hil)]);refine⟨u,?_,λz=>by cases z⟩;rw[yo,zk (ρ1:=ρ.set j (AA (.int a))) rfl,h2];show yaY call _ _ _ _ _=_;rw[h3,CD,Gq _ _ (Bf hij),CD,Ab,BH]
def zd1(K:Nat):(0:Int)<2^K:=A1 ∅
def yI:Css:=match yaa.body with
 |.cons _ (.cons _ (.cons _ r))=>r
 |_=>.nil
def wT2:Css:=match yI with
 |.cons _ (.cons _ (r))=>r
 |_=>.nil
theorem wE2:yI=(match yI with
 |.cons q0 (.cons q1 (_))=>.cons q0 (.cons q1 (wT2))
 |_=>.nil):=rfl
def wT4:Css:=match yI with
 |.cons _ (.cons _ (.cons _ (.cons _ (r))))=>r
 |_=>.nil
theorem wE4:yI=(match yI with
 |.cons q0 (.cons q1 (.cons q2 (.cons q3 (_))))=>.cons q0 (.cons q1 (.cons q2 (.cons q3 (wT4))))
 |_=>.nil):=rfl
def wT5:Css:=match yI with
 |.cons _ (.cons _ (.cons _ (.cons _ (.cons _ (r)))))=>r
 |_=>.nil
theorem wE5:yI=(match yI with
 |.cons q0 (.cons q1 (.cons q2 (.cons q3 (.cons q4 (_)))))=>.cons q0 (.cons q1 (.cons q2 (.cons q3 (.cons q4 (wT5)))))
 |_=>.nil):=rfl
def wT6:Css:=match yI with
 |.cons _ (.cons _ (.cons _ (.cons _ (.cons _ (.cons _ (r))))))=>r
 |_=>.nil
theorem wE6:yI=(match yI with
 |.cons q0 (.cons q1 (.cons q2 (.cons q3 (.cons q4 (.cons q5 (_))))))=>.cons q0 (.cons q1 (.cons q2 (.cons q3 (.cons q4 (.cons q5 (wT6))))))
 |_=>.nil):=rfl
def zhP{c:Cl}{n:Nat}{w z kd m:Int}{u5 u6 u7 u8 u9 u10 u11 u12:Option PV}{st:SO}(h0:0<=kd)(h6:kd<6)(hm:16<=m):
  ∃x,0<=x/\x<m/\exs c [AA (.loc n),AA (.int w),AA (.int z),AA (.int kd),AA (.int m),u5,u6,u7,u8,u9,u10,u11,u12] st yI=.rt (.int x) st:=by
 obtain⟨x,x0,x1,hv⟩:∃x:Int,0<=x/\x<m/\∀st,idxV st (.tup [.int 0,.int 1,.int (m-1),.int (m/2),.int (m/2-1),.int (m-2)]) (.int kd)=AA (.int x):=by
  rcases (by lia:kd=0 \/ kd=1 \/ kd=2 \/ kd=3 \/ kd=4 \/ kd=5)with rfl|rfl|rfl|rfl|rfl|rfl
  .exact⟨0,by lia,by lia,λ_=>rfl⟩
  .exact⟨1,by lia,by lia,λ_=>rfl⟩
  .exact⟨m-1,by lia,by lia,λ_=>rfl⟩
  .exact⟨m/2,by lia,by lia,λ_=>rfl⟩
  .exact⟨m/2-1,by lia,by lia,λ_=>rfl⟩
  .exact⟨m-2,by lia,by lia,λ_=>rfl⟩
 refine⟨x,x0,x1,?_⟩;rw[wE2];erw[yI,yaa,AL,AN,AU,AY,if_true,xs_cons,xs_nil,x_asg,x_ite,x_ret,IC.ve1,IC.ve2,IC.ve3,IC.ve8,IC.ve11,IC.ve16,IC.ve18,evs,AF,AE,bd_ok,fl_ok,toR_some,bT_n,nxO_some,th_nx,th_rt,AQ,AR,t_bl,on_t,sizeMax,BG,b_sub,b_div2,c_lt,c_eq,c_gt,cond_true,cond_false,hv,h6,decide_true]
def zjN(k:Nat){n:Nat}{ns:List Int}(hns:ns.length<=1000){w z kd m:Int}{u5 u6 u7 u8 u9 u10 u11 u12:Option PV}{st:SO}(h:Drw ns n st)(h9:9<kd)(hm:16<=m)(hm2:m<=18446744073709551616):
  ∃x st',0<=x/\x<m/\Onl ns n st st'/\exs (yc T (k+3)) [AA (.loc n),AA (.int w),AA (.int z),AA (.int kd),AA (.int m),u5,u6,u7,u8,u9,u10,u11,u12] st yI=.rt (.int x) st':=by
 let⟨d,s1,d1,d2,o1,e1⟩:=zei k hns (m:=m) ∅ ∅ h;refine⟨d,s1,d1,d2,o1,?_⟩;have k1:decide (kd<6)=false:=decide_eq_false ∅;have k2:(kd==6)=false:=beq_eq_false_iff_ne.2 ∅;have k3:(kd==7)=false:=beq_eq_false_iff_ne.2 ∅;rw[wE6];erw[yI,yaa,AL,AN,AU,AY,if_true,xs_cons,xs_nil,x_asg,x_ite,x_ret,IC.ve1,IC.ve2,IC.ve3,IC.ve8,IC.ve11,IC.ve16,IC.ve18,evs,AF,AE,bd_ok,fl_ok,toR_some,bT_n,nxO_some,th_nx,th_rt,AQ,AR,t_bl,on_t,sizeMax,BG,b_sub,b_div2,c_lt,c_eq,c_gt,cond_true,cond_false,e1,h9,decide_true,k1,k2,k3]
def zhn(k:Nat){n:Nat}{ns:List Int}(hns:ns.length<=1000){w z kd m:Int}{u5 u6 u7 u8 u9 u10 u11 u12:Option PV}{st:SO}(h:Drw ns n st)(hk:kd=6 \/ kd=7)(hw:4<=w)(hw2:w<=16)(hz:1<=z)(hz2:z<=4)(hm:m=2^(w*z).toNat):
  ∃x st',0<=x/\x<m/\Onl ns n st st'/\exs (yc T (k+3)) [AA (.loc n),AA (.int w),AA (.int z),AA (.int kd),AA (.int m),u5,u6,u7,u8,u9,u10,u11,u12] st yI=.rt (.int x) st':=by
 have hwz:4<=w*z:=by
  have:=Gn hw hz ∅ ∅;lia
 have hwz2:w*z<=64:=by
  have:=Gn hw2 hz2 ∅ ∅;lia
 have hm1:0<m:=hm ▸ zd1 _;have hm2:m<=18446744073709551616:=by
  have h64:(2:Nat)^(w*z).toNat<=2^64:=Ac ∅ ∅;have h65:((2^(w*z).toNat:Nat):Int)=2^(w*z).toNat:=by simp
  rw[hm,<-h65];lia
 let⟨d,s1,d1,d2,o1,e1⟩:=zei k hns (m:=m) ∅ ∅ h;let⟨e,s2,d3,d4,o2,e2⟩:=zei k hns (m:=w*z) ∅ ∅ (o1.drw h);have hj:(2:Int)^e.toNat<m:=by
  rw[hm];exact Int.pow_lt_pow_of_lt ∅ ∅
 have hj1:=zd1 e.toNat;have hj2:(2:Int)^e.toNat<10000000000000000000000000000000000000000000000000000000000000000000000:=by lia
 have hj3:((2:Int)^e.toNat).natAbs<18446744073709551616:=by lia
 have hj4:(2:Nat)^e.toNat<18446744073709551616:=by
  have h65:((2^e.toNat:Nat):Int)=2^e.toNat:=by simp
  lia
 have hwa:w.natAbs<18446744073709551616:=by lia
 have hea:e.natAbs<1000000000:=by lia
 have hr:ybu (.int e)=AA (yo e.toNat 0 1):=by erw[ybu,hea,if_true]
 have q1:=zai (i:=d) hj1 ∅;have q2:yC .mul (.int (d/2^e.toNat)) (.int (2^e.toNat))=AA (.int (d/2^e.toNat*2^e.toNat)):=zy hj3;have q3:yC .mul (.int w) (.int z)=AA (.int (w*z)):=zaF hwa
 clear hj2 hj4 hea hwa hj3 hwz hwz2
 rcases hk with rfl|rfl
 .let⟨u,hd,_⟩:=dbl (call:=yc T (k+3)) (i:=8) (j:=5) ∅ e.toNat 0 [AA (.loc n),AA (.int w),AA (.int z),AA (.int 6),AA (.int m),u5,AA (.tup [.int 0,.int 1,.int (m-1),.int (m/2),.int (m/2-1),.int (m-2)]),AA (.int d),AA (.int 1),u9,u10,u11,u12] 1 s2 rfl;refine⟨d/2^e.toNat*2^e.toNat,s2,C5 (Bb d1 ∅) ∅,GA (Int.ediv_mul_le d ∅) d2,o1.trans o2,?_⟩;have k1:decide ((6:Int)<6)=false:=rfl;have k2:((6:Int)==6)=true:=rfl;rw[C6]at hd;rw[wE4];generalize wT4=F,(2:Int)^e.toNat=P at *;erw[IC.PV.tup]at hd;simp! [yI,yaa,e1,k1,k2,q3,e2,hr,hd,q1,q2]
 .let⟨u,hd,_⟩:=dbl (call:=yc T (k+3)) (i:=8) (j:=5) ∅ e.toNat 0 [AA (.loc n),AA (.int w),AA (.int z),AA (.int 7),AA (.int m),u5,AA (.tup [.int 0,.int 1,.int (m-1),.int (m/2),.int (m/2-1),.int (m-2)]),AA (.int d),AA (.int 1),u9,u10,u11,u12] 1 s2 rfl;refine⟨m-2^e.toNat,s2,by lia,by lia,o1.trans o2,?_⟩;have k1:decide ((7:Int)<6)=false:=rfl;have k2:((7:Int)==6)=false:=rfl;have k3:((7:Int)==7)=true:=rfl;rw[C6]at hd;rw[wE5];generalize wT5=F,(2:Int)^e.toNat=P at *;erw[IC.PV.tup]at hd;simp! [yI,yaa,e1,k1,k2,k3,q3,e2,hr,hd]
theorem Drw.refl{ns:List Int}{n:Nat}{st:SO}(h:Drw ns n st):Onl ns n st st:=by
 let⟨a,p,f,ha,h⟩:=h;exact⟨a,p,f,ha,zgO h⟩
def ybK:Css:=match yI with
 |.cons _ (.cons _ (.cons _ (.cons _ (.cons _ (.cons _ (.cons _ (.cons _ (.cons _ (.cons (.for _ _ b) _)))))))))=>b
 |_=>.nil
def zhj(k:Nat){n:Nat}{ns:List Int}(hns:ns.length<=1000){p1 p2 p3 p4 p6 p8 u11 u12:Option PV}{d W acc a:Int}{st:SO}(h:Drw ns n st)(ha:0<=a)(ha2:a<1000)(hW:4<=W)(hW2:W<18446744073709551616):
  ∃e st' v11 v12,0<=e/\e<W/\Onl ns n st st'/\exs (yc T (k+3)) [AA (.loc n),p1,p2,p3,p4,AA (.int a),p6,AA (.int d),p8,AA (.int W),AA (.int acc),u11,u12] st ybK=.nx [AA (.loc n),p1,p2,p3,p4,AA (.int a),p6,AA (.int d),p8,AA (.int W),AA (.int (acc*W+e)),v11,v12] st':=by
 let⟨t,s1,d1,d2,o1,e1⟩:=zei k hns (m:=5) ∅ ∅ h;have hW0:0<W:=by lia
 have hWm:W.natAbs<18446744073709551616:=by lia
 have ha3:0<a+1:=by lia
 have ha4:a+1<18446744073709551616*18446744073709551616:=by lia
 have q0:=As (d/(a+1)) (show W≠0 by lia);have q1:=Aj (d/(a+1)) hW0;obtain⟨e,x0,x1,hv⟩:∃e:Int,0<=e/\e<W/\∀st,idxV st (.tp AC [.int 0,.int 1,.int (W-1),.int (W/2),.int (d/(a+1)%W)]) (.int t)=AA (.int e):=by
  rcases (by lia:t=0 \/ t=1 \/ t=2 \/ t=3 \/ t=4)with rfl|rfl|rfl|rfl|rfl
  .exact⟨0,by lia,by lia,λ_=>rfl⟩
  .exact⟨1,by lia,by lia,λ_=>rfl⟩
  .exact⟨W-1,by lia,by lia,λ_=>rfl⟩
  .exact⟨W/2,by lia,by lia,λ_=>rfl⟩
  .exact⟨d/(a+1)%W,q0,q1,λ_=>rfl⟩
 refine⟨e,s1,AA (.int (d/(a+1)%W)),AA (.tp AC [.int 0,.int 1,.int (W-1),.int (W/2),.int (d/(a+1)%W)]),x0,x1,o1,?_⟩;simp! [ybK,yI,yaa,zai ha3 ha4,z8 hW0,zy hWm,e1,hv]
def zdy(k:Nat){n:Nat}{ns:List Int}(hns:ns.length<=1000){p1 p2 p3 p4 p6 p8:Option PV}{d W:Int}(hW:4<=W)(hW2:W<18446744073709551616):∀(r i:Nat) (a acc:Int) (u5 u11 u12:Option PV) (st:SO),0<=a->a+r<1000->0<=acc->acc<W^i->Drw ns n st ->
  ∃acc' st' v5 v11 v12,0<=acc'/\acc' < W^(i+r)/\Onl ns n st st'/\yaY (yc T (k+3)) (.n 5) ybK (yo r a 1) [AA (.loc n),p1,p2,p3,p4,u5,p6,AA (.int d),p8,AA (.int W),AA (.int acc),u11,u12] st=.nx [AA (.loc n),p1,p2,p3,p4,v5,p6,AA (.int d),p8,AA (.int W),AA (.int acc'),v11,v12] st'
 |0,i,a,acc,u5,u11,u12,st,_,_,h0,h1,h=>⟨acc,st,u5,u11,u12,h0,h1,h.refl,by rw[yo,zx]⟩
 |r+1,i,a,acc,u5,u11,u12,st,ha,hr,h0,h1,h=>by
  let⟨e,s1,v11,v12,e0,e1,o1,hs⟩:=zhj k hns (p1:=p1) (p2:=p2) (p3:=p3) (p4:=p4) (p6:=p6) (p8:=p8) (u11:=u11) (u12:=u12) (d:=d) (acc:=acc) h ha ∅ hW hW2;have hb:acc*W+e<W^(i+1):=by
   have:=BY (show acc<=W^i-1 by lia) (show 0<=W by lia);rw[CG,BQ]at this;rw[Ab];lia
  have hb0:0<=acc*W:=C5 h0 ∅;let⟨acc',s2,w5,w11,w12,f0,f1,o2,hf⟩:=zdy k hns (p1:=p1) (p2:=p2) (p3:=p3) (p4:=p4) (p6:=p6) (p8:=p8) (d:=d) hW hW2 r (i+1) (a+1) (acc*W+e) (AA (.int a)) v11 v12 s1 ∅ ∅ ∅ hb (o1.drw h);refine⟨acc',s2,w5,w11,w12,f0,by rw[show i+(r+1)=i+1+r by lia];exact f1,o1.trans o2,?_⟩;rw[yo,zk (ρ1:=[AA (.loc n),p1,p2,p3,p4,AA (.int a),p6,AA (.int d),p8,AA (.int W),AA (.int acc),u11,u12]) rfl,hs];exact hf
def zfF(k:Nat){n:Nat}{ns:List Int}(hns:ns.length<=1000){w z:Nat}{kd m:Int}{u5 u6 u7 u8 u9 u10 u11 u12:Option PV}{st:SO}(h:Drw ns n st)(hk:kd=8 \/ kd=9)(hw:4<=w)(hw2:w<=16)(hz:1<=z)(hz2:z<=4)(hm:m=2^(w*z)):
  ∃x st',0<=x/\x<m/\Onl ns n st st'/\exs (yc T (k+3)) [AA (.loc n),AA (.int w),AA (.int z),AA (.int kd),AA (.int m),u5,u6,u7,u8,u9,u10,u11,u12] st yI=.rt (.int x) st':=by
 have hwz2:w*z<=64:=BK hw2 hz2;have hm1:0<m:=hm ▸ zd1 _;have hm2:m<=18446744073709551616:=by
  have h64:(2:Nat)^(w*z)<=2^64:=Ac ∅ hwz2;rw[hm,<-pw];lia
 let⟨d,s1,d1,d2,o1,e1⟩:=zei k hns (m:=m) ∅ ∅ h;have hW4:(4:Int)<=2^w:=by
  have h:(2:Nat)^2<=2^w:=Ac ∅ ∅;have h2:=pw w;lia
 have hWl:(2:Int)^w<18446744073709551616:=by
  have h:(2:Nat)^w<=2^16:=Ac ∅ hw2;have h2:=pw w;lia
 have r1:ybu (.int (w:Int))=AA (yo w 0 1):=zbq w ∅;have r2:ybu (.int (z:Int))=AA (yo z 0 1):=zbq z ∅;have k1:¬kd<6:=by lia
 have k2:(kd==6)=false:=by simp;lia
 have k3:(kd==7)=false:=by simp;lia
 have k4:¬9<kd:=by lia
 let⟨u,hd,_⟩:=dbl (call:=yc T (k+3)) (i:=9) (j:=5) ∅ w 0 [AA (.loc n),AA (.int w),AA (.int z),AA (.int kd),AA (.int m),u5,AA (.tup [.int 0,.int 1,.int (m-1),.int (m/2),.int (m/2-1),.int (m-2)]),AA (.int d),u8,AA (.int 1),u10,u11,u12] 1 s1 rfl;erw[AQ,AR,C6]at hd;let⟨acc',s2,w5,w11,w12,f0,f1,o2,hf⟩:=zdy k hns (p1:=AA (.int w)) (p2:=AA (.int z)) (p3:=AA (.int kd)) (p4:=AA (.int m)) (p6:=AA (.tup [.int 0,.int 1,.int (m-1),.int (m/2),.int (m/2-1),.int (m-2)])) (p8:=u8) (d:=d) (W:=2^w) hW4 hWl z 0 0 0 u u11 u12 s1 ∅ ∅ ∅ (by simp) (o1.drw h);rw[AU,<-Bg,<-hm]at f1;refine⟨acc',s2,f0,f1,o1.trans o2,?_⟩
 have hR:yI=.cons (.asg (.n 6) (.tup (.cons (.cst (.int 0)) (.cons (.cst (.int 1)) (.cons (.bin .sub (.var 4) (.cst (.int 1))) (.cons (.bin .fdiv (.var 4) (.cst (.int 2))) (.cons (.bin .sub (.bin .fdiv (.var 4) (.cst (.int 2))) (.cst (.int 1))) (.cons (.bin .sub (.var 4) (.cst (.int 2))) .nil)))))))) (match yI with
  |.cons _ (.cons a (.cons b (.cons c (.cons d (.cons e (.cons f (.cons g (.cons h (.cons (.for t i _) r)))))))))=>.cons a (.cons b (.cons c (.cons d (.cons e (.cons f (.cons g (.cons h (.cons (.for t i ybK) r))))))))
  |_=>.nil):=rfl
 rw[hR];simp! [yI,yaa,r1,r2,k1,k2,k3,k4,decide_false,e1,hd,hf]
theorem worth(k:Nat){n:Nat}{ns:List Int}(hns:ns.length<=1000)(w z:Nat)(hw:4<=w)(hw2:w<=16)(hz:1<=z)(hz2:z<=4){st:SO}(h:Drw ns n st):
  ∃x st',0<=x/\x<2^(w*z)/\Onl ns n st st'/\yc T (k+4) yhr [.loc n,.int w,.int z] st=.ok (.int x) st':=by
 let⟨kd,s1,d1,d2,o1,e1⟩:=zei k hns (m:=12) ∅ ∅ h;have h1:=o1.drw h;have hwz2:w*z<=64:=BK hw2 hz2;have hwz:4<=w*z:=BK hw hz;have hm:(16:Int)<=2^(w*z):=by
  have h:(2:Nat)^4<=2^(w*z):=Ac ∅ hwz;have h2:=pw (w*z);lia
 have hm2:(2:Int)^(w*z)<=18446744073709551616:=by
  have h:(2:Nat)^(w*z)<=2^64:=Ac ∅ hwz2;have h2:=pw (w*z);lia
 have hwa:(w:Int).natAbs<18446744073709551616:=by lia
 have hwm:(w:Int)*(z:Int)=((w*z:Nat):Int):=by simp
 have r1:ybu (.int ((w*z:Nat):Int))=AA (yo (w*z) 0 1):=zbq _ ∅;let⟨u,hd,_⟩:=dbl (call:=yc T (k+3)) (i:=4) (j:=5) ∅ (w*z) 0 [AA (.loc n),AA (.int w),AA (.int z),AA (.int kd),AA (.int 1),AD,AD,AD,AD,AD,AD,AD,AD] 1 s1 rfl;erw[AQ,AR,C6]at hd;have key:∃x st',0<=x/\x<2^(w*z)/\Onl ns n s1 st'/\exs (yc T (k+3)) [AA (.loc n),AA (.int w),AA (.int z),AA (.int kd),AA (.int (2^(w*z))),u,AD,AD,AD,AD,AD,AD,AD] s1 yI=.rt (.int x) st':=by
  rcases (by lia:kd<6 \/ (kd=6 \/ kd=7) \/ (kd=8 \/ kd=9) \/ 9<kd)with q|q|q|q
  .let⟨x,a,b,e⟩:=zhP (c:=yc T (k+3)) (n:=n) (w:=w) (z:=z) (st:=s1) (u5:=u) (u6:=AD) (u7:=AD) (u8:=AD) (u9:=AD) (u10:=AD) (u11:=AD) (u12:=AD) d1 q hm;exact⟨x,s1,a,b,h1.refl,e⟩
  .exact zhn k hns h1 q ∅ ∅ ∅ ∅ (by rw[hwm,Bv])
  .exact zfF k hns h1 q hw hw2 hz hz2 rfl
  .exact zjN k hns h1 q hm hm2
 let⟨x,s2,a,b,o2,e2⟩:=key;refine⟨x,s2,a,b,o1.trans o2,?_⟩;have hT:T yhr=AA ⟨3,13,AC,yaa.body⟩:=rfl;have hb:yaa.body=.cons (.asg (.n 3) (.call 70 (.cons (.var 0) (.cons (.cst (.int 12)) .nil)))) (.cons (.asg (.n 4) (.cst (.int 1))) (.cons (.for (.n 5) (.range1 (.bin .mul (.var 1) (.var 2))) (.cons (.asg (.n 4) (.bin .mul (.cst (.int 2)) (.var 4))) .nil)) yI)):=rfl;rw[yc,hT,hb];erw[AL,AN,AU,AY,if_true,A5,if_false,AM,A9,Ak,AS,AT,AW];rw[xs_cons,x_asg];erw[IC.ve18,IC.ve1,IC.ve2,evs,AF,AE,bd_ok,fl_ok,e1,bT_n,nxO_some,th_nx,AQ,AR];rw[xs_cons,x_asg];erw[IC.ve1,bd_ok,fl_ok,bT_n,nxO_some,th_nx,AQ,AR];rw[xs_cons,x_for];erw[evi,IC.ve2,IC.ve3,AF,AE,bd_ok,fl_ok,zaF hwa,hwm,r1,toL,toR_some,hd,th_nx,e2]
structure Fam(d:PV)(more:Int)(tv:PV)(sg:Bool):Prop where
 nd:nL d=AB
 nt:nL tv=AB
 tel:∀st,yc T 25 yhc [d] st=.ok tv st
 ist:∀st,yc T 25 yA [tv] st=.ok (.bl AB) st
 eq:ye .eq tv tv=AA (.bl AB)
 i0:∃nm,(∀st,idxV st d (.int 0)=AA (.str nm))/\ye .notin (.str nm) (.tp AC [.str "sum",.str "difference",.str "compare",.str "both",.str "any",.str "odd"])=AA (.bl sg)
 mo:-3<=more/\more<=4
 so:∀(w n:Nat) (x y:Int) (st:SO),4<=w->w<=16->1<=n->n<=4->1<=(n:Int)+more->0<=x->x<2^(w*n)->0<=y->y<2^(w*n)->(sg=AB->y=0)->yc T 25 yy [tv,d,.int w,.int n,.int x,.int y] st=.ok (.bl AB) st
def znI{d tv:PV}{ns:List Nat}{f:Nat->List Rw}(H:Tel d ns f tv)(nd:nL d=AB){more:Int}{sg:Bool}(i0:∃nm,(∀st,idxV st d (.int 0)=AA (.str nm))/\ye .notin (.str nm) (.tp AC [.str "sum",.str "difference",.str "compare",.str "both",.str "any",.str "odd"])=AA (.bl sg))(mo:-3<=more/\more<=4)
  (so:∀(w n:Nat) (x y:Int) (st:SO),4<=w->w<=16->1<=n->n<=4->1<=(n:Int)+more->0<=x->x<2^(w*n)->0<=y->y<2^(w*n)->(sg=AB->y=0)->yc T 25 yy [tv,d,.int w,.int n,.int x,.int y] st=.ok (.bl AB) st):Fam d more tv sg:=
 ⟨nd,H.nl,λs=>upL (k:=17) (f:=yhc) (fn:=yhw) rfl rfl rfl (by simp[nLs,nd]) H.tel s,λs=>upL (k:=17) (f:=yA) (fn:=yhz) rfl rfl rfl (by simp[nLs,H.nl]) H.ist s,H.eq,i0,mo,so⟩
def zro{i:Nat}(hi:i<8):∃tv,Fam (dd8 i) 0 tv (!pr8 i):=by
 let⟨tv,H⟩:=zfv (BF.1 zrl i (by simp;lia));refine⟨tv,znI H rfl ⟨nm8 i,λ_=>ix0,?_⟩ ∅ (λw n x y st hw hw2 hn hn2 _ x0 x1 y0 y1 hy=>so8 15 hw hw2 hn hn2 x0 x1 y0 y1 st hi H (λh=>hy (by rw[h];rfl)))⟩;rcases (by lia:i=0 \/ i=1 \/ i=2 \/ i=3 \/ i=4 \/ i=5 \/ i=6 \/ i=7)with rfl|rfl|rfl|rfl|rfl|rfl|rfl|rfl<;>ac_rfl
def zrp(up top:Bool){s:Nat}(hs:s<=20):∃tv,Fam (ycb up top s) 0 tv true:=by
 have h:=BF.1 zrm up (by cases up<;>simp);have h:=BF.1 h top (by cases top<;>simp);let⟨tv,H⟩:=zfv (BF.1 h s (by simp;lia));refine⟨tv,znI H rfl ⟨nmS up top,λ_=>ix0,by cases up<;>cases top<;>ac_rfl⟩ ∅ (λw n x y st hw hw2 hn hn2 _ x0 x1 y0 y1 hy=>?_)⟩;rw[hy rfl];exact soS 15 hw hw2 hn hn2 x0 x1 st up top hs H
def zrq(sr sm:Bool){e:Int}(h3:-3<=e)(h4:e<=4):∃tv,Fam (yav sr sm e) e tv true:=by
 obtain⟨j,hj,hj8⟩:∃j:Nat,e=(j:Int)-3/\j<8:=⟨(e+3).toNat,by lia,by lia⟩;have h:=BF.1 zrn sr (by cases sr<;>simp);have h:=BF.1 h sm (by cases sm<;>simp);let⟨tv,H⟩:=zfv (BF.1 h j (by simp;lia));rw[<-hj]at H;refine⟨tv,znI H (by cases sr<;>cases sm<;>rfl) ⟨A2 "led",λ_=>rfl,by ac_rfl⟩ ⟨h3,h4⟩ (λw n x y st hw hw2 hn hn2 hm x0 x1 y0 y1 hy=>?_)⟩;rw[hy rfl];refine soL 15 hw hw2 hn hn2 x0 x1 st sr sm (N:=n+j-3) ∅ ∅ ∅ ?_ rfl H;rw[Ez];exact⟨in4 hn hn2,decide_eq_true ∅⟩
def zrr{i:Nat}(hi:i<8)(st:SO):idxV st (.tp AC [.str "sum",.str "difference",.str "turned",.str "compare",.str "both",.str "any",.str "odd",.str "bare"]) (.int (i:Int))=AA (.str (nm8 i)):=by
 rcases (by lia:i=0 \/ i=1 \/ i=2 \/ i=3 \/ i=4 \/ i=5 \/ i=6 \/ i=7)with rfl|rfl|rfl|rfl|rfl|rfl|rfl|rfl<;>rfl
def zrs{i:Int}(h0:0<=i)(h1:i<4):∃up top,∀st,idxV st (.tp AC [.str "left",.str "right",.str "down",.str "roll"]) (.int i)=AA (.str (nmS up top)):=by
 rcases (by lia:i=0 \/ i=1 \/ i=2 \/ i=3)with rfl|rfl|rfl|rfl
 .exact⟨AB,AC,λ_=>rfl⟩
 .exact⟨AC,AC,λ_=>rfl⟩
 .exact⟨AC,AB,λ_=>rfl⟩
 .exact⟨AB,AB,λ_=>rfl⟩
def zjJ{i:Int}(h0:0<=i)(h1:i<2):∃b,∀st,idxV st (.tp AC [.str "plain",.str "signed"]) (.int i)=AA (.str (ycs b)):=by
 rcases (by lia:i=0 \/ i=1)with rfl|rfl
 .exact⟨AC,λ_=>rfl⟩
 .exact⟨AB,λ_=>rfl⟩
def zrt(k:Nat){ns:List Int}(hns:ns.length<=1000){st:SO}(h:Drw ns 0 st):∃d more tv sg st',Fam d more tv sg/\Onl ns 0 st st'/\yc T (k+4) yhP [.loc 0] st=.ok (.tp AC [d,.int more]) st':=by
 have hT:T yhP=AA ⟨1,5,AC,yW.body⟩:=rfl;let⟨way,s1,w0,w1,o1,e1⟩:=zei k hns (m:=14) ∅ ∅ h;have h1:=o1.drw h;let⟨a,s2,a0,a1,o2,e2⟩:=zei k hns (m:=21) ∅ ∅ h1;have h2:=o2.drw h1;let⟨c,s3,c0,c1,o3,e3⟩:=zei k hns (m:=8) ∅ ∅ h2;have h3:=o3.drw h2;let⟨g,s4,g0,g1,o4,e4⟩:=zei k hns (m:=4) ∅ ∅ h3;have oo:=((o1.trans o2).trans o3).trans o4;rw[show k+4=k+3+1 by lia]
 by_cases k8:way<8
 .have d8:=decide_eq_true k8;let⟨i,rfl⟩:=za9 w0;have q:=λst=>zrr (i:=i) ∅ st;let⟨tv,F⟩:=zro (i:=i) ∅;refine⟨_,_,tv,_,s4,F,oo,?_⟩;rw[zbk hT rfl rfl];dsimp only;simp! [yW,e1,e2,e3,e4,d8,q,zik];rfl
 .have d8:=decide_eq_false k8
  by_cases k12:way<12
  .have d12:=decide_eq_true k12;let⟨up,top,q⟩:=zrs (i:=way-8) ∅ ∅;let⟨s,rfl⟩:=za9 a0;let⟨tv,F⟩:=zrp up top (s:=s) ∅;refine⟨_,_,tv,_,s4,F,oo,?_⟩;rw[zbk hT rfl rfl];dsimp only;simp! [yW,e1,e2,e3,e4,d8,d12,q,zik];rfl
  .have d12:=decide_eq_false k12;let⟨sr,q2⟩:=zjJ (i:=g%2) ∅ ∅;let⟨sm,q3⟩:=zjJ (i:=g/2) ∅ ∅;have m2:yC .mod (.int g) (.int 2)=AA (.int (g%2)):=rfl;let⟨tv,F⟩:=zrq sr sm (e:=c-3) ∅ ∅;refine⟨_,_,tv,_,s4,F,oo,?_⟩;rw[zbk hT rfl rfl];dsimp only;simp! [yW,e1,e2,e3,e4,d8,d12,m2,q2,q3,zik];rfl
def fB:Css:=match ybg.body with
 |.cons _ (.cons _ (.cons _ (.cons _ (.cons (.for _ _ b) _))))=>b
 |x=>x
theorem bt2(i j:Nat)(a b:PV)(ρ:IC.Env):yP (.t [i,j]) (.tp AC [a,b]) ρ=AA ((ρ.set i (AA a)).set j (AA b)):=rfl
theorem turn{ns:List Int}(hl:ns.length<=1000){d tv:PV}{more:Int}{sg:Bool}(F:Fam d more tv sg){st:SO}(h:Drw ns 0 st)(p0 p5 p6 p7 p8 p9:Option PV):∃q6 q7 q8 q9 st',Drw ns 0 st'/\exs (yc T 25) [p0,AA (.loc 0),AA d,AA (.int more),AA tv,p5,p6,p7,p8,p9] st fB=.nx [p0,AA (.loc 0),AA d,AA (.int more),AA tv,p5,q6,q7,q8,q9] st':=by
 let⟨wi,zi,s1,a1,a2,a3,a4,o1,e1⟩:=sizes 21 hl (m:=4) ∅ ∅ h;let⟨w,rfl⟩:=za9 (show 0<=wi by lia);have h1:=o1.drw h;let⟨mo1,mo2⟩:=F.mo;obtain⟨n,hn,hn2,hm,mx⟩:∃n:Nat,1<=n/\n<=4/\1<=(n:Int)+more/\∀st,yan .max st [.int zi,.int (1-more)]=AA (.int (n:Int)):=by
  refine⟨(if zi<1-more then 1-more else zi).toNat,by split<;>lia,by split<;>lia,by split<;>lia,λst=>?_⟩;rw[Do (by split<;>lia)];rfl
 have hw:4<=w:=by lia
 have hw2:w<=16:=by lia
 let⟨x,s2,x0,x1,o2,e2⟩:=worth 21 hl w n hw hw2 hn hn2 h1;have h2:=o2.drw h1;let⟨y,s3,y0,y1,o3,e3⟩:=worth 21 hl w n hw hw2 hn hn2 h2;have h3:=o3.drw h2;let⟨nm,i0,c0⟩:=F.i0;have E1:yc T 25 yhK [.loc 0,.int 4] st=.ok (.tp AC [.int w,.int zi]) s1:=e1;have E2:yc T 25 yhr [.loc 0,.int w,.int n] s1=.ok (.int x) s2:=e2;have E3:yc T 25 yhr [.loc 0,.int w,.int n] s2=.ok (.int y) s3:=e3;have P0:(0:Int)<2^(w*n):=A1 ⋯
 cases sg with
 |true=>
  have so:=λst=>F.so w n x 0 st hw hw2 hn hn2 hm x0 x1 (FW 0) P0 (λ_=>rfl);refine⟨AA (.int w),AA (.int n),AA (.int x),AA (.int 0),s3,h3,?_⟩;simp! [fB,ybg,E1,bt2,mx,E2,E3,i0,c0,so]
 |false=>
  have so:=λst=>F.so w n x y st hw hw2 hn hn2 hm x0 x1 y0 y1 (λh=>by cases h);refine⟨AA (.int w),AA (.int n),AA (.int x),AA (.int y),s3,h3,?_⟩;simp! [fB,ybg,E1,bt2,mx,E2,E3,i0,c0,so]
def zhY(l:List Int):nLs [PV.scr (l.map .int)]=true:=by simp[nLs,nL,noLocs_ints]
def zlg(ns:List Int)(hns:ns.length<=63):yc T 26 yht [.scr (ns.map .int)] []=.ok (.bl AB) []:=by
 let⟨o,e1,ho⟩:=fresh 24 ns hns [];have h0:Drw ns 0 [o]:=⟨0,0,AC,by lia,by rw[ho];rfl⟩;have hl:ns.length<=1000:=by lia
 let⟨d,more,tv,sg,s1,F,o1,e2⟩:=zrt 21 hl h0;have h1:=o1.drw h0;have ag:∀(ρ:IC.Env) (s:SO) (k:IC.Env->SO->Fl),yax (.nx ρ s) k=k ρ s:=λ_ _ _=>rfl;let⟨a6,a7,a8,a9,s2,h2,f1⟩:=turn hl F h1 (AA (.scr (ns.map .int))) (AA (.int 0)) AD AD AD AD;let⟨b6,b7,b8,b9,s3,h3,f2⟩:=turn hl F h2 (AA (.scr (ns.map .int))) (AA (.int 1)) a6 a7 a8 a9;let⟨c6,c7,c8,c9,s4,h4,f3⟩:=turn hl F h3 (AA (.scr (ns.map .int))) (AA (.int 2)) b6 b7 b8 b9;have lp:yaY (yc T 25) (.n 5) fB [.int 0,.int 1,.int 2] [AA (.scr (ns.map .int)),AA (.loc 0),AA d,AA (.int more),AA tv,AD,AD,AD,AD,AD] s1=.nx [AA (.scr (ns.map .int)),AA (.loc 0),AA d,AA (.int more),AA tv,AA (.int 2),c6,c7,c8,c9] s4:=by
  rw[zk (ρ1:=[AA (.scr (ns.map .int)),AA (.loc 0),AA d,AA (.int more),AA tv,AA (.int 0),AD,AD,AD,AD]) rfl,f1,ag,zk (ρ1:=[AA (.scr (ns.map .int)),AA (.loc 0),AA d,AA (.int more),AA tv,AA (.int 1),a6,a7,a8,a9]) rfl,f2,ag,zk (ρ1:=[AA (.scr (ns.map .int)),AA (.loc 0),AA d,AA (.int more),AA tv,AA (.int 2),b6,b7,b8,b9]) rfl,f3,ag,zx]
 have rg:ybu (.int 3)=AA [.int 0,.int 1,.int 2]:=rfl;have hT:T yht=AA ⟨1,10,AB,ybg.body⟩:=rfl
 have hb:ybg.body=(match ybg.body with
  |.cons a (.cons b (.cons c (.cons d (.cons (.for t i _) r))))=>.cons a (.cons b (.cons c (.cons d (.cons (.for t i fB) r))))
  |x=>x):=rfl
 rw[za hT rfl rfl (zhY ns)];dsimp only;rw[hb];have e1:yc T 25 yhH [.scr (ns.map .int)] []=.ok (.loc 0) [o]:=e1;have E2:yc T 25 yhP [.loc 0] [o]=.ok (.tp AC [d,.int more]) s1:=e2;have t1:=F.tel;have t2:=F.ist;have t3:=F.eq
 clear hb f1 f2 f3
 generalize fB=B at *;simp! [ybg,e1,E2,bt2,t1,t2,rg,lp,t3,zlF]
end WK
namespace WK
open PySem L2 IC
theorem walk{l:Ei}{q:Af}{loose:List A4}{XP:(A4->Option AH)->BU->Prop}{YP:Aw->BU->Prop}{d:DefRec}{K:Params->AG}(hn:l.most=AA 63)(hdf:d.params.defaults=[])
  (hY:∀(w:Aw) (h:BU),YP w h->(K w.params).In h)
  (F:∀(w:Aw) (mg:A4->Option AH) (fa:AJ) (h:BU),(K w.params).In h->h.Ns mainGlobals mg->mg d.name=AA (.ref fa) ->
   ∃fd:BL,(∀(s:AK) (u:AH),Em s fd ⟨[u],[]⟩ [("_law_script",u)])/\∀base:BU,(K w.params).In base->base.Ns mainGlobals mg->ybj l.prog w (K w.params) mg base (CX1 l.prog w) (2*26) fa fd ["_law_script"] (spX (K w.params) (yc T 26) yht)):
  G7 q loose XP YP l.row.toRowW d [] (λf vs=>Gh f vs):=
 L2.walk_of (n:=63) (k:=2*26) (x:="_law_script") (CX:=λw=>CX1 l.prog w) (sp:=λw=>spX (K w.params) (yc T 26) yht) hn ⋯ hdf ⟨rfl,by decide,by decide⟩ hY F (λw H a ns hl _ hS=>zi3 zlg hl hS) λ_ _ _ _ _ z=>zoC z
end WK
end
open PySem PySem.W PyProof.Rows
theorem PySem.Challenge.cw_widewords_k29_whole_one_telling_holds : PySem.Challenge.rw_widewords_k29_whole_one_telling.Holds := by
 refine hh.hd (by rfl) (by rfl) (by rfl) ?_
 k_fill
 refine WK.walk (l:=PySem.Challenge.rw_widewords_k29_whole_one_telling) rfl rfl (λw h Y=>Y) ?F
 case F =>
  intro w mg fa h KX G hmg
  refine' L2.all_mk2 (t:=WK.tbQ) KX G hmg ?R ?B ?D WK.kb_all ?Ml WK.ok_all WK.T_ok (L:=97) rfl 26
  case R =>
   repeat' (first|exact trivial|apply And.intro|(refine' L2.rowFn ?a9 ?l9 ?c9 ?p9 ?b9;(case a9|l9|c9|p9=>k_is);(case b9=>((repeat intro _);first|rfl|kernel_rfl)))|(refine' L2.rowMe ?z9 ?a9 ?i9 ?l9 ?c9 ?p9 ?b9;(case z9=>(skip;k_is));(case a9|i9|l9|c9|p9=>k_is);(case b9=>((repeat intro _);first|rfl|kernel_rfl)))|(refine' L2.rowIni ?z9 ?a9 ?i9 ?l9 ?c9 ?p9 ?b9 ?m9 ?k9;(case z9=>(skip;k_is));(case a9|i9|l9|c9|p9=>k_is);(case b9=>((repeat intro _);first|rfl|kernel_rfl));(case m9|k9=>k_is))|(refine' L2.rowFd ?a9 ?l9 ?c9 ?p9 ?d9 ?e9 ?v9;(case a9|l9|c9|p9|d9=>k_is);(case e9=>rfl);(case v9=>(repeat first|exact .nil|refine .cons ⟨_,rfl⟩ ?_))))
  case B=>kernel_rfl
  case D =>
   repeat' (first|exact trivial|apply And.intro|intro _|(refine' L2.gd_mk KX G ?a9 ?l9 ?s9 ?r9 ?n9;(case a9|l9=>k_is);(case s9=>rfl);(case r9=>(repeat first|exact .nil|refine L2.con_row (by kernel_rfl) ?_));(case n9=>decide +kernel)))
  case Ml =>
   repeat' (first|exact trivial|apply And.intro|(refine' L2.gdf_mk KX G ?a9 ?l9 ?r9 ?n9;(case a9|l9=>k_is);(case r9=>(repeat first|exact .nil|refine L2.frow_cons (by kernel_rfl) ?_));(case n9=>decide +kernel)))
