import PyProof.Rows.All
import OpenK.KLine
import Open.Tops
import Wide.FinOn
import KE.KRevSl
import KE.KItem
import KE.KxWritten
import KE.KFromBytes
import KE.LcSums
import KE.KBits
import KE.KTryMore
import PySem.Challenge.RW_widewords_k10_whole_tellings_unrolled
set_option Elab.async false
set_option linter.all false
set_option maxRecDepth 100000
set_option maxHeartbeats 0
local macro_rules
 | `(#print $s:str)=>do
  let n:=fun (x:Lean.Name)=>Lean.mkIdent (.mkSimple s!"tw{x.hash}")
  let mut a:=#[n `PySem.Challenge.pw_widewords_k10_whole_tellings_unrolled]
  for e in s.getString.splitOn "|" do
   let f:=e.splitOn " "
   let mut p:=0
   for r in f.tail! do
    let g:=(r.splitOn ".").map String.toNat!
    p:=p+g[0]!
    for j in [0:g.getD 1 0+1] do a:=a.push (n (.mkStr2 "sh" (f[0]!++toString (p+j))))
    p:=p+g.getD 1 0
  `(structure $(Lean.mkIdent `PySem.W.Fast):declId:Prop where ($a*:True))
set_option genSizeOf false
set_option genInjectivity false
#print "o_ 3 2 4 3.1 2.2 4 2 3 3.1 2.1 4 2 3 3.1 2.1 4 2 3 3.1 2.1 4 2 3 3.1 2.1 4 2 3 3.1 2.1 5 2.2 5.2 3.2 2 2.1 17.2 5.2 3 2.2 5.2 3 2.2 4 6.2 5.2 5.2 3.2 3 2.2 3 2.2 3.2 5.2 2 4 3.1 3 2.2 3 2.2 3 2.2 3 2.2 3.2 5.2 3 2.7 4 6.2 3.2 3 2.2 3.2 3 2.2 5.2 3 2.2 5.2 3 2.2 3 2.2 3 2.2 3 2.2 2 6.2 5.2 3 2.2 3 2.2 3 2.2 3.2 5.2 3.2 5.2 3.2 3.2 3 2.2 3.2 2 4 2.2 3.2 3 2.2 3.2 3.2 3 2.2|sts_ 4 17 16 16 16 16 35 54 55 64 83 84|tree_ 19 16 16 16 16 35 52 57 64 83 84 39"
set_option genSizeOf true
set_option genInjectivity true
open_shared sh for PySem.Challenge.pw_widewords_k10_whole_tellings_unrolled leaving 0
namespace hh
open PySem PySem.W PySem.Calls PyProof.Rows
noncomputable abbrev p:=PySem.Challenge.pw_widewords_k10_whole_tellings_unrolled
abbrev z:Pos:=⟨0,0,0,0⟩
abbrev an:Option Value:=some (.ref 6)
noncomputable abbrev bE:=behindTheImports p
noncomputable abbrev cE:Code:=.body bE sh.env_1
noncomputable abbrev H1(P:Params):Heap:=absHeap (sh.tree_497 P) 466 {}
noncomputable abbrev S0(w:World)(os:OsState):Shared:=⟨boot_heap w.params,⟨[]⟩,boot_drawn,boot_toks,os⟩
noncomputable abbrev Sb(w:World)(os:OsState):Shared:=SharedT.abs ⟨sh.tree_4 w.params,15,{},⟨[]⟩,{},187,os⟩
noncomputable abbrev Sk(w:World)(os:OsState):Shared:=SharedT.abs ⟨sh.tree_497 w.params,466,{},⟨[]⟩,{},841,os⟩
theorem pre(w os):topGo treeTable p w 11 an 12 (S0 w os) (topStub p)=some (Sb w os,⟨denote treeTable cE,cE,z,[topFrame z]⟩):=by kernel_rfl
theorem blk(w os):segRun treeTable p w 11 an 1 1 (Sb w os) (blockOf bE sh.env_1 cE z [topFrame z])=some (.next,Sb w os,cE,z):=by kernel_rfl
theorem fin(w os):topRun treeTable p w 11 an 2 (Sk w os) (restOf [] sh.env_1 cE ⟨339,0,350,70⟩ [topFrame z])=some (Sk w os):=by kernel_rfl
theorem bod:bE=sh.sts_4++(sh.sts_21++(sh.sts_37++(sh.sts_53++(sh.sts_69++(sh.sts_85++(sh.sts_120++(sh.sts_174++(sh.sts_229++(sh.sts_293++(sh.sts_376++(sh.sts_460++[]))))))))))):=by kernel_rfl
theorem run(w os):topRun treeTable p w 11 an (12+(1+(196+(214+(214+(214+(214+(327+(400+(311+(426+(373+(376+(183+2)))))))))))))) (S0 w os) (topStub p)=some (Sk w os):=by
 refine go_top (pre w os) (piece_block (blk w os) ?_)
 have h:=sh.chain p bE w os [] 2 (Sk w os) (fin w os)
 rw[<-bod] at h
 exact h
noncomputable def q:Program:=view p [67]
noncomputable abbrev lo:List Str:=p.boundNames
theorem look(w:World):(fun os=>((staticsOk (importedModules p.main.body) (boot_heap w.params) (H1 w.params) && namesBound p (H1 w.params) && gensDone (Sk w os) && laidKept (boot_heap w.params) (H1 w.params)),openSeen q lo (importedModules p.main.body) (fun _=>true) true (Sk w os),(Sk w os).heap))=fun _=>(true,openGood q lo,H1 w.params):=by kernel_rfl
theorem left:LeftO p q lo (fun _=>true) Shared.heap (fun w=>H1 w.params) 6998:=.of_pieces (boot_open (by kernel_rfl) (by kernel_rfl) fun s=>by kernel_rfl) (fun w=>by kernel_rfl) run (by kernel_rfl) look
theorem inA{t:BT}{n:Nat}{f:Life}{K:Frag}(h1:K.all (fun x=>Nat.blt x.1 n)=true)(h2:K.map (fun x=>t.get x.1)=K.map fun x=>some x.2)(h3:K.map (fun x=>alive x.2)=K.map fun x=>some x.2):K.In (absHeap t n f):=by
 intro a o e
 induction K with
 | nil=>cases e
 | cons x r ih=>
  obtain ⟨b,y⟩:=x
  simp only[List.map_cons,List.cons.injEq,List.all_cons,Bool.and_eq_true] at h1 h2 h3
  by_cases hb:(a==b)=true
  · rw[List.lookup_cons,hb] at e
    cases e
    have:=beq_iff_eq.mp hb
    subst this
    rw[abs_get (Nat.le_of_ble_eq_true h1.1) h2.1]
    exact h3.1
  · rw[List.lookup_cons,eq_false_of_ne_true hb] at e
    exact ih h1.2 h2.2 h3.2 e
local macro_rules
 | `(panic! $s:str)=>do
  let mut v:=#[]
  let mut p:=0
  let mut q:=0
  for r in s.getString.splitOn " " do
   if let g::l::m:=(r.splitOn ",").map String.toNat! then
    let i:=m.headD (q+g)
    p:=p+g
    for j in [0:l] do v:=v.push (p+j,if i==0 then .str `PySem.W s!"boot_o_{p+j}" else .str `sh s!"o_{i+j}")
    p:=p+l
    q:=i+l
  let mut a ← `(List.nil)
  for (x,o) in v.reverse do a ← `(List.cons (nat_lit $(Lean.Syntax.mkNumLit (toString x)),$(Lean.mkIdent o) P) $a)
  `(fun P=>$a)
noncomputable def KK:Params->Frag:=panic! "2,1,0 0,1,460 11,1,7 6,2 0,1,87 0,1,17 2,1,24 6,3 2,1,40 6,3 2,1,56 6,3 2,1,72 6,3 2,1,88 6,3 2,1 1,2 1,3 1,2 1,3 2,2 0,15,122 1,2 1,3 1,2 1,3 1,2 1,3 1,2 1,3 1,2 1,2 0,1,176 1,2 1,3 1,2 1,3 1,2 1,3 2,3 1,2 1,3 1,2 1,3 2,3 1,2 1,2 7,1,238 1,2 1,3 1,2 1,3 1,2 1,3 1,2 1,3 2,3 1,2 1,3 1,2 1,7 2,1,295 1,2 1,3 2,3 1,2 1,3 2,3 1,2 1,3 1,2 1,3 1,2 1,3 1,2 1,3 1,2 1,3 1,2 1,3 1,2 1,3 1,2 1,2 0,1,378 1,2 1,3 1,2 1,3 1,2 1,3 1,2 1,3 1,2 1,3 2,3 1,2 1,3 2,3 1,2 1,3 2,3 2,3 1,2 1,3 2,2 0,1,462 1,2 1,3 2,3 1,2 1,3 2,3 2,3 1,2 1,2"
theorem inK(w:World):InK KK w (H1 w.params):=inA (K:=KK w.params) (by kernel_rfl) (by kernel_rfl) (by kernel_rfl)
theorem hd{d:DefRec}{k:List (Str×Expr)}(a:defOf q "law"=some (d,k))(b:p.theDef "law"=some (d.params,d.body,d.scope))(c:kwWritten? d.params.kwonlyargs d.params.kw_defaults=some k)(h:WalkO q lo (fun _ _=>True) (InK KK) PySem.Challenge.rw_widewords_k10_whole_tellings_unrolled.row.toRowW d k fun f vs=>PySem.call f vs):PySem.Challenge.rw_widewords_k10_whole_tellings_unrolled.Holds:=by
 w_on;o_law
 refine holds_open left (YP:=InK KK) (XP:=fun _ _=>True) (fun w s e=>e ▸ inK w) InK.keeps (fun _ _=>trivial) (fun _ _ _ _ _=>trivial) a b c (fun s _=>recFacts_nil rfl) (by rfl) (by assumption) (by decide +kernel) ⟨rfl,rfl,rfl,rfl,rfl,by decide +kernel⟩ ?hw h
 w_witness2
end hh
local macro_rules|`(⋯)=>`((by decide))
local macro_rules|`(∅)=>`((by lia))
set_option compiler.extract_closed false
set_option bootstrap.genMatcherCode false
set_option genSizeOf false
local macro_rules | `(tactic| ac_rfl)=>`(tactic| with_unfolding_all rfl)
open Option renaming some->AA,none->AD,isSome_iff_exists->Ae,bind_some->Az,getD_some->B5,map_some->Bd,any_eq_true_iff_get->C8,get_some->Ec,getD_none->GE,join_some->GH
open Bool renaming false->AB,true->AC,and_eq_true->AG,true_and->A8,false_and->Ah,false_eq_true->Ap,false_ne_true->As,and_self->Bg,not_eq_true'->Bk,not_true->CZ,eq_iff_iff->Ck,or_eq_true->DW,false_or->ED,true_or->E5,or_false->FO
open PySem.Str renaming ofString->AE,empty->Fz,length->G3
open PySem.W renaming Frag->AF,findIn->Ai,keepIn->Au,nsIn->BE,kitOne->BJ,fnOf->BU,emptyDict->BY,instObj->Bm,codeIn->By,kia_one->CF,looks_findIn->C5,plainGet->C9,isFn->Ca,hideAll->Ci,hasDictIn->Cp,cellsFrom_some->Cr,excIn->DL,makesIn->DR,plainGet_of->DY,lookIn->Da,callWith_K->Dc,exmOne->Dm,methodObj->Dt,plainOver->Du,clsIn->EB,mg_of->EG,OpenLaw->EU,takerIn->E9,methodCall_KW->Ej,hideAll_get->FG,callWith_K0->FK,of_hideAll->FV,codeRec_of->FX,handedIn->Fy,WalkO->GW,kitAny->G8,subIn->Gf,mroIn->Gg,Looks->Gh,Rel2->Gq
open PySem renaming Value->AH,wpAny_bind->AI,Addr->AJ,Shared->AK,Str->AO,Expr->AT,wpAny_pure->A0,wpAny->A5,Program->Aa,World->Am,Around->An,Heap->Aw,FuncData->Ax,Env->BG,wpAny_field->BO,Scope->BQ,wpAny_truthy_bool->BX,wpAny_Call_Name_kw->B1,wpAny_callSpecial?_slot->B3,Keyword->B7,wpAny_newObj_type->B9,Obj->Bb,Stmt->Bc,wpAny_mono->Be,Pos->Bo,DictEntry->Bv,wpAny_pyIter_tuple->CA,wpAny_passesOwn->CD,IsPair->CL,mem_of_lookup->CN,wpAny_call_entry->CP,wpAny_seqItems->CQ,sizeLine_eq->CS,wpAny_setField_rec->CV,NameKind->Cq,wpAny_holding->DI,wpAny_standAt->DJ,Operator->DN,wpAny_execs_nil->DQ,codeAny_mono->D0,wpAny_newFunctionEnv_cells->De,call_meets->Di,strKind_is->Do,wpAny_loadPart_at->Dw,IsZip->Dy,wpAny_comprehension_free->EA,wpAny_onRaise->EF,PassesOwn->EK,noFill_tuple_add->EN,wpAny_rule->EX,BindsTo->EZ,IsPart->E1,codeAny_call_function->Ee,wpAny_loadName_local->Em,wpAny_bindName->En,wpAny_setField->Ep,codeAny_call_builtin->Es,wpAny_updateSeq_pair->Et,Builtin->FE,wpAny_loadName_cell->FH,CmpOp->FM,seq_tuple_add->FN,Result->FW,tupleKind_room_in1->F2,Within->F3,wpAny_assign_Name->F5,concat_meets->Fa,wpAny_sequenceKey->Fb,wpAny_typeOf->Fc,slot_list_getitem->Fd,wpAny_pyIter_enum->Fh,wpAny_pyIter_list->Fi,ZipApart->Fm,Paired->Fw,wpAny_pyIter_zip->GL,seqIndex_of->GO,Model->GZ,wpAny_Name->G0,wpAny_call->G1,typeIs_str->G4,call->G6,Sem->Ge,BoolOp->Gu,Tok->HC
open List renaming mem_cons->AL,length_append->AM,getElem?_cons_succ->AN,getElem?_cons_zero->AQ,mem_of_getElem?->AR,mem_cons_of_mem->AU,length_cons->AW,map_cons->AX,getElem?_append_left->AY,not_mem_nil->AZ,size_toArray->A1,getElem?_eq_some_iff->A2,getElem?_set_ne->A3,mem_cons_self->A7,getElem?_append_right->Ad,length_map->Af,all_eq_true->Ag,replicate->Aj,mem_append->Ak,getElem?_set_self->Ao,mem_append_right->Aq,length_nil->Av,all_cons->Ay,cons_append->BA,length_set->BB,nil_append->BD,set_cons_zero->BF,append_assoc->BK,map_nil->BM,set_cons_succ->BN,append_nil->BS,getElem?_eq_none->BZ,lookup_cons->B4,any_cons->B8,getElem?_map->Ba,getElem?_eq_getElem->Bf,find?_cons->Bp,lookup->Bs,length->Bt,length_singleton->CB,flatMap_cons->CJ,filterMap_cons->CM,length_take->CO,length_replicate->C1,getElem?_set->C3,mem_append_left->C4,drop_eq_getElem_cons->Cc,foldl_cons->Cj,reverse_cons->Cw,filterMap->Cy,mem_iff_getElem?->DD,length_drop->DE,any_eq_true->DF,countP_cons->DH,nodup_cons->DS,of_mem_zip->DU,set_set->D3,mem_map->D5,mem_filterMap->D9,zip_cons_cons->Dl,getElem?_eq_none_iff->Dr,pairwise_iff_getElem->Ds,sum_cons->EI,getElem?_replicate->EM,drop_length->ES,range->EW,forIn_cons->Ea,contains_iff_mem->El,getElem_toArray->Ex,length_pos_iff->FL,isEmpty_cons->Fj,all_nil->Fk,ext_getElem?->Fq,isEmpty_nil->GF,take_length->GG,zipIdx_cons->GI,getElem_mem->GM,mem_filter->GQ,zipIdx_nil->GT,mem_range->GY,forIn_nil->G9
open Nat renaming le_refl->AS,lt_of_lt_of_le->A9,zero_le->Ab,ne_of_lt->Ar,le_trans->BH,zero_add->BV,reduceSub->Bu,mul_le_mul_right->CG,reduceAdd->C0,lt_irrefl->Cf,le_succ->Cm,succ_mul->DA,mul_le_mul->DB,le_add_right->DG,add_assoc->EH,reduceLeDiff->ET,ne_of_gt->EY,lt_or_ge->E7,le_of_lt->F4,lt_succ_self->GA,add_le_add->Gb,le_of_eq->Gp
open PySem.Heap renaming get?_push_of_some->AV,lt_size->A4,get?_push_size->Ac,size_push->Bi,SameBut->CU,get?_update_other->Cu,FlyingW->E4,get?_update_self->Ef,IsTuple->Ff,MadeExcOf->G7
open Option.some renaming inj->A6,injEq->C2
open PySem.Value renaming ref->Al,none->Bl,bool->CT,builtin->EC,int->EJ,type->FU,str->Fv,isStrOf->Gd,isInt->Gv,bytes->Gw,float->Gx
open PyProof.Rows renaming slot_tuple_getitem->BC,callWith_type1->Br,boot_isinstance->CW,AllBare->Co,assignInOrder_cons->D8,subscriptTail_builtinR->E2,tupleItemsOf_->FA,IntsAre->FD,entry_tuple_getitem->FI,args_tuple_getitem->FY,assignInOrder_nil->F6,callWith_builtin1->GB,iadd_int->GV,Subscript_->G2,IsTup->Gy
open PySem.PyData renaming eqv->BI,canLay0->C7,depth->Cz,eqvAll->DM,keyHash->Dn,canLayAll0->Dx,depthAll->Eb
open PySem.Builtin.SmallTypes renaming nextOf->BL,ownedTupleIsFree->B0,ownedTupleHandOut->Cd
open Ne renaming symm->BP
open PySem.Heap.FunFrames renaming mem->BR
open False renaming elim->BW
open PySem.F renaming plainAttrs_list->B6,slot_tuple_iterator_next->Bz,args_tuple_add_2->Cg,entry_tuple_add->Cn,slot_tuple_add->Ct,slot_dict_get->DC,args_tuple_iterator_next_1->DV,slot_zip_next->DX,entry_tuple_iterator_next->D1,args_dict_get_3->ER,entry_dict_get->E6,slot_list_append->Eg,slot_list_extend->Eh,typeOf_object_class->Ei,slot_list_insert->Ek,slot_list_clear->Eo,slot_list_count->Eu,slot_list_index->Ew,args_zip_next_1->Fp,entry_zip_next->GJ
open PySem.Challenge renaming rw_widewords_k10_whole_tellings_unrolled->Bj,pw_widewords_k10_whole_tellings_unrolled->DP
open Array renaming length_toList->Bq,append_assoc->D6,getElem?_eq_some_iff->Dj,toList->Go
open True renaming intro->Bw
open PySem.Builtin.Slice renaming slicePlaces->CC,sliceAdjust->Cb,sliceApplied->Dg,slicePartIndex->GR,sliceFields->Gc
open PySem.Builtin.Tuple renaming tupleExact->CK,tupleItemsOf->Dh
open PySem.NameKind renaming free->CY,cell->FP
open PySem.Value.type renaming inj->C6
open PySem.Builtin.List renaming listTooLong->Ch,listFitsIndex->Ga
open PySem.Calls renaming callWith_builtin->Cv,evalArgs_plain->DO,Name_function_global->D7,spliced_cons->Db,spliced_nil->F9
open Sum renaming inr->DZ,inl->Ez
open PySem.Builtin.Str renaming strSliceIndices->D2,occurrences->EL
open Int renaming zero_mul->D4,emod_lt_of_pos->Dq,toNat_natCast->Dv,add_zero->E8,emod_nonneg->Ed,natAbs_mul->Ey,add_assoc->FQ,zero_add->Ft,natAbs_add_le->Fu,mul_one->GN,natCast_add->GU,one_mul->HB
open PySem.ScopeKind renaming function->Dp
open PySem.Paired renaming length->Dz,snoc->HA
open PySem.W.Looks renaming ld->EO,here->HD
open PySem.Builtin.Getset_descriptor renaming descrCheckInstance->EQ,descrNameAndClass->EV,descrGetter->FF,descrGet->F1
open PySem.Obj renaming mapSeq->E3,data_mapFields->FZ
open PySem.Heap.SameBut renaming update->FJ,refl->HH
open PySem.SeqAt.EqAt renaming int_str->FR,str_int->FT
open PySem.W.KF renaming slot_gs->F0
open PySem.Around renaming under->F7
open PySem.Code renaming isFrame->F8,frames->Gz
open List.Pairwise renaming nil->Fe
open PySem.WalksT renaming enumerateD->Fg
open PyProof.Rows.IsTup renaming new->Fx
open PySem.Shared renaming heap->GP
open ForInStep renaming yield->GS
open Eq renaming refl->GX
open PySem.SeqAt renaming EqAt->G5,shaped->Gr
open PySem.Value.ref renaming inj->Gi
open PySem.Flow renaming next->Gj
open PySem.Builtin.Range renaming rangeSize->Gk
open PySem.Heap.UpToSlots renaming of_keeps->Gm
open And renaming intro->Gn
open PySem.Heap.IsSliceOf renaming new->HE
open PySem.W.WShape renaming has->HF
open PySem.Within renaming cons->HG
open PySem.W.WData renaming int->HI
noncomputable section
open Lean in
def cnvP:Nat->Syntax->MacroM (TSyntax `rcasesPat)
 |0,_=>Macro.throwUnsupported
 |n+1,s=>do
  if s.isOfKind ``Lean.Parser.Term.anonymousCtor then `(rcasesPat| ⟨$[$(← s[1].getSepArgs.mapM (cnvP n)):rcasesPat],*⟩)
  else if s.isIdent then `(rcasesPat| $(⟨s⟩):ident)
  else if s.isOfKind ``Lean.Parser.Term.hole then `(rcasesPat| _)
  else Macro.throwUnsupported
local macro_rules | `(tactic| let $p:term := $e)=>do `(tactic| obtain $(← cnvP 9 p):rcasesPat := $e)
local macro_rules | `(tactic| erw [$rs,*] $(l)?)=>do
 let t<-rs.getElems.mapM λ|`(Lean.Parser.Tactic.rwRule| $t:term)=>`(Lean.Parser.Tactic.simpLemma| $t:term)|_=>Lean.Macro.throwUnsupported
 `(tactic| simp only[$t,*] $(l)?)
local macro_rules | `(fun $bs* => $b)=>do
 if !(bs.any λx=>x.raw.isOfKind ``Lean.Parser.Term.anonymousCtor)||(b.raw.find? λx=>x.isOfKind ``Lean.Parser.Term.syntheticHole).isSome then Lean.Macro.throwUnsupported
 `(by rintro $[$(← bs.mapM λx=>cnvP 9 x.raw):rcasesPat]*;exact $b)
set_option backward.eqns.nonrecursive false
local macro_rules (kind:=Lean.Parser.Command.declaration)
 |s=>do
  let k:=s[1].getKind
  unless (k==``Lean.Parser.Command.definition||k==``Lean.Parser.Command.abbrev)&&s[0].getArgs.all (·.isNone) do Lean.Macro.throwUnsupported
  if k==``Lean.Parser.Command.definition&&(toString s[1][1][0].getId).startsWith "z" then
   let m←`(theorem x:True:=trivial)
   return s.setArg 1 (((m.raw[1].setArg 1 s[1][1]).setArg 2 (Lean.mkNode ``Lean.Parser.Command.declSig #[s[1][2][0],s[1][2][1][0]])).setArg 3 s[1][3])
  let m←`(noncomputable def x:=0)
  return s.setArg 0 m.raw[0]
namespace L2
open PySem PySem.Spec PyProof.Rows
abbrev Key:=Sum Int AO
def ybF:Key->AH->Bool
 |.inl k,v=>Gv k v
 |.inr x,v=>Gd x v
def ygC(w:Am):Key->Int
 |.inl k=>hashInt k
 |.inr x=>hashStr w x
def zJ:∀{k:Key} {v:AH},ybF k v=AC->(∃i t,k=Ez i/\v=EJ i t) \/ (∃x t,k=DZ x/\v=Fv x t)
 |.inl i,v,h=>by
  let⟨t,e⟩:=Value.isInt_shape (k:=i) (v:=v) h;exact .inl ⟨i,t,rfl,e⟩
 |.inr x,v,h=>by
  let⟨t,e⟩:=Value.isStrOf_shape (x:=x) (v:=v) h;exact .inr ⟨x,t,rfl,e⟩
def zgc(i:Int)(t:HC):ybF (.inl i) (.int i t)=true:=by simp[ybF,Gv]
def zgm(x:AO)(t:HC):ybF (.inr x) (.str x t)=true:=by simp[ybF,Gd]
def zm6(a b:Int):decide ((Ez a:Key)=Ez b)=(a==b):=by
 by_cases e:a=b
 .subst e;simp
 .have h:¬(Ez a:Key)=Ez b:=λq=>e (Sum.inl.inj q);rw[decide_eq_false h];exact(beq_eq_false_iff_ne.mpr e).symm
def zmQ(a b:AO):decide ((DZ a:Key)=DZ b)=decide (a=b):=by
 by_cases e:a=b
 .subst e;simp
 .have h:¬(DZ a:Key)=DZ b:=λq=>e (Sum.inr.inj q);rw[decide_eq_false h,decide_eq_false e]
def zlM(a:Int)(b:AO):decide ((Ez a:Key)=DZ b)=false:=decide_eq_false (λq=>nomatch q)
def zlE(a:AO)(b:Int):decide ((DZ a:Key)=Ez b)=false:=decide_eq_false (λq=>nomatch q)
def yO(prog:Aa)(w:Am):PySem.KeyKind prog w Key where
 is:=ybF
 hash:=ygC w
 inj:=λv a b ha hb=>by
  rcases zJ ha with⟨i,t,rfl,rfl⟩|⟨x,t,rfl,rfl⟩
  .rcases zJ hb with⟨j,u,rfl,e⟩|⟨y,u,rfl,e⟩
   .injection e with e1 _;rw[e1]
   .exact nomatch e
  .rcases zJ hb with⟨j,u,rfl,e⟩|⟨y,u,rfl,e⟩
   .exact nomatch e
   .injection e with e1 _;rw[e1]
 byValue:=λk v h=>by
  rcases zJ h with⟨i,t,rfl,rfl⟩|⟨x,t,rfl,rfl⟩<;>rfl
 pyHash:=λhv h=>by
  rcases zJ hv with⟨i,t,rfl,rfl⟩|⟨x,t,rfl,rfl⟩
  .exact wpAny_pyHash_int h
  .exact wpAny_pyHash_str h
 eqBool:=λhu hv h=>by
  rcases zJ hu with⟨i,t,rfl,rfl⟩|⟨x,t,rfl,rfl⟩
  .rcases zJ hv with⟨j,u,rfl,rfl⟩|⟨y,u,rfl,rfl⟩
   .rw[zm6]at h;exact wpAny_eqBool_int h
   .rw[zlM]at h;exact FR i t y u _ _ _ _ h
  .rcases zJ hv with⟨j,u,rfl,rfl⟩|⟨y,u,rfl,rfl⟩
   .rw[zlE]at h;exact FT x t j u _ _ _ _ h
   .rw[zmQ]at h;exact wpAny_eqBool_str h
 «strs»:=λk x t v h=>by
  rcases zJ h with⟨i,u,rfl,e⟩|⟨y,u,rfl,e⟩
  .exact nomatch e
  .injection e with e1 _;subst e1
   cases v<;>rfl
def zeh(prog:Aa)(w:Am)(i:Int)(t:HC):(yO prog w).is (.inl i) (.int i t)=true:=zgc i t
def zeq(prog:Aa)(w:Am)(x:AO)(t:HC):(yO prog w).is (.inr x) (.str x t)=true:=zgm x t
inductive V where
 |non|bl (b:Bool)|int (i:Int)|str (x:AO)|byt (b:Array UInt8)|flt (b:UInt64)|ref (a:AJ)|ty (n:String)
 deriving DecidableEq
def RelV:V->AH->Prop
 |.non,u=>u=Bl
 |.bl b,u=>u=CT b
 |.int i,u=>∃t,u=EJ i t
 |.str x,u=>∃t,u=Fv x t
 |.byt b,u=>∃t,u=Gw b t
 |.flt b,u=>∃t,u=Gx b t
 |.ref a,u=>u=Al a
 |.ty n,u=>u=FU n
abbrev Vals:List V->List AH->Prop:=Fw RelV
theorem Vals.length{xs:List V}{us:List AH}(r:Vals xs us):xs.length=us.length:=Dz r
theorem Vals.get:∀{xs:List V} {us:List AH} {i:Nat} {x:V},Vals xs us->xs[i]?=AA x->∃u,us[i]?=AA u/\RelV x u
 |_,_,_,_,.nil,e=>by simp at e
 |_,_,0,_,.cons r _,e=>by simp at e;subst e;exact⟨_,rfl,r⟩
 |_,_,i+1,x,.cons _ t,e=>by
  let⟨u,h1,h2⟩:=Vals.get (i:=i) (x:=x) t (by simpa using e);exact⟨u,by simpa using h1,h2⟩
theorem Vals.set{x:V}{u:AH}(r:RelV x u):∀{xs:List V} {us:List AH} (i:Nat),Vals xs us->Vals (xs.set i x) (us.set i u)
 |_,_,_,.nil=>.nil
 |_,_,0,.cons _ t=>.cons r t
 |_,_,i+1,.cons q t=>.cons q (Vals.set r i t)
theorem Vals.append:∀{xs ys:List V} {us ws:List AH},Vals xs us->Vals ys ws->Vals (xs++ys) (us++ws)
 |_,_,_,_,.nil,s=>s
 |_,_,_,_,.cons r t,s=>.cons r (Vals.append t s)
theorem Vals.take:∀{xs:List V} {us:List AH} (n:Nat),Vals xs us->Vals (xs.take n) (us.take n)
 |_,_,0,_=>.nil
 |_,_,_+1,.nil=>.nil
 |_,_,n+1,.cons r t=>.cons r (Vals.take n t)
theorem Vals.drop:∀{xs:List V} {us:List AH} (n:Nat),Vals xs us->Vals (xs.drop n) (us.drop n)
 |_,_,0,r=>r
 |_,_,_+1,.nil=>.nil
 |_,_,n+1,.cons _ t=>Vals.drop n t
theorem Vals.none_of:∀{xs:List V} {us:List AH} {i:Nat},Vals xs us->xs[i]?=AD->us[i]?=none:=λ{xs us i} r e=>by
 have h1:=r.length;have h2:xs.length<=i:=Dr.mp e;exact Dr.mpr ∅
def ybj:Option V->Option AH->Prop
 |some v,AA u=>RelV v u
 |none,AD=>True
 |_,_=>False
def KV{κ:Type}:List (κ×V)->List (κ×AH)->Prop:=Fw λ(p:κ×V) (q:κ×AH)=>p.1=q.1/\RelV p.2 q.2
def kV:Key->V
 |.inl i=>.int i
 |.inr x=>.str x
inductive HO where
 |lst (xs:List V)
 |tup (xs:List V)
 |dK (kvs:List (Key×V))|dT (kvs:List (List Key×V))
 |set (S:Int->Bool) (n:Nat)
 |ins (C dx:AJ) (fs:List (AO×V))
 |own (x:AJ)
 |xd (fs:List (AO×V))
 |met (f x:AJ)
 |rng (lo hi:Int)
 |frz (o:Bb) (u:HO)
 |tbl (ps:Array AH)
 |ext (φ:Aw->Prop)
abbrev Hp:=AJ->Option HO
def upd(H:Hp)(a:AJ)(o:HO):Hp:=λb=>if b=a then AA o else H b
def zl{H:Hp}{a:AJ}{o:HO}:upd H a o a=AA o:=by unfold upd;rw[if_pos rfl]
def zk{H:Hp}{a b:AJ}{o:HO}(h:b≠a):upd H a o b=H b:=by unfold upd;rw[if_neg h]
def zjB{H:Hp}{a:AJ}{o u:HO}:upd (upd H a o) a u=upd H a u:=by
 funext b;unfold upd;split<;>rfl
def znZ{H:Hp}{a b:AJ}{o u:HO}(h:H a=AA o)(h':H b=AA u)(d:o≠u):a≠b:=by
 intro e;subst e;rw[h]at h';exact d (A6 h')
def zn{H:Hp}{a b:AJ}{o:HO}(h:H a=AA o)(h':H b=AD):a≠b:=by
 intro e;subst e;rw[h]at h';cases h'
section
variable (P:Aa)(w:Am)
def yS(H:Hp)(h:Aw)(a:AJ):HO->Prop
 |.lst xs=>xs.length<=sizeLine/\∃(its:List AH) (n:Nat),Vals xs its/\h.get? a=AA {cls:=.type "list",data:=.seq its.toArray n}
 |.tup xs=>xs.length<=sizeLine/\∃its:List AH,Vals xs its/\Gy h a its.toArray
 |.dK kvs=>kvs.length<=sizeLine/\(a==sysModules)=AB/\∃vs,KV kvs vs/\h.DictOf (yO P w) a vs
 |.dT kvs=>kvs.length<=sizeLine/\(a==sysModules)=AB/\∃xs:List (List Key×AJ×AH),
   Fw (λ(p:List Key×V) (q:List Key×AJ×AH)=>p.1=q.1/\H q.2.1=AA (.tup (p.1.map kV))/\RelV p.2 q.2.2) kvs xs /\
   ∃o es ep,h.get? a=AA o/\o.ExactDict/\o.data=.dict es ep/\es.toList=xs.map (entryOfKey (tupleKind (yO P w)))/\(xs.map (·.1)).Nodup
 |.set S n=>h.SetOf (intKind P w) a S n
 |.ins C dx fs=>H dx=AA (.own a)/\fs.length<=1000/\dx≠a/\h.get? a=AA (Bm C dx) /\
   ∃mA,h.Ns1 dx mA/\(∀f,ybj (fs.lookup f) (mA f))/\F3 mA (fs.map (·.1))
 |.own _=>∃o,h.get? a=AA o
 |.xd fs=>∃mA,h.Ns1 a mA/\∀f,ybj (fs.lookup f) (mA f)
 |.rng lo hi=>∃t u v,h.get? a=AA {cls:=.type "range",data:=.fields #[.int lo t,.int hi u,.int 1 v]}
 |.frz o u=>h.get? a=AA o/\yS H h a u
 |.tbl ps=>h.get? a=AA {cls:=.none,data:=.fields ps}
 |.met f x=>h.get? a=AA (Dt (.ref f) (.ref x))
 |.ext φ=>φ h/\(∃o,h.get? a=AA o)/\∀h1 h2:Aw,φ h1->(∀o,h1.get? a=AA o->h2.get? a=AA o)->φ h2
def HOk(H:Hp)(h:Aw):Prop:=∀a o,H a=AA o->yS P w H h a o
end
section
variable {P:Aa}{w:Am}{H H':Hp}{h h':Aw}{a:AJ}{o:HO}
theorem yS.lt(x:yS P w H h a o):a<h.objs.size:=by
 cases o with
 |lst xs=>let⟨_,_,_,_,e⟩:=x;exact A4 e
 |tup xs=>let⟨_,_,_,p⟩:=x;exact p.lt
 |dK kvs=>let⟨_,_,_,_,o,_,_,e,_⟩:=x;exact A4 e
 |dT kvs=>let⟨_,_,_,_,o,_,_,e,_⟩:=x;exact A4 e
 |set S n=>let⟨o,_,_,_,e,_⟩:=x;exact A4 e
 |ins C dx fs=>let⟨_,_,_,e,_⟩:=x;exact A4 e
 |own y=>let⟨_,e⟩:=x;exact A4 e
 |xd fs=>let⟨_,⟨_,_,_,e,_⟩,_⟩:=x;exact A4 e
 |rng lo hi=>let⟨_,_,_,e⟩:=x;exact A4 e
 |frz ob u=>let⟨e,_⟩:=x;exact A4 e
 |tbl ps=>exact A4 (show h.get? a=AA _ from x)
 |met f y=>exact A4 (show h.get? a=AA _ from x)
 |ext φ=>let⟨_,⟨_,e⟩,_⟩:=x;exact A4 e
theorem Paired.mapP{α β:Type}{F G:α->β->Prop}:∀{l₁:List α} {l₂:List β},Fw F l₁ l₂->(∀a b,F a b->G a b)->Fw G l₁ l₂
 |_,_,.nil,_=>.nil
 |_,_,.cons r t,f=>.cons (f _ _ r) (Paired.mapP t f)
theorem yS.stay(x:yS P w H h a o)(k:∀b u,(b=a \/ H b=AA (.own a))->h.get? b=AA u->h'.get? b=AA u)
  (ho:∀b,H b=AA (.own a)->H' b=AA (.own a)) (ht:∀b xs,H b=AA (.tup xs)->H' b=AA (.tup xs)):yS P w H' h' a o:=by
 induction o with
 |lst xs=>let⟨z,its,n,r,e⟩:=x;exact⟨z,its,n,r,k _ _ (.inl rfl) e⟩
 |tup xs=>let⟨z,its,r,ob,e,c⟩:=x;exact⟨z,its,r,ob,k _ _ (.inl rfl) e,c⟩
 |dK kvs=>let⟨z,y,vs,r,ob,es,ep,e,c⟩:=x;exact⟨z,y,vs,r,ob,es,ep,k _ _ (.inl rfl) e,c⟩
 |dT kvs=>
  let⟨z,y,xs,r,ob,es,ep,e,c⟩:=x;exact⟨z,y,xs,Paired.mapP r λp q z=>⟨z.1,ht _ _ z.2.1,z.2.2⟩,ob,es,ep,k _ _ (.inl rfl) e,c⟩
 |set S n=>let⟨ob,es,ep,t,e,c⟩:=x;exact⟨ob,es,ep,t,k _ _ (.inl rfl) e,c⟩
 |ins C dx fs=>
  let⟨d,z,ne,e,mA,⟨od,es,ep,e2,c⟩,r⟩:=x;exact⟨ho _ d,z,ne,k _ _ (.inl rfl) e,mA,⟨od,es,ep,k _ _ (.inr d) e2,c⟩,r⟩
 |own y=>let⟨ob,e⟩:=x;exact⟨ob,k _ _ (.inl rfl) e⟩
 |xd fs=>let⟨mA,⟨od,es,ep,e,c⟩,r⟩:=x;exact⟨mA,⟨od,es,ep,k _ _ (.inl rfl) e,c⟩,r⟩
 |rng lo hi=>let⟨t,u,v,e⟩:=x;exact⟨t,u,v,k _ _ (.inl rfl) e⟩
 |frz ob u ih=>let⟨e,q⟩:=x;exact⟨k _ _ (.inl rfl) e,ih q⟩
 |tbl ps=>
  have e:h.get? a=AA {cls:=.none,data:=.fields ps}:=x;show h'.get? a=AA {cls:=.none,data:=.fields ps};exact k a _ (.inl rfl) e
 |met f y=>
  have e:h.get? a=AA (Dt (.ref f) (.ref y)):=x;show h'.get? a=AA (Dt (.ref f) (.ref y));exact k a _ (.inl rfl) e
 |ext φ=>let⟨p,⟨o,e⟩,st⟩:=x;exact⟨st _ _ p λo q=>k _ _ (.inl rfl) q,⟨o,k _ _ (.inl rfl) e⟩,st⟩
theorem HOk.lt(x:HOk P w H h)(e:H a=AA o):a<h.objs.size:=(x a o e).lt
theorem HOk.fresh(x:HOk P w H h)(e:h.objs.size<=a):H a=none:=by
 cases q:H a with
 |none=>rfl
 |some u=>exact absurd (A9 (x.lt q) e) (Cf _)
theorem HOk.kept(x:HOk P w H h)(k:∀b u,h.get? b=AA u->h'.get? b=AA u):HOk P w H h':=λa o e=>
 (x a o e).stay (λb u _ q=>k b u q) (λ_ q=>q) λ_ _ q=>q
theorem HOk.laid(x:HOk P w H h)(k:∀b u,h.get? b=AA u->h'.get? b=AA u)(hp:h.objs.size<=a)(new:yS P w (upd H a o) h' a o):HOk P w (upd H a o) h':=λb u e=>by
 have hn:=x.fresh hp
 by_cases hb:b=a
 .subst hb;rw[zl]at e;cases e;exact new
 .rw[zk hb]at e;exact(x b u e).stay (λc v _ q=>k c v q) (λc q=>by rw[zk (zn q hn)];exact q) λc xs q=>by rw[zk (zn q hn)];exact q
end
def Rd(H:Hp)(a:AJ)(u:HO):Prop:=H a=AA u \/ ∃o,H a=AA (.frz o u)
theorem Rd.of{H:Hp}{a:AJ}{u:HO}(h:H a=AA u):Rd H a u:=.inl h
theorem Rd.ok{P:Aa}{w:Am}{H:Hp}{h:Aw}{a:AJ}{u:HO}(r:Rd H a u)(x:HOk P w H h):yS P w H h a u:=by
 rcases r with r|⟨o,r⟩
 .exact x a u r
 .let⟨_,q⟩:=x a _ r;exact q
def Mut:Option HO->Prop
 |some (.lst _)=>True
 |some (.dK _)=>True
 |some (.dT _)=>True
 |some (.set _ _)=>True
 |some (.ins _ _ _)=>True
 |some (.ext _)=>True
 |_=>False
section
variable {P:Aa}{w:Am}{H:Hp}{h h':Aw}{x e:AJ}{o':HO}
theorem HOk.write(ok:HOk P w H h)(mu:Mut (H x))(he:e=x \/ H e=AA (.own x))(k:∀b u,b≠e->h.get? b=AA u->h'.get? b=AA u)(heo:∃u,h'.get? e=AA u)
  (new:yS P w (upd H x o') h' x o'):HOk P w (upd H x o') h':=λb u q=>by
 have nown:∀c y,H c=AA (.own y)->c≠x:=λc y r z=>by subst z;rw[r]at mu;exact mu
 have ntup:∀c xs,H c=AA (.tup xs)->c≠x:=λc xs r z=>by subst z;rw[r]at mu;exact mu
 by_cases hb:b=x
 .subst hb;rw[zl]at q;cases q;exact new
 .rw[zk hb]at q
  by_cases hbe:b=e
  .have q':H b=AA (.own x):=by
    rcases he with z|z
    .exact absurd (hbe.trans z) hb
    .rw[hbe];exact z
   rw[q]at q';cases q';let⟨v,hv⟩:=heo;exact⟨v,by rw[hbe];exact hv⟩
  .refine(ok b u q).stay (λc v hc r=>k c v ?_ r) (λc r=>by rw[zk (nown c b r)];exact r) λc xs r=>by rw[zk (ntup c xs r)];exact r
   rcases hc with rfl|hc
   .exact hbe
   .rintro rfl
    rcases he with z|z
    .exact nown c b hc z
    .rw[hc]at z;cases z;exact hb rfl
end
structure Un(fs ex:List AJ)(H H':Hp)(h h':Aw):Prop where
 keep:∀b o,h.get? b=AA o->H b=AD->b∉fs->b∉ex->h'.get? b=AA o
 slot:∀b o,h.get? b=AA o->H b=AD->b∈fs->b∉ex->∃sl,h'.get? b=AA {o with slots:=sl}
 free:∀b o,h.get? b=AA o->H b=AD->b∉ex->H' b=AD
 there:∀b o,h.get? b=AA o->b∉ex->∃o',h'.get? b=AA o'
 tups:∀b xs,H b=AA (.tup xs)->H' b=AA (.tup xs)
 frzs:∀b o u,H b=AA (.frz o u)->H' b=AA (.frz o u)
 tbls:∀b ps,H b=AA (.tbl ps)->∃more,H' b=AA (.tbl (ps++more))
section
variable {fs fs' ex ex':List AJ}{H H1 H2:Hp}{h h1 h2 h':Aw}{a x e:AJ}{o:HO}
theorem Un.any(u:Un fs ex H H1 h h1){b:AJ}{ob:Bb}(q:h.get? b=AA ob)(n:H b=AD)(hx:b∉ex):∃sl,h1.get? b=AA {ob with slots:=sl}:=by
 by_cases hb:b∈fs
 .exact u.slot b ob q n hb hx
 .exact⟨ob.slots,u.keep b ob q n hb hx⟩
theorem Un.kept(k:∀b u,h.get? b=AA u->h'.get? b=AA u):Un fs ex H H h h':=
 ⟨λb ob q _ _ _=>k b ob q,λb ob q _ _ _=>⟨ob.slots,k b ob q⟩,λ_ _ _ n _=>n,λb ob q _=>⟨ob,k b ob q⟩,λ_ _ q=>q,λ_ _ _ q=>q,λ_ ps q=>⟨#[],by rw[q];simp⟩⟩
theorem Un.refl:Un fs ex H H h h:=Un.kept λ_ _ q=>q
theorem Un.laid(k:∀b u,h.get? b=AA u->h'.get? b=AA u)(hp:h.objs.size<=a)(hn:H a=AD):Un fs ex H (upd H a o) h h' where
 keep:=λb u q _ _ _=>k b u q
 slot:=λb u q _ _ _=>⟨u.slots,k b u q⟩
 free:=λb u q n _=>by rw[zk (Ar (A9 (A4 q) hp))];exact n
 there:=λb u q _=>⟨u,k b u q⟩
 tups:=λb xs q=>by rw[zk (zn q hn)];exact q
 frzs:=λb u xs q=>by rw[zk (zn q hn)];exact q
 tbls:=λb ps q=>⟨#[],by rw[zk (zn q hn),q];simp⟩
theorem Un.write(mu:Mut (H x))(he:e=x \/ H e=AA (.own x))(k:∀b u,b≠e->h.get? b=AA u->h'.get? b=AA u)(heo:∃u,h'.get? e=AA u):Un fs ex H (upd H x o) h h':=by
 have hx:∀b,H b=AD->b≠x:=λb n z=>by subst z;rw[n]at mu;exact mu
 have hb:∀b,H b=AD->b≠e:=λb n z=>by
  subst z;rcases he with r|r
  .exact hx b n r
  .rw[n]at r;cases r
 have hm:∀b u,H b=AA u->¬Mut (AA u)->b≠x:=λb u q nm z=>by subst z;rw[q]at mu;exact nm mu
 refine⟨λb u q n _ _=>k b u (hb b n) q,λb u q n _ _=>⟨u.slots,k b u (hb b n) q⟩,λb u q n _=>by rw[zk (hx b n)];exact n,λb u q _=>?_,
  λb xs q=>by rw[zk (hm b _ q λz=>z)];exact q,λb u xs q=>by rw[zk (hm b _ q λz=>z)];exact q,λb ps q=>⟨#[],by rw[zk (hm b _ q λz=>z),q];simp⟩⟩
 by_cases hbe:b=e
 .subst hbe;exact heo
 .exact⟨u,k b u hbe q⟩
end
def trk(h:Aw)(H:Hp):List Addr:=(EW h.objs.size).filter λa=>(H a).isSome
def ycq(h:Aw)(H:Hp):Heap:=Ci h (trk h H)
def zfX(h:Aw)(H:Hp):(ycq h H).objs.size=h.objs.size:=PySem.W.hideAll_size _ _
def zhU{h:Aw}{H:Hp}{b:AJ}{o:Bb}(e:h.get? b=AA o)(n:H b=AD):(ycq h H).get? b=AA o:=
 FG _ e λhm=>by
  have q:(H b).isSome=true:=(GQ.mp hm).2;rw[n]at q;simp at q
def zjN{h:Aw}{H:Hp}{b:AJ}{o:Bb}(e:(ycq h H).get? b=AA o):h.get? b=AA o/\H b=none:=by
 have e':h.get? b=AA o:=FV (trk h H) e;refine⟨e',?_⟩
 cases q:H b with
 |none=>rfl
 |some x=>
  have hm:b∈trk h H:=GQ.mpr ⟨GY.mpr (A4 e'),by simp[q]⟩;have z:(ycq h H).get? b=none:=PySem.W.hideAll_none (trk h H) hm;rw[z]at e;cases e
structure Mod(K:AF)(mg:AO->Option AH)(base:Aw):Prop where
 kin:K.In base
 glob:base.Ns mainGlobals mg
 blt:∃mb,base.Ns builtinsNs mb/\∀x:AO,x ≠ "__name__"->mb x=bootBuiltins x
 nolimit:base.NoLimit
structure Cx where
 prog:Aa
 w:Am
 K:AF
 mg:AO->Option AH
 base:Aw
 A:An
 N:List AO
 s₀:AK
 H₀:Hp
 env:Env
 outer:List Env
 stack:List Env
 ex:List AJ
 fn:AO->Bool
 calm:Bool
 pn:List (AJ×Bb)
 xe:AH->AK->Prop
def frs(l:List Env):List Addr:=l.filterMap (·.frame)
abbrev Cx.fs(X:Cx):List Addr:=frs X.outer
def Vis(sc:BQ)(x:AO):Prop:=sc.names.lookup x=AA .local \/ sc.names.lookup x=AA .cell \/ sc.names.lookup x=AA .free
def Loc(sc:BQ)(x:AO):Prop:=sc.names.lookup x=AA .local \/ sc.names.lookup x=AA .cell
def Look(env:Env)(h:Aw)(m:AO->Option AH)(x:AO)(u:AH):Prop:=
 (env.kindOf x=AA .local/\m x=AA u) \/ ((env.kindOf x=AA .cell \/ env.kindOf x=AA .free)/\∃c,env.cells.lookup x=AA c/\h.IsCell c (AA u))
structure Cx.Ok(X:Cx):Prop where
 mod:Mod X.K X.mg X.base
 kind:X.env.scope.kind=.function
 glob:X.env.globals=mainGlobals
 blt:X.env.builtins=builtinsNs
 above:X.s₀.heap.objs.size<=X.env.locals
 inj:∀x y c,X.env.cells.lookup x=AA c->X.env.cells.lookup y=AA c->x=y
 has:∀x,(X.env.kindOf x=AA .cell \/ X.env.kindOf x=AA .free)->∃c,X.env.cells.lookup x=AA c
 cab:∀x c,X.fn x=AC->X.env.cells.lookup x=AA c->X.s₀.heap.objs.size<=c
 hd:X.calm=AC->X.A.handled=AD
 frames:X.A.frames=AA X.stack
 stk:X.stack=X.outer \/ (X.stack=X.env::X.outer/\X.env.frame=AA X.env.locals)
 exf:∀b∈X.ex,b≠X.env.locals/\∀x c,X.env.cells.lookup x=AA c->c≠b
 bs:∀b o,X.base.get? b=AA o->X.s₀.heap.get? b=AA o/\X.H₀ b=AD
 bsz:X.base.objs.size<=X.s₀.heap.objs.size
 noex:∀b o,X.base.get? b=AA o->b∉X.ex
 exfs:∀b∈X.ex,b∉X.fs
 funs:X.s₀.heap.FunFrames X.base X.outer
 frf:∀b∈X.fs,X.H₀ b=AD
structure Inv(X:Cx)(π:List (AJ×Bb))(σ:List (Option V))(H:Hp)(s:AK):Prop where
 ok:X.Ok
 os:s.os=X.s₀.os
 bare:Co s.gens
 base:Un X.fs X.ex X.H₀ H X.s₀.heap s.heap
 loc:∃m,s.heap.Ns X.env.locals m/\∀(i:Nat) (x:AO) (v:V),X.N[i]?=AA x->σ[i]?=AA (AA v)->Vis X.env.scope x->∃u,RelV v u/\Look X.env s.heap m x u
 cell:∀x c,X.env.cells.lookup x=AA c->∃v,s.heap.IsCell c v
 free:H X.env.locals=AD
 freeC:∀x c,X.env.cells.lookup x=AA c->H c=AD
 pin:∀p∈X.pn++π,s.heap.get? p.1=AA p.2/\H p.1=AD/\p.1≠X.env.locals/\p.1∉X.fs/\∀v,p.2.data ≠ .cell v
 hok:HOk X.prog X.w H s.heap
 len:σ.length=X.N.length
section
variable {X:Cx}{π:List (AJ×Bb)}{σ:List (Option V)}{H H':Hp}{s:AK}{h':Aw}
theorem Cx.Ok.nofr(ok:X.Ok){b:AJ}{o:Bb}(e:X.base.get? b=AA o):b∉X.fs:=λhb=>by
 have:=(ok.funs.mem hb).1;rw[e]at this;cases this
theorem Inv.bs(I:Inv X π σ H s):∀b o,X.base.get? b=AA o->s.heap.get? b=AA o/\H b=none:=λb o e=>
 ⟨I.base.keep b o (I.ok.bs b o e).1 (I.ok.bs b o e).2 (I.ok.nofr e) (I.ok.noex b o e),I.base.free b o (I.ok.bs b o e).1 (I.ok.bs b o e).2 (I.ok.noex b o e)⟩
theorem Inv.bk(I:Inv X π σ H s):∀b o,X.base.get? b=AA o->s.heap.get? b=AA o:=λb o e=>(I.bs b o e).1
theorem Inv.mod(I:Inv X π σ H s):Mod X.K X.mg X.base:=I.ok.mod
theorem Inv.kIn(I:Inv X π σ H s):X.K.In s.heap:=I.ok.mod.kin.keeps I.bk
theorem Inv.lt(I:Inv X π σ H s):X.env.locals<s.heap.objs.size:=let ⟨_,hn,_⟩:=I.loc;hn.lt
theorem Inv.sz(I:Inv X π σ H s):X.s₀.heap.objs.size<=s.heap.objs.size:=BH I.ok.above (F4 I.lt)
theorem Inv.nofs(I:Inv X π σ H s){a:AJ}(h:s.heap.objs.size<=a):a∉X.fs:=λhb=>by
 let⟨_,o,ho,_⟩:=I.ok.funs.mem hb;exact absurd (A9 (A4 ho) (BH I.sz h)) (Cf _)
theorem Inv.cne(I:Inv X π σ H s):∀x c,X.env.cells.lookup x=AA c->c≠X.env.locals:=λx c e z=>by
 let⟨v,o,ho,hd⟩:=I.cell x c e;let⟨m,⟨o',es,ep,ho',hd',_⟩,_⟩:=I.loc;rw[z,ho']at ho;cases ho;rw[hd']at hd;cases hd
theorem Inv.funs(I:Inv X π σ H s):s.heap.FunFrames X.base X.outer:=by
 have all:∀(l:List Env),(∀b∈frs l,b∈X.fs)->X.s₀.heap.FunFrames X.base l->s.heap.FunFrames X.base l:=by
  intro l
  induction l with
  |nil=>intro _ _;trivial
  |cons env r ih=>
   intro hs hl;let⟨hk,⟨L,o,hf,hn,ho,hd⟩,hr⟩:=hl;have hL:L∈X.fs:=hs L (by unfold frs;rw[CM,hf];exact A7);let⟨sl,e⟩:=I.base.slot L o ho (I.ok.frf L hL) hL λz=>I.ok.exfs L z hL;exact⟨hk,⟨L,_,hf,hn,e,hd⟩,ih (λb hb=>hs b (by unfold frs;rw[CM,hf];exact AU _ hb)) hr⟩
 exact all X.outer (λ_ hb=>hb) I.ok.funs
theorem Inv.stack(I:Inv X π σ H s):s.heap.FunFrames X.base X.stack:=by
 rcases I.ok.stk with e|⟨e,hf⟩
 .rw[e];exact I.funs
 .rw[e];let⟨m,hn,_⟩:=I.loc;refine .cons (by rw[I.ok.kind];decide) hf hn ?_ I.funs;exact Heap.get?_none_of_le (BH I.ok.bsz I.ok.above)
theorem Inv.stkSub(I:Inv X π σ H s):∀b∈frs X.stack,b∈X.env.locals::X.fs:=λb hb=>by
 rcases I.ok.stk with e|⟨e,hf⟩
 .rw[e]at hb;exact AU _ hb
 .rw[e]at hb;unfold frs at hb;rw[CM,hf]at hb;exact hb
theorem Inv.stkFree(I:Inv X π σ H s):∀b∈frs X.stack,H b=none:=λb hb=>by
 rcases AL.mp (I.stkSub b hb)with e|hb
 .rw[e];exact I.free
 .let⟨_,o,ho,_⟩:=I.ok.funs.mem hb;exact I.base.free b o ho (I.ok.frf b hb) λz=>I.ok.exfs b z hb
theorem Inv.step{g':Array GenState}{t':Nat}{d':Drawn}{ch:List AJ}(I:Inv X π σ H s)
  (hch:∀b∈ch,(b∈X.ex \/ X.s₀.heap.objs.size<=b)/\b≠X.env.locals/\(∀x c,X.env.cells.lookup x=AA c->c≠b)/\∀p∈X.pn++π,p.1≠b)
  (keep:∀b o,b≠X.env.locals->b∉X.fs->b∉ch->s.heap.get? b=AA o->H b=AD->h'.get? b=AA o)
  (slot:∀b o,b≠X.env.locals->b∈X.fs->b∉ch->s.heap.get? b=AA o->H b=AD->∃sl,h'.get? b=AA {o with slots:=sl}) (free:∀b o,b∉ch->s.heap.get? b=AA o->H b=AD->H' b=AD)
  (there:∀b o,b∉ch->s.heap.get? b=AA o->∃o',h'.get? b=AA o')
  (tups:∀b xs,H b=AA (.tup xs)->H' b=AA (.tup xs)) (frzs:∀b o u,H b=AA (.frz o u)->H' b=AA (.frz o u)) (tbls:∀b ps,H b=AA (.tbl ps)->∃more,H' b=AA (.tbl (ps++more)))
  (ns:∀m,s.heap.Ns X.env.locals m->h'.Ns X.env.locals m) (hok:HOk X.prog X.w H' h') (hg:Co g'):
  Inv X π σ H' {s with heap:=h',gens:=g',drawn:=d',toks:=t'}:=by
 have neL:∀b o,X.s₀.heap.get? b=AA o->b≠X.env.locals:=λb o e=>Ar (A9 (A4 e) I.ok.above);have neC:∀b o,X.s₀.heap.get? b=AA o->b∉X.ex->b∉ch:=λb o e hx hb=>by
  rcases (hch b hb).1 with z|z
  .exact hx z
  .exact absurd (A9 (A4 e) z) (Cf _)
 have cellK:∀x c,X.env.cells.lookup x=AA c->∀v,s.heap.IsCell c v->h'.IsCell c v:=λx c e v ⟨o,ho,hd⟩=>by
  have nch:c∉ch:=λz=>(hch c z).2.2.1 x c e rfl
  by_cases hc:c∈X.fs
  .let⟨sl,q⟩:=slot c o (I.cne x c e) hc nch ho (I.freeC x c e);exact⟨_,q,hd⟩
  .exact⟨o,keep c o (I.cne x c e) hc nch ho (I.freeC x c e),hd⟩
 refine⟨I.ok,I.os,hg,⟨λb o e n hb hx=>?_,λb o e n hb hx=>?_,λb o e n hx=>?_,λb o e hx=>?_,λb xs e=>tups b xs (I.base.tups b xs e),λb o xs e=>frzs b o xs (I.base.frzs b o xs e),λb ps e=>?_⟩,?_,λx c e=>?_,?_,λx c e=>?_,λp hp=>?_,hok,I.len⟩
 .exact keep b o (neL b o e) hb (neC b o e hx) (I.base.keep b o e n hb hx) (I.base.free b o e n hx)
 .let⟨sl,e1⟩:=I.base.slot b o e n hb hx;let⟨sl',e2⟩:=slot b _ (neL b o e) hb (neC b o e hx) e1 (I.base.free b o e n hx);exact⟨sl',e2⟩
 .let⟨o',e1⟩:=I.base.there b o e hx;exact free b o' (neC b o e hx) e1 (I.base.free b o e n hx)
 .let⟨o',e1⟩:=I.base.there b o e hx;exact there b o' (neC b o e hx) e1
 .let⟨m1,e1⟩:=I.base.tbls b ps e;let⟨m2,e2⟩:=tbls b _ e1;exact⟨m1++m2,by rw[e2,D6]⟩
 .let⟨m,hn,hl⟩:=I.loc;refine⟨m,ns m hn,λi x v e1 e2 e3=>?_⟩;let⟨u,r,l⟩:=hl i x v e1 e2 e3;refine⟨u,r,?_⟩;rcases l with l|⟨k,c,e,z⟩
  .exact .inl l
  .exact .inr ⟨k,c,e,cellK x c e _ z⟩
 .let⟨v,z⟩:=I.cell x c e;exact⟨v,cellK x c e v z⟩
 .let⟨m,⟨o,_,_,ho,_⟩,_⟩:=I.loc;exact free _ o (λz=>(hch _ z).2.1 rfl) ho I.free
 .let⟨v,o,ho,hd⟩:=I.cell x c e;exact free c o (λz=>(hch c z).2.2.1 x c e rfl) ho (I.freeC x c e)
 .let⟨e,n,ne,nf,d⟩:=I.pin p hp;have nch:p.1∉ch:=λz=>(hch p.1 z).2.2.2 p hp rfl;exact⟨keep p.1 p.2 ne nf nch e n,free p.1 p.2 nch e n,ne,nf,d⟩
theorem Inv.un{t':Nat}(I:Inv X π σ H s)(u:Un X.fs [] H H' s.heap h')(hok:HOk X.prog X.w H' h'):Inv X π σ H' {s with heap:=h',toks:=t'}:=by
 let⟨m,⟨o,es,ep,ho,r⟩,_⟩:=id I.loc;let⟨sl,hL⟩:=u.any ho I.free (by simp);exact I.step (g':=s.gens) (d':=s.drawn) (ch:=[]) (λ_ z=>nomatch z) (λb o _ hb _ e n=>u.keep b o e n hb (by simp)) (λb o _ hb _ e n=>u.slot b o e n hb (by simp)) (λb o _ e n=>u.free b o e n (by simp)) (λb o _ e=>u.there b o e (by simp)) u.tups u.frzs u.tbls (λm' hm=>by
  let⟨o',es',ep',ho',r'⟩:=hm;rw[ho]at ho';cases ho';exact⟨_,es',ep',hL,r'⟩) hok I.bare
theorem Inv.call{g':Array GenState}{t':Nat}{d':Drawn}{ch:List AJ}(I:Inv X π σ H s)(u:Un (frs X.stack) ch H H' s.heap h')(hok:HOk X.prog X.w H' h')(hg:Co g')
  (hch:∀b∈ch,(b∈X.ex \/ X.s₀.heap.objs.size<=b)/\b≠X.env.locals/\(∀x c,X.env.cells.lookup x=AA c->c≠b)/\∀p∈X.pn++π,p.1≠b):
  Inv X π σ H' {s with heap:=h',gens:=g',drawn:=d',toks:=t'}:=by
 let⟨m,⟨o,es,ep,ho,r⟩,_⟩:=id I.loc;let⟨sl,hL⟩:=u.any ho I.free λz=>(hch _ z).2.1 rfl;exact I.step (ch:=ch) hch (λb o hL hb hc e n=>u.keep b o e n (λz=>(AL.mp (I.stkSub b z)).elim hL hb) hc) (λb o _ _ hc e n=>u.any e n hc) (λb o hc e n=>u.free b o e n hc) (λb o hc e=>u.there b o e hc) u.tups u.frzs u.tbls (λm' hm=>by
  let⟨o',es',ep',ho',r'⟩:=hm;rw[ho]at ho';cases ho';exact⟨_,es',ep',hL,r'⟩) hok hg
theorem Inv.turned{t':Nat}{it:AJ}(I:Inv X π σ H s)(k:∀b o,b≠it->s.heap.get? b=AA o->h'.get? b=AA o)(hn:H it=AD)(hL:it≠X.env.locals)
  (h1:it∈X.ex \/ X.s₀.heap.objs.size<=it) (h2:∀x c,X.env.cells.lookup x=AA c->c≠it) (h3:∀p∈X.pn++π,p.1≠it):Inv X π σ H {s with heap:=h',toks:=t'}:=by
 have nit:∀b u,H b=AA u->b≠it:=λb u e z=>by rw[z,hn]at e;cases e
 refine I.step (g':=s.gens) (d':=s.drawn) (ch:=[it]) (λb hb=>?_) (λb o _ _ hc e _=>k b o (λz=>hc (by simp[z])) e) (λb o _ _ hc e _=>⟨o.slots,k b o (λz=>hc (by simp[z])) e⟩) (λ_ _ _ _ n=>n)
  (λb o hc e=>⟨o,k b o (λz=>hc (by simp[z])) e⟩) (λ_ _ e=>e) (λ_ _ _ e=>e) (λb ps e=>⟨#[],by rw[e];simp⟩) (λm hm=>?_) (λb u e=>?_) I.bare
 .have e:b=it:=by simpa using hb
  subst e;exact⟨h1,hL,h2,h3⟩
 .let⟨o,es,ep,ho,r⟩:=hm;exact⟨o,es,ep,k _ o (BP hL) ho,r⟩
 .refine(I.hok b u e).stay (λc v hc q=>k c v ?_ q) (λ_ q=>q) λ_ _ q=>q;rcases hc with z|z
  .rw[z];exact nit b u e
  .exact nit c _ z
theorem Inv.tok(I:Inv X π σ H s)(t:Nat):Inv X π σ H {s with toks:=t}:=I.un (h':=s.heap) (t':=t) Un.refl I.hok
theorem Inv.kept{t':Nat}(I:Inv X π σ H s)(k:∀b u,s.heap.get? b=AA u->h'.get? b=AA u):Inv X π σ H {s with heap:=h',toks:=t'}:=I.un (Un.kept k) (I.hok.kept k)
theorem Inv.laid{a:AJ}{o:HO}{t':Nat}(I:Inv X π σ H s)(k:∀b u,s.heap.get? b=AA u->h'.get? b=AA u)(hp:s.heap.objs.size<=a)(new:yS X.prog X.w (upd H a o) h' a o):
  Inv X π σ (upd H a o) {s with heap:=h',toks:=t'}:=I.un (Un.laid k hp (I.hok.fresh hp)) (I.hok.laid k hp new)
theorem Inv.write{x e:AJ}{o:HO}{t':Nat}(I:Inv X π σ H s)(mu:Mut (H x))(he:e=x \/ H e=AA (.own x))(k:∀b u,b≠e->s.heap.get? b=AA u->h'.get? b=AA u)(heo:∃u,h'.get? e=AA u)
  (new:yS X.prog X.w (upd H x o) h' x o):Inv X π σ (upd H x o) {s with heap:=h',toks:=t'}:=I.un (Un.write mu he k heo) (I.hok.write mu he k heo new)
theorem Inv.pins_of{pins':List (AJ×Bb)}(I:Inv X π σ H s)(h:∀p∈pins',s.heap.get? p.1=AA p.2/\H p.1=AD/\p.1≠X.env.locals/\p.1∉X.fs/\∀v,p.2.data ≠ .cell v):Inv X pins' σ H s:=
 ⟨I.ok,I.os,I.bare,I.base,I.loc,I.cell,I.free,I.freeC,λp hp=>(Ak.mp hp).elim (λz=>I.pin p (C4 _ z)) (h p),I.hok,I.len⟩
def ze4{N:List AO}(hN:N.Nodup){i j:Nat}{x:AO}(a:N[i]?=AA x)(b:N[j]?=AA x):i=j:=by
 let⟨h1,e1⟩:=A2.mp a;let⟨h2,e2⟩:=A2.mp b;exact(List.getElem_inj hN).mp (e1.trans e2.symm)
def zgB{M:GZ}{A:An}{E:AH->AK->Prop}{i:Nat}{x:AO}{v:V}{u:AH}{Q:Unit->AK->Prop}(I:Inv X π σ H s)(hN:X.N.Nodup)(hi:X.N[i]?=AA x)(hx:Loc X.env.scope x)(r:RelV v u)
  (h:∀s',Inv X π (σ.set i (AA v)) H s'->(∃a,CU a s.heap s'.heap/\(a=X.env.locals \/ X.env.cells.lookup x=AA a))->Q () s') (hf:X.fn x=AC \/ X.env.scope.names.lookup x=AA .local:=by first|exact .inl rfl|exact .inr rfl|assumption):A5 M A (storeName X.env x u) Q E s:=by
 let⟨m,hn,hl⟩:=id I.loc;have hcls:(X.env.scope.kind==.class || (X.env.scope.kind==.module&&X.env.locals != X.env.globals))=false:=by rw[I.ok.kind];rfl
 have hiσ:i<σ.length:=by rw[I.len];exact(A2.mp hi).1
 have cne:=I.cne;have tracked:∀{a:AJ} {h':Aw},(∃o,s.heap.get? a=AA o/\H a=AD)->CU a s.heap h'->HOk X.prog X.w H h':=λ{a h'} ha hs b ob e=>by
  let⟨_,_,hfree⟩:=ha;refine(I.hok b ob e).stay (λc w' hc q=>(hs.2 c ?_).trans q) (λ_ q=>q) λ_ _ q=>q
  rintro rfl
  rcases hc with rfl|hc
  .rw[hfree]at e;cases e
  .rw[hfree]at hc;cases hc
 rcases hx with hk|hk
 .refine wpAny_storeName_local hk hn (λh' hn' hs=>?_) hcls;let⟨oL,_,_,hoL,_⟩:=id hn;refine h _ ⟨I.ok,I.os,I.bare,⟨λb o e n hb hx=>?_,λb o e n hb hx=>?_,I.base.free,λb o e hx=>?_,I.base.tups,I.base.frzs,I.base.tbls⟩,⟨_,hn',λj y v' e1 e2 e3=>?_⟩,λy c e=>?_,I.free,I.freeC,λp hp=>?_,tracked ⟨oL,hoL,I.free⟩ hs,by simpa using I.len⟩ ⟨_,hs,.inl rfl⟩
  .exact(hs.2 b (Ar (A9 (A4 e) I.ok.above))).trans (I.base.keep b o e n hb hx)
  .let⟨sl,e1⟩:=I.base.slot b o e n hb hx;exact⟨sl,(hs.2 b (Ar (A9 (A4 e) I.ok.above))).trans e1⟩
  .let⟨o',e1⟩:=I.base.there b o e hx;exact⟨o',(hs.2 b (Ar (A9 (A4 e) I.ok.above))).trans e1⟩
  .by_cases hj:j=i
   .subst hj;rw[hi]at e1;cases e1;rw[Ao hiσ]at e2
    cases e2
    exact⟨u,r,.inl ⟨hk,by simp⟩⟩
   .rw[A3 (BP hj)]at e2;let⟨u',r',q⟩:=hl j y v' e1 e2 e3;refine⟨u',r',?_⟩;rcases q with⟨k,e⟩|⟨k,c,e,z⟩
    .refine .inl ⟨k,?_⟩;have:y≠x:=λe=>hj (ze4 hN e1 (e ▸ hi));simp[this,e]
    .exact .inr ⟨k,c,e,z.sameBut hs (cne y c e)⟩
  .let⟨w',z⟩:=I.cell y c e;exact⟨w',z.sameBut hs (cne y c e)⟩
  .let⟨e,n,ne,nf,d⟩:=I.pin p hp;exact⟨(hs.2 p.1 ne).trans e,n,ne,nf,d⟩
 .have hfn:X.fn x=true:=by
   rcases hf with z|z
   .exact z
   .rw[z]at hk;cases hk
  let⟨c,hc⟩:=I.ok.has x (.inl hk);let⟨w',z⟩:=I.cell x c hc;refine wpAny_storeName_cell I.ok.kind hk hc z (λh' hc' hs=>?_);let⟨oc,hoc,hocd⟩:=id z;refine h {s with heap:=h'} ⟨I.ok,I.os,I.bare,⟨λb o e n hb hx=>?_,λb o e n hb hx=>?_,I.base.free,λb o e hx=>?_,I.base.tups,I.base.frzs,I.base.tbls⟩,⟨m,hn.sameBut hs (BP (cne x c hc)),λj y v' e1 e2 e3=>?_⟩,λy c' e=>?_,I.free,I.freeC,λp hp=>?_,tracked ⟨oc,hoc,I.freeC x c hc⟩ hs,by simpa using I.len⟩ ⟨c,hs,.inr hc⟩
  .exact(hs.2 b (Ar (A9 (A4 e) (I.ok.cab x c hfn hc)))).trans (I.base.keep b o e n hb hx)
  .let⟨sl,e1⟩:=I.base.slot b o e n hb hx;exact⟨sl,(hs.2 b (Ar (A9 (A4 e) (I.ok.cab x c hfn hc)))).trans e1⟩
  .let⟨o',e1⟩:=I.base.there b o e hx;exact⟨o',(hs.2 b (Ar (A9 (A4 e) (I.ok.cab x c hfn hc)))).trans e1⟩
  .by_cases hj:j=i
   .subst hj;rw[hi]at e1;cases e1;rw[Ao hiσ]at e2
    cases e2
    exact⟨u,r,.inr ⟨.inl hk,c,hc,hc'⟩⟩
   .rw[A3 (BP hj)]at e2;let⟨u',r',q⟩:=hl j y v' e1 e2 e3;refine⟨u',r',?_⟩;rcases q with q|⟨k,c',e,z'⟩
    .exact .inl q
    .refine .inr ⟨k,c',e,z'.sameBut hs ?_⟩
     rintro rfl
     exact hj (ze4 hN e1 (I.ok.inj _ _ _ e hc ▸ hi))
  .by_cases hcc:c'=c
   .subst hcc;exact⟨_,hc'⟩
   .let⟨w2,z2⟩:=I.cell y c' e;exact⟨w2,z2.sameBut hs hcc⟩
  .let⟨e,n,ne,nf,d⟩:=I.pin p hp;refine⟨(hs.2 p.1 ?_).trans e,n,ne,nf,d⟩;intro q;rw[q,hoc]at e;have q':oc=p.2:=A6 e;exact d w' (by rw[<-q'];exact hocd)
def zaA{M:GZ}{A:An}{E:AH->AK->Prop}{i:Nat}{x:AO}{v:V}{u:AH}{Q:Unit->AK->Prop}(I:Inv X π σ H s)(hN:X.N.Nodup)(hi:X.N[i]?=AA x)(hx:Loc X.env.scope x)(r:RelV v u)
  (h:∀s',Inv X π (σ.set i (AA v)) H s'->Q () s') (hf:X.fn x=AC \/ X.env.scope.names.lookup x=AA .local:=by first|exact .inl rfl|exact .inr rfl|assumption):A5 M A (storeName X.env x u) Q E s:=
 zgB I hN hi hx r (λs' I' _=>h s' I') hf
theorem Inv.call'{s':AK}{ch:List AJ}(I:Inv X π σ H s)(ho:s'.os=s.os)(u:Un (frs X.stack) ch H H' s.heap s'.heap)(hok:HOk X.prog X.w H' s'.heap)(hg:Co s'.gens)
  (hch:∀b∈ch,(b∈X.ex \/ X.s₀.heap.objs.size<=b)/\b≠X.env.locals/\(∀x c,X.env.cells.lookup x=AA c->c≠b)/\∀p∈X.pn++π,p.1≠b):Inv X π σ H' s':=by
 let⟨h',g',d',t',o'⟩:=s';have e:o'=s.os:=ho;subst e;exact I.call (g':=g') (t':=t') (d':=d') u hok hg hch
end
abbrev XK:=AH->Option AJ->Hp->Prop
abbrev St:=List (Option V)
abbrev VK:=V->Hp->Prop
abbrev TE:=St->Hp->VK->Prop
abbrev TT:=St->Hp->(Bool->Hp->Prop)->Prop
abbrev TA:=St->Hp->(List V->Hp->Prop)->Prop
structure Ends where
 nx:St->Hp->Prop
 rt:VK
 bk:St->Hp->Prop:=λ_ _=>False
 ct:St->Hp->Prop:=λ_ _=>False
abbrev TS:=Ends->St->Hp->Prop
def EP(X:Cx)(π:List (AJ×Bb))(σ:St)(Q:VK)(u:AH)(s':AK):Prop:=∃v H',Inv X π σ H' s'/\RelV v u/\Q v H'
def TP(X:Cx)(π:List (AJ×Bb))(σ:St)(Q:Bool->Hp->Prop)(b:Bool)(s':AK):Prop:=∃H',Inv X π σ H' s'/\Q b H'
def AP(X:Cx)(π:List (AJ×Bb))(σ:St)(Q:List V->Hp->Prop)(us:List AH)(s':AK):Prop:=∃vs H',Inv X π σ H' s'/\Vals vs us/\Q vs H'
def SP(X:Cx)(π:List (AJ×Bb))(D:Ends)(f:Flow)(s':AK):Prop:=
 match f with
 |.next=>∃σ' H',Inv X π σ' H' s'/\D.nx σ' H'
 |.brk=>∃σ' H',Inv X π σ' H' s'/\D.bk σ' H'
 |.cont=>∃σ' H',Inv X π σ' H' s'/\D.ct σ' H'
 |.ret u=>∃v σ' H',Inv X π σ' H' s'/\RelV v u/\D.rt v H'
def PE(X:Cx)(e:AT)(t:TE):Prop:=
 ∀(π:List (AJ×Bb)) (s:AK) (σ:St) (H:Hp) (Q:VK),Inv X π σ H s->t σ H Q->A5 (model X.prog X.w) X.A (eval e X.env) (EP X π σ Q) X.xe s
def PT(X:Cx)(e:AT)(t:TT):Prop:=
 ∀(π:List (AJ×Bb)) (s:AK) (σ:St) (H:Hp) (Q:Bool->Hp->Prop),Inv X π σ H s->t σ H Q->A5 (model X.prog X.w) X.A (isTrue e X.env (eval e X.env)) (TP X π σ Q) X.xe s
def PW(X:Cx)(e:AT)(t:TT):Prop:=
 ∀(whole:Ge AH) (π:List (AJ×Bb)) (s:AK) (σ:St) (H:Hp) (Q:Bool->Hp->Prop),Inv X π σ H s->t σ H Q->A5 (model X.prog X.w) X.A (isTrue e X.env whole) (TP X π σ Q) X.xe s
theorem PW.pt{X:Cx}{e:AT}{t:TT}(h:PW X e t):PT X e t:=h _
def PA(X:Cx)(es:List AT)(t:TA):Prop:=
 ∀(pos:Bo) (π:List (AJ×Bb)) (s:AK) (σ:St) (H:Hp) (Q:List V->Hp->Prop),Inv X π σ H s->t σ H Q->A5 (model X.prog X.w) X.A (spliced (backTo pos (starEach es X.env))) (AP X π σ Q) X.xe s
def PS(X:Cx)(st:Bc)(t:TS):Prop:=
 ∀(π:List (AJ×Bb)) (s:AK) (σ:St) (H:Hp) (D:Ends),Inv X π σ H s->t D σ H->A5 (model X.prog X.w) X.A (exec st X.env) (SP X π D) X.xe s
def PSs(X:Cx)(st:List Bc)(t:TS):Prop:=
 ∀(π:List (AJ×Bb)) (s:AK) (σ:St) (H:Hp) (D:Ends),Inv X π σ H s->t D σ H->A5 (model X.prog X.w) X.A (execs st X.env) (SP X π D) X.xe s
theorem thn{α:Type}{t:Ge α}{Q Q':α->AK->Prop}{M:GZ}{A:An}{E:AH->AK->Prop}{s:AK}(h:A5 M A t Q E s)(hQ:∀a s,Q a s->Q' a s):A5 M A t Q' E s:=Be h hQ λ_ _ x=>x
section
variable {X:Cx}
theorem bin{a b:AT}{ta tb:TE}(ha:PE X a ta)(hb:PE X b tb){π:List (AJ×Bb)}{s:AK}{σ:St}{H:Hp}{R:V->V->Hp->Prop}(I:Inv X π σ H s)(h:ta σ H λx H1=>tb σ H1 λy H2=>R x y H2)
  {α:Type} {Q:α->AK->Prop} {f:AH->AH->Ge α}
  (hf:∀v u s2 x y H2,Inv X π σ H2 s2->RelV x v->RelV y u->R x y H2->A5 (model X.prog X.w) X.A (f v u) Q X.xe s2):
  A5 (model X.prog X.w) X.A (eval a X.env) (λv s₁=>A5 (model X.prog X.w) X.A (eval b X.env) (λu s₂=>A5 (model X.prog X.w) X.A (f v u) Q X.xe s₂) X.xe s₁) X.xe s:=by
 refine thn (ha π s σ H _ I h) λv s1 kq=>?_;let⟨x,H1,I1,r1,q1⟩:=kq;refine thn (hb π s1 σ H1 _ I1 q1) λu s2 kq=>?_;let⟨y,H2,I2,r2,q2⟩:=kq;exact hf v u s2 x y H2 I2 r1 r2 q2
def yhC(i:Nat):TE:=λσ H Q=>∃v,σ[i]?=AA (AA v)/\Q v H
def tC(v:V):TE:=λ_ H Q=>Q v H
def zl4{i:Nat}{x:AO}{pos:Bo}(hN:X.N[i]?=AA x)(hv:Vis X.env.scope x)(hd:(x==("__debug__":AO))=false:=by decide)(hcd:(x==("__classdict__":AO))=false:=by decide):PE X (.Name x pos) (yhC i):=by
 intro π s σ H Q I h;let⟨v,e,h⟩:=h;let⟨m,hn,hl⟩:=I.loc;let⟨u,r,l⟩:=hl i x v hN e hv;have fin:EP X π σ Q u s:=⟨v,H,I,r,h⟩;rcases l with⟨hk,hm⟩|⟨hk,c,hc,hcell⟩
 .exact G0 (Em I.ok.kind hk hn hm fin) hd
 .rcases hk with hk|hk
  .exact G0 (FH I.ok.kind hk hc hcell fin) hd
  .exact G0 (wpAny_loadName_free I.ok.kind hk hc hcell fin hcd) hd
def zn6{i j pos}:PE X (.Constant (.int i) j pos) (tC (.int i)):=λ_ _ _ H _ I h=>wpAny_Constant_int ⟨.int i,H,I.tok _,⟨_,rfl⟩,h⟩
def zoo{b j pos}:PE X (.Constant (.bool b) j pos) (tC (.bl b)):=λ_ _ _ H _ I h=>Constant_bool ⟨.bl b,H,I,rfl,h⟩
def zop{j pos}:PE X (.Constant .none j pos) (tC .non):=λ_ _ _ H _ I h=>Constant_none ⟨.non,H,I,rfl,h⟩
def zn7{x j pos}:PE X (.Constant (.str x) j pos) (tC (.str x)):=λ_ _ _ H _ I h=>Calls.Constant_str ⟨.str x,H,I.tok _,⟨_,rfl⟩,h⟩
def Gl(X:Cx)(x:AO):Prop:=X.env.kindOf x=AA .globalImplicit
def zbe{E:AH->AK->Prop}{π:List (AJ×Bb)}{s:AK}{σ:St}{H:Hp}{x:AO}{u:AH}{pos:Bo}{Q:AH->AK->Prop}(I:Inv X π σ H s)(hg:Gl X x)(hm:X.mg x=AA u)(h:Q u s)
  (hd:(x==("__debug__":AO))=false:=by decide):A5 (model X.prog X.w) X.A (eval (.Name x pos) X.env) Q E s:=
 D7 I.ok.kind hg (Calls.loadGlobal_global (by rw[I.ok.glob];exact I.mod.glob.keeps I.bk) hm h) hd
def zcT{E:AH->AK->Prop}{π:List (AJ×Bb)}{s:AK}{σ:St}{H:Hp}{x:AO}{u:AH}{pos:Bo}{Q:AH->AK->Prop}(I:Inv X π σ H s)(hg:Gl X x)(hm:X.mg x=AD)(hv:bootBuiltins x=AA u)(h:Q u s)
  (hn:x ≠ "__name__":=by decide) (hd:(x==("__debug__":AO))=false:=by decide):A5 (model X.prog X.w) X.A (eval (.Name x pos) X.env) Q E s:=by
 let⟨mb,h1,h2⟩:=I.mod.blt;exact D7 I.ok.kind hg (Calls.loadGlobal_builtin (by rw[I.ok.glob];exact I.mod.glob.keeps I.bk) hm (by rw[I.ok.blt];exact h1.keeps I.bk) ((h2 x hn).trans hv) h) hd
def zcp{x:AO}{v:V}{u:AH}{pos:Bo}(hg:Gl X x)(hm:X.mg x=AA u)(r:RelV v u)(hd:(x==("__debug__":AO))=false:=by decide):PE X (.Name x pos) (tC v):=
 λ_ _ _ H _ I h=>zbe I hg hm ⟨v,H,I,r,h⟩ hd
def zgd{x:AO}{v:V}{u:AH}{pos:Bo}(hg:Gl X x)(hm:X.mg x=AD)(hv:bootBuiltins x=AA u)(r:RelV v u)(hn:x ≠ "__name__":=by decide)(hd:(x==("__debug__":AO))=false:=by decide):PE X (.Name x pos) (tC v):=
 λ_ _ _ H _ I h=>zcT I hg hm hv ⟨v,H,I,r,h⟩ hn hd
variable {a b:AT}{ta tb:TE}{pos:Bo}
variable {tA tB':TT}{rest:List AT}
def ygD(t u:TT):TT:=λσ H Q=>t σ H λc H1=>if c=AC then u σ H1 Q else Q AB H1
def tOr(t u:TT):TT:=λσ H Q=>t σ H λc H1=>if c=AC then Q AC H1 else u σ H1 Q
def yf5(t:TT):TT:=λσ H Q=>t σ H λc H1=>Q (!c) H1
def zjG(ha:PT X a tA):PW X (.BoolOp .And [a] pos) tA:=by
 intro wh π s σ H Q I h;refine isTrue_and (thn (ha π s σ H Q I h) λc s1 e=>?_)
 cases c with
 |true=>exact isTrue_and_nil e
 |false=>exact e
def zmW(ha:PT X a tA):PW X (.BoolOp .Or [a] pos) tA:=by
 intro wh π s σ H Q I h;refine isTrue_or (thn (ha π s σ H Q I h) λc s1 e=>?_)
 cases c with
 |false=>exact isTrue_or_nil e
 |true=>exact e
def znm(ha:PT X a tA)(hb:PW X (.BoolOp .And (b::rest) pos) tB'):PW X (.BoolOp .And (a::b::rest) pos) (ygD tA tB'):=by
 intro wh π s σ H Q I h;refine isTrue_and (thn (ha π s σ H _ I h) λc s1 kq=>?_);let⟨H1,I1,q1⟩:=kq
 cases c with
 |true=>exact hb wh π s1 σ H1 Q I1 q1
 |false=>exact⟨H1,I1,q1⟩
def zn0(ha:PT X a tA)(hb:PW X (.BoolOp .Or (b::rest) pos) tB'):PW X (.BoolOp .Or (a::b::rest) pos) (tOr tA tB'):=by
 intro wh π s σ H Q I h;refine isTrue_or (thn (ha π s σ H _ I h) λc s1 kq=>?_);let⟨H1,I1,q1⟩:=kq
 cases c with
 |true=>exact⟨H1,I1,q1⟩
 |false=>exact hb wh π s1 σ H1 Q I1 q1
def zmc(ha:PT X a tA):PT X (.UnaryOp .Not a pos) (yf5 tA):=by
 intro π s σ H Q I h;exact isTrue_not (ha π s σ H (λc H1=>Q (!c) H1) I h)
def yeG(ta tb:TE):TE:=λσ H Q=>ta σ H λx H1=>∃c,x=.bl c/\if c=AC then tb σ H1 Q else Q (.bl AB) H1
def yhn(ta tb:TE):TE:=λσ H Q=>ta σ H λx H1=>∃c,x=.bl c/\if c=AC then Q (.bl AC) H1 else tb σ H1 Q
def yeC(ta:TE):TE:=λσ H Q=>ta σ H λx H1=>∃c,x=.bl c/\Q (.bl (!c)) H1
def zm1{op}{t:TE}(h:PE X a t):PE X (.BoolOp op [a] pos) t:=λπ s σ H Q I hw=>BoolOp_one (h π s σ H Q I hw)
def zlX(ha:PE X a ta)(hb:PE X (.BoolOp .And (b::rest) pos) tb):PE X (.BoolOp .And (a::b::rest) pos) (yeG ta tb):=by
 intro π s σ H Q I h;refine BoolOp_and (thn (ha π s σ H _ I h) λv s1 kq=>?_);let⟨x,H1,I1,r1,q1⟩:=kq;let⟨c,rfl,q1⟩:=q1
 cases r1
 refine BX ?_
 cases c with
 |true=>exact hb π s1 σ H1 Q I1 q1
 |false=>exact⟨.bl AB,H1,I1,rfl,q1⟩
def znA(ha:PE X a ta)(hb:PE X (.BoolOp .Or (b::rest) pos) tb):PE X (.BoolOp .Or (a::b::rest) pos) (yhn ta tb):=by
 intro π s σ H Q I h;refine BoolOp_or (thn (ha π s σ H _ I h) λv s1 kq=>?_);let⟨x,H1,I1,r1,q1⟩:=kq;let⟨c,rfl,q1⟩:=q1
 cases r1
 refine BX ?_
 cases c with
 |false=>exact hb π s1 σ H1 Q I1 q1
 |true=>exact⟨.bl AC,H1,I1,rfl,q1⟩
def zmi(ha:PE X a ta):PE X (.UnaryOp .Not a pos) (yeC ta):=by
 intro π s σ H Q I h;refine UnaryOp_ (thn (ha π s σ H _ I h) λv s1 kq=>?_);let⟨x,H1,I1,r1,q1⟩:=kq;let⟨c,rfl,q1⟩:=q1
 cases r1
 exact not_of (BX ⟨.bl (!c),H1,I1,rfl,q1⟩)
def tIf(t:TT)(ta tb:TE):TE:=λσ H Q=>t σ H λc H1=>if c=AC then ta σ H1 Q else tb σ H1 Q
def zh8{c:AT}(hc:PT X c tA)(ha:PE X a ta)(hb:PE X b tb):PE X (.IfExp c a b pos) (tIf tA ta tb):=by
 intro π s σ H Q I h;refine wpAny_IfExp (thn (hc π s σ H _ I h) λd s1 kq=>?_);let⟨H1,I1,q1⟩:=kq
 cases d with
 |true=>exact ha π s1 σ H1 Q I1 q1
 |false=>exact hb π s1 σ H1 Q I1 q1
end
def SqL(K:AF)(H:Hp)(a:AJ)(xs:List V):Prop:=
 Rd H a (.lst xs) \/
  ∃(o:Bb) (its:Array AH) (n:Nat),K.lookup a=AA o/\o.cls=.type "list"/\o.dict=AD/\o.data=.seq its n/\its.size<=sizeLine/\Vals xs its.toList
def SqT(K:AF)(H:Hp)(a:AJ)(xs:List V):Prop:=
 Rd H a (.tup xs) \/
  ∃(o:Bb) (its:Array AH) (n:Nat),K.lookup a=AA o/\o.cls=.type "tuple"/\o.data=.seq its n/\its.size<=sizeLine/\Vals xs its.toList
def ygW:AH->Option V
 |.none=>AA .non
 |.bool b=>AA (.bl b)
 |.int i _=>AA (.int i)
 |.str x _=>AA (.str x)
 |.bytes b _=>AA (.byt b)
 |.float b _=>AA (.flt b)
 |.ref a=>AA (.ref a)
 |.type n=>AA (.ty n)
 |_=>AD
theorem RelV.abs{x:V}{u:AH}(r:RelV x u):ygW u=AA x:=by
 cases x with
 |non=>cases r;rfl
 |bl _=>cases r;rfl
 |int _=>let⟨t,rfl⟩:=r;rfl
 |str _=>let⟨t,rfl⟩:=r;rfl
 |byt _=>let⟨t,rfl⟩:=r;rfl
 |flt _=>let⟨t,rfl⟩:=r;rfl
 |ref _=>cases r;rfl
 |ty _=>cases r;rfl
theorem RelV.inj{x y:V}{u:AH}(r:RelV x u)(q:RelV y u):x=y:=A6 (r.abs.symm.trans q.abs)
theorem Vals.inj:∀{xs ys:List V} {us:List AH},Vals xs us->Vals ys us->xs=ys
 |_,_,_,.nil,.nil=>rfl
 |_,_,_,.cons r t,.cons r' t'=>by rw[r.inj r',Vals.inj t t']
section
variable {X:Cx}{π:List (AJ×Bb)}{σ:St}{H:Hp}{s:AK}{a:AJ}{xs ys:List V}
theorem SqL.of{K:AF}(h:H a=AA (.lst xs)):SqL K H a xs:=.inl (.inl h)
theorem Inv.list(I:Inv X π σ H s)(h:SqL X.K H a xs):∃its:List AH,Vals xs its/\PlainL s.heap a its.toArray/\xs.length<=sizeLine:=by
 rcases h with h|⟨o,its,n,hk,hc,hd,hs,hz,r⟩
 .let⟨z,its,n,r,e⟩:=h.ok I.hok;exact⟨its,r,⟨_,n,e,rfl,rfl,rfl⟩,z⟩
 .refine⟨its.toList,r,⟨o,n,I.kIn a o hk,hc,hd,by simpa using hs⟩,?_⟩;have e:=r.length;erw[Bq]at e;lia
theorem Inv.tuple(I:Inv X π σ H s)(h:SqT X.K H a xs):∃its:List AH,Vals xs its/\Gy s.heap a its.toArray/\xs.length<=sizeLine:=by
 rcases h with h|⟨o,its,n,hk,hc,hs,hz,r⟩
 .let⟨z,its,r,p⟩:=h.ok I.hok;exact⟨its,r,p,z⟩
 .refine⟨its.toList,r,⟨o,I.kIn a o hk,hc,n,by simpa using hs⟩,?_⟩;have e:=r.length;erw[Bq]at e;lia
theorem Inv.list_inj(I:Inv X π σ H s)(h:SqL X.K H a xs)(h':SqL X.K H a ys):xs=ys:=by
 let⟨its,r,⟨o,n,e,_,_,d⟩,_⟩:=I.list h;let⟨its',r',⟨o',n',e',_,_,d'⟩,_⟩:=I.list h';rw[e]at e';cases e';rw[d]at d';injection d' with d1 _;have:its=its':=by simpa using congrArg Go d1
 subst this;exact r.inj r'
theorem Inv.tuple_inj(I:Inv X π σ H s)(h:SqT X.K H a xs)(h':SqT X.K H a ys):xs=ys:=by
 let⟨its,r,⟨o,e,_,n,d⟩,_⟩:=I.tuple h;let⟨its',r',⟨o',e',_,n',d'⟩,_⟩:=I.tuple h';rw[e]at e';cases e';rw[d]at d';injection d' with d1 _;have:its=its':=by simpa using congrArg Go d1
 subst this;exact r.inj r'
end
abbrev Cx.wish(X:Cx)(E:AH->AK->Prop):Cx:={X with xe:=E}
theorem Cx.Ok.wish{X:Cx}(ok:X.Ok)(E:AH->AK->Prop):(X.wish E).Ok:=
 ⟨ok.mod,ok.kind,ok.glob,ok.blt,ok.above,ok.inj,ok.has,ok.cab,ok.hd,ok.frames,ok.stk,ok.exf,ok.bs,ok.bsz,ok.noex,ok.exfs,ok.funs,ok.frf⟩
theorem Cx.Ok.unwish{X:Cx}{E:AH->AK->Prop}(ok:(X.wish E).Ok):X.Ok:=
 ⟨ok.mod,ok.kind,ok.glob,ok.blt,ok.above,ok.inj,ok.has,ok.cab,ok.hd,ok.frames,ok.stk,ok.exf,ok.bs,ok.bsz,ok.noex,ok.exfs,ok.funs,ok.frf⟩
section
variable {X:Cx}{π:List (AJ×Bb)}{σ:St}{H:Hp}{s:AK}{E:AH->AK->Prop}
theorem Inv.wish(I:Inv X π σ H s)(E:AH->AK->Prop):Inv (X.wish E) π σ H s:=⟨I.ok.wish E,I.os,I.bare,I.base,I.loc,I.cell,I.free,I.freeC,I.pin,I.hok,I.len⟩
theorem Inv.unwish(I:Inv (X.wish E) π σ H s):Inv X π σ H s:=⟨I.ok.unwish,I.os,I.bare,I.base,I.loc,I.cell,I.free,I.freeC,I.pin,I.hok,I.len⟩
end
section
variable {X:Cx}{st:Bc}{rest:List Bc}{t u:TS}{e:AT}{te:TE}{pos:Bo}
def yeE:TS:=λD σ H=>D.nx σ H
def ygA(t u:TS):TS:=λD σ H=>t {D with nx:=u D} σ H
def zoq:PSs X [] yeE:=λ_ _ σ H _ I h=>DQ ⟨σ,H,I,h⟩
def zhJ(h1:PS X st t)(h2:PSs X rest u):PSs X (st::rest) (ygA t u):=by
 intro π s σ H D I h;refine wpAny_execs_cons (thn (h1 π s σ H {D with nx:=u D} I h) λf s1 q=>?_)
 cases f with
 |next=>
  let⟨σ',H',I',q⟩:=q;exact h2 π s1 σ' H' D I' q
 |ret v=>exact q
 |brk=>exact q
 |cont=>exact q
theorem Inv.quiet{π:List (AJ×Bb)}{σ:St}{H:Hp}{s:AK}(I:Inv X π σ H s):interactive X.env=false:=by simp[interactive,I.ok.kind]
def yeu(te:TE):TS:=λD σ H=>te σ H λ_ H1=>D.nx σ H1
def zle(he:PE X e te)(hs:swapsWith e AD pos.line X.env=pure false:=by rfl):PS X (.Expr e pos) (yeu te):=by
 intro π s σ H D I h;exact wpAny_Expr_any (thn (he π s σ H _ I h) λv s1 ⟨x,H1,I1,r1,q1⟩=>⟨σ,H1,I1,q1⟩) I.quiet hs
def yhQ(te:TE):TS:=λD σ H=>te σ H D.rt
def zmn(he:PE X e te):PS X (.Return (AA e) pos) (yhQ te):=by
 intro π s σ H D I h;exact wpAny_Return_some (thn (he π s σ H _ I h) λv s1 ⟨x,H1,I1,r1,q1⟩=>⟨x,σ,H1,I1,r1,q1⟩)
def yeq:TS:=λD _ H=>D.rt .non H
def zor:PS X (.Return AD pos) yeq:=λ_ _ σ H _ I h=>wpAny_Return_none ⟨.non,σ,H,I,rfl,h⟩
def ygt(c:TT)(t u:TS):TS:=λD σ H=>c σ H λb H1=>if b=AC then t D σ H1 else u D σ H1
def zn2{c:AT}{a b:List Bc}{tc:TT}(hc:PT X c tc)(ha:PSs X a t)(hb:PSs X b u):PS X (.If c a b pos) (ygt tc t u):=by
 intro π s σ H D I h;refine wpAny_If (thn (hc π s σ H _ I h) λd s1 kq=>?_);let⟨H1,I1,q1⟩:=kq
 cases d with
 |true=>exact ha π s1 σ H1 D I1 q1
 |false=>exact hb π s1 σ H1 D I1 q1
end
abbrev TG:=V->St->Hp->(St->Hp->Prop)->Prop
abbrev TGs:=List V->St->Hp->(St->Hp->Prop)->Prop
def PG(X:Cx)(target:AT)(t:TG):Prop:=
 ∀(π:List (AJ×Bb)) (s:AK) (σ:St) (H:Hp) (v:V) (u:AH) (Q:St->Hp->Prop),Inv X π σ H s->RelV v u->t v σ H Q ->
  A5 (model X.prog X.w) X.A (assign target X.env u) (λ_ s'=>∃σ' H',Inv X π σ' H' s'/\Q σ' H') X.xe s
def PGs(X:Cx)(ts:List AT)(t:TGs):Prop:=
 ∀(π:List (AJ×Bb)) (s:AK) (σ:St) (H:Hp) (vs:List V) (us:List AH) (Q:St->Hp->Prop),Inv X π σ H s->Vals vs us->t vs σ H Q ->
  A5 (model X.prog X.w) X.A (assignInOrder ((assignEach ts X.env).map (·.2)) us) (λ_ s'=>∃σ' H',Inv X π σ' H' s'/\Q σ' H') X.xe s
abbrev ye0:=V->V->V->Hp->(Hp->Prop)->Prop
def yfY(X:Cx)(t:ye0):Prop:=
 ∀(π:List (AJ×Bb)) (s:AK) (σ:St) (H:Hp) (o i v:V) (ov iv u:AH) (Q:Hp->Prop),Inv X π σ H s->RelV o ov->RelV i iv->RelV v u->t o i v H Q ->
  A5 (model X.prog X.w) X.A (setItem ov iv u) (λ_ s'=>∃H',Inv X π σ H' s'/\Q H') X.xe s
abbrev TIp:=V->V->Hp->VK->Prop
def PIp(X:Cx)(op:DN)(t:TIp):Prop:=
 ∀(π:List (AJ×Bb)) (s:AK) (σ:St) (H:Hp) (x y:V) (v u:AH) (Q:VK),Inv X π σ H s->RelV x v->RelV y u->t x y H Q ->
  A5 (model X.prog X.w) X.A (inplaceOp op v u) (EP X π σ Q) X.xe s
section
variable {X:Cx}{pos:Bo}
def ycu(i:Nat):TG:=λv σ H Q=>Q (σ.set i (AA v)) H
def zgR{i:Nat}{x:AO}(hN:X.N.Nodup)(hi:X.N[i]?=AA x)(hx:Loc X.env.scope x)(hf:X.fn x=AC \/ X.env.scope.names.lookup x=AA .local:=by first|exact .inl rfl|exact .inr rfl|assumption):PG X (.Name x pos) (ycu i):=by
 intro π s σ H v u Q I r h;exact F5 (zaA I hN hi hx r (λs' I'=>⟨_,H,I',h⟩) hf)
def ygI:TGs:=λvs σ H Q=>vs=[]/\Q σ H
def yeT(t:TG)(u:TGs):TGs:=λvs σ H Q=>∃v r,vs=v::r/\t v σ H λσ' H'=>u r σ' H' Q
def zn8:PGs X [] ygI:=by
 intro π s σ H vs us Q I r h;let⟨e,h⟩:=h;subst e
 cases r
 exact F6 ⟨σ,H,I,h⟩
def zdn{e:AT}{es:List AT}{t:TG}{u:TGs}(h1:PG X e t)(h2:PGs X es u)
  (hs:(assignEach (e::es) X.env).map (·.2)=assign e X.env::(assignEach es X.env).map (·.2):=by rfl):PGs X (e::es) (yeT t u):=by
 intro π s σ H vs us Q I r h;let⟨v,vr,e1,h⟩:=h;subst e1
 cases r with
 |cons r rr=>
  rw[hs];refine D8 (thn (h1 π s σ H _ _ _ I r h) λ_ s1 kq=>?_);let⟨σ1,H1,I1,q1⟩:=kq;exact h2 π s1 σ1 H1 _ _ Q I1 rr q1
def ygK(K:AF)(n:Nat)(t:TGs):TG:=λv σ H Q=>∃a xs,v=.ref a/\SqT K H a xs/\xs.length=n/\t xs σ H Q
def zjv{es:List AT}{k:Nat}{t:TGs}{n:Nat}(hc:X.calm=AC)(h:PGs X es t)
  (hn:(assignEach es X.env).length=n:=by rfl) (hst:(assignEach es X.env).findIdx? (·.1)=none:=by rfl):PG X (.Tuple es k pos) (ygK X.K n t):=by
 intro π s σ H v u Q I r hw;let⟨a,xs,e1,hq,hl,hw⟩:=hw;subst e1
 cases r
 let⟨its,rv,ht,hz⟩:=I.tuple hq;refine assign_Tuple_tuple (I.ok.hd hc) ht (by simp[hn,<-hl,rv.length]) hst λh' hx=>?_;have I1:Inv X π σ H {s with heap:=h'}:=I.kept (t':=s.toks) λb o e=>hx b o (Ar (A4 e)) e;exact h π _ σ H xs _ Q I1 (by simpa using rv) hw
def yea(to ti:TE)(t:ye0):TG:=λv σ H Q=>to σ H λo H1=>ti σ H1 λi H2=>t o i v H2 λH3=>Q σ H3
def zeT{o i:AT}{to ti:TE}{t:ye0}(ho:PE X o to)(hi:PE X i ti)(hs:yfY X t)
  (ha:∀v,assign (.Subscript o i pos) X.env v=(do
   let ov <-holding [v] (eval o X.env)
   let iv <-holding [v,ov] (eval i X.env)
   standAt pos
   holding [v,ov,iv] (setItem ov iv v)
   release [v,ov,iv] []):=by intro _;rfl):PG X (.Subscript o i pos) (yea to ti t):=by
 intro π s σ H v u Q I r h;rw[ha];refine AI (DI (thn (ho π s σ H _ I h) λov s1 kq=>?_));let⟨x,H1,I1,r1,q1⟩:=kq;refine AI (DI (thn (hi π s1 σ H1 _ I1 q1) λiv s2 kq=>?_));let⟨y,H2,I2,r2,q2⟩:=kq;refine AI (DJ (AI (DI (thn (hs π s2 σ H2 x y v ov iv u _ I2 r1 r2 r q2) λ_ s3 kq=>?_))));let⟨H3,I3,q3⟩:=kq;exact wpAny_release ⟨σ,H3,I3,q3⟩
def yeZ(te:TE)(g:TG):TS:=λD σ H=>te σ H λx H1=>g x σ H1 D.nx
def zgA{tg e:AT}{te:TE}{g:TG}(he:PE X e te)(hg:PG X tg g)(hs:swapsWithSole [tg] e pos.line X.env=pure false:=by rfl)(hw:swappedStores [tg] e X.env=pure none:=by rfl)
  (h1:(assignEach [tg] X.env).map (·.2)=[assign tg X.env]:=by rfl):PS X (.Assign [tg] e pos) (yeZ te g):=by
 intro π s σ H D I h;refine wpAny_Assign_stores (thn (he π s σ H _ I h) λv s1 kq=>?_) hs hw;let⟨x,H1,I1,r1,q1⟩:=kq;rw[h1];exact thn (hg π s1 σ H1 x v _ I1 r1 q1) λ_ s2 q=>q
def zmm{i:Nat}{x:AO}{e:AT}{te:TE}{pos':Bo}(hN:X.N.Nodup)(hi:X.N[i]?=AA x)(hx:Loc X.env.scope x)(he:PE X e te)(hs:swapsWith e (AA (.Name x pos')) pos.line X.env=pure false:=by rfl)(hf:X.fn x=AC \/ X.env.scope.names.lookup x=AA .local:=by first|exact .inl rfl|exact .inr rfl|assumption):
  PS X (.Assign [.Name x pos'] e pos) (yeZ te (ycu i)):=by
 intro π s σ H D I h;refine wpAny_Assign_Name (thn (he π s σ H _ I h) λv s1 kq=>?_) hs;let⟨y,H1,I1,r1,q1⟩:=kq;exact zaA I1 hN hi hx r1 (λs2 I2=>⟨_,H1,I2,q1⟩) hf
def yfQ(i j:Nat)(ta:TA):TS:=λD σ H=>ta σ H λvs H1=>∃v w,vs=[v,w]/\D.nx ((σ.set i (AA v)).set j (AA w)) H1
def znh{i j:Nat}{x y:AO}{a b:AT}{ta:TA}{px py pt:Bo}{kt k2 pt2}(hc:X.calm=AC)(hN:X.N.Nodup)(hi:X.N[i]?=AA x)(hj:X.N[j]?=AA y)(hij:i≠j)
  (hx:X.env.scope.names.lookup x=AA .local) (hy:X.env.scope.names.lookup y=AA .local) (ha:PA X [a,b] ta)
  (hw:swappedStores [.Tuple [.Name x px,.Name y py] kt pt] (.Tuple [a,b] k2 pt2) X.env=pure (AA [x,y]))
  (hs:swapsWithSole [.Tuple [.Name x px,.Name y py] kt pt] (.Tuple [a,b] k2 pt2) pos.line X.env=pure false:=by rfl):
  PS X (.Assign [.Tuple [.Name x px,.Name y py] kt pt] (.Tuple [a,b] k2 pt2) pos) (yfQ i j ta):=by
 intro π s σ H D I h;rw[exec_Assign_arm];refine AI (DJ ?_);rw[hs];refine AI (A0 ?_);rw[if_neg ⋯];refine AI (Tuple_ (thn (ha _ π s σ H _ I h) λus s1 kq=>?_));let⟨vs,H1,I1,r1,q1⟩:=kq;let⟨v,w,e1,q1⟩:=q1;subst e1;obtain⟨u1,u2,rfl,rv,rw'⟩:∃u1 u2,us=[u1,u2]/\RelV v u1/\RelV w u2:=by
  cases r1 with
  |cons p q=>
   cases q with
   |cons p' q'=>
    cases q'
    exact⟨_,_,rfl,p,p'⟩
 refine B9 ?_ (by show 2<=sizeLine;decide);have I2:Inv X π σ H1 {s1 with heap:=s1.heap.push {cls:=.type "tuple",data:=.seq [u1,u2].toArray} }:=I1.kept (t':=s1.toks) λb o e=>AV _ e;rw[hw];refine AI (A0 ?_);show A5 (model X.prog X.w) X.A (do rule "assign.swapped-stores";let items <-unpackItems (.ref s1.heap.objs.size) 2 AD;assignInOrder [λv=>bindName X.env y v,λv=>bindName X.env x v] items.reverse;pure Gj) _ _ _;refine AI (EX (AI (unpackItems_tuple (items:=#[u1,u2]) (I.ok.hd hc) (Fx s1.heap _) λh' hx'=>?_)));have I3:=I2.kept (h':=h') (t':=s1.toks) λb o e=>hx' b o (Ar (A4 e)) e;show A5 _ _ (assignInOrder [λv=>bindName X.env y v,λv=>bindName X.env x v] [u2,u1] >>= λ_=>pure Gj) _ _ _;refine AI (D8 (En (zaA I3 hN hj (.inl hy) rw' (λs2 I4=>?_) (.inr hy))));refine D8 (En (zaA I4 hN hi (.inl hx) rv (λs3 I5=>F6 (A0 ?_)) (.inr hx)));rw[List.set_comm _ _ (BP hij)]at I5;exact⟨_,H1,I5,q1⟩
def yg8(i:Nat)(te:TE)(ti:TIp):TS:=λD σ H=>∃x,σ[i]?=AA (AA x)/\te σ H λy H1=>ti x y H1 λz H2=>D.nx (σ.set i (AA z)) H2
def zjf{i:Nat}{x:AO}{e:AT}{te:TE}{op:DN}{ti:TIp}{pos':Bo}(hN:X.N.Nodup)(hi:X.N[i]?=AA x)(hx:Loc X.env.scope x)(he:PE X e te)(ho:PIp X op ti)(hf:X.fn x=AC \/ X.env.scope.names.lookup x=AA .local:=by first|exact .inl rfl|exact .inr rfl|assumption):
  PS X (.AugAssign (.Name x pos') op e pos) (yg8 i te ti):=by
 intro π s σ H D I h;let⟨v,e1,h⟩:=h;let⟨m,hn,hl⟩:=I.loc;have vis:Vis X.env.scope x:=by rcases hx with k|k;exact .inl k;exact .inr (.inl k)
 let⟨u,r,l⟩:=hl i x v hi e1 vis;refine wpAny_AugAssign_Name ?_;have go:A5 (model X.prog X.w) X.A (eval e X.env) (λw s₂=>A5 (model X.prog X.w) X.A (inplaceOp op u w) (λr s₃=>A5 (model X.prog X.w) X.A (storeName X.env x r) (λ_=>SP X π D .next) X.xe s₃) X.xe s₂) X.xe s:=by
  refine thn (he π s σ H _ I h) λw s1 kq=>?_;let⟨y,H1,I1,r1,q1⟩:=kq;refine thn (ho π s1 σ H1 v y u w _ I1 r r1 q1) λz s2 kq=>?_;let⟨zv,H2,I2,r2,q2⟩:=kq;exact zaA I2 hN hi hx r2 (λs3 I3=>⟨_,H2,I3,q2⟩) hf
 rcases l with⟨hk,hm⟩|⟨hk,c,hc,hcell⟩
 .exact Em I.ok.kind hk hn hm go
 .rcases hk with hk|hk
  .exact FH I.ok.kind hk hc hcell go
  .rcases hx with k|k
   .have:X.env.scope.names.lookup x=AA .free:=hk;rw[k]at this;cases this
   .have:X.env.scope.names.lookup x=AA .free:=hk;rw[k]at this;cases this
def ipI(f:Int->Int->Int):TIp:=λx y H Q=>∃i j,x=.int i/\y=.int j/\Q (.int (f i j)) H
def zlV:PIp X .Add (ipI λi j=>i+j):=by
 intro π s σ H x y v u Q I r1 r2 h;let⟨i,j,e1,e2,q⟩:=h;subst e1;subst e2;let⟨t,rfl⟩:=r1;let⟨t',rfl⟩:=r2;exact GV ⟨.int _,H,I.tok _,⟨_,rfl⟩,q⟩
end
section
variable {X:Cx}{pos:Bo}
def ydm(c:TT)(tb:TS):TS:=λD σ H=>∃W:Nat->St->Hp->Prop,(∃m,W m σ H)/\∀m σ H,W m σ H ->
 c σ H λb H1=>if b=AC then ∃N:St->Hp->Prop,(∀σ' H',N σ' H'->∃m',m' < m/\W m' σ' H')/\tb {D with nx:=N,ct:=N,bk:=D.nx} σ H1 else D.nx σ H1
def zhI{c:AT}{body:List Bc}{tc:TT}{tb:TS}(hp:EK (model X.prog X.w) X.A X.env X.xe)(hc:PT X c tc)(hb:PSs X body tb):PS X (.While c body [] pos) (ydm tc tb):=by
 intro π s σ H D I h;let⟨W,⟨m0,w0⟩,turn⟩:=h;refine wpAny_While (codeAny_whileLoop (λn s'=>∃σ' H',Inv X π σ' H' s'/\W n σ' H') ?_ m0 ⟨σ,H,I,w0⟩)
 rintro n s1 ⟨σ1,H1,I1,w1⟩
 refine CD hp (thn (hc π s1 σ1 H1 _ I1 (turn n σ1 H1 w1)) λb s2 kq=>?_);let⟨H2,I2,q2⟩:=kq
 cases b with
 |true=>
  let⟨N,hN,q2⟩:=q2;rw[if_pos rfl];refine CD hp (thn (hb π s2 σ1 H2 _ I2 q2) λf s3 q3=>?_)
  cases f with
  |next=>
   let⟨σ3,H3,I3,n3⟩:=q3;let⟨m',hm,w3⟩:=hN σ3 H3 n3;exact⟨m',hm,σ3,H3,I3,w3⟩
  |cont=>
   let⟨σ3,H3,I3,n3⟩:=q3;let⟨m',hm,w3⟩:=hN σ3 H3 n3;exact⟨m',hm,σ3,H3,I3,w3⟩
  |brk=>exact q3
  |ret v=>exact q3
 |false=>
  rw[if_neg As];exact DQ ⟨σ1,H2,I2,q2⟩
end
structure It where
 go:Nat->Hp->Prop
 yld:Nat->Hp->V->Hp->Prop
 stop:Nat->Hp->Prop
def ybh(X:Cx)(π:List (AJ×Bb))(H:Hp)(b:AJ):Prop:=
 H b=AD/\b≠X.env.locals/\b∉X.fs/\(b∈X.ex \/ X.s₀.heap.objs.size<=b)/\(∀x c,X.env.cells.lookup x=AA c->c≠b)/\∀p∈X.pn++π,p.1≠b
theorem Inv.fpOk{X:Cx}{π:List (AJ×Bb)}{σ:St}{H H':Hp}{s:AK}{b:AJ}(I:Inv X π σ H s)(hb:s.heap.objs.size<=b)(hn:H' b=AD):ybh X π H' b:=by
 refine⟨hn,EY (A9 I.lt hb),I.nofs hb,.inr (BH I.sz hb),λx c e z=>?_,λp hp z=>?_⟩
 .let⟨v,q⟩:=I.cell x c e;exact absurd (A9 q.lt (by rw[z];exact hb)) (Cf _)
 .exact absurd (A9 (A4 (I.pin p hp).1) (by rw[z];exact hb)) (Cf _)
structure Turn(P:Aa)(w:Am)(K:AF)(tg:AT)(J:It)(fp:List AJ)(it:AJ)(tn:Nat->Aw->Prop):Prop where
 mem:it∈fp
 obj:∀i h,tn i h->∀b∈fp,∃o,h.get? b=AA o/\∀v,o.data ≠ .cell v
 keep:∀i h h',tn i h->(∀b∈fp,∀o,h.get? b=AA o->h'.get? b=AA o)->tn i h'
 item:∀(X:Cx),X.prog=P->X.w=w->X.K=K->X.calm=AC->∀(i:Nat) (π:List (AJ×Bb)) (s:AK) (σ:St) (H:Hp) (E:AH->AK->Prop),Inv X π σ H s->(∀b∈fp,ybh X π H b)->tn i s.heap->J.go i H ->
  A5 (model P w) X.A (pyNext (.ref it)) (λr s1=>∃u,r=AA u /\
   A5 (model P w) X.A (letOwnedTupleGo tg (.ref it) u) (λ_ s2=>∃x H',Inv X π σ H' s2/\RelV x u/\J.yld i H x H'/\tn (i+1) s2.heap/\∀b∈fp,H' b=AD) E s1) E s
 done:∀(X:Cx),X.prog=P->X.w=w->X.K=K->X.calm=AC->∀(i:Nat) (π:List (AJ×Bb)) (s:AK) (σ:St) (H:Hp) (E:AH->AK->Prop),Inv X π σ H s->(∀b∈fp,ybh X π H b)->tn i s.heap->J.stop i H ->
  A5 (model P w) X.A (pyNext (.ref it)) (λr s1=>r=AD/\Inv X π σ H s1) E s
 self:∀(A:An) (i:Nat) (s:AK) (Q:AH->AK->Prop) (E:AH->AK->Prop),tn i s.heap->Q (.ref it) s->A5 (model P w) A (pyIter (.ref it)) Q E s
abbrev TI:=St->Hp->(It->Hp->Prop)->Prop
def PIE(X:Cx)(π:List (AJ×Bb))(σ:St)(tg:AT)(R:It->Hp->Prop)(itv:AH)(s2:AK):Prop:=
 ∃(it:AJ) (fp:List AJ) (tn:Nat->Aw->Prop) (J:It) (H':Hp),itv=.ref it/\Inv X π σ H' s2/\Turn X.prog X.w X.K tg J fp it tn/\tn 0 s2.heap/\(∀b∈fp,ybh X π H' b)/\R J H'
def PI(X:Cx)(tg iter:AT)(wi:TI):Prop:=
 ∀(π:List (AJ×Bb)) (s:AK) (σ:St) (H:Hp) (R:It->Hp->Prop),Inv X π σ H s->wi σ H R ->
  A5 (model X.prog X.w) X.A (eval iter X.env) (λv s1=>A5 (model X.prog X.w) X.A (pyIter v) (PIE X π σ tg R) X.xe s1) X.xe s
def zjE{M:GZ}{A:An}{E:AH->AK->Prop}{s:AK}{tg:AT}{it:AJ}{u:AH}{o:Bb}{n:String}{vs:Array AH}{Q:Unit->AK->Prop}(ho:s.heap.get? it=AA o)(hc:o.cls=.type n)(hd:o.data=.fields vs)
  (hn:["enumerate","zip","dict_itemiterator","dict_reverseitemiterator","odict_iterator","itertools.zip_longest","itertools.pairwise"].contains n=AB) (hQ:Q () s):A5 M A (letOwnedTupleGo tg (.ref it) u) Q E s:=by
 unfold letOwnedTupleGo
 cases tg<;>first
  |exact A0 hQ
  | (cases u<;>first
    |exact A0 hQ
    | (refine AI (wpAny_load ho ?_)
       rw[hc,hd];show A5 M A (if (["enumerate","zip","dict_itemiterator","dict_reverseitemiterator","odict_iterator","itertools.zip_longest","itertools.pairwise"].contains n&&vs[0]? == AA (rawInt _))=AC then _ else _) Q E s;rw[if_neg (by intro h;rw[hn,Ah]at h;cases h)];exact A0 hQ))
def Itl(K:AF)(a:AJ):It:=
 ⟨λi H=>∃xs x,SqL K H a xs/\xs[i]?=AA x,λi H x H'=>H'=H/\∀xs,SqL K H a xs->xs[i]?=AA x,λi H=>∃xs,SqL K H a xs/\xs.length<=i⟩
def Itt(K:AF)(a:AJ):It:=
 ⟨λi H=>∃xs x,SqT K H a xs/\xs[i]?=AA x,λi H x H'=>H'=H/\∀xs,SqT K H a xs->xs[i]?=AA x,λi H=>∃xs,SqT K H a xs/\xs.length<=i⟩
def Itr(lo:Int)(n:Nat):It:=⟨λi _=>i<n,λi H x H'=>H'=H/\x=.int (lo+i),λi _=>n<=i⟩
def zhx{P:Aa}{w:Am}{K:AF}{tg:AT}(a it:AJ):Turn P w K tg (Itl K a) [it] it (λi h=>h.IsListIter it a i) where
 mem:=by simp
 obj:=λi h st b hb=>by
  have e:b=it:=by simpa using hb
  subst e;let⟨o,e,c,d⟩:=st;exact⟨o,e,λv z=>by rw[d]at z;cases z⟩
 keep:=λi h h' st k=>st.at λo e=>k it (by simp) o e
 item:=by
  intro X hP hw hK hc i π s σ H E I hf st hg;subst hP hw hK;let⟨xs,x,hq,hx⟩:=hg;let⟨its,rv,p,hz⟩:=I.list hq;let⟨u,hu,ru⟩:=rv.get hx;let⟨f0,f1,f2,f3,f4,f5⟩:=hf it (by simp);refine wpAny_pyNext_list_item st p.isList (x:=u) (by simpa using hu) λh' st' sb=>?_;have I1:Inv X π σ H {s with heap:=h'}:=I.turned (t':=s.toks) (λb o hb e=>(sb.2 b hb).trans e) f0 f1 f3 f4 f5;let⟨o,e,c,d⟩:=id st';exact⟨u,rfl,zjE (s:={s with heap:=h'}) e c d ⋯ ⟨x,H,I1,ru,⟨rfl,λys hy=>by rw[I.list_inj hy hq];exact hx⟩,st',λb hb=>(hf b hb).1⟩⟩
 done:=by
  intro X hP hw hK hc i π s σ H E I hf st hg;subst hP hw hK;let⟨xs,hq,hx⟩:=hg;let⟨its,rv,p,hz⟩:=I.list hq;let⟨f0,f1,f2,f3,f4,f5⟩:=hf it (by simp);have hl:=rv.length;exact wpAny_pyNext_list_end (I.ok.hd hc) st p.isList (by simp;lia) λh' eb=>⟨rfl,I.turned (t':=s.toks) (λb o hb e=>eb b o hb e) f0 f1 f3 f4 f5⟩
 self:=λ_ _ _ _ _ st h=>wpAny_pyIter_listiter st h
def zft{P:Aa}{w:Am}{K:AF}{tg:AT}(a it:AJ):Turn P w K tg (Itt K a) [it] it (λi h=>h.IsTupleIter it a i) where
 mem:=by simp
 obj:=λi h st b hb=>by
  have e:b=it:=by simpa using hb
  subst e;let⟨o,e,c,d⟩:=st;exact⟨o,e,λv z=>by rw[d]at z;cases z⟩
 keep:=λi h h' st k=>st.at λo e=>k it (by simp) o e
 item:=by
  intro X hP hw hK hc i π s σ H E I hf st hg;subst hP hw hK;let⟨xs,x,hq,hx⟩:=hg;let⟨its,rv,p,hz⟩:=I.tuple hq;let⟨u,hu,ru⟩:=rv.get hx;let⟨f0,f1,f2,f3,f4,f5⟩:=hf it (by simp);refine wpAny_pyNext_tuple_item st (show s.heap.IsTuple a its.toArray from p) (x:=u) (by simpa using hu) λh' st' sb=>?_;have I1:Inv X π σ H {s with heap:=h'}:=I.turned (t':=s.toks) (λb o hb e=>(sb.2 b hb).trans e) f0 f1 f3 f4 f5;let⟨o,e,c,d⟩:=id st';exact⟨u,rfl,zjE (s:={s with heap:=h'}) e c d ⋯ ⟨x,H,I1,ru,⟨rfl,λys hy=>by rw[I.tuple_inj hy hq];exact hx⟩,st',λb hb=>(hf b hb).1⟩⟩
 done:=by
  intro X hP hw hK hc i π s σ H E I hf st hg;subst hP hw hK;let⟨xs,hq,hx⟩:=hg;let⟨its,rv,p,hz⟩:=I.tuple hq;let⟨f0,f1,f2,f3,f4,f5⟩:=hf it (by simp);have hl:=rv.length;exact wpAny_pyNext_tuple_end (I.ok.hd hc) st (show s.heap.IsTuple a its.toArray from p) (by simp;lia) λh' eb=>⟨rfl,I.turned (t':=s.toks) (λb o hb e=>eb b o hb e) f0 f1 f3 f4 f5⟩
 self:=λ_ _ _ _ _ st h=>wpAny_pyIter_tupleiter st h
def zfm{P:Aa}{w:Am}{K:AF}{tg:AT}(it:AJ)(lo:Int)(n:Nat):Turn P w K tg (Itr lo n) [it] it (λi h=>IsRangeIter h it (lo+(i:Nat)*1) ((n:Int)-(i:Nat)) 1) where
 mem:=by simp
 obj:=λi h st b hb=>by
  have e:b=it:=by simpa using hb
  subst e;exact⟨_,st,λv z=>by
   have z':Data.fields _=Data.cell v:=z
   cases z'⟩
 keep:=λi h h' st k=>k it (by simp) _ st
 item:=by
  intro X hP hw hK hc i π s σ H E I hf st hg;subst hP hw hK;let⟨f0,f1,f2,f3,f4,f5⟩:=hf it (by simp);have W:=Walks.range (prog:=X.prog) (w:=X.w) (I.ok.hd hc) it lo 1 n;refine W.item i s _ _ hg st λv h' tk hv st' kk=>?_;let⟨t,rfl⟩:=hv;have I1:Inv X π σ H {s with heap:=h',toks:=tk}:=I.turned (λb o hb e=>kk b o (by simpa using hb) e) f0 f1 f3 f4 f5;refine⟨_,rfl,zjE (s:={s with heap:=h',toks:=tk}) (n:="range_iterator") st' rfl rfl ⋯ ⟨.int (lo+i),H,I1,⟨t,?_⟩,⟨rfl,rfl⟩,st',λb hb=>(hf b hb).1⟩⟩;rw[GN]
 done:=by
  intro X hP hw hK hc i π s σ H E I hf st hg;subst hP hw hK;let⟨f0,f1,f2,f3,f4,f5⟩:=hf it (by simp);exact wpAny_pyNext_range_end (I.ok.hd hc) st (by have:n<=i:=hg;lia) λh' eb=>⟨rfl,I.turned (t':=s.toks) (λb o hb e=>eb b o hb e) f0 f1 f3 f4 f5⟩
 self:=λ_ _ _ _ _ st h=>wpAny_pyIter_rangeiter st h
section
variable {X:Cx}{tg:AT}
def zhA{π:List (AJ×Bb)}{σ:St}{H:Hp}{s:AK}{R:It->Hp->Prop}{E:AH->AK->Prop}{lo hi:Int}{t u v:HC}{tk:Nat}(I:Inv X π σ H s)(h1:-(2^62)<=lo)(h2:lo<2^62)(h3:-(2^62)<=hi)(h4:hi<2^62)
  (q:R (Itr lo (hi-lo).toNat) H):A5 (model X.prog X.w) X.A (pyIter (.ref s.heap.objs.size)) (PIE X π σ tg R) E {s with heap:=s.heap.push {cls:=.type "range",data:=.fields #[.int lo t,.int hi u,.int 1 v]},toks:=tk}:=by
 refine wpAny_pyIter_range (IsRange.new ..) (small_one h1 h2 h3 h4) ?_;have I1:Inv X π σ H {s with heap:=s.heap.push {cls:=.type "range",data:=.fields #[.int lo t,.int hi u,.int 1 v]},toks:=tk}:=I.kept λb o e=>AV _ e;refine⟨(s.heap.push {cls:=.type "range",data:=.fields #[.int lo t,.int hi u,.int 1 v]}).objs.size,[(s.heap.push {cls:=.type "range",data:=.fields #[.int lo t,.int hi u,.int 1 v]}).objs.size],_,_,H,rfl,
  I1.kept (t':=tk) λb o e=>AV _ e,zfm _ lo (hi-lo).toNat,?_,λb hb=>?_,q⟩
 .have e1:lo+((0:Nat):Int)*1=lo:=by simp
  have e2:(((hi-lo).toNat:Nat):Int)-((0:Nat):Int)=Gk lo hi 1:=by rw[rangeSize_one];split<;>lia
  show IsRangeIter _ _ (lo+((0:Nat):Int)*1) ((((hi-lo).toNat:Nat):Int)-((0:Nat):Int)) 1;rw[e1,e2];exact Ac _ rfl
 .have e:b=(s.heap.push {cls:=.type "range",data:=.fields #[.int lo t,.int hi u,.int 1 v]}).objs.size:=by simpa using hb
  subst e;exact I1.fpOk (AS _) (I1.hok.fresh (AS _))
def yeO(ta:TA):TI:=λσ H R=>ta σ H λvs H1=>∃j:Int,vs=[.int j]/\-(2^62)<=j/\j<2^62/\R (Itr 0 j.toNat) H1
def zgW{a:AT}{ta:TA}{p pos:Bo}(hg:Gl X "range")(hm:X.mg "range"=AD)(ha:PA X [a] ta)(hs:starEach [a] X.env=[(AB,eval a X.env)]:=by rfl):PI X tg (.Call (.Name "range" p) [a] [] pos) (yeO ta):=by
 intro π s σ H R I h;refine Call_ (zcT I hg hm boot_range (Br (thn (ha pos π s σ H _ I h) λus s1 kq=>?_) hs rfl));let⟨vs,H1,I1,r1,q1⟩:=kq;let⟨j,e,q1,q2,q⟩:=q1;subst e
 cases r1 with
 |cons r rr=>
  cases rr
  let⟨t,rfl⟩:=r;exact call_range_1 (zhA I1 ∅ ∅ q1 q2 (by simpa using q))
def yhw(wi:TI)(g:TG)(tb:TS):TS:=λD σ H=>wi σ H λJ H1=>∃W:Nat->Nat->St->Hp->Prop,(∃m,W 0 m σ H1)/\∀i m σ H,W i m σ H ->
 (J.stop i H/\D.nx σ H) \/ (J.go i H/\∃N:St->Hp->Prop,(∀σ' H',N σ' H'->∃m',m' < m/\W (i+1) m' σ' H')/\∀x H',J.yld i H x H'->g x σ H' λσ2 H2=>tb {D with nx:=N,ct:=N,bk:=D.nx} σ2 H2)
def ybf(fp:List AJ)(h:Aw):List (AJ×Bb):=fp.filterMap λb=>(h.get? b).map λo=>(b,o)
def za0{fp:List AJ}{h:Aw}{b:AJ}{o:Bb}(hb:b∈fp)(e:h.get? b=AA o):(b,o)∈ybf fp h:=D9.mpr ⟨b,hb,by rw[e];rfl⟩
def zhw{fp:List AJ}{h:Aw}{p:AJ×Bb}(hp:p∈ybf fp h):p.1∈fp/\h.get? p.1=AA p.2:=by
 let⟨b,hb,e⟩:=D9.mp hp
 cases q:h.get? b with
 |none=>rw[q]at e;cases e
 |some o=>
  rw[q]at e;have e':(b,o)=p:=A6 e;subst e';exact⟨hb,q⟩
theorem Inv.pinned{π:List (AJ×Bb)}{σ:St}{H:Hp}{s:AK}{fp:List AJ}(I:Inv X π σ H s)(hf:∀b∈fp,ybh X π H b)(ho:∀b∈fp,∃o,s.heap.get? b=AA o/\∀v,o.data ≠ .cell v):Inv X (π++ybf fp s.heap) σ H s:=
 I.pins_of λp hp=>(Ak.mp hp).elim (λz=>I.pin p (Aq _ z)) λz=>by
  let⟨hb,e⟩:=zhw z;let⟨f0,f1,f2,_⟩:=hf p.1 hb;let⟨o,e',d⟩:=ho p.1 hb;rw[e]at e';cases e';exact⟨e,f0,f1,f2,d⟩
theorem Inv.unpinned{π pl:List (AJ×Bb)}{σ:St}{H:Hp}{s:AK}(I:Inv X (π++pl) σ H s):Inv X π σ H s:=I.pins_of λp hp=>I.pin p (Aq _ (C4 _ hp))
def znv{iter:AT}{body:List Bc}{wi:TI}{g:TG}{tb:TS}{pos:Bo}(hp:EK (model X.prog X.w) X.A X.env X.xe)(hc:X.calm=AC)(hi:PI X tg iter wi)(hg:PG X tg g)(hb:PSs X body tb)
  (hs:∀x,foldedSetIterable iter X.env x=pure x:=by intro _;rfl):PS X (.For tg iter body [] pos) (yhw wi g tb):=by
 intro π s σ H D I h;refine wpAny_For (thn (hi π s σ H _ I h) λv s1 h1=>thn h1 λitv s2 h2=>?_) hs;let⟨it,fp,tn,J,H2,e,I2,T,st2,f2,W,⟨m0,w0⟩,turn⟩:=h2;subst e;have stat:∀{H':Hp},(∀b∈fp,H' b=AD)->∀b∈fp,ybh X π H' b:=λhn b hb=>⟨hn b hb,(f2 b hb).2⟩;refine codeAny_forLoop_any (λn s'=>∃i σ' H',Inv X π σ' H' s'/\tn i s'.heap/\(∀b∈fp,H' b=AD)/\W i n σ' H') ?_ m0 ⟨0,σ,H2,I2,st2,λb hb=>(f2 b hb).1,w0⟩
 rintro n s3 ⟨i,σ3,H3,I3,st3,fr3,w3⟩
 rcases turn i n σ3 H3 w3 with⟨stop,qn⟩|⟨go,N,hN,step⟩
 .refine CD hp (thn (T.done X rfl rfl rfl hc i π s3 σ3 H3 X.xe I3 (stat fr3) st3 stop) λr s4 kq=>?_);let⟨hr,I4⟩:=kq;subst hr;exact DQ ⟨σ3,H3,I4,qn⟩
 .refine CD hp (thn (T.item X rfl rfl rfl hc i π s3 σ3 H3 X.xe I3 (stat fr3) st3 go) λr s4 kq=>?_);let⟨u,hr,h4⟩:=kq;subst hr;refine CD hp (thn h4 λ_ s5 kq=>?_);let⟨x,H5,I5,r5,y5,st5,fr5⟩:=kq;have I5':=I5.pinned (stat fr5) (T.obj _ _ st5);refine CD hp (thn (hg _ s5 σ3 H5 x u _ I5' r5 (step x H5 y5)) λ_ s6 kq=>?_);let⟨σ6,H6,I6,q6⟩:=kq;refine CD hp (thn (hb _ s6 σ6 H6 _ I6 q6) λf s7 q7=>?_);have again:∀{σ7:St} {H7:Hp},Inv X (π++ybf fp s5.heap) σ7 H7 s7->N σ7 H7->∃m,m<n/\∃i σ' H',Inv X π σ' H' s7/\tn i s7.heap/\(∀b∈fp,H' b=AD)/\W i m σ' H':=λ{σ7 H7} I7 n7=>by
   let⟨m',hm,w7⟩:=hN σ7 H7 n7;refine⟨m',hm,i+1,σ7,H7,I7.unpinned,T.keep _ _ _ st5 λb hb o e=>(I7.pin (b,o) (Aq _ (Aq _ (za0 hb e)))).1,λb hb=>?_,w7⟩;let⟨o,e,d⟩:=T.obj _ _ st5 b hb;exact(I7.pin (b,o) (Aq _ (Aq _ (za0 hb e)))).2.1
  cases f with
  |next=>let⟨σ7,H7,I7,n7⟩:=q7;exact again I7 n7
  |cont=>let⟨σ7,H7,I7,n7⟩:=q7;exact again I7 n7
  |brk=>let⟨σ7,H7,I7,q7⟩:=q7;exact⟨σ7,H7,I7.unpinned,q7⟩
  |ret v=>let⟨x7,σ7,H7,I7,r7,q7⟩:=q7;exact⟨x7,σ7,H7,I7.unpinned,r7,q7⟩
end
abbrev R2:=V->V->Hp->VK->Prop
def OpR(X:Cx)(f:AH->AH->Ge AH)(r:R2):Prop:=
 ∀(π:List (AJ×Bb)) (s:AK) (σ:St) (H:Hp) (x y:V) (v u:AH) (Q:VK),Inv X π σ H s->RelV x v->RelV y u->r x y H Q ->
  A5 (model X.prog X.w) X.A (f v u) (EP X π σ Q) X.xe s
def UnR(X:Cx)(f:AH->Ge AH)(r:V->Hp->VK->Prop):Prop:=
 ∀(π:List (AJ×Bb)) (s:AK) (σ:St) (H:Hp) (x:V) (v:AH) (Q:VK),Inv X π σ H s->RelV x v->r x H Q ->
  A5 (model X.prog X.w) X.A (f v) (EP X π σ Q) X.xe s
def yag(X:Cx)(f:AH)(r:List V->Hp->VK->Prop):Prop:=
 ∀(π:List (AJ×Bb)) (s:AK) (σ:St) (H:Hp) (xs:List V) (us:List AH) (Q:VK),Inv X π σ H s->Vals xs us->r xs H Q ->
  A5 (model X.prog X.w) X.A (call f us) (EP X π σ Q) X.xe s
def yhS(X:Cx)(r:V->Hp->(Bool->Hp->Prop)->Prop):Prop:=
 ∀(π:List (AJ×Bb)) (s:AK) (σ:St) (H:Hp) (x:V) (v:AH) (Q:Bool->Hp->Prop),Inv X π σ H s->RelV x v->r x H Q ->
  A5 (model X.prog X.w) X.A (truthy v) (TP X π σ Q) X.xe s
def tOp(r:R2)(ta tb:TE):TE:=λσ H Q=>ta σ H λx H1=>tb σ H1 λy H2=>r x y H2 Q
def tUn(r:V->Hp->VK->Prop)(ta:TE):TE:=λσ H Q=>ta σ H λx H1=>r x H1 Q
def rI(C:Int->Int->Prop)(g:Int->Int->V):R2:=λx y H Q=>∃i j,x=.int i/\y=.int j/\C i j/\Q (g i j) H
def rI0(g:Int->Int->V):R2:=λx y H Q=>∃i j,x=.int i/\y=.int j/\Q (g i j) H
def rU(g:Int->V):V->Hp->VK->Prop:=λx H Q=>∃i,x=.int i/\Q (g i) H
section
variable {X:Cx}{a b c:AT}{ta tb tc:TE}{pos:Bo}
def zlh(ha:PE X a ta)(hb:PE X b tb){π:List (AJ×Bb)}{s:AK}{σ:St}{H:Hp}{R:V->V->Hp->Prop}(I:Inv X π σ H s)
  (h:ta σ H λx H1=>tb σ H1 λy H2=>R x y H2) {Q:AH->AK->Prop} {f:AH->AH->Ge AH}
  (hf:∀v u s2 x y H2,Inv X π σ H2 s2->RelV x v->RelV y u->R x y H2->A5 (model X.prog X.w) X.A (f v u) Q X.xe s2):
  A5 (model X.prog X.w) X.A (eval a X.env) (λv s₁=>A5 (model X.prog X.w) X.A (eval b X.env) (λu s₂=>A5 (model X.prog X.w) X.A (f v u) Q X.xe s₂) X.xe s₁) X.xe s:=by
 refine thn (ha π s σ H _ I h) λv s1 kq=>?_;let⟨x,H1,I1,r1,q1⟩:=kq;refine thn (hb π s1 σ H1 _ I1 q1) λu s2 kq=>?_;let⟨y,H2,I2,r2,q2⟩:=kq;exact hf v u s2 x y H2 I2 r1 r2 q2
def zl2{op:DN}{r:R2}(ho:OpR X (binaryOp op) r)(ha:PE X a ta)(hb:PE X b tb):PE X (.BinOp a op b pos) (tOp r ta tb):=by
 intro π s σ H Q I h;exact wpAny_BinOp (zlh ha hb I h λv u s2 x y H2 I2 rx ry q=>ho π s2 σ H2 x y v u Q I2 rx ry q)
def zn3{op:UnaryOp}{r:V->Hp->VK->Prop}(ho:UnR X (unaryOp op) r)(ha:PE X a ta):PE X (.UnaryOp op a pos) (tUn r ta):=by
 intro π s σ H Q I h;exact UnaryOp_ (thn (ha π s σ H _ I h) λv s1 ⟨x,H1,I1,r1,q1⟩=>ho π s1 σ H1 x v Q I1 r1 q1)
theorem opI{f:AH->AH->Ge AH}{C:Int->Int->Prop}{g:Int->Int->Int}
  (rule:∀(i j:Int) (t u:HC) (s:AK) (Q:AH->AK->Prop) (E:AH->AK->Prop),C i j->Q (.int (g i j) s.toks) {s with toks:=s.toks+1}->A5 (model X.prog X.w) X.A (f (.int i t) (.int j u)) Q E s):
  OpR X f (rI C λi j=>.int (g i j)):=by
 intro π s σ H x y v u Q I rx ry h;let⟨i,j,rfl,rfl,hc,q⟩:=h;let⟨t,rfl⟩:=rx;let⟨t',rfl⟩:=ry;exact rule i j t t' s _ _ hc ⟨.int (g i j),H,I.tok _,⟨_,rfl⟩,q⟩
def zn9{f:AH->AH->Ge AH}{g:Int->Int->Int}
  (rule:∀(i j:Int) (t u:HC) (s:AK) (Q:AH->AK->Prop) (E:AH->AK->Prop),Q (.int (g i j) s.toks) {s with toks:=s.toks+1}->A5 (model X.prog X.w) X.A (f (.int i t) (.int j u)) Q E s):
  OpR X f (rI0 λi j=>.int (g i j)):=by
 intro π s σ H x y v u Q I rx ry h;let⟨i,j,rfl,rfl,q⟩:=h;let⟨t,rfl⟩:=rx;let⟨t',rfl⟩:=ry;exact rule i j t t' s _ _ ⟨.int (g i j),H,I.tok _,⟨_,rfl⟩,q⟩
def zhE{f:AH->AH->Ge AH}{g:Int->Int->Bool}
  (rule:∀(i j:Int) (t u:HC) (s:AK) (Q:AH->AK->Prop) (E:AH->AK->Prop),Q (.bool (g i j)) s->A5 (model X.prog X.w) X.A (f (.int i t) (.int j u)) Q E s):
  OpR X f (rI0 λi j=>.bl (g i j)):=by
 intro π s σ H x y v u Q I rx ry h;let⟨i,j,rfl,rfl,q⟩:=h;let⟨t,rfl⟩:=rx;let⟨t',rfl⟩:=ry;exact rule i j t t' s _ _ ⟨.bl (g i j),H,I,rfl,q⟩
def yfW(i j:Int):Prop:=0<=j/\j<=1000000/\i.natAbs<2^64
def ydD(i j:Int):Prop:=(-(2^64)<i/\i<2^64) \/ (-(2^64)<j/\j<2^64)
theorem ydD.ok{i j:Int}(h:ydD i j):IntMulOk i j:=by
 rcases h with⟨h1,h2⟩|⟨h1,h2⟩
 .exact .of_left (intBits_le_64 h1 h2)
 .exact .of_right (intBits_le_64 h1 h2)
def znd:OpR X (binaryOp .Add) (rI0 λi j=>.int (i+j)):=zn9 λ_ _ _ _ _ _ _ q=>add_int q
def znu:OpR X (binaryOp .Sub) (rI0 λi j=>.int (i-j)):=zn9 λ_ _ _ _ _ _ _ q=>sub_int q
def zmr:OpR X (binaryOp .Mult) (rI ydD λi j=>.int (i*j)):=opI λ_ _ _ _ _ _ _ hc q=>mul_int q hc.ok
def zl7:OpR X (binaryOp .Mod) (rI (λ_ j=>0<j) λi j=>.int (i%j)):=opI λi j _ _ _ _ _ hc q=>by
 have h1:(0:Int)<j:=hc;exact mod_int' ∅ (by rw[Int.fmod_eq_emod_of_nonneg i ∅];exact q)
def zlB:OpR X (binaryOp .Pow) (rI yfW λi j=>.int (i^j.toNat)):=opI λ_ _ _ _ _ _ _ hc q=>pow_int_small hc.1 hc.2.1 hc.2.2 q
theorem unI{f:AH->Ge AH}{g:Int->Int}
  (rule:∀(i:Int) (t:HC) (s:AK) (Q:AH->AK->Prop) (E:AH->AK->Prop),Q (.int (g i) s.toks) {s with toks:=s.toks+1}->A5 (model X.prog X.w) X.A (f (.int i t)) Q E s):
  UnR X f (rU λi=>.int (g i)):=by
 intro π s σ H x v Q I rx h;let⟨i,rfl,q⟩:=h;let⟨t,rfl⟩:=rx;exact rule i t s _ _ ⟨.int (g i),H,I.tok _,⟨_,rfl⟩,q⟩
def zmq:UnR X (unaryOp .USub) (rU λi=>.int (-i)):=unI λ_ _ _ _ _ q=>neg_int q
def zfT:OpR X (binaryOp .Add) (λx y H Q=>∃i k,x=.int i/\y=.bl k/\Q (.int (i+b2i k)) H):=by
 intro π s σ H x y v u Q I rx ry h;let⟨i,k,rfl,rfl,q⟩:=h;let⟨t,rfl⟩:=rx
 cases ry
 exact add_int_bool ⟨.int (i+b2i k),H,I.tok _,⟨_,rfl⟩,q⟩
end
section
variable {X:Cx}{a b c:AT}{ta tb tc:TE}{pos:Bo}
def zdW{π:List (AJ×Bb)}{σ:St}{H:Hp}{s:AK}{Q:VK}{k k':Bool}(I:Inv X π σ H s)(q:Q (.bl k) H)(e:k=k'):EP X π σ Q (.bool k') s:=by
 subst e;exact⟨.bl k,H,I,rfl,q⟩
def znT:OpR X (compareOp .Lt) (rI0 λi j=>.bl (decide (i<j))):=zhE λ_ _ _ _ _ _ _ q=>lt_int q
def znN:OpR X (compareOp .LtE) (rI0 λi j=>.bl (decide (i<=j))):=zhE λ_ _ _ _ _ _ _ q=>le_int q
def znX:OpR X (compareOp .Gt) (rI0 λi j=>.bl (decide (j<i))):=zhE λ_ _ _ _ _ _ _ q=>gt_int q
def znW:OpR X (compareOp .GtE) (rI0 λi j=>.bl (decide (j<=i))):=zhE λ_ _ _ _ _ _ _ q=>ge_int q
def zg6:OpR X (compareOp .Lt) (λx y H Q=>∃i j,x=.str i/\y=.str j/\Q (.bl (decide (i.cps.toList<j.cps.toList))) H):=by
 intro π s σ H x y v u Q I rx ry h;let⟨i,j,rfl,rfl,q⟩:=h;let⟨t,rfl⟩:=rx;let⟨t',rfl⟩:=ry;exact lt_str (zdW I q rfl)
def zfI:OpR X (compareOp .In) (λx y H Q=>∃i j,x=.str i/\y=.str j/\Q (.bl (!(EL j i 0 j.length 1).isEmpty)) H):=by
 intro π s σ H x y v u Q I rx ry h;let⟨i,j,rfl,rfl,q⟩:=h;let⟨t,rfl⟩:=rx;let⟨t',rfl⟩:=ry;exact in_str (zdW I q rfl)
def zmw:OpR X (compareOp .Is) (λx y H Q=>y=.non/\Q (.bl (decide (x=.non))) H):=by
 intro π s σ H x y v u Q I rx ry h;let⟨rfl,q⟩:=h
 cases ry
 refine is_none_gen (zdW I q ?_)
 cases x<;>first
  |(cases rx;rfl)
  |(let⟨t,rfl⟩:=rx;rfl)
def zez{op:FM}{r:R2}(ho:OpR X (compareOp op) r)(ha:PE X a ta)(hb:PE X b tb)(hm:behindInMarks op b=AB):PE X (.Compare a [op] [b] pos) (tOp r ta tb):=by
 intro π s σ H Q I h;exact wpAny_Compare1 (zlh ha hb I h λv u s2 x y H2 I2 rx ry q=>ho π s2 σ H2 x y v u Q I2 rx ry q) hm
def ydK(t:TE):TT:=λσ H Q=>t σ H λx H'=>∃k,x=.bl k/\Q k H'
def zgZ{op:FM}{r:R2}(ho:OpR X (compareOp op) r)(ha:PE X a ta)(hb:PE X b tb)(hm:behindInMarks op b=AB):PT X (.Compare a [op] [b] pos) (ydK (tOp r ta tb)):=by
 intro π s σ H Q I h;refine wpAny_isTrue_Compare1 (thn (ha π s σ H _ I h) λv s1 ⟨x,H1,I1,r1,q1⟩=>thn (hb π s1 σ H1 _ I1 q1) λu s2 ⟨y,H2,I2,r2,q2⟩=>
  thn (ho π s2 σ H2 x y v u _ I2 r1 r2 q2) λc s3 ⟨z,H3,I3,r3,k,e,q3⟩=>?_) hm
 subst e
 cases r3
 exact BX ⟨H3,I3,q3⟩
def ycw(r r':R2)(ta tb tc:TE):TE:=λσ H Q=>ta σ H λx H1=>tb σ H1 λy H2=>r x y H2 λz H3=>∃k,z=.bl k /\
 (if k=AC then tc σ H3 λw' H4=>r' y w' H4 Q else Q (.bl AB) H3)
def ziF{op op':FM}{r r':R2}(ho:OpR X (compareOp op) r)(ho':OpR X (compareOp op') r')(ha:PE X a ta)(hb:PE X b tb)(hc:PE X c tc)
  (hm:lastMarks [op,op'] [b,c]=false:=by ac_rfl):PE X (.Compare a [op,op'] [b,c] pos) (ycw r r' ta tb tc):=by
 intro π s σ H Q I h;refine Compare_chain (thn (ha π s σ H _ I h) λv s1 ⟨x,H1,I1,r1,q1⟩=>chain_link (thn (hb π s1 σ H1 _ I1 q1) λu s2 ⟨y,H2,I2,r2,q2⟩=>
  thn (ho π s2 σ H2 x y v u _ I2 r1 r2 q2) λd s3 ⟨z,H3,I3,r3,k,e,q3⟩=>?_)) hm
 subst e
 cases r3
 refine BX ?_
 cases k with
 |false=>exact ite_ff ⟨.bl AB,H3,I3,rfl,q3⟩
 |true=>exact ite_tt (chain_last (thn (hc π s3 σ H3 _ I3 q3) λw' s4 ⟨z',H4,I4,r4,q4⟩=>ho' π s4 σ H4 y z' u w' Q I4 r2 r4 q4))
def zhZ{op op':FM}{r r':R2}(ho:OpR X (compareOp op) r)(ho':OpR X (compareOp op') r')(ha:PE X a ta)(hb:PE X b tb)(hc:PE X c tc)
  (hm:lastMarks [op,op'] [b,c]=false:=by ac_rfl):PT X (.Compare a [op,op'] [b,c] pos) (ydK (ycw r r' ta tb tc)):=by
 intro π s σ H Q I h;refine isTrue_chain (thn (ha π s σ H _ I h) λv s1 ⟨x,H1,I1,r1,q1⟩=>test_link (thn (hb π s1 σ H1 _ I1 q1) λu s2 ⟨y,H2,I2,r2,q2⟩=>
  thn (ho π s2 σ H2 x y v u _ I2 r1 r2 q2) λd s3 ⟨z,H3,I3,r3,k,e,q3⟩=>?_)) hm
 subst e
 cases r3
 refine BX ?_
 cases k with
 |false=>
  let⟨k',e',q'⟩:=q3
  cases e'
  exact ite_ff ⟨H3,I3,q'⟩
 |true=>
  refine ite_tt (test_last (thn (hc π s3 σ H3 _ I3 q3) λw' s4 kq=>?_));let⟨z',H4,I4,r4,q4⟩:=kq;refine thn (ho' π s4 σ H4 y z' u w' _ I4 r2 r4 q4) λd' s5 kq=>?_;let⟨z2,H5,I5,r5,k2,e2,q5⟩:=kq;subst e2
  cases r5
  exact BX ⟨H5,I5,q5⟩
def yfb(K:AF)(x:V)(H:Hp)(k:Bool):Prop:=
 match x with
 |.non=>k=AB
 |.bl b=>k=b
 |.int i=>k=(i != 0)
 |.str y=>y.length<=sizeLine/\k=((y.length:Int) != 0)
 |.byt y=>y.size<=sizeLine/\k=((y.size:Int) != 0)
 |.ref p=>(∃xs,SqL K H p xs/\k=!xs.isEmpty) \/ (∃xs,SqT K H p xs/\k=!xs.isEmpty) \/ ∃kvs,H p=AA (.dK kvs)/\k=!kvs.isEmpty
 |_=>False
def zfG{κ:Type}{kvs:List (κ×V)}{vs:List (κ×AH)}(r:KV kvs vs):(!vs.isEmpty)=!kvs.isEmpty:=by
 cases r<;>rfl
def zcR{xs:List V}{its:List AH}(r:Vals xs its):(!its.toArray.isEmpty)=!xs.isEmpty:=by
 cases r<;>simp
def zgL:(sizeLine:Nat)<2^63:=by rw[CS];decide
def zlH:yhS X (λx H Q=>∃k,yfb X.K x H k/\Q k H):=by
 intro π s σ H x v Q I rx h;let⟨k,e,q⟩:=h;have hl:=zgL;have hs:sizeLine=16777216:=CS
 cases x with
 |non=>
  cases rx
  have e':k=false:=e;subst e';exact truthy_none ⟨H,I,q⟩
 |bl b=>
  cases rx
  have e':k=b:=e;subst e';exact BX ⟨H,I,q⟩
 |int i=>
  let⟨t,rfl⟩:=rx;have e':k=(i != 0):=e;subst e';exact PySem.P.truthy_int ⟨H,I,q⟩
 |str y=>
  let⟨t,rfl⟩:=rx;obtain⟨hy,e'⟩:y.length<=sizeLine/\k=((y.length:Int) != 0):=e;subst e';exact PySem.P.truthy_str ∅ ⟨H,I.tok _,q⟩
 |byt y=>
  let⟨t,rfl⟩:=rx;obtain⟨hy,e'⟩:y.size<=sizeLine/\k=((y.size:Int) != 0):=e;subst e';exact PySem.W.truthy_bytes ∅ ⟨H,I.tok _,q⟩
 |ref p=>
  cases rx
  have e':(∃xs,SqL X.K H p xs/\k=!xs.isEmpty) \/ (∃xs,SqT X.K H p xs/\k=!xs.isEmpty) \/ ∃kvs,H p=AA (.dK kvs)/\k=!kvs.isEmpty:=e;rcases e' with⟨xs,hx,e'⟩|⟨xs,hx,e'⟩|⟨kvs,hx,e'⟩
  .subst e';let⟨its,r,pl,hz⟩:=I.list hx;have hlen:=r.length;exact wpAny_truthy_list pl.isList (by erw[A1];lia) ⟨H,I.tok _,by rw[zcR r];exact q⟩
  .subst e';let⟨its,r,pl,hz⟩:=I.tuple hx;have hlen:=r.length;exact truthy_tuple pl (by erw[A1];lia) ⟨H,I.tok _,by rw[zcR r];exact q⟩
  .subst e';obtain⟨hz,hS,vs,r,m⟩:kvs.length<=sizeLine/\(p==sysModules)=AB/\∃vs,KV kvs vs/\s.heap.DictOf (yO X.prog X.w) p vs:=I.hok p _ hx;have hlen:kvs.length=vs.length:=Dz r;exact wpAny_truthy_dict hS m ∅ ⟨H,I.tok _,by rw[zfG r];exact q⟩
 |_=>exact(show False from e).elim
def ziS(ha:PE X a ta)(he:∀whole,isTrue a X.env whole=(do let v <-whole;standAt a.pos;holding [v] (truthy v))):
  PT X a (λσ H Q=>ta σ H λx H'=>∃k,yfb X.K x H' k/\Q k H'):=by
 intro π s σ H Q I h;exact isTrue_plain (thn (ha π s σ H _ I h) λv s1 ⟨x,H1,I1,r1,q1⟩=>zlH π s1 σ H1 x v Q I1 r1 q1) (he _)
def zfq:OpR X (binaryOp .Add) (λx y H Q=>∃i j,x=.str i/\y=.str j/\i.length+j.length<=sizeLine/\Q (.str (i++j)) H):=by
 intro π s σ H x y v u Q I rx ry h;let⟨i,j,rfl,rfl,hz,q⟩:=h;let⟨t,rfl⟩:=rx;let⟨t',rfl⟩:=ry;exact add_str (λt' tk=>⟨.str (i++j),H,I.tok _,⟨_,rfl⟩,q⟩) hz
theorem vals1{x:V}{us:List AH}(r:Vals [x] us):∃u,us=[u]/\RelV x u:=by
 cases r with
 |cons r1 r2=>cases r2;exact⟨_,rfl,r1⟩
theorem vals2{x y:V}{us:List AH}(r:Vals [x,y] us):∃u w',us=[u,w']/\RelV x u/\RelV y w':=by
 cases r with
 |cons r1 r2=>
  cases r2 with
  |cons r3 r4=>cases r4;exact⟨_,_,rfl,r1,r3⟩
def zf3(hc:X.calm=AC):yag X (.builtin "max") (λxs H Q=>∃i j,xs=[.int i,.int j]/\Q (.int (if j > i then j else i)) H):=by
 intro π s σ H xs us Q I r h;let⟨i,j,rfl,q⟩:=h;let⟨u,w',rfl,⟨t,rfl⟩,⟨t',rfl⟩⟩:=vals2 r;refine max_two_ints (I.ok.hd hc) λh' tk k=>⟨_,H,I.kept k,?_,q⟩
 by_cases hj:j > i
 .rw[if_pos hj,if_pos hj];exact⟨_,rfl⟩
 .rw[if_neg hj,if_neg hj];exact⟨_,rfl⟩
def zg2(hc:X.calm=AC):yag X (.builtin "min") (λxs H Q=>∃i j,xs=[.int i,.int j]/\Q (.int (if j<i then j else i)) H):=by
 intro π s σ H xs us Q I r h;let⟨i,j,rfl,q⟩:=h;let⟨u,w',rfl,⟨t,rfl⟩,⟨t',rfl⟩⟩:=vals2 r;refine min_two_ints (I.ok.hd hc) λh' tk k=>⟨_,H,I.kept k,?_,q⟩
 by_cases hj:j<i
 .rw[if_pos hj,if_pos hj];exact⟨_,rfl⟩
 .rw[if_neg hj,if_neg hj];exact⟨_,rfl⟩
def zdF:yag X (.type "int") (λxs H Q=>(∃i,xs=[.int i]/\Q (.int i) H) \/ ∃k,xs=[.bl k]/\Q (.int (if k then 1 else 0)) H):=by
 intro π s σ H xs us Q I r h;rcases h with⟨i,rfl,q⟩|⟨k,rfl,q⟩
 .let⟨u,rfl,t,rfl⟩:=vals1 r;exact call_int_int ⟨.int i,H,I,⟨_,rfl⟩,q⟩
 .let⟨u,rfl,r1⟩:=vals1 r
  cases r1
  exact call_int_bool ⟨.int (if k then 1 else 0),H,I.tok _,⟨_,rfl⟩,q⟩
end
structure ycP(h:Aw)(x dx C:AJ)(mA:AO->Option AH):Prop where
 obj:h.get? x=AA (Bm C dx)
 ns:h.Ns1 dx mA
 ne:dx≠x
def zf8{h:Aw}{dx:AJ}{mA:AO->Option AH}(n:h.Ns1 dx mA):∃od,h.get? dx=AA od/\∀name,Da name od=AA (mA name):=by
 let⟨o,es,ep,ho,hd,hk,_,hm⟩:=n;refine⟨o,ho,λname=>?_⟩;have e:=hm name;unfold nsFind findBy at e;rw[<-Array.find?_toList]at e;unfold Da;rw[hd];dsimp only;split
 .rename_i y q;rw[q]at e;exact congrArg AA e
 .rename_i q;rw[q]at e;have a:es.toList.any (·.refKey)=false:=by
   rw[List.any_eq_false];intro y hy;let⟨z,t,hkey⟩:=hk y (Array.mem_toList_iff.mp hy);simp[DictEntry.refKey,hkey]
  have a':¬es.toList.any (·.refKey)=true:=by rw[a];exact As
  rw[if_neg a'];exact congrArg AA e
theorem ycP.look{h:Aw}{x dx C:AJ}{mA:AO->Option AH}(I:ycP h x dx C mA):∃od,PySem.W.InstAt h x (Bm C dx) C (AA od)/\∀name,Da name od=AA (mA name):=
 let ⟨od,ho,hl⟩:=zf8 I.ns
 ⟨od,⟨I.obj,rfl,rfl,ho⟩,hl⟩
section
variable {prog:Aa}{w:Am}{A:An}{E:AH->AK->Prop}{s:AK}{K:AF}{x dx C f:AJ}{mA:AO->Option AH}{name:AO}{v:AH}
def zkO{expr:Bool}{Q:AH->AK->Prop}(X:K.In s.heap)(I:ycP s.heap x dx C mA)(hg:C9 K C name=AC)(hh:Cp K C=AC)
  (ha:Ai K (.ref C) name=AA AD) (hv:mA name=AA v) (hv':Fy v=AC) (h:Q v {s with toks:=s.toks+1}):
  A5 (model prog w) A (getAttr (.ref x) name expr) Q E s:=by
 let⟨od,J,hl⟩:=I.look;exact PySem.W.get_value X J (DY hg).1 (PySem.W.findObj_own hh ha rfl (by rw[hl,hv])) hv' h
def ziw{pl:Ge Bool}{Q:AH×List AH->AK->Prop}(X:K.In s.heap)(I:ycP s.heap x dx C mA)(hg:C9 K C name=AC)
  (hf:Ai K (.ref C) name=AA (AA (.ref f))) (ht:Ca K (.ref f)=AC) (hv:mA name=AD) (h:Q (.ref f,[.ref x]) s):
  A5 (model prog w) A (getMethod (.ref x) name pl) Q E s:=by
 let⟨od,J,hl⟩:=I.look;exact PySem.W.method_fn X J (DY hg).1 (DY hg).2 hf (beq_iff_eq.mp ht) (by show (Da name od).map (·.isSome)=AA AB;rw[hl,hv];rfl) h
def zk7{ns:List AO}{Q:Unit->AK->Prop}(X:K.In s.heap)(I:ycP s.heap x dx C mA)
  (hs:Ai K (.ref C) "__setattr__"=AA (AA (.builtin "object.__setattr__"))) (hp:Du K C=AC) (ht:E9 K C name=AA AD) (hh:Cp K C=AC)
  (hw:F3 mA ns) (hsz:ns.length<=sizeLine)
  (h:∀h',ycP h' x dx C (λy=>if y=name then AA v else mA y)->CU dx s.heap h'->Q () {s with heap:=h',toks:=s.toks+2}):
  A5 (model prog w) A (setAttr (.ref x) name v) Q E s:=by
 let⟨od,J,hl⟩:=I.look;refine PySem.W.set_plain X J hs (PySem.W.osa_open (s:={s with toks:=s.toks+1}) (r:=AD) X J hp ht λb=>?_);let⟨cd,hc,hd'⟩:=PySem.W.any_some hh;have hx:s.heap.get? x=AA ⟨.ref C,AA dx,.plain,#[]⟩:=I.obj;refine AI (A0 (AI (AI (wpAny_loadPart hx (AI (HD (s:={s with toks:=s.toks+1}) (PySem.W.looks_clsIn X hc) ?_))))));rw[hd'];refine A0 (a:=AA dx) (AI (A0 (AI ?_)));refine wpAny_nsSet1 (s:={s with toks:=s.toks+1}) I.ns λh' hn2 hs2=>?_;let⟨oD,esD,epD,hoD,hdD,hcD⟩:=hn2.count (HG name v hw);refine AI (wpAny_lookBehind hoD (by rw[hdD];exact pastItsLine_dict (BH hcD (by rw[AW];lia))) ?_);exact A0 (h _ ⟨(hs2.2 _ (BP I.ne)).trans I.obj,hn2,I.ne⟩ hs2)
def zio{R:FW->AK->Prop}{vs:List AH}{kw:List (AO×AH)}(X:K.In s.heap)(hm:DR K C=AC)
  (hi:Ai K (.ref C) "__init__"=AA (AA (.ref f))) (hf:PySem.W.typeIn K (.ref f)=AA (.type "function"))
  (h:codeAny (model prog w) (A.under (.builtin "type.__call__" ⟨.ref C::vs,kw⟩)) (.call (.ref f) ⟨.ref (s.heap.objs.size+1)::vs,kw⟩) (PySem.W.InitBack (s.heap.objs.size+1) R)
   {s with heap:=(s.heap.push BY).push (Bm C s.heap.objs.size)}):
  codeAny (model prog w) A (.call (.ref C) ⟨vs,kw⟩) R s:=by
 let⟨hh,g,d,t,os⟩:=s;exact PySem.W.make_core (PySem.W.makes_of X hm) (C5 X hi) (λself=>PySem.W.bind_fn X self hf) (.inl rfl) h
end
def ya3(f:AO)(v:V):List (AO×V)->List (AO×V)
 |[]=>[(f,v)]
 |(g,x)::r=>if g=f then(g,v)::r else(g,x)::ya3 f v r
def zcB(f g:AO)(v:V):∀fs:List (AO×V),(ya3 f v fs).lookup g=if g=f then AA v else fs.lookup g
 |[]=>by
  show Bs g [(f,v)]=_
  by_cases h:g=f
  .have hb:(g==f)=true:=beq_iff_eq.mpr h;erw[Bs,hb,if_pos h]
  .have hb:(g==f)=false:=beq_eq_false_iff_ne.mpr h;erw[Bs,hb,if_neg h]
 |(k,x)::r=>by
  have ih:=zcB f g v r;rw[show ya3 f v ((k,x)::r)=(if k=f then(k,v)::r else(k,x)::ya3 f v r)from rfl]
  by_cases hk:k=f
  .rw[if_pos hk]
   by_cases h:g=k
   .have hb:(g==k)=true:=beq_iff_eq.mpr h;erw[Bs,hb,if_pos (h.trans hk)]
   .have hb:(g==k)=false:=beq_eq_false_iff_ne.mpr h;erw[Bs,hb,if_neg (λe:g=f=>h (e.trans hk.symm))]
  .rw[if_neg hk]
   by_cases h:g=k
   .have hb:(g==k)=true:=beq_iff_eq.mpr h;erw[Bs,hb,if_neg (λe:g=f=>hk (h.symm.trans e))]
   .have hb:(g==k)=false:=beq_eq_false_iff_ne.mpr h;erw[Bs,hb];exact ih
def zcg(f:AO)(v:V):∀fs:List (AO×V),f∈(ya3 f v fs).map (·.1)/\∀g,g∈fs.map (·.1)->g∈(ya3 f v fs).map (·.1)
 |[]=>⟨by simp[ya3],λg h=>by simp at h⟩
 |(k,x)::r=>by
  let⟨i1,i2⟩:=zcg f v r;rw[show ya3 f v ((k,x)::r)=(if k=f then(k,v)::r else(k,x)::ya3 f v r)from rfl]
  by_cases hk:k=f
  .rw[if_pos hk];subst hk;exact⟨by simp,λg h=>by simpa using h⟩
  .rw[if_neg hk];refine⟨?_,λg h=>?_⟩
   .rw[AX];exact AU _ i1
   .rw[AX]at h ⊢;rcases AL.mp h with e|e
    .exact AL.mpr (.inl e)
    .exact AU _ (i2 g e)
def zcz(f:AO)(v:V):∀fs:List (AO×V),(ya3 f v fs).length<=fs.length+1
 |[]=>by simp[ya3]
 |(k,x)::r=>by
  have ih:=zcz f v r;rw[show ya3 f v ((k,x)::r)=(if k=f then(k,v)::r else(k,x)::ya3 f v r)from rfl]
  by_cases hk:k=f
  .rw[if_pos hk,AW,AW];lia
  .rw[if_neg hk,AW,AW];lia
theorem ybj.some_of{v:V}{o:Option AH}(r:ybj (AA v) o):∃u,o=AA u/\RelV v u:=by
 cases o with
 |none=>exact(show False from r).elim
 |some u=>exact⟨u,rfl,r⟩
theorem ybj.none_of{o:Option AH}(r:ybj AD o):o=none:=by
 cases o with
 |none=>rfl
 |some u=>exact(show False from r).elim
def zgH{v:V}{u:AH}(r:RelV v u):Fy u=true:=by
 cases v with
 |non=>cases (show u=Bl from r);rfl
 |bl b=>cases (show u=CT b from r);rfl
 |int i=>let⟨t,e⟩:=(show ∃t,u=EJ i t from r);cases e;rfl
 |str x=>let⟨t,e⟩:=(show ∃t,u=Fv x t from r);cases e;rfl
 |byt b=>let⟨t,e⟩:=(show ∃t,u=Gw b t from r);cases e;rfl
 |flt b=>let⟨t,e⟩:=(show ∃t,u=Gx b t from r);cases e;rfl
 |ref a=>cases (show u=Al a from r);rfl
 |ty n=>cases (show u=FU n from r);rfl
section
variable {P:Aa}{w:Am}{H H':Hp}{h h':Aw}{a C dx:AJ}{fs fs':List (AO×V)}
def zej(hok:HOk P w H h)(e:H a=AA (.ins C dx fs)):∃mA,ycP h a dx C mA/\(∀f,ybj (fs.lookup f) (mA f))/\F3 mA (fs.map (·.1))/\fs.length<=1000/\H dx=AA (.own a):=by
 let⟨d,z,ne,ob,mA,n,r,q⟩:=(show yS P w H h a (.ins C dx fs)from hok a _ e);exact⟨mA,⟨ob,n,ne⟩,r,q,z,d⟩
end
structure Cls(K:AF)(C:AJ):Prop where
 pg:C9 K C Fz=AC
 hd:Cp K C=AC
 po:Du K C=AC
 sa:Ai K (.ref C) "__setattr__"=AA (AA (.builtin "object.__setattr__"))
theorem Cls.get{K:AF}{C:AJ}(c:Cls K C)(f:AO):C9 K C f=true:=c.pg
def yaq(K:AF)(C:AJ)(f:AO):Prop:=Ai K (.ref C) f=AA AD
theorem yaq.taker{K:AF}{C:AJ}{f:AO}(n:yaq K C f):E9 K C f=AA none:=by
 unfold E9;rw[show Ai K (.ref C) f=AA AD from n];rfl
structure Con(K:AF)(C:AJ)(f:AO)(v:V)(u:AH):Prop where
 at_:Ai K (.ref C) f=AA (AA u)
 rel:RelV v u
 get:PySem.W.specialIn K u "__get__"=AA AD
 cp:PySem.W.copiedNames.contains f=AB
structure Meth(K:AF)(C:AJ)(m:AO)(f:AJ):Prop where
 at_:Ai K (.ref C) m=AA (AA (.ref f))
 fn:Ca K (.ref f)=AC
 kp:Au K (.ref f)=AC
section
variable {X:Cx}{π:List (AJ×Bb)}{σ:St}{H:Hp}{s:AK}{a C dx:AJ}{fs:List (AO×V)}{f:AO}{v:V}{A:An}{E:AH->AK->Prop}
def zcO{b:Bool}{Q:AH->AK->Prop}(I:Inv X π σ H s)(e:H a=AA (.ins C dx fs))(c:Cls X.K C)(n:yaq X.K C f)(l:fs.lookup f=AA v)
  (h:∀u s',Inv X π σ H s'->RelV v u->Q u s'):A5 (model X.prog X.w) A (getAttr (.ref a) f b) Q E s:=by
 let⟨mA,O,r,_,_,_⟩:=zej I.hok e;let⟨u,hu,ru⟩:=ybj.some_of (v:=v) (o:=mA f) (by rw[<-l];exact r f);exact zkO I.kIn O (c.get f) c.hd n hu (zgH ru) (h u _ (I.tok _) ru)
def zcZ{m:AO}{g:AJ}{pl:Ge Bool}{Q:AH×List AH->AK->Prop}(I:Inv X π σ H s)(e:H a=AA (.ins C dx fs))(c:Cls X.K C)(k:Meth X.K C m g)(l:fs.lookup m=AD)
  (h:Q (.ref g,[.ref a]) s):A5 (model X.prog X.w) A (getMethod (.ref a) m pl) Q E s:=by
 let⟨mA,O,r,_,_,_⟩:=zej I.hok e;have hn:mA m=none:=ybj.none_of (by rw[<-l];exact r m);exact ziw I.kIn O (c.get m) k.at_ k.fn hn h
def zcQ{y:V}{u:AH}{Q:Unit->AK->Prop}(I:Inv X π σ H s)(e:H a=AA (.ins C dx fs))(c:Cls X.K C)(n:yaq X.K C f)(hl:fs.length<1000)(ry:RelV y u)
  (h:∀s',Inv X π σ (upd H a (.ins C dx (ya3 f y fs))) s'->Q () s'):A5 (model X.prog X.w) A (setAttr (.ref a) f u) Q E s:=by
 let⟨mA,O,r,wi,_,ho⟩:=zej I.hok e;have hz:(fs.map (·.1)).length<=sizeLine:=by rw[Af,CS];lia
 refine zk7 I.kIn O c.sa c.po n.taker c.hd wi hz λh' O' sb=>h _ ?_;have hd:∃o,h'.get? dx=AA o:=let ⟨o,_,_,e',_⟩:=O'.ns;⟨o,e'⟩
 refine I.write (x:=a) (e:=dx) (by rw[e];exact Bw) (.inr ho) (λb q hb z=>(sb.2 b hb).trans z) hd ?_;refine⟨by rw[zk O.ne];exact ho,?_,O.ne,O'.obj,_,O'.ns,λg=>?_,λg hg=>?_⟩
 .have:=zcz f y fs;lia
 .show ybj ((ya3 f y fs).lookup g) (if g=f then AA u else mA g);rw[zcB]
  by_cases q:g=f
  .rw[if_pos q,if_pos q];exact ry
  .rw[if_neg q,if_neg q];exact r g
 .by_cases q:g=f
  .rw[q];exact(zcg f y fs).1
  .refine(zcg f y fs).2 g (wi g λz=>hg ?_);show (if g=f then AA u else mA g)=AD;rw[if_neg q];exact z
theorem Inv.made(I:Inv X π σ H s):Inv X π σ (upd (upd H s.heap.objs.size (.own (s.heap.objs.size+1))) (s.heap.objs.size+1) (.ins C s.heap.objs.size []))
  {s with heap:=(s.heap.push BY).push (Bm C s.heap.objs.size)}:=by
 have e1:(s.heap.push BY).get? s.heap.objs.size=AA BY:=Ac s.heap rfl;have e2:((s.heap.push BY).push (Bm C s.heap.objs.size)).get? (s.heap.objs.size+1)=AA (Bm C s.heap.objs.size):=by
  have:=Ac (s.heap.push BY) (o:=Bm C s.heap.objs.size) rfl
  rwa [Bi]at this
 have e3:(s.heap.push BY).Ns s.heap.objs.size (λ_=>AD):=⟨BY,#[],_,e1,rfl,(λe he=>absurd he (by simp)),λ_=>rfl⟩;have I1:=I.laid (a:=s.heap.objs.size) (o:=.own (s.heap.objs.size+1)) (h':=s.heap.push BY) (t':=s.toks) (λb u q=>AV _ q) (AS _) ⟨_,e1⟩;refine I1.laid (a:=s.heap.objs.size+1) (o:=.ins C s.heap.objs.size []) (t':=s.toks) (λb u q=>AV _ q) (Gp (Bi _ _)) ?_;have ne:s.heap.objs.size≠s.heap.objs.size+1:=Ar (GA _);refine⟨by rw[zk ne,zl],Ab _,ne,e2,λ_=>AD,(Heap.Ns1.of_empty e3).at λo q=>AV _ q,λ_=>Bw,λy hy=>absurd rfl hy⟩
def zjC{prog:Aa}{w:Am}{env:Env}{e:AT}{f:AO}{pos:Bo}{s:AK}{Q:AH->AK->Prop}(hb:attributeBase e f env (eval e env)=eval e env)
  (h:A5 (model prog w) A (eval e env) (λo s₁=>A5 (model prog w) A (getAttr o f AC) Q E s₁) E s):A5 (model prog w) A (eval (.Attribute e f pos) env) Q E s:=
 Attribute_any_ h (by rw[arm_eval_Attribute,hb])
end
def yhP(K:AF)(ta:TE)(f:AO):TE:=λσ H Q=>ta σ H λx H1=>∃a C dx fs v,x=.ref a/\H1 a=AA (.ins C dx fs)/\Cls K C/\yaq K C f/\fs.lookup f=AA v/\Q v H1
def yhq(K:AF)(ta tv:TE)(f:AO):TS:=λD σ H=>tv σ H λy H1=>ta σ H1 λx H2=>∃a C dx fs,x=.ref a/\H2 a=AA (.ins C dx fs)/\Cls K C/\yaq K C f/\fs.length<1000 /\
 D.nx σ (upd H2 a (.ins C dx (ya3 f y fs)))
def yfy(X:Cx)(op:DN)(rd:V->V->Hp->VK->Prop):Prop:=
 ∀(π:List (AJ×Bb)) (s:AK) (σ:St) (H:Hp) (x y:V) (u v:AH) (Q:VK),Inv X π σ H s->RelV x u->RelV y v->rd x y H Q->A5 (model X.prog X.w) X.A (inplaceOp op u v) (EP X π σ Q) X.xe s
def ycT(K:AF)(ta tv:TE)(rd:V->V->Hp->VK->Prop)(f:AO):TS:=λD σ H=>ta σ H λx H1=>∃a C dx fs v,x=.ref a/\H1 a=AA (.ins C dx fs)/\Cls K C/\yaq K C f/\fs.lookup f=AA v /\
 tv σ H1 λy H2=>rd v y H2 λz H3=>∃dx' fs',H3 a=AA (.ins C dx' fs')/\fs'.length<1000/\D.nx σ (upd H3 a (.ins C dx' (ya3 f z fs')))
section
variable {X:Cx}{o e value:AT}{f:AO}{pos pos' tpos:Bo}{ta tv:TE}
def zlG(he:PE X e ta)(hb:attributeBase e f X.env (eval e X.env)=eval e X.env):PE X (.Attribute e f pos) (yhP X.K ta f):=by
 intro π s σ H Q I h;refine zjC hb (thn (he π s σ H _ I h) λu s1 kq=>?_);let⟨x,H1,I1,rx,a,C,dx,fs,v,ex,ea,c,n,l,q⟩:=kq;subst ex;obtain rfl:u=Al a:=rx;exact zcO I1 ea c n l λu' s2 I2 ru=>⟨v,H1,I2,ru,q⟩
def zl6(ha:PE X o ta)(hv:PE X value tv)(hs:swapsWith value (AA (.Attribute o f pos')) pos.line X.env=pure AB):PS X (.Assign [.Attribute o f pos'] value pos) (yhq X.K ta tv f):=by
 intro π s σ H D I h;refine plainObj_wpAny_Assign_Attribute (thn (hv π s σ H _ I h) λu s1 kq=>?_) hs;let⟨y,H1,I1,ry,q⟩:=kq;refine thn (ha π s1 σ H1 _ I1 q) λov s2 kq=>?_;let⟨x,H2,I2,rx,a,C,dx,fs,ex,ea,c,n,l,q2⟩:=kq;subst ex;obtain rfl:ov=Al a:=rx;exact zcQ I2 ea c n l ry λs3 I3=>⟨σ,_,I3,q2⟩
def zha{op:DN}{rd:V->V->Hp->VK->Prop}(ha:PE X o ta)(hv:PE X value tv)(hop:yfy X op rd):PS X (.AugAssign (.Attribute o f tpos) op value pos) (ycT X.K ta tv rd f):=by
 intro π s σ H D I h;refine wpAny_AugAssign_AttributeAny (thn (ha π s σ H _ I h) λov s1 kq=>?_);let⟨x,H1,I1,rx,a,C,dx,fs,v,ex,ea,c,n,l,q⟩:=kq;subst ex;obtain rfl:ov=Al a:=rx;refine zcO I1 ea c n l λu s2 I2 ru=>thn (hv π s2 σ H1 _ I2 q) λw3 s3 kq=>?_;let⟨y,H2,I3,ry,q3⟩:=kq;refine thn (hop π s3 σ H2 v y u w3 _ I3 ru ry q3) λw4 s4 kq=>?_;let⟨z,H3,I4,rz,dx',fs',ea',l',q4⟩:=kq;exact zcQ I4 ea' c n l' rz λs5 I5=>⟨σ,_,I5,q4⟩
def yg4:V->V->Hp->VK->Prop:=λx y H Q=>∃i j,x=.int i/\y=.int j/\Q (.int (i+j)) H
def zm8:yfy X .Add yg4:=by
 rintro π s σ H x y u v Q I rx ry ⟨i,j,rfl,rfl,q⟩
 let⟨t,rfl⟩:=(show ∃t,u=EJ i t from rx);let⟨t',rfl⟩:=(show ∃t',v=EJ j t' from ry);exact GV ⟨.int (i+j),H,I.tok _,⟨_,rfl⟩,q⟩
end
section
variable {X:Cx}{π:List (AJ×Bb)}{σ:St}{H:Hp}{s:AK}{A:An}{E:AH->AK->Prop}{Q:AH->AK->Prop}{c:AH}{b:Bool}
end
structure yax(k:Nat)(A:An):Prop where
 hd:A.handled=AD
 dp:A.depth+3*k+5<recursionLimit
 un:A.units+16*k+200<cLine
theorem yax.mono{j k:Nat}{A:An}(r:yax k A)(h:j<=k):yax j A:=⟨r.hd,by have:=r.dp;lia,by have:=r.un;lia⟩
theorem yax.deeper{k:Nat}{A:An}(r:yax (k+1) A)(env:Env):yax k (A.deeper env):=
 ⟨r.hd,by have:=r.dp;show A.depth+1+3*k+5<_;lia,by have:=r.un;show A.units+3+16*k+200<_;lia⟩
def zfF{A:An}{C:AJ}{us:List AH}{kw:List (AO×AH)}:(A.under (.builtin "type.__call__" ⟨.ref C::us,kw⟩)).depth=A.depth+1:=by
 first|rfl|simp[F7,Code.weight,Code.isCreation,Code.isGuard,Code.isCaller,Gz,F8,guardIds]
def zfs{A:An}{C:AJ}{us:List AH}{kw:List (AO×AH)}:(A.under (.builtin "type.__call__" ⟨.ref C::us,kw⟩)).units=A.units+1:=by
 first|rfl|simp[F7,Code.cUnits,Gz,F8]
theorem yax.make{k:Nat}{A:An}(r:yax (k+1) A)(C:AJ)(us:List AH)(kw:List (AO×AH)):yax k (A.under (.builtin "type.__call__" ⟨.ref C::us,kw⟩)):=
 ⟨r.hd,by have:=r.dp;rw[zfF];lia,by have:=r.un;rw[zfs];lia⟩
theorem yax.depth{k:Nat}{A:An}(r:yax k A):A.depth<recursionLimit:=by have:=r.dp;lia
def ydA:TA:=λ_ H Q=>Q [] H
def ydC(ta:TE)(tr:TA):TA:=λσ H Q=>ta σ H λx H1=>tr σ H1 λxs H2=>Q (x::xs) H2
section
variable {X:Cx}{e:AT}{es:List AT}{te:TE}{t:TA}{pos:Bo}
def zfv:PA X [] ydA:=λ_ _ _ _ H Q I h=>F9 ⟨[],H,I,.nil,h⟩
def zab(ha:PE X e te)(hr:PA X es t)(hs:starEach (e::es) X.env=(AB,eval e X.env)::starEach es X.env:=by rfl):PA X (e::es) (ydC te t):=by
 intro pos π s σ H Q I h;rw[hs];show A5 _ _ (spliced ((AB,eval e X.env)::backTo pos (starEach es X.env))) _ _ s;refine Db (thn (ha π s σ H _ I h) λu s1 kq=>?_);let⟨x,H1,I1,r1,q1⟩:=kq;exact thn (hr pos π s1 σ H1 _ I1 q1) λus s2 ⟨xs,H2,I2,r2,q2⟩=>⟨x::xs,H2,I2,.cons r1 r2,q2⟩
def yf1(t:TA):TE:=λσ H Q=>t σ H λxs H1=>xs.length<=sizeLine/\∀p,H1 p=AD->Q (.ref p) (upd H1 p (.tup xs))
def ygz(t:TA):TE:=λσ H Q=>t σ H λxs H1=>xs.length<=sizeLine/\∀p,H1 p=AD->Q (.ref p) (upd H1 p (.lst xs))
def zgo{x1}(h:PA X es t):PE X (.Tuple es x1 pos) (yf1 t):=by
 intro π s σ H Q I hq;refine wpAny_Tuple_spliced (thn (h pos π s σ H _ I hq) λus s1 kq=>?_);let⟨xs,H1,I1,r,z,q⟩:=kq;refine ⟨by rw[<-r.length];exact z,?_⟩;have hf:H1 s1.heap.objs.size=none:=I1.hok.fresh (AS _);refine⟨.ref s1.heap.objs.size,upd H1 s1.heap.objs.size (.tup xs),I1.laid (t':=s1.toks) (λb u e=>AV _ e) (AS _) ?_,rfl,q _ hf⟩;exact⟨z,us,r,⟨_,Ac _ rfl,rfl,_,rfl⟩⟩
def zjb(h:PA X es t):PE X (.List es pos) (ygz t):=by
 intro π s σ H Q I hq;refine wpAny_List_spliced (thn (h pos π s σ H _ I hq) λus s1 kq=>?_);let⟨xs,H1,I1,r,z,q⟩:=kq;refine ⟨by rw[<-r.length];exact z,?_⟩;have hf:H1 s1.heap.objs.size=none:=I1.hok.fresh (AS _);refine⟨.ref s1.heap.objs.size,upd H1 s1.heap.objs.size (.lst xs),I1.laid (t':=s1.toks) (λb u e=>AV _ e) (AS _) ?_,rfl,q _ hf⟩;exact⟨z,us,0,r,Ac _ rfl⟩
end
abbrev Sp:=List V->Hp->VK->XK->Prop
abbrev CXT:=List Env->Hp->AK->XK->AH->AK->Prop
structure ycp(P:Aa)(w:Am)(K:AF)(mg:AO->Option AH)(base:Aw)(A:An)(outer:List Env)(s:AK)(H:Hp):Prop where
 frames:A.frames=AA outer
 mod:Mod K mg base
 bs:∀b o,base.get? b=AA o->s.heap.get? b=AA o/\H b=AD
 bsz:base.objs.size<=s.heap.objs.size
 funs:s.heap.FunFrames base outer
 frf:∀b∈frs outer,H b=AD
 hok:HOk P w H s.heap
 bare:Co s.gens
def CE(outer:List Env)(P:Aa)(w:Am)(H:Hp)(s:AK)(Q:VK)(u:AH)(s':AK):Prop:=
 ∃v H',s'.os=s.os/\Co s'.gens/\Un (frs outer) [] H H' s.heap s'.heap/\HOk P w H' s'.heap/\RelV v u/\Q v H'
def CR(CX:CXT)(outer:List Env)(P:Aa)(w:Am)(H:Hp)(s:AK)(Q:VK)(E:XK)(r:FW)(s':AK):Prop:=
 match r with
 |.ok (.ret u)=>CE outer P w H s Q u s'
 |.ok _=>False
 |.error e=>CX outer H s E e s'
structure yaM(P:Aa)(w:Am)(K:AF)(mg:AO->Option AH)(base:Aw)(CX:CXT)(k:Nat)(f:AJ)(fd:Ax)(ps:List AO)(sp:Sp):Prop where
 len:∀vs H Q E,sp vs H Q E->vs.length=ps.length
 run:∀(A:An) (outer:List Env) (s:AK) (H:Hp) (args:Args) (us:List AH) (vs:List V) (Q:VK) (E:XK),yax k A->ycp P w K mg base A outer s H->EZ s fd args (ps.zip us)->Vals vs us->sp vs H Q E ->
  codeAny (model P w) A (.call (.ref f) args) (CR CX outer P w H s Q E) s
theorem yaM.imp{P:Aa}{w:Am}{K:AF}{mg:AO->Option AH}{base:Aw}{CX:CXT}{k:Nat}{f:AJ}{fd:Ax}{ps:List AO}{sp sp':Sp}(F:yaM P w K mg base CX k f fd ps sp)
  (h:∀vs H Q E,sp' vs H Q E->sp vs H Q E):yaM P w K mg base CX k f fd ps sp':=
 ⟨λvs H Q E q=>F.len vs H Q E (h _ _ _ _ q),λA outer s H args us vs Q E hr he hb hv hs=>F.run A outer s H args us vs Q E hr he hb hv (h _ _ _ _ hs)⟩
theorem ycp.make{P:Aa}{w:Am}{K:AF}{mg:AO->Option AH}{base:Aw}{A:An}{outer:List Env}{s:AK}{H:Hp}(e:ycp P w K mg base A outer s H)(C:AJ)(us:List AH)(kw:List (AO×AH)):
  ycp P w K mg base (A.under (.builtin "type.__call__" ⟨.ref C::us,kw⟩)) outer s H:=⟨by first|exact e.frames|(simpa [F7,Code.envs,F8,pushEnvs] using e.frames),e.mod,e.bs,e.bsz,e.funs,e.frf,e.hok,e.bare⟩
section
variable {X:Cx}{π:List (AJ×Bb)}{σ:St}{H:Hp}{s s':AK}
theorem Inv.env0(I:Inv X π σ H s):ycp X.prog X.w X.K X.mg X.base X.A X.stack s H:=
 ⟨I.ok.frames,I.ok.mod,I.bs,BH I.ok.bsz I.sz,I.stack,I.stkFree,I.hok,I.bare⟩
theorem Inv.after{Q:VK}{u:AH}(I:Inv X π σ H s)(h:CE X.stack X.prog X.w H s Q u s'):EP X π σ Q u s':=by
 let⟨v,H',os,bare,un,hok,r,q⟩:=h;let⟨hh,g,d,t,os'⟩:=s';obtain rfl:os'=s.os:=os;exact⟨v,H',I.call (h':=hh) (g':=g) (d':=d) (t':=t) (ch:=[]) un hok bare (λb z=>absurd z (by simp)),r,q⟩
end
def yey(C:AJ)(sp:Sp)(dvs:List V)(E:XK)(t:TA):TE:=λσ H Q=>t σ H λvs H1=>∀x dx,H1 x=AD->H1 dx=AD->dx≠x ->
 sp (.ref x::(vs++dvs)) (upd (upd H1 dx (.own x)) x (.ins C dx [])) (λv H2=>v=.non/\Q (.ref x) H2) E
def Binds(K:AF)(fd:Ax)(ps:List AO)(ds:List AH):Prop:=
 ∀(s:AK) (us:List AH),K.In s.heap->(us++ds).length=ps.length->EZ s fd ⟨us,[]⟩ (ps.zip (us++ds))
theorem Binds.all{K:AF}{fd:Ax}{ps:List AO}(h:∀us:List AH,us.length=ps.length->bindArgs fd ⟨us,[]⟩=pure (ps.zip us)):Binds K fd ps []:=λs us _ hl=>by
 rw[BS]at hl ⊢;exact .of_eq (h us hl)
def ybw(CX:CXT)(X:Cx)(E:XK):Prop:=∀(π:List (AJ×Bb)) (σ:St) (H:Hp) (s:AK) (e:AH) (s':AK),Inv X π σ H s->CX X.stack H s E e s'->X.xe e s'
section
variable {X:Cx}{CX:CXT}{k:Nat}{f C:AJ}{fd:Ax}{ps:List AO}{sp:Sp}{dvs:List V}{ds:List AH}{E:XK}{x m:AO}{p pos apos:Bo}{e o:AT}{es:List AT}{ta:TE}{t:TA}
structure Mk(K:AF)(C f:AJ):Prop where
 makes:DR K C=AC
 init:Ai K (.ref C) "__init__"=AA (AA (.ref f))
 fn:Ca K (.ref f)=AC
 kp:Au K (.ref C)=AC
def zik{π:List (AJ×Bb)}{σ:St}{H:Hp}{s:AK}{Q:VK}{us:List AH}{vs:List V}(M:Mk X.K C f)(F:yaM X.prog X.w X.K X.mg X.base CX k f fd ps sp)(hr:yax (k+1) X.A)(hb:Binds X.K fd ps ds)(hd:Vals dvs ds)
  (hx:ybw CX X E) (I:Inv X π σ H s) (r:Vals vs us)
  (h:∀x dx,H x=AD->H dx=AD->dx≠x->sp (.ref x::(vs++dvs)) (upd (upd H dx (.own x)) x (.ins C dx [])) (λv H2=>v=.non/\Q (.ref x) H2) E):
  A5 (model X.prog X.w) X.A (call (.ref C) us) (EP X π σ Q) X.xe s:=by
 have hq:=h (s.heap.objs.size+1) s.heap.objs.size (I.hok.fresh (Cm _)) (I.hok.fresh (AS _)) (Ar (GA _));have I2:=Inv.made (C:=C) I;have r2:Vals (V.ref (s.heap.objs.size+1)::(vs++dvs)) (Al (s.heap.objs.size+1)::(us++ds)):=.cons rfl (r.append hd);have hl:(Al (s.heap.objs.size+1)::us++ds).length=ps.length:=by
  have e:=r2.length;rw[F.len _ _ _ _ hq]at e;exact e.symm
 refine G1 (zio (f:=f) I.kIn M.makes M.init (beq_iff_eq.mp M.fn) (D0 (F.run _ X.stack _ _ ⟨Al (s.heap.objs.size+1)::us,[]⟩ (Al (s.heap.objs.size+1)::(us++ds)) _ _ E (hr.make C us [])
  (I2.env0.make C us []) (hb _ (Al (s.heap.objs.size+1)::us) I2.kIn hl) r2 hq) λr s' hq'=>?_))
 cases r with
 |error e=>exact hx π σ _ _ e s' I2 hq'
 |ok fl=>
  cases fl with
  |ret u=>
   let⟨v,H',I3,rv,ev,q3⟩:=I2.after hq';subst ev;exact⟨rv,⟨V.ref (s.heap.objs.size+1),H',I3,rfl,q3⟩⟩
  |next=>exact BW hq'
  |brk=>exact BW hq'
  |cont=>exact BW hq'
def zkw(M:Mk X.K C f)(F:yaM X.prog X.w X.K X.mg X.base CX k f fd ps sp)(hr:yax (k+1) X.A)(hg:Gl X x)(hm:X.mg x=AA (.ref C))(hb:Binds X.K fd ps ds)(hd:Vals dvs ds)(hx:ybw CX X E)
  (ha:PA X (e::es) t) (hdb:(x==("__debug__":AO))=false:=by decide) (he:starEach (e::es) X.env=(AB,eval e X.env)::starEach es X.env:=by rfl) (hpl:(backTo pos (starEach es X.env)).any (·.1)=false:=by rfl):
  PE X (.Call (.Name x p) (e::es) [] pos) (yey C sp dvs E t):=by
 intro π s σ H Q I h;refine B1 (zbe I hg hm ?_ hdb);refine Dc (h₀:=X.base) I.ok.mod.kin M.kp (thn (ha pos π s σ H _ I h) λus s1 kq=>?_) he hpl;let⟨vs,H1,I1,r,q⟩:=kq;refine ⟨I1.kIn,?_⟩;exact zik M F hr hb hd hx I1 r q
end
def PK(X:Cx)(kws:List B7)(t:TA):Prop:=
 ∀(pos:Bo) (π:List (AJ×Bb)) (s:AK) (σ:St) (H:Hp) (Q:List V->Hp->Prop),Inv X π σ H s->t σ H Q->A5 (model X.prog X.w) X.A (evalAll ((backToKw pos (keywordEach kws X.env)).map (·.2))) (AP X π σ Q) X.xe s
section
variable {X:Cx}{CX:CXT}{k:Nat}{f C:AJ}{fd:Ax}{ps ks:List AO}{sp:Sp}{E:XK}{x m:AO}{p pos apos kpos:Bo}{e o:AT}{es:List AT}{kws:List B7}{te ta:TE}{t tk:TA}{nm:Option AO}
def zos:PK X [] ydA:=λ_ _ _ _ H Q I h=>wpAny_evalAll_nil ⟨[],H,I,.nil,h⟩
def zld(ha:PE X e te)(hr:PK X kws t):PK X (⟨nm,e,kpos⟩ :: kws) (ydC te t):=by
 intro pos π s σ H Q I h;show A5 _ _ (evalAll ((do let v <-eval e X.env;standAt pos;pure v)::(backToKw pos (keywordEach kws X.env)).map (·.2))) _ _ s;refine wpAny_evalAll_cons (AI (thn (ha π s σ H _ I h) λu s1 kq=>?_));let⟨x,H1,I1,r1,q1⟩:=kq;refine AI (DJ (A0 ?_));exact thn (hr pos π s1 σ H1 _ I1 q1) λus s2 ⟨xs,H2,I2,r2,q2⟩=>⟨x::xs,H2,I2,.cons r1 r2,q2⟩
structure ybv(K:AF)(fd:Ax)(ps ks:List AO)(g:List AH->List AH->List AH)(gV:List V->List V->List V):Prop where
 to:∀(s:AK) (us ws:List AH),K.In s.heap->(g us ws).length=ps.length->EZ s fd ⟨us,ks.zip ws⟩ (ps.zip (g us ws))
 rel:∀{vs:List V} {us:List AH} {zs:List V} {ws:List AH},Vals vs us->Vals zs ws->Vals (gV vs zs) (g us ws)
variable {g:List AH->List AH->List AH}{gV:List V->List V->List V}
end
structure yaI(N P:List AO)(sc:BQ):Prop where
 kind:sc.kind=.function
 co:sc.isCoroutine=AB
 gen:sc.isGenerator=AB
 nd:N.Nodup
 pre:N.take P.length=P
 par:∀x∈P,sc.names.lookup x=AA .local \/ sc.names.lookup x=AA .cell
 nofree:∀y∈sc.names,y.2 ≠ .free
def zdS{kindOf:AO->Option Cq}{x:AO}:∀{binds:List (AO×AH)} {m:AO->Option AH},(∀v,(x,v)∉binds)->bindL kindOf binds m x=m x
 |[],_,_=>rfl
 |(n,v)::r,m,h=>by
  unfold bindL;rw[zdS λw hw=>h w (AU _ hw)];split
  .have:x≠n:=by rintro rfl;exact h v A7
   simp[this]
  .rfl
def zdw{kindOf:AO->Option Cq}{x:AO}:∀{binds:List (AO×AH)} {m:AO->Option AH},(∀v,(x,v)∉binds)->bindC kindOf binds m x=m x
 |[],_,_=>rfl
 |(n,v)::r,m,h=>by
  unfold bindC;rw[zdw λw hw=>h w (AU _ hw)];split
  .rfl
  .have:x≠n:=by rintro rfl;exact h v A7
   simp[this]
def zdx{kindOf:AO->Option Cq}{x:AO}{v:AH}:∀{P:List AO} {vs:List AH} {i:Nat} {m:AO->Option AH},P.Nodup->P[i]?=AA x->vs[i]?=AA v->kindOf x=AA .local ->
  bindL kindOf (P.zip vs) m x=AA v
 |[],_,_,_,_,h,_,_=>by simp at h
 |_::_,[],_,_,_,_,h,_=>by simp at h
 |p::P,w::vs,0,m,nd,h1,h2,hk=>by
  simp at h1 h2;subst h1;subst h2;show bindL kindOf ((p,w)::P.zip vs) m p=_;unfold bindL;rw[zdS λv hv=>(DS.mp nd).1 (DU hv).1,if_pos hk];simp
 |p::P,w::vs,i+1,m,nd,h1,h2,hk=>by
  show bindL kindOf ((p,w)::P.zip vs) m x=_;unfold bindL;exact zdx (i:=i) (DS.mp nd).2 (by simpa using h1) (by simpa using h2) hk
def zdN{kindOf:AO->Option Cq}{x:AO}{v:AH}:∀{P:List AO} {vs:List AH} {i:Nat} {m:AO->Option AH},P.Nodup->P[i]?=AA x->vs[i]?=AA v->kindOf x≠AA .local ->
  bindC kindOf (P.zip vs) m x=AA v
 |[],_,_,_,_,h,_,_=>by simp at h
 |_::_,[],_,_,_,_,h,_=>by simp at h
 |p::P,w::vs,0,m,nd,h1,h2,hk=>by
  simp at h1 h2;subst h1;subst h2;show bindC kindOf ((p,w)::P.zip vs) m p=_;unfold bindC;rw[zdw λv hv=>(DS.mp nd).1 (DU hv).1,if_neg hk];simp
 |p::P,w::vs,i+1,m,nd,h1,h2,hk=>by
  show bindC kindOf ((p,w)::P.zip vs) m x=_;unfold bindC;exact zdN (i:=i) (DS.mp nd).2 (by simpa using h1) (by simpa using h2) hk
def start(N:List AO)(vs:List V):St:=vs.map AA++Aj (N.length-vs.length) AD
def yaQ(CX:CXT)(P:Aa)(w:Am)(K:AF)(mg:AO->Option AH)(base:Aw)(N:List AO)(qual:AO)(scope:BQ)(f:AJ)(cd:AH)(A:An)(outer:List Env)(s:AK)(H:Hp)(E:XK):Cx where
 prog:=P
 w:=w
 K:=K
 mg:=mg
 base:=base
 A:=A.deeper (envOfC qual scope s.heap.objs.size f cd)
 N:=N
 s₀:=s
 H₀:=H
 env:=envOfC qual scope s.heap.objs.size f cd
 outer:=outer
 stack:=envOfC qual scope s.heap.objs.size f cd::outer
 ex:=[]
 calm:=AC
 fn:=λ_=>AC
 pn:=[]
 xe:=λe s'=>A5 (model P w) (A.deeper (envOfC qual scope s.heap.objs.size f cd)) («leaving» (envOfC qual scope s.heap.objs.size f cd) e) (λ_ s''=>CX outer H s E e s'') (λe' s''=>CX outer H s E e' s'') s'
def zfc{sc:BQ}{n:Nat}{x:AO}(h:sc.names.lookup x=AA .cell):∃c,(cellsFrom n sc.names []).lookup x=AA c:=by
 have q:=Cr sc.names n [] (.inl h);exact Ae.mp q
def zdO{CX:CXT}{P:Aa}{w:Am}{K:AF}{mg:AO->Option AH}{base:Aw}{N ps:List AO}{qual:AO}{scope:BQ}{f:AJ}{cd:AH}{A:An}{outer:List Env}{s s1:AK}{H:Hp}{E:XK}{us:List AH}{vs:List V}
  (S:yaI N ps scope) (hd:A.handled=AD) (e0:ycp P w K mg base A outer s H) (hl:vs.length=ps.length) (r:Vals vs us)
  (x:InCallC s s.heap.objs.size (bindL (envOfC qual scope s.heap.objs.size f cd).kindOf (ps.zip us) λ_=>AD) (cellsFrom (s.heap.objs.size+1) scope.names []) (bindC (envOfC qual scope s.heap.objs.size f cd).kindOf (ps.zip us) λ_=>AD) s1):
  Inv (yaQ CX P w K mg base N qual scope f cd A outer s H E) [] (start N vs) H s1:=by
 have hpl:ps.length<=N.length:=by have:=congrArg Bt S.pre;rw[CO]at this;lia
 let⟨h1,tk,rfl,hk⟩:=x.done;have noA:∀b:AJ,b∉(yaQ CX P w K mg base N qual scope f cd A outer s H E).ex:=λb z=>absurd (show b∈([]:List AJ)from z) (by simp);refine⟨⟨e0.mod,S.kind,rfl,rfl,AS _,λy z c h1 h2=>?_,λy hy=>?_,λy c _ h=>?_,λ_=>hd,Around.frames_deeper e0.frames,.inr ⟨rfl,rfl⟩,λb z=>absurd z (noA b),e0.bs,e0.bsz,λb _ _=>noA b,λb z=>absurd z (noA b),e0.funs,e0.frf⟩,
  rfl,e0.bare,Un.kept hk,⟨_,x.toInCall.ns,λi y v h1 h2 h3=>?_⟩,λy c h=>⟨_,x.cell y c h⟩,e0.hok.fresh (AS _),λy c h=>?_,λp hp=>absurd (show p∈([]:List (AJ×Bb))from hp) (by simp),e0.hok.kept hk,?_⟩
 .exact name_of_addr x.apart (CN h1) (CN h2)
 .have hy:scope.names.lookup y=AA .cell \/ scope.names.lookup y=AA .free:=hy;rcases hy with hy|hy
  .exact zfc hy
  .exact absurd rfl (S.nofree _ (CN hy))
 .exact F4 (x.above y c (CN h))
 .have hi:i<vs.length:=by
   unfold start at h2
   by_cases hi:i<vs.length
   .exact hi
   .rw[Ad (by simpa using hi)]at h2;rw[EM]at h2;split at h2<;>cases h2
  have ha:vs[i]?=AA v:=by
   unfold start at h2;rw[AY (by simpa using hi),Ba]at h2
   cases e:vs[i]? with
   |none=>rw[e]at h2;cases h2
   |some a=>rw[e]at h2;cases h2;rfl
  let⟨u,hu,rv⟩:=r.get ha;have hp:ps[i]?=AA y:=by
   rw[<-S.pre,List.getElem?_take_of_lt ∅];exact h1
  have ndP:ps.Nodup:=by rw[<-S.pre];exact S.nd.sublist (List.take_sublist _ _)
  refine⟨u,rv,?_⟩;rcases S.par y (AR hp)with k|k
  .exact .inl ⟨k,zdx ndP hp hu k⟩
  .let⟨c,e⟩:=zfc (n:=s.heap.objs.size+1) k;refine .inr ⟨.inl k,c,e,?_⟩;have q:=x.cell y c e;rw[zdN ndP hp hu (by show scope.names.lookup y≠_;rw[k];decide)]at q;exact q
 .exact e0.hok.fresh (F4 (x.above y c (CN h)))
 .unfold start;show _=N.length;rw[AM,Af,C1];lia
def znz{CX:CXT}{P:Aa}{w:Am}{K:AF}{mg:AO->Option AH}{base:Aw}{k:Nat}{f:AJ}{name qual:AO}{params:Arguments}{body:List Bc}{scope:BQ}{dV kV doc pm cdv ct oc:AH}{an od:Option AJ}
  {osl:Array (Option AH)} {N ps:List AO} {sp:Sp} (lk:K.lookup f=AA ⟨oc,od,.func (BU name qual params body scope dV kV doc pm an cdv ct),osl⟩) (hcd:By K cdv qual=AC) (S:yaI N ps scope)
  (len:∀vs H Q E,sp vs H Q E->vs.length=ps.length)
  (hbody:∀(A:An) (outer:List Env) (s:AK) (H:Hp) (vs:List V) (Q:VK) (E:XK),yax k (A.deeper (envOfC qual scope s.heap.objs.size f cdv))->sp vs H Q E ->
   ∃t,PSs (yaQ CX P w K mg base N qual scope f cdv A outer s H E) body t/\t {nx:=λ_ H'=>Q .non H',rt:=Q} (start N vs) H):
  yaM P w K mg base CX (k+1) f (BU name qual params body scope dV kV doc pm an cdv ct) ps sp:=by
 refine⟨len,λA outer s H args us vs Q E hr e0 hb r hsp=>?_⟩;have hl:=len _ _ _ _ hsp;have KX:K.In s.heap:=e0.mod.kin.keeps λb o e=>(e0.bs b o e).1;have lim:s.heap.NoLimit:=e0.mod.nolimit.keeps λb o e=>(e0.bs b o e).1;have hkind:∀y∈ps.zip us,scope.names.lookup y.1=AA .local \/ (scope.names.lookup y.1=AA .cell/\((cellsFrom (s.heap.objs.size+1) scope.names []).lookup y.1).isSome=AC):=λ⟨n,v⟩ hy=>by
  rcases S.par n (DU hy).1 with q|q
  .exact .inl q
  .exact .inr ⟨q,Cr _ _ _ (.inl q)⟩
 refine Ee hr.depth (KX _ _ lk) rfl S.co S.gen rfl (FX KX hcd) (hb _ _ _ _ ?_);refine De S.kind hkind λenv he s1 x=>?_;subst he;refine⟨lim.keeps x.toInCall.keep,codeAny_func ?_⟩;let⟨t,ht,hq⟩:=hbody A outer s H vs Q E (hr.deeper _) hsp;have I:Inv (yaQ CX P w K mg base N qual scope f cdv A outer s H E) [] (start N vs) H s1:=zdO S hr.hd e0 hl r x;refine Be (ht [] s1 (start N vs) H _ I hq) (λfl s' hs=>?_) λe s' hs=>hs;have fin:∀{σ':St} {H':Hp} {v:V} {u:AH},Inv (yaQ CX P w K mg base N qual scope f cdv A outer s H E) [] σ' H' s'->RelV v u->Q v H'->CE outer P w H s Q u s':=
  λ{σ' H' v u} J rv q=>⟨v,H',J.os,J.bare,J.base,J.hok,rv,q⟩
 cases fl with
 |ret u=>
  let⟨v,σ',H',J,rv,q⟩:=hs;exact fin J rv q
 |next=>
  let⟨σ',H',J,q⟩:=hs;exact fin (v:=V.non) (u:=Bl) J rfl q
 |brk=>
  let⟨_,_,_,q⟩:=hs;exact BW q
 |cont=>
  let⟨_,_,_,q⟩:=hs;exact BW q
section
variable {X:Cx}{x:AO}{p pos:Bo}{e:AT}{es:List AT}{t:TA}{id T:String}{r:List V->Hp->VK->Prop}
def tCB(r:List V->Hp->VK->Prop)(t:TA):TE:=λσ H Q=>t σ H λvs H1=>r vs H1 Q
def zb1(hc:yag X (.builtin id) r)(hg:Gl X x)(hm:X.mg x=AD)(hv:bootBuiltins x=AA (.builtin id))(ha:PA X (e::es) t)(hn:x ≠ "__name__":=by decide)(hdb:(x==("__debug__":AO))=false:=by decide)
  (he:starEach (e::es) X.env=(AB,eval e X.env)::starEach es X.env:=by rfl) (hpl:(backTo pos (starEach es X.env)).any (·.1)=false:=by rfl):PE X (.Call (.Name x p) (e::es) [] pos) (tCB r t):=by
 intro π s σ H Q I h;refine B1 (zcT I hg hm hv ?_ hn hdb);exact GB (thn (ha pos π s σ H _ I h) λus s1 ⟨vs,H1,I1,r1,q1⟩=>hc π s1 σ H1 vs us Q I1 r1 q1) he hpl
def zdP(hc:yag X (.type T) r)(hg:Gl X x)(hm:X.mg x=AD)(hv:bootBuiltins x=AA (.type T))(ha:PA X (e::es) t)(hn:x ≠ "__name__":=by decide)(hdb:(x==("__debug__":AO))=false:=by decide)
  (he:starEach (e::es) X.env=(AB,eval e X.env)::starEach es X.env:=by rfl) (hpl:(backTo pos (starEach es X.env)).any (·.1)=false:=by rfl):PE X (.Call (.Name x p) (e::es) [] pos) (tCB r t):=by
 intro π s σ H Q I h;refine B1 (zcT I hg hm hv ?_ hn hdb);exact Br (thn (ha pos π s σ H _ I h) λus s1 ⟨vs,H1,I1,r1,q1⟩=>hc π s1 σ H1 vs us Q I1 r1 q1) he hpl
end
end L2
namespace HT
open PySem PyProof.Rows
section
open PySem.SeqAt
open PySem.AutoSeq1 (wpAny_loadPart')
open PySem.MeetsSeq PySem.MeetsSeq2 PySem.MeetsSeq3
end
section
variable {prog:Aa}{w:Am}{A:An}{E:AH->AK->Prop}{s:AK}
theorem cat_tup{t b:AJ}{vs ws:List AH}{Q:AH->AK->Prop}(ht:Gy s.heap t vs.toArray)(hb:Gy s.heap b ws.toArray)(hv:vs≠[])
  (h1:ws=[]->Q (.ref t) s) (h2:ws≠[]->Q (.ref s.heap.objs.size) {s with heap:=s.heap.push {cls:=.type "tuple",data:=.seq (vs++ws).toArray} })
  (hsz:vs.length+ws.length<=sizeLine):A5 (model prog w) A (binaryOp .Add (.ref t) (.ref b)) Q E s:=by
 let⟨⟨cls,dd,data,sl⟩,ho,hc,n,hd⟩:=id ht;let⟨⟨cls2,dd2,data2,sl2⟩,ho2,hc2,n2,hd2⟩:=id hb;simp only at hc hd hc2 hd2;subst hc hd hc2 hd2;have e:vs.toArray++ws.toArray=(vs++ws).toArray:=by simp
 by_cases hw:ws=[]
 .exact Fa ⟨_,ho,rfl⟩ ⟨_,ho2,rfl⟩ EN FN Ct Cn (Cg _ _)
   (tuple_addW1 t b vs.toArray ws.toArray n n2 dd dd2 sl sl2 (by simpa using hv) (by simp[hw])) ⟨ho,ho2,h1 hw⟩
 .refine Fa ⟨_,ho,rfl⟩ ⟨_,ho2,rfl⟩ EN FN Ct Cn (Cg _ _)
   (tuple_addW2 t b vs.toArray ws.toArray n n2 dd dd2 sl sl2 (by simpa using hv) (by simpa using hw) (by rw[A1,A1];exact hsz)) ⟨ho,ho2,?_⟩
  rw[e];exact h2 hw
def sIx(n d:Nat):Option Int->Nat
 |none=>d
 |some v=>if v<0 then(v+(n:Int)).toNat else min v.toNat n
theorem sIx_le(n d:Nat)(hd:d<=n)(o:Option Int):sIx n d o<=n:=by
 cases o with
 |none=>exact hd
 |some v=>
  show (if v<0 then(v+(n:Int)).toNat else min v.toNat n)<=n
  by_cases hv:v<0
  .rw[if_pos hv];lia
  .rw[if_neg hv];exact Nat.min_le_right _ _
def zgE(v:Int)(n d:Nat):(if v<0 then max (v+(n:Int)) 0 else min v (n:Int))=((sIx n d (AA v):Nat):Int):=by
 show (if v<0 then max (v+(n:Int)) 0 else min v (n:Int))=(((if v<0 then(v+(n:Int)).toNat else min v.toNat n):Nat):Int)
 by_cases hv:v<0
 .simp only[if_pos hv];lia
 .simp only[if_neg hv];lia
def zfz(lo hi:Option Int)(n:Nat):Cb lo hi 1 (n:Int)=(((sIx n 0 lo:Nat):Int),((sIx n n hi:Nat):Int)):=by
 have h1:¬((1:Int)<0):=by lia
 unfold Cb;erw[h1,if_false];refine Prod.ext ?_ ?_
 .cases lo with
  |none=>rfl
  |some v=>exact zgE v n 0
 .cases hi with
  |none=>rfl
  |some v=>exact zgE v n n
def zfi(i j:Nat):CC (i:Int) (j:Int) 1=j-i:=by
 unfold CC;have h1:(1:Int) > 0:=by lia
 erw[h1,if_true,Int.ediv_one];split<;>lia
def zcS{v:AH}{o:Option Int}{Q:Option Int->AK->Prop}(p:E1 v o)(h:Q o s):A5 (model prog w) A (GR v) Q E s:=by
 cases p with
 |none=>exact slicePart_none h
 |int i t=>exact slicePart_int h
theorem sliceApplied_gen{sl:AJ}{vl vu:AH}{lo hi:Option Int}{n:Nat}{Q:Int×Int×Nat->AK->Prop}(hs:s.heap.IsSliceOf sl vl vu .none)(pl:E1 vl lo)(pu:E1 vu hi)
  (h:Q (((sIx n 0 lo:Nat):Int),1,sIx n n hi-sIx n 0 lo) s):A5 (model prog w) A (Dg (.ref sl) (pure (n:Int))) Q E s:=by
 let⟨os,hos,hcs,hds⟩:=id hs;unfold Dg Gc;refine AI (AI (BO hos hds (x:=vl) rfl (AI (BO hos hds (x:=vu) rfl (AI (BO hos hds (x:=.none) rfl (A0 ?_)))))));refine AI (slicePart_none ?_);show A5 _ _ (if ((1:Int)==0)=AC then _ else _) _ _ s;rw[if_neg ⋯];refine AI (zcS pl (AI (zcS pu (AI (A0 ?_)))));show A5 _ _ (match Cb lo hi 1 (n:Int)with|(lo,hi)=>pure (lo,(1:Int),CC lo hi 1)) _ _ s;rw[zfz lo hi n];show A5 _ _ (pure (((sIx n 0 lo:Nat):Int),(1:Int),CC ((sIx n 0 lo:Nat):Int) ((sIx n n hi:Nat):Int) 1)) _ _ s;rw[zfi];exact A0 h
def zhB(xs:Array AH)(i k:Nat):((EW k).filterMap λ(m:Nat)=>xs[((i:Int)+(m:Int)*1).toNat]?).toArray=((xs.toList.drop i).take k).toArray:=by
 have e:(λ(m:Nat)=>xs[((i:Int)+(m:Int)*1).toNat]?)=λm=>xs[i+m]?:=by
  funext m
  have:((i:Int)+(m:Int)*1).toNat=i+m:=by lia
  rw[this]
 rw[e];have:=pick_run xs i k;rw[List.filterMap_map]at this;have e2:((λx=>xs[x]?) ∘ λx=>i+x)=λm=>xs[i+m]?:=rfl;rw[e2]at this;rw[this]
theorem getItem_tuple_cut{t sl:AJ}{items:Array AH}{vl vu:AH}{lo hi:Option Int}{Q:AH->AK->Prop}(ht:Gy s.heap t items)(hs:s.heap.IsSliceOf sl vl vu .none)(pl:E1 vl lo)(pu:E1 vu hi)
  (hw:¬(sIx items.size 0 lo=0/\sIx items.size items.size hi=items.size))
  (h:Q (.ref s.heap.objs.size) {s with heap:=s.heap.push {cls:=.type "tuple",data:=.seq ((items.toList.drop (sIx items.size 0 lo)).take (sIx items.size items.size hi-sIx items.size 0 lo)).toArray} })
  (hsz:items.size<=sizeLine):A5 (model prog w) A (getItem (.ref t) (.ref sl)) Q E s:=by
 have htake:sizeOk (.seq ((items.toList.drop (sIx items.size 0 lo)).take (sIx items.size items.size hi-sIx items.size 0 lo)).toArray):=by
  show ((items.toList.drop (sIx items.size 0 lo)).take (sIx items.size items.size hi-sIx items.size 0 lo)).toArray.size<=sizeLine;rw[A1,CO,DE,Bq];lia
 have hj:sIx items.size items.size hi<=items.size:=sIx_le _ _ (AS _) hi;let⟨os,hos,hcs,hds⟩:=id hs;have hTs:s.TypeIs (.ref sl) "slice":=⟨os,hos,hcs⟩;unfold getItem
 try with_reducible refine DI ?_
 first|refine AI (A0 ?_)|skip
 refine AI (Fb ht.typeIs ⋯ ?_);refine AI (B3 (name:=AE "__getitem__") ht.typeIs BC
  (CP BC ht.typeIs FI ?_ (FY _ _)))
 show A5 _ _ (Dh (.ref t) >>= _) _ _ s;refine AI (FA ht ?_);refine AI (Fc hTs ?_);rw[if_pos ⋯];refine AI (sliceApplied_gen hs pl pu ?_);have hno:¬((((sIx items.size 0 lo:Nat):Int)==0&&(1:Int)==1&&(sIx items.size items.size hi-sIx items.size 0 lo)==items.size)=AC):=by
  intro q;rw[AG,AG]at q;have q1:((sIx items.size 0 lo:Nat):Int)=0:=eq_of_beq q.1.1;have q2:sIx items.size items.size hi-sIx items.size 0 lo=items.size:=eq_of_beq q.2;exact hw ⟨by lia,by lia⟩
 show A5 _ _ (if (((sIx items.size 0 lo:Nat):Int)==0&&(1:Int)==1&&(sIx items.size items.size hi-sIx items.size 0 lo)==items.size)=AC then _ else _) _ _ s;rw[if_neg hno,zhB]
 first
  |exact AI (m:=CK _) (B9 (A0 ⟨_,rfl,A0 h⟩) htake)
  |exact AI (m:=CK _) (B9 (AI (A0 (A0 ⟨_,rfl,A0 h⟩))) htake)
  |exact AI (AI (m:=CK _) (B9 (A0 (A0 ⟨_,rfl,A0 h⟩)) htake))
  |exact AI (AI (m:=CK _) (B9 (A0 ⟨_,rfl,A0 h⟩) htake))
end
end HT
namespace L2
open PySem PySem.Spec PyProof.Rows
abbrev TO:=St->Hp->(Option Int->Hp->Prop)->Prop
def PO(X:Cx)(e:Option AT)(t:TO):Prop:=
 ∀(π:List (AJ×Bb)) (s:AK) (σ:St) (H:Hp) (Q:Option Int->Hp->Prop),Inv X π σ H s->t σ H Q ->
  A5 (model X.prog X.w) X.A (evalPart e X.env) (λu s'=>∃o H',Inv X π σ H' s'/\E1 u o/\Q o H') X.xe s
def yc4:TO:=λ_ H Q=>Q AD H
def zfr{ns:List Int}:∀{us:List AH},Vals (ns.map V.int) us->FD us ns:=by
 induction ns with
 |nil=>intro us r;rw[BM]at r;cases r;exact .nil
 |cons n ns ih=>
  intro us r;rw[AX]at r
  cases r with
  |cons r1 r2=>
   let⟨t,e⟩:=r1;subst e;exact .cons n t (ih r2)
section
variable {X:Cx}{e:AT}{te:TE}{lo hi:Option AT}{tl th:TO}{pos p2:Bo}
def zkH:PO X AD yc4:=by
 intro π s σ H Q I h;rw[evalPart_none];exact A0 ⟨AD,H,I,.none,h⟩
def SlR(X:Cx)(r:V->Option Int->Option Int->Hp->VK->Prop):Prop:=
 ∀(π:List (AJ×Bb)) (s:AK) (σ:St) (H:Hp) (x:V) (v vl vu:AH) (lo hi:Option Int) (sl:AJ) (Q:VK),Inv X π σ H s->RelV x v->s.heap.IsSliceOf sl vl vu .none->E1 vl lo->E1 vu hi->r x lo hi H Q ->
  ∃T id,typeLookup (.type T) "__getitem__"=pure (AA (.builtin id))/\s.TypeIs v T/\A5 (model X.prog X.w) X.A (getItem v (.ref sl)) (EP X π σ Q) X.xe s
def tSl(r:V->Option Int->Option Int->Hp->VK->Prop)(te:TE)(tl th:TO):TE:=λσ H Q=>te σ H λx H1=>tl σ H1 λl H2=>th σ H2 λu H3=>r x l u H3 Q
def zib{r:V->Option Int->Option Int->Hp->VK->Prop}(hr:SlR X r)(he:PE X e te)(hl:PO X lo tl)(hu:PO X hi th):PE X (.Subscript e (.Slice lo hi AD p2) pos) (tSl r te tl th):=by
 intro π s σ H Q I h;refine G2 (thn (he π s σ H _ I h) λv s1 kq=>?_);let⟨x,H1,I1,r1,q1⟩:=kq;refine wpAny_Slice (thn (hl π s1 σ H1 _ I1 q1) λvl s2 kq=>?_);let⟨l,H2,I2,pl,q2⟩:=kq;refine thn (hu π s2 σ H2 _ I2 q2) λvu s3 kq=>?_;let⟨u,H3,I3,pu,q3⟩:=kq;rw[evalPart_none];refine A0 ?_;have I4:Inv X π σ H3 {s3 with heap:=s3.heap.push {cls:=.type "slice",data:=.fields #[vl,vu,.none]} }:=I3.kept (t':=s3.toks) λb ob q=>AV _ q;let⟨T,id,hT,ht,hg⟩:=hr π {s3 with heap:=s3.heap.push {cls:=.type "slice",data:=.fields #[vl,vu,.none]} } σ H3 x v vl vu l u s3.heap.objs.size Q I4 r1 (HE ..) pl pu q3;show A5 (model X.prog X.w) X.A (subscriptTail e (.Slice lo hi AD p2) v (.ref s3.heap.objs.size)) (EP X π σ Q) X.xe {s3 with heap:=s3.heap.push {cls:=.type "slice",data:=.fields #[vl,vu,.none]} };exact tail_any (ops:=[.ref s3.heap.objs.size,v]) ht hT hg (by ac_rfl)
def ycG(xs:List V)(lo hi:Option Int):List V:=(xs.drop (HT.sIx xs.length 0 lo)).take (HT.sIx xs.length xs.length hi-HT.sIx xs.length 0 lo)
def zcw(xs:List V)(lo hi:Option Int):(ycG xs lo hi).length<=xs.length:=by
 unfold ycG;rw[CO,DE];lia
def yhN(K:AF):V->Option Int->Option Int->Hp->VK->Prop:=λx lo hi H Q=>∃a xs,x=.ref a/\SqT K H a xs /\
 ¬(HT.sIx xs.length 0 lo=0/\HT.sIx xs.length xs.length hi=xs.length)/\∀p,H p=AD->Q (.ref p) (upd H p (.tup (ycG xs lo hi)))
def zlO:SlR X (yhN X.K):=by
 intro π s σ H x v vl vu lo hi sl Q I rx hs pl pu h;let⟨a,xs,rfl,hx,hw,q⟩:=h
 cases rx
 let⟨its,r,ht,hz⟩:=I.tuple hx;have hlen:its.toArray.size=xs.length:=by rw[A1];exact r.length.symm
 refine⟨"tuple",_,BC.lookup,ht.typeIs,?_⟩;refine HT.getItem_tuple_cut ht hs pl pu (by rw[hlen];exact hw) ?_ (by rw[hlen];exact hz);rw[hlen];refine⟨.ref s.heap.objs.size,_,I.laid (t':=s.toks) (o:=.tup (ycG xs lo hi)) (λb ob q=>AV _ q) (AS _) ?_,rfl,q _ (I.hok.fresh (AS _))⟩;exact⟨BH (zcw xs lo hi) hz,_,(r.drop (HT.sIx xs.length 0 lo)).take (HT.sIx xs.length xs.length hi-HT.sIx xs.length 0 lo),Fx _ _⟩
def yeI(K:AF):R2:=λx y H Q=>∃a b xs ys,x=.ref a/\y=.ref b/\SqT K H a xs/\SqT K H b ys/\xs≠[]/\xs.length+ys.length<=sizeLine /\
 (ys=[]->Q (.ref a) H)/\(ys≠[]->∀p,H p=AD->Q (.ref p) (upd H p (.tup (xs++ys))))
theorem Vals.nil_iff{xs:List V}{us:List AH}(r:Vals xs us):us=[] ↔ xs=[]:=by
 cases r with
 |nil=>simp
 |cons _ _=>simp
def zlb:OpR X (binaryOp .Add) (yeI X.K):=by
 intro π s σ H x y v u Q I rx ry h;let⟨a,b,xs,ys,rfl,rfl,ha,hb,hx,hz,q1,q2⟩:=h
 cases rx
 cases ry
 let⟨its,r1,p1,_⟩:=I.tuple ha;let⟨its2,r2,p2,_⟩:=I.tuple hb;refine HT.cat_tup p1 p2 (λz=>hx (r1.nil_iff.mp z)) (λz=>⟨.ref a,H,I,rfl,q1 (r2.nil_iff.mp z)⟩) (λz=>?_) (by rw[<-r1.length,<-r2.length];exact hz);refine⟨.ref s.heap.objs.size,_,I.laid (t':=s.toks) (o:=.tup (xs++ys)) (λb ob q=>AV _ q) (AS _) ?_,rfl,q2 (λw=>z (r2.nil_iff.mpr w)) _ (I.hok.fresh (AS _))⟩;exact⟨by rw[AM];exact hz,_,r1.append r2,Fx _ _⟩
end
def ixN(n:Nat)(i:Int):Option Nat:=if 0<=i then(if i<n then AA i.toNat else AD)else if -(n:Int)<=i then AA (i+n).toNat else AD
def atI{α:Type}(xs:List α)(i:Int):Option α:=(ixN xs.length i).bind λj=>xs[j]?
def zgK{n:Nat}{i:Int}{j:Nat}(h:ixN n i=AA j):seqIndex? i n=AA j/\j<n/\-(n:Int)<=i/\i<n:=by
 unfold ixN at h
 by_cases h0:0<=i
 .rw[if_pos h0]at h
  by_cases h1:i<n
  .rw[if_pos h1]at h;have e:i.toNat=j:=A6 h;exact⟨by rw[GO h0 h1,e],by lia,by lia,h1⟩
  .rw[if_neg h1]at h;cases h
 .rw[if_neg h0]at h
  by_cases h1:-(n:Int)<=i
  .rw[if_pos h1]at h;have e:(i+n).toNat=j:=A6 h;exact⟨by rw[seqIndex_neg ∅ h1,e],by lia,h1,by lia⟩
  .rw[if_neg h1]at h;cases h
def zec{α:Type}{xs:List α}{i:Int}{v:α}(h:atI xs i=AA v):∃j,seqIndex? i xs.length=AA j/\xs[j]?=AA v/\j<xs.length/\-(xs.length:Int)<=i/\i<xs.length:=by
 unfold atI at h
 cases e:ixN xs.length i with
 |none=>rw[e]at h;cases h
 |some j=>
  rw[e]at h;let⟨h1,h2,h3,h4⟩:=zgK e;exact⟨j,h1,h,h2,h3,h4⟩
def ybp(b:AT):Prop:=∀o i,subscripted b AB o i=operate [o,i] (getItem o i)
def IxR(X:Cx)(r:R2):Prop:=
 ∀(value slice:AT) (π:List (AJ×Bb)) (s:AK) (σ:St) (H:Hp) (x y:V) (v u:AH) (Q:VK),Inv X π σ H s->RelV x v->RelV y u->r x y H Q ->
  subscripted slice AB v u=operate [v,u] (getItem v u)->A5 (model X.prog X.w) X.A (subscriptTail value slice v u) (EP X π σ Q) X.xe s
def MtR(X:Cx)(id:String)(r:V->List V->Hp->VK->Prop):Prop:=
 ∀(π:List (AJ×Bb)) (s:AK) (σ:St) (H:Hp) (x:V) (xs:List V) (v:AH) (us:List AH) (Q:VK),Inv X π σ H s->RelV x v->Vals xs us->r x xs H Q ->
  A5 (model X.prog X.w) X.A (call (.builtin id) (v::us)) (EP X π σ Q) X.xe s
section
variable {X:Cx}{a b:AT}{ta tb:TE}{pos:Bo}
theorem IxR.or{r r':R2}(h:IxR X r)(h':IxR X r'):IxR X (λx y H Q=>r x y H Q \/ r' x y H Q):=by
 intro value slice π s σ H x y v u Q I rx ry q hs;rcases q with q|q
 .exact h value slice π s σ H x y v u Q I rx ry q hs
 .exact h' value slice π s σ H x y v u Q I rx ry q hs
def znI{r:R2}(hr:IxR X r)(ha:PE X a ta)(hb:PE X b tb)(hs:ybp b):PE X (.Subscript a b pos) (tOp r ta tb):=by
 intro π s σ H Q I h;exact G2 (zlh ha hb I h λv u s2 x y H2 I2 rx ry q=>hr a b π s2 σ H2 x y v u Q I2 rx ry q (hs _ _))
def yfI(K:AF):R2:=λx y H Q=>∃p xs i v,x=.ref p/\y=.int i/\SqL K H p xs/\atI xs i=AA v/\Q v H
def yfM(K:AF):R2:=λx y H Q=>∃p xs i v,x=.ref p/\y=.int i/\SqT K H p xs/\atI xs i=AA v/\Q v H
def yfP:R2:=λx y H Q=>∃z i c,x=.str z/\y=.int i/\z.length<=sizeLine/\atI z.cps.toList i=AA c/\Q (.str ⟨#[c]⟩) H
def zot:IxR X (yfI X.K):=by
 intro value slice π s σ H x y v u Q I rx ry h hs;let⟨p,xs,i,z,rfl,rfl,hq,he,q⟩:=h
 cases rx
 let⟨t,rfl⟩:=ry;let⟨its,r,pl,hz⟩:=I.list hq;let⟨j,h1,h2,h3,h4,h5⟩:=zec he;let⟨w,ew,rw'⟩:=r.get h2;have hl:=r.length;have hn:=zgL;have fin:EP X π σ Q w s:=⟨z,H,I,rw',q⟩
 by_cases h0:0<=i
 .have hj:i.toNat=j:=by
   rw[GO h0 h5]at h1;exact A6 h1
  exact item_listR pl.isList h0 ∅ (by rw[hj];simpa using ew) fin hs
 .have hj:(i+(its.toArray.size:Int)).toNat=j:=by
   rw[seqIndex_neg ∅ h4]at h1;rw[A1,<-hl];exact A6 h1
  exact E2 (x:=w) pl.isList.typeIs Fd.lookup
   (wpAny_getItem_list_neg (Q:=λr s'=>r=w/\EP X π σ Q r s') pl.isList ∅ (by rw[A1]<;>lia) ∅ (by rw[hj];simpa using ew) ⟨rfl,fin⟩) hs
def zou:IxR X (yfM X.K):=by
 intro value slice π s σ H x y v u Q I rx ry h hs;let⟨p,xs,i,z,rfl,rfl,hq,he,q⟩:=h
 cases rx
 let⟨t,rfl⟩:=ry;let⟨its,r,pl,hz⟩:=I.tuple hq;let⟨j,h1,h2,h3,h4,h5⟩:=zec he;let⟨w,ew,rw'⟩:=r.get h2;have hl:=r.length;have hn:=zgL;have fin:EP X π σ Q w s:=⟨z,H,I,rw',q⟩;exact E2 (x:=w) pl.typeIs BC.lookup
  (getItem_tuple (j:=j) (Q:=λr s'=>r=w/\EP X π σ Q r s') pl ∅ ∅ (by rw[A1,<-hl];exact h1) (by simpa using ew) ⟨rfl,fin⟩) hs
def znw:IxR X yfP:=by
 intro value slice π s σ H x y v u Q I rx ry h hs;let⟨z,i,c,rfl,rfl,hz,he,q⟩:=h;let⟨t,rfl⟩:=rx;let⟨t',rfl⟩:=ry;let⟨j,h1,h2,h3,h4,h5⟩:=zec he;have hl:z.cps.toList.length=z.length:=by simp[G3]
 rw[hl]at h1 h4 h5;have hn:=zgL;exact tail_any (G4 s z t) slot_str_getitem.lookup (getItem_str (c:=c) (by
  have e1:decide (i < -(2^63:Int))=false:=decide_eq_false ∅;have e2:decide (i ≥ 2^63)=false:=decide_eq_false ∅;rw[e1,e2,FO]) (by rw[h1];simpa using h2) ⟨.str ⟨#[c]⟩,H,I.tok _,⟨_,rfl⟩,q⟩) hs
def rIx(K:AF):R2:=λx y H Q=>yfI K x y H Q \/ yfM K x y H Q \/ yfP x y H Q
def zeU:IxR X (rIx X.K):=zot.or (zou.or znw)
def zfD(its:List AH)(n j:Nat)(u:AH):E3 (·.setIfInBounds j u) {cls:=.type "list",data:=.seq its.toArray n}={cls:=.type "list",data:=.seq (its.set j u).toArray n}:=by
 simp[E3]
theorem Inv.lst{π:List (AJ×Bb)}{σ:St}{H:Hp}{s:AK}{p:AJ}{xs:List V}(I:Inv X π σ H s)(h:H p=AA (.lst xs)):
  ∃(its:List AH) (n:Nat),Vals xs its/\s.heap.get? p=AA {cls:=.type "list",data:=.seq its.toArray n}/\xs.length<=sizeLine:=by
 let⟨z,its,n,r,e⟩:=I.hok p _ h;exact⟨its,n,r,e,z⟩
theorem Inv.lstUpd{π:List (AJ×Bb)}{σ:St}{H:Hp}{s:AK}{p:AJ}{xs ys:List V}{its its':List AH}{n n':Nat}{f:Bb->Bb}(I:Inv X π σ H s)(h:H p=AA (.lst xs))
  (ho:s.heap.get? p=AA {cls:=.type "list",data:=.seq its.toArray n}) (hf:f {cls:=.type "list",data:=.seq its.toArray n}={cls:=.type "list",data:=.seq its'.toArray n'}) (r:Vals ys its') (hz:ys.length<=sizeLine) (t:Nat):
  Inv X π σ (upd H p (.lst ys)) {s with heap:=s.heap.update p f,toks:=t}:=by
 have e:(s.heap.update p f).get? p=AA {cls:=.type "list",data:=.seq its'.toArray n'}:=by
  rw[Ef f ho (by rw[hf]<;>rfl),hf]
 refine I.write (x:=p) (e:=p) (by rw[h];trivial) (.inl rfl) (λb u hb q=>(Cu _ _ (BP hb)).trans q) ⟨_,e⟩ ?_;exact⟨hz,its',n',r,e⟩
def ybQ:V->V->V->Hp->(Hp->Prop)->Prop:=λo i v H Q=>∃p xs k j,o=.ref p/\i=.int k/\H p=AA (.lst xs)/\ixN xs.length k=AA j/\Q (upd H p (.lst (xs.set j v)))
def zb0:yfY X ybQ:=by
 intro π s σ H o i v ov iv u Q I ro ri rv h;let⟨p,xs,k,j,rfl,rfl,hp,hj,q⟩:=h
 cases ro
 let⟨t,rfl⟩:=ri;let⟨its,n,r,ho,hz⟩:=I.lst hp;let⟨h1,h2,h3,h4⟩:=zgK hj;have hl:=r.length;have hn:=zgL;have I':Inv X π σ (upd H p (.lst (xs.set j v))) {s with heap:=s.heap.update p (E3 (·.setIfInBounds j u))}:=
  I.lstUpd hp ho (zfD its n j u) (r.set rv j) (by rw[BB];exact hz) s.toks
 by_cases h0:0<=k
 .have hk:k.toNat=j:=by
   rw[GO h0 h4]at h1;exact A6 h1
  exact PySem.W.ki_setAt ho h0 ∅ (by rw[A1,<-hl];exact h4) (by rw[hk];exact⟨_,I',q⟩)
 .have hk:(k+(its.toArray.size:Int)).toNat=j:=by
   rw[seqIndex_neg ∅ h3]at h1;rw[A1,<-hl];exact A6 h1
  exact PySem.W.ki_setBack ho ∅ (by rw[A1,<-hl];exact h3) ∅ (by rw[hk];exact⟨_,I',q⟩)
def zd2(lo hi:Option Int)(n:Nat):(sliceBounds lo hi AD n).1=((HT.sIx n 0 lo:Nat):Int)/\(sliceBounds lo hi AD n).2.1=((HT.sIx n n hi:Nat):Int)/\(sliceBounds lo hi AD n).2.2=1:=by
 refine⟨?_,?_,rfl⟩
 .cases lo with
  |none=>simp[sliceBounds,HT.sIx]
  |some i=>
   erw[sliceBounds,HT.sIx,GE,show (1:Int) > 0 by decide,if_true]
   by_cases h:i<0
   .simp only[h,if_true]<;>lia
   .simp only[h,if_false]<;>lia
 .cases hi with
  |none=>simp[sliceBounds,HT.sIx]
  |some i=>
   erw[sliceBounds,HT.sIx,GE,show (1:Int) > 0 by decide,if_true]
   by_cases h:i<0
   .simp only[h,if_true]<;>lia
   .simp only[h,if_false]<;>lia
def zdo(its:List AH)(lo hi:Option Int):slicePick its.toArray lo hi AD=((its.drop (HT.sIx its.length 0 lo)).take (HT.sIx its.length its.length hi-HT.sIx its.length 0 lo)).toArray:=by
 let⟨h1,h2,h3⟩:=zd2 lo hi its.toArray.size;unfold slicePick;rw[h1,h2,h3];erw[sliceRange_one,pick_run,A1]<;>rfl
def ygc(K:AF):V->Option Int->Option Int->Hp->VK->Prop:=λx lo hi H Q=>∃a xs,x=.ref a/\SqL K H a xs/\∀p,H p=AD->Q (.ref p) (upd H p (.lst (ycG xs lo hi)))
def zfO:SlR X (ygc X.K):=by
 intro π s σ H x v vl vu lo hi sl Q I rx hs pl pu h;let⟨a,xs,rfl,hx,q⟩:=h
 cases rx
 let⟨its,r,ht,hz⟩:=I.list hx;have hlen:=r.length;refine⟨"list",_,Fd.lookup,ht.isList.typeIs,?_⟩;refine wpAny_getItem_list_slice ht.isList hs pl pu .none (by simp) ?_ (by rw[A1]<;>lia);rw[zdo,<-hlen];refine⟨.ref s.heap.objs.size,_,I.laid (t':=s.toks) (o:=.lst (ycG xs lo hi)) (λb ob q=>AV _ q) (AS _) ?_,rfl,q _ (I.hok.fresh (AS _))⟩;exact⟨BH (zcw xs lo hi) hz,_,0,(r.drop (HT.sIx xs.length 0 lo)).take (HT.sIx xs.length xs.length hi-HT.sIx xs.length 0 lo),Ac _ rfl⟩
def yav:V->Bool
 |.non=>AC
 |.bl _=>AC
 |.int _=>AC
 |.str _=>AC
 |_=>AB
def eqV:V->V->Bool
 |.non,.non=>AC
 |.bl a,.bl b=>a==b
 |.bl a,.int b=>(if a then 1 else 0)==b
 |.int a,.bl b=>a==(if b then 1 else 0)
 |.int a,.int b=>a==b
 |.str a,.str b=>a==b
 |_,_=>AB
def zmf{A:An}{s:AK}{y x:V}{u v:AH}(ry:RelV y u)(rx:RelV x v)(fy:yav y=AC)(fx:yav x=AC):G5 A s u v (eqV y x):=by
 cases y with
 |non=>
  cases ry
  cases x with
  |non=>cases rx;exact SeqAt.EqAt.same _
  |bl b=>cases rx;exact SeqAt.EqAt.none_bool b
  |int b=>let⟨t,rfl⟩:=rx;exact SeqAt.EqAt.none_int b t
  |str b=>let⟨t,rfl⟩:=rx;exact SeqAt.EqAt.none_str b t
  |_=>exact absurd (show AB=AC from fx) As
 |bl a=>
  cases ry
  cases x with
  |non=>cases rx;exact SeqAt.EqAt.bool_none a
  |bl b=>cases rx;exact SeqAt.EqAt.bool_bool a b
  |int b=>let⟨t,rfl⟩:=rx;exact SeqAt.EqAt.bool_int a b t
  |str b=>let⟨t,rfl⟩:=rx;exact SeqAt.EqAt.bool_str a b t
  |_=>exact absurd (show AB=AC from fx) As
 |int a=>
  let⟨t',rfl⟩:=ry
  cases x with
  |non=>cases rx;exact SeqAt.EqAt.int_none a t'
  |bl b=>cases rx;exact SeqAt.EqAt.int_bool a t' b
  |int b=>let⟨t,rfl⟩:=rx;exact SeqAt.EqAt.int_int a t' b t
  |str b=>let⟨t,rfl⟩:=rx;exact FR a t' b t
  |_=>exact absurd (show AB=AC from fx) As
 |str a=>
  let⟨t',rfl⟩:=ry
  cases x with
  |non=>cases rx;exact SeqAt.EqAt.str_none a t'
  |bl b=>cases rx;exact SeqAt.EqAt.str_bool a t' b
  |int b=>let⟨t,rfl⟩:=rx;exact FT a t' b t
  |str b=>let⟨t,rfl⟩:=rx;exact SeqAt.EqAt.str_str a t' b t
  |_=>exact absurd (show AB=AC from fx) As
 |_=>exact absurd (show AB=AC from fy) As
def eqU(x:V)(u:AH):Bool:=match u with
 |.none=>eqV .non x
 |.bool b=>eqV (.bl b) x
 |.int i _=>eqV (.int i) x
 |.str z _=>eqV (.str z) x
 |_=>AB
def zdU{x y:V}{u:AH}(r:RelV y u)(f:yav y=AC):eqU x u=eqV y x:=by
 cases y with
 |non=>cases r;rfl
 |bl b=>cases r;rfl
 |int i=>let⟨t,rfl⟩:=r;rfl
 |str z=>let⟨t,rfl⟩:=r;rfl
 |_=>exact absurd (show AB=AC from f) As
def zew{x:V}:∀{xs:List V} {us:List AH},Vals xs us->xs.all yav=AC->us.any (eqU x)=xs.any λy=>eqV y x
 |_,_,.nil,_=>rfl
 |y::xs,u::us,.cons r t,f=>by
  rw[Ay,AG]at f;rw[B8,B8,zdU r f.1,zew t f.2]
def zbl{A:An}{s:AK}{x:V}{v:AH}(rx:RelV x v)(fx:yav x=AC):∀{xs:List V} {us:List AH},Vals xs us->xs.all yav=AC->∀u∈us,G5 A s u v (eqU x u)
 |_,_,.nil,_=>λu hu=>by cases hu
 |y::xs,u::us,.cons r t,f=>λu' hu=>by
  rw[Ay,AG]at f;rcases AL.mp hu with rfl|hu
  .rw[zdU r f.1];exact zmf r rx f.1 fx
  .exact zbl rx fx t f.2 u' hu
def inV(x:V)(xs:List V):Bool:=xs.any λy=>eqV y x
def rIn(K:AF)(neg:Bool):R2:=λx y H Q=>∃p xs,y=.ref p/\(SqL K H p xs \/ SqT K H p xs)/\yav x=AC/\xs.all yav=AC/\Q (.bl (if neg then !inV x xs else inV x xs)) H
def zd4:OpR X (compareOp .In) (rIn X.K AB):=by
 intro π s σ H x y v u Q I rx ry h;let⟨p,xs,rfl,hq,fx,fs,q⟩:=h
 cases ry
 rcases hq with hq|hq
 .let⟨its,r,pl,hz⟩:=I.list hq;refine SeqAt.in_listAt (eqU x) pl.isList (λw hw=>zbl rx fx r fs w (by simpa using hw)) ⟨.bl _,H,I,rfl,?_⟩;rw[show its.toArray.any (eqU x)=its.any (eqU x)by simp,zew r fs];exact q
 .let⟨its,r,pl,hz⟩:=I.tuple hq;refine SeqAt.in_tupleAt (eqU x) pl (λw hw=>zbl rx fx r fs w (by simpa using hw)) ⟨.bl _,H,I,rfl,?_⟩;rw[show its.toArray.any (eqU x)=its.any (eqU x)by simp,zew r fs];exact q
def zdA:yag X (.builtin "len") (λxs H Q=>∃p ys,xs=[.ref p]/\(SqL X.K H p ys \/ SqT X.K H p ys)/\Q (.int ys.length) H):=by
 intro π s σ H xs us Q I r h;let⟨p,ys,rfl,hq,q⟩:=h;let⟨u,rfl,rx⟩:=vals1 r
 cases rx
 have hn:=zgL;rcases hq with hq|hq
 .let⟨its,r',pl,hz⟩:=I.list hq;have hlen:=r'.length;exact Calls.call_len_list pl.isList (by erw[A1]<;>lia) ⟨.int ys.length,H,I.tok _,⟨s.toks+1,by rw[A1,hlen]⟩,q⟩
 .let⟨its,r',pl,hz⟩:=I.tuple hq;have hlen:=r'.length;exact len_tuple pl (by erw[A1]<;>lia) ⟨.int ys.length,H,I.tok _,⟨s.toks+1,by rw[A1,hlen]⟩,q⟩
def zdD:yag X (.builtin "len") (λxs H Q=>∃z,xs=[.str z]/\z.length<=sizeLine/\Q (.int z.length) H):=by
 intro π s σ H xs us Q I r h;let⟨z,rfl,hz,q⟩:=h;let⟨u,rfl,t,rfl⟩:=vals1 r;have hn:=zgL;exact len_str ∅ ⟨.int z.length,H,I.tok _,⟨_,rfl⟩,q⟩
def zdI:yag X (.type "list") (λxs H Q=>∃p ys,xs=[.ref p]/\(SqL X.K H p ys \/ SqT X.K H p ys)/\∀l,H l=AD->Q (.ref l) (upd H l (.lst ys))):=by
 intro π s σ H xs us Q I r h;let⟨p,ys,rfl,hq,q⟩:=h;let⟨u,rfl,rx⟩:=vals1 r
 cases rx
 have fin:∀(its:List AH),Vals ys its->ys.length<=sizeLine->∀(h':Aw) (c':Nat),(∀b o',s.heap.get? b=AA o'->h'.get? b=AA o') ->
   h'.get? s.heap.objs.size=AA {cls:=.type "list",dict:=AD,data:=.seq its.toArray c',slots:=#[]}->EP X π σ Q (.ref s.heap.objs.size) {s with heap:=h'}:=λits r' hz h' c' kp e=>
  ⟨.ref s.heap.objs.size,_,I.laid (t':=s.toks) kp (AS _) (show yS X.prog X.w _ h' _ (.lst ys)from ⟨hz,its,c',r',e⟩),rfl,q _ (I.hok.fresh (AS _))⟩
 rcases hq with hq|hq
 .let⟨its,r',pl,hz⟩:=I.list hq;have hlen:=r'.length;let⟨o,ho,hc,n,hd⟩:=pl.isList;exact call_list_seq p (.inl rfl) ho hc hd (λh' c' kp e=>fin its r' hz h' c' kp e) (by erw[A1]<;>lia)
 .let⟨its,r',pl,hz⟩:=I.tuple hq;have hlen:=r'.length;let⟨o,ho,hc,n,hd⟩:=pl;exact call_list_seq p (.inr rfl) ho hc hd (λh' c' kp e=>fin its r' hz h' c' kp e) (by erw[A1]<;>lia)
def zbq:yag X (.type "tuple") (λxs H Q=>∃p ys,xs=[.ref p]/\((SqL X.K H p ys/\∀l,H l=AD->Q (.ref l) (upd H l (.tup ys))) \/ (SqT X.K H p ys/\Q (.ref p) H))):=by
 intro π s σ H xs us Q I r h;let⟨p,ys,rfl,h⟩:=h;let⟨u,rfl,rx⟩:=vals1 r
 cases rx
 rcases h with⟨hq,q⟩|⟨hq,q⟩
 .let⟨its,r',pl,hz⟩:=I.list hq;have hlen:=r'.length;refine call_tuple_list pl.isList (λh' kp=>?_) (by erw[A1]<;>lia);have I1:Inv X π σ H {s with heap:=h'}:=I.kept (t':=s.toks) kp;have I2:Inv X π σ (upd H h'.objs.size (.tup ys)) {s with heap:=h'.push {cls:=.type "tuple",data:=.seq its.toArray} }:=
   I1.laid (t':=s.toks) (λb o e=>AV _ e) (AS _) (show yS X.prog X.w _ _ _ (.tup ys)from ⟨hz,its,r',Fx _ _⟩)
  exact⟨.ref h'.objs.size,_,I2,rfl,q _ (I1.hok.fresh (AS _))⟩
 .let⟨its,r',pl,hz⟩:=I.tuple hq;exact call_tuple_same pl ⟨.ref p,H,I,rfl,q⟩
def tyV(K:AF)(T:String)(x:V)(H:Hp):Prop:=match x with
 |.str _=>T="str"
 |.int _=>T="int"
 |.ref p=>(T="list"/\∃xs,SqL K H p xs) \/ (T="tuple"/\∃o,K.lookup p=AA o/\o.cls=.type "tuple"/\o.dict=AD) \/
   (T="dict"/\((∃kvs,H p=AA (.dK kvs)) \/ ∃kvs,H p=AA (.dT kvs))) \/ (T="set"/\∃S n,H p=AA (.set S n))
 |_=>False
def zje{π:List (AJ×Bb)}{σ:St}{H:Hp}{s:AK}{T:String}{x:V}{v:AH}(I:Inv X π σ H s)(r:RelV x v)(ty:tyV X.K T x H):
  s.TypeIs v T/\∀a,v=.ref a->∃ob,s.heap.get? a=AA ob/\ob.dict=none:=by
 cases x with
 |str z=>
  let⟨t,rfl⟩:=r
  cases (show T="str" from ty)
  exact⟨G4 s z t,λ_ e=>nomatch e⟩
 |int i=>
  let⟨t,rfl⟩:=r
  cases (show T="int" from ty)
  exact⟨typeIs_int s i t,λ_ e=>nomatch e⟩
 |ref p=>
  cases r
  rcases ty with⟨rfl,xs,hq⟩|⟨rfl,o,hk,hc,hd⟩|⟨rfl,hk⟩|⟨rfl,S,n,hk⟩
  .let⟨its,_,pl,_⟩:=I.list hq;refine⟨pl.isList.typeIs,λa e=>?_⟩
   cases e
   let⟨o,n,e,c,hd,_⟩:=pl;exact⟨o,e,hd⟩
  .refine⟨⟨o,I.kIn p o hk,hc⟩,λa e=>?_⟩
   cases e
   exact⟨o,I.kIn _ o hk,hd⟩
  .have z:∃o,s.heap.get? p=AA o/\o.ExactDict:=by
    rcases hk with⟨kvs,hk⟩|⟨kvs,hk⟩
    .let⟨_,_,_,_,o,_,_,e,ex,_⟩:=I.hok p _ hk;exact⟨o,e,ex⟩
    .let⟨_,_,_,_,o,_,_,e,ex,_⟩:=I.hok p _ hk;exact⟨o,e,ex⟩
   let⟨o,e,ex⟩:=z;refine⟨⟨o,e,ex.1⟩,λa e2=>?_⟩
   cases e2
   exact⟨o,e,ex.2.1⟩
  .let⟨o,_,_,_,e,ex,_⟩:=I.hok p _ hk;refine⟨⟨o,e,ex.1⟩,λa e2=>?_⟩
   cases e2
   exact⟨o,e,ex.2.1⟩
 |_=>exact BW ty
def yhu(K:AF)(T:String)(r:V->List V->Hp->VK->Prop)(to:TE):TE:=λσ H Q=>to σ H λx H1=>tyV K T x H1/\r x [] H1 Q
def tBM(K:AF)(T:String)(r:V->List V->Hp->VK->Prop)(to:TE)(t:TA):TE:=λσ H Q=>to σ H λx H1=>tyV K T x H1/\t σ H1 λxs H2=>r x xs H2 Q
variable {o e:AT}{es:List AT}{to:TE}{t:TA}{name:AO}{apos cpos:Bo}{T id:String}{r:V->List V->Hp->VK->Prop}
def zm9(pa:PlainAttrs T)(slot:Slot T name id)(hty:typeOf (.builtin id)=pure (.type "method_descriptor"))(hm:MtR X id r)(ho:PE X o to)
  (hbase:attributeBase o name X.env (eval o X.env)=eval o X.env:=by rfl) (hline:(apos.endLine==cpos.line)=true:=by rfl):PE X (.Call (.Attribute o name apos) [] [] cpos) (yhu X.K T r to):=by
 intro π s σ H Q I h;refine wpAny_Call_method0_late hbase hline (thn (ho π s σ H _ I h) λv s1 kq=>?_);let⟨x,H1,I1,r1,ty,q1⟩:=kq;let⟨h1,h2⟩:=zje I1 r1 ty;exact⟨T,id,pa,slot,hty,h1,h2,Cv rfl (PySem.evalArgs_none (hm π s1 σ H1 x [] v [] Q I1 r1 .nil q1))⟩
def zgn(pa:PlainAttrs T)(slot:Slot T name id)(hty:typeOf (.builtin id)=pure (.type "method_descriptor"))(hm:MtR X id r)(ho:PE X o to)(ha:PA X (e::es) t)
  (hbase:attributeBase o name X.env (eval o X.env)=eval o X.env:=by rfl)
  (hfew:((backTo cpos (starEach (e::es) X.env)).all (λx=>!x.1)&&(backToKw cpos (keywordEach [] X.env)).all (λx=>x.1.isSome)
   && decide ((e::es).length+([]:List B7).length+(if ([]:List B7).isEmpty then 0 else 1)<30))=true:=by rfl)
  (hline:(apos.endLine==cpos.line)=true:=by rfl) (hs:starEach (e::es) X.env=(AB,eval e X.env)::starEach es X.env:=by rfl) (hplain:(backTo cpos (starEach es X.env)).any (·.1)=false:=by rfl):
  PE X (.Call (.Attribute o name apos) (e::es) [] cpos) (tBM X.K T r to t):=by
 intro π s σ H Q I h;refine wpAny_Call_method_late hbase hfew hline rfl (thn (ho π s σ H _ I h) λv s1 kq=>?_);let⟨x,H1,I1,r1,ty,q1⟩:=kq;let⟨h1,h2⟩:=zje I1 r1 ty;refine⟨T,id,pa,slot,hty,h1,h2,?_⟩;have hA:=ha cpos π s1 σ H1 _ I1 q1;rw[hs]at hA ⊢;refine Cv (by show (AB || (backTo cpos (starEach es X.env)).any (·.1))=AB;rw[hplain]<;>rfl) (DO ?_);exact thn hA λus s2 ⟨vs,H2,I2,r2,q2⟩=>hm π s2 σ H2 x vs v us Q I2 r1 r2 q2
/- xs.append(e),list.index on a module's tuple .. are MtR facts of 06m -/
end
def MtM(X:Cx)(id:String)(r:V->List V->Hp->VK->Prop):Prop:=
 ∀(π:List (AJ×Bb)) (s:AK) (σ:St) (H:Hp) (x:V) (xs:List V) (v:AH) (us:List AH) (Q:VK),Inv X π σ H s->RelV x v->Vals xs us->r x xs H Q ->
  A5 (model X.prog X.w) X.A (call (.builtin id) (v::us)) (EP X π σ Q) X.xe s
theorem Vals.one:∀{x:V} {us:List AH},Vals [x] us->∃u,us=[u]/\RelV x u
  :=by intro x us h;rcases h with _|⟨r,q⟩;cases q;exact⟨_,rfl,r⟩
theorem Vals.two:∀{x y:V} {us:List AH},Vals [x,y] us->∃u v,us=[u,v]/\RelV x u/\RelV y v
  :=by intro x y us h;rcases h with _|⟨r,q⟩;rcases q with _|⟨q,z⟩;cases z;exact⟨_,_,rfl,r,q⟩
theorem Vals.zero:∀{us:List AH},Vals [] us->us=[]
 |_,.nil=>rfl
theorem Vals.reverse{xs:List V}{us:List AH}(h:Vals xs us):Vals xs.reverse us.reverse:=by
 induction h with
 |nil=>exact .nil
 |cons r t ih=>rw[Cw,Cw];exact Vals.append ih (.cons r .nil)
section
variable {X:Cx}{π:List (AJ×Bb)}{σ:St}{H:Hp}{s:AK}{l b:AJ}{xs ys zs:List V}
theorem Inv.lset{its its':List AH}{n:Nat}{f:Array AH->Array AH}{t':Nat}(I:Inv X π σ H s)(hH:H l=AA (.lst xs))
  (e:s.heap.get? l=AA {cls:=.type "list",data:=.seq its.toArray n}) (hf:f its.toArray=its'.toArray) (hv:Vals ys its') (hz:ys.length<=sizeLine):
  Inv X π σ (upd H l (.lst ys)) {s with heap:=s.heap.update l (E3 f),toks:=t'}:=by
 have q:=PySem.IsL.update e f;rw[hf]at q;refine I.write (x:=l) (e:=l) (by rw[hH];exact trivial) (.inl rfl) (λb' u hb hu=>(Cu s.heap (E3 f) (BP hb)).trans hu) ⟨_,q⟩ ?_;exact⟨hz,its',_,hv,q⟩
theorem Inv.lnew{its:List AH}{t':Nat}(I:Inv X π σ H s)(hv:Vals ys its)(hz:ys.length<=sizeLine):
  Inv X π σ (upd H s.heap.objs.size (.lst ys)) {s with heap:=s.heap.push {cls:=.type "list",data:=.seq its.toArray},toks:=t'}:=
 I.laid (λ_ _ q=>AV _ q) (AS _) ⟨hz,its,0,hv,Ac _ rfl⟩
theorem Inv.fresh(I:Inv X π σ H s):H s.heap.objs.size=none:=I.hok.fresh (AS _)
theorem Inv.lstM(I:Inv X π σ H s)(hH:H l=AA (.lst xs)):xs.length<=sizeLine/\∃(its:List AH) (n:Nat),Vals xs its/\xs.length=its.length/\s.heap.get? l=AA {cls:=.type "list",data:=.seq its.toArray n}:=by
 let⟨z,its,n,r,e⟩:=I.hok l _ hH;exact⟨z,its,n,r,r.length,e⟩
def zov{n:Nat}(h:n<=sizeLine):Ch n=false:=by
 unfold Ch;exact decide_eq_false ∅
end
section
variable {X:Cx}
def ycY:V->List V->Hp->VK->Prop:=λx vs H Q=>∃l xs y,x=.ref l/\vs=[y]/\H l=AA (.lst xs)/\xs.length<sizeLine/\Q .non (upd H l (.lst (xs++[y])))
def zd0:MtM X "list.append" ycY:=by
 intro π s σ H x vs v us Q I rx rv h;let⟨l,xs,y,rfl,rfl,hH,hz,q⟩:=h
 cases rx
 let⟨u,rfl,ru⟩:=rv.one;let⟨z,its,n,r,hl,e⟩:=I.lstM hH;refine Di Eg ⟨_,e,rfl⟩ F.entry_list_append (F.args_list_append_2 _ _) (PySem.list_append l its.toArray n u (by rw[A1];lia)) ⟨e,?_⟩;refine⟨.non,_,I.lset (its':=its++[u]) hH e (by simp) (r.append (.cons ru .nil)) ?_,rfl,q⟩;rw[AM,CB];lia
def ycQ:V->List V->Hp->VK->Prop:=λx vs H Q=>∃l b xs zs,x=.ref l/\vs=[.ref b]/\H l=AA (.lst xs)/\H b=AA (.lst zs)/\xs.length+zs.length<=sizeLine/\Q .non (upd H l (.lst (xs++zs)))
def zga:MtM X "list.extend" ycQ:=by
 intro π s σ H x vs v us Q I rx rv h;let⟨l,b,xs,zs,rfl,rfl,hH,hB,hz,q⟩:=h
 cases rx
 let⟨u,rfl,ru⟩:=rv.one
 cases ru
 let⟨z,its,n,r,hl,e⟩:=I.lstM hH;let⟨z2,its2,n2,r2,hl2,e2⟩:=I.lstM hB;have hsz:its.toArray.size+its2.toArray.size<=sizeLine:=by rw[A1,A1];lia
 have hlong:¬(!its.toArray.isEmpty&&Ch (its.toArray.size+its2.toArray.size))=true:=by
  rw[zov hsz,Bool.and_false];exact As
 refine Di Eh ⟨_,e,rfl⟩ F.entry_list_extend (F.args_list_extend_2 _ _)
  (AutoSeq1.list_extend_list_list_0 l its.toArray n b its2.toArray n2 hlong (by rw[A1];lia) ∅) ⟨e,e2,?_⟩
 refine⟨.non,_,I.lset (its':=its++its2) hH e (by simp) (r.append r2) ?_,rfl,q⟩;rw[AM];lia
def yd2:V->List V->Hp->VK->Prop:=λx vs H Q=>∃l xs,x=.ref l/\vs=[]/\H l=AA (.lst xs)/\Q .non (upd H l (.lst []))
def zhG:MtM X "list.clear" yd2:=by
 intro π s σ H x vs v us Q I rx rv h;let⟨l,xs,rfl,rfl,hH,q⟩:=h
 cases rx
 have hus:=rv.zero;subst hus;let⟨z,its,n,r,hl,e⟩:=I.lstM hH;refine Di Eo ⟨_,e,rfl⟩ F.entry_list_clear (F.args_list_clear_1 _) (AutoSeq1.list_clear_list_0 l its.toArray n (by rw[A1];lia)) ⟨e,?_⟩;exact⟨.non,_,I.lset (its':=[]) (ys:=[]) hH e rfl .nil (Ab _),rfl,q⟩
def yhb:R2:=λx y H Q=>∃l b xs zs,x=.ref l/\y=.ref b/\H l=AA (.lst xs)/\H b=AA (.lst zs)/\xs.length+zs.length<=sizeLine/\∀p,H p=AD->Q (.ref p) (upd H p (.lst (xs++zs)))
def zjr:OpR X (binaryOp .Add) yhb:=by
 intro π s σ H x y v u Q I rx ry h;let⟨l,b,xs,zs,rfl,rfl,hH,hB,hz,q⟩:=h
 cases rx
 cases ry
 let⟨z,its,n,r,hl,e⟩:=I.lstM hH;let⟨z2,its2,n2,r2,hl2,e2⟩:=I.lstM hB;refine PySem.P.add_list e e2 ?_ (by rw[A1,A1];lia);have ea:its.toArray++its2.toArray=(its++its2).toArray:=by simp
 rw[ea];exact⟨.ref _,_,I.lnew (t':=s.toks) (r.append r2) (by rw[AM];lia),rfl,q _ I.fresh⟩
end
section
variable {prog:Aa}{w:Am}{A:An}{E:AH->AK->Prop}{s:AK}
end
section
variable {X:Cx}
end
end L2
namespace Att
open PySem PySem.W PySem.Calls PyProof.Rows
def zcl{P:Params}{h:Aw}:∀(ns:List Int) (vs:List AH),WellAll P h vs (ns.map HI)->FD vs ns:=by
 intro ns
 induction ns with
 |nil=>
  intro vs w;rw[BM]at w
  cases w
  exact .nil
 |cons n ns ih=>
  intro vs w;rw[AX]at w
  cases w with
  |cons a b=>
   cases a
   exact .cons _ _ (ih _ b)
def zgl{l:EU}{n:Nat}(hn:l.most=AA n){P:Params}{h:Aw}{args:List WData}{vals:List AH}
  (hpre:l.row.toRowW.claim.pre args=AC) (hwl:WellAll P h vals args):
  ∃a vs ns,vals=[Al a]/\args=[WData.list (ns.map HI)]/\h.get? a=AA {cls:=.type "list",data:=.seq vs.toArray}/\FD vs ns/\ns.length<=n:=by
 have hsh:WShape.hasAll [] args [.list .int]=true:=(pre_splitW hpre).1;have hc:l.pre.holds [] {args:=args}=true:=(pre_splitW hpre).2;let⟨d,r,rfl,h1,h2⟩:=hasAllW_cons hsh;obtain rfl:=hasAllW_nil h2;let⟨xs,rfl,h3⟩:=hasW_list h1;let⟨ns,rfl⟩:=items_int h3;have hlen:ns.length<=n:=by
  unfold OpenLaw.pre at hc;have h4:(WTm.not (.lt (.lit (.int (n:Int))) (.len (.arg 0)))).holds [] {args:=[.list (ns.map .int)]}=true:=by
   have h4:=(holds_andW hc).1;rw[hn]at h4;exact h4
  have h5:=condW_of h4 (w_not (w_lt w_lit (w_len_list (w_arg rfl))));rw[Af]at h5;refine Nat.le_of_not_lt λq=>?_;have q':(n:Int)<((ns.length:Nat):Int):=by lia
  first
   |(rw[decide_eq_true q']at h5;exact absurd h5 ⋯)
   |(simp at h5;lia)
 cases hwl with
 |cons w1 w2=>
  cases w2
  cases w1 with
  |list ho hall=>exact⟨_,_,ns,rfl,rfl,ho,zcl ns _ hall,hlen⟩
def zgx(l:EU)(args:List WData):l.row.toRowW.claim.post args (.bool AC) args=true:=
 postW_of (r:=l.row.toRowW) (X:=(AC==AC))
  (show HF [] (.bool AC) .bool=AC by first|rfl|decide|simp[HF,WShape.arms,WShape.armsAll])
  (show (WTm.eq .res (.lit (.bool AC))).value [] {args:=args,res:=AA (.bool AC),after:=args}=AA (.bool (AC==AC))from w_eq_bool (w_res rfl) w_lit) rfl
theorem attach_call{l:EU}{n:Nat}{q:Aa}{loose:List AO}{XP:(AO->Option AH)->Aw->Prop}{YP:Am->Aw->Prop}{d:DefRec}
  (hn:l.most=AA n) (hdf:d.params.defaults=[])
  (call:∀(w:Am) (s₀ s₁:AK) (mg mb:AO->Option AH) (fa:AJ) (o:Bb) (pm cd doc:AH) (a:AJ) (vs:List AH) (ns:List Int),
   Ground q loose [] XP w s₀ mg mb s₁.heap->YP w s₁.heap ->
   s₁.heap.get? fa=AA o->o.data=.func (docDef d.name d.params d.body d.scope pm cd doc)->s₁.heap.CodeRec cd d.name->mg d.name=AA (.ref fa) ->
   s₁.heap.get? a=AA {cls:=.type "list",data:=.seq vs.toArray}->FD vs ns->ns.length<=n->s₁.gens=#[] ->
   codeAny (model l.prog w) callerA (.call (.ref fa) ⟨[.ref a],[]⟩) (λr s'=>r=.ok (.ret (.bool AC))/\OldK s₁.heap s'.heap/\s'.os=s₁.os/\Co s'.gens) s₁):
  GW q loose XP YP l.row.toRowW d [] (λf vs=>G6 f vs):=by
 intro w s₀ s₁ mg mb G Y fa o pm cd doc dV kV ho hd hcd hD hmg hg args vals as hpre hlay hrd hwl hlo;obtain rfl:dV=.none:=Dflts.none hD hdf;obtain rfl:kV=.none:=Dflts.noKw hD;let⟨a,vs,ns,rfl,rfl,hobj,hints,hlen⟩:=zgl hn hpre hwl;refine enter_call (D0 (call w s₀ s₁ mg mb fa o pm cd doc a vs ns G Y ho (fd_plain hd) hcd hmg hobj hints hlen hg) λr s' hq=>?_);let⟨rfl,h2,h3,h4⟩:=hq;exact⟨.inl ⟨.bool AC,.bool AC,[],rfl,λ_=>rfl,.bool AC,zgx l _,λ_=>⟨Fe,λ_ hm=>(nomatch hm)⟩⟩,h2,h3,h4⟩
section
variable {prog:Aa}{w:Am}{A:An}{E:AH->AK->Prop}{s:AK}{K:AF}
end
end Att
namespace L2
open PySem PySem.Spec PyProof.Rows
def zdJ:∀{vs:List AH} {ns:List Int},FD vs ns->Vals (ns.map V.int) vs
 |_,_,.nil=>.nil
 |_,_,.cons n t h=>.cons ⟨t,rfl⟩ (zdJ h)
def Only(H:Hp):Prop:=∀b,H b=AD \/ ∃o xs,H b=AA (.frz o (.lst xs))
def ziz{P:Aa}{w:Am}{K:AF}{mg mb:AO->Option AH}{CX:CXT}{k:Nat}{fa a:AJ}{fd:Ax}{x:AO}{sp:Sp}{s₁:AK}{vs:List AH}{ns:List Int}
  (KX:K.In s₁.heap) (hns:s₁.heap.Ns mainGlobals mg) (hb:s₁.heap.Ns builtinsNs mb) (hbb:∀x:AO,x ≠ "__name__"->mb x=bootBuiltins x) (hlim:s₁.heap.NoLimit) (hg:s₁.gens=#[])
  (ha:s₁.heap.get? a=AA {cls:=.type "list",data:=.seq vs.toArray}) (hi:FD vs ns) (hl:ns.length<=sizeLine) (hr:yax k callerA)
  (F:∀base:Aw,K.In base->base.Ns mainGlobals mg->yaM P w K mg base CX k fa fd [x] sp) (hbind:∀(s:AK) (u:AH),EZ s fd ⟨[u],[]⟩ [(x,u)])
  (hsp:∀H:Hp,Only H->SqL K H a (ns.map V.int)->sp [.ref a] H (λv _=>v=.bl AC) λ_ _ _=>False)
  (hCX:∀H e s',CX [] H s₁ (λ_ _ _=>False) e s'->False):
  codeAny (model P w) callerA (.call (.ref fa) ⟨[.ref a],[]⟩) (λr s'=>r=.ok (.ret (.bool AC))/\OldK s₁.heap s'.heap/\s'.os=s₁.os/\Co s'.gens) s₁:=by
 have rv:=zdJ hi;have lenV:=hi.length;have core:∀H:Hp,Only H->SqL K H a (ns.map V.int)->HOk P w H s₁.heap->(∀b,H b≠AD->b=a)->(H a≠AD->K.lookup a=AD) ->
   codeAny (model P w) callerA (.call (.ref fa) ⟨[.ref a],[]⟩) (λr s'=>r=.ok (.ret (.bool AC))/\OldK s₁.heap s'.heap/\s'.os=s₁.os/\Co s'.gens) s₁:=by
  intro H hO hS hok hA hK;have base_of:∀{b:AJ} {o:Bb},s₁.heap.get? b=AA o->H b=AD->(ycq s₁.heap H).get? b=AA o:=λe n=>zhU e n;have noA:∀{b:AJ} {o:Bb} {es:Array Bv} {ep:Nat},s₁.heap.get? b=AA o->o.data=.dict es ep->H b=none:=λ{b o es ep} e d=>by
   cases q:H b with
   |none=>rfl
   |some u=>
    have e':b=a:=hA b (by rw[q];simp);subst e';rw[ha]at e;cases e;have d':Data.seq vs.toArray _=Data.dict es ep:=d
    cases d'
  have nsK:∀{b:AJ} {m:AO->Option AH},s₁.heap.Ns b m->(ycq s₁.heap H).Ns b m:=λ{b m} ⟨o,es,ep,e,d,r⟩=>⟨o,es,ep,base_of e (noA e d),d,r⟩;have hKb:K.In (ycq s₁.heap H):=λb o e=>base_of (KX b o e) (by
   cases q:H b with
   |none=>rfl
   |some u=>
    have e':b=a:=hA b (by rw[q];simp);subst e';rw[hK (by rw[q];simp)]at e;cases e)
  have hM:Mod K mg (ycq s₁.heap H):=⟨hKb,nsK hns,⟨mb,nsK hb,hbb⟩,let ⟨mc,h1,h2⟩:=hlim;⟨mc,nsK h1,h2⟩⟩;have e0:ycp P w K mg (ycq s₁.heap H) callerA [] s₁ H:=⟨rfl,hM,λb o e=>zjN e,Gp (zfX _ _),trivial,λb hb=>absurd (show b∈([]:List AJ)from hb) (by simp),hok,.of_eq hg⟩;refine D0 ((F _ hKb (nsK hns)).run callerA [] s₁ H ⟨[.ref a],[]⟩ [.ref a] [.ref a] _ _ hr e0 (hbind s₁ (.ref a)) (.cons rfl .nil) (hsp H hO hS)) λr s' h=>?_
  cases r with
  |error e=>exact(hCX H e s' h).elim
  |ok fl=>
   cases fl with
   |next=>exact BW h
   |brk=>exact BW h
   |cont=>exact BW h
   |ret u=>
    let⟨v,H',os,bare,un,hok',r',q⟩:=h;have q':v=.bl true:=q;subst q';obtain rfl:u=CT true:=r';refine⟨rfl,OldK.of_keep λb o e=>?_,os,bare⟩
    cases q:H b with
    |none=>exact un.keep b o e q (by intro z;exact absurd (show b∈([]:List AJ)from z) (by simp)) (by simp)
    |some u=>
     rcases hO b with z|⟨ob,xs,z⟩
     .rw[q]at z;cases z
     .have z2:=un.frzs b ob _ z;let⟨e1,_⟩:=hok b _ z;let⟨e2,_⟩:=hok' b _ z2;rw[e]at e1;cases e1;exact e2
 cases hk:K.lookup a with
 |some o=>
  have e:=KX a o hk;rw[ha]at e
  cases e
  refine core (λ_=>AD) (λ_=>.inl rfl) (.inr ⟨_,vs.toArray,_,hk,rfl,rfl,rfl,by rw[A1,lenV];exact hl,by simpa using rv⟩) (λb u z=>by have z':(AD:Option HO)=AA u:=z;cases z') (λb z=>absurd rfl z) λz=>absurd rfl z
 |none=>
  refine core (λb=>if b=a then AA (.frz {cls:=.type "list",data:=.seq vs.toArray} (.lst (ns.map V.int)))else AD) (λb=>?_) (.inl (.inr ⟨{cls:=.type "list",data:=.seq vs.toArray},if_pos rfl⟩)) (λb u z=>?_) (λb z=>?_) λ_=>hk
  .by_cases hb:b=a
   .exact .inr ⟨_,_,if_pos hb⟩
   .exact .inl (if_neg hb)
  .by_cases hb:b=a
   .have z':=(if_pos hb).symm.trans z
    cases z'
    subst hb;exact⟨ha,by rw[Af];exact hl,vs,_,rv,ha⟩
   .have z':=(if_neg hb).symm.trans z
    cases z'
  .by_cases hb:b=a
   .exact hb
   .exact absurd (if_neg hb) z
theorem walk_of{l:EU}{n k:Nat}{q:Aa}{loose:List AO}{XP:(AO->Option AH)->Aw->Prop}{YP:Am->Aw->Prop}{d:DefRec}{K:Params->AF}{CX:Am->CXT}{sp:Am->Sp}{x:AO}
  (hn:l.most=AA n) (hn2:n<=sizeLine) (hdf:d.params.defaults=[]) (hr:yax k callerA)
  (hY:∀(w:Am) (h:Aw),YP w h->(K w.params).In h)
  (F:∀(w:Am) (mg:AO->Option AH) (fa:AJ) (h:Aw),(K w.params).In h->h.Ns mainGlobals mg->mg d.name=AA (.ref fa) ->
   ∃fd:Ax,(∀(s:AK) (u:AH),EZ s fd ⟨[u],[]⟩ [(x,u)]) /\
    ∀base:Aw,(K w.params).In base->base.Ns mainGlobals mg->yaM l.prog w (K w.params) mg base (CX w) k fa fd [x] (sp w))
  (hsp:∀(w:Am) (H:Hp) (a:AJ) (ns:List Int),ns.length<=n->Only H->SqL (K w.params) H a (ns.map V.int)->sp w [.ref a] H (λv _=>v=.bl AC) λ_ _ _=>False)
  (hCX:∀(w:Am) (H:Hp) (s:AK) (e:AH) (s':AK),CX w [] H s (λ_ _ _=>False) e s'->False):
  GW q loose XP YP l.row.toRowW d [] (λf vs=>G6 f vs):=by
 refine Att.attach_call hn hdf λw s₀ s₁ mg mb fa o pm cd doc a vs ns G Y ho hd hcd hmg hobj hints hlen hg=>?_;have KX:=hY w _ Y;let⟨fd,hb,hF⟩:=F w mg fa _ KX G.T.g hmg;exact ziz KX G.T.g G.T.b G.T.builtins G.T.nolimit hg hobj hints (BH hlen hn2) hr hF hb (λH hO hS=>hsp w H a ns hlen hO hS) λH e s'=>hCX w H s₁ e s'
def inClass(s:Bc)(j:Nat):Stmt:=match s with
 |.ClassDef _ _ _ body _ _ _ _ _ _ _=>body.getD j (.Pass ⟨0,0,0,0⟩)
 |_=>.Pass ⟨0,0,0,0⟩
def yad(s:Bc):Arguments:=match s with
 |.FunctionDef _ a _ _ _ _ _ _ _ _=>a
 |_=>{posonlyargs:=[],args:=[],vararg:=AD,kwonlyargs:=[],kw_defaults:=[],kwarg:=AD,defaults:=[]}
def yR(s:Bc):List Stmt:=match s with
 |.FunctionDef _ _ b _ _ _ _ _ _ _=>b
 |_=>[]
def yu(s:Bc):Scope:=match s with
 |.FunctionDef _ _ _ _ _ _ sc _ _ _=>sc
 |_=>{kind:=.function,names:=[],isGenerator:=AB,isCoroutine:=AB}
abbrev CX0:CXT:=λ_ _ _ _ _ _=>False
abbrev E0:XK:=λ_ _ _=>False
structure Fun(K:AF)(x qual:AO)(st:Bc)(f:AJ)(fd:Ax):Prop where
 ex:∃(oc:AH) (od:Option AJ) (kV doc pm:AH) (an:Option AJ) (cdv ct:AH) (osl:Array (Option AH)),
  fd=BU x qual (yad st) (yR st) (yu st) .none kV doc pm an cdv ct/\K.lookup f=AA ⟨oc,od,.func fd,osl⟩/\By K cdv qual=AC
 kp:Au K (.ref f)=AC
section
variable {P:Aa}{w:Am}{K:AF}{mg:AO->Option AH}{base:Aw}
theorem Fun.binds{x qual:AO}{st:Bc}{f:AJ}{fd:Ax}{ps:List AO}(F:Fun K x qual st f fd)
  (h:∀(kV doc pm:AH) (an:Option AJ) (cdv ct:AH) (us:List AH),us.length=ps.length->bindArgs (BU x qual (yad st) (yR st) (yu st) .none kV doc pm an cdv ct) ⟨us,[]⟩=pure (ps.zip us)):Binds K fd ps []:=by
 let⟨oc,od,kV,doc,pm,an,cdv,ct,osl,rfl,lk,hcd⟩:=F.ex;exact .all (h kV doc pm an cdv ct)
end
section
variable {X:Cx}
end
end L2
namespace WE
open PySem PySem.Spec PyProof.Rows
open AutoSeq1 (wpAny_loadPart')
section
variable {pg:Aa}{wd:Am}{A:An}{Er:AH->AK->Prop}{s:AK}
def zbD{it t:AJ}{i:Nat}{xs:Array AH}{x:AH}{Q:AH->AK->Prop}(hi:s.heap.IsTupleIter it t i)(ht:s.heap.IsTuple t xs)(hx:xs[i]?=AA x)
  (k:∀h',h'.IsTupleIter it t (i+1)->CU it s.heap h'->Q x {s with heap:=h'}):A5 (model pg wd) A (BL (.ref it)) Q Er s:=by
 let⟨oi,gi,ci,di⟩:=id hi;let⟨ot,gt,_,nt,dt⟩:=ht;unfold BL;refine AI (B3 (name:=AE "__next__") hi.typeIs Bz (CP Bz hi.typeIs D1 ?_ (DV _)));show A5 _ _ (field (.ref it) 0 >>= _) _ _ _;refine AI (BO gi di (x:=.ref t) rfl ?_);show A5 _ _ (if (Al t==Bl)=AC then _ else _) _ _ _;rw[if_neg (show ¬((Al t==Bl)=AC)from λz=>As z)];show A5 _ _ (field (.ref it) 1 >>= _) _ _ _;refine AI (BO gi di (x:=.int i 0) rfl ?_);show A5 _ _ (seqItems? (.ref t) >>= _) _ _ _;refine AI (CQ gt dt ?_);erw[Dv,hx];refine AI (Ep gi di (by simp) (A0 ⟨x,rfl,A0 (k _ ?_ (FJ ..))⟩));refine⟨_,Ef _ gi (Obj.isFreed_of_fields (FZ di _)),(Obj.cls_mapFields ..).trans ci,?_⟩;rw[FZ di];simp[rawInt]
def zdL{it t:AJ}{i:Nat}{xs:Array AH}{Q:AH->AK->Prop}(hh:A.handled=AD)(hi:s.heap.IsTupleIter it t i)(ht:s.heap.IsTuple t xs)(hx:xs[i]?=AD)
  (k:∀h' e,Heap.ExtBut it s.heap h'->(∃o,h'.get? e=AA o/\o.cls=.type "StopIteration")->Er (.ref e) {s with heap:=h'}):A5 (model pg wd) A (BL (.ref it)) Q Er s:=by
 let⟨oi,gi,ci,di⟩:=id hi;let⟨ot,gt,_,nt,dt⟩:=ht;unfold BL;refine AI (B3 (name:=AE "__next__") hi.typeIs Bz (CP Bz hi.typeIs D1 ?_ (DV _)));show A5 _ _ (field (.ref it) 0 >>= _) _ _ _;refine AI (BO gi di (x:=.ref t) rfl ?_);show A5 _ _ (if (Al t==Bl)=AC then _ else _) _ _ _;rw[if_neg (show ¬((Al t==Bl)=AC)from λz=>As z)];show A5 _ _ (field (.ref it) 1 >>= _) _ _ _;refine AI (BO gi di (x:=.int i 0) rfl ?_);show A5 _ _ (seqItems? (.ref t) >>= _) _ _ _;refine AI (CQ gt dt ?_);erw[Dv,hx];refine AI (EX (AI (Ep gi di (by simp) ?_)));show A5 _ _ (newExc (.type "StopIteration") [] >>= _) _ _ _;refine AI ?_;erw[newExc,newTuple];refine AI (B9 ?_ (by size_fits));refine AI (m:=firstArgMember _ _) (wpAny_of_eq (a:=Bl) (by first|rfl|(erw[firstArgMember];rfl)) ?_);refine B9 ?_ (by size_fits);erw[raiseNew];refine AI (wpAny_handled ?_);first|rw[show A.in1.handled=AD from hh]|rw[hh]
 refine AI (A0 (wpAny_throw ?_));exact k _ _ (((FJ ..).extBut.push _).push _) ⟨_,Ac _ rfl,rfl⟩
end
theorem draws_tuple{pg:Aa}{wd:Am}{A:An}(hh:A.handled=AD)(it t:AJ)(hne:t≠it)(xs:Array AH):
  Draws pg wd A it [it,t] xs.size (λi v=>xs[i]?=AA v) (λi h=>h.IsTupleIter it t i/\h.IsTuple t xs) where
 live:=λ_ _ st=>let ⟨o,g,_⟩:=st.1;⟨o,g⟩
 frame:=λ_ _ _ st kp=>⟨let ⟨o,g,r⟩:=st.1;⟨o,kp it (by simp) o g,r⟩,let ⟨o,g,r⟩:=st.2;⟨o,kp t (by simp) o g,r⟩⟩
 item:=λi s Q E hi st hQ=>zbD st.1 st.2 (x:=xs[i]) (by simp[hi]) λh' hit' hs'=>hQ _ h' s.toks (by simp[hi]) ⟨hit',st.2.extBut hs'.extBut hne⟩ hs'
 done:=λs Q E st hE=>zdL hh st.1 st.2 (by simp) hE
def zed(l:AJ)(xs:Array AH)(n:Nat)(dc:Option AJ)(sl:Array (Option AH)):
  Meets (FE.«enumerate.__new__» ⟨[.type "enumerate",.ref l],[]⟩) (λ_ R s=>s.heap.get? l=AA {cls:=.type "tuple",dict:=dc,data:=.seq xs n,slots:=sl} /\
   R (.ok (.ret (.ref (s.heap.push {cls:=.type "tuple_iterator",data:=.fields #[.ref l,.int 0 0]}).objs.size)))
    {s with heap:=(s.heap.push {cls:=.type "tuple_iterator",data:=.fields #[.ref l,.int 0 0]}).push {cls:=.type "enumerate",data:=.fields #[.none,.bool AB,.ref s.heap.objs.size,rawInt 0,.none,.none]} }):=
 .of_wp λprog w A R s h=>by
  let⟨hp,g,d,tk,os⟩:=s;let⟨gl,h⟩:=h;have hsub:=sub_enumerate;have hT:Ff (GP ⟨hp,g,d,tk,os⟩) l xs:=⟨_,gl,rfl,n,rfl⟩
  wp_walk using wpAny_loadPart' gl
  refine wpAny_stack_any λst=>A0 ?_;split
  .rename_i c _ _ _ _ _
   cases (c==FU "enumerate")
   .wp_walk using wpAny_loadPart' gl,CA hT
    exact⟨_,rfl,h⟩
   .wp_walk using wpAny_loadPart' gl,CA hT
    exact⟨_,rfl,h⟩
  .wp_walk using wpAny_loadPart' gl,CA hT
   exact⟨_,rfl,h⟩
theorem call_enumT{pg:Aa}{wd:Am}{A:An}{Er:AH->AK->Prop}{s:AK}{l:AJ}{xs:Array AH}{Q:AH->AK->Prop}(hT:s.heap.IsTuple l xs)
  (k:∀h',IsEnum h' (s.heap.objs.size+1) s.heap.objs.size 0 .none->h'.IsTupleIter s.heap.objs.size l 0->h'.objs.size=s.heap.objs.size+2 ->
   (∀b o,s.heap.get? b=AA o->h'.get? b=AA o)->Q (.ref (s.heap.objs.size+1)) {s with heap:=h'}):A5 (model pg wd) A (call (.type "enumerate") [.ref l]) Q Er s:=by
 let⟨⟨c,dct,dt,sl⟩,gl,hc,n,hd⟩:=hT
 cases (show c=.type "tuple" from hc)
 cases (show dt=.seq xs n from hd)
 refine callType_new F.called_enumerate ⋯ (F.typeCall_enumerate_1 _) (F.newCall_enumerate_1 _) (λobj=>F.args_object_init_2 obj _) F.entry_enumerate_new (zed l xs n dct sl) ⟨gl,?_⟩;have hz:(s.heap.push {cls:=.type "tuple_iterator",data:=.fields #[.ref l,.int 0 0]}).objs.size=s.heap.objs.size+1:=Bi ..;show _/\_;rw[hz];have he:IsEnum ((s.heap.push {cls:=.type "tuple_iterator",data:=.fields #[.ref l,.int 0 0]}).push {cls:=.type "enumerate",data:=.fields #[.none,.bool AB,.ref s.heap.objs.size,rawInt 0,.none,.none]}) (s.heap.objs.size+1) s.heap.objs.size 0 .none:=by
  have q:=Ac (s.heap.push {cls:=.type "tuple_iterator",data:=.fields #[.ref l,.int 0 0]}) (o:={cls:=.type "enumerate",data:=.fields #[.none,.bool AB,.ref s.heap.objs.size,rawInt 0,.none,.none]}) rfl;rw[hz]at q;exact q
 exact⟨⟨_,he,rfl⟩,k _ he ⟨_,AV _ (Ac _ rfl),rfl,rfl⟩ (by rw[Bi,hz]) λb o y=>AV _ (AV _ y)⟩
end WE
namespace L2
open PySem PySem.Spec PyProof.Rows
section
variable {X:Cx}
def ydN(i j:Int):Prop:=0<j/\j<10000000000000000000000000000000000000000000000000000000000000000000000
def zhC:OpR X (binaryOp .FloorDiv) (rI ydN λi j=>.int (i/j)):=opI λi j _ _ _ _ _ hc q=>by
 let⟨h1,h2⟩:=hc;refine floordiv_int ∅ (by rw[Int.fdiv_eq_ediv_of_nonneg i ∅];exact q) (.inl (PyProof.noPylong_of_log2 ?_));have h0:j.natAbs≠0:=by lia
 refine A9 ((Nat.log2_lt h0).mpr (?_:j.natAbs<2^250)) ⋯;have e:(10000000000000000000000000000000000000000000000000000000000000000000000:Nat)<2^250:=by decide
 lia
end
section
variable {X:Cx}{π:List (AJ×Bb)}{σ:St}{H:Hp}{s:AK}{h':Aw}
theorem Inv.turnLaid{t':Nat}{ch:List AJ}{T:AJ}{o:HO}(I:Inv X π σ H s)(hf:∀b∈ch,ybh X π H b)(k:∀b u,b∉ch->s.heap.get? b=AA u->h'.get? b=AA u)
  (hp:s.heap.objs.size<=T) (new:yS X.prog X.w (upd H T o) h' T o):Inv X π σ (upd H T o) {s with heap:=h',toks:=t'}:=by
 have hn:H T=none:=I.hok.fresh hp;have nch:∀b u,H b=AA u->b∉ch:=λb u e z=>by
  have q:=(hf b z).1;rw[e]at q
  cases q
 refine I.step (g':=s.gens) (d':=s.drawn) (ch:=ch) (λb hb=>?_) (λb u _ _ hc e _=>k b u hc e) (λb u _ _ hc e _=>⟨u.slots,k b u hc e⟩) (λb u _ e n=>?_) (λb u hc e=>⟨u,k b u hc e⟩) (λb xs e=>?_) (λb u v e=>?_) (λb ps e=>⟨#[],?_⟩) (λm hm=>?_) (λb u e=>?_) I.bare
 .let⟨f0,f1,f2,f3,f4,f5⟩:=hf b hb;exact⟨f3,f1,f4,f5⟩
 .rw[zk (Ar (A9 (A4 e) hp))];exact n
 .rw[zk (zn e hn)];exact e
 .rw[zk (zn e hn)];exact e
 .rw[zk (zn e hn),e];simp
 .let⟨ob,es,ep,ho,r⟩:=hm;exact⟨ob,es,ep,k _ ob (λz=>(hf _ z).2.1 rfl) ho,r⟩
 .by_cases hb:b=T
  .subst hb;rw[zl]at e
   cases e
   exact new
  .rw[zk hb]at e;refine(I.hok b u e).stay (λc v hc q=>k c v ?_ q) (λc q=>by rw[zk (zn q hn)];exact q) λc xs q=>by rw[zk (zn q hn)];exact q
   rcases hc with z|z
   .rw[z];exact nch b u e
   .exact nch c _ z
theorem Inv.turnedL{t':Nat}{ch:List AJ}(I:Inv X π σ H s)(hf:∀b∈ch,ybh X π H b)(k:∀b u,b∉ch->s.heap.get? b=AA u->h'.get? b=AA u):Inv X π σ H {s with heap:=h',toks:=t'}:=by
 have nch:∀b u,H b=AA u->b∉ch:=λb u e z=>by
  have q:=(hf b z).1;rw[e]at q
  cases q
 refine I.step (g':=s.gens) (d':=s.drawn) (ch:=ch) (λb hb=>?_) (λb u _ _ hc e _=>k b u hc e) (λb u _ _ hc e _=>⟨u.slots,k b u hc e⟩) (λ_ _ _ _ n=>n) (λb u hc e=>⟨u,k b u hc e⟩) (λ_ _ e=>e) (λ_ _ _ e=>e) (λb ps e=>⟨#[],by rw[e];simp⟩) (λm hm=>?_) (λb u e=>?_) I.bare
 .let⟨f0,f1,f2,f3,f4,f5⟩:=hf b hb;exact⟨f3,f1,f4,f5⟩
 .let⟨ob,es,ep,ho,r⟩:=hm;exact⟨ob,es,ep,k _ ob (λz=>(hf _ z).2.1 rfl) ho,r⟩
 .refine(I.hok b u e).stay (λc v hc q=>k c v ?_ q) (λ_ q=>q) λ_ _ q=>q;rcases hc with z|z
  .rw[z];exact nch b u e
  .exact nch c _ z
end
def Ite(K:AF)(a:AJ):It:=
 ⟨λi H=>∃xs x,SqT K H a xs/\xs[i]?=AA x,λi H x H'=>∃T,H T=AD/\x=.ref T/\∀xs y,SqT K H a xs->xs[i]?=AA y->H'=upd H T (.tup [.int i,y]),λi H=>∃xs,SqT K H a xs/\xs.length=i⟩
def zcK{h:Aw}{a b:AJ}{o u:Bb}(x:h.get? a=AA o)(y:h.get? b=AA u)(z:o.cls≠u.cls):a≠b:=λe=>by
 subst e;rw[x]at y
 cases y
 exact z rfl
def zfC{P:Aa}{w:Am}{K:AF}{es:List AT}{kk:Nat}{pos:Bo}(a e it:AJ):
  Turn P w K (.Tuple es kk pos) (Ite K a) [e,it] e (λi h=>(∃old,IsEnum h e it i old)/\h.IsTupleIter it a i) where
 mem:=by simp
 obj:=λi h st b hb=>by
  let⟨⟨old,he⟩,oi,gi,ci,di⟩:=st;rcases AL.mp hb with z|z
  .subst z;exact⟨_,he,λv y=>nomatch y⟩
  .have z:b=it:=by simpa using z
   subst z;exact⟨oi,gi,λv y=>by rw[di]at y;cases y⟩
 keep:=λi h h' st k=>by
  let⟨⟨old,he⟩,oi,gi,r⟩:=st;exact⟨⟨old,k e (by simp) _ he⟩,oi,k it (by simp) _ gi,r⟩
 item:=by
  intro X hP hw hK hc i π s σ H E I hf st hg;subst hP hw hK;let⟨xs,x,hq,hx⟩:=hg;let⟨its,rv,p,hz⟩:=I.tuple hq;let⟨⟨old,he⟩,hi⟩:=st;let⟨oi,gi,ci,di⟩:=id hi;let⟨oa,ga,ca,na,da⟩:=id p;have nai:a≠it:=zcK ga gi (by rw[ca,ci];exact λz=>absurd (C6 z) ⋯);have nei:e≠it:=zcK he gi (by rw[ci];exact λz=>absurd (C6 z) ⋯);have nea:e≠a:=zcK he ga (by rw[ca];exact λz=>absurd (C6 z) ⋯);have hl:=rv.length;have hil:i<its.toArray.size:=by
   have:=(A2.mp hx).1;simpa using (by lia:i<its.length)
  have W:=Fg (prog:=X.prog) (w:=X.w) (A:=X.A) (WE.draws_tuple (pg:=X.prog) (wd:=X.w) (A:=X.A.in1) (I.ok.hd hc) it a nai its.toArray) e nei (by simp[nei,nea]) (by simp);refine W.item i s _ E hil ⟨⟨old,he⟩,hi,p⟩ λT vals h1 tk hP hsz hT mid kp=>⟨.ref T,rfl,?_⟩;refine W.go es kk pos i T _ _ E mid λh2 st2 kp2=>?_;let⟨t,y,hy,rfl⟩:=hP;let⟨u,hu,ru⟩:=rv.get hx;have ey:y=u:=A6 (hy.symm.trans (by simpa using hu));subst ey;have hch:∀b o,b∉[e,it]->s.heap.get? b=AA o->h2.get? b=AA o:=λb o hb q=>kp2 b o hb (kp b o hb q);have hTw:=W.apart i T h1 mid;have new:yS X.prog X.w (upd H T (.tup [.int i,x])) h2 T (.tup [.int i,x]):=by
   let⟨o,g,r⟩:=hT;exact⟨by show 2<=sizeLine;decide,[.int i t,y],.cons ⟨t,rfl⟩ (.cons ru .nil),o,kp2 T o hTw g,r⟩
  have I2:=I.turnLaid (t':=tk) hf hch hsz new;refine⟨.ref T,_,I2,rfl,⟨T,I.hok.fresh hsz,rfl,λys z hy' hz'=>?_⟩,⟨st2.1,st2.2.1⟩,λb hb=>?_⟩
  .rw[I.tuple_inj hy' hq]at hz';rw[hx]at hz'
   cases hz'
   rfl
  .rw[zk (λz:b=T=>hTw (z ▸ hb))];exact(hf b hb).1
 done:=by
  intro X hP hw hK hc i π s σ H E I hf st hg;subst hP hw hK;let⟨xs,hq,hx⟩:=hg;let⟨its,rv,p,hz⟩:=I.tuple hq;let⟨⟨old,he⟩,hi⟩:=st;let⟨oi,gi,ci,di⟩:=id hi;let⟨oa,ga,ca,na,da⟩:=id p;have nai:a≠it:=zcK ga gi (by rw[ca,ci];exact λz=>absurd (C6 z) ⋯);have nei:e≠it:=zcK he gi (by rw[ci];exact λz=>absurd (C6 z) ⋯);have nea:e≠a:=zcK he ga (by rw[ca];exact λz=>absurd (C6 z) ⋯);have hl:=rv.length;have W:=Fg (prog:=X.prog) (w:=X.w) (A:=X.A) (WE.draws_tuple (pg:=X.prog) (wd:=X.w) (A:=X.A.in1) (I.ok.hd hc) it a nai its.toArray) e nei (by simp[nei,nea]) (by simp);have en:its.toArray.size=i:=by simp;lia
  refine W.done s _ E (by rw[en];exact⟨⟨old,he⟩,hi,p⟩) λh2 tk kp=>⟨rfl,I.turnedL (t':=tk) hf kp⟩
 self:=λ_ _ _ _ _ st q=>by
  let⟨⟨old,he⟩,_⟩:=st;exact Fh he q
def yhE(K:AF)(ta:TA):TI:=λσ H R=>ta σ H λvs H1=>∃a,vs=[.ref a]/\(∃xs,SqT K H1 a xs)/\R (Ite K a) H1
def zhQ{X:Cx}{a:AT}{es:List AT}{kk:Nat}{tp:Bo}{ta:TA}{p pos:Bo}(hg:Gl X "enumerate")(hm:X.mg "enumerate"=AD)(ha:PA X [a] ta)(hs:starEach [a] X.env=[(AB,eval a X.env)]:=by rfl):
  PI X (.Tuple es kk tp) (.Call (.Name "enumerate" p) [a] [] pos) (yhE X.K ta):=by
 intro π s σ H R I h;refine B1 (zcT I hg hm boot_enumerate ?_);refine Br (thn (ha pos π s σ H _ I h) λus s1 kq=>?_) hs rfl;let⟨vs,H1,I1,r1,q1⟩:=kq;let⟨l,rfl,⟨xs,hq⟩,q⟩:=q1;let⟨u,rfl,ru⟩:=Vals.one r1
 cases (show u=Al l from ru)
 let⟨its,rv,pt,hz⟩:=I1.tuple hq;refine WE.call_enumT (show s1.heap.IsTuple l its.toArray from pt) λh1 he hi hsz kp=>?_;refine Fh he ?_;refine⟨_,[s1.heap.objs.size+1,s1.heap.objs.size],_,_,H1,rfl,I1.kept (t':=s1.toks) kp,zfC l _ s1.heap.objs.size,⟨⟨_,he⟩,hi⟩,λb hb=>?_,q⟩;have hb2:s1.heap.objs.size<=b:=by
  rcases AL.mp hb with z|z
  .subst z;exact Cm _
  .have z:b=s1.heap.objs.size:=by simpa using z
   subst z;exact AS _
 exact I1.fpOk hb2 (I1.hok.fresh hb2)
abbrev No:AH->AK->Prop:=λ_ _=>False
abbrev ydL(ifs:List AT)(env:Env):Ge Bool:=forIn ifs AC λc r=>if r=AC then do let ok <-isTrue c env (eval c env);pure (GS ok)else pure (GS r)
section
variable {pg:Aa}{wd:Am}{A:An}{R:FW->AK->Prop}{s:AK}
def zhl{elt tg iter:AT}{ifs:List AT}{sc:BQ}{pos:Bo}{it acc:AH}{env:Env}(I:Nat->AK->Prop)
  (turn:∀n s,I n s->A5 (model pg wd) A (pyNext it) (λr s1=>match r with
   |none=>R (.ok .next) s1
   |some v=>A5 (model pg wd) A (letOwnedTupleGo tg it v) (λ_ s2=>A5 (model pg wd) A (assign tg env v) (λ_ s3=>A5 (model pg wd) A (ydL ifs env) (λok s4=>
     if ok=AC then A5 (model pg wd) A (eval elt env) (λx s5=>A5 (model pg wd) A (call (.builtin "list.append") [acc,x]) (λ_ s6=>∃m,m<n/\I m s6) No s5) No s4
     else ∃m,m<n/\I m s4) No s3) No s2) No s1) No s)
  (n:Nat) (h:I n s):codeAny (model pg wd) A (.compLoop (.ListComp elt [⟨tg,iter,ifs,0⟩] sc pos) 0 it acc env) R s:=by
 refine codeAny_loop rfl I (λn s hI=>?_) n h;show A5 _ A ((compTurn (.ListComp elt [⟨tg,iter,ifs,0⟩] sc pos) 0 it acc env).onRaise (λx=>do noteFrame x env;theTreesLotGoes x)) _ _ s;refine wpAny_noted ?_;rw[compTurn_list];refine AI (DJ (AI (Be (turn n s hI) (λr s1 h1=>?_) λ_ _ f=>f.elim)))
 cases r with
 |none=>exact A0 h1
 |some v=>
  refine AI (Be h1 (λ_ s2 h2=>AI (Be h2 (λ_ s3 h3=>AI (Be h3 (λok s4 h4=>?_) λ_ _ f=>f.elim)) λ_ _ f=>f.elim)) λ_ _ f=>f.elim)
  cases ok with
  |false=>exact A0 ⟨rfl,h4⟩
  |true=>exact AI (AI (Be h4 (λx s5 h5=>AI (Be h5 (λ_ s6 h6=>A0 (A0 ⟨rfl,h6⟩)) λ_ _ f=>f.elim)) λ_ _ f=>f.elim))
end
def yak(env:Env)(r:List (AO×AJ))(x:AO×Cq):List (AO×AJ):=if x.2=.free then(x.1,(env.cells.lookup x.1).getD 0)::r else r
def ydx(sc:BQ)(env:Env):List (AO×AJ):=sc.names.foldl (yak env) []
def zfn{α β:Type}{l:List α}{f:α->β->Ge (ForInStep β)}{g:β->α->β}(h:∀x∈l,∀c,f x c=pure (.yield (g c x))):∀c:β,forIn l c f=pure (l.foldl g c):=by
 induction l with
 |nil=>exact λ_=>rfl
 |cons x l ih=>
  intro c;rw[Ea,h x A7,pure_bind,Cj];exact ih (λy hy=>h y (AU _ hy)) (g c x)
def zaR{sc:BQ}{env:Env}(hf:∀y∈sc.names,y.2=.free->∃c,env.cells.lookup y.1=AA c):closureFor sc env=pure (ydx sc env):=by
 erw[closureFor];rw[zfn (g:=yak env) (λx hx c=>?_)]
 .rfl
 .let⟨n,k⟩:=x
  by_cases hk:k=.free
  .subst hk;let⟨a,ha⟩:=hf _ hx rfl;have ha':env.cells.lookup n=AA a:=ha;simp[yak,cellOf,ha']
  .have hb:(k==CY)=false:=by simpa using hk
   simp[yak,hk,hb]
def zcU{env:Env}:∀(l:List (AO×Cq)) (r:List (AO×AJ)),(∀y∈l,y.2=.free->∃c,env.cells.lookup y.1=AA c)->(∀x c,r.lookup x=AA c->env.cells.lookup x=AA c) ->
  ∀x c,(l.foldl (yak env) r).lookup x=AA c->env.cells.lookup x=AA c
 |[],r,_,h=>h
 |y::l,r,hf,h=>by
  refine zcU l (yak env r y) (λz hz=>hf z (AU _ hz)) λx c e=>?_;unfold yak at e
  by_cases hk:y.2=.free
  .let⟨a,ha⟩:=hf y A7 hk;rw[if_pos hk,B4]at e
   cases hx:x==y.1 with
   |true=>
    rw[hx,ha]at e;rw[eq_of_beq hx,ha];exact e
   |false=>
    rw[hx]at e;exact h x c e
  .rw[if_neg hk]at e;exact h x c e
def zb9{env:Env}{x:AO}:∀(l:List (AO×Cq)) (r:List (AO×AJ)),(∃c,r.lookup x=AA c)->∃c,(l.foldl (yak env) r).lookup x=AA c
 |[],r,h=>h
 |y::l,r,h=>by
  refine zb9 l (yak env r y) ?_;unfold yak
  by_cases hk:y.2=.free
  .rw[if_pos hk,B4]
   cases hx:x==y.1 with
   |true=>exact⟨_,rfl⟩
   |false=>exact h
  .rw[if_neg hk];exact h
def zbL{env:Env}:∀(l:List (AO×Cq)) (r:List (AO×AJ)),∀y∈l,y.2=.free->∃c,(l.foldl (yak env) r).lookup y.1=AA c
 |[],_,y,hy,_=>nomatch hy
 |z::l,r,y,hy,hk=>by
  rcases AL.mp hy with e|e
  .subst e;refine zb9 l (yak env r y) ?_;unfold yak;rw[if_pos hk,B4,beq_self_eq_true];exact⟨_,rfl⟩
  .exact zbL l (yak env r z) y e hk
theorem mem_of_lookup{β:Type}{x:AO}{k:β}:∀{l:List (AO×β)},l.lookup x=AA k->(x,k)∈l
 |[],h=>nomatch h
 |y::l,h=>by
  rw[B4]at h
  cases hx:x==y.1 with
  |true=>
   rw[hx]at h
   cases h
   rw[eq_of_beq hx];exact A7
  |false=>
   rw[hx]at h;exact AU _ (mem_of_lookup h)
def ydd(env:Env)(x:AO)(k:Cq):NameKind:=if (k==.free&&env.scope.kind==.function&&env.kindOf x==AA .cell)=AC then .cell else k
def zcP{sc:BQ}{env:Env}(x:AO):(relabel sc env).names.lookup x=(sc.names.lookup x).map (ydd env x):=by
 unfold relabel;show (sc.names.map λ(n,k)=>if (k==CY&&env.scope.kind==.function&&env.kindOf n==AA .cell)then(n,FP)else(n,k)).lookup x=_
 induction sc.names with
 |nil=>rfl
 |cons y l ih=>
  let⟨n,k⟩:=y;rw[AX];show Bs x ((if (k==CY&&env.scope.kind==.function&&env.kindOf n==AA .cell)=AC then(n,FP)else(n,k))::_)=_
  cases hx:x==n with
  |true=>
   have e:=eq_of_beq hx;subst e
   by_cases hc:(k==CY&&env.scope.kind==.function&&env.kindOf x==AA .cell)=AC
   .rw[if_pos hc,B4,beq_self_eq_true];simp[ydd,hc]
   .rw[if_neg hc,B4,beq_self_eq_true];simp[ydd,hc]
  |false=>
   by_cases hc:(k==CY&&env.scope.kind==.function&&env.kindOf n==AA .cell)=AC
   .rw[if_pos hc];erw[B4,hx];exact ih
   .rw[if_neg hc];erw[B4,hx];exact ih
structure CI where
 C:AJ
 s:AK
 H:Hp
 fp:List AJ
def cxC(X:Cx)(sc:BQ)(NC:List AO)(j:CI):Cx where
 prog:=X.prog
 w:=X.w
 K:=X.K
 mg:=X.mg
 base:=X.base
 A:=X.A
 N:=NC
 s₀:=j.s
 H₀:=j.H
 env:=compEnvC sc (ydx sc X.env) j.C X.env
 outer:=X.stack
 stack:=X.stack
 ex:=j.fp
 fn:=λ_=>AB
 calm:=X.calm
 pn:=[]
 xe:=No
def inn(slots:List (Option Nat))(σ:St):St:=slots.map λo=>o.bind λj=>(σ[j]?).join
structure yaf(X:Cx)(sc:BQ)(NC:List AO)(slots:List (Option Nat)):Prop where
 kind:sc.kind=.function
 names:∀y∈sc.names,y.2=.local->sc.names.lookup y.1=AA .local
 nocell:∀y∈sc.names,y.2 ≠ .cell
 free:∀y∈sc.names,y.2=.free->X.env.scope.names.lookup y.1=AA .cell
 slot:∀(i:Nat) (x:AO) (j:Nat),NC[i]?=AA x->slots[i]?=AA (AA j)->X.N[j]?=AA x/\sc.names.lookup x=AA .free
 len:slots.length=NC.length
def zow{X:Cx}{sc:BQ}{NC:List AO}{slots:List (Option Nat)}(N:List AO)(so:BQ)(hN:X.N=N)(hs:X.env.scope=so)(kind:sc.kind=.function)
  (names:∀y∈sc.names,y.2=.local->sc.names.lookup y.1=AA .local) (nocell:∀y∈sc.names,y.2 ≠ .cell) (free:∀y∈sc.names,y.2=.free->so.names.lookup y.1=AA .cell)
  (slot:∀p∈NC.zip slots,(p.2.all λj=>decide (N[j]?=AA p.1/\sc.names.lookup p.1=AA .free))=AC) (len:slots.length=NC.length):yaf X sc NC slots:=by
 subst hN hs;refine⟨kind,names,nocell,free,λi x j e1 e2=>?_,len⟩;have hm:(x,AA j)∈NC.zip slots:=AR (i:=i) (by rw[List.getElem?_zip_eq_some];exact⟨e1,e2⟩);have:=slot _ hm;simpa using this
section
variable {X:Cx}{sc:BQ}{NC:List AO}{slots:List (Option Nat)}{π:List (AJ×Bb)}{σ:St}{H:Hp}{s:AK}
theorem yaf.cells(O:yaf X sc NC slots)(ok:X.Ok):∀y∈sc.names,y.2=.free->∃c,X.env.cells.lookup y.1=AA c:=λy hy hk=>ok.has y.1 (.inl (O.free y hy hk))
theorem yaf.sub(O:yaf X sc NC slots)(ok:X.Ok):∀x c,(ydx sc X.env).lookup x=AA c->X.env.cells.lookup x=AA c:=zcU sc.names [] (O.cells ok) λ_ _ e=>nomatch e
theorem yaf.rel(O:yaf X sc NC slots)(ok:X.Ok){x:AO}(h:sc.names.lookup x=AA .free):(relabel sc X.env).names.lookup x=AA .cell:=by
 rw[zcP,h];have e:X.env.kindOf x=AA .cell:=O.free _ (mem_of_lookup h) rfl;simp[ydd,ok.kind,e]
def zfy(I:Inv X π σ H s)(O:yaf X sc NC slots){fp:List AJ}(hf:∀b∈fp,ybh X π H b)(hob:∀b∈fp,∃o,s.heap.get? b=AA o){h1:Aw}{t':Nat}{m:AO->Option AH}(hns:h1.Ns s.heap.objs.size m)
  (hk:∀b o,s.heap.get? b=AA o->h1.get? b=AA o):Inv (cxC X sc NC ⟨s.heap.objs.size,s,H,fp⟩) [] (inn slots σ) H {s with heap:=h1,toks:=t'}:=by
 have sub:=O.sub I.ok;have fss:∀b,b≠X.env.locals->b∉X.fs->b∉frs X.stack:=λb h1 h2 hb=>(AL.mp (I.stkSub b hb)).elim h1 h2;have ltC:∀x c,(ydx sc X.env).lookup x=AA c->c<s.heap.objs.size:=λx c e=>by
  let⟨v,q⟩:=I.cell x c (sub x c e);exact q.lt
 refine⟨⟨I.ok.mod,O.kind,I.ok.glob,I.ok.blt,AS _,λx y c e1 e2=>I.ok.inj x y c (sub x c e1) (sub y c e2),λx hx=>?_,λ_ _ z=>(nomatch z),I.ok.hd,I.ok.frames,.inl rfl,λb hb=>⟨?_,λx c e=>(hf b hb).2.2.2.2.1 x c (sub x c e)⟩,I.bs,BH I.ok.bsz I.sz,λb o e hb=>?_,λb hb=>fss b (hf b hb).2.1 (hf b hb).2.2.1,I.stack,I.stkFree⟩,
  rfl,I.bare,Un.kept hk,⟨m,hns,λi x v e1 e2 e3=>?_⟩,λx c e=>?_,I.hok.fresh (AS _),λx c e=>I.freeC x c (sub x c e),λp hp=>(nomatch hp),I.hok.kept hk,?_⟩
 .have hx':(relabel sc X.env).names.lookup x=AA .cell \/ (relabel sc X.env).names.lookup x=AA .free:=hx;rw[zcP]at hx'
  cases q:sc.names.lookup x with
  |none=>
   rw[q]at hx';rcases hx' with z|z<;>cases z
  |some k=>
   have hm:=mem_of_lookup q;have hkf:k=.free:=by
    rw[q]at hx';have nc:=O.nocell _ hm
    by_cases hk:k=.free
    .exact hk
    .exfalso;have hb:(k==CY)=false:=by simpa using hk
     rcases hx' with z|z
     .simp[ydd,hb]at z;exact nc z
     .simp[ydd,hb]at z;exact hk z
   subst hkf;exact zbL sc.names [] _ hm rfl
 .let⟨o,e⟩:=hob b hb;exact Ar (A4 e)
 .rcases (hf b hb).2.2.2.1 with z|z
  .exact I.ok.noex b o e z
  .exact absurd (A9 (A4 e) (BH I.ok.bsz z)) (Cf _)
 .obtain⟨j,e4,e5⟩:∃j,slots[i]?=AA (AA j)/\σ[j]?=AA (AA v):=by
   have e2':(slots.map λo=>o.bind λj=>(σ[j]?).join)[i]?=AA (AA v):=e2;rw[Ba]at e2'
   cases q:slots[i]? with
   |none=>
    rw[q]at e2'
    cases e2'
   |some o=>
    rw[q]at e2'
    cases o with
    |none=>cases e2'
    |some j=>
     refine⟨j,rfl,?_⟩;have e6:(σ[j]?).join=AA v:=A6 e2'
     cases q2:σ[j]? with
     |none=>
      rw[q2]at e6
      cases e6
     |some w=>
      rw[q2]at e6;have e7:w=AA v:=e6;rw[e7]
  let⟨e6,e7⟩:=O.slot i x j e1 e4;have kc:X.env.scope.names.lookup x=AA .cell:=O.free _ (mem_of_lookup e7) rfl;let⟨m0,hn0,hl⟩:=I.loc;let⟨u,r,lk⟩:=hl j x v e6 e5 (.inr (.inl kc));refine⟨u,r,.inr ⟨.inl (O.rel I.ok e7),?_⟩⟩;rcases lk with⟨z,_⟩|⟨_,c,hc,o,ho,hd⟩
  .rw[show X.env.kindOf x=AA .cell from kc]at z
   cases z
  .let⟨c',hc'⟩:=zbL (env:=X.env) sc.names [] _ (mem_of_lookup e7) rfl;have e8:c'=c:=A6 ((sub x c' hc').symm.trans hc);subst e8;exact⟨c',hc',o,hk _ _ ho,hd⟩
 .let⟨v,o,ho,hd⟩:=I.cell x c (sub x c e);exact⟨v,o,hk _ _ ho,hd⟩
 .show (slots.map λo=>o.bind λj=>(σ[j]?).join).length=NC.length;rw[Af,O.len]
def zfE(I:Inv X π σ H s){fp:List AJ}(hf:∀b∈fp,ybh X π H b){C:AJ}(hC:s.heap.objs.size<=C){pl:List (AJ×Bb)}{σ':St}{H':Hp}{s':AK}(J:Inv (cxC X sc NC ⟨C,s,H,fp⟩) pl σ' H' s')
  {h2:Aw} (hb:CU C s'.heap h2):Inv X π σ H' {s' with heap:=h2}:=by
 have nC:∀b o,s.heap.get? b=AA o->b≠C:=λb o e=>Ar (A9 (A4 e) hC);have B:Un (frs X.stack) fp H H' s.heap s'.heap:=J.base;have fC:H' C=none:=J.free;refine I.call' (ch:=fp) J.os ⟨λb o e n h3 h4=>(hb.2 b (nC b o e)).trans (B.keep b o e n h3 h4),λb o e n h3 h4=>?_,B.free,λb o e h4=>?_,B.tups,B.frzs,B.tbls⟩ (λb u e=>?_) J.bare λb h3=>⟨(hf b h3).2.2.2.1,(hf b h3).2.1,(hf b h3).2.2.2.2.1,(hf b h3).2.2.2.2.2⟩
 .let⟨sl,q⟩:=B.slot b o e n h3 h4;exact⟨sl,(hb.2 b (nC b o e)).trans q⟩
 .let⟨o',q⟩:=B.there b o e h4;exact⟨o',(hb.2 b (nC b o e)).trans q⟩
 .refine(J.hok b u e).stay (λc v hc q=>(hb.2 c λz=>?_).trans q) (λ_ q=>q) λ_ _ q=>q;subst z;rcases hc with z|z
  .rw[z,e]at fC
   cases fC
  .rw[z]at fC
   cases fC
end
def PTs(X:Cx)(ifs:List AT)(t:TT):Prop:=
 ∀(π:List (AJ×Bb)) (s:AK) (σ:St) (H:Hp) (Q:Bool->Hp->Prop),Inv X π σ H s->t σ H Q->A5 (model X.prog X.w) X.A (ydL ifs X.env) (TP X π σ Q) X.xe s
def yf4:TT:=λ_ H Q=>Q AC H
def zk9{X:Cx}:PTs X [] yf4:=λ_ _ _ H _ I h=>wpAny_tests_nil ⟨H,I,h⟩
def zkk{X:Cx}{c:AT}{t:TT}(h:PT X c t):PTs X [c] t:=λπ s σ H Q I q=>wpAny_tests_one (h π s σ H Q I q)
def yc6(J:It)(D:AJ)(g:TG)(ti:TT)(te:TE)(W:Nat->Nat->St->List V->Hp->Prop)(Q:Hp->Prop):Prop:=
 ∀i m σc ys H2,W i m σc ys H2->H2 D=AA (.lst ys)/\((J.stop i H2/\Q H2) \/ (J.go i H2/\ys.length<sizeLine/\∃N:St->List V->Hp->Prop,(∀σ' ys' H',N σ' ys' H'->∃m',m' < m/\W (i+1) m' σ' ys' H') /\
  ∀x H3,J.yld i H2 x H3->g x σc H3 λσ4 H4=>ti σ4 H4 λb H5=>if b=AC then te σ4 H5 λy H6=>H6 D=AA (.lst ys)/\N σ4 (ys++[y]) (upd H6 D (.lst (ys++[y])))else N σ4 ys H5))
def yci(slots:List (Option Nat))(wi:TI)(g:TG)(ti:TT)(te:TE):TE:=λσ H Q=>wi σ H λJ H1=>∀D,H1 D=AD->∃W:Nat->Nat->St->List V->Hp->Prop,(∃m,W 0 m (inn slots σ) [] (upd H1 D (.lst [])))/\yc6 J D g ti te W (Q (.ref D))
section
variable {X:Cx}{sc:BQ}{NC:List AO}{slots:List (Option Nat)}{elt tg iter:AT}{ifs:List AT}{pos:Bo}{g:TG}{ti:TT}{te:TE}
def zh7(hc:X.calm=AC)(hg:∀j,PG (cxC X sc NC j) tg g)(ht:∀j,PTs (cxC X sc NC j) ifs ti)(he:∀j,PE (cxC X sc NC j) elt te){cj:CI}{it D:AJ}{tn:Nat->Aw->Prop}{J:It}
  {W:Nat->Nat->St->List V->Hp->Prop} {Q:Hp->Prop} {R:FW->AK->Prop} {s:AK} {σc:St} {ys:List V} {H:Hp} (T:Turn X.prog X.w X.K tg J cj.fp it tn)
  (I:Inv (cxC X sc NC cj) [] σc H s) (hf:∀b∈cj.fp,ybh (cxC X sc NC cj) [] H b) (st:tn 0 s.heap) {m:Nat} (w0:W 0 m σc ys H) (step:yc6 J D g ti te W Q)
  (fin:∀σ' H' s',Inv (cxC X sc NC cj) [] σ' H' s'->Q H'->R (.ok .next) s'):
  codeAny (model X.prog X.w) X.A (.compLoop (.ListComp elt [⟨tg,iter,ifs,0⟩] sc pos) 0 (.ref it) (.ref D) (cxC X sc NC cj).env) R s:=by
 have stat:∀{H':Hp},(∀b∈cj.fp,H' b=AD)->∀b∈cj.fp,ybh (cxC X sc NC cj) [] H' b:=λhn b hb=>⟨hn b hb,(hf b hb).2⟩;refine zhl (λn s'=>∃i σ' ys' H',Inv (cxC X sc NC cj) [] σ' H' s'/\tn i s'.heap/\(∀b∈cj.fp,H' b=AD)/\W i n σ' ys' H') ?_ m ⟨0,σc,ys,H,I,st,λb hb=>(hf b hb).1,w0⟩
 rintro n s3 ⟨i,σ3,ys3,H3,I3,st3,fr3,w3⟩
 let⟨hD,q⟩:=step i n σ3 ys3 H3 w3;rcases q with⟨stop,qn⟩|⟨go,hz,N,hN,turn⟩
 .refine thn (T.done (cxC X sc NC cj) rfl rfl rfl hc i [] s3 σ3 H3 No I3 (stat fr3) st3 stop) λr s4 kq=>?_;let⟨hr,I4⟩:=kq;subst hr;exact fin σ3 H3 s4 I4 qn
 .refine thn (T.item (cxC X sc NC cj) rfl rfl rfl hc i [] s3 σ3 H3 No I3 (stat fr3) st3 go) λr s4 kq=>?_;let⟨u,hr,h4⟩:=kq;subst hr;refine thn h4 λ_ s5 kq=>?_;let⟨x,H5,I5,r5,y5,st5,fr5⟩:=kq;have I5':=I5.pinned (stat fr5) (T.obj _ _ st5);refine thn (hg cj _ s5 σ3 H5 x u _ I5' r5 (turn x H5 y5)) λ_ s6 kq=>?_;let⟨σ6,H6,I6,q6⟩:=kq;refine thn (ht cj _ s6 σ6 H6 _ I6 q6) λok s7 kq=>?_;let⟨H7,I7,q7⟩:=kq;have again:∀{σ8:St} {ys8:List V} {H8:Hp} {s8:AK},Inv (cxC X sc NC cj) ([]++ybf cj.fp s5.heap) σ8 H8 s8->N σ8 ys8 H8->∃m,m<n/\∃i σ' ys' H',Inv (cxC X sc NC cj) [] σ' H' s8/\tn i s8.heap/\(∀b∈cj.fp,H' b=AD)/\W i m σ' ys' H':=λ{σ8 ys8 H8 s8} I8 n8=>by
   let⟨m',hm,w8⟩:=hN σ8 ys8 H8 n8;refine⟨m',hm,i+1,σ8,ys8,H8,I8.unpinned,T.keep _ _ _ st5 λb hb o e=>(I8.pin (b,o) (Aq _ (Aq _ (za0 hb e)))).1,λb hb=>?_,w8⟩;let⟨o,e,d⟩:=T.obj _ _ st5 b hb;exact(I8.pin (b,o) (Aq _ (Aq _ (za0 hb e)))).2.1
  cases ok with
  |false=>
   rw[if_neg As]at q7 ⊢;exact again I7 q7
  |true=>
   rw[if_pos rfl]at q7 ⊢;refine thn (he cj _ s7 σ6 H7 _ I7 q7) λy s8 kq=>?_;let⟨v,H8,I8,r8,hD8,q8⟩:=kq;refine thn (zd0 (X:=cxC X sc NC cj) _ s8 σ6 H8 (.ref D) [v] (.ref D) [y] (λz H'=>z=.non/\H'=upd H8 D (.lst (ys3++[v]))) I8 rfl (.cons r8 .nil) ⟨D,ys3,v,rfl,rfl,hD8,hz,rfl,rfl⟩) λz s9 kq=>?_;let⟨zv,H9,I9,r9,e1,e2⟩:=kq;subst e2;exact again I9 q8
def zcX(hc:X.calm=AC)(O:yaf X sc NC slots)(hg:∀j,PG (cxC X sc NC j) tg g)(ht:∀j,PTs (cxC X sc NC j) ifs ti)(he:∀j,PE (cxC X sc NC j) elt te){π:List (AJ×Bb)}{s:AK}{σ:St}{H:Hp}(I:Inv X π σ H s)
  {it:AJ} {fp:List AJ} {tn:Nat->Aw->Prop} {J:It} (T:Turn X.prog X.w X.K tg J fp it tn) (st:tn 0 s.heap) (hf:∀b∈fp,ybh X π H b) {Q:VK}
  (h:∀D,H D=AD->∃W:Nat->Nat->St->List V->Hp->Prop,(∃m,W 0 m (inn slots σ) [] (upd H D (.lst [])))/\yc6 J D g ti te W (Q (.ref D))) {RR:AH->AJ->FW->AK->Prop}
  (fin:∀D C s' H',Q (.ref D) H'->(∃o m,s'.heap.get? C=AA o/\s'.heap.Ns C m/\∀v,o.data ≠ .cell v)->ybh X π H' C->(∀h2,CU C s'.heap h2->Inv X π σ H' {s' with heap:=h2})->RR (.ref D) C (.ok .next) s'):
  A5 (model X.prog X.w) X.A (newList []) (λacc s3=>A5 (model X.prog X.w) X.A (newFunctionEnv sc X.env.globals (ydx sc X.env) [] X.env.qual AD .none (AA X.env)) (λcenv s4=>
   codeAny (model X.prog X.w) X.A (.compStart (.ListComp elt [⟨tg,iter,ifs,0⟩] sc pos) 0 (.ref it) acc {cenv with scope:=relabel sc X.env}) (RR acc cenv.locals) s4) X.xe s3) X.xe s:=by
 refine B9 (wpAny_newFunctionEnv O.nocell (by intro y hy;simp at hy) (λh1 hns1 hsb1=>?_) O.kind);dsimp only at hns1 hsb1 ⊢;have hDn:H s.heap.objs.size=none:=I.hok.fresh (AS _);let⟨W,⟨m,w0⟩,step⟩:=h s.heap.objs.size hDn;obtain⟨s3,hs3⟩:∃x:AK,x=({s with heap:=s.heap.push {cls:=.type "list",dict:=AD,data:=.seq ([]:List AH).toArray} }:AK):=⟨_,rfl⟩;have e3:s3.heap=s.heap.push {cls:=.type "list",dict:=AD,data:=.seq ([]:List AH).toArray}:=by rw[hs3]
 rw[<-e3]at hns1 hsb1;have hp3:∀b o,s.heap.get? b=AA o->s3.heap.get? b=AA o:=λb o e=>by
  rw[e3];exact AV _ e
 have I3:Inv X π σ (upd H s.heap.objs.size (.lst [])) s3:=by
  have q:=I.laid (a:=s.heap.objs.size) (o:=.lst []) (h':=s3.heap) (t':=s.toks) hp3 (AS _) ⟨Ab _,[],_,.nil,by rw[e3];exact Ac _ rfl⟩;rw[hs3]at q ⊢;exact q
 have hf3:∀b∈fp,ybh X π (upd H s.heap.objs.size (.lst [])) b:=λb hb=>by
  let⟨o,e,_⟩:=T.obj _ _ st b hb;refine⟨?_,(hf b hb).2⟩;rw[zk (Ar (A4 e))];exact(hf b hb).1
 have st3:tn 0 s3.heap:=T.keep _ _ _ st λb _ o e=>hp3 b o e;have hob:∀b∈fp,∃o,s3.heap.get? b=AA o:=λb hb=>by
  let⟨o,e,_⟩:=T.obj _ _ st3 b hb;exact⟨o,e⟩
 have hk1:∀b o,s3.heap.get? b=AA o->h1.get? b=AA o:=λb o e=>hsb1.extBut b o (Ar (A4 e)) (AV _ e);have J1:=zfy (t':=s3.toks+([]:List (AO×AH)).length) I3 O hf3 hob hns1 hk1;have hfc:∀b∈fp,ybh (cxC X sc NC ⟨s3.heap.objs.size,s3,upd H s.heap.objs.size (.lst []),fp⟩) [] (upd H s.heap.objs.size (.lst [])) b:=λb hb=>
  ⟨(hf3 b hb).1,(J1.ok.exf b hb).1,J1.ok.exfs b hb,.inl hb,(J1.ok.exf b hb).2,λp hp=>nomatch hp⟩
 have loop:codeAny (model X.prog X.w) X.A (.compLoop (.ListComp elt [⟨tg,iter,ifs,0⟩] sc pos) 0 (.ref it) (.ref s.heap.objs.size) (cxC X sc NC ⟨s3.heap.objs.size,s3,upd H s.heap.objs.size (.lst []),fp⟩).env) (RR (.ref s.heap.objs.size) s3.heap.objs.size)
   {s3 with heap:=h1,toks:=s3.toks+([]:List (AO×AH)).length}:=by
  refine zh7 (D:=s.heap.objs.size) (Q:=Q (.ref s.heap.objs.size)) hc hg ht he T J1 hfc (T.keep _ _ _ st3 λb _ o e=>hk1 b o e) w0 step λσ' H' s' J' q'=>?_;have fC:H' s3.heap.objs.size=none:=J'.free;refine fin _ _ s' H' q' ?_ (I3.fpOk (AS _) fC) λh2 hb=>zfE I3 hf3 (AS _) J' hb;let⟨m',hn',_⟩:=J'.loc;let⟨o,es,ep,ho,hd,r⟩:=id hn';exact⟨o,m',ho,hn',λv z=>by rw[hd]at z;cases z⟩
 have self:=λ(RQ:AH->AK->Prop) (EE:AH->AK->Prop)=>T.self X.A 0 {s3 with heap:=h1,toks:=s3.toks+([]:List (AO×AH)).length} RQ EE (T.keep _ _ _ st3 λb _ o e=>hk1 b o e);subst hs3;exact codeAny_compStart_list loop (self _ _ loop)
variable {wi:TI}
def zj0(hc:X.calm=AC)(O:yaf X sc NC slots)(hi:PI X tg iter wi)(hg:∀j,PG (cxC X sc NC j) tg g)(ht:∀j,PTs (cxC X sc NC j) ifs ti)(he:∀j,PE (cxC X sc NC j) elt te)
  (hs:∀x,foldedSetIterable iter X.env x=pure x:=by intro _;rfl):PE X (.ListComp elt [⟨tg,iter,ifs,0⟩] sc pos) (yci slots wi g ti te):=by
 intro π s σ H Q I h;rw[eval_ListComp];refine EA (use:=AD) rfl hs (zaR (O.cells I.ok)) O.kind O.names (thn (hi π s σ H _ I h) λv s1 h1=>thn h1 λitv s2 h2=>?_);let⟨it,fp,tn,J,H2,rfl,I2,T,st2,f2,q2⟩:=h2;refine zcX hc O hg ht he I2 T st2 f2 q2 λD C s' H' q' ⟨o,m,ho,hn,_⟩ _ out=>⟨m,hn,λh2 hb=>⟨.ref D,H',out h2 hb,rfl,q'⟩⟩
def zg8{i:Nat}{x:AO}{px spos:Bo}(hN:X.N.Nodup)(hix:X.N[i]?=AA x)(hx:Loc X.env.scope x)(hc:X.calm=AC)(O:yaf X sc NC slots)(hi:PI X tg iter wi)(hg:∀j,PG (cxC X sc NC j) tg g)(ht:∀j,PTs (cxC X sc NC j) ifs ti)(he:∀j,PE (cxC X sc NC j) elt te)
  (hsw:swapsWith (.ListComp elt [⟨tg,iter,ifs,0⟩] sc pos) (AA (.Name x px)) spos.line X.env=pure true:=by rfl) (hs:∀x,foldedSetIterable iter X.env x=pure x:=by intro _;rfl)
  (hf:X.fn x=AC \/ X.env.scope.names.lookup x=AA .local:=by first|exact .inl rfl|exact .inr rfl|assumption):PS X (.Assign [.Name x px] (.ListComp elt [⟨tg,iter,ifs,0⟩] sc pos) spos) (yeZ (yci slots wi g ti te) (ycu i)):=by
 intro π s σ H Dd I h;rw[exec_Assign_Name_used _ _ _ _ hsw,arm_evalThenUse_ListComp];refine AI (DJ (AI (AI ?_)));refine EA (Q:=λ_ s'=>A5 (model X.prog X.w) X.A (pure ()) (λ_ s''=>A5 (model X.prog X.w) X.A (pure Gj) (SP X π Dd) X.xe s'') X.xe s') rfl hs (zaR (O.cells I.ok)) O.kind O.names (thn (hi π s σ H _ I h) λv s1 h1=>thn h1 λitv s2 h2=>?_);let⟨it,fp,tn,J,H2,rfl,I2,T,st2,f2,q2⟩:=h2;refine zcX (Q:=λx H1=>ycu i x σ H1 Dd.nx) hc O hg ht he I2 T st2 f2 q2 λD C s' H' q' ⟨o,m,ho,hn,hd⟩ FC out=>?_;have I':Inv X π σ H' s':=out s'.heap (HH ..);have Ip:Inv X (π++[(C,o)]) σ H' s':=I'.pins_of λp hp=>(Ak.mp hp).elim (λz=>I'.pin p (Aq _ z)) λz=>by
  have e:p=(C,o):=by simpa using z
  subst e;exact⟨ho,FC.1,FC.2.1,FC.2.2.1,hd⟩
 show A5 (model X.prog X.w) X.A (assign (.Name x px) X.env (.ref D)) _ _ s';refine F5 (zaA Ip hN hix hx (show RelV (.ref D) (.ref D)from rfl) (λs6 I6=>?_) hf);have g6:=(I6.pin (C,o) (Aq _ (Aq _ A7))).1;let⟨o',es,ep,ho',r⟩:=hn;rw[ho]at ho'
 cases ho'
 refine⟨m,⟨o,es,ep,g6,r⟩,λh2 hb=>A0 (A0 ?_)⟩;exact⟨_,H',I6.unpinned.turned (t':=s6.toks) (λb u hb' e=>(hb.2 b hb').trans e) FC.1 FC.2.1 FC.2.2.2.1 FC.2.2.2.2.1 FC.2.2.2.2.2,q'⟩
end
def zeR:∀{bs:List Bool} {us:List AH},Vals (bs.map V.bl) us->LSm.BoolsAre us bs
 |[],_,.nil=>.nil
 |b::bs,_,.cons r q=>by
  cases (show _=CT b from r)
  exact .cons b (zeR q)
section
variable {X:Cx}
def yg3(K:AF):List V->Hp->VK->Prop:=λxs H Q=>∃(l:AJ) (bs:List Bool),xs=[.ref l]/\SqL K H l (bs.map V.bl)/\Q (.bl (bs.all id)) H
def ziW(hc:X.calm=AC):yag X (.builtin "all") (yg3 X.K):=by
 intro π s σ H xs us Q I r h;let⟨l,bs,rfl,hq,q⟩:=h;let⟨u,rfl,ru⟩:=Vals.one r
 cases (show u=Al l from ru)
 let⟨its,rv,pl,hz⟩:=I.list hq;have hb:=zeR rv;have hl:=pl.isList;have hlt:l<s.heap.objs.size:=by
  let⟨_,e,_⟩:=hl;exact A4 e
 refine call_all_walk (Fi hl ?_);refine⟨s.heap.objs.size,[s.heap.objs.size,l],[s.heap.objs.size],its.toArray.size,_,_,λi=>(bs[i]?).getD AC,rfl,Walks.list (A:=X.A.in1) (I.ok.hd hc) _ l (Ar hlt) its.toArray,⟨⟨_,Ac _ rfl,rfl,rfl⟩,hl.push _⟩,λi v s' Q' E' hP hQ=>?_,λh' tk hk=>?_⟩
 .let⟨b,e,rfl⟩:=hb.get i v (by simpa using hP);erw[e,B5]at hQ;exact BX hQ
 .have e:((EW its.toArray.size).all λi=>(bs[i]?).getD AC)=bs.all id:=by
   rw[A1,hb.length];exact LSm.range_all bs
  rw[e];exact⟨.bl _,H,I.kept (t':=tk) (LSm.kept_iter hk),rfl,q⟩
end
section
variable {X:Cx}{π:List (AJ×Bb)}{σ:St}{H:Hp}{s:AK}
end
section
variable {X:Cx}{a:AT}{ta:TE}{K:AF}
end
end L2
namespace L2
end L2
namespace L2
open PySem PySem.Spec PyProof.Rows
def CX1(P:Aa)(w:Am):CXT:=λouter H s E e s'=>∃(a:AJ) (cls a0:AH) (H':Hp) (B:Aw),e=.ref a/\s'.os=s.os/\Co s'.gens/\E4 B outer a cls a0 s'.heap/\HOk P w H' s'.heap/\Un (frs outer) [] H H' s.heap s'.heap /\
 (∀b o,s.heap.get? b=AA o->H b=AD->b∉frs outer->B.get? b=AA o)/\(∀b u,H' b=AA u->∃o,B.get? b=AA o)/\(∀b o,s.heap.get? b=AA o->b∉frs outer->∃o',B.get? b=AA o')/\E cls AD H'
theorem yS.there{P:Aa}{w:Am}{H:Hp}{h:Aw}{a:AJ}{o:HO}(x:yS P w H h a o):∃ob,h.get? a=AA ob:=by
 induction o with
 |lst xs=>let⟨_,_,_,_,e⟩:=x;exact⟨_,e⟩
 |tup xs=>let⟨_,_,_,ob,e,_⟩:=x;exact⟨ob,e⟩
 |dK kvs=>let⟨_,_,_,_,ob,_,_,e,_⟩:=x;exact⟨ob,e⟩
 |dT kvs=>let⟨_,_,_,_,ob,_,_,e,_⟩:=x;exact⟨ob,e⟩
 |set S n=>let⟨ob,_,_,_,e,_⟩:=x;exact⟨ob,e⟩
 |ins C dx fs=>let⟨_,_,_,e,_⟩:=x;exact⟨_,e⟩
 |own y=>exact x
 |xd fs=>let⟨_,⟨ob,_,_,e,_⟩,_⟩:=x;exact⟨ob,e⟩
 |rng lo hi=>let⟨_,_,_,e⟩:=x;exact⟨_,e⟩
 |frz ob u ih=>exact⟨ob,x.1⟩
 |tbl ps=>exact⟨_,x⟩
 |met f y=>exact⟨_,x⟩
 |ext φ=>exact x.2.1
theorem HOk.inB{P:Aa}{w:Am}{H:Hp}{h h' B:Aw}(ok:HOk P w H h)(hB:B.StaysIn h)(hB':B.StaysIn h')(tr:∀b u,H b=AA u->∃o,B.get? b=AA o):HOk P w H h':=λa o e=>
 (ok a o e).stay (λb u hb q=>by
  have hb':∃o,B.get? b=AA o:=by
   rcases hb with z|z
   .rw[z];exact tr a o e
   .exact tr b _ z
  let⟨o',q'⟩:=hb';have:=hB b o' q';rw[q]at this
  cases this
  exact hB' b u q') (λ_ q=>q) λ_ _ q=>q
section
variable {P:Aa}{w:Am}{K:AF}{mg:AO->Option AH}{base:Aw}{N:List AO}{qual:AO}{scope:BQ}{f:AJ}{cd:AH}{A:An}{outer:List Env}{s₀:AK}{H₀:Hp}{E:XK}
 {π:List (AJ×Bb)} {σ:St} {H:Hp} {s:AK}
def zfP{h':Aw}{e:AJ}{cls:AH}{vs:List AH}(I:Inv (yaQ (CX1 P w) P w K mg base N qual scope f cd A outer s₀ H₀ E) π σ H s)(hx:G7 s.heap h' e cls vs)(hE:E cls AD H):
  (yaQ (CX1 P w) P w K mg base N qual scope f cd A outer s₀ H₀ E).xe (.ref e) {s with heap:=h'}:=by
 have stk:s.heap.FunFrames base (envOfC qual scope s₀.heap.objs.size f cd::outer):=I.stack;have hst:∀b,b∈frs (envOfC qual scope s₀.heap.objs.size f cd::outer)->b=s₀.heap.objs.size \/ b∈frs outer:=λb hb=>by
  have hb':b∈s₀.heap.objs.size::frs outer:=hb;exact AL.mp hb'
 have inB:∀b o,s.heap.get? b=AA o->b∉frs (envOfC qual scope s₀.heap.objs.size f cd::outer)->(Ci s.heap (frs (envOfC qual scope s₀.heap.objs.size f cd::outer))).get? b=AA o:=λb o q n=>FG _ q n;have hB:(Ci s.heap (frs (envOfC qual scope s₀.heap.objs.size f cd::outer))).StaysIn s.heap:=λb o q=>FV _ q;have bse:Un (frs outer) [] H₀ H s₀.heap s.heap:=I.base;have lt:∀b o,s₀.heap.get? b=AA o->b≠s₀.heap.objs.size:=λb o q=>Ar (A4 q);have tr:∀b u,H b=AA u->∃o,(Ci s.heap (frs (envOfC qual scope s₀.heap.objs.size f cd::outer))).get? b=AA o:=λb u q=>by
  let⟨o,ho⟩:=yS.there (I.hok b u q);exact⟨o,inB b o ho λhb=>by
   have:=I.stkFree b hb;rw[q]at this
   cases this⟩
 refine wpAny_leaves_madeW (base:=Ci s.heap (frs (envOfC qual scope s₀.heap.objs.size f cd::outer))) (h:=s.heap) I.ok.frames rfl hB (PySem.W.funFrames_hide stk λenv he a ha=>D9.mpr ⟨env,he,ha⟩) hx λh'' t fl tu tn up=>?_;have up':s.heap.UpToSlots h'':=(Gm hx.keeps).trans up;refine⟨e,cls,_,H,_,rfl,I.os,I.bare,fl,HOk.inB I.hok hB fl.1 tr,⟨λb o q n hb _=>?_,λb o q n hb _=>?_,bse.free,λb o q _=>?_,bse.tups,bse.frzs,bse.tbls⟩,λb o q n hb=>?_,tr,λb o q hb=>?_,hE⟩
 .refine fl.1 b o (inB b o (bse.keep b o q n hb (by simp)) λz=>?_);rcases hst b z with z|z
  .exact lt b o q z
  .exact hb z
 .let⟨sl,q1⟩:=bse.slot b o q n hb (by simp);let⟨_,o',ho',hd⟩:=BR stk (show b∈Cy (λ(z:Env)=>z.frame) _ from AU _ hb);let⟨sl',q2⟩:=up' b _ q1 (by rw[ho']at q1;cases q1;exact hd);exact⟨sl',q2⟩
 .let⟨o',q1⟩:=bse.there b o q (by simp)
  by_cases hb:b∈frs (envOfC qual scope s₀.heap.objs.size f cd::outer)
  .let⟨_,o2,ho',hd⟩:=BR stk hb;let⟨sl',q2⟩:=up' b _ ho' hd;exact⟨_,q2⟩
  .exact⟨o',fl.1 b o' (inB b o' q1 hb)⟩
 .refine inB b o (bse.keep b o q n hb (by simp)) λz=>?_;rcases hst b z with z|z
  .exact lt b o q z
  .exact hb z
 .let⟨o',q1⟩:=bse.there b o q (by simp);refine⟨o',inB b o' q1 λz=>?_⟩;rcases hst b z with z|z
  .exact lt b o q z
  .exact hb z
def zox:ybw (CX1 P w) (yaQ (CX1 P w) P w K mg base N qual scope f cd A outer s₀ H₀ E) E:=by
 intro π σ H s e s' I h;let⟨a,cls,a0,H',B,rfl,os,bare,fl,hok,un,hB,tr,hT,hE⟩:=h;have bse:Un (frs outer) [] H₀ H s₀.heap s.heap:=I.base;have lt:∀b o,s₀.heap.get? b=AA o->b≠s₀.heap.objs.size:=λb o q=>Ar (A4 q);have hst:∀b,b∈frs (envOfC qual scope s₀.heap.objs.size f cd::outer)->b=s₀.heap.objs.size \/ b∈frs outer:=λb hb=>by
  have hb':b∈s₀.heap.objs.size::frs outer:=hb;exact AL.mp hb'
 have un':Un (frs (envOfC qual scope s₀.heap.objs.size f cd::outer)) [] H H' s.heap s'.heap:=un;have kB:∀b o,s₀.heap.get? b=AA o->H₀ b=AD->b∉frs outer->B.get? b=AA o:=λb o q n hb=>hB b o (bse.keep b o q n hb (by simp)) (bse.free b o q n (by simp)) λz=>by
  rcases hst b z with z|z
  .exact lt b o q z
  .exact hb z
 have kT:∀b o,s₀.heap.get? b=AA o->b∉frs outer->∃o',B.get? b=AA o':=λb o q hb=>by
  let⟨o',q1⟩:=bse.there b o q (by simp);refine hT b o' q1 λz=>?_;rcases hst b z with z|z
  .exact lt b o q z
  .exact hb z
 refine wpAny_leaves_onW I.ok.frames rfl fl λh'' fl' up=>?_;refine⟨a,cls,a0,H',B,rfl,os.trans I.os,bare,fl',HOk.inB hok fl.1 fl'.1 tr,⟨λb o q n hb _=>fl'.1 b o (kB b o q n hb),λb o q n hb _=>?_,λb o q n _=>?_,λb o q _=>?_,λb xs q=>un'.tups b xs (bse.tups b xs q),λb o u q=>un'.frzs b o u (bse.frzs b o u q),λb ps q=>?_⟩,kB,tr,kT,hE⟩
 .let⟨sl,q1⟩:=bse.slot b o q n hb (by simp);have n1:=bse.free b o q n (by simp);let⟨sl1,q2⟩:=un'.slot b _ q1 n1 (AU _ hb) (by simp);let⟨_,o',ho',hd⟩:=BR fl.2.2.1 (show b∈Cy (λ(z:Env)=>z.frame) _ from AU _ hb);let⟨sl',q3⟩:=up b _ q2 (by rw[ho']at q2;cases q2;exact hd);exact⟨sl',q3⟩
 .let⟨o',q1⟩:=bse.there b o q (by simp);exact un'.free b o' q1 (bse.free b o q n (by simp)) (by simp)
 .let⟨o',q1⟩:=bse.there b o q (by simp);let⟨o2,q2⟩:=un'.there b o' q1 (by simp)
  by_cases hb:b∈frs outer
  .let⟨_,o3,ho3,hd⟩:=BR fl.2.2.1 (show b∈Cy (λ(z:Env)=>z.frame) _ from AU _ hb);let⟨sl',q3⟩:=up b _ ho3 hd;exact⟨_,q3⟩
  .let⟨o4,q4⟩:=kT b o q hb;exact⟨o4,fl'.1 b o4 q4⟩
 .let⟨m1,e1⟩:=bse.tbls b ps q;let⟨m2,e2⟩:=un'.tbls b _ e1;exact⟨m1++m2,by rw[e2,D6]⟩
end
section
variable {X:Cx}{e:AT}{es:List AT}{te:TE}
end
section
variable {X:Cx}{e:AT}{es:List AT}{t:TA}{E:XK}
end
structure ybt(K:AF)(C:AJ):Prop where
 ga:Ai K (.ref C) "__getattribute__"=AA (AA (.builtin "BaseException.__getattribute__"))
 gh:Ai K (.ref C) "__getattr__"=AA AD
 cl:Ai K (.ref C) "__class__"=AA (AA (.builtin "object.__class__"))
 sb:Gf K (.ref C) (.type "BaseException")=AA AC
 mo:Gg K C (.type "object")=AA AC
 ct:∃cd,EB K C=AA cd
section
variable {pg:Aa}{wd:Am}{A:An}{E:AH->AK->Prop}{h:Aw}{g:Array GenState}{d:Drawn}{t:Nat}{os:OsState}{a C:AJ}{o:Bb}{K:AF}
def zeo{M:GZ}{nv:AH}{Q:Unit->AK->Prop}(X:K.In h)(Z:ybt K C)(hx:h.get? a=AA o)(hc:o.cls=.ref C)(hq:Q () ⟨h,g,d,t,os⟩):A5 M A (checkBuiltinCall "BaseException.__getattribute__" ⟨[.ref a,nv],[]⟩) Q E ⟨h,g,d,t,os⟩:=by
 have hk:builtinKind "BaseException.__getattribute__"=AA .slot:=by decide +kernel
 have hsp:splitId "BaseException.__getattribute__"=AA ("BaseException","__getattribute__"):=by decide +kernel
 have ha:=F.args_bexc_ga (.ref a) nv;have LS:=PySem.W.looks_subIn (M:=M) X Z.sb;erw[checkBuiltinCall,hk,hsp];refine AI ?_
 .unfold isInstance
  repeat (first|(with_reducible refine Dw hx ?_;rw[hc])|with_reducible refine LS.at ?_|wp_step)
  exact hq
def zfJ{tp:AH}{R:FW->AK->Prop}(X:K.In h)(Z:ybt K C)(hx:h.get? a=AA o)(hc:o.cls=.ref C)(hq:R (.ok (.ret (.ref C))) ⟨h,g,d,t,os⟩):
  codeAny (model pg wd) A (.call (.builtin "getset_descriptor.__get__") ⟨[.builtin "object.__class__",.ref a,tp],[]⟩) R ⟨h,g,d,t,os⟩:=by
 have L0:Gh (model pg wd) h (typeOf (.ref a)) (.ref C):=hc ▸ (EO hx).andThen .now;have L1:=PySem.W.looks_mroIn (M:=model pg wd) X Z.mo;refine Es F0.plain PySem.W.KF.entry_gs (F0.check _ _ _ _ _ _ _ _ PySem.W.KF.type_class (PySem.W.KF.args_gs _ _ _) ?_)
 (unfold FE.«getset_descriptor.__get__» F1);rw[PySem.W.dga_obj]
 refine AI (A0 ?_);(unfold FF EQ EV isInstance);erw[PySem.W.KF.owner_class];repeat lk
 refine⟨Code.quiet_builtin _ (by decide +kernel),codeAny_builtin PySem.W.KF.entry_class ?_⟩
 (unfold FE.«object.__class__» shownTypeOf);repeat lk
 exact hq
def zeb{tk:HC}{Q:Fin->AK->Prop}(X:K.In h)(Z:ybt K C)(hx:h.get? a=AA o)(hc:o.cls=.ref C)(hq:Q (.done (.ret (.ref C))) ⟨h,g,d,t,os⟩):
  A5 (model pg wd) A (FE.«object.__getattribute__» ⟨[.ref a,.str "__class__" tk],[]⟩) Q E ⟨h,g,d,t,os⟩:=by
 have hT5:(⟨h,g,d,t,os⟩:AK).TypeIs (.builtin "object.__class__") "getset_descriptor":=Ei;have f5:=Ei;have f6:=F.slot_gs_get.lookup;have f7:=F.slot_gs_set.lookup;have L3:=C5 (M:=model pg wd) X Z.cl
 repeat (any_goals (first|assumption|(with_reducible refine Dw hx ?_;rw[hc])|with_reducible refine L3.at ?_|wp_step))
 refine zfJ X Z hx hc ?_
 repeat (any_goals (first|assumption|wp_step))
def zfo{tk:HC}{R:FW->AK->Prop}{Bn:String}(ga:Slot Bn "__getattribute__" "BaseException.__getattribute__")(X:K.In h)(Z:ybt K C)(hx:h.get? a=AA o)(hc:o.cls=.ref C)(hq:R (.ok (.ret (.ref C))) ⟨h,g,d,t,os⟩):
  codeAny (model pg wd) A (.call (.builtin "BaseException.__getattribute__") ⟨[.ref a,.str "__class__" tk],[]⟩) R ⟨h,g,d,t,os⟩:=
 Es ga.plain F.entry_bexc_ga (zeo X Z hx hc (zeb X Z hx hc hq))
def ziX{tk:HC}{Q:AH->AK->Prop}{Bn:String}(ga:Slot Bn "__getattribute__" "BaseException.__getattribute__")(X:K.In h)(Z:ybt K C)(hx:h.get? a=AA o)(hc:o.cls=.ref C)(hq:Q (.ref C) ⟨h,g,d,t,os⟩):
  A5 (model pg wd) A (getAttrBy (.ref a) (.str "__class__" tk) AB) Q E ⟨h,g,d,t,os⟩:=by
 have f3:=ga.bind (.ref a);have hx2:(EC "BaseException.__getattribute__" == EC "object.__getattribute__")=false:=by decide +kernel
 have hx1:(onTheHeap (Al C)&&EC "BaseException.__getattribute__" == EC "object.__getattribute__")=false:=by rw[hx2];rfl
 have L1:=C5 (M:=model pg wd) X Z.ga;have L2:=C5 (M:=model pg wd) X Z.gh
 repeat (any_goals (first|assumption|(with_reducible refine Dw hx ?_;rw[hc])|with_reducible refine L1.at ?_|with_reducible refine L2.at ?_|wp_step))
 refine zfo ga X Z hx hc ?_
 repeat (any_goals (first|assumption|wp_step))
def zev{Q:Option AH->AK->Prop}{Bn:String}(ga:Slot Bn "__getattribute__" "BaseException.__getattribute__")(X:K.In h)(Z:ybt K C)(hx:h.get? a=AA o)(hc:o.cls=.ref C)(hq:Q (AA (.ref C)) ⟨h,g,d,t+1,os⟩):
  A5 (model pg wd) A (getAttr? (.ref a) "__class__") Q E ⟨h,g,d,t,os⟩:=by
 unfold getAttr? getAttrBy?
 repeat (any_goals (first|assumption|with_reducible apply ziX ga X Z hx hc|wp_step))
end
def ybN(a C:AJ):Aw->Prop:=λh=>∃o,h.get? a=AA o/\o.cls=.ref C
theorem ybN.keep{a C:AJ}{h1 h2:Aw}(x:ybN a C h1)(k:∀o,h1.get? a=AA o->h2.get? a=AA o):ybN a C h2:=by
 let⟨o,h,c⟩:=x;exact⟨o,k o h,c⟩
def zeP{K:AF}{a C:AJ}(Z:ybt K C){Bn:String}(ga:Slot Bn "__getattribute__" "BaseException.__getattribute__"):PySem.W.KitX K (.ref a) (.ref C) (ybN a C) where
 ty:=λM h X p=>by
  let⟨o,hx,hc⟩:=p;exact hc ▸ (EO hx).andThen .now
 it:=λM h X p=>by
  let⟨cd,hcd⟩:=Z.ct;unfold EB at hcd;split at hcd
  .rename_i c' d' cd' sl' ho;intro A' Q' E' s' k q;unfold isType loadHead;exact AI (wpAny_loadPart (k _ _ (X _ _ ho)) (A0 q))
  .cases hcd
 ne:=λh tp dd its n sl X htp=>by
  let⟨cd,hcd⟩:=Z.ct;refine Bool.eq_false_iff.mpr λq=>?_;have e:C=tp:=Gi (beq_iff_eq.mp q);subst e;unfold EB at hcd;split at hcd
  .rename_i c' d' cd' sl' ho;have z:=(X _ _ ho).symm.trans htp
   cases z
  .cases hcd
 ca:=λ{pg wd A E Q s} X p k=>by
  let⟨o,hx,hc⟩:=p;let⟨h,g,d,t,os⟩:=s;exact zev ga X Z hx hc k
section
variable {X:Cx}
end
section
variable {X:Cx}{π:List (AJ×Bb)}{σ:St}{H:Hp}{s:AK}
theorem Inv.track{a:AJ}{o:HO}(I:Inv X π σ H s)(hn:H a=AD)(h0:∀ob,X.s₀.heap.get? a≠AA ob)(hL:a≠X.env.locals)(hc:∀x c,X.env.cells.lookup x=AA c->c≠a)(hp:∀p∈X.pn++π,p.1≠a)
  (new:yS X.prog X.w (upd H a o) s.heap a o):Inv X π σ (upd H a o) s:=by
 refine⟨I.ok,I.os,I.bare,⟨I.base.keep,I.base.slot,λb u e n hx=>?_,I.base.there,λb xs e=>?_,λb u v e=>?_,λb ps e=>?_⟩,I.loc,I.cell,?_,λx c e=>?_,λp hq=>?_,λb u e=>?_,I.len⟩
 .rw[zk (λz:b=a=>h0 u (z ▸ e))];exact I.base.free b u e n hx
 .have q:=I.base.tups b xs e;rw[zk (zn q hn)];exact q
 .have q:=I.base.frzs b u v e;rw[zk (zn q hn)];exact q
 .let⟨m,q⟩:=I.base.tbls b ps e;refine⟨m,?_⟩;rw[zk (zn q hn)];exact q
 .rw[zk (BP hL)];exact I.free
 .rw[zk (hc x c e)];exact I.freeC x c e
 .let⟨q1,q2,q3⟩:=I.pin p hq;refine⟨q1,?_,q3⟩;rw[zk (hp p hq)];exact q2
 .by_cases hb:b=a
  .subst hb;rw[zl]at e
   cases e
   exact new
  .rw[zk hb]at e;exact(I.hok b u e).stay (λ_ _ _ q=>q) (λc q=>by rw[zk (zn q hn)];exact q) λc xs q=>by rw[zk (zn q hn)];exact q
theorem Inv.back{s1:AK}{h:Aw}{H':Hp}{B:Aw}{a:AJ}{cls a0:AH}{t':Nat}(I:Inv X π σ H s)(os:s1.os=s.os)(bare:Co s1.gens)(fl:E4 B X.stack a cls a0 s1.heap)(hok:HOk X.prog X.w H' s1.heap)(un:Un (frs X.stack) [] H H' s.heap s1.heap)
  (hB:∀b o,s.heap.get? b=AA o->H b=AD->b∉frs X.stack->B.get? b=AA o) (tr:∀b u,H' b=AA u->∃o,B.get? b=AA o) (hT:∀b o,s.heap.get? b=AA o->b∉frs X.stack->∃o',B.get? b=AA o') (st:B.StaysIn h) (up:s1.heap.UpToSlots h):
  Inv X π σ H' {s1 with heap:=h,toks:=t'}:=by
 refine I.call' (ch:=[]) (s':={s1 with heap:=h,toks:=t'}) os ⟨λb o q n hb _=>st b o (hB b o q n hb),λb o q n hb _=>?_,un.free,λb o q _=>?_,un.tups,un.frzs,un.tbls⟩ (HOk.inB hok fl.1 st tr) bare (λb z=>absurd z (by simp))
 .let⟨sl,q1⟩:=un.slot b o q n hb (by simp);let⟨_,o',ho',hd⟩:=BR fl.2.2.1 hb;let⟨sl',q2⟩:=up b _ q1 (by rw[ho']at q1;cases q1;exact hd);exact⟨sl',q2⟩
 .by_cases hb:b∈frs X.stack
  .let⟨_,o',ho',hd⟩:=BR fl.2.2.1 hb;let⟨sl',q2⟩:=up b _ ho' hd;exact⟨_,q2⟩
  .let⟨o',q1⟩:=hT b o q hb;exact⟨o',st b o' q1⟩
end
abbrev cxP(X:Cx)(pn:List (AJ×Bb)):Cx:={X with pn:=pn}
abbrev cxS(X:Cx)(pn:List (AJ×Bb))(a:AJ):Cx:={X with A:=X.A.mark (AA (.ref a)),calm:=AB,pn:=pn,xe:=No}
section
variable {X:Cx}{π:List (AJ×Bb)}{σ:St}{H:Hp}{s:AK}
theorem Cx.Ok.pn(ok:X.Ok)(pn:List (AJ×Bb)):(cxP X pn).Ok:=⟨ok.mod,ok.kind,ok.glob,ok.blt,ok.above,ok.inj,ok.has,ok.cab,ok.hd,ok.frames,ok.stk,ok.exf,ok.bs,ok.bsz,ok.noex,ok.exfs,ok.funs,ok.frf⟩
theorem Cx.Ok.suite(ok:X.Ok)(pn:List (AJ×Bb))(a:AJ):(cxS X pn a).Ok:=⟨ok.mod,ok.kind,ok.glob,ok.blt,ok.above,ok.inj,ok.has,ok.cab,(λz=>nomatch z),ok.frames,ok.stk,ok.exf,ok.bs,ok.bsz,ok.noex,ok.exfs,ok.funs,ok.frf⟩
theorem Inv.toP(I:Inv X π σ H s):Inv (cxP X (X.pn++π)) [] σ H s:=⟨I.ok.pn _,I.os,I.bare,I.base,I.loc,I.cell,I.free,I.freeC,λp hp=>I.pin p (by simpa using hp),I.hok,I.len⟩
theorem Inv.ofP(ok:X.Ok){pl:List (AJ×Bb)}(I:Inv (cxP X (X.pn++π)) pl σ H s):Inv X π σ H s:=⟨ok,I.os,I.bare,I.base,I.loc,I.cell,I.free,I.freeC,λp hp=>I.pin p (C4 _ hp),I.hok,I.len⟩
theorem Inv.toS(I:Inv (cxP X (X.pn++π)) [] σ H s)(a:AJ):Inv (cxS X (X.pn++π) a) [] σ H s:=⟨Cx.Ok.suite (X:=X) ⟨I.ok.mod,I.ok.kind,I.ok.glob,I.ok.blt,I.ok.above,I.ok.inj,I.ok.has,I.ok.cab,I.ok.hd,I.ok.frames,I.ok.stk,I.ok.exf,I.ok.bs,I.ok.bsz,I.ok.noex,I.ok.exfs,I.ok.funs,I.ok.frf⟩ _ a,I.os,I.bare,I.base,I.loc,I.cell,I.free,I.freeC,I.pin,I.hok,I.len⟩
theorem Inv.ofS(ok:X.Ok){a:AJ}{pl:List (AJ×Bb)}(I:Inv (cxS X (X.pn++π) a) pl σ H s):Inv X π σ H s:=⟨ok,I.os,I.bare,I.base,I.loc,I.cell,I.free,I.freeC,λp hp=>I.pin p (C4 _ hp),I.hok,I.len⟩
end
section
variable {X:Cx}{body suite:List Bc}{b₀:Bc}{x n:AO}{np hpos pos:Bo}{tb:XK->TS}{ts:TS}{W:AJ}{i:Nat}
end
structure yay(k:Nat)(A:An):Prop where
 dp:A.depth+3*k+5<recursionLimit
 un:A.units+16*k+200<cLine
theorem yax.h{k:Nat}{A:An}(r:yax k A):yay k A:=⟨r.dp,r.un⟩
theorem yay.mark{k:Nat}{A:An}{e:Option AH}(r:yay k A):yay k (A.mark e):=⟨r.dp,r.un⟩
theorem yay.deeper{k:Nat}{A:An}(r:yay (k+1) A)(env:Env):yay k (A.deeper env):=⟨by have:=r.dp;show A.depth+1+3*k+5<_;lia,by have:=r.un;show A.units+3+16*k+200<_;lia⟩
structure ybS(P:Aa)(w:Am)(K:AF)(mg:AO->Option AH)(base:Aw)(k:Nat)(f:AJ)(fd:Ax)(ps:List AO)(sp:Sp):Prop where
 len:∀vs H Q E,sp vs H Q E->vs.length=ps.length
 run:∀(A:An) (outer:List Env) (s:AK) (H:Hp) (args:Args) (us:List AH) (vs:List V) (Q:VK),yay k A->ycp P w K mg base A outer s H->EZ s fd args (ps.zip us)->Vals vs us->sp vs H Q E0 ->
  codeAny (model P w) A (.call (.ref f) args) (CR CX0 outer P w H s Q E0) s
abbrev ybE(P:Aa)(w:Am)(K:AF)(mg:AO->Option AH)(base:Aw)(N:List AO)(qual:AO)(scope:BQ)(f:AJ)(cd:AH)(A:An)(outer:List Env)(s:AK)(H:Hp):Cx:=
 {yaQ CX0 P w K mg base N qual scope f cd A outer s H E0 with calm:=AB,xe:=No}
theorem Inv.calmless{X:Cx}{π:List (AJ×Bb)}{σ:St}{H:Hp}{s:AK}(I:Inv X π σ H s)(A:An)(E:AH->AK->Prop)(hf:A.frames=X.A.frames):Inv {X with A:=A,calm:=AB,xe:=E} π σ H s:=
 ⟨⟨I.ok.mod,I.ok.kind,I.ok.glob,I.ok.blt,I.ok.above,I.ok.inj,I.ok.has,I.ok.cab,(λz=>nomatch z),hf.trans I.ok.frames,I.ok.stk,I.ok.exf,I.ok.bs,I.ok.bsz,I.ok.noex,I.ok.exfs,I.ok.funs,I.ok.frf⟩,I.os,I.bare,I.base,I.loc,I.cell,I.free,I.freeC,I.pin,I.hok,I.len⟩
section
variable {P:Aa}{w:Am}{K:AF}{mg:AO->Option AH}{base:Aw}
theorem Fun.okH{x qual:AO}{st:Bc}{f:AJ}{fd:Ax}{N ps:List AO}{k:Nat}{sp:Sp}(F:Fun K x qual st f fd)(S:yaI N ps (yu st))(len:∀vs H Q E,sp vs H Q E->vs.length=ps.length)
  (hbody:∀(cdv:AH) (A:An) (outer:List Env) (s:AK) (H:Hp) (vs:List V) (Q:VK),yay k (A.deeper (envOfC qual (yu st) s.heap.objs.size f cdv))->sp vs H Q E0 ->
   ∃t,PSs (ybE P w K mg base N qual (yu st) f cdv A outer s H) (yR st) t/\t {nx:=λ_ H'=>Q .non H',rt:=Q} (start N vs) H):ybS P w K mg base (k+1) f fd ps sp:=by
 let⟨oc,od,kV,doc,pm,an,cdv,ct,osl,rfl,lk,hcd⟩:=F.ex;refine⟨len,λA outer s H args us vs Q hr e0 hb r hsp=>?_⟩;have hl:=len _ _ _ _ hsp;have KX:K.In s.heap:=e0.mod.kin.keeps λb o e=>(e0.bs b o e).1;have lim:s.heap.NoLimit:=e0.mod.nolimit.keeps λb o e=>(e0.bs b o e).1;have hkind:∀y∈ps.zip us,(yu st).names.lookup y.1=AA .local \/ ((yu st).names.lookup y.1=AA .cell/\((cellsFrom (s.heap.objs.size+1) (yu st).names []).lookup y.1).isSome=AC):=λ⟨n,v⟩ hy=>by
  rcases S.par n (DU hy).1 with q|q
  .exact .inl q
  .exact .inr ⟨q,Cr _ _ _ (.inl q)⟩
 refine Ee (by have:=hr.dp;lia) (KX _ _ lk) rfl S.co S.gen rfl (FX KX hcd) (hb _ _ _ _ ?_);refine De S.kind hkind λenv he s1 x=>?_;subst he;refine⟨lim.keeps x.toInCall.keep,codeAny_func ?_⟩;let⟨t,ht,hq⟩:=hbody cdv A outer s H vs Q (hr.deeper _) hsp;have e0':ycp P w K mg base {A with handled:=AD} outer s H:=⟨e0.frames,e0.mod,e0.bs,e0.bsz,e0.funs,e0.frf,e0.hok,e0.bare⟩;have I0:Inv (yaQ CX0 P w K mg base N qual (yu st) f cdv {A with handled:=AD} outer s H E0) [] (start N vs) H s1:=zdO S rfl e0' hl r x;have I:Inv (ybE P w K mg base N qual (yu st) f cdv A outer s H) [] (start N vs) H s1:=I0.calmless (A.deeper (envOfC qual (yu st) s.heap.objs.size f cdv)) No rfl;refine Be (ht [] s1 (start N vs) H _ I hq) (λfl s' hs=>?_) λe s' z=>z.elim;have fin:∀{σ':St} {H':Hp} {v:V} {u:AH},Inv (ybE P w K mg base N qual (yu st) f cdv A outer s H) [] σ' H' s'->RelV v u->Q v H'->CE outer P w H s Q u s':=
  λ{σ' H' v u} J rv q=>⟨v,H',J.os,J.bare,J.base,J.hok,rv,q⟩
 cases fl with
 |ret u=>
  let⟨v,σ',H',J,rv,q⟩:=hs;exact fin J rv q
 |next=>
  let⟨σ',H',J,q⟩:=hs;exact fin (v:=V.non) (u:=Bl) J rfl q
 |brk=>
  let⟨_,_,_,q⟩:=hs;exact BW q
 |cont=>
  let⟨_,_,_,q⟩:=hs;exact BW q
end
section
variable {X:Cx}{k:Nat}{f:AJ}{fd:Ax}{ps:List AO}{sp:Sp}{x:AO}{p pos:Bo}{e:AT}{es:List AT}{t:TA}
end
section
variable {P:Aa}{w:Am}{K:AF}{mg:AO->Option AH}{base:Aw}
theorem own1{N:List AO}{qual:AO}{scope:BQ}{f:AJ}{cd:AH}{A:An}{outer:List Env}{s:AK}{H:Hp}{E:XK}{CX:CXT}:
  EK (model (yaQ CX P w K mg base N qual scope f cd A outer s H E).prog (yaQ CX P w K mg base N qual scope f cd A outer s H E).w) (yaQ CX P w K mg base N qual scope f cd A outer s H E).A (yaQ CX P w K mg base N qual scope f cd A outer s H E).env (yaQ CX P w K mg base N qual scope f cd A outer s H E).xe:=
 PassesOwn.leaving
def zoy{x:AO}{C:AJ}{ts:List AH}{nid:String}{h:Aw}(X:K.In h)(b:mg x=AA (.ref C))(q:DL K C ts nid=AC):OwnCls x C ts nid mg h:=by
 constructor
 .exact b
 .revert q
  unfold DL
  cases hl:K.lookup C with
  |none=>intro q;cases q
  |some o=>
   intro q;split at q
   .rename_i dd cd sl ho;split at q
    .rename_i C' bm k0 k1 k2 k3 n k5 hm hs;erw[AG,beq_iff_eq,Bk]at q;rcases q with⟨⟨⟨⟨⟨r1,r2⟩,r3⟩,r4⟩,r5⟩,r6⟩;subst r1 r2;rcases cd with⟨nm,bs,mro,ns,qn,hd,sn,sub,ab,col,del⟩;dsimp only at hm r3 r5 r6;subst hm r3;rcases sl with⟨l⟩;simp only at hs;subst hs
     cases ho
     exact⟨bm,ns,nm,qn,bs,hd,sn,sub,ab,col,_,k0,k1,k2,k3,k5,_,X _ _ hl,.of_isNs (PySem.W.isNs_of_in X r5),PySem.W.nsMap_none_of_in X r5 r6,PySem.W.tail_of_in X r4⟩
    .cases q
   .cases q
end
section
variable {X:Cx}
end
section
variable {X:Cx}
def ygN(K:AF):List V->Hp->VK->Prop:=λxs H Q=>∃(l:AJ) (ns:List Int),xs=[.ref l]/\SqL K H l (ns.map V.int)/\0<ns.length/\∀M,M∈ns->(∀a,a∈ns->a<=M)->Q (.int M) H
def zf7(hc:X.calm=AC):yag X (.builtin "max") (ygN X.K):=by
 intro π s σ H xs us Q I r h;let⟨l,ns,rfl,hq,hne,q⟩:=h;let⟨u,rfl,ru⟩:=Vals.one r
 cases (show u=Al l from ru)
 let⟨its,rv,pl,hz⟩:=I.list hq;have hi:FD its ns:=zfr rv;let⟨ys,e⟩:=hi.allInts.items;have hns:ns=ys.toList.map (·.1):=by rw[<-hi.numsOf,<-nums_intItems,<-e]
 have hsz:0<ys.size:=by
  rw[hns,Af,Bq]at hne;exact hne
 have hl:=pl.isList;rw[e]at hl;refine max_intList (I.ok.hd hc) hl hsz λv h' tk hv hk=>?_;let⟨t,rfl⟩:=intItems_at hv;let⟨h1,h2⟩:=argBest_gt (numAt ys) (ys.size-1);refine⟨.int _,H,I.kept (t':=tk) hk,⟨t,rfl⟩,q _ ?_ λa ha=>?_⟩
 .rw[hns,numAt_eq];exact getD_mem (by rw[Af,Bq];lia)
 .rw[hns]at ha;let⟨j,hj,rfl⟩:=mem_getD ha;rw[Af,Bq]at hj;rw[<-numAt_eq];exact h2 j ∅
end
section
variable {κ:Type}[DecidableEq κ]
def ybx(kvs:List (κ×V))(k:κ):Option V:=(kvs.find? λkv=>decide (kv.1=k)).map (·.2)
def putK(kvs:List (κ×V))(k:κ)(v:V):List (κ×V):=
 if (kvs.any λkv=>decide (kv.1=k))=AC then kvs.map (λkv=>if kv.1=k then(kv.1,v)else kv)else kvs++[(k,v)]
def zbx{p:κ×V}{r:List (κ×V)}{k:κ}(e:p.1=k):ybx (p::r) k=AA p.2:=by simp[ybx,Bp,e]
def zbs{p:κ×V}{r:List (κ×V)}{k:κ}(e:¬p.1=k):ybx (p::r) k=ybx r k:=by simp[ybx,Bp,e]
def ze8(k:κ):∀kvs:List (κ×V),(kvs.any λkv=>decide (kv.1=k))=(ybx kvs k).isSome
 |[]=>rfl
 |p::r=>by
  rw[B8]
  by_cases e:p.1=k
  .simp only[zbx e,decide_eq_true e,E5,Option.isSome_some]
  .rw[zbs e,decide_eq_false e,ED];exact ze8 k r
def zbb(kvs:List (κ×V))(k:κ)(v:V):(putK kvs k v).length<=kvs.length+1:=by
 unfold putK;split
 .rw[Af];lia
 .rw[AM,AW,Av];lia
theorem ybj.isSome_eq{o:Option V}{u:Option AH}(r:ybj o u):o.isSome=u.isSome:=by
 cases o with
 |none=>cases u with
  |none=>rfl
  |some _=>exact(show False from r).elim
 |some _=>cases u with
  |none=>exact(show False from r).elim
  |some _=>rfl
theorem ybj.getD{o:Option V}{u:Option AH}{d:V}{d':AH}(r:ybj o u)(rd:RelV d d'):RelV (o.getD d) (u.getD d'):=by
 cases o with
 |none=>cases u with
  |none=>exact rd
  |some _=>exact(show False from r).elim
 |some _=>cases u with
  |none=>exact(show False from r).elim
  |some _=>exact r
theorem KV.val{kvs:List (κ×V)}{vs:List (κ×AH)}(r:KV kvs vs)(k:κ):ybj (ybx kvs k) (valueAt vs k):=by
 unfold KV at r
 induction r with
 |nil=>exact Bw
 |@cons p q ps qs h t ih=>
  let⟨h1,h2⟩:=h
  by_cases e:p.1=k
  .have e':q.1=k:=h1.symm.trans e;have b:valueAt (q::qs) k=AA q.2:=by simp[valueAt,Bp,e']
   rw[zbx e,b];exact h2
  .have e':¬q.1=k:=λz=>e (h1.trans z);have b:valueAt (q::qs) k=valueAt qs k:=by simp[valueAt,Bp,e']
   rw[zbs e,b];exact ih
theorem KV.any{kvs:List (κ×V)}{vs:List (κ×AH)}(r:KV kvs vs)(k:κ):(kvs.any λkv=>decide (kv.1=k))=vs.any λkv=>decide (kv.1=k):=by
 unfold KV at r
 induction r with
 |nil=>rfl
 |cons h t ih=>rw[B8,B8,ih,h.1]
theorem KV.repl{kvs:List (κ×V)}{vs:List (κ×AH)}(r:KV kvs vs)(k:κ){y:V}{u:AH}(ry:RelV y u):
  KV (kvs.map λkv=>if kv.1=k then(kv.1,y)else kv) (vs.map λkv=>if kv.1=k then(kv.1,u)else kv):=by
 unfold KV at r ⊢
 induction r with
 |nil=>exact .nil
 |@cons p q ps qs h t ih=>
  rw[AX,AX];refine .cons ?_ ih;let⟨h1,h2⟩:=h
  by_cases e:p.1=k
  .rw[if_pos e,if_pos (h1.symm.trans e)];exact⟨h1,ry⟩
  .rw[if_neg e,if_neg (λz=>e (h1.trans z))];exact⟨h1,h2⟩
theorem KV.put{kvs:List (κ×V)}{vs:List (κ×AH)}(r:KV kvs vs)(k:κ){y:V}{u:AH}(ry:RelV y u):KV (putK kvs k y) (stored vs k u):=by
 unfold putK stored;rw[r.any k]
 by_cases e:(vs.any λkv=>decide (kv.1=k))=AC
 .rw[if_pos e,if_pos e];exact r.repl k ry
 .rw[if_neg e,if_neg e];exact HA r ⟨rfl,ry⟩
theorem KV.length{kvs:List (κ×V)}{vs:List (κ×AH)}(r:KV kvs vs):kvs.length=vs.length:=Dz r
end
def ziD{P:Aa}{w:Am}{k:Key}{u:AH}(r:RelV (kV k) u):(yO P w).is k u=true:=by
 cases k with
 |inl i=>let⟨t,e⟩:=(show ∃t,u=EJ i t from r);subst e;exact zeh P w i t
 |inr x=>let⟨t,e⟩:=(show ∃t,u=Fv x t from r);subst e;exact zeq P w x t
def zdZ{P:Aa}{w:Am}:∀{ks:List Key} {us:List AH},Vals (ks.map kV) us->ItemsAre (yO P w) ks us
 |[],_,r=>by rw[BM]at r;cases r;exact .nil
 |k::ks,_,r=>by
  rw[AX]at r
  cases r with
  |cons h t=>exact .cons (ziD h) (zdZ t)
abbrev KT(H:Hp):List (List Key×V)->List (List Key×AJ×AH)->Prop:=Fw λp q=>p.1=q.1/\H q.2.1=AA (.tup (p.1.map kV))/\RelV p.2 q.2.2
theorem KT.val{H:Hp}{kvs:List (List Key×V)}{xs:List (List Key×AJ×AH)}(r:KT H kvs xs)(k:List Key):ybj (ybx kvs k) ((atKey xs k).map (·.2)):=by
 induction r with
 |nil=>exact Bw
 |@cons p q ps qs h t ih=>
  let⟨h1,_,h2⟩:=h
  by_cases e:p.1=k
  .have e':q.1=k:=h1.symm.trans e;have b:atKey (q::qs) k=AA q.2:=by simp[atKey,Bp,e']
   rw[zbx e,b];exact h2
  .have e':¬q.1=k:=λz=>e (h1.trans z);have b:atKey (q::qs) k=atKey qs k:=by simp[atKey,Bp,e']
   rw[zbs e,b];exact ih
theorem KT.repl{H:Hp}{kvs:List (List Key×V)}{xs:List (List Key×AJ×AH)}(r:KT H kvs xs)(k:List Key){y:V}{u:AH}(ry:RelV y u):
  KT H (kvs.map λkv=>if kv.1=k then(kv.1,y)else kv) (xs.map (putAt k u)):=by
 induction r with
 |nil=>exact .nil
 |@cons p q ps qs h t ih=>
  rw[AX,AX];refine .cons ?_ ih;let⟨h1,h2,h3⟩:=h;unfold putAt
  by_cases e:p.1=k
  .rw[if_pos e,if_pos (h1.symm.trans e)];exact⟨h1,h2,ry⟩
  .rw[if_neg e,if_neg (λz=>e (h1.trans z))];exact⟨h1,h2,h3⟩
theorem KT.put{H:Hp}{kvs:List (List Key×V)}{xs:List (List Key×AJ×AH)}(r:KT H kvs xs)(k:List Key){b:AJ}{y:V}{u:AH}(hb:H b=AA (.tup (k.map kV)))(ry:RelV y u):
  KT H (putK kvs k y) (storedH xs k b u):=by
 have e:(kvs.any λkv=>decide (kv.1=k))=(atKey xs k).isSome:=by
  rw[ze8,(r.val k).isSome_eq,Option.isSome_map]
 unfold putK storedH;rw[e]
 by_cases q:(atKey xs k).isSome=AC
 .rw[if_pos q,if_pos q];exact r.repl k ry
 .rw[if_neg q,if_neg q];exact HA r ⟨rfl,hb,ry⟩
theorem KT.keeps{H H':Hp}{kvs:List (List Key×V)}{xs:List (List Key×AJ×AH)}(r:KT H kvs xs)(ht:∀b ys,H b=AA (.tup ys)->H' b=AA (.tup ys)):KT H' kvs xs:=
 Paired.mapP r λ_ _ z=>⟨z.1,ht _ _ z.2.1,z.2.2⟩
section
variable {P:Aa}{w:Am}{H:Hp}{h:Aw}{a:AJ}
def znl{u:HO}(ok:HOk P w H h)(e:Rd H a u):yS P w H h a u:=e.ok ok
def zkp{kvs:List (Key×V)}(ok:HOk P w H h)(e:Rd H a (.dK kvs)):kvs.length<=sizeLine/\(a==sysModules)=AB/\∃vs,KV kvs vs/\h.DictOf (yO P w) a vs:=
 show yS P w H h a (.dK kvs)from znl ok e
def zlj{kvs:List (Key×V)}(ok:HOk P w H h)(e:H a=AA (.dK kvs)):kvs.length<=sizeLine/\(a==sysModules)=AB/\∃vs,KV kvs vs/\h.DictOf (yO P w) a vs:=zkp ok (.inl e)
def zgq{ks:List Key}(ok:HOk P w H h)(e:H a=AA (.tup (ks.map kV))):(tupleKind (yO P w)).is h ks a:=by
 let⟨_,its,r,o,h1,h2,n,h3⟩:=(show yS P w H h a (.tup (ks.map kV))from ok a _ e);exact⟨o,its.toArray,n,h1,h2,h3,by simpa using zdZ r⟩
def zkj{kvs:List (List Key×V)}(ok:HOk P w H h)(e:Rd H a (.dT kvs)):kvs.length<=sizeLine/\(a==sysModules)=AB /\
  ∃xs,KT H kvs xs/\h.DictOfH (tupleKind (yO P w)) a xs:=by
 let⟨z,y,xs,r,o,es,ep,h1,h2,h3,h4,h5⟩:=(show yS P w H h a (.dT kvs)from znl ok e);refine⟨z,y,xs,r,o,es,ep,h1,h2,h3,h4,λx hx=>?_,h5⟩;have all:∀{l:List (List Key×V)} {m:List (List Key×AJ×AH)},KT H l m->∀x∈m,(tupleKind (yO P w)).is h x.1 x.2.1:=by
  intro l m q
  induction q with
  |nil=>intro x hx;exact nomatch hx
  |@cons p q ps qs hq t ih=>
   intro x hx;rcases AL.mp hx with e|hx
   .subst e;exact zgq ok (by rw[<-hq.1];exact hq.2.1)
   .exact ih x hx
 exact all r x hx
def zny{kvs:List (List Key×V)}(ok:HOk P w H h)(e:H a=AA (.dT kvs)):kvs.length<=sizeLine/\(a==sysModules)=AB /\
  ∃xs,KT H kvs xs/\h.DictOfH (tupleKind (yO P w)) a xs:=zkj ok (.inl e)
end
def yfu(H:Hp)(a:AJ)(y:V)(r:Option V):Prop:=
 (∃kvs k,Rd H a (.dK kvs)/\y=kV k/\r=ybx kvs k) \/ ∃kvs k b,Rd H a (.dT kvs)/\y=.ref b/\H b=AA (.tup (k.map kV))/\r=ybx kvs k
def yfz(H:Hp)(a:AJ)(y v:V)(H':Hp):Prop:=
 (∃kvs k,H a=AA (.dK kvs)/\y=kV k/\kvs.length<sizeLine/\H'=upd H a (.dK (putK kvs k v))) \/
 ∃kvs k b,H a=AA (.dT kvs)/\y=.ref b/\H b=AA (.tup (k.map kV))/\kvs.length<sizeLine/\H'=upd H a (.dT (putK kvs k v))
section
variable {X:Cx}{π:List (AJ×Bb)}{σ:St}{H:Hp}{s:AK}{a:AJ}{y v:V}{u r:AH}{o:Option V}{A:An}{E:AH->AK->Prop}
theorem Inv.big(I:Inv X π σ H s):sysModules<s.heap.objs.size:=by
 have h:mainGlobals<s.heap.objs.size:=(I.mod.glob.keeps I.bk).lt;exact Nat.lt_trans ⋯ h
def zeu{h':Aw}{t':Nat}{ob:HO}(I:Inv X π σ H s)(mu:Mut (H a))(hs:CU a s.heap h')(he:∃q,h'.get? a=AA q)(new:yS X.prog X.w (upd H a ob) h' a ob):
  Inv X π σ (upd H a ob) {s with heap:=h',toks:=t'}:=
 I.write (x:=a) (e:=a) mu (.inl rfl) (λb q hb z=>(hs.2 b hb).trans z) he new
def zjm{P:Aa}{w:Am}{H':Hp}{h':Aw}{kvs:List (Key×V)}{vs:List (Key×AH)}(z:kvs.length<=sizeLine)(hd:(a==sysModules)=AB)(rel:KV kvs vs)(dd:h'.DictOf (yO P w) a vs):
  yS P w H' h' a (.dK kvs):=⟨z,hd,vs,rel,dd⟩
def zfH{H':Hp}{Q:Unit->AK->Prop}(hu:A.units+1<cLine)(I:Inv X π σ H s)(g:yfz H a y v H')(ry:RelV y u)(rv:RelV v r)(h:∀s',Inv X π σ H' s'->Q () s'):
  A5 (model X.prog X.w) A (setItem (.ref a) u r) Q E s:=by
 rcases g with⟨kvs,k,e,ey,l,eH⟩|⟨kvs,k,b,e,ey,eb,l,eH⟩
 .subst ey eH;let⟨z,hd,vs,rel,dd⟩:=zlj I.hok e;have hz:vs.length<=sizeLine:=by rw[<-rel.length];exact z
  have hl:(putK kvs k v).length<=sizeLine:=by have:=zbb kvs k v;lia
  refine wpAny_setItem_pairs (hsz:=hz) (ziD ry) dd λh' dd' hs=>h _ ?_;have he:∃q,h'.get? a=AA q:=let ⟨q,_,_,hq,_⟩:=dd';⟨q,hq⟩
  exact zeu I (by rw[e];exact Bw) hs he (zjm hl hd (rel.put k rv) dd')
 .subst ey eH
  cases (show u=Al b from ry)
  let⟨z,hd,xs,rel,dd⟩:=zny I.hok e;have hz:xs.length<=sizeLine:=by rw[<-Dz rel];exact z
  have hl:(putK kvs k v).length<=sizeLine:=by have:=zbb kvs k v;lia
  refine wpAny_setItem_heap (hsz:=hz) (F2 hu) (zgq I.hok eb) dd λh' dd' hs=>h _ ?_;let⟨q,es,ep,hq,h2,h3,h4,_,h5⟩:=dd';refine zeu I (by rw[e];exact Bw) hs ⟨q,hq⟩ ⟨hl,hd,_,(rel.put k eb rv).keeps λc ys ec=>?_,q,es,ep,hq,h2,h3,h4,h5⟩;rw[zk (znZ ec e (λz=>nomatch z))];exact ec
end
section
variable {X:Cx}{π:List (AJ×Bb)}{σ:St}{H:Hp}{s:AK}{a:AJ}{kvs:List (Key×V)}{k:Key}{u:AH}{A:An}{E:AH->AK->Prop}
end
def yed(i:AT):Prop:=∀ov iv,subscripted i AB ov iv=operate [ov,iv] (getItem ov iv)
def zkL{prog:Aa}{w:Am}{A:An}{E:AH->AK->Prop}{s:AK}{env:Env}{value slice:AT}{pos:Bo}{T id:String}{Q:AH->AK->Prop}
  (hl:typeLookup (.type T) "__getitem__"=pure (AA (.builtin id))) (hs:yed slice)
  (h:A5 (model prog w) A (eval value env) (λo s₁=>A5 (model prog w) A (eval slice env) (λi s₂=>s₂.TypeIs o T/\A5 (model prog w) A (getItem o i) Q E s₂) E s₁) E s):
  A5 (model prog w) A (eval (.Subscript value slice pos) env) Q E s:=by
 refine G2 (Be h (λo s₁ h₁=>Be h₁ (λi s₂ h₂=>?_) λ_ _ x=>x) λ_ _ x=>x);let⟨hT,h₂⟩:=h₂;unfold subscriptTail;refine AI ?_;rw[getitemInPython_of_ne hT.not_modules];refine AI (wpAny_specialOf hT hl ?_);have fin:A5 (model prog w) A (subscripted slice AB o i) (λr s₃=>A5 (model prog w) A (letTemporaryGo value o r >>= λ_=>pure r) Q E s₃) E s₂:=by
  rw[hs o i];exact wpAny_operating (Be h₂ (λr s₃ h₃=>AI (wpAny_letTemporaryGo (A0 h₃))) λ_ _ x=>x)
 first
  |exact A0 (AI fin)
  |exact AI (A0 (AI fin))
  |exact AI fin
def ye4(td ty tv:TE):TS:=λD σ H=>tv σ H λv H1=>td σ H1 λx H2=>ty σ H2 λy H3=>∃a H4,x=.ref a/\yfz H3 a y v H4/\D.nx σ H4
section
variable {X:Cx}{o i e value:AT}{pos pos' tpos:Bo}{td ty tv:TE}
def zkq(hu:X.A.units+1<cLine)(ho:PE X o td)(hi:PE X i ty)(hv:PE X value tv)(hs:swapsWith value (AA (.Subscript o i pos')) pos.line X.env=pure AB):
  PS X (.Assign [.Subscript o i pos'] value pos) (ye4 td ty tv):=by
 intro π s σ H D I h;refine wpAny_Assign_Subscript (thn (hv π s σ H _ I h) λr s1 kq=>?_) hs;let⟨v,H1,I1,rv,q1⟩:=kq;refine thn (ho π s1 σ H1 _ I1 q1) λu s2 kq=>?_;let⟨x,H2,I2,rx,q2⟩:=kq;refine thn (hi π s2 σ H2 _ I2 q2) λiv s3 kq=>?_;let⟨y,H3,I3,ry,a,H4,ex,g,q3⟩:=kq;subst ex;obtain rfl:u=Al a:=rx;exact zfH hu I3 g ry rv λs4 I4=>⟨σ,H4,I4,q3⟩
end
def ziT{P:Aa}{w:Am}{H:Hp}(h:Aw)(hb:sysModules<h.objs.size):yS P w H (h.push {cls:=.type "dict",data:=.dict #[]}) h.objs.size (.dK []):=
 ⟨Ab _,beq_eq_false_iff_ne.mpr (BP (Ar hb)),[],.nil,Heap.DictOf.new h⟩
section
variable {X:Cx}{pos:Bo}
end
def ybu:List (TE×TE)->St->Hp->(List (V×V)->Hp->Prop)->Prop
 |[],_,H,Q=>Q [] H
 |(tk,tv)::r,σ,H,Q=>tk σ H λx H1=>tv σ H1 λy H2=>ybu r σ H2 λps H3=>Q ((x,y)::ps) H3
abbrev VV:List (V×V)->List (AH×AH)->Prop:=Fw λp q=>RelV p.1 q.1/\RelV p.2 q.2
def PPs(X:Cx)(pos:Bo)(keys:List (Option AT))(values:List AT)(trs:List (TE×TE)):Prop:=
 ∀(π:List (AJ×Bb)) (s:AK) (σ:St) (H:Hp) (Q:List (V×V)->Hp->Prop),Inv X π σ H s->ybu trs σ H Q ->
  A5 (model X.prog X.w) X.A (evalPairs (pairTrees keys values X.env pos)) (λvs s'=>∃ps H',Inv X π σ H' s'/\VV ps vs/\Q ps H') X.xe s
def zkC{X:Cx}{pos:Bo}:PPs X pos [] [] []:=λπ s σ H Q I h=>pairTrees_nil_walk ⟨[],H,I,.nil,h⟩
def zig{X:Cx}{pos:Bo}{k v:AT}{ks:List (Option AT)}{vs:List AT}{tk tv:TE}{trs:List (TE×TE)}(hk:PE X k tk)(hv:PE X v tv)(hr:PPs X pos ks vs trs):
  PPs X pos (AA k::ks) (v::vs) ((tk,tv)::trs):=λπ s σ H Q I h=>
 pairTrees_cons_walk (thn (hk π s σ H _ I h) λu s1 ⟨x,H1,I1,rx,q1⟩=>thn (hv π s1 σ H1 _ I1 q1) λw2 s2 ⟨y,H2,I2,ry,q2⟩=>
  thn (hr π s2 σ H2 _ I2 q2) λws s3 ⟨ps,H3,I3,rel,q3⟩=>⟨(x,y)::ps,H3,I3,.cons ⟨rx,ry⟩ rel,q3⟩)
def yaX(kvs more:List (Key×V)):List (Key×V):=more.foldl (λacc kv=>putK acc kv.1 kv.2) kvs
theorem KV.merge:∀{more:List (Key×V)} {rs:List (Key×AH)} {kvs:List (Key×V)} {vs:List (Key×AH)},KV more rs->KV kvs vs->KV (yaX kvs more) (merged vs rs):=by
 intro more rs kvs vs r;unfold KV at r
 induction r generalizing kvs vs with
 |nil=>intro q;exact q
 |@cons p q ps qs h t ih=>
  intro r0;have e:KV (putK kvs p.1 p.2) (stored vs q.1 q.2):=by
   have:=r0.put p.1 h.2;rw[<-h.1];exact this
  exact ih e
def zbn:∀(more kvs:List (Key×V)),(yaX kvs more).length<=kvs.length+more.length
 |[],kvs=>by show kvs.length<=kvs.length+0;lia
 |p::r,kvs=>by
  have h1:=zbn r (putK kvs p.1 p.2);have h2:=zbb kvs p.1 p.2;show (yaX (putK kvs p.1 p.2) r).length<=_;rw[AW];lia
def zcV{P:Aa}{w:Am}:∀{kvs:List (Key×V)} {ws:List (AH×AH)},VV (kvs.map λkv=>(kV kv.1,kv.2)) ws->∃rs,Carries (yO P w) ws rs/\KV kvs rs
 |[],_,r=>by rw[BM]at r;cases r;exact⟨[],Bw,.nil⟩
 |p::kvs,_,r=>by
  rw[AX]at r
  cases r with
  |@cons a b as bs h t=>
   let⟨rs,c,q⟩:=zcV (P:=P) (w:=w) t;let⟨b1,b2⟩:=b;exact⟨(p.1,b2)::rs,⟨ziD h.1,rfl,c⟩,.cons ⟨rfl,h.2⟩ q⟩
def yez(trs:List (TE×TE)):TE:=λσ H Q=>∀p,H p=AD->ybu trs σ (upd H p (.dK [])) λps H2=>H2 p=AA (.dK [])/\∃kvs:List (Key×V),ps=kvs.map (λkv=>(kV kv.1,kv.2))/\kvs.length<=15/\Q (.ref p) (upd H2 p (.dK (yaX [] kvs)))
def zjY{X:Cx}{pos:Bo}{keys:List (Option AT)}{values:List AT}{trs:List (TE×TE)}(h:PPs X pos keys values trs)(hall:keys.all (·.isSome)=AC)(hl:keys.length=values.length)(h0:keys≠[])
  (h15:keys.length<=15):PE X (.Dict keys values pos) (yez trs):=by
 intro π s σ H Q I q;have hn:=I.hok.fresh (AS s.heap.objs.size);have I1:=I.laid (a:=s.heap.objs.size) (o:=.dK []) (h':=s.heap.push {cls:=.type "dict",data:=.dict #[]}) (t':=s.toks) (λ_ _ q=>AV _ q) (AS _) (ziT s.heap I.big);refine wpAny_Dict_walk (knd:=yO X.prog X.w) hall hl h0 h15 (thn (h π _ σ _ _ I1 (q _ hn)) λws s2 kq=>?_);let⟨ps,H2,I2,rel,e,kvs,ep,lk,q2⟩:=kq;subst ep;let⟨rs,c,rk⟩:=zcV (P:=X.prog) (w:=X.w) rel;let⟨z,hd,vs0,r0,dd⟩:=zlj I2.hok e
 cases r0
 refine⟨rs,c,dd,λh' dd' hs=>⟨.ref s.heap.objs.size,_,?_,rfl,q2⟩⟩;have hz:(yaX [] kvs).length<=sizeLine:=by
  have h1:=zbn kvs [];rw[Av]at h1;rw[CS];lia
 have he:∃q,h'.get? s.heap.objs.size=AA q:=let ⟨q,_,_,hq,_⟩:=dd';⟨q,hq⟩
 exact zeu I2 (by rw[e];exact Bw) hs he (zjm hz hd (rk.merge .nil) dd')
structure M2(X:Cx)(o:AT)(m:AO)(apos:Bo)(e f:AT)(cpos:Bo):Prop where
 base:attributeBase o m X.env (eval o X.env)=eval o X.env
 few:((backTo cpos (starEach [e,f] X.env)).all (λx=>!x.1)&&(backToKw cpos (keywordEach [] X.env)).all (λx=>x.1.isSome)
  && decide (([e,f]:List AT).length+([]:List B7).length+(if ([]:List B7).isEmpty then 0 else 1)<30))=AC
 line:(apos.endLine==cpos.line)=AC
 trees:backTo cpos (starEach [e,f] X.env)=[(AB,eval e X.env),(AB,eval f X.env)]
def IsD(H:Hp)(a:AJ):Prop:=(∃kvs,Rd H a (.dK kvs)) \/ ∃kvs,Rd H a (.dT kvs)
def zml{X:Cx}{π:List (AJ×Bb)}{σ:St}{H:Hp}{s:AK}{a:AJ}(I:Inv X π σ H s)(d:IsD H a):
  s.TypeIs (.ref a) "dict"/\(∀b,Al a=.ref b->∃ob,s.heap.get? b=AA ob/\ob.dict=AD)/\(a==sysModules)=false:=by
 rcases d with⟨kvs,e⟩|⟨kvs,e⟩
 .let⟨_,hd,vs,_,dd⟩:=zkp I.hok e;refine⟨dd.typeIs,λb q=>?_,hd⟩
  cases q
  let⟨ob,_,_,h1,h2,_⟩:=dd;exact⟨ob,h1,h2.2.1⟩
 .let⟨_,hd,xs,_,dd⟩:=zkj I.hok e;refine⟨dd.typeIs,λb q=>?_,hd⟩
  cases q
  let⟨ob,_,_,h1,h2,_⟩:=dd;exact⟨ob,h1,h2.2.1⟩
section
variable {X:Cx}{π:List (AJ×Bb)}{σ:St}{H:Hp}{s:AK}{a:AJ}{y d:V}{u r:AH}{o:Option V}{A:An}{E:AH->AK->Prop}
def zlC{Q:AH->AK->Prop}(hu:A.units+1<cLine)(I:Inv X π σ H s)(g:yfu H a y o)(ry:RelV y u)(rd:RelV d r)(h:∀w' s',Inv X π σ H s'->RelV (o.getD d) w'->Q w' s'):
  A5 (model X.prog X.w) A (call (.builtin "dict.get") [.ref a,u,r]) Q E s:=by
 rcases g with⟨kvs,k,e,ey,l⟩|⟨kvs,k,b,e,ey,eb,l⟩
 .subst ey;let⟨z,hd,vs,rel,dd⟩:=zkp I.hok e;refine call_meetsIn DC dd.typeIs E6 (ER _ _ _) (meets_dict_get_default (yO X.prog X.w) a (ziD ry) hd r) ⟨_,dd.mapOf,h _ _ (I.tok _) ?_⟩;rw[l];exact(rel.val k).getD rd
 .subst ey
  cases (show u=Al b from ry)
  let⟨z,hd,xs,rel,dd⟩:=zkj I.hok e;refine call_meetsIn DC dd.typeIs E6 (ER _ _ _) (meetsH_dict_get_default (tupleKind (yO X.prog X.w)) a b hd r) ⟨F2 hu,k,xs,zgq I.hok eb,dd,h _ _ (I.tok _) ?_⟩;rw[l];exact(rel.val k).getD rd
end
def ydj(td ty tx:TE):TE:=λσ H Q=>td σ H λx H1=>∃a,x=.ref a/\IsD H1 a/\ty σ H1 λy H2=>tx σ H2 λz H3=>∃o,yfu H3 a y o/\Q (o.getD z) H3
section
variable {X:Cx}{o e f:AT}{apos cpos:Bo}{td ty tx:TE}
def zhV(hu:X.A.units+1<cLine)(ho:PE X o td)(he:PE X e ty)(hf:PE X f tx)(m:M2 X o "get" apos e f cpos):PE X (.Call (.Attribute o "get" apos) [e,f] [] cpos) (ydj td ty tx):=by
 intro π s σ H Q I h;refine wpAny_Call_method m.base m.few m.line PySem.F.plainAttrs_dict DC PySem.F.type_dict_get (thn (ho π s σ H _ I h) λu s1 kq=>?_);let⟨x,H1,I1,rx,a,ex,d,q1⟩:=kq;subst ex;obtain rfl:u=Al a:=rx;let⟨t1,t2,_⟩:=zml I1 d;refine⟨t1,t2,?_⟩;rw[m.trees];refine Cv rfl (DO (Db (thn (he π s1 σ H1 _ I1 q1) λiv s2 ⟨y,H2,I2,ry,q2⟩=>
  Db (thn (hf π s2 σ H2 _ I2 q2) λfv s3 ⟨z,H3,I3,rz,ov,g,q3⟩=>F9 ?_))))
 exact zlC hu I3 g ry rz λw' s4 I4 rw'=>⟨_,H3,I4,rw',q3⟩
end
section
variable {X:Cx}{π:List (AJ×Bb)}{σ:St}{H:Hp}{s:AK}{a:AJ}{kvs:List (Key×V)}{A:An}{E:AH->AK->Prop}
end
section
variable {X:Cx}{π:List (AJ×Bb)}{σ:St}{H:Hp}{s:AK}{a:AJ}{y:V}{u:AH}{A:An}{E:AH->AK->Prop}
end
end L2
namespace IC
open PySem
inductive PV where
 |non|bl (b:Bool)|int (i:Int)|str (x:AO)|tp (k:Bool) (xs:List PV)|lst (xs:List PV)|loc (n:Nat)|exn (c:Nat)|scr (xs:List PV)|fnc (j:Nat)
deriving Inhabited
abbrev PV.tup(xs:List PV):PV:=.tp AB xs
mutual
noncomputable def nL:PV->Bool
 |.loc _=>AB
 |.exn _=>AB
 |.fnc _=>AC
 |.tp _ xs=>nLs xs
 |.lst xs=>nLs xs
 |.scr xs=>nLs xs
 |_=>AC
noncomputable def nLs:List PV->Bool
 |[]=>AC
 |x::xs=>nL x&&nLs xs
end
mutual
noncomputable def shd(n:Nat):PV->Bool
 |.non=>AC
 |.bl _=>AC
 |.int _=>AC
 |.str x=>x.cps.all (· < 0x110000)
 |.tp _ xs=>decide (0<n)&&yaZ (n-1) xs
 |.lst xs=>decide (0<n)&&yaZ (n-1) xs
 |_=>AB
noncomputable def yaZ(n:Nat):List PV->Bool
 |[]=>AC
 |x::xs=>shd n x&&yaZ n xs
end
abbrev shp(v:PV):Bool:=shd 60 v
def flat:PV->Bool
 |.non=>AC
 |.bl _=>AC
 |.int _=>AC
 |.str _=>AC
 |_=>AB
def bi(b:Bool):Int:=if b then 1 else 0
mutual
noncomputable def peq:PV->PV->Bool
 |.non,.non=>AC
 |.bl a,.bl b=>a==b
 |.bl a,.int j=>bi a==j
 |.int i,.bl b=>i==bi b
 |.int i,.int j=>i==j
 |.str x,.str y=>x==y
 |.tp _ xs,.tp _ ys=>ybi xs ys
 |.lst xs,.lst ys=>ybi xs ys
 |_,_=>AB
noncomputable def ybi:List PV->List PV->Bool
 |[],[]=>AC
 |x::xs,y::ys=>peq x y&&ybi xs ys
 |_,_=>AB
end
inductive Ob where
 |lst (xs:List PV)|dct (t:Bool) (kvs:List (PV×PV))|dead|ins (c:Nat) (fs:List (AO×PV))
abbrev Env:=List (Option PV)
abbrev SO:=List Ob
inductive R(α:Type) where
 |ok (a:α) (st:SO)|exc (c:Nat) (st:SO)|bad
def R.bind{α β:Type}(r:R α)(k:α->SO->R β):R β:=
 match r with
 |.ok a st=>k a st
 |.exc c st=>.exc c st
 |.bad=>.bad
inductive BOp where
 |add|sub|mul|fdiv|mod|pow|shl|shr|band|bor|bxor
inductive COp where
 |eq|ne|lt|le|gt|ge|is|isnot|isin|notin
inductive Ty where
 |int|bool|str|tuple|list|cls (c:Nat)|val
inductive Blt where
 |len|int|abs|min|max|tuple|list|all|sum|dict|rev|str|any
inductive Mth where
 |append|extend|get|bits|upper|insert|count|index|join|split|sidx|clear
inductive Tg where
 |n (i:Nat)|t (l:List Nat)
set_option genInjectivity false
mutual
inductive Ce where
 |cst (v:PV)
 |var (i:Nat)
 |bin (o:BOp) (a b:Ce)
 |neg (a:Ce)
 |not (a:Ce)
 |and (a b:Ce)
 |or (a b:Ce)
 |cmp (o:COp) (a b:Ce)
 |chain (o p:COp) (a b c:Ce)
 |ite (c a b:Ce)
 |tup (es:Ces)
 |lst (es:Ces)
 |newl (es:Ces)
 |newd (kvs:List (AO×Int))
 |idx (a i:Ce)
 |slc (a:Ce) (lo hi:Ce)
 |call (f:Nat) (args:Ces)
 |blt (b:Blt) (args:Ces)
 |mth (m:Mth) (o:Ce) (args:Ces)
 |isi (a:Ce) (t:List Ty)
 |isx (a:Ce) (cs:List Nat) (t:List Ty)
 |comp (sl:List (Option Nat)) (tg:Tg) (it:Cit) (c:Ce) (e:Ce)
 |frz (a:Ce)
 |nope
 |dix (D:List (AO×PV)) (a:Ce)
 |din (a:Ce) (D:List (AO×PV))
 |thw (a:Ce)
 |nin (a b:Ce)
 |fld (c:Nat) (a:Ce) (f:AO)
 |new (c i:Nat) (es:Ces)
 |mcl (c i:Nat) (m:AO) (o:Ce) (es:Ces)
inductive Ces where
 |nil
 |cons (e:Ce) (es:Ces)
inductive Cit where
 |seq (e:Ce)
 |range1 (a:Ce)
 |range2 (a b:Ce)
 |rangeD (a b:Ce)
 |enum (e:Ce)
 |zip (a b:Ce)
 |revl (e:Ce)
 |revr (a:Ce)
 |chars (e:Ce)
end
set_option genInjectivity true
abbrev Ce.i(n:Int):Ce:=.cst (.int n)
abbrev Ce.s(x:AO):Ce:=.cst (.str x)
abbrev Ce.v:=Ce.var
abbrev Ces.k:=Ces.cons
abbrev Ces.e:=Ces.nil
mutual
inductive Cs where
 |expr (e:Ce)
 |asg (t:Tg) (e:Ce)
 |six (o i e:Ce)
 |dput (o i e:Ce)
 |aug (i:Nat) (o:BOp) (e:Ce)
 |ret (e:Ce)
 |ite (c:Ce) (a b:Css)
 |for (t:Tg) (it:Cit) (b:Css)
 |while (c:Ce) (b:Css)
 |nope
 |raise (c:Nat) (e:Ce)
 |try (b:Css) (cs:List Nat) (i:Nat) (h:Css)
 |six2 (o i p j e f:Ce)
 |sfl (c:Nat) (o:Ce) (f:AO) (e:Ce)
inductive Css where
 |nil
 |cons (s:Cs) (ss:Css)
end
abbrev Css.k:=Css.cons
abbrev Css.e:=Css.nil
def yaT(i j:Int):Bool:=(decide (i.natAbs<18446744073709551616)) || (decide (j.natAbs<18446744073709551616))
def binI(o:BOp)(i j:Int):Option PV:=
 match o with
 |.add=>AA (.int (i+j))
 |.sub=>AA (.int (i-j))
 |.mul=>if yaT i j then AA (.int (i*j))else AD
 |.fdiv=>if 0<j/\j<10000000000000000000000000000000000000000000000000000000000000000000000 then AA (.int (i/j))else AD
 |.mod=>if 0<j then AA (.int (i%j))else AD
 |.pow=>if 0<=j/\j<=1000000/\i.natAbs<18446744073709551616 then AA (.int (i^j.toNat))else AD
 |.shl=>if 0<=j/\j<=1000000/\i.natAbs<18446744073709551616 then AA (.int (i*2^j.toNat))else AD
 |.shr=>if 0<=j then AA (.int (i/2^j.toNat))else AD
 |.band=>AA (.int (Builtin.bitAnd i j))
 |.bor=>AA (.int (Builtin.bitOr i j))
 |.bxor=>AA (.int (Builtin.bitXor i j))
def sizeMax:Nat:=16777216
def yel(k:Bool)(a:List PV)(j:Bool)(b:List PV):PV:=if a.isEmpty then .tp j b else if b.isEmpty then .tp k a else .tup (a++b)
def yP(o:BOp)(x y:PV):Option PV:=
 match x,y with
 |.int i,.int j=>binI o i j
 |.int i,.bl b=>match o with
  |.add=>AA (.int (i+bi b))
  |_=>AD
 |.str a,.str b=>match o with
  |.add=>if a.length+b.length<=sizeMax then AA (.str (a++b))else AD
  |_=>AD
 |.tp k a,.tp j b=>match o with
  |.add=>if a.length+b.length<=sizeMax then AA (yel k a j b)else AD
  |_=>AD
 |.lst a,.lst b=>match o with
  |.add=>if a.length+b.length<=sizeMax then AA (.lst (a++b))else AD
  |_=>AD
 |_,_=>AD
def ybJ(o:BOp)(x y:PV):Option PV:=
 match x,y with
 |.int i,.int j=>binI o i j
 |_,_=>AD
def isNon:PV->Bool
 |.non=>AC
 |_=>AB
def inL(x:PV):List PV->Bool
 |[]=>AB
 |y::ys=>peq y x || inL x ys
def inS(a b:AO):Bool:=(EW (b.length+1)).any λi=>decide (i+a.length<=b.length)&&(b.cps.extract i (i+a.length)==a.cps)
def ybH(o:COp)(i j:Int):Option PV:=
 match o with
 |.lt=>AA (.bl (decide (i<j)))
 |.le=>AA (.bl (decide (i<=j)))
 |.gt=>AA (.bl (decide (j<i)))
 |.ge=>AA (.bl (decide (j<=i)))
 |_=>AD
def ydu(o:COp)(a b:AO):Option PV:=
 match o with
 |.lt=>AA (.bl (decide (a.cps.toList<b.cps.toList)))
 |.le=>AA (.bl (!decide (b.cps.toList<a.cps.toList)))
 |_=>AD
def yD(o:COp)(x y:PV):Option PV:=
 match o with
 |.eq=>if shp x&&shp y then AA (.bl (peq x y))else AD
 |.ne=>if shp x&&shp y then AA (.bl (!peq x y))else AD
 |.is=>match y with
  |.non=>AA (.bl (isNon x))
  |.bl b=>match x with
   |.bl a=>AA (.bl (a==b))
   |_=>AD
  |_=>AD
 |.isnot=>match y with
  |.non=>AA (.bl (!isNon x))
  |.bl b=>match x with
   |.bl a=>AA (.bl (!(a==b)))
   |_=>AD
  |_=>AD
 |.isin=>match x,y with
  |.str a,.str b=>AA (.bl (inS a b))
  |x,.tp _ l=>if flat x&&l.all flat then AA (.bl (inL x l))else AD
  |x,.lst l=>if flat x&&l.all flat then AA (.bl (inL x l))else AD
  |_,_=>AD
 |.notin=>match x,y with
  |.str a,.str b=>AA (.bl (!inS a b))
  |x,.tp _ l=>if flat x&&l.all flat then AA (.bl (!inL x l))else AD
  |x,.lst l=>if flat x&&l.all flat then AA (.bl (!inL x l))else AD
  |_,_=>AD
 |o=>match x,y with
  |.int i,.int j=>ybH o i j
  |.str a,.str b=>ydu o a b
  |_,_=>AD
def yaL(st:SO)(x:PV):Option Bool:=
 match x with
 |.non=>AA AB
 |.bl b=>AA b
 |.int i=>AA (i != 0)
 |.str y=>if y.length<=sizeMax then AA ((y.length:Int) != 0)else AD
 |.tp _ xs=>AA (!xs.isEmpty)
 |.lst xs=>AA (!xs.isEmpty)
 |.loc n=>match st[n]? with
  |some (.lst xs)=>AA (!xs.isEmpty)
  |_=>AD
 |_=>AD
def ixI(n:Nat)(i:Int):Option Nat:=if 0<=i then(if i<n then AA i.toNat else AD)else if -(n:Int)<=i then AA (i+n).toNat else AD
def at?{α:Type}(xs:List α)(i:Int):Option α:=(ixI xs.length i).bind λj=>xs[j]?
def look(k:PV):List (PV×PV)->Option PV
 |[]=>AD
 |(a,b)::r=>if peq a k then AA b else look k r
def put(k v:PV)(kvs:List (PV×PV)):List (PV×PV):=
 if (kvs.any λp=>peq p.1 k)=AC then kvs.map (λp=>if peq p.1 k=AC then(p.1,v)else p)else kvs++[(k,v)]
def ybs:PV->Bool
 |.int _=>AC
 |.str _=>AC
 |_=>AB
def isKey(t:Bool)(k:PV):Bool:=
 match t with
 |false=>ybs k
 |true=>match k with
  |.tp AB xs=>xs.all ybs
  |_=>AB
def yaG{α:Type}(xs:List α)(i:PV):Option α:=
 match i with
 |.int k=>at? xs k
 |_=>AD
def idxV(st:SO)(x i:PV):Option PV:=
 match x with
 |.tp _ xs=>yaG xs i
 |.lst xs=>yaG xs i
 |.str s=>if s.length<=sizeMax then(yaG s.cps.toList i).map λc=>.str ⟨#[c]⟩else AD
 |.loc n=>match st[n]? with
  |some (.lst xs)=>yaG xs i
  |_=>AD
 |_=>AD
def yaU(n:Nat)(v:Int):Nat:=if v<0 then(v+(n:Int)).toNat else min v.toNat n
def ycm(n:Nat)(lo:Option Int):Nat:=
 match lo with
 |none=>0
 |some i=>yaU n i
def yb5(n:Nat)(hi:Option Int):Nat:=
 match hi with
 |none=>n
 |some i=>yaU n i
def cut{α:Type}(xs:List α)(lo hi:Option Int):List α:=(xs.drop (ycm xs.length lo)).take (yb5 xs.length hi-ycm xs.length lo)
def ybB:PV->Option (Option Int)
 |.non=>AA AD
 |.int i=>AA (AA i)
 |_=>AD
def yb3(x:PV)(a b:Option Int):Option PV:=
 match x with
 |.tp k xs=>if ycm xs.length a=0/\yb5 xs.length b=xs.length then AA (.tp k xs)else AA (.tup (cut xs a b))
 |.str s=>if s.length<=sizeMax then AA (.str ⟨(cut s.cps.toList a b).toArray⟩)else AD
 |.lst xs=>AA (.lst (cut xs a b))
 |.scr xs=>AA (.lst (cut xs a b))
 |_=>AD
def yb6(x:PV)(a:Option Int)(hi:PV):Option PV:=
 match ybB hi with
 |some b=>yb3 x a b
 |none=>AD
def yF(x:PV)(t:Ty):Bool:=
 match x,t with
 |.int _,.int=>AC
 |.bl _,.int=>AC
 |.bl _,.bool=>AC
 |.str _,.str=>AC
 |.tp _ _,.tuple=>AC
 |.lst _,.list=>AC
 |.exn c,.cls d=>c==d
 |.exn _,.val=>AC
 |_,_=>AB
def yJ:Ty->Bool
 |.cls _=>AB
 |.val=>AB
 |_=>AC
def yG(x:PV)(ts:List Ty):Option PV:=
 match x with
 |.loc _=>AD
 |.scr _=>AD
 |.fnc _=>AD
 |.exn c=>if ts.all yJ then AD else AA (.bl (ts.any (yF (.exn c))))
 |x=>match ts with
  |[t]=>if yJ t then AA (.bl (yF x t))else AD
  |_=>AD
def yb9(cs:List Nat)(x:PV)(ts:List Ty):Option PV:=
 match x with
 |.exn c=>if cs.contains c then AA (.bl (ts.any (yF (.exn c))))else AD
 |_=>AD
def allB:List PV->Option Bool
 |[]=>AA AC
 |.bl b::r=>match allB r with
  |some c=>AA (b&&c)
  |none=>AD
 |_::_=>AD
def yft:List PV->Option Int
 |[]=>AA 0
 |.int i::r=>match yft r with
  |some c=>AA (i+c)
  |none=>AD
 |_::_=>AD
def ydQ:List PV->Option Int
 |[]=>AD
 |[.int i]=>AA i
 |.int i::r=>match ydQ r with
  |some c=>AA (if i<c then c else i)
  |none=>AD
 |_::_=>AD
def ya2(st:SO):PV->Option (List PV)
 |.tp _ xs=>AA xs
 |.lst xs=>AA xs
 |.loc n=>match st[n]? with
  |some (.lst xs)=>AA xs
  |_=>AD
 |_=>AD
def yL(st:SO):PV->Option (List PV)
 |.lst xs=>AA xs
 |.loc n=>match st[n]? with
  |some (.lst xs)=>AA xs
  |_=>AD
 |_=>AD
def lenV(st:SO)(x:PV):Option PV:=
 match x with
 |.str s=>if s.length<=sizeMax then AA (.int s.length)else AD
 |x=>(ya2 st x).map λxs=>.int xs.length
def ygZ(x:PV):Option PV:=
 match x with
 |.int i=>AA (.int i)
 |.bl k=>AA (.int (bi k))
 |_=>AD
def yeM(x:PV):Option PV:=
 match x with
 |.int i=>AA (.int (if i<0 then -i else i))
 |_=>AD
def yee(x y:PV):Option PV:=
 match x,y with
 |.int i,.int j=>AA (.int (if j<i then j else i))
 |_,_=>AD
def maxV(x y:PV):Option PV:=
 match x,y with
 |.int i,.int j=>AA (.int (if i<j then j else i))
 |_,_=>AD
def ycE(st:SO)(x:PV):Option PV:=
 match x with
 |.tp k xs=>AA (.tp k xs)
 |x=>(yL st x).map .tup
def yfk:PV->Option PV
 |.tp _ xs=>if xs.isEmpty then AD else AA (.tup xs.reverse)
 |.lst xs=>AA (.lst xs.reverse)
 |_=>AD
def anyB:List PV->Option Bool
 |[]=>AA AB
 |.bl b::r=>match anyB r with
  |some c=>AA (b || c)
  |none=>AD
 |_=>AD
def anyI:List PV->Option Bool
 |[]=>AA AB
 |.int i::r=>match anyI r with
  |some c=>AA ((i != 0) || c)
  |none=>AD
 |_=>AD
def yhp:PV->Option PV
 |.int i=>if i=0 then AA (.str "0")else if i=1 then AA (.str "1")else AD
 |_=>AD
def yZ(b:Blt)(st:SO)(vs:List PV):Option PV:=
 match vs with
 |[x]=>match b with
  |.len=>lenV st x
  |.int=>ygZ x
  |.abs=>yeM x
  |.max=>(yL st x).bind λxs=>(ydQ xs).map .int
  |.tuple=>ycE st x
  |.list=>(ya2 st x).map .lst
  |.all=>(yL st x).bind λxs=>(allB xs).map .bl
  |.sum=>(yL st x).bind λxs=>(yft xs).map .int
  |.rev=>yfk x
  |.str=>yhp x
  |.any=>match x with
   |.tp _ xs=>(anyI xs).map .bl
   |x=>(yL st x).bind λxs=>(anyB xs).map .bl
  |_=>AD
 |[x,y]=>match b with
  |.min=>yee x y
  |.max=>maxV x y
  |_=>AD
 |_=>AD
def ybe(st:SO):PV->Option (Bool×List (PV×PV))
 |.loc n=>match st[n]? with
  |some (.dct t xs)=>AA (t,xs)
  |_=>AD
 |_=>AD
def yao(m:Mth)(st:SO)(x:PV):Option Bool:=
 match m with
 |.append=>(yL st x).map λ_=>AC
 |.extend=>(yL st x).map λ_=>AC
 |.insert=>(yL st x).map λ_=>AC
 |.count=>(yL st x).map λ_=>AC
 |.index=>(yL st x).map λ_=>AC
 |.get=>(ybe st x).map λ_=>AC
 |.bits=>match x with
  |.int _=>AA AC
  |_=>AD
 |.upper=>match x with
  |.str _=>AA AC
  |_=>AD
 |.join=>match x with
  |.str _=>AA AC
  |_=>AD
 |.split=>match x with
  |.str _=>AA AC
  |_=>AD
 |.sidx=>match x with
  |.str _=>AA AC
  |_=>AD
 |.clear=>match x with
  |.loc n=>(yL st (.loc n)).map λ_=>AC
  |_=>AD
def ydf(st:SO)(o v:PV):R PV:=
 match o with
 |.loc n=>match st[n]? with
  |some (.lst xs)=>if xs.length<1000000 then .ok .non (st.set n (.lst (xs++[v])))else .bad
  |_=>.bad
 |_=>.bad
def yeQ(st:SO)(o v:PV):R PV:=
 match o with
 |.loc n=>match st[n]? with
  |some (.lst xs)=>match v with
   |.lst ys=>if xs.length+ys.length<=1000000 then .ok .non (st.set n (.lst (xs++ys)))else .bad
   |_=>.bad
  |_=>.bad
 |_=>.bad
def yfE(st:SO)(o i v:PV):R PV:=
 match o with
 |.loc n=>match st[n]? with
  |some (.lst xs)=>match i with
   |.int k=>if 0<=k/\k<=xs.length/\xs.length<1000000 then .ok .non (st.set n (.lst (xs.take k.toNat++v::xs.drop k.toNat)))else .bad
   |_=>.bad
  |_=>.bad
 |_=>.bad
def ydp(st:SO)(o k d:PV):R PV:=
 match ybe st o with
 |some (t,kvs)=>if isKey t k then .ok ((look k kvs).getD d) st else .bad
 |none=>.bad
def yfD(st:SO)(o v:PV):R PV:=
 match yL st o with
 |some xs=>if flat v&&xs.all flat then .ok (.int (xs.countP λy=>peq y v)) st else .bad
 |none=>.bad
def ybV(v:PV):List PV->Option Nat
 |[]=>AD
 |y::ys=>if peq y v then AA 0 else(ybV v ys).map (·+1)
def yfv(st:SO)(o v:PV):R PV:=
 match yL st o with
 |some xs=>if flat v&&xs.all flat then(match ybV v xs with
  |some j=>.ok (.int j) st
  |none=>.bad)else .bad
 |none=>.bad
def upC(c:Nat):Nat:=if 97<=c/\c<=122 then c-32 else c
def upS(s:AO):Str:=⟨(s.cps.toList.map upC).toArray⟩
def yb2(c:Nat):List Nat->List (List Nat)
 |[]=>[[]]
 |x::xs=>if x=c then []::yb2 c xs else match yb2 c xs with
  |[]=>[[x]]
  |p::ps=>(x::p)::ps
def strsOf:List PV->Option (List AO)
 |[]=>AA []
 |.str s::r=>(strsOf r).map (s :: ·)
 |_=>AD
def yeR(st:SO)(o v:PV):R PV:=
 match o,yL st v with
 |.str s,AA xs=>match strsOf xs with
  |some ys=>if s.length<=10/\xs.length<=1000/\(ys.all λy=>decide (y.length<=1000))=AC then .ok (.str (Str.join s ys)) st else .bad
  |none=>.bad
 |_,_=>.bad
def yfC(st:SO)(o:PV):R PV:=
 match o with
 |.loc n=>match st[n]? with
  |some (.lst _)=>.ok .non (st.set n (.lst []))
  |_=>.bad
 |_=>.bad
def yfj(st:SO)(o v:PV):R PV:=
 match o,v with
 |.str s,.str y=>if s=AE "01" then(if y=AE "0" then .ok (.int 0) st else if y=AE "1" then .ok (.int 1) st else .bad)else .bad
 |_,_=>.bad
def ydt(st:SO)(o v:PV):R PV:=
 match o,v with
 |.str s,.str y=>match y.cps.toList with
  |[c]=>if s.length<=100000 then .ok (.lst ((yb2 c s.cps.toList).map λl=>.str ⟨l.toArray⟩)) st else .bad
  |_=>.bad
 |_,_=>.bad
def ya4(m:Mth)(st:SO)(o:PV)(vs:List PV):R PV:=
 match m,vs with
 |.append,[v]=>ydf st o v
 |.extend,[v]=>yeQ st o v
 |.insert,[i,v]=>yfE st o i v
 |.get,[k,d]=>ydp st o k d
 |.count,[v]=>yfD st o v
 |.index,[v]=>yfv st o v
 |.join,[v]=>yeR st o v
 |.split,[v]=>ydt st o v
 |.sidx,[v]=>yfj st o v
 |.clear,[]=>yfC st o
 |.bits,[]=>match o with
  |.int i=>.ok (.int (Builtin.Int.intBits i)) st
  |_=>.bad
 |.upper,[]=>match o with
  |.str s=>if s.cps.toList.all (· < 128)/\s.length<=1000000 then .ok (.str (upS s)) st else .bad
  |_=>.bad
 |_,_=>.bad
def toR(o:Option PV)(st:SO):R PV:=
 match o with
 |some v=>.ok v st
 |none=>.bad
def yU(t:Tg)(v:PV)(ρ:Env):Option Env:=
 match t,v with
 |.n i,v=>AA (ρ.set i (AA v))
 |.t l,.tp _ xs=>if l.length=xs.length then AA ((l.zip xs).foldl (λρ p=>ρ.set p.1 (AA p.2)) ρ)else AD
 |_,_=>AD
def yam:Nat->List PV->List PV
 |_,[]=>[]
 |k,x::xs=>.tup [.int k,x]::yam (k+1) xs
def yac:List PV->List PV->List PV
 |x::xs,y::ys=>.tup [x,y]::yac xs ys
 |_,_=>[]
def yf9:PV->Option (List PV)
 |.tp _ xs=>AA xs.reverse
 |.lst xs=>AA xs.reverse
 |_=>AD
def ydF:PV->Option (List PV)
 |.str s=>if s.length<=1000000 then AA (s.cps.toList.map λc=>.str ⟨#[c]⟩)else AD
 |_=>AD
def yei(x y:PV):Option (List PV):=
 match x,y with
 |.tp _ xs,.tp _ ys=>if xs.length<=ys.length then AA (yac xs ys)else AD
 |_,_=>AD
def yW(s:AO):List (AO×PV)->Option PV
 |[]=>AD
 |(a,b)::r=>if decide (a=s)then AA b else yW s r
def yd5(D:List (AO×PV))(x:PV):Option PV:=
 match x with
 |.str s=>yW s D
 |_=>AD
def yfa(D:List (AO×PV))(x:PV):Option PV:=
 match x with
 |.str s=>AA (.bl (yW s D).isSome)
 |_=>AD
def yr:Nat->Int->Int->List PV
 |0,_,_=>[]
 |n+1,a,d=>.int a::yr n (a+d) d
def ybk(x:PV):Option (List PV):=
 match x with
 |.int j=>if j.natAbs<1000000000 then AA (yr j.toNat 0 1)else AD
 |_=>AD
def yhj(x:PV):Option (List PV):=
 match x with
 |.int j=>if 0<=j/\j<1000000000 then AA (yr j.toNat (j-1) (-1))else AD
 |_=>AD
def ygs(x y:PV):Option (List PV):=
 match x,y with
 |.int i,.int j=>if i.natAbs<1000000000/\j.natAbs<1000000000 then AA (yr (j-i).toNat i 1)else AD
 |_,_=>AD
def yhl(x y:PV):Option (List PV):=
 match x,y with
 |.int i,.int j=>if i.natAbs<1000000000/\j.natAbs<1000000000 then AA (yr (i-j).toNat i (-1))else AD
 |_,_=>AD
def toL(o:Option (List PV))(st:SO):R (List PV):=
 match o with
 |some v=>.ok v st
 |none=>.bad
def ycx(v:PV)(st:SO):R PV:=
 match v with
 |.loc n=>match st[n]? with
  |some (.lst xs)=>.ok (.lst xs) (st.set n .dead)
  |_=>.bad
 |v=>.ok v st
def ycK(v:PV)(st:SO):R PV:=
 match v with
 |.lst xs=>.ok (.loc st.length) (st++[.lst xs])
 |_=>.bad
def ycc(st:SO)(x y:PV):Option PV:=
 match ya2 st y with
 |some xs=>if shp x&&yaZ 60 xs then AA (.bl (!inL x xs))else AD
 |none=>AD
def ybq(c:Nat)(st:SO)(x:PV)(f:AO):Option PV:=
 match x with
 |.loc n=>match st[n]? with
  |some (.ins d fs)=>if d=c then fs.lookup f else AD
  |_=>AD
 |_=>AD
def ycg(f:AO)(v:PV):List (AO×PV)->List (AO×PV)
 |[]=>[(f,v)]
 |(g,x)::r=>if g=f then(g,v)::r else(g,x)::ycg f v r
def ybZ(c:Nat)(st:SO)(x:PV)(f:AO)(v:PV):Option SO:=
 match x with
 |.loc n=>match st[n]? with
  |some (.ins d fs)=>if d=c/\fs.length<1000 then AA (st.set n (.ins c (ycg f v fs)))else AD
  |_=>AD
 |_=>AD
def yco(c:Nat)(m:AO)(st:SO)(x:PV):Option Bool:=
 match x with
 |.loc n=>match st[n]? with
  |some (.ins d fs)=>if d=c/\fs.lookup m=AD then AA AC else AD
  |_=>AD
 |_=>AD
def newV(n:Nat)(v:PV)(st:SO):R PV:=
 match v with
 |.non=>.ok (.loc n) st
 |_=>.bad
def ybm(r:R PV):R PV:=
 match r with
 |.ok v st=>.ok v st
 |_=>.bad
inductive Fl where
 |nx (ρ:Env) (st:SO)|rt (v:PV) (st:SO)|bk (ρ:Env) (st:SO)|ct (ρ:Env) (st:SO)|exc (c:Nat) (ρ:Env) (st:SO)|bad
def onBl{α:Type}(x:PV)(k:Bool->R α):R α:=
 match x with
 |.bl b=>k b
 |_=>.bad
def onO{α:Type}(o:Option Bool)(k:Bool->R α):R α:=
 match o with
 |some b=>k b
 |none=>.bad
def onF(o:Option Bool)(k:Bool->Fl):Fl:=
 match o with
 |some b=>k b
 |none=>.bad
def onP{α:Type}(o:Option (Option Int))(k:Option Int->R α):R α:=
 match o with
 |some b=>k b
 |none=>.bad
def blO(o:Option PV):Option Bool:=
 match o with
 |some (.bl b)=>AA b
 |_=>AD
def ybl(o:Option PV)(ys:List PV):List PV:=
 match o with
 |some y=>y::ys
 |none=>ys
def yaD(one:PV->SO->R (Option PV)):List PV->SO->R (List PV)
 |[],st=>.ok [] st
 |x::xs,st=>(one x st).bind λo st1=>(yaD one xs st1).bind λys st2=>.ok (ybl o ys) st2
def ya5(r:R (List PV)):R PV:=
 match r with
 |.ok ys st=>if ys.length<=1000000 then .ok (.lst ys) st else .bad
 |_=>.bad
mutual
noncomputable def ev(call:Nat->List PV->SO->R PV)(ρ:Env)(st:SO):Ce->R PV
 |.cst v=>.ok v st
 |.var i=>match ρ[i]? with
  |some (AA v)=>.ok v st
  |_=>.bad
 |.bin o a b=>(ev call ρ st a).bind λx st1=>(ev call ρ st1 b).bind λy st2=>toR (yP o x y) st2
 |.neg a=>(ev call ρ st a).bind λx st1=>match x with
  |.int i=>.ok (.int (-i)) st1
  |_=>.bad
 |.not a=>(ev call ρ st a).bind λx st1=>onBl x λk=>.ok (.bl (!k)) st1
 |.and a b=>(ev call ρ st a).bind λx st1=>onBl x λk=>cond k (ev call ρ st1 b) (.ok (.bl AB) st1)
 |.or a b=>(ev call ρ st a).bind λx st1=>onBl x λk=>cond k (.ok (.bl AC) st1) (ev call ρ st1 b)
 |.cmp o a b=>(ev call ρ st a).bind λx st1=>(ev call ρ st1 b).bind λy st2=>toR (yD o x y) st2
 |.chain o p a b c=>(ev call ρ st a).bind λx st1=>(ev call ρ st1 b).bind λy st2=>onO (blO (yD o x y)) λk=>cond k ((ev call ρ st2 c).bind λz st3=>toR (yD p y z) st3) (.ok (.bl AB) st2)
 |.ite c a b=>(ev call ρ st c).bind λx st1=>onO (yaL st1 x) λk=>cond k (ev call ρ st1 a) (ev call ρ st1 b)
 |.tup es=>(evs call ρ st es).bind λvs st1=>if vs.length<=sizeMax then .ok (.tup vs) st1 else .bad
 |.lst es=>(evs call ρ st es).bind λvs st1=>if vs.length<=sizeMax then .ok (.lst vs) st1 else .bad
 |.newl es=>(evs call ρ st es).bind λvs st1=>if vs.length<=sizeMax then .ok (.loc st1.length) (st1++[.lst vs])else .bad
 |.newd kvs=>if kvs.length<=15 then .ok (.loc st.length) (st++[.dct AB (kvs.foldl (λacc kv=>put (.str kv.1) (.int kv.2) acc) [])])else .bad
 |.idx a i=>(ev call ρ st a).bind λx st1=>(ev call ρ st1 i).bind λy st2=>toR (idxV st2 x y) st2
 |.slc a l h=>(ev call ρ st a).bind λx st1=>(ev call ρ st1 l).bind λy st2=>onP (ybB y) λo=>(ev call ρ st2 h).bind λz st3=>toR (yb6 x o z) st3
 |.call f es=>(evs call ρ st es).bind λvs st1=>call f vs st1
 |.blt b es=>(evs call ρ st es).bind λvs st1=>toR (yZ b st1 vs) st1
 |.mth m o es=>(ev call ρ st o).bind λx st1=>onO (yao m st1 x) λ_=>(evs call ρ st1 es).bind λvs st2=>ya4 m st2 x vs
 |.isi a ts=>(ev call ρ st a).bind λx st1=>toR (yG x ts) st1
 |.isx a cs ts=>(ev call ρ st a).bind λx st1=>toR (yb9 cs x ts) st1
 |.comp sl tg it c e=>(evi call ρ st it).bind λxs st1=>
  let ρ0:Env:=sl.map λo=>o.bind λj=>(ρ[j]?).join
  ya5 (yaD (λx st2=>match yU tg x ρ0 with
   |none=>.bad
   |some ρ1=>(ev call ρ1 st2 c).bind λb st3=>onO (yaL st3 b) λk=>cond k ((ev call ρ1 st3 e).bind λy st4=>.ok (AA y) st4) (.ok AD st3)) xs st1)
 |.nope=>.bad
 |.frz a=>(ev call ρ st a).bind λx st1=>ycx x st1
 |.dix D a=>(ev call ρ st a).bind λx st1=>toR (yd5 D x) st1
 |.din a D=>(ev call ρ st a).bind λx st1=>toR (yfa D x) st1
 |.thw a=>(ev call ρ st a).bind λx st1=>ycK x st1
 |.nin a b=>(ev call ρ st a).bind λx st1=>(ev call ρ st1 b).bind λy st2=>toR (ycc st2 x y) st2
 |.fld c a f=>(ev call ρ st a).bind λx st1=>toR (ybq c st1 x f) st1
 |.new c i es=>(evs call ρ st es).bind λvs st1=>(ybm (call i (.loc st1.length::vs) (st1++[.ins c []]))).bind λv st2=>newV st1.length v st2
 |.mcl c i m o es=>(ev call ρ st o).bind λx st1=>onO (yco c m st1 x) λ_=>(evs call ρ st1 es).bind λvs st2=>call i (x::vs) st2
noncomputable def evs(call:Nat->List PV->SO->R PV)(ρ:Env)(st:SO):Ces->R (List PV)
 |.nil=>.ok [] st
 |.cons e es=>(ev call ρ st e).bind λv st1=>(evs call ρ st1 es).bind λvs st2=>.ok (v::vs) st2
noncomputable def evi(call:Nat->List PV->SO->R PV)(ρ:Env)(st:SO):Cit->R (List PV)
 |.seq e=>(ev call ρ st e).bind λv st1=>match v with
  |.tp _ xs=>.ok xs st1
  |.lst xs=>.ok xs st1
  |_=>.bad
 |.range1 a=>(ev call ρ st a).bind λx st1=>toL (ybk x) st1
 |.range2 a b=>(ev call ρ st a).bind λx st1=>(ev call ρ st1 b).bind λy st2=>toL (ygs x y) st2
 |.rangeD a b=>(ev call ρ st a).bind λx st1=>(ev call ρ st1 b).bind λy st2=>toL (yhl x y) st2
 |.enum e=>(ev call ρ st e).bind λv st1=>match v with
  |.tp _ xs=>.ok (yam 0 xs) st1
  |_=>.bad
 |.zip a b=>(ev call ρ st a).bind λx st1=>(ev call ρ st1 b).bind λy st2=>toL (yei x y) st2
 |.revl e=>(ev call ρ st e).bind λv st1=>toL (yf9 v) st1
 |.revr a=>(ev call ρ st a).bind λx st1=>toL (yhj x) st1
 |.chars e=>(ev call ρ st e).bind λv st1=>toL (ydF v) st1
end
def R.fl{α:Type}(r:R α)(ρ:Env)(k:α->SO->Fl):Fl:=
 match r with
 |.ok a st=>k a st
 |.exc c st=>.exc c ρ st
 |.bad=>.bad
def yaN(f:Fl)(k:Env->SO->Fl):Fl:=
 match f with
 |.nx ρ st=>k ρ st
 |.ct ρ st=>k ρ st
 |.bk ρ st=>.nx ρ st
 |f=>f
def forL(t:Tg)(body:Env->SO->Fl):List PV->Env->SO->Fl
 |[],ρ,st=>.nx ρ st
 |x::xs,ρ,st=>match yU t x ρ with
  |none=>.bad
  |some ρ1=>yaN (body ρ1 st) λρ2 st2=>forL t body xs ρ2 st2
def yaF(test:Env->SO->R PV)(body:Env->SO->Fl):Nat->Env->SO->Fl
 |0,_,_=>.bad
 |n+1,ρ,st=>(test ρ st).fl ρ λx st1=>onF (yaL st1 x) λk=>cond k (yaN (body ρ st1) λρ2 st2=>yaF test body n ρ2 st2) (.nx ρ st1)
def yaz(st:SO)(o i v:PV):Option SO:=
 match o with
 |.loc n=>match st[n]? with
  |some (.lst xs)=>match i with
   |.int k=>match ixI xs.length k with
    |some j=>AA (st.set n (.lst (xs.set j v)))
    |none=>AD
   |_=>AD
  |_=>AD
 |_=>AD
def ybC(st:SO)(o i v:PV):Option SO:=
 match o with
 |.loc n=>match st[n]? with
  |some (.dct t kvs)=>if isKey t i/\kvs.length<1000000 then AA (st.set n (.dct t (put i v kvs)))else AD
  |_=>AD
 |_=>AD
mutual
noncomputable def ex(call:Nat->List PV->SO->R PV)(ρ:Env)(st:SO):Cs->Fl
 |.expr e=>(ev call ρ st e).fl ρ λ_ st1=>.nx ρ st1
 |.asg t e=>(ev call ρ st e).fl ρ λv st1=>match yU t v ρ with
  |some ρ1=>.nx ρ1 st1
  |none=>.bad
 |.six o i e=>(ev call ρ st e).fl ρ λv st1=>(ev call ρ st1 o).fl ρ λx st2=>(ev call ρ st2 i).fl ρ λy st3=>match yaz st3 x y v with
  |some st4=>.nx ρ st4
  |none=>.bad
 |.dput o i e=>(ev call ρ st e).fl ρ λv st1=>(ev call ρ st1 o).fl ρ λx st2=>(ev call ρ st2 i).fl ρ λy st3=>match ybC st3 x y v with
  |some st4=>.nx ρ st4
  |none=>.bad
 |.aug i o e=>match ρ[i]? with
  |some (AA x)=>(ev call ρ st e).fl ρ λy st1=>match ybJ o x y with
   |some z=>.nx (ρ.set i (AA z)) st1
   |none=>.bad
  |_=>.bad
 |.ret e=>(ev call ρ st e).fl ρ λv st1=>.rt v st1
 |.ite c a b=>(ev call ρ st c).fl ρ λx st1=>onF (yaL st1 x) λk=>cond k (exs call ρ st1 a) (exs call ρ st1 b)
 |.for t it b=>(evi call ρ st it).fl ρ λxs st1=>forL t (λρ2 st2=>exs call ρ2 st2 b) xs ρ st1
 |.while c b=>yaF (λρ2 st2=>ev call ρ2 st2 c) (λρ2 st2=>exs call ρ2 st2 b) 100000 ρ st
 |.nope=>.bad
 |.raise c e=>(ev call ρ st e).fl ρ λ_ st1=>.exc c ρ st1
 |.try b cs i h=>match exs call ρ st b with
  | .exc d ρ1 st1=>if cs.contains d then(match exs call (ρ1.set i (AA (.exn d))) st1 h with
   |.nx ρ2 st2=>.nx (ρ2.set i AD) st2
   |.rt v st2=>.rt v st2
   |_=>.bad)else .bad
  |f=>f
 |.six2 o i p j e f=>(ev call ρ st e).fl ρ λv st1=>(ev call ρ st1 f).fl ρ λw st2=>(ev call ρ st2 o).fl ρ λx st3=>(ev call ρ st3 i).fl ρ λy st4=>match yaz st4 x y v with
  |none=>.bad
  |some st5=>(ev call ρ st5 p).fl ρ λx2 st6=>(ev call ρ st6 j).fl ρ λy2 st7=>match yaz st7 x2 y2 w with
   |some st8=>.nx ρ st8
   |none=>.bad
 |.sfl c o f e=>(ev call ρ st e).fl ρ λv st1=>(ev call ρ st1 o).fl ρ λx st2=>match ybZ c st2 x f v with
  |some st3=>.nx ρ st3
  |none=>.bad
noncomputable def exs(call:Nat->List PV->SO->R PV)(ρ:Env)(st:SO):Css->Fl
 |.nil=>.nx ρ st
 |.cons s ss=>match ex call ρ st s with
  |.nx ρ1 st1=>exs call ρ1 st1 ss
  |f=>f
end
structure Fn where
 np:Nat
 ns:Nat
 pure:Bool
 body:Css
def yc(T:Nat->Option Fn):Nat->Nat->List PV->SO->R PV
 |0,_,_,_=>.bad
 |k+1,f,args,st=>match T f with
  |none=>.bad
  |some fn=>if args.length=fn.np then
    if fn.pure then
     if nLs args then match exs (yc T k) (args.map AA++Aj (fn.ns-fn.np) AD) [] fn.body with
      |.rt v _=>if nL v then .ok v st else .bad
      |.nx _ _=>.ok .non st
      |.exc c _ _=>.exc c st
      |_=>.bad
     else .bad
    else match exs (yc T k) (args.map AA++Aj (fn.ns-fn.np) AD) st fn.body with
     |.rt v st1=>.ok v st1
     |.nx _ st1=>.ok .non st1
     |.exc c _ st1=>.exc c st1
     |_=>.bad
   else .bad
def yas:List (Sum Ce Int)->Ces
 |[]=>.nil
 |.inl c::r=>.cons c (yas r)
 |.inr i::r=>.cons (.cst (.int i)) (yas r)
def ycW:Ces->Ces->Ces
 |.nil,b=>b
 |.cons e r,b=>.cons e (ycW r b)
end IC
namespace L2
open PySem PySem.Spec PyProof.Rows IC
abbrev Ph:=List (Option AJ)
section
variable (K:AF)(cl:Nat->AJ)(B:AJ->Prop)(φ:Ph)(H:Hp)
def ybD(k:Bool)(a:AJ)(xs:List V):Prop:=(H a=AA (.tup xs)/\¬B a/\AA a∉φ) \/
 k=AC/\∃(o:Bb) (its:Array AH) (n:Nat),K.lookup a=AA o/\o.cls=.type "tuple"/\o.data=.seq its n/\its.size<=sizeLine/\Vals xs its.toList
def yc7(a:AJ)(xs:List V):Prop:=H a=AA (.lst xs)/\¬B a/\AA a∉φ
def yd8(a:AJ)(xs:List V):Prop:=(Rd H a (.lst xs)/\¬B a/\AA a∉φ) \/
 ∃(o:Bb) (its:Array AH) (n:Nat),K.lookup a=AA o/\o.cls=.type "list"/\o.dict=AD/\o.data=.seq its n/\its.size<=sizeLine/\Vals xs its.toList
mutual
noncomputable def yd:PV->V->Prop
 |.non,x=>x=.non
 |.bl b,x=>x=.bl b
 |.int i,x=>x=.int i
 |.str s,x=>x=.str s
 |.tp k vs,x=>∃a xs,x=.ref a/\ybD K B φ H k a xs/\yj vs xs
 |.lst vs,x=>∃a xs,x=.ref a/\yc7 B φ H a xs/\yj vs xs
 |.loc n,x=>n<φ.length/\∃a,x=.ref a/\∀b,φ[n]?=AA (AA b)->b=a
 |.exn c,x=>∃a,x=.ref a/\H a=AA (.ext (ybN a (cl c)))/\¬B a/\AA a∉φ
 |.scr vs,x=>∃a xs,x=.ref a/\yd8 K B φ H a xs/\yj vs xs
 |.fnc j,x=>x=.ref (cl (1000+j))
noncomputable def yj:List PV->List V->Prop
 |[],xs=>xs=[]
 |v::vs,xs=>∃y ys,xs=y::ys/\yd v y/\yj vs ys
end
def yaH:Key->PV
 |.inl i=>.int i
 |.inr y=>.str y
def DK:List (PV×PV)->List (Key×V)->Prop
 |[],ks=>ks=[]
 |(k,v)::r,ks=>∃q x s,ks=(q,x)::s/\k=yaH q/\yd K cl B φ H v x/\DK r s
def DT:List (PV×PV)->List (List Key×V)->Prop
 |[],ks=>ks=[]
 |(k,v)::r,ks=>∃q x s,ks=(q,x)::s/\k=.tup (q.map yaH)/\yd K cl B φ H v x/\DT r s
def FS:List (AO×PV)->List (AO×V)->Prop
 |[],ks=>ks=[]
 |(k,v)::r,ks=>∃x s,ks=(k,x)::s/\yd K cl B φ H v x/\FS r s
def yck:Ob->AJ->Prop
 |.lst vs,a=>∃xs,H a=AA (.lst xs)/\yj K cl B φ H vs xs
 |.dct AB kvs,a=>∃ks,H a=AA (.dK ks)/\DK K cl B φ H kvs ks
 |.dct AC kvs,a=>∃ks,H a=AA (.dT ks)/\DT K cl B φ H kvs ks
 |.dead,_=>False
 |.ins c fs,a=>∃ks,(∃dx,H a=AA (.ins (cl c) dx ks))/\FS K cl B φ H fs ks
structure yC(st:SO):Prop where
 len:φ.length=st.length
 inj:∀(m n:Nat) (a:AJ),φ[m]?=AA (AA a)->φ[n]?=AA (AA a)->m=n
 obj:∀(n:Nat) (a:AJ),φ[n]?=AA (AA a)->∃o,st[n]?=AA o/\yck K cl B φ H o a
 liv:∀(n:Nat) (o:Ob),st[n]?=AA o->o ≠ .dead->∃a,φ[n]?=AA (AA a)
 nb:∀a,AA a∈φ->¬B a
 dom:∀a,B a->∃o,H a=AA o
structure yK(ρ:IC.Env)(σ:St):Prop where
 len:ρ.length=σ.length
 get:∀(i:Nat) (v:PV),ρ[i]?=AA (AA v)->∃x,σ[i]?=AA (AA x)/\yd K cl B φ H v x
end
structure Step(φ:Ph)(H:Hp)(φ':Ph)(H':Hp):Prop where
 keep:∀b o,AA b∉φ->H b=AA o->H' b=AA o
 len:φ.length<=φ'.length
 pre:∀(n:Nat) (a:AJ),n<φ.length->φ'[n]?=AA (AA a)->φ[n]?=AA (AA a)
 new:∀b,AA b∈φ'->AA b∈φ \/ H b=AD
theorem Step.rfl{φ:Ph}{H:Hp}:Step φ H φ H:=⟨λ_ _ _ e=>e,AS _,λ_ _ _ e=>e,λ_ h=>.inl h⟩
theorem Step.trans{φ φ1 φ2:Ph}{H H1 H2:Hp}(s:Step φ H φ1 H1)(t:Step φ1 H1 φ2 H2):Step φ H φ2 H2:=by
 refine⟨λb o n e=>?_,BH s.len t.len,λn a hn e=>s.pre n a hn (t.pre n a (A9 hn s.len) e),λb hb=>?_⟩
 .refine t.keep b o (λh=>?_) (s.keep b o n e);rcases s.new b h with q|q
  .exact n q
  .rw[e]at q;cases q
 .rcases t.new b hb with q|q
  .exact s.new b q
  .by_cases h:AA b∈φ
   .exact .inl h
   .refine .inr ?_
    cases e:H b with
    |none=>exact GX _
    |some o=>rw[s.keep b o h e]at q;cases q
section
variable {K:AF}{cl:Nat->AJ}{B:AJ->Prop}{φ φ':Ph}{H H':Hp}{st:SO}{ρ:IC.Env}{σ:St}
theorem Rd.step(s:Step φ H φ' H'){a:AJ}{u:HO}(n:AA a∉φ)(r:Rd H a u):Rd H' a u/\AA a∉φ':=by
 have h:∃o,H a=AA o:=by
  rcases r with r|⟨o,r⟩<;>exact⟨_,r⟩
 refine⟨?_,λz=>?_⟩
 .rcases r with r|⟨o,r⟩
  .exact .inl (s.keep _ _ n r)
  .exact .inr ⟨o,s.keep _ _ n r⟩
 .let⟨o,e⟩:=h;rcases s.new a z with q|q
  .exact n q
  .rw[e]at q;cases q
theorem ybD.step(s:Step φ H φ' H'){k:Bool}{a:AJ}{xs:List V}(r:ybD K B φ H k a xs):ybD K B φ' H' k a xs:=by
 rcases r with⟨r,b,n⟩|r
 .let⟨_,n'⟩:=(Rd.of r).step s n;exact .inl ⟨s.keep _ _ n r,b,n'⟩
 .exact .inr r
theorem yc7.step(s:Step φ H φ' H'){a:AJ}{xs:List V}(r:yc7 B φ H a xs):yc7 B φ' H' a xs:=by
 let⟨r,b,n⟩:=r;let⟨_,n'⟩:=(Rd.of r).step s n;exact⟨s.keep _ _ n r,b,n'⟩
theorem yd8.step(s:Step φ H φ' H'){a:AJ}{xs:List V}(r:yd8 K B φ H a xs):yd8 K B φ' H' a xs:=by
 rcases r with⟨r,b,n⟩|r
 .let⟨r',n'⟩:=r.step s n;exact .inl ⟨r',b,n'⟩
 .exact .inr r
mutual
theorem yd.step(s:Step φ H φ' H'):∀(v:PV) (x:V),yd K cl B φ H v x->yd K cl B φ' H' v x
 |.non,x,h=>by erw[yd]at h ⊢;exact h
 |.bl b,x,h=>by erw[yd]at h ⊢;exact h
 |.int i,x,h=>by erw[yd]at h ⊢;exact h
 |.str y,x,h=>by erw[yd]at h ⊢;exact h
 |.tp k vs,x,h=>by
  erw[yd]at h ⊢;let⟨a,xs,e,r,l⟩:=h;exact⟨a,xs,e,r.step s,yj.step s vs xs l⟩
 |.lst vs,x,h=>by
  erw[yd]at h ⊢;let⟨a,xs,e,r,l⟩:=h;exact⟨a,xs,e,r.step s,yj.step s vs xs l⟩
 |.loc n,x,h=>by
  erw[yd]at h ⊢;let⟨h1,a,e,h2⟩:=h;exact⟨A9 h1 s.len,a,e,λb q=>h2 b (s.pre n b h1 q)⟩
 |.fnc j,x,h=>by erw[yd]at h ⊢;exact h
 |.exn c,x,h=>by
  erw[yd]at h ⊢;let⟨a,e,r,b,n⟩:=h;let⟨_,n'⟩:=(Rd.of r).step s n;exact⟨a,e,s.keep _ _ n r,b,n'⟩
 |.scr vs,x,h=>by
  erw[yd]at h ⊢;let⟨a,xs,e,r,l⟩:=h;exact⟨a,xs,e,r.step s,yj.step s vs xs l⟩
theorem yj.step(s:Step φ H φ' H'):∀(v:List PV) (x:List V),yj K cl B φ H v x->yj K cl B φ' H' v x
 |[],x,h=>by erw[yj]at h ⊢;exact h
 |v::vs,x,h=>by
  erw[yj]at h ⊢;let⟨y,ys,e,r,l⟩:=h;exact⟨y,ys,e,yd.step s v y r,yj.step s vs ys l⟩
end
theorem yK.step(s:Step φ H φ' H')(r:yK K cl B φ H ρ σ):yK K cl B φ' H' ρ σ:=⟨r.len,λi v e=>by
 let⟨x,h,q⟩:=r.get i v e;exact⟨x,h,q.step s⟩⟩
mutual
theorem yd.inn(hn:∀a,AA a∈φ->¬B a):∀(v:PV) (x:V),nL v=AC->yd K cl B φ H v x->yd K cl (λa=>B a \/ AA a∈φ) [] H v x
 |.non,x,_,h=>by erw[yd]at h ⊢;exact h
 |.bl b,x,_,h=>by erw[yd]at h ⊢;exact h
 |.int i,x,_,h=>by erw[yd]at h ⊢;exact h
 |.str y,x,_,h=>by erw[yd]at h ⊢;exact h
 |.tp k vs,x,q,h=>by
  erw[yd]at h ⊢;let⟨a,xs,e,r,l⟩:=h;refine⟨a,xs,e,?_,yj.inn hn vs xs (by simpa only[nL] using q) l⟩;rcases r with⟨r,b,n⟩|r
  .exact .inl ⟨r,λz=>z.elim b n,by simp⟩
  .exact .inr r
 |.lst vs,x,q,h=>by
  erw[yd]at h ⊢;let⟨a,xs,e,⟨r,b,n⟩,l⟩:=h;exact⟨a,xs,e,⟨r,λz=>z.elim b n,by simp⟩,yj.inn hn vs xs (by simpa only[nL] using q) l⟩
 |.loc n,x,q,h=>by simp[nL]at q
 |.fnc j,x,q,h=>by erw[yd]at h ⊢;exact h
 |.exn c,x,q,h=>by simp[nL]at q
 |.scr vs,x,q,h=>by
  erw[yd]at h ⊢;let⟨a,xs,e,r,l⟩:=h;refine⟨a,xs,e,?_,yj.inn hn vs xs (by simpa only[nL] using q) l⟩;rcases r with⟨r,b,n⟩|r
  .exact .inl ⟨r,λz=>z.elim b n,by simp⟩
  .exact .inr r
theorem yj.inn(hn:∀a,AA a∈φ->¬B a):∀(v:List PV) (x:List V),nLs v=AC->yj K cl B φ H v x->yj K cl (λa=>B a \/ AA a∈φ) [] H v x
 |[],x,_,h=>by erw[yj]at h ⊢;exact h
 |v::vs,x,q,h=>by
  erw[yj]at h ⊢;erw[nLs,AG]at q;let⟨y,ys,e,r,l⟩:=h;exact⟨y,ys,e,yd.inn hn v y q.1 r,yj.inn hn vs ys q.2 l⟩
end
mutual
theorem yd.out{ψ:Ph}:∀(v:PV) (x:V),nL v=AC->yd K cl (λa=>B a \/ AA a∈φ) ψ H v x->yd K cl B φ H v x
 |.non,x,_,h=>by erw[yd]at h ⊢;exact h
 |.bl b,x,_,h=>by erw[yd]at h ⊢;exact h
 |.int i,x,_,h=>by erw[yd]at h ⊢;exact h
 |.str y,x,_,h=>by erw[yd]at h ⊢;exact h
 |.tp k vs,x,q,h=>by
  erw[yd]at h ⊢;let⟨a,xs,e,r,l⟩:=h;refine⟨a,xs,e,?_,yj.out vs xs (by simpa only[nL] using q) l⟩;rcases r with⟨r,b,n⟩|r
  .exact .inl ⟨r,λz=>b (.inl z),λz=>b (.inr z)⟩
  .exact .inr r
 |.lst vs,x,q,h=>by
  erw[yd]at h ⊢;let⟨a,xs,e,⟨r,b,n⟩,l⟩:=h;exact⟨a,xs,e,⟨r,λz=>b (.inl z),λz=>b (.inr z)⟩,yj.out vs xs (by simpa only[nL] using q) l⟩
 |.loc n,x,q,h=>by simp[nL]at q
 |.fnc j,x,q,h=>by erw[yd]at h ⊢;exact h
 |.exn c,x,q,h=>by simp[nL]at q
 |.scr vs,x,q,h=>by
  erw[yd]at h ⊢;let⟨a,xs,e,r,l⟩:=h;refine⟨a,xs,e,?_,yj.out vs xs (by simpa only[nL] using q) l⟩;rcases r with⟨r,b,n⟩|r
  .exact .inl ⟨r,λz=>b (.inl z),λz=>b (.inr z)⟩
  .exact .inr r
theorem yj.out{ψ:Ph}:∀(v:List PV) (x:List V),nLs v=AC->yj K cl (λa=>B a \/ AA a∈φ) ψ H v x->yj K cl B φ H v x
 |[],x,_,h=>by erw[yj]at h ⊢;exact h
 |v::vs,x,q,h=>by
  erw[yj]at h ⊢;erw[nLs,AG]at q;let⟨y,ys,e,r,l⟩:=h;exact⟨y,ys,e,yd.out v y q.1 r,yj.out vs ys q.2 l⟩
end
theorem yj.length:∀{v:List PV} {x:List V},yj K cl B φ H v x->v.length=x.length
 |[],x,h=>by erw[yj]at h;subst h;rfl
 |v::vs,x,h=>by
  erw[yj]at h;let⟨y,ys,rfl,_,l⟩:=h;simp[yj.length l]
theorem DK.step(s:Step φ H φ' H'):∀{kvs:List (PV×PV)} {ks:List (Key×V)},DK K cl B φ H kvs ks->DK K cl B φ' H' kvs ks
 |[],ks,h=>h
 |(k,v)::r,ks,h=>by
  let⟨q,x,t,e,m,rv,l⟩:=h;exact⟨q,x,t,e,m,rv.step s,DK.step s l⟩
theorem DT.step(s:Step φ H φ' H'):∀{kvs:List (PV×PV)} {ks:List (List Key×V)},DT K cl B φ H kvs ks->DT K cl B φ' H' kvs ks
 |[],ks,h=>h
 |(k,v)::r,ks,h=>by
  let⟨q,x,t,e,m,rv,l⟩:=h;exact⟨q,x,t,e,m,rv.step s,DT.step s l⟩
theorem FS.step(s:Step φ H φ' H'):∀{kvs:List (AO×PV)} {ks:List (AO×V)},FS K cl B φ H kvs ks->FS K cl B φ' H' kvs ks
 |[],ks,h=>h
 |(k,v)::r,ks,h=>by
  let⟨x,t,e,rv,l⟩:=h;exact⟨x,t,e,rv.step s,FS.step s l⟩
theorem yck.step(s:Step φ H φ' H'){o:Ob}{a:AJ}(e:H' a=H a)(r:yck K cl B φ H o a):yck K cl B φ' H' o a:=by
 cases o with
 |lst vs=>
  let⟨xs,q,l⟩:=r;exact⟨xs,e.trans q,l.step s⟩
 |dct t kvs=>
  cases t with
  |false=>let⟨ks,q,l⟩:=r;exact⟨ks,e.trans q,l.step s⟩
  |true=>let⟨ks,q,l⟩:=r;exact⟨ks,e.trans q,l.step s⟩
 |dead=>exact r
 |ins c fs=>let⟨ks,⟨dx,q⟩,l⟩:=r;exact⟨ks,⟨dx,e.trans q⟩,l.step s⟩
theorem yck.there{o:Ob}{a:AJ}(r:yck K cl B φ H o a):∃u,H a=AA u:=by
 cases o with
 |lst vs=>let⟨xs,q,l⟩:=r;exact⟨_,q⟩
 |dct t kvs=>cases t<;>(let⟨ks,q,l⟩:=r;exact⟨_,q⟩)
 |dead=>exact r.elim
 |ins c fs=>let⟨ks,⟨dx,q⟩,l⟩:=r;exact⟨_,q⟩
theorem yC.there(S:yC K cl B φ H st){a:AJ}(h:AA a∈φ):∃u,H a=AA u:=by
 let⟨n,e⟩:=DD.mp h;let⟨o,_,r⟩:=S.obj n a e;exact r.there
theorem Step.upd{p:AJ}{o:HO}(hp:H p=AD):Step φ H φ (upd H p o):=
 ⟨λb u n e=>by rw[zk (zn e hp)];exact e,AS _,λ_ _ _ e=>e,λ_ h=>.inl h⟩
theorem yC.same(S:yC K cl B φ H st)(k:∀b o,H b=AA o->H' b=AA o):yC K cl B φ H' st:=by
 have s:Step φ H φ H':=⟨λb o _ e=>k b o e,AS _,λ_ _ _ e=>e,λ_ h=>.inl h⟩;refine⟨S.len,S.inj,λn a e=>?_,S.liv,S.nb,λa h=>?_⟩
 .let⟨o,q,r⟩:=S.obj n a e;let⟨u,z⟩:=r.there;exact⟨o,q,r.step s ((k a u z).trans z.symm)⟩
 .let⟨o,q⟩:=S.dom a h;exact⟨o,k a o q⟩
theorem yC.upd{p:AJ}{o:HO}(S:yC K cl B φ H st)(hp:H p=AD):yC K cl B φ (upd H p o) st:=S.same λb u e=>by rw[zk (zn e hp)];exact e
mutual
theorem yd.moreB{B':AJ->Prop}(hn:∀y,B' y->B y \/ H y=AD):∀(v:PV) (x:V),yd K cl B φ H v x->yd K cl B' φ H v x
 |.non,x,h=>by erw[yd]at h ⊢;exact h
 |.bl b,x,h=>by erw[yd]at h ⊢;exact h
 |.int i,x,h=>by erw[yd]at h ⊢;exact h
 |.str y,x,h=>by erw[yd]at h ⊢;exact h
 |.tp k vs,x,h=>by
  erw[yd]at h ⊢;let⟨y,xs,e,r,l⟩:=h;refine⟨y,xs,e,?_,yj.moreB hn vs xs l⟩;rcases r with⟨r,b,n⟩|r
  .exact .inl ⟨r,λz=>(hn y z).elim b λq=>(by rw[q]at r;cases r),n⟩
  .exact .inr r
 |.lst vs,x,h=>by
  erw[yd]at h ⊢;let⟨y,xs,e,⟨r,b,n⟩,l⟩:=h;exact⟨y,xs,e,⟨r,λz=>(hn y z).elim b λq=>(by rw[q]at r;cases r),n⟩,yj.moreB hn vs xs l⟩
 |.loc n,x,h=>by erw[yd]at h ⊢;exact h
 |.fnc j,x,h=>by erw[yd]at h ⊢;exact h
 |.exn c,x,h=>by
  erw[yd]at h ⊢;let⟨y,e,r,b,n⟩:=h;exact⟨y,e,r,λz=>(hn y z).elim b λq=>(by rw[q]at r;cases r),n⟩
 |.scr vs,x,h=>by
  erw[yd]at h ⊢;let⟨y,xs,e,r,l⟩:=h;refine⟨y,xs,e,?_,yj.moreB hn vs xs l⟩;rcases r with⟨r,b,n⟩|r
  .refine .inl ⟨r,λz=>(hn y z).elim b λq=>?_,n⟩;rcases r with r|⟨o,r⟩<;>(rw[q]at r;cases r)
  .exact .inr r
theorem yj.moreB{B':AJ->Prop}(hn:∀y,B' y->B y \/ H y=AD):∀(v:List PV) (x:List V),yj K cl B φ H v x->yj K cl B' φ H v x
 |[],x,h=>by erw[yj]at h ⊢;exact h
 |v::vs,x,h=>by
  erw[yj]at h ⊢;let⟨y,ys,e,r,l⟩:=h;exact⟨y,ys,e,yd.moreB hn v y r,yj.moreB hn vs ys l⟩
end
end
end L2
namespace L2
open PySem PySem.Spec PyProof.Rows
def CXH(X:Cx)(H:Hp)(s:AK)(E:XK)(e:AH)(s':AK):Prop:=
 ∃(C a:AJ) (cls a0 fl:AH) (H':Hp) (B:Aw),X.s₀.heap.objs.size<=C/\e=.ref a/\s'.os=s.os/\Co s'.gens /\
  (B.StaysIn s'.heap/\B.get? a=AD/\s'.heap.FunFrames B X.stack/\s'.heap.TracedAtW B a cls a0 fl)/\HOk X.prog X.w H' s'.heap/\Un (frs X.stack) [C] H H' s.heap s'.heap /\
  (∀b o,s.heap.get? b=AA o->H b=AD->b∉frs X.stack->b≠C->B.get? b=AA o)/\(∀b u,H' b=AA u->∃o,B.get? b=AA o)/\(∀b o,s.heap.get? b=AA o->b∉frs X.stack->b≠C->∃o',B.get? b=AA o')/\E cls AD H'
theorem CXH.mono{X:Cx}{H:Hp}{s:AK}{E E':XK}{e:AH}{s':AK}(h:CXH X H s E e s')(n:∀cls H',E cls AD H'->E' cls AD H'):CXH X H s E' e s':=by
 let⟨C,a,cls,a0,fl,H',B,r1,r2,r3,r4,r5,r6,r7,r8,r9,r10,r11⟩:=h;exact⟨C,a,cls,a0,fl,H',B,r1,r2,r3,r4,r5,r6,r7,r8,r9,r10,n _ _ r11⟩
section
variable {M:GZ}{A:An}{E:AH->AK->Prop}{s:AK}
def zel{base:Aw}{env:Env}{outer:List Env}{L e:AJ}{cls a0 fl:AH}{Q:Unit->AK->Prop}
  (hfr:A.frames=AA (env::outer)) (hf:env.frame=AA L) (f1:base.StaysIn s.heap) (f2:base.get? e=AD) (f3:s.heap.FunFrames base (env::outer)) (f4:s.heap.TracedAtW base e cls a0 fl)
  (hQ:∀h',E4 base outer e cls a0 h'->s.heap.UpToSlots h'->Q () {s with heap:=h'}):A5 M A («leaving» env (.ref e)) Q E s:=by
 by_cases hfl:fl=rawInt L
 .subst hfl;unfold «leaving»;refine AI (wpAny_noteFrame_againW hf f4 ?_);refine wpAny_landsW ⟨f1,f2,f3,f4⟩ λh' hfl up=>?_;let⟨k1,k2,⟨_,_,k3⟩,k4⟩:=hfl;exact hQ h' ⟨k1,k2,k3,k4⟩ up
 .let⟨oe,vs,T,oT,ts,he,⟨hcls,h0⟩,hd,h1,hnT,hTe,hT,hdT,h3⟩:=f4;subst hcls;unfold «leaving» noteFrame;erw[hf];refine AI (AI (BO he hd h1 ?_));rw[if_pos (show (Al T != Bl)=AC from by simp)];refine AI (BO hT hdT h3 ?_);rw[if_neg (show ¬((fl==rawInt L)=AC)from λz=>hfl (eq_of_beq z))];refine AI (Ep hT hdT (Dj.mp h3).1 ?_);have other:∀b,b≠T->(s.heap.update T (Obj.mapFields (·.setIfInBounds 3 Bl))).get? b=s.heap.get? b:=λb hb=>Cu _ _ (BP hb);have noRecord:∀b o,s.heap.get? b=AA o->(∀vs,o.data ≠ .fields vs)->b≠T:=λb o hb hnf q=>by
   rw[q,hT]at hb;injection hb with hb;subst hb;exact hnf ts hdT
  refine wpAny_newEntryW hfr (f3.of_keeps λb o hb hnf=>⟨o,(other b (noRecord b o hb hnf)).trans hb,rfl⟩) hf ((other e (BP hTe)).trans he)
   (λb o hbo=>(other b λq=>by rw[q,hnT]at hbo;cases hbo).trans (f1 b o hbo)) f2 hd (Dj.mp h1).1 h0
   λh' ⟨x1,⟨_,_,x2⟩,x3,x4⟩=>hQ h' ⟨x1,f2,x2,x3⟩ λb o hb hnf=>x4 b o ((other b (noRecord b o hb hnf)).trans hb) hnf
end
section
variable {P:Aa}{w:Am}{K:AF}{mg:AO->Option AH}{base:Aw}{N:List AO}{qual:AO}{scope:BQ}{f:AJ}{cd:AH}{A:An}{outer:List Env}{s₀:AK}{H₀:Hp}{E:XK}
def zoz{π:List (AJ×Bb)}{σ:St}{H:Hp}{s:AK}{e:AH}{s':AK}(I:Inv (yaQ (CX1 P w) P w K mg base N qual scope f cd A outer s₀ H₀ E) π σ H s)(h:CXH (yaQ (CX1 P w) P w K mg base N qual scope f cd A outer s₀ H₀ E) H s E e s'):
  (yaQ (CX1 P w) P w K mg base N qual scope f cd A outer s₀ H₀ E).xe e s':=by
 let⟨C,a,cls,a0,fl,H',B,hC,rfl,os,bare,⟨f1,f2,f3,f4⟩,hok,un,hB,tr,hT,hE⟩:=h;have bse:Un (frs outer) [] H₀ H s₀.heap s.heap:=I.base;have lt:∀b o,s₀.heap.get? b=AA o->b≠s₀.heap.objs.size:=λb o q=>Ar (A4 q);have neC:∀b o,s₀.heap.get? b=AA o->b≠C:=λb o q=>Ar (A9 (A4 q) hC);have niC:∀b o,s₀.heap.get? b=AA o->b∉[C]:=λb o q z=>neC b o q (by simpa using z);have hst:∀b,b∈frs (envOfC qual scope s₀.heap.objs.size f cd::outer)->b=s₀.heap.objs.size \/ b∈frs outer:=λb hb=>by
  have hb':b∈s₀.heap.objs.size::frs outer:=hb;exact AL.mp hb'
 have un':Un (frs (envOfC qual scope s₀.heap.objs.size f cd::outer)) [C] H H' s.heap s'.heap:=un;have kB:∀b o,s₀.heap.get? b=AA o->H₀ b=AD->b∉frs outer->B.get? b=AA o:=λb o q n hb=>hB b o (bse.keep b o q n hb (by simp)) (bse.free b o q n (by simp)) (λz=>by
  rcases hst b z with z|z
  .exact lt b o q z
  .exact hb z) (neC b o q)
 have kT:∀b o,s₀.heap.get? b=AA o->b∉frs outer->∃o',B.get? b=AA o':=λb o q hb=>by
  let⟨o',q1⟩:=bse.there b o q (by simp);refine hT b o' q1 (λz=>?_) (neC b o q);rcases hst b z with z|z
  .exact lt b o q z
  .exact hb z
 refine zel I.ok.frames rfl f1 f2 f3 f4 λh'' fl' up=>?_;refine⟨a,cls,a0,H',B,rfl,os.trans I.os,bare,fl',HOk.inB hok f1 fl'.1 tr,⟨λb o q n hb _=>fl'.1 b o (kB b o q n hb),λb o q n hb _=>?_,λb o q n _=>?_,λb o q _=>?_,λb xs q=>un'.tups b xs (bse.tups b xs q),λb o u q=>un'.frzs b o u (bse.frzs b o u q),λb ps q=>?_⟩,kB,tr,kT,hE⟩
 .let⟨sl,q1⟩:=bse.slot b o q n hb (by simp);have n1:=bse.free b o q n (by simp);let⟨sl1,q2⟩:=un'.slot b _ q1 n1 (AU _ hb) (niC b o q);let⟨_,o',ho',hd⟩:=BR f3 (show b∈Cy (λ(z:Env)=>z.frame) _ from AU _ hb);let⟨sl',q3⟩:=up b _ q2 (by rw[ho']at q2;cases q2;exact hd);exact⟨sl',q3⟩
 .let⟨o',q1⟩:=bse.there b o q (by simp);exact un'.free b o' q1 (bse.free b o q n (by simp)) (niC b o q)
 .let⟨o',q1⟩:=bse.there b o q (by simp);let⟨o2,q2⟩:=un'.there b o' q1 (niC b o q)
  by_cases hb:b∈frs outer
  .let⟨_,o3,ho3,hd⟩:=BR f3 (show b∈Cy (λ(z:Env)=>z.frame) _ from AU _ hb);let⟨sl',q3⟩:=up b _ ho3 hd;exact⟨_,q3⟩
  .let⟨o4,q4⟩:=kT b o q hb;exact⟨o4,fl'.1 b o4 q4⟩
 .let⟨m1,e1⟩:=bse.tbls b ps q;let⟨m2,e2⟩:=un'.tbls b _ e1;exact⟨m1++m2,by rw[e2,D6]⟩
end
section
variable {pg:Aa}{wd:Am}{A:An}{R:FW->AK->Prop}{s:AK}
end
section
variable {X:Cx}{sc:BQ}{NC:List AO}{slots:List (Option Nat)}{elt tg iter:AT}{ifs:List AT}{pos:Bo}{g:TG}{ti:TT}{te:CI->TE}{E:XK}
end
end L2
namespace L2
open PySem PySem.Spec PyProof.Rows IC
structure Se where
 cl:Nat->AJ
 call:Nat->List PV->SO->R PV
 may:Bool
section
variable (S:Se)(X:Cx)
def ExcAt(σ:St)(B:AJ->Prop)(φ:Ph)(H:Hp)(k:Nat)(st':SO)(e:AH)(s':AK):Prop:=
 (∃π H1 s φ1,Inv X π σ H1 s/\Step φ H φ1 H1/\CX1 X.prog X.w X.stack H1 s (λcls _ H'=>cls=.ref (S.cl k)/\∃φ',Step φ1 H1 φ' H'/\yC X.K S.cl B φ' H' st') e s') \/
 (S.may=AC/\∃π H1 s φ1 h' e0 vs,Inv X π σ H1 s/\Step φ H φ1 H1/\yC X.K S.cl B φ1 H1 st'/\G7 s.heap h' e0 (.ref (S.cl k)) vs/\e=.ref e0/\s'={s with heap:=h'}) \/
 (S.may=AC/\∃π H1 s,Inv X π σ H1 s/\CXH X H1 s (λcls _ H'=>cls=.ref (S.cl k)/\∃φ',Step φ H φ' H'/\yC X.K S.cl B φ' H' st') e s')
def Run{α β:Type}(σ:St)(B:AJ->Prop)(φ:Ph)(H:Hp)(Rel:Ph->Hp->α->β->Prop)(r:R α)(Q:β->Hp->Prop):Prop:=
 match r with
 |.ok v st'=>∀x H' φ',Step φ H φ' H'->yC X.K S.cl B φ' H' st'->Rel φ' H' v x->Q x H'
 |.exc k st'=>∀e s',ExcAt S X σ B φ H k st' e s'->X.xe e s'
 |.bad=>False
abbrev RV(B:AJ->Prop):Ph->Hp->PV->V->Prop:=λφ H=>yd X.K S.cl B φ H
abbrev RL(B:AJ->Prop):Ph->Hp->List PV->List V->Prop:=λφ H=>yj X.K S.cl B φ H
abbrev RB:Ph->Hp->Bool->Bool->Prop:=λ_ _ b c=>b=c
def tE(c:Ce):TE:=λσ H Q=>∃B φ st ρ,yC X.K S.cl B φ H st/\yK X.K S.cl B φ H ρ σ/\Run S X σ B φ H (RV S X B) (ev S.call ρ st c) Q
def tAs(c:Ces):TA:=λσ H Q=>∃B φ st ρ,yC X.K S.cl B φ H st/\yK X.K S.cl B φ H ρ σ/\Run S X σ B φ H (RL S X B) (evs S.call ρ st c) Q
def yaV(r:R PV):R Bool:=r.bind λx st=>onO (yaL st x) λb=>.ok b st
def tTs(c:Ce):TT:=λσ H Q=>∃B φ st ρ,yC X.K S.cl B φ H st/\yK X.K S.cl B φ H ρ σ/\Run S X σ B φ H RB (yaV (ev S.call ρ st c)) Q
end
section
variable {S:Se}{X:Cx}{σ:St}{B:AJ->Prop}{φ φ1:Ph}{H H1:Hp}
theorem ExcAt.back{k:Nat}{st':SO}{e:AH}{s':AK}(s:Step φ H φ1 H1)(h:ExcAt S X σ B φ1 H1 k st' e s'):ExcAt S X σ B φ H k st' e s':=by
 rcases h with⟨π,H2,t,φ2,I,q,c⟩|⟨m,π,H2,t,φ2,h',e0,vs,I,q,c⟩|⟨m,π,H2,t,I,c⟩
 .exact .inl ⟨π,H2,t,φ2,I,s.trans q,c⟩
 .exact .inr (.inl ⟨m,π,H2,t,φ2,h',e0,vs,I,s.trans q,c⟩)
 .exact .inr (.inr ⟨m,π,H2,t,I,c.mono λcls H' ⟨e1,φ',s2,r⟩=>⟨e1,φ',s.trans s2,r⟩⟩)
variable {α β γ δ:Type}{Rel:Ph->Hp->α->β->Prop}{Gq:Ph->Hp->γ->δ->Prop}
theorem Run.on{r:R α}{Q:β->Hp->Prop}(s:Step φ H φ1 H1)(h:Run S X σ B φ H Rel r Q):Run S X σ B φ1 H1 Rel r Q:=by
 cases r with
 |ok v st'=>exact λx H' φ' t=>h x H' φ' (s.trans t)
 |exc k st'=>exact λe s' x=>h e s' (x.back s)
 |bad=>exact h
theorem Run.mono{r:R α}{Q Q':β->Hp->Prop}(h:Run S X σ B φ H Rel r Q)(k:∀x H',Q x H'->Q' x H'):Run S X σ B φ H Rel r Q':=by
 cases r with
 |ok v st'=>exact λx H' φ' t rs rv=>k x H' (h x H' φ' t rs rv)
 |exc c st'=>exact h
 |bad=>exact h
theorem Run.bind{r:R α}{k:α->SO->R γ}{Q:δ->Hp->Prop}(h:Run S X σ B φ H Gq (r.bind k) Q):
  Run S X σ B φ H Rel r λx H1=>∃v st1 φ1,Step φ H φ1 H1/\yC X.K S.cl B φ1 H1 st1/\Rel φ1 H1 v x/\Run S X σ B φ1 H1 Gq (k v st1) Q:=by
 cases r with
 |ok v st'=>exact λx H' φ' t rs rv=>⟨v,st',φ',t,rs,rv,Run.on t h⟩
 |exc c st'=>exact h
 |bad=>exact h
theorem Run.ok{v:α}{st:SO}{Q:β->Hp->Prop}(h:Run S X σ B φ H Rel (.ok v st) Q)(rs:yC X.K S.cl B φ H st){x:β}(rv:Rel φ H v x):Q x H:=h x H φ .rfl rs rv
theorem PE.imp{e:AT}{t t':TE}(h:PE X e t')(k:∀σ H Q,t σ H Q->t' σ H Q):PE X e t:=λπ s σ H Q I q=>h π s σ H Q I (k σ H Q q)
theorem PT.imp{e:AT}{t t':TT}(h:PT X e t')(k:∀σ H Q,t σ H Q->t' σ H Q):PT X e t:=λπ s σ H Q I q=>h π s σ H Q I (k σ H Q q)
theorem PW.imp{e:AT}{t t':TT}(h:PW X e t')(k:∀σ H Q,t σ H Q->t' σ H Q):PW X e t:=λwh π s σ H Q I q=>h wh π s σ H Q I (k σ H Q q)
theorem PA.imp{e:List AT}{t t':TA}(h:PA X e t')(k:∀σ H Q,t σ H Q->t' σ H Q):PA X e t:=λpos π s σ H Q I q=>h pos π s σ H Q I (k σ H Q q)
theorem tE.bind{c:Ce}{ρ:IC.Env}{st:SO}{k:PV->SO->R γ}{Q:δ->Hp->Prop}{P:V->Hp->Prop}(rs:yC X.K S.cl B φ H st)(re:yK X.K S.cl B φ H ρ σ)(h:Run S X σ B φ H Gq ((ev S.call ρ st c).bind k) Q)
  (n:∀x H1 v st1 φ1,Step φ H φ1 H1->yC X.K S.cl B φ1 H1 st1->yK X.K S.cl B φ1 H1 ρ σ->yd X.K S.cl B φ1 H1 v x->Run S X σ B φ1 H1 Gq (k v st1) Q->P x H1):tE S X c σ H P:=
 ⟨B,φ,st,ρ,rs,re,(Run.bind h).mono λx H1 ⟨v,st1,φ1,s,rs1,rv,h1⟩=>n x H1 v st1 φ1 s rs1 (re.step s) rv h1⟩
theorem tAs.bind{c:Ces}{ρ:IC.Env}{st:SO}{k:List PV->SO->R γ}{Q:δ->Hp->Prop}{P:List V->Hp->Prop}(rs:yC X.K S.cl B φ H st)(re:yK X.K S.cl B φ H ρ σ)(h:Run S X σ B φ H Gq ((evs S.call ρ st c).bind k) Q)
  (n:∀x H1 v st1 φ1,Step φ H φ1 H1->yC X.K S.cl B φ1 H1 st1->yK X.K S.cl B φ1 H1 ρ σ->yj X.K S.cl B φ1 H1 v x->Run S X σ B φ1 H1 Gq (k v st1) Q->P x H1):tAs S X c σ H P:=
 ⟨B,φ,st,ρ,rs,re,(Run.bind h).mono λx H1 ⟨v,st1,φ1,s,rs1,rv,h1⟩=>n x H1 v st1 φ1 s rs1 (re.step s) rv h1⟩
variable {i:Int}{b:Bool}{x:AO}{j:Nat}{pos:Bo}{e a a':AT}{c ca cb cc:Ce}
def zjp:PE X (.Constant (.int i) j pos) (tE S X (.cst (.int i))):=zn6.imp λσ H Q ⟨B,φ,st,ρ,rs,re,h⟩=>by
 erw[ev]at h;exact h.ok rs (by erw[yd])
def znO:PE X (.Constant (.bool b) j pos) (tE S X (.cst (.bl b))):=zoo.imp λσ H Q ⟨B,φ,st,ρ,rs,re,h⟩=>by
 erw[ev]at h;exact h.ok rs (by erw[yd])
def znj:PE X (.Constant .none j pos) (tE S X (.cst .non)):=zop.imp λσ H Q ⟨B,φ,st,ρ,rs,re,h⟩=>by
 erw[ev]at h;exact h.ok rs (by erw[yd])
def zmu:PE X (.Constant (.str x) j pos) (tE S X (.cst (.str x))):=zn7.imp λσ H Q ⟨B,φ,st,ρ,rs,re,h⟩=>by
 erw[ev]at h;exact h.ok rs (by erw[yd])
def zmS{i:Nat}(hN:X.N[i]?=AA x)(hv:Vis X.env.scope x)(hd:(x==("__debug__":AO))=false:=by decide)(hcd:(x==("__classdict__":AO))=false:=by decide):PE X (.Name x pos) (tE S X (.var i)):=
 (zl4 hN hv hd hcd).imp λσ H Q ⟨B,φ,st,ρ,rs,re,h⟩=>by
  erw[ev]at h
  cases q:ρ[i]? with
  |none=>rw[q]at h;exact h.elim
  |some o=>
   cases o with
   |none=>rw[q]at h;exact h.elim
   |some v=>
    rw[q]at h;let⟨y,hy,rv⟩:=re.get i v q;exact⟨y,hy,h.ok rs rv⟩
def zg1{v:PV}{y:AJ}(hg:Gl X x)(hm:X.mg x=AA (.ref y))(hk:∀B φ H,yd X.K S.cl B φ H v (.ref y))(hd:(x==("__debug__":AO))=false:=by decide):PE X (.Name x pos) (tE S X (.cst v)):=
 (zcp hg hm (show RelV (.ref y) (.ref y)from rfl) hd).imp λσ H Q ⟨B,φ,st,ρ,rs,re,h⟩=>by
  erw[ev]at h;exact h.ok rs (hk B φ H)
def z4{o:Option PV}{st:SO}{Q:VK}(h:Run S X σ B φ H (RV S X B) (toR o st) Q)(rs:yC X.K S.cl B φ H st):∃z,o=AA z/\∀z' H' φ',Step φ H φ' H'->yC X.K S.cl B φ' H' st->yd X.K S.cl B φ' H' z z'->Q z' H':=by
 cases o with
 |none=>exact h.elim
 |some z=>exact⟨z,rfl,h⟩
def rT2(S:Se)(X:Cx)(f:PV->PV->Option PV):R2:=λx y H Q=>∃B φ st v w z,yC X.K S.cl B φ H st/\yd X.K S.cl B φ H v x/\yd X.K S.cl B φ H w y/\f v w=AA z /\
 ∀z' H' φ',Step φ H φ' H'->yC X.K S.cl B φ' H' st->yd X.K S.cl B φ' H' z z'->Q z' H'
def zmB{op:DN}{o:BOp}(ho:OpR X (binaryOp op) (rT2 S X (yP o)))(ha:PE X a (tE S X ca))(hb:PE X a' (tE S X cb)):PE X (.BinOp a op a' pos) (tE S X (.bin o ca cb)):=
 (zl2 ho ha hb).imp λσ H Q ⟨B,φ,st,ρ,rs,re,h⟩=>by
  erw[ev]at h;refine tE.bind rs re h λx H1 v st1 φ1 s1 rs1 re1 rv h1=>tE.bind rs1 re1 h1 λy H2 w st2 φ2 s2 rs2 re2 rw h2=>?_;let⟨z,e,q⟩:=z4 h2 rs2;exact⟨B,φ2,st2,v,w,z,rs2,rv.step s2,rw,e,q⟩
def zni{op:FM}{o:COp}(ho:OpR X (compareOp op) (rT2 S X (yD o)))(ha:PE X a (tE S X ca))(hb:PE X a' (tE S X cb))(hm:behindInMarks op a'=AB):PE X (.Compare a [op] [a'] pos) (tE S X (.cmp o ca cb)):=
 (zez ho ha hb hm).imp λσ H Q ⟨B,φ,st,ρ,rs,re,h⟩=>by
  erw[ev]at h;refine tE.bind rs re h λx H1 v st1 φ1 s1 rs1 re1 rv h1=>tE.bind rs1 re1 h1 λy H2 w st2 φ2 s2 rs2 re2 rw h2=>?_;let⟨z,e,q⟩:=z4 h2 rs2;exact⟨B,φ2,st2,v,w,z,rs2,rv.step s2,rw,e,q⟩
end
section
variable {S:Se}{X:Cx}{σ:St}{B:AJ->Prop}{φ φ1:Ph}{H H1:Hp}{K:AF}{cl:Nat->AJ}{st:SO}
theorem ybD.sq{k:Bool}{a:AJ}{xs:List V}(r:ybD K B φ H k a xs):SqT K H a xs:=by
 rcases r with⟨r,_⟩|r
 .exact .inl (.inl r)
 .exact .inr r.2
theorem yc7.sq{a:AJ}{xs:List V}(r:yc7 B φ H a xs):SqL K H a xs:=.inl (.inl r.1)
theorem yd.tup_new{vs:List PV}{xs:List V}{p:AJ}(hp:H p=AD)(rs:yC K cl B φ H st)(r:yj K cl B φ H vs xs):yd K cl B φ (upd H p (.tup xs)) (.tup vs) (.ref p):=by
 erw[yd];refine⟨p,xs,rfl,.inl ⟨zl,λz=>?_,λz=>?_⟩,r.step (.upd hp)⟩
 .let⟨o,e⟩:=rs.dom p z;rw[hp]at e;cases e
 .let⟨o,e⟩:=rs.there z;rw[hp]at e;cases e
theorem yd.lst_new{vs:List PV}{xs:List V}{p:AJ}(hp:H p=AD)(rs:yC K cl B φ H st)(r:yj K cl B φ H vs xs):yd K cl B φ (upd H p (.lst xs)) (.lst vs) (.ref p):=by
 erw[yd];refine⟨p,xs,rfl,⟨zl,λz=>?_,λz=>?_⟩,r.step (.upd hp)⟩
 .let⟨o,e⟩:=rs.dom p z;rw[hp]at e;cases e
 .let⟨o,e⟩:=rs.there z;rw[hp]at e;cases e
theorem yj.append:∀{vs ws:List PV} {xs ys:List V},yj K cl B φ H vs xs->yj K cl B φ H ws ys->yj K cl B φ H (vs++ws) (xs++ys)
 |[],ws,xs,ys,h,q=>by erw[yj]at h;subst h;exact q
 |v::vs,ws,xs,ys,h,q=>by
  erw[yj]at h;let⟨y,zs,rfl,r,l⟩:=h;show yj K cl B φ H (v::(vs++ws)) (y::(zs++ys));erw[yj];exact⟨y,zs++ys,rfl,r,yj.append l q⟩
theorem yj.get:∀{vs:List PV} {xs:List V} (j:Nat) {v:PV},yj K cl B φ H vs xs->vs[j]?=AA v->∃x,xs[j]?=AA x/\yd K cl B φ H v x
 |[],xs,j,v,h,e=>by simp at e
 |w::vs,xs,0,v,h,e=>by
  erw[yj]at h;let⟨y,zs,rfl,r,l⟩:=h;simp at e;subst e;exact⟨y,rfl,r⟩
 |w::vs,xs,j+1,v,h,e=>by
  erw[yj]at h;let⟨y,zs,rfl,r,l⟩:=h;let⟨x,q1,q2⟩:=yj.get j l (by simpa using e);exact⟨x,by simpa using q1,q2⟩
theorem yj.drop:∀{vs:List PV} {xs:List V} (n:Nat),yj K cl B φ H vs xs->yj K cl B φ H (vs.drop n) (xs.drop n)
 |vs,xs,0,h=>by simpa using h
 |[],xs,n+1,h=>by erw[yj]at h;subst h;simp[yj]
 |v::vs,xs,n+1,h=>by
  erw[yj]at h;let⟨y,ys,rfl,_,l⟩:=h;simpa using yj.drop n l
theorem yj.take:∀{vs:List PV} {xs:List V} (n:Nat),yj K cl B φ H vs xs->yj K cl B φ H (vs.take n) (xs.take n)
 |vs,xs,0,h=>by simp[yj]
 |[],xs,n+1,h=>by erw[yj]at h;subst h;simp[yj]
 |v::vs,xs,n+1,h=>by
  erw[yj]at h;let⟨y,ys,rfl,r,l⟩:=h;erw[List.take_succ_cons,yj];exact⟨y,ys.take n,rfl,r,yj.take n l⟩
def zdb{f:AH->AH->Ge AH}{o:BOp}{C:Int->Int->Prop}{g:Int->Int->Int}(h:OpR X f (rI C λi j=>.int (g i j)))
  (hb:∀v w z,yP o v w=AA z->∃i j,v=.int i/\w=.int j/\C i j/\z=.int (g i j)):OpR X f (rT2 S X (yP o)):=by
 rintro π s σ H x y v u Q I rx ry ⟨B,φ,st,a,b,z,rs,ra,rb,e,q⟩
 let⟨i,j,rfl,rfl,hc,rfl⟩:=hb a b z e;erw[yd]at ra rb;subst ra rb;exact h π s σ H _ _ v u Q I rx ry ⟨i,j,rfl,rfl,hc,q _ H φ .rfl rs (by erw[yd])⟩
def zhT{f:AH->AH->Ge AH}{o:BOp}{g:Int->Int->Int}(h:OpR X f (rI0 λi j=>.int (g i j)))
  (hb:∀v w z,yP o v w=AA z->∃i j,v=.int i/\w=.int j/\z=.int (g i j)):OpR X f (rT2 S X (yP o)):=by
 rintro π s σ H x y v u Q I rx ry ⟨B,φ,st,a,b,z,rs,ra,rb,e,q⟩
 let⟨i,j,rfl,rfl,rfl⟩:=hb a b z e;erw[yd]at ra rb;subst ra rb;exact h π s σ H _ _ v u Q I rx ry ⟨i,j,rfl,rfl,q _ H φ .rfl rs (by erw[yd])⟩
def zjW(v w z:PV)(h:yP .sub v w=AA z):∃i j,v=.int i/\w=.int j/\z=.int (i-j):=by
 unfold yP at h;split at h<;>first|(cases h;done)|skip
 exact⟨_,_,rfl,rfl,(A6 h).symm⟩
def zjX(v w z:PV)(h:yP .mul v w=AA z):∃i j,v=.int i/\w=.int j/\ydD i j/\z=.int (i*j):=by
 unfold yP at h;split at h<;>first|(cases h;done)|skip
 rename_i i j;erw[IC.binI]at h;split at h
 .rename_i c;refine⟨i,j,rfl,rfl,?_,(A6 h).symm⟩;erw[yaT,DW,decide_eq_true_eq]at c;unfold ydD;rcases c with c|c
  .left;constructor<;>lia
  .right;constructor<;>lia
 .cases h
def zh0(v w z:PV)(h:yP .fdiv v w=AA z):∃i j,v=.int i/\w=.int j/\ydN i j/\z=.int (i/j):=by
 unfold yP at h;split at h<;>first|(cases h;done)|skip
 rename_i i j;erw[IC.binI]at h;split at h
 .rename_i c;exact⟨i,j,rfl,rfl,c,(A6 h).symm⟩
 .cases h
def zlc(v w z:PV)(h:yP .mod v w=AA z):∃i j,v=.int i/\w=.int j/\0<j/\z=.int (i%j):=by
 unfold yP at h;split at h<;>first|(cases h;done)|skip
 rename_i i j;erw[IC.binI]at h;split at h
 .rename_i c;exact⟨i,j,rfl,rfl,c,(A6 h).symm⟩
 .cases h
def zkd(v w z:PV)(h:yP .pow v w=AA z):∃i j,v=.int i/\w=.int j/\yfW i j/\z=.int (i^j.toNat):=by
 unfold yP at h;split at h<;>first|(cases h;done)|skip
 rename_i i j;erw[IC.binI]at h;split at h
 .rename_i c;exact⟨i,j,rfl,rfl,⟨c.1,c.2.1,by have:=c.2.2;lia⟩,(A6 h).symm⟩
 .cases h
def zlu:OpR X (binaryOp .Sub) (rT2 S X (yP .sub)):=zhT znu zjW
def zmd:OpR X (binaryOp .Mult) (rT2 S X (yP .mul)):=zdb zmr zjX
def zjD:OpR X (binaryOp .FloorDiv) (rT2 S X (yP .fdiv)):=zdb zhC zh0
def zmT:OpR X (binaryOp .Mod) (rT2 S X (yP .mod)):=zdb zl7 zlc
def zl5:OpR X (binaryOp .Pow) (rT2 S X (yP .pow)):=zdb zlB zkd
def zB:sizeMax=sizeLine:=by rw[CS];rfl
def zkz:OpR X (binaryOp .Add) (λx y H Q=>∃a b ys,x=.ref a/\y=.ref b/\SqT X.K H a []/\SqT X.K H b ys/\Q (.ref b) H):=by
 intro π s σ H x y v u Q I rx ry h;let⟨a,b,ys,rfl,rfl,ha,hb,q⟩:=h
 cases rx
 cases ry
 let⟨its,r1,p1,_⟩:=I.tuple ha;let⟨its2,r2,p2,_⟩:=I.tuple hb;have:its=[]:=r1.nil_iff.mpr rfl;subst this;let⟨⟨cls,dd,data,sl⟩,ho,hc,n,hd⟩:=id p1;let⟨⟨cls2,dd2,data2,sl2⟩,ho2,hc2,n2,hd2⟩:=id p2;simp only at hc hd hc2 hd2;subst hc hd hc2 hd2;exact Fa ⟨_,ho,rfl⟩ ⟨_,ho2,rfl⟩ EN FN Ct Cn (Cg _ _)
   (tuple_addW0 a b [].toArray its2.toArray n n2 dd dd2 sl sl2 (by simp)) ⟨ho,ho2,⟨.ref b,H,I,rfl,q⟩⟩
def zli:OpR X (binaryOp .Add) (rT2 S X (yP .add)):=by
 rintro π s σ H x y v u Q I rx ry ⟨B,φ,st,a,b,z,rs,ra,rb,e,q⟩
 unfold yP at e;split at e
 .rename_i i j;erw[yd]at ra rb;subst ra rb
  cases e
  exact znd π s σ H _ _ v u Q I rx ry ⟨i,j,rfl,rfl,q _ H φ .rfl rs (by erw[yd])⟩
 .rename_i i k;erw[yd]at ra rb;subst ra rb
  cases e
  exact zfT π s σ H _ _ v u Q I rx ry ⟨i,k,rfl,rfl,q _ H φ .rfl rs (by erw[yd];cases k<;>rfl)⟩
 .rename_i i j;erw[yd]at ra rb;subst ra rb;dsimp only at e;split at e
  .rename_i c
   cases e
   exact zfq π s σ H _ _ v u Q I rx ry ⟨i,j,rfl,rfl,by rw[<-zB];exact c,q _ H φ .rfl rs (by erw[yd])⟩
  .cases e
 .rename_i k1 vs k2 ws;erw[yd]at ra rb;let⟨p,xs,rfl,r1,l1⟩:=ra;let⟨p',ys,rfl,r2,l2⟩:=rb;dsimp only at e;split at e
  .rename_i c
   cases e
   have n1:=l1.length;have n2:=l2.length;unfold yel at q
   cases vs with
   |nil=>
    have:xs=[]:=by cases xs with|nil=>rfl|cons _ _=>simp at n1
    subst this;refine zkz π s σ H _ _ v u Q I rx ry ⟨p,p',ys,rfl,rfl,r1.sq,r2.sq,q _ H φ .rfl rs ?_⟩;erw[GF,if_true,yd];exact⟨p',ys,rfl,r2,l2⟩
   |cons v1 vr=>
    erw[Fj,Ap,if_false]at q;refine zlb π s σ H _ _ v u Q I rx ry ⟨p,p',xs,ys,rfl,rfl,r1.sq,r2.sq,?_,by rw[<-zB];lia,λz=>?_,λz t ht=>?_⟩
    .rintro rfl
     simp at n1
    .subst z;have:ws=[]:=by cases ws with|nil=>rfl|cons _ _=>simp at n2
     subst this;erw[GF,if_true]at q;refine q _ H φ .rfl rs ?_;erw[yd];exact⟨p,xs,rfl,r1,l1⟩
    .cases ws with
     |nil=>exact absurd (List.length_eq_zero_iff.mp n2.symm) z
     |cons w1 wr=>
      erw[Fj,Ap,if_false]at q;exact q _ _ φ (.upd ht) (rs.upd ht) (.tup_new ht rs (l1.append l2))
  .cases e
 .rename_i vs ws;erw[yd]at ra rb;let⟨p,xs,rfl,r1,l1⟩:=ra;let⟨p',ys,rfl,r2,l2⟩:=rb;dsimp only at e;split at e
  .rename_i c
   cases e
   have n1:=l1.length;have n2:=l2.length;exact zjr π s σ H _ _ v u Q I rx ry ⟨p,p',xs,ys,rfl,rfl,r1.1,r2.1,by rw[<-zB];lia,λt ht=>q _ _ φ (.upd ht) (rs.upd ht) (.lst_new ht rs (l1.append l2))⟩
  .cases e
 .cases e
end
mutual
noncomputable def toD:PV->PyData
 |.non=>.none
 |.bl b=>.bool b
 |.int i=>.int i
 |.str x=>.str x
 |.tp _ xs=>.tuple (ybz xs)
 |.lst xs=>.list (ybz xs)
 |_=>.none
noncomputable def ybz:List PV->List PyData
 |[]=>[]
 |x::xs=>toD x::ybz xs
end
mutual
theorem zc7:∀(v:PV) (n:Nat),shd n v=AC->(toD v).canLay0=AC/\(toD v).depth<=n
 |.non,n,h=>by simp[toD,C7,Cz]
 |.bl b,n,h=>by simp[toD,C7,Cz]
 |.int i,n,h=>by simp[toD,C7,Cz]
 |.str x,n,h=>by
  erw[shd]at h;erw[toD,C7,Cz,Ab,and_true];exact h
 |.tp _ xs,n,h=>by
  erw[shd,AG,decide_eq_true_eq]at h;let⟨q1,q2⟩:=zda xs (n-1) h.2;erw[toD,C7,Cz];exact⟨q1,by lia⟩
 |.lst xs,n,h=>by
  erw[shd,AG,decide_eq_true_eq]at h;let⟨q1,q2⟩:=zda xs (n-1) h.2;erw[toD,C7,Cz];exact⟨q1,by lia⟩
 |.loc k,n,h=>by simp[shd]at h
 |.fnc k,n,h=>by simp[shd]at h
 |.exn k,n,h=>by simp[shd]at h
 |.scr xs,n,h=>by simp[shd]at h
theorem zda:∀(v:List PV) (n:Nat),yaZ n v=AC->Dx (ybz v)=AC/\Eb (ybz v)<=n
 |[],n,h=>by simp[ybz,Dx,Eb]
 |v::vs,n,h=>by
  erw[yaZ,AG]at h;let⟨q1,q2⟩:=zc7 v n h.1;let⟨q3,q4⟩:=zda vs n h.2;erw[ybz,Dx,Eb,AG];exact⟨⟨q1,q3⟩,by lia⟩
end
def zaZ{v:PV}(h:shp v=AC):Gr (toD v)=true:=by
 let⟨q1,q2⟩:=zc7 v 60 h;unfold Gr;rw[q1,A8,decide_eq_true_eq];lia
mutual
theorem zc4:∀(v w:PV) (n m:Nat),shd n v=AC->shd m w=AC->BI (toD v) (toD w)=peq v w
 |.non,w,n,m,h,q=>by cases w<;>simp_all[toD,BI,peq,shd]
 |.bl b,w,n,m,h,q=>by cases w<;>simp_all[toD,BI,peq,shd,bi]
 |.int i,w,n,m,h,q=>by cases w<;>simp_all[toD,BI,peq,shd,bi]
 |.str x,w,n,m,h,q=>by cases w<;>simp_all[toD,BI,peq,shd]
 |.tp _ xs,.tp _ ys,n,m,h,q=>by
  erw[shd,AG]at h q;erw[toD,BI,peq];exact zdm xs ys (n-1) (m-1) h.2 q.2
 |.lst xs,.lst ys,n,m,h,q=>by
  erw[shd,AG]at h q;erw[toD,BI,peq];exact zdm xs ys (n-1) (m-1) h.2 q.2
 |.tp _ xs,.non,n,m,h,q=>by simp[toD,BI,peq]
 |.tp _ xs,.bl _,n,m,h,q=>by simp[toD,BI,peq]
 |.tp _ xs,.int _,n,m,h,q=>by simp[toD,BI,peq]
 |.tp _ xs,.str _,n,m,h,q=>by simp[toD,BI,peq]
 |.tp _ xs,.lst _,n,m,h,q=>by simp[toD,BI,peq]
 |.lst xs,.non,n,m,h,q=>by simp[toD,BI,peq]
 |.lst xs,.bl _,n,m,h,q=>by simp[toD,BI,peq]
 |.lst xs,.int _,n,m,h,q=>by simp[toD,BI,peq]
 |.lst xs,.str _,n,m,h,q=>by simp[toD,BI,peq]
 |.lst xs,.tp _ _,n,m,h,q=>by simp[toD,BI,peq]
 |.loc k,w,n,m,h,q=>by simp[shd]at h
 |.fnc k,w,n,m,h,q=>by simp[shd]at h
 |.exn k,w,n,m,h,q=>by simp[shd]at h
 |.scr k,w,n,m,h,q=>by simp[shd]at h
 |v,.loc k,n,m,h,q=>by simp[shd]at q
 |v,.fnc k,n,m,h,q=>by simp[shd]at q
 |v,.exn k,n,m,h,q=>by simp[shd]at q
 |v,.scr k,n,m,h,q=>by simp[shd]at q
theorem zdm:∀(v w:List PV) (n m:Nat),yaZ n v=AC->yaZ m w=AC->DM (ybz v) (ybz w)=ybi v w
 |[],[],n,m,h,q=>by simp[ybz,DM,ybi]
 |[],y::ys,n,m,h,q=>by simp[ybz,DM,ybi]
 |x::xs,[],n,m,h,q=>by simp[ybz,DM,ybi]
 |x::xs,y::ys,n,m,h,q=>by
  erw[yaZ,AG]at h q;erw[ybz,DM,ybi];rw[zc4 x y n m h.1 q.1,zdm xs ys n m h.2 q.2]
end
section
variable {S:Se}{X:Cx}{σ:St}{B:AJ->Prop}{φ φ1:Ph}{H H1:Hp}{st:SO}{π:List (AJ×Bb)}{s:AK}
mutual
theorem zaB(I:Inv X π σ H s):∀(v:PV) (n:Nat) (x:V) (u:AH),shd n v=AC->yd X.K S.cl B φ H v x->RelV x u->∃as,Reads s.heap u (toD v) as
 |.non,n,x,u,h,r,q=>by
  erw[yd]at r;subst r;cases (show u=Bl from q);exact⟨_,.none⟩
 |.bl b,n,x,u,h,r,q=>by
  erw[yd]at r;subst r;cases (show u=CT b from q);exact⟨_,.bool b⟩
 |.int i,n,x,u,h,r,q=>by
  erw[yd]at r;subst r;let⟨t,rfl⟩:=q;exact⟨_,.int i t⟩
 |.str y,n,x,u,h,r,q=>by
  erw[yd]at r;subst r;let⟨t,rfl⟩:=q;exact⟨_,.str y t⟩
 |.tp _ vs,n,x,u,h,r,q=>by
  erw[yd]at r;let⟨a,xs,rfl,rt,l⟩:=r
  cases (show u=Al a from q)
  erw[shd,AG]at h;let⟨its,rv,⟨o,g,c,k,d⟩,_⟩:=I.tuple rt.sq;let⟨as,z⟩:=zcf I vs (n-1) xs its h.2 l rv;exact⟨as,.tuple g c d (by simpa using z)⟩
 |.lst vs,n,x,u,h,r,q=>by
  erw[yd]at r;let⟨a,xs,rfl,rt,l⟩:=r
  cases (show u=Al a from q)
  erw[shd,AG]at h;let⟨its,rv,⟨o,k,g,c,_,d⟩,_⟩:=I.list (rt.sq (K:=X.K));let⟨as,z⟩:=zcf I vs (n-1) xs its h.2 l rv;exact⟨_,.list g c d (by simpa using z)⟩
 |.loc k,n,x,u,h,r,q=>by simp[shd]at h
 |.fnc k,n,x,u,h,r,q=>by simp[shd]at h
 |.exn k,n,x,u,h,r,q=>by simp[shd]at h
 |.scr k,n,x,u,h,r,q=>by simp[shd]at h
theorem zcf(I:Inv X π σ H s):∀(v:List PV) (n:Nat) (x:List V) (u:List AH),yaZ n v=AC->yj X.K S.cl B φ H v x->Vals x u->∃as,ReadsAll s.heap u (ybz v) as
 |[],n,x,u,h,r,q=>by
  erw[yj]at r;subst r;cases q;exact⟨_,.nil⟩
 |v::vs,n,x,u,h,r,q=>by
  erw[yj]at r;let⟨y,ys,rfl,rv,l⟩:=r;erw[yaZ,AG]at h
  cases q with
  |cons q1 q2=>
   let⟨as,z1⟩:=zaB I v n y _ h.1 rv q1;let⟨bs,z2⟩:=zcf I vs n ys _ h.2 l q2;exact⟨_,.cons z1 z2⟩
end
def znV(hu:X.A.units+64<cLine):OpR X (compareOp .Eq) (rT2 S X (yD .eq)):=by
 rintro π s σ H x y v u Q I rx ry ⟨B,φ,st,a,b,z,rs,ra,rb,e,q⟩
 erw[yD]at e;split at e
 .rename_i c;rw[AG]at c
  cases e
  let⟨as,z1⟩:=zaB (S:=S) I a 60 x v c.1 ra rx;let⟨bs,z2⟩:=zaB (S:=S) I b 60 y u c.2 rb ry;refine eq_dataH z1 z2 (zaZ c.1) (zaZ c.2) hu ⟨.bl _,H,I,rfl,?_⟩;rw[zc4 a b 60 60 c.1 c.2];exact q _ H φ .rfl rs (by erw[yd])
 .cases e
def znS(hu:X.A.units+64<cLine):OpR X (compareOp .NotEq) (rT2 S X (yD .ne)):=by
 rintro π s σ H x y v u Q I rx ry ⟨B,φ,st,a,b,z,rs,ra,rb,e,q⟩
 erw[yD]at e;split at e
 .rename_i c;rw[AG]at c
  cases e
  let⟨as,z1⟩:=zaB (S:=S) I a 60 x v c.1 ra rx;let⟨bs,z2⟩:=zaB (S:=S) I b 60 y u c.2 rb ry;refine ne_dataH z1 z2 (zaZ c.1) (zaZ c.2) hu ⟨.bl _,H,I,rfl,?_⟩;rw[zc4 a b 60 60 c.1 c.2];exact q _ H φ .rfl rs (by erw[yd])
 .cases e
def zf1{f:AH->AH->Ge AH}{o:COp}{g:Int->Int->Bool}(h:OpR X f (rI0 λi j=>.bl (g i j)))
  (hb:∀v w z,yD o v w=AA z->∃i j,v=.int i/\w=.int j/\z=.bl (g i j)):OpR X f (rT2 S X (yD o)):=by
 rintro π s σ H x y v u Q I rx ry ⟨B,φ,st,a,b,z,rs,ra,rb,e,q⟩
 let⟨i,j,rfl,rfl,rfl⟩:=hb a b z e;erw[yd]at ra rb;subst ra rb;exact h π s σ H _ _ v u Q I rx ry ⟨i,j,rfl,rfl,q _ H φ .rfl rs (by erw[yd])⟩
def zf4:OpR X (compareOp .LtE) (λx y H Q=>∃i j,x=.str i/\y=.str j/\Q (.bl (!decide (j.cps.toList<i.cps.toList))) H):=by
 intro π s σ H x y v u Q I rx ry h;let⟨i,j,rfl,rfl,q⟩:=h;let⟨t,rfl⟩:=rx;let⟨t',rfl⟩:=ry;exact PySem.P.le_str (zdW I q rfl)
def znF:OpR X (compareOp .Lt) (rT2 S X (yD .lt)):=by
 rintro π s σ H x y v u Q I rx ry ⟨B,φ,st,a,b,z,rs,ra,rb,e,q⟩
 erw[yD]at e;split at e
 .rename_i i j;erw[yd]at ra rb;subst ra rb
  cases e
  exact znT π s σ H _ _ v u Q I rx ry ⟨i,j,rfl,rfl,q _ H φ .rfl rs (by erw[yd])⟩
 .rename_i i j;erw[yd]at ra rb;subst ra rb
  cases e
  exact zg6 π s σ H _ _ v u Q I rx ry ⟨i,j,rfl,rfl,q _ H φ .rfl rs (by erw[yd])⟩
 .cases e
def znJ:OpR X (compareOp .LtE) (rT2 S X (yD .le)):=by
 rintro π s σ H x y v u Q I rx ry ⟨B,φ,st,a,b,z,rs,ra,rb,e,q⟩
 erw[yD]at e;split at e
 .rename_i i j;erw[yd]at ra rb;subst ra rb
  cases e
  exact znN π s σ H _ _ v u Q I rx ry ⟨i,j,rfl,rfl,q _ H φ .rfl rs (by erw[yd])⟩
 .rename_i i j;erw[yd]at ra rb;subst ra rb
  cases e
  exact zf4 π s σ H _ _ v u Q I rx ry ⟨i,j,rfl,rfl,q _ H φ .rfl rs (by erw[yd])⟩
 .cases e
def ze0{o:COp}{g:Int->Int->Bool}(ho:∀v w,yD o v w=match v,w with
   |.int i,.int j=>ybH o i j
   |.str a,.str b=>ydu o a b
   |_,_=>AD) (hs:∀a b,ydu o a b=AD) (hg:∀i j,ybH o i j=AA (.bl (g i j))) (v w z:PV) (h:yD o v w=AA z):∃i j,v=.int i/\w=.int j/\z=.bl (g i j):=by
 rw[ho]at h;split at h
 .rename_i i j;rw[hg]at h;exact⟨i,j,rfl,rfl,(A6 h).symm⟩
 .rw[hs]at h;cases h
 .cases h
def znD:OpR X (compareOp .Gt) (rT2 S X (yD .gt)):=zf1 znX (ze0 (λ_ _=>rfl) (λ_ _=>rfl) λ_ _=>rfl)
def znx:OpR X (compareOp .GtE) (rT2 S X (yD .ge)):=zf1 znW (ze0 (λ_ _=>rfl) (λ_ _=>rfl) λ_ _=>rfl)
theorem yd.isNon{K:AF}{cl:Nat->AJ}{v:PV}{x:V}(r:yd K cl B φ H v x):decide (x=.non)=IC.isNon v:=by
 cases v with
 |loc n=>erw[yd]at r;let⟨_,a,rfl,_⟩:=r;rfl
 |non=>erw[yd]at r;subst r;rfl
 |bl b=>erw[yd]at r;subst r;rfl
 |int b=>erw[yd]at r;subst r;rfl
 |str b=>erw[yd]at r;subst r;rfl
 |tp k vs=>erw[yd]at r;let⟨a,xs,rfl,_⟩:=r;rfl
 |lst vs=>erw[yd]at r;let⟨a,xs,rfl,_⟩:=r;rfl
 |fnc j=>erw[yd]at r;subst r;rfl
 |exn vs=>erw[yd]at r;let⟨a,rfl,_⟩:=r;rfl
 |scr vs=>erw[yd]at r;let⟨a,xs,rfl,_⟩:=r;rfl
def zhD{M:GZ}{A:An}{E:AH->AK->Prop}{s:AK}{a b:Bool}{Q:AH->AK->Prop}(h:Q (.bool (a==b)) s):A5 M A (compareOp .Is (.bool a) (.bool b)) Q E s:=by
 have e:(CT a==CT b)=(a==b):=by cases a<;>cases b<;>rfl
 rw[<-e]at h;exact A0 h
def znK:OpR X (compareOp .Is) (rT2 S X (yD .is)):=by
 rintro π s σ H x y v u Q I rx ry ⟨B,φ,st,a,b,z,rs,ra,rb,e,q⟩
 erw[yD]at e;split at e
 .cases e
  erw[yd]at rb;exact zmw π s σ H _ _ v u Q I rx ry ⟨rb,q _ H φ .rfl rs (by erw[yd];rw[ra.isNon])⟩
 .rename_i k;split at e
  .rename_i j
   cases e
   erw[yd]at ra rb;subst ra rb
   cases (show v=CT j from rx)
   cases (show u=CT k from ry)
   exact zhD (zdW I (q _ H φ .rfl rs (by erw[yd])) rfl)
  .cases e
 .cases e
theorem yd.flat{K:AF}{cl:Nat->AJ}{v:PV}{x:V}(r:yd K cl B φ H v x)(h:IC.flat v=AC):yav x=AC/\∀(w:PV) (y:V),IC.flat w=AC->yd K cl B φ H w y->eqV x y=peq v w:=by
 cases v with
 |non=>
  erw[yd]at r;subst r;refine⟨rfl,λw y hw rw=>?_⟩
  cases w<;>first|(simp[IC.flat]at hw;done)|(erw[yd]at rw;subst rw;simp[eqV,peq,bi])
 |bl b=>
  erw[yd]at r;subst r;refine⟨rfl,λw y hw rw=>?_⟩
  cases w<;>first|(simp[IC.flat]at hw;done)|(erw[yd]at rw;subst rw;simp[eqV,peq,bi])
 |int b=>
  erw[yd]at r;subst r;refine⟨rfl,λw y hw rw=>?_⟩
  cases w<;>first|(simp[IC.flat]at hw;done)|(erw[yd]at rw;subst rw;simp[eqV,peq,bi])
 |str b=>
  erw[yd]at r;subst r;refine⟨rfl,λw y hw rw=>?_⟩
  cases w<;>first|(simp[IC.flat]at hw;done)|(erw[yd]at rw;subst rw;simp[eqV,peq,bi])
 |_=>simp[IC.flat]at h
def zaV{K:AF}{cl:Nat->AJ}{v:PV}{x:V}(r:yd K cl B φ H v x)(h:IC.flat v=AC):∀{vs:List PV} {xs:List V},yj K cl B φ H vs xs->vs.all IC.flat=AC->xs.all yav=AC/\inV x xs=inL v vs
 |[],xs,l,_=>by erw[yj]at l;subst l;exact⟨rfl,rfl⟩
 |w::vs,xs,l,f=>by
  erw[yj]at l;let⟨y,ys,rfl,rw,l⟩:=l;rw[Ay,AG]at f;let⟨q1,q2⟩:=zaV r h l f.2;let⟨q3,q4⟩:=rw.flat f.1;refine⟨by rw[Ay,q3,q1];rfl,?_⟩;unfold inV at q2 ⊢;rw[B8,q2,q4 v x h r];rfl
end
def zjR(a b:AO):(!(EL b a 0 b.length 1).isEmpty)=inS a b:=by
 rw[Ck,StrLaws.found_iff];unfold inS;rw[DF];constructor
 .rintro⟨i,h1,h2⟩
  exact⟨i,by rw[GY];lia,by rw[AG,decide_eq_true_eq];exact⟨h1,h2⟩⟩
 .rintro⟨i,_,h⟩
  rw[AG,decide_eq_true_eq]at h;exact⟨i,h.1,h.2⟩
section
variable {S:Se}{X:Cx}{σ:St}{B:AJ->Prop}{φ φ1:Ph}{H H1:Hp}{st:SO}
def znG:OpR X (compareOp .In) (rT2 S X (yD .isin)):=by
 rintro π s σ H x y v u Q I rx ry ⟨B,φ,st,a,b,z,rs,ra,rb,e,q⟩
 erw[yD]at e;split at e
 .rename_i i j;erw[yd]at ra rb;subst ra rb
  cases e
  exact zfI π s σ H _ _ v u Q I rx ry ⟨i,j,rfl,rfl,by rw[zjR];exact q _ H φ .rfl rs (by erw[yd])⟩
 .rename_i l;split at e
  .rename_i c;rw[AG]at c
   cases e
   erw[yd]at rb;let⟨p,xs,rfl,r,l'⟩:=rb;let⟨q1,q2⟩:=zaV ra c.1 l' c.2;exact zd4 π s σ H _ _ v u Q I rx ry ⟨p,xs,rfl,.inr r.sq,(ra.flat c.1).1,q1,q _ H φ .rfl rs (by erw[yd];rw[<-q2];rfl)⟩
  .cases e
 .rename_i l;split at e
  .rename_i c;rw[AG]at c
   cases e
   erw[yd]at rb;let⟨p,xs,rfl,r,l'⟩:=rb;let⟨q1,q2⟩:=zaV ra c.1 l' c.2;exact zd4 π s σ H _ _ v u Q I rx ry ⟨p,xs,rfl,.inl r.sq,(ra.flat c.1).1,q1,q _ H φ .rfl rs (by erw[yd];rw[<-q2];rfl)⟩
  .cases e
 .cases e
theorem yj.empty{K:AF}{cl:Nat->AJ}{vs:List PV}{xs:List V}(l:yj K cl B φ H vs xs):vs.isEmpty=xs.isEmpty:=by
 have:=l.length
 cases vs<;>cases xs<;>simp_all
def zk6{K:AF}{cl:Nat->AJ}{v:PV}{x:V}{k:Bool}(rs:yC K cl B φ H st)(r:yd K cl B φ H v x)(h:yaL st v=AA k):yfb K x H k:=by
 cases v with
 |non=>erw[yd]at r;subst r;cases h;rfl
 |bl b=>erw[yd]at r;subst r;cases h;rfl
 |int b=>erw[yd]at r;subst r;cases h;rfl
 |str b=>
  erw[yd]at r;subst r;erw[yaL]at h;split at h
  .rename_i c
   cases h
   exact⟨by rw[<-zB];exact c,rfl⟩
  .cases h
 |tp k vs=>
  erw[yd]at r;let⟨a,xs,rfl,rt,l⟩:=r
  cases h
  exact .inr (.inl ⟨xs,rt.sq,by rw[l.empty]⟩)
 |lst vs=>
  erw[yd]at r;let⟨a,xs,rfl,rt,l⟩:=r
  cases h
  exact .inl ⟨xs,rt.sq,by rw[l.empty]⟩
 |loc n=>
  erw[yd]at r;let⟨hn,a,rfl,ha⟩:=r;erw[yaL]at h;split at h
  .rename_i vs hv
   cases h
   let⟨b,hb⟩:=rs.liv n _ hv (by intro z;cases z);obtain rfl:=ha b hb;let⟨o,ho,ro⟩:=rs.obj n b hb;rw[hv]at ho;cases ho;let⟨xs,hx,l⟩:=ro;exact .inl ⟨xs,.of hx,by rw[l.empty]⟩
  .cases h
 |fnc c=>cases h
 |exn c=>cases h
 |scr c=>cases h
end
theorem R.bind_assoc{α β γ:Type}{r:R α}{k:α->SO->R β}{l:β->SO->R γ}:(r.bind k).bind l=r.bind λa s=>(k a s).bind l:=by
 cases r<;>rfl
section
variable {S:Se}{X:Cx}{σ:St}{B:AJ->Prop}{φ φ1:Ph}{H H1:Hp}{st:SO}{ρ:IC.Env}{pos:Bo}{a b c d:AT}{ca cb cc:Ce}{es:List AT}{ces:Ces}
def zdl{o:COp}{v w z:PV}(h:yD o v w=AA z):∃k,z=.bl k:=by
 cases o<;>erw[yD]at h
 all_goals (repeat' split at h)<;>first|(cases h;done)|(cases h;exact⟨_,rfl⟩)|skip
 all_goals (erw[ybH]at h;cases h;exact⟨_,rfl⟩)
def zno{op:FM}{o:COp}(ho:OpR X (compareOp op) (rT2 S X (yD o)))(ha:PE X a (tE S X ca))(hb:PE X b (tE S X cb))(hm:behindInMarks op b=AB):PT X (.Compare a [op] [b] pos) (tTs S X (.cmp o ca cb)):=
 (zgZ ho ha hb hm).imp λσ H Q ⟨B,φ,st,ρ,rs,re,h⟩=>by
  erw[ev,yaV,R.bind_assoc]at h;refine tE.bind rs re h λx H1 v st1 φ1 s1 rs1 re1 rv h1=>tE.bind rs1 re1 h1 λy H2 w st2 φ2 s2 rs2 re2 rw h2=>?_
  cases e:yD o v w with
  |none=>rw[e]at h2;exact h2.elim
  |some z=>
   let⟨k,rfl⟩:=zdl e;rw[e]at h2;refine⟨B,φ2,st2,v,w,.bl k,rs2,rv.step s2,rw,e,λz' H' φ' s' rs' rz=>?_⟩;erw[yd]at rz;exact⟨k,rz,h2 k H' φ' s' rs' rfl⟩
def zme(ha:PE X a (tE S X ca))(he:∀whole,isTrue a X.env whole=(do let v <-whole;standAt a.pos;holding [v] (truthy v)):=by intro _;rfl):PT X a (tTs S X ca):=
 (ziS ha he).imp λσ H Q ⟨B,φ,st,ρ,rs,re,h⟩=>by
  erw[yaV]at h;refine tE.bind rs re h λx H1 v st1 φ1 s1 rs1 re1 rv h1=>?_
  cases e:yaL st1 v with
  |none=>rw[e]at h1;exact h1.elim
  |some k=>
   rw[e]at h1;exact⟨k,zk6 rs1 rv e,h1.ok rs1 rfl⟩
theorem tTs.bind{γ δ:Type}{Gq:Ph->Hp->γ->δ->Prop}{k:Bool->SO->R γ}{Q:δ->Hp->Prop}{P:Bool->Hp->Prop}(rs:yC X.K S.cl B φ H st)(re:yK X.K S.cl B φ H ρ σ)(h:Run S X σ B φ H Gq ((yaV (ev S.call ρ st ca)).bind k) Q)
  (n:∀b H1 st1 φ1,Step φ H φ1 H1->yC X.K S.cl B φ1 H1 st1->yK X.K S.cl B φ1 H1 ρ σ->Run S X σ B φ1 H1 Gq (k b st1) Q->P b H1):tTs S X ca σ H P:=
 ⟨B,φ,st,ρ,rs,re,(Run.bind h).mono λx H1 ⟨v,st1,φ1,s,rs1,rv,h1⟩=>by
  subst rv;exact n v H1 st1 φ1 s rs1 (re.step s) h1⟩
def zem(r:R PV)(f:Bool->SO->R PV):yaV (r.bind λx st1=>onBl x λb=>f b st1)=r.bind λx st1=>onBl x λb=>yaV (f b st1):=by
 unfold yaV;rw[R.bind_assoc]
 congr 1
 funext x st1
 cases x<;>rfl
theorem Run.bl_tru{r:R PV}{k:Bool->SO->R Bool}{Q:Bool->Hp->Prop}(h:Run S X σ B φ H RB (r.bind λx st1=>onBl x λb=>k b st1) Q):Run S X σ B φ H RB ((yaV r).bind k) Q:=by
 cases r with
 |bad=>exact h
 |exc c s=>exact h
 |ok v s=>
  cases v with
  |bl b=>exact h
  |_=>exact h.elim
def zne(ha:PT X a (tTs S X ca)):PT X (.UnaryOp .Not a pos) (tTs S X (.not ca)):=
 (zmc ha).imp λσ H Q ⟨B,φ,st,ρ,rs,re,h⟩=>by
  erw[ev]at h;rw[zem _ λk st1=>.ok (.bl (!k)) st1]at h;exact tTs.bind rs re (Run.bl_tru (k:=λb st1=>.ok (!b) st1) h) λb H1 st1 φ1 s1 rs1 re1 h1=>h1.ok rs1 rfl
variable {rest:List AT}
def zkt(ha:PT X a (tTs S X ca)):PW X (.BoolOp .And [a] pos) (tTs S X ca):=zjG ha
def zns(ha:PT X a (tTs S X ca)):PW X (.BoolOp .Or [a] pos) (tTs S X ca):=zmW ha
def zm3(ha:PT X a (tTs S X ca))(hb:PW X (.BoolOp .And (b::rest) pos) (tTs S X cb)):PW X (.BoolOp .And (a::b::rest) pos) (tTs S X (.and ca cb)):=
 (znm ha hb).imp λσ H Q ⟨B,φ,st,ρ,rs,re,h⟩=>by
  erw[ev]at h;rw[zem _ λk st1=>cond k (ev S.call ρ st1 cb) (.ok (.bl AB) st1)]at h;refine tTs.bind rs re (Run.bl_tru h) λk H1 st1 φ1 s1 rs1 re1 h1=>?_
  cases k with
  |false=>exact h1.ok rs1 rfl
  |true=>exact⟨B,φ1,st1,ρ,rs1,re1,h1⟩
def znR(ha:PT X a (tTs S X ca))(hb:PW X (.BoolOp .Or (b::rest) pos) (tTs S X cb)):PW X (.BoolOp .Or (a::b::rest) pos) (tTs S X (.or ca cb)):=
 (zn0 ha hb).imp λσ H Q ⟨B,φ,st,ρ,rs,re,h⟩=>by
  erw[ev]at h;rw[zem _ λk st1=>cond k (.ok (.bl AC) st1) (ev S.call ρ st1 cb)]at h;refine tTs.bind rs re (Run.bl_tru h) λk H1 st1 φ1 s1 rs1 re1 h1=>?_
  cases k with
  |true=>exact h1.ok rs1 rfl
  |false=>exact⟨B,φ1,st1,ρ,rs1,re1,h1⟩
def zi7{op:Gu}(h:PE X a (tE S X ca)):PE X (.BoolOp op [a] pos) (tE S X ca):=zm1 h
def zji(ha:PE X a (tE S X ca))(hb:PE X (.BoolOp .And (b::rest) pos) (tE S X cb)):PE X (.BoolOp .And (a::b::rest) pos) (tE S X (.and ca cb)):=
 (zlX ha hb).imp λσ H Q ⟨B,φ,st,ρ,rs,re,h⟩=>by
  erw[ev]at h;refine tE.bind rs re h λx H1 v st1 φ1 s1 rs1 re1 rv h1=>?_
  cases v with
  |bl k=>
   erw[yd]at rv;refine⟨k,rv,?_⟩
   cases k with
   |true=>exact⟨B,φ1,st1,ρ,rs1,re1,h1⟩
   |false=>exact h1.ok rs1 (by erw[yd])
  |_=>exact h1.elim
def zlP(ha:PE X a (tE S X ca))(hb:PE X (.BoolOp .Or (b::rest) pos) (tE S X cb)):PE X (.BoolOp .Or (a::b::rest) pos) (tE S X (.or ca cb)):=
 (znA ha hb).imp λσ H Q ⟨B,φ,st,ρ,rs,re,h⟩=>by
  erw[ev]at h;refine tE.bind rs re h λx H1 v st1 φ1 s1 rs1 re1 rv h1=>?_
  cases v with
  |bl k=>
   erw[yd]at rv;refine⟨k,rv,?_⟩
   cases k with
   |false=>exact⟨B,φ1,st1,ρ,rs1,re1,h1⟩
   |true=>exact h1.ok rs1 (by erw[yd])
  |_=>exact h1.elim
def zmN(ha:PE X a (tE S X ca)):PE X (.UnaryOp .Not a pos) (tE S X (.not ca)):=
 (zmi ha).imp λσ H Q ⟨B,φ,st,ρ,rs,re,h⟩=>by
  erw[ev]at h;refine tE.bind rs re h λx H1 v st1 φ1 s1 rs1 re1 rv h1=>?_
  cases v with
  |bl k=>
   erw[yd]at rv;exact⟨k,rv,h1.ok rs1 (by erw[yd])⟩
  |_=>exact h1.elim
def zjs(ha:PE X a (tE S X ca)):PE X (.UnaryOp .USub a pos) (tE S X (.neg ca)):=
 (zn3 zmq ha).imp λσ H Q ⟨B,φ,st,ρ,rs,re,h⟩=>by
  erw[ev]at h;refine tE.bind rs re h λx H1 v st1 φ1 s1 rs1 re1 rv h1=>?_;split at h1
  .simp only[yd]at rv;exact⟨_,rv,h1.ok rs1 (by erw[yd])⟩
  .exact h1.elim
def znc(hc:PT X c (tTs S X cc))(ha:PE X a (tE S X ca))(hb:PE X b (tE S X cb)):PE X (.IfExp c a b pos) (tE S X (.ite cc ca cb)):=
 (zh8 hc ha hb).imp λσ H Q ⟨B,φ,st,ρ,rs,re,h⟩=>by
  erw[ev]at h;have e:((ev S.call ρ st cc).bind λx st1=>onO (yaL st1 x) λk=>cond k (ev S.call ρ st1 ca) (ev S.call ρ st1 cb))=(yaV (ev S.call ρ st cc)).bind λk st1=>cond k (ev S.call ρ st1 ca) (ev S.call ρ st1 cb):=by
   unfold yaV;rw[R.bind_assoc]
   congr 1
   funext x st1
   cases yaL st1 x<;>rfl
  rw[e]at h;refine tTs.bind rs re h λk H1 st1 φ1 s1 rs1 re1 h1=>?_
  cases k with
  |true=>exact⟨B,φ1,st1,ρ,rs1,re1,h1⟩
  |false=>exact⟨B,φ1,st1,ρ,rs1,re1,h1⟩
def zbk:PA X [] (tAs S X .nil):=zfv.imp λσ H Q ⟨B,φ,st,ρ,rs,re,h⟩=>by
 erw[evs]at h;exact h.ok rs (by erw[yj])
def zak(ha:PE X a (tE S X ca))(hr:PA X es (tAs S X ces))(hs:starEach (a::es) X.env=(AB,eval a X.env)::starEach es X.env:=by rfl):PA X (a::es) (tAs S X (.cons ca ces)):=
 (zab ha hr hs).imp λσ H Q ⟨B,φ,st,ρ,rs,re,h⟩=>by
  erw[evs]at h;refine tE.bind rs re h λx H1 v st1 φ1 s1 rs1 re1 rv h1=>tAs.bind rs1 re1 h1 λxs H2 vs st2 φ2 s2 rs2 re2 rvs h2=>?_;refine h2.ok rs2 ?_;erw[yj];exact⟨x,xs,rfl,rv.step s2,rvs⟩
def zmE{k:Nat}(h:PA X es (tAs S X ces)):PE X (.Tuple es k pos) (tE S X (.tup ces)):=
 (zgo h).imp λσ H Q ⟨B,φ,st,ρ,rs,re,h⟩=>by
  erw[ev]at h;refine tAs.bind rs re h λxs H1 vs st1 φ1 s1 rs1 re1 rv h1=>?_;split at h1
  .rename_i c;refine⟨by rw[<-zB,<-rv.length];exact c,λp hp=>h1 _ _ φ1 (.upd hp) (rs1.upd hp) (.tup_new hp rs1 rv)⟩
  .exact h1.elim
def zlm(h:PA X es (tAs S X ces)):PE X (.List es pos) (tE S X (.lst ces)):=
 (zjb h).imp λσ H Q ⟨B,φ,st,ρ,rs,re,h⟩=>by
  erw[ev]at h;refine tAs.bind rs re h λxs H1 vs st1 φ1 s1 rs1 re1 rv h1=>?_;split at h1
  .rename_i c;refine⟨by rw[<-zB,<-rv.length];exact c,λp hp=>h1 _ _ φ1 (.upd hp) (rs1.upd hp) (.lst_new hp rs1 rv)⟩
  .exact h1.elim
theorem Step.push{p:AJ}{o:HO}(hp:H p=AD):Step φ H (φ++[AA p]) (L2.upd H p o):=by
 refine⟨λb u n e=>by rw[zk (zn e hp)];exact e,by simp,λn a hn e=>?_,λb h=>?_⟩
 .rw[AY hn]at e;exact e
 .rw[Ak]at h;rcases h with h|h
  .exact .inl h
  .have:b=p:=by simpa using h
   subst this;exact .inr hp
theorem yC.push{K:AF}{cl:Nat->AJ}{p:AJ}{u:HO}{o:Ob}(rs:yC K cl B φ H st)(hp:H p=AD)(hb:¬B p)(ho:yck K cl B (φ++[AA p]) (L2.upd H p u) o p):yC K cl B (φ++[AA p]) (L2.upd H p u) (st++[o]):=by
 have s:Step φ H (φ++[AA p]) (L2.upd H p u):=.push hp;have np:AA p∉φ:=λz=>by
  let⟨w,e⟩:=rs.there z;rw[hp]at e;cases e
 have hl:φ.length=st.length:=rs.len;refine⟨by simp[hl],λm n a e1 e2=>?_,λn a e=>?_,λn o' e ho'=>?_,λa h=>?_,λa h=>?_⟩
 .by_cases hm:m<φ.length
  .rw[AY hm]at e1
   by_cases hn:n<φ.length
   .rw[AY hn]at e2;exact rs.inj m n a e1 e2
   .rw[Ad ∅]at e2;have:a=p:=by
     cases q:n-φ.length with
     |zero=>rw[q]at e2;simpa using e2.symm
     |succ k=>rw[q]at e2;simp at e2
    subst this;exact absurd (AR e1) np
  .rw[Ad ∅]at e1;have:m-φ.length=0/\a=p:=by
    cases q:m-φ.length with
    |zero=>rw[q]at e1;exact⟨rfl,by simpa using e1.symm⟩
    |succ k=>rw[q]at e1;simp at e1
   let⟨q1,rfl⟩:=this
   by_cases hn:n<φ.length
   .rw[AY hn]at e2;exact absurd (AR e2) np
   .rw[Ad ∅]at e2;have:n-φ.length=0:=by
     cases q:n-φ.length with
     |zero=>rfl
     |succ k=>rw[q]at e2;simp at e2
    lia
 .by_cases hn:n<φ.length
  .rw[AY hn]at e;let⟨o',q,r⟩:=rs.obj n a e;refine⟨o',by rw[AY ∅];exact q,r.step s ?_⟩;rw[zk]
   rintro rfl
   exact np (AR e)
  .rw[Ad ∅]at e;have:n-φ.length=0/\a=p:=by
    cases q:n-φ.length with
    |zero=>rw[q]at e;exact⟨rfl,by simpa using e.symm⟩
    |succ k=>rw[q]at e;simp at e
   let⟨q1,rfl⟩:=this;refine⟨o,?_,ho⟩;rw[Ad ∅];have:n-st.length=0:=by lia
   rw[this];rfl
 .by_cases hn:n<φ.length
  .rw[AY ∅]at e;let⟨a,q⟩:=rs.liv n o' e ho';exact⟨a,by rw[AY hn];exact q⟩
  .rw[Ad ∅]at e;have:n-st.length=0:=by
    cases q:n-st.length with
    |zero=>rfl
    |succ k=>rw[q]at e;simp at e
   refine⟨p,?_⟩;rw[Ad ∅];have:n-φ.length=0:=by lia
   rw[this];rfl
 .rw[Ak]at h;rcases h with h|h
  .exact rs.nb a h
  .have:a=p:=by simpa using h
   subst this;exact hb
 .let⟨w,e⟩:=rs.dom a h;exact⟨w,by rw[zk (zn e hp)];exact e⟩
theorem yC.nB{K:AF}{cl:Nat->AJ}{p:AJ}(rs:yC K cl B φ H st)(hp:H p=AD):¬B p:=λz=>by
 let⟨o,e⟩:=rs.dom p z;rw[hp]at e;cases e
theorem yd.loc_new{K:AF}{cl:Nat->AJ}{p:AJ}(rs:yC K cl B φ H st):yd K cl B (φ++[AA p]) H1 (.loc st.length) (.ref p):=by
 erw[yd];have hl:=rs.len;refine⟨by simp[hl],p,rfl,λb e=>?_⟩;rw[Ad ∅]at e;have:st.length-φ.length=0:=by lia
 rw[this]at e;simpa using e.symm
def zkF(h:PA X es (tAs S X ces)):PE X (.List es pos) (tE S X (.newl ces)):=
 (zjb h).imp λσ H Q ⟨B,φ,st,ρ,rs,re,h⟩=>by
  erw[ev]at h;refine tAs.bind rs re h λxs H1 vs st1 φ1 s1 rs1 re1 rv h1=>?_;split at h1
  .rename_i c;refine⟨by rw[<-zB,<-rv.length];exact c,λp hp=>h1 _ _ (φ1++[AA p]) (.push hp) (rs1.push hp (rs1.nB hp) ⟨xs,zl,rv.step (.push hp)⟩) (.loc_new rs1)⟩
  .exact h1.elim
end
section
variable {S:Se}{X:Cx}{σ:St}{B:AJ->Prop}{φ φ1:Ph}{H H1:Hp}{st:SO}{ρ:IC.Env}{pos p2:Bo}{a b c d:AT}{ca cb cc:Ce}{es:List AT}{ces:Ces}{K:AF}{cl:Nat->AJ}
def zgj{o:COp}{v w:PV}{α β:Type}{Rel:Ph->Hp->α->β->Prop}{k:Bool->R α}{Q:β->Hp->Prop}(h:Run S X σ B φ H Rel (onO (blO (yD o v w)) k) Q):∃b,yD o v w=AA (.bl b)/\Run S X σ B φ H Rel (k b) Q:=by
 cases e:yD o v w with
 |none=>rw[e]at h;exact h.elim
 |some z=>
  let⟨b,rfl⟩:=zdl e;rw[e]at h;exact⟨b,rfl,h⟩
def zhP{op op':FM}{o p:COp}(ho:OpR X (compareOp op) (rT2 S X (yD o)))(ho':OpR X (compareOp op') (rT2 S X (yD p)))(ha:PE X a (tE S X ca))(hb:PE X b (tE S X cb))(hc:PE X c (tE S X cc))
  (hm:lastMarks [op,op'] [b,c]=false:=by ac_rfl):PE X (.Compare a [op,op'] [b,c] pos) (tE S X (.chain o p ca cb cc)):=
 (ziF ho ho' ha hb hc hm).imp λσ H Q ⟨B,φ,st,ρ,rs,re,h⟩=>by
  erw[ev]at h;refine tE.bind rs re h λx H1 v st1 φ1 s1 rs1 re1 rv h1=>tE.bind rs1 re1 h1 λy H2 w st2 φ2 s2 rs2 re2 rw h2=>?_;let⟨k,e,h2⟩:=zgj h2;refine⟨B,φ2,st2,v,w,.bl k,rs2,rv.step s2,rw,e,λz' H' φ' s' rs' rz=>?_⟩;erw[yd]at rz;refine⟨k,rz,?_⟩
  cases k with
  |false=>exact h2 _ H' φ' s' rs' (by erw[yd])
  |true=>
   refine tE.bind rs' (re2.step s') (Run.on s' h2) λz H3 v3 st3 φ3 s3 rs3 re3 rv3 h3=>?_;let⟨q,eq,hq⟩:=z4 h3 rs3;exact⟨B,φ3,st3,w,v3,q,rs3,(rw.step s').step s3,rv3,eq,hq⟩
def ziH{op op':FM}{o p:COp}(ho:OpR X (compareOp op) (rT2 S X (yD o)))(ho':OpR X (compareOp op') (rT2 S X (yD p)))(ha:PE X a (tE S X ca))(hb:PE X b (tE S X cb))(hc:PE X c (tE S X cc))
  (hm:lastMarks [op,op'] [b,c]=false:=by ac_rfl):PT X (.Compare a [op,op'] [b,c] pos) (tTs S X (.chain o p ca cb cc)):=
 (zhZ ho ho' ha hb hc hm).imp λσ H Q ⟨B,φ,st,ρ,rs,re,h⟩=>by
  erw[ev,yaV,R.bind_assoc]at h;refine tE.bind rs re h λx H1 v st1 φ1 s1 rs1 re1 rv h1=>tE.bind rs1 re1 h1 λy H2 w st2 φ2 s2 rs2 re2 rw h2=>?_;have h2':Run S X σ B φ2 H2 RB (onO (blO (yD o v w)) λk=>cond k ((ev S.call ρ st2 cc).bind λz st3=>(toR (yD p w z) st3).bind λx st=>onO (yaL st x) λb=>.ok b st) (.ok AB st2)) Q:=by
   cases e:yD o v w with
   |none=>rw[e]at h2;exact h2
   |some z=>
    let⟨b,rfl⟩:=zdl e;rw[e]at h2
    cases b with
    |false=>exact h2
    |true=>
     erw[blO,onO,cond_true,R.bind_assoc]at h2 ⊢;exact h2
  let⟨k,e,h2⟩:=zgj h2';refine⟨B,φ2,st2,v,w,.bl k,rs2,rv.step s2,rw,e,λz' H' φ' s' rs' rz=>?_⟩;erw[yd]at rz;refine⟨k,rz,?_⟩
  cases k with
  |false=>exact⟨AB,rfl,h2 _ H' φ' s' rs' rfl⟩
  |true=>
   refine tE.bind rs' (re2.step s') (Run.on s' h2) λz H3 v3 st3 φ3 s3 rs3 re3 rv3 h3=>?_
   cases eq:yD p w v3 with
   |none=>rw[eq]at h3;exact h3.elim
   |some q=>
    let⟨b,rfl⟩:=zdl eq;rw[eq]at h3;refine⟨B,φ3,st3,w,v3,.bl b,rs3,(rw.step s').step s3,rv3,eq,λz2 H4 φ4 s4 rs4 rz4=>?_⟩;erw[yd]at rz4;exact⟨b,rz4,h3 b H4 φ4 s4 rs4 rfl⟩
theorem yj.at{vs:List PV}{xs:List V}{i:Int}{v:PV}(l:yj K cl B φ H vs xs)(h:at? vs i=AA v):∃x,atI xs i=AA x/\yd K cl B φ H v x:=by
 unfold at? at h;rw[l.length]at h;unfold atI
 cases e:ixI xs.length i with
 |none=>rw[e]at h;cases h
 |some j=>
  rw[e]at h;have e':ixN xs.length i=AA j:=e;rw[e'];exact l.get j h
theorem yC.list{n:Nat}{vs:List PV}{x:V}(rs:yC K cl B φ H st)(r:yd K cl B φ H (.loc n) x)(h:st[n]?=AA (.lst vs)):∃a xs,x=.ref a/\φ[n]?=AA (AA a)/\H a=AA (.lst xs)/\yj K cl B φ H vs xs:=by
 erw[yd]at r;let⟨hn,a,rfl,ha⟩:=r;let⟨b,hb⟩:=rs.liv n _ h (by intro z;cases z);obtain rfl:=ha b hb;let⟨o,ho,ro⟩:=rs.obj n b hb;rw[h]at ho;cases ho;let⟨xs,hx,l⟩:=ro;exact⟨b,xs,rfl,hb,hx,l⟩
def rTS(S:Se)(X:Cx)(f:SO->PV->PV->Option PV):R2:=λx y H Q=>∃B φ st v w z,yC X.K S.cl B φ H st/\yd X.K S.cl B φ H v x/\yd X.K S.cl B φ H w y/\f st v w=AA z /\
 ∀z' H' φ',Step φ H φ' H'->yC X.K S.cl B φ' H' st->yd X.K S.cl B φ' H' z z'->Q z' H'
def zb4{α:Type}{xs:List α}{i:PV}{z:α}(h:yaG xs i=AA z):∃k,i=.int k/\at? xs k=AA z:=by
 cases i with
 |int k=>exact⟨k,rfl,h⟩
 |_=>cases h
def zku:IxR X (rTS S X idxV):=by
 rintro value slice π s σ H x y v u Q I rx ry ⟨B,φ,st,a,i,z,rs,ra,ri,e,q⟩ hs
 cases a with
 |tp k vs=>
  let⟨k,rfl,e⟩:=zb4 e;erw[yd]at ra ri;subst ri;let⟨p,xs,rfl,rt,l⟩:=ra;let⟨w,e1,rw⟩:=l.at e;exact zeU value slice π s σ H _ _ v u Q I rx ry (.inr (.inl ⟨p,xs,k,w,rfl,rfl,rt.sq,e1,q w H φ .rfl rs rw⟩)) hs
 |lst vs=>
  let⟨k,rfl,e⟩:=zb4 e;erw[yd]at ra ri;subst ri;let⟨p,xs,rfl,rt,l⟩:=ra;let⟨w,e1,rw⟩:=l.at e;exact zeU value slice π s σ H _ _ v u Q I rx ry (.inl ⟨p,xs,k,w,rfl,rfl,rt.sq,e1,q w H φ .rfl rs rw⟩) hs
 |loc n=>
  erw[idxV]at e;split at e
  .rename_i vs h1;let⟨k,rfl,e⟩:=zb4 e;erw[yd]at ri;subst ri;let⟨p,xs,rfl,_,hx,l⟩:=rs.list ra h1;let⟨w,e1,rw⟩:=l.at e;exact zeU value slice π s σ H _ _ v u Q I rx ry (.inl ⟨p,xs,k,w,rfl,rfl,.of hx,e1,q w H φ .rfl rs rw⟩) hs
  .cases e
 |str t=>
  erw[idxV]at e;split at e
  .rename_i hl
   cases e1:yaG t.cps.toList i with
   |none=>rw[e1]at e;cases e
   |some c=>
    rw[e1]at e
    cases e
    let⟨k,rfl,e1⟩:=zb4 e1;erw[yd]at ra ri;subst ra ri;exact zeU value slice π s σ H _ _ v u Q I rx ry (.inr (.inr ⟨t,k,c,rfl,rfl,by rw[<-zB];exact hl,e1,q _ H φ .rfl rs (by erw[yd])⟩)) hs
  .cases e
 |_=>cases e
def zna(ha:PE X a (tE S X ca))(hb:PE X b (tE S X cb))(hs:ybp b:=by exact λ_ _=>rfl):PE X (.Subscript a b pos) (tE S X (.idx ca cb)):=
 (znI zku ha hb hs).imp λσ H Q ⟨B,φ,st,ρ,rs,re,h⟩=>by
  erw[ev]at h;refine tE.bind rs re h λx H1 v st1 φ1 s1 rs1 re1 rv h1=>tE.bind rs1 re1 h1 λy H2 w st2 φ2 s2 rs2 re2 rw h2=>?_;let⟨z,e,q⟩:=z4 h2 rs2;exact⟨B,φ2,st2,v,w,z,rs2,rv.step s2,rw,e,q⟩
theorem yj.cut{vs:List PV}{xs:List V}(lo hi:Option Int)(l:yj K cl B φ H vs xs):yj K cl B φ H (IC.cut vs lo hi) (ycG xs lo hi):=by
 have e1:∀n o,ycm n o=HT.sIx n 0 o:=λn o=>by cases o<;>rfl
 have e2:∀n o,yb5 n o=HT.sIx n n o:=λn o=>by cases o<;>rfl
 unfold IC.cut ycG;rw[l.length,e1,e2];exact(l.drop _).take _
def tO(S:Se)(X:Cx)(c:Ce):TO:=λσ H Q=>tE S X c σ H λx H1=>(x=.non/\Q AD H1) \/ ∃i,x=.int i/\Q (AA i) H1
def zkK:PO X AD (tO S X (.cst .non)):=λπ s σ H Q I h=>by
 refine zkH π s σ H Q I ?_;let⟨B,φ,st,ρ,rs,re,h⟩:=h;erw[ev]at h;rcases h.ok rs (x:=V.non) (by erw[yd])with q|⟨i,z,_⟩
 .exact q.2
 .cases z
def zky(ha:PE X a (tE S X ca)):PO X (AA a) (tO S X ca):=by
 intro π s σ H Q I hw;rw[evalPart_some];refine thn (ha π s σ H _ I hw) λu s1 kq=>?_;let⟨x,H1,I1,r1,q1⟩:=kq;rcases q1 with⟨rfl,q⟩|⟨i,rfl,q⟩
 .cases r1
  exact⟨AD,H1,I1,.none,q⟩
 .let⟨t,rfl⟩:=r1;exact⟨AA i,H1,I1,.int i t,q⟩
def rSl(S:Se)(X:Cx):V->Option Int->Option Int->Hp->VK->Prop:=λx lo hi H Q=>∃B φ st v z,yC X.K S.cl B φ H st/\yd X.K S.cl B φ H v x/\yb3 v lo hi=AA z /\
 ∀z' H' φ',Step φ H φ' H'->yC X.K S.cl B φ' H' st->yd X.K S.cl B φ' H' z z'->Q z' H'
def zbh{prog:Aa}{w:Am}{A:An}{E:AH->AK->Prop}{s:AK}{t sl:AJ}{items:Array AH}{vl vu:AH}{lo hi:Option Int}{Q:AH->AK->Prop}(ht:Gy s.heap t items)(hs:s.heap.IsSliceOf sl vl vu .none)(pl:E1 vl lo)(pu:E1 vu hi)
  (hw:HT.sIx items.size 0 lo=0/\HT.sIx items.size items.size hi=items.size)
  (h:Q (.ref t) s):A5 (model prog w) A (getItem (.ref t) (.ref sl)) Q E s:=by
 let⟨os,hos,hcs,hds⟩:=id hs;have hTs:s.TypeIs (.ref sl) "slice":=⟨os,hos,hcs⟩;unfold getItem
 try with_reducible refine DI ?_
 first|refine AI (A0 ?_)|skip
 refine AI (Fb ht.typeIs ⋯ ?_);refine AI (B3 (name:=AE "__getitem__") ht.typeIs BC
  (CP BC ht.typeIs FI ?_ (FY _ _)))
 show A5 _ _ (Dh (.ref t) >>= _) _ _ s;refine AI (FA ht ?_);refine AI (Fc hTs ?_);rw[if_pos ⋯];refine AI (HT.sliceApplied_gen hs pl pu ?_);have hyes:(((HT.sIx items.size 0 lo:Nat):Int)==0&&(1:Int)==1&&(HT.sIx items.size items.size hi-HT.sIx items.size 0 lo)==items.size)=true:=by
  rw[hw.1,hw.2];simp
 show A5 _ _ (if (((HT.sIx items.size 0 lo:Nat):Int)==0&&(1:Int)==1&&(HT.sIx items.size items.size hi-HT.sIx items.size 0 lo)==items.size)=AC then _ else _) _ _ s;rw[if_pos hyes];refine AI (AI (Fc ht.typeIs (A0 ?_)));rw[if_pos ⋯]
 first
  |exact AI (A0 (A0 ⟨_,rfl,A0 h⟩))
  |exact AI (EX (A0 ⟨_,rfl,A0 h⟩))
  |(wp_step;wp_step;exact⟨_,rfl,A0 h⟩)
def ygl(K:AF):V->Option Int->Option Int->Hp->VK->Prop:=λx lo hi H Q=>∃a xs,x=.ref a/\SqT K H a xs /\
 (HT.sIx xs.length 0 lo=0/\HT.sIx xs.length xs.length hi=xs.length)/\Q (.ref a) H
def zhO:SlR X (ygl X.K):=by
 intro π s σ H x v vl vu lo hi sl Q I rx hs pl pu h;let⟨a,xs,rfl,hx,hw,q⟩:=h
 cases rx
 let⟨its,r,ht,hz⟩:=I.tuple hx;have hlen:its.toArray.size=xs.length:=by rw[A1];exact r.length.symm
 refine⟨"tuple",_,BC.lookup,ht.typeIs,?_⟩;exact zbh ht hs pl pu (by rw[hlen];exact hw) ⟨.ref a,H,I,rfl,q⟩
def ygr:V->Option Int->Option Int->Hp->VK->Prop:=λx lo hi H Q=>∃y:AO,x=.str y/\y.length<=sizeLine/\Q (.str ⟨((y.cps.toList.drop (HT.sIx y.cps.toList.length 0 lo)).take (HT.sIx y.cps.toList.length y.cps.toList.length hi-HT.sIx y.cps.toList.length 0 lo)).toArray⟩) H
def zoA(lo hi:Option Int)(n:Nat):D2 lo hi 1 n=sliceRange ((HT.sIx n 0 lo:Nat):Int) ((HT.sIx n n hi:Nat):Int) 1:=by
 unfold D2;erw[show (1:Int) > 0 by decide,if_true]
 congr 1
 .cases lo with
  |none=>simp[HT.sIx]
  |some i=>
   erw[HT.sIx]
   by_cases h:i<0
   .simp only[h,if_true]<;>lia
   .simp only[h,if_false]<;>lia
 .cases hi with
  |none=>simp[HT.sIx]
  |some i=>
   erw[HT.sIx]
   by_cases h:i<0
   .simp only[h,if_true]<;>lia
   .simp only[h,if_false]<;>lia
def zfQ(y:AO)(lo hi:Option Int):Txt.slice y lo hi=⟨((y.cps.toList.drop (HT.sIx y.cps.toList.length 0 lo)).take (HT.sIx y.cps.toList.length y.cps.toList.length hi-HT.sIx y.cps.toList.length 0 lo)).toArray⟩:=by
 have hn:y.length=y.cps.toList.length:=by simp[G3]
 unfold Txt.slice;rw[zoA,hn,sliceRange_one];have ha:=HT.sIx_le y.cps.toList.length 0 (Ab _) lo;have hb:=HT.sIx_le y.cps.toList.length y.cps.toList.length (AS _) hi;generalize HT.sIx y.cps.toList.length 0 lo=a,HT.sIx y.cps.toList.length y.cps.toList.length hi=b at *;split
 .rename_i c;erw[Af,List.length_range,AG,beq_iff_eq]at c;obtain⟨rfl,rfl⟩:a=0/\b=y.cps.toList.length:=by lia
  rw[List.drop_zero,Nat.sub_zero,GG]
 .rw[pick_run]
def zjL:SlR X ygr:=by
 intro π s σ H x v vl vu lo hi sl Q I rx hs pl pu h;let⟨y,rfl,hz,q⟩:=h;let⟨t,rfl⟩:=rx;rw[<-zfQ]at q;refine⟨"str",_,PySem.F.slot_str_getitem.lookup,G4 _ _ _,?_⟩;have go:∀l u:Option (Int×HC),vl=partValue l->vu=partValue u->lo=l.map (·.1)->hi=u.map (·.1)->A5 (model X.prog X.w) X.A (getItem (.str y t) (.ref sl)) (EP X π σ Q) X.xe s:=by
  rintro l u rfl rfl rfl rfl
  refine wpAny_getItem_str_slice (l:=l) (u:=u) (st:=AD) hs rfl ?_;exact post_val_or_str ⟨BH (Txt.slice_le y _ _) hz,λt' k=>⟨.str _,H,I.tok k,⟨_,rfl⟩,q⟩⟩
 cases pl with
 |none=>
  cases pu with
  |none=>exact go AD AD rfl rfl rfl rfl
  |int j u=>exact go AD (AA (j,u)) rfl rfl rfl rfl
 |int i t1=>
  cases pu with
  |none=>exact go (AA (i,t1)) AD rfl rfl rfl rfl
  |int j u=>exact go (AA (i,t1)) (AA (j,u)) rfl rfl rfl rfl
def zkv:SlR X (rSl S X):=by
 rintro π s σ H x v vl vu lo hi sl Q I rx hs pl pu ⟨B,φ,st,w,z,rs,rw,e,q⟩
 have e1:∀n o,ycm n o=HT.sIx n 0 o:=λn o=>by cases o<;>rfl
 have e2:∀n o,yb5 n o=HT.sIx n n o:=λn o=>by cases o<;>rfl
 cases w with
 |tp k vs=>
  erw[yb3]at e;split at e
  .rename_i c
   cases e
   have rw':=rw;erw[yd]at rw;let⟨p,xs,rfl,rt,l⟩:=rw;refine zhO π s σ H _ v vl vu lo hi sl Q I rx hs pl pu ⟨p,xs,rfl,rt.sq,?_,q _ H φ .rfl rs rw'⟩;rw[l.length,e1,e2]at c;exact c
  .rename_i c
   cases e
   erw[yd]at rw;let⟨p,xs,rfl,rt,l⟩:=rw;refine zlO π s σ H _ v vl vu lo hi sl Q I rx hs pl pu ⟨p,xs,rfl,rt.sq,?_,λt ht=>q _ _ φ (.upd ht) (rs.upd ht) (.tup_new ht rs (l.cut lo hi))⟩;rw[l.length,e1,e2]at c;exact c
 |str y=>
  erw[yb3]at e;split at e
  .rename_i c
   cases e
   erw[yd]at rw;subst rw;refine zjL π s σ H _ v vl vu lo hi sl Q I rx hs pl pu ⟨y,rfl,by rw[<-zB];exact c,?_⟩;have:=q (.str ⟨(cut y.cps.toList lo hi).toArray⟩) H φ .rfl rs (by erw[yd]);rw[cut,e1,e2]at this;exact this
  .cases e
 |lst vs=>
  erw[yb3]at e
  cases e
  erw[yd]at rw;let⟨p,xs,rfl,rt,l⟩:=rw;exact zfO π s σ H _ v vl vu lo hi sl Q I rx hs pl pu ⟨p,xs,rfl,rt.sq,λt ht=>q _ _ φ (.upd ht) (rs.upd ht) (.lst_new ht rs (l.cut lo hi))⟩
 |scr vs=>
  erw[yb3]at e
  cases e
  erw[yd]at rw;let⟨p,xs,rfl,rt,l⟩:=rw;exact zfO π s σ H _ v vl vu lo hi sl Q I rx hs pl pu ⟨p,xs,rfl,(by rcases rt with rt|rt;exact .inl rt.1;exact .inr rt),λt ht=>q _ _ φ (.upd ht) (rs.upd ht) (.lst_new ht rs (l.cut lo hi))⟩
 |_=>cases e
def zl1{lo hi:Option AT}(ha:PE X a (tE S X ca))(hl:PO X lo (tO S X cb))(hh:PO X hi (tO S X cc)):PE X (.Subscript a (.Slice lo hi AD p2) pos) (tE S X (.slc ca cb cc)):=
 (zib zkv ha hl hh).imp λσ H Q ⟨B,φ,st,ρ,rs,re,h⟩=>by
  erw[ev]at h;have oi:∀{v:PV} {x:V} {o:Option Int} {B φ H},yd X.K S.cl B φ H v x->ybB v=AA o->(x=.non/\o=AD) \/ ∃i,x=.int i/\o=AA i:=λ{v x o B φ H} r e=>by
   cases v with
   |non=>erw[yd]at r;cases e;exact .inl ⟨r,rfl⟩
   |int i=>erw[yd]at r;cases e;exact .inr ⟨i,r,rfl⟩
   |_=>cases e
  refine tE.bind rs re h λx H1 v st1 φ1 s1 rs1 re1 rv h1=>tE.bind rs1 re1 h1 λy H2 w st2 φ2 s2 rs2 re2 rw h2=>?_
  cases eo:ybB w with
  |none=>rw[eo]at h2;exact h2.elim
  |some o1=>
   rw[eo]at h2;have key:tO S X cc σ H2 λu H3=>rSl S X x o1 u H3 Q:=by
    refine tE.bind rs2 re2 h2 λy' H3 w' st3 φ3 s3 rs3 re3 rw' h3=>?_;let⟨z,e,q⟩:=z4 h3 rs3;unfold yb6 at e
    cases eo':ybB w' with
    |none=>rw[eo']at e;cases e
    |some o2=>
     rw[eo']at e;have fin:rSl S X x o1 o2 H3 Q:=⟨B,φ3,st3,v,z,rs3,(rv.step s2).step s3,e,q⟩;rcases oi rw' eo' with⟨rfl,rfl⟩|⟨i,rfl,rfl⟩
     .exact .inl ⟨rfl,fin⟩
     .exact .inr ⟨i,rfl,fin⟩
   rcases oi rw eo with⟨rfl,rfl⟩|⟨i,rfl,rfl⟩
   .exact .inl ⟨rfl,key⟩
   .exact .inr ⟨i,rfl,key⟩
end
section
variable {S:Se}{X:Cx}{σ:St}{B:AJ->Prop}{φ φ1:Ph}{H H1:Hp}{st:SO}{ρ:IC.Env}{p pos p2:Bo}{a b c d:AT}{ca cb cc:Ce}{es:List AT}{ces:Ces}{K:AF}{cl:Nat->AJ}
def rB(S:Se)(X:Cx)(k:Blt):List V->Hp->VK->Prop:=λxs H Q=>∃B φ st vs z,yC X.K S.cl B φ H st/\yj X.K S.cl B φ H vs xs/\yZ k st vs=AA z /\
 ∀z' H' φ',Step φ H φ' H'->yC X.K S.cl B φ' H' st->yd X.K S.cl B φ' H' z z'->Q z' H'
theorem yj.one{v:PV}{xs:List V}(l:yj K cl B φ H [v] xs):∃x,xs=[x]/\yd K cl B φ H v x:=by
 erw[yj]at l;let⟨y,ys,rfl,r,rfl⟩:=l;exact⟨y,rfl,r⟩
theorem yj.two{v w:PV}{xs:List V}(l:yj K cl B φ H [v,w] xs):∃x y,xs=[x,y]/\yd K cl B φ H v x/\yd K cl B φ H w y:=by
 erw[yj]at l;let⟨y,ys,rfl,r,z,zs,rfl,r2,rfl⟩:=l;exact⟨y,z,rfl,r,r2⟩
def zcy{k:Blt}{st:SO}{vs:List PV}{z:PV}(h:yZ k st vs=AA z)(h2:∀x y,yZ k st [x,y]=AD):∃x,vs=[x]:=by
 match vs,h with
 |[x],_=>exact⟨x,rfl⟩
 |[x,y],h=>rw[h2]at h;cases h
def zaQ{v:PV}{x:V}{vs:List PV}(rs:yC K cl B φ H st)(r:yd K cl B φ H v x)(h:yL st v=AA vs):∃a xs,x=.ref a/\SqL K H a xs/\yj K cl B φ H vs xs:=by
 cases v with
 |lst ws=>
  cases h
  erw[yd]at r;let⟨a,xs,rfl,rt,l⟩:=r;exact⟨a,xs,rfl,rt.sq,l⟩
 |loc n=>
  erw[yL]at h;split at h
  .rename_i ws hw
   cases h
   let⟨a,xs,rfl,_,hx,l⟩:=rs.list r hw;exact⟨a,xs,rfl,.of hx,l⟩
  .cases h
 |_=>cases h
def zgN{v:PV}{x:V}{vs:List PV}(rs:yC K cl B φ H st)(r:yd K cl B φ H v x)(h:ya2 st v=AA vs):∃a xs,x=.ref a/\(SqL K H a xs \/ SqT K H a xs)/\yj K cl B φ H vs xs:=by
 cases v with
 |tp k ws=>
  cases h
  erw[yd]at r;let⟨a,xs,rfl,rt,l⟩:=r;exact⟨a,xs,rfl,.inr rt.sq,l⟩
 |lst ws=>
  let⟨a,xs,e,q,l⟩:=zaQ rs r (vs:=vs) h;exact⟨a,xs,e,.inl q,l⟩
 |loc n=>
  let⟨a,xs,e,q,l⟩:=zaQ rs r (vs:=vs) h;exact⟨a,xs,e,.inl q,l⟩
 |_=>cases h
def znk:yag X (.builtin "len") (rB S X .len):=by
 rintro π s σ H xs us Q I r ⟨B,φ,st,vs,z,rs,l,e,q⟩
 let⟨v,rfl⟩:=zcy e λ_ _=>rfl;let⟨x,rfl,rv⟩:=l.one;erw[yZ,lenV]at e;split at e
 .rename_i t;split at e
  .rename_i c
   cases e
   erw[yd]at rv;subst rv;exact zdD π s σ H _ us Q I r ⟨t,rfl,by rw[<-zB];exact c,q _ H φ .rfl rs (by erw[yd])⟩
  .cases e
 .cases e1:ya2 st v with
  |none=>rw[e1]at e;cases e
  |some ws=>
   rw[e1]at e
   cases e
   let⟨a,ys,rfl,h,l⟩:=zgN rs rv e1;refine zdA π s σ H _ us Q I r ⟨a,ys,rfl,?_,q _ H φ .rfl rs (by erw[yd];rw[l.length])⟩;exact h
def zmA:yag X (.type "int") (rB S X .int):=by
 rintro π s σ H xs us Q I r ⟨B,φ,st,vs,z,rs,l,e,q⟩
 let⟨v,rfl⟩:=zcy e λ_ _=>rfl;let⟨x,rfl,rv⟩:=l.one;erw[yZ]at e
 cases v with
 |int i=>
  cases e
  erw[yd]at rv;subst rv;exact zdF π s σ H _ us Q I r (.inl ⟨i,rfl,q _ H φ .rfl rs (by erw[yd])⟩)
 |bl k=>
  cases e
  erw[yd]at rv;subst rv;exact zdF π s σ H _ us Q I r (.inr ⟨k,rfl,q _ H φ .rfl rs (by erw[yd,bi])⟩)
 |_=>cases e
def zkr{k:Blt}{st:SO}{vs:List PV}{z:PV}(h:yZ k st vs=AA z)(h2:∀x,yZ k st [x]=AD):∃x y,vs=[x,y]:=by
 match vs,h with
 |[x,y],_=>exact⟨x,y,rfl⟩
 |[x],h=>rw[h2]at h;cases h
def zmG(hc:X.calm=AC):yag X (.builtin "min") (rB S X .min):=by
 rintro π s σ H xs us Q I r ⟨B,φ,st,vs,z,rs,l,e,q⟩
 let⟨v,w,rfl⟩:=zkr e λ_=>rfl;let⟨x,y,rfl,rv,rw⟩:=l.two;erw[yZ,yee]at e;split at e
 .cases e
  erw[yd]at rv rw;subst rv rw;exact zg2 hc π s σ H _ us Q I r ⟨_,_,rfl,q _ H φ .rfl rs (by erw[yd])⟩
 .cases e
def zjt:∀{vs:List PV} {m:Int},ydQ vs=AA m->∃ns:List Int,vs=ns.map .int/\m∈ns/\∀a∈ns,a<=m
 |[],m,h=>by cases h
 |[.int i],m,h=>by cases h;exact⟨[i],rfl,by simp,by simp⟩
 |.int i::w::r,m,h=>by
  erw[ydQ]at h;split at h
  .rename_i c e
   cases h
   let⟨ns,e1,e2,e3⟩:=zjt e;refine⟨i::ns,by rw[e1];rfl,?_,λa ha=>?_⟩
   .split
    .exact AU _ e2
    .exact A7
   .rcases AL.mp ha with rfl|ha
    .split<;>lia
    .have:=e3 a ha;split<;>lia
  .cases h
 |.non::r,m,h=>by cases r<;>cases h
 |.bl _::r,m,h=>by cases r<;>cases h
 |.str _::r,m,h=>by cases r<;>cases h
 |.tp _ _::r,m,h=>by cases r<;>cases h
 |.lst _::r,m,h=>by cases r<;>cases h
 |.loc _::r,m,h=>by cases r<;>cases h
 |.fnc _::r,m,h=>by cases r<;>cases h
 |.exn _::r,m,h=>by cases r<;>cases h
 |.scr _::r,m,h=>by cases r<;>cases h
theorem yj.ints:∀{ns:List Int} {xs:List V},yj K cl B φ H (ns.map .int) xs->xs=ns.map V.int
 |[],xs,h=>by simpa only[BM,yj] using h
 |n::ns,xs,h=>by
  erw[AX,yj]at h;let⟨y,ys,rfl,r,l⟩:=h;erw[yd]at r;rw[r,yj.ints l];rfl
theorem yj.bls:∀{ns:List Bool} {xs:List V},yj K cl B φ H (ns.map .bl) xs->xs=ns.map V.bl
 |[],xs,h=>by simpa only[BM,yj] using h
 |n::ns,xs,h=>by
  erw[AX,yj]at h;let⟨y,ys,rfl,r,l⟩:=h;erw[yd]at r;rw[r,yj.bls l];rfl
def zks{v w z:PV}(e:maxV v w=AA z):∃i j,v=.int i/\w=.int j/\z=.int (if i<j then j else i):=by
 unfold maxV at e;split at e
 .exact⟨_,_,rfl,rfl,(A6 e).symm⟩
 .cases e
def znr(hc:X.calm=AC):yag X (.builtin "max") (rB S X .max):=by
 rintro π s σ H xs us Q I r ⟨B,φ,st,vs,z,rs,l,e,q⟩
 rcases vs with _|⟨v,_|⟨w,_|⟨u',t⟩⟩⟩
 .simp[yZ]at e
 .let⟨x,rfl,rv⟩:=l.one;erw[yZ]at e
  cases e1:yL st v with
  |none=>rw[e1]at e;cases e
  |some ws=>
   rw[e1]at e;erw[Az]at e
   cases e2:ydQ ws with
   |none=>rw[e2]at e;cases e
   |some m=>
    rw[e2]at e;obtain rfl:=A6 e;let⟨ns,rfl,hm,hb⟩:=zjt e2;let⟨a,ys,rfl,h,l⟩:=zaQ rs rv e1;rw[l.ints]at h;refine zf7 hc π s σ H _ us Q I r ⟨a,ns,rfl,h,List.length_pos_of_mem hm,λM h1 h2=>?_⟩;have:M=m:=by
     have:=hb M h1;have:=h2 m hm;lia
    subst this;exact q _ H φ .rfl rs (by erw[yd])
 .let⟨x,y,rfl,rv,rw⟩:=l.two;have e:maxV v w=AA z:=e;let⟨i,j,rfl,rfl,rfl⟩:=zks e;erw[yd]at rv rw;subst rv rw;exact zf3 hc π s σ H _ us Q I r ⟨i,j,rfl,q (.int (if i<j then j else i)) H φ .rfl rs (by erw[yd])⟩
 .simp[yZ]at e
def zid:yag X (.type "tuple") (rB S X .tuple):=by
 rintro π s σ H xs us Q I r ⟨B,φ,st,vs,z,rs,l,e,q⟩
 let⟨v,rfl⟩:=zcy e λ_ _=>rfl;let⟨x,rfl,rv⟩:=l.one;erw[yZ,ycE]at e;split at e
 .cases e
  erw[yd]at rv;let⟨a,ys,rfl,rt,l⟩:=rv;exact zbq π s σ H _ us Q I r ⟨a,ys,rfl,.inr ⟨rt.sq,q _ H φ .rfl rs (by erw[yd];exact⟨a,ys,rfl,rt,l⟩)⟩⟩
 .cases e1:yL st v with
  |none=>rw[e1]at e;cases e
  |some ws=>
   rw[e1]at e
   cases e
   let⟨a,ys,rfl,h,l⟩:=zaQ rs rv e1;exact zbq π s σ H _ us Q I r ⟨a,ys,rfl,.inl ⟨h,λt ht=>q _ _ φ (.upd ht) (rs.upd ht) (.tup_new ht rs l)⟩⟩
def zjA:∀{vs:List PV} {m:Bool},IC.allB vs=AA m->∃ns:List Bool,vs=ns.map .bl/\m=ns.all id
 |[],m,h=>by cases h;exact⟨[],rfl,rfl⟩
 |.bl i::r,m,h=>by
  erw[IC.allB]at h;split at h
  .rename_i c e
   cases h
   let⟨ns,e1,e2⟩:=zjA e;exact⟨i::ns,by rw[e1];rfl,by rw[e2];rfl⟩
  .cases h
 |.non::r,m,h=>by cases h
 |.int _::r,m,h=>by cases h
 |.str _::r,m,h=>by cases h
 |.tp _ _::r,m,h=>by cases h
 |.lst _::r,m,h=>by cases h
 |.loc _::r,m,h=>by cases h
 |.fnc _::r,m,h=>by cases h
 |.exn _::r,m,h=>by cases h
 |.scr _::r,m,h=>by cases h
def zmH(hc:X.calm=AC):yag X (.builtin "all") (rB S X .all):=by
 rintro π s σ H xs us Q I r ⟨B,φ,st,vs,z,rs,l,e,q⟩
 let⟨v,rfl⟩:=zcy e λ_ _=>rfl;let⟨x,rfl,rv⟩:=l.one;erw[yZ]at e
 cases e1:yL st v with
 |none=>rw[e1]at e;cases e
 |some ws=>
  rw[e1]at e;erw[Az]at e
  cases e2:IC.allB ws with
  |none=>rw[e2]at e;cases e
  |some m=>
   rw[e2]at e
   cases e
   let⟨ns,rfl,rfl⟩:=zjA e2;let⟨a,ys,rfl,h,l⟩:=zaQ rs rv e1;rw[l.bls]at h;exact ziW hc π s σ H _ us Q I r ⟨a,ns,rfl,h,q _ H φ .rfl rs (by erw[yd])⟩
variable {x:AO}{id T:String}{k:Blt}
def zly(hc:yag X (.builtin id) (rB S X k))(hg:Gl X x)(hm:X.mg x=AD)(hv:bootBuiltins x=AA (.builtin id))(ha:PA X (a::es) (tAs S X ces))(hn:x ≠ "__name__":=by decide)(hdb:(x==("__debug__":AO))=false:=by decide)
  (he:starEach (a::es) X.env=(AB,eval a X.env)::starEach es X.env:=by rfl) (hpl:(backTo pos (starEach es X.env)).any (·.1)=false:=by rfl):PE X (.Call (.Name x p) (a::es) [] pos) (tE S X (.blt k ces)):=
 (zb1 hc hg hm hv ha hn hdb he hpl).imp λσ H Q ⟨B,φ,st,ρ,rs,re,h⟩=>by
  erw[ev]at h;refine tAs.bind rs re h λxs H1 vs st1 φ1 s1 rs1 re1 rv h1=>?_;let⟨z,e,q⟩:=z4 h1 rs1;exact⟨B,φ1,st1,vs,z,rs1,rv,e,q⟩
def zk2(hc:yag X (.type T) (rB S X k))(hg:Gl X x)(hm:X.mg x=AD)(hv:bootBuiltins x=AA (.type T))(ha:PA X (a::es) (tAs S X ces))(hn:x ≠ "__name__":=by decide)(hdb:(x==("__debug__":AO))=false:=by decide)
  (he:starEach (a::es) X.env=(AB,eval a X.env)::starEach es X.env:=by rfl) (hpl:(backTo pos (starEach es X.env)).any (·.1)=false:=by rfl):PE X (.Call (.Name x p) (a::es) [] pos) (tE S X (.blt k ces)):=
 (zdP hc hg hm hv ha hn hdb he hpl).imp λσ H Q ⟨B,φ,st,ρ,rs,re,h⟩=>by
  erw[ev]at h;refine tAs.bind rs re h λxs H1 vs st1 φ1 s1 rs1 re1 rv h1=>?_;let⟨z,e,q⟩:=z4 h1 rs1;exact⟨B,φ1,st1,vs,z,rs1,rv,e,q⟩
end
section
variable {S:Se}{X:Cx}{σ:St}{B:AJ->Prop}{φ φ1:Ph}{H H1:Hp}{st:SO}{ρ:IC.Env}{p pos p2 apos:Bo}{a b c d:AT}{ca cb cc:Ce}{es:List AT}{ces:Ces}{K:AF}{cl:Nat->AJ}
theorem Step.put{l:AJ}{u:HO}(hl:AA l∈φ):Step φ H φ (L2.upd H l u):=
 ⟨λb o n e=>by rw[zk (show b≠l from λz=>n (by rw[z];exact hl))];exact e,AS _,λ_ _ _ e=>e,λ_ h=>.inl h⟩
theorem yC.put{n:Nat}{l:AJ}{u:HO}{o:Ob}(rs:yC K cl B φ H st)(hn:φ[n]?=AA (AA l))(ho:yck K cl B φ (L2.upd H l u) o l):yC K cl B φ (L2.upd H l u) (st.set n o):=by
 have hm:AA l∈φ:=AR hn;have s:Step φ H φ (L2.upd H l u):=.put hm;have hlt:n<st.length:=by rw[<-rs.len];exact(A2.mp hn).1
 refine⟨by rw[BB];exact rs.len,rs.inj,λm a e=>?_,λm o' e ho'=>?_,rs.nb,λa h=>?_⟩
 .by_cases hmn:m=n
  .subst hmn;rw[hn]at e;cases e;exact⟨o,by rw[Ao hlt],ho⟩
  .let⟨o',q,r⟩:=rs.obj m a e;refine⟨o',by rw[A3 (BP hmn)];exact q,r.step s ?_⟩;rw[zk]
   rintro rfl
   exact hmn (rs.inj m n a e hn)
 .by_cases hmn:m=n
  .subst hmn;exact⟨l,hn⟩
  .rw[A3 (BP hmn)]at e;exact rs.liv m o' e ho'
 .let⟨w,e⟩:=rs.dom a h
  by_cases z:a=l
  .subst z;exact⟨u,zl⟩
  .exact⟨w,by rw[zk z];exact e⟩
def zic:1000000<=sizeLine:=by rw[CS];decide
def zbc{m:Mth}{v:PV}{st:SO}{α β:Type}{Rel:Ph->Hp->α->β->Prop}{k:Bool->R α}{Q:β->Hp->Prop}(h:Run S X σ B φ H Rel (onO (yao m st v) k) Q):∃b,yao m st v=AA b/\Run S X σ B φ H Rel (k b) Q:=by
 cases e:yao m st v with
 |none=>rw[e]at h;exact h.elim
 |some z=>rw[e]at h;exact⟨z,rfl,h⟩
def zhb(ha:PE X a (tE S X ca))(hb:PE X b (tE S X cb))(hs:starEach [b] X.env=[(AB,eval b X.env)]:=by rfl)(hbase:attributeBase a "append" X.env (eval a X.env)=eval a X.env:=by rfl)(hline:(apos.endLine==pos.line)=true:=by rfl)
  (hfew:((backTo pos (starEach [b] X.env)).all (λx=>!x.1)&&(backToKw pos (keywordEach [] X.env)).all (λx=>x.1.isSome)&&decide (([b]:List AT).length+([]:List B7).length+(if ([]:List B7).isEmpty then 0 else 1)<30))=true:=by rfl):
  PE X (.Call (.Attribute a "append" apos) [b] [] pos) (tE S X (.mth .append ca (.cons cb .nil))):=
 (zgn B6 Eg PySem.F.type_list_append zd0 ha (zak (S:=S) hb zbk hs) hbase hfew hline hs rfl).imp λσ H Q ⟨B,φ,st,ρ,rs,re,h⟩=>by
  erw[ev]at h;refine tE.bind rs re h λx H1 v st1 φ1 s1 rs1 re1 rv h1=>?_;let⟨_,e1,h1⟩:=zbc h1;have t1:∃ws,yL st1 v=AA ws:=by
   erw[yao]at e1
   cases q:yL st1 v with
   |none=>rw[q]at e1;cases e1
   |some ws=>exact⟨ws,rfl⟩
  let⟨ws,t1⟩:=t1;let⟨l,xs,rfl,hl,_⟩:=zaQ rs1 rv t1;refine⟨.inl ⟨rfl,xs,hl⟩,tAs.bind rs1 re1 h1 λys H2 vs st2 φ2 s2 rs2 re2 rvs h2=>?_⟩;have rv2:=rv.step s2;rcases vs with _|⟨w,_|⟨w',t⟩⟩
  .exact h2.elim
  .let⟨y,rfl,rw⟩:=rvs.one;unfold ya4 at h2;erw[ydf]at h2;split at h2
   .rename_i n;split at h2
    .rename_i zs hz;split at h2
     .rename_i c;let⟨l',xs',e,hn,hx,lr⟩:=rs2.list rv2 hz
      cases e
      refine⟨l,xs',y,rfl,rfl,hx,by have:=zic;have:=lr.length;lia,?_⟩;exact h2 _ _ φ2 (.put (AR hn)) (rs2.put hn ⟨_,zl,(lr.append (by erw[yj];exact⟨y,[],rfl,rw,rfl⟩)).step (.put (AR hn))⟩) (by erw[yd])
     .exact h2.elim
    .exact h2.elim
   .exact h2.elim
  .exact h2.elim
def zfL(ha:PE X a (tE S X ca))(hb:PE X b (tE S X cb))(hs:starEach [b] X.env=[(AB,eval b X.env)]:=by rfl)(hbase:attributeBase a "extend" X.env (eval a X.env)=eval a X.env:=by rfl)(hline:(apos.endLine==pos.line)=true:=by rfl)
  (hfew:((backTo pos (starEach [b] X.env)).all (λx=>!x.1)&&(backToKw pos (keywordEach [] X.env)).all (λx=>x.1.isSome)&&decide (([b]:List AT).length+([]:List B7).length+(if ([]:List B7).isEmpty then 0 else 1)<30))=true:=by rfl):
  PE X (.Call (.Attribute a "extend" apos) [b] [] pos) (tE S X (.mth .extend ca (.cons cb .nil))):=
 (zgn B6 Eh PySem.F.type_list_extend zga ha (zak (S:=S) hb zbk hs) hbase hfew hline hs rfl).imp λσ H Q ⟨B,φ,st,ρ,rs,re,h⟩=>by
  erw[ev]at h;refine tE.bind rs re h λx H1 v st1 φ1 s1 rs1 re1 rv h1=>?_;let⟨_,e1,h1⟩:=zbc h1;have t1:∃ws,yL st1 v=AA ws:=by
   erw[yao]at e1
   cases q:yL st1 v with
   |none=>rw[q]at e1;cases e1
   |some ws=>exact⟨ws,rfl⟩
  let⟨ws,t1⟩:=t1;let⟨l,xs,rfl,hl,_⟩:=zaQ rs1 rv t1;refine⟨.inl ⟨rfl,xs,hl⟩,tAs.bind rs1 re1 h1 λys H2 vs st2 φ2 s2 rs2 re2 rvs h2=>?_⟩;have rv2:=rv.step s2;rcases vs with _|⟨w,_|⟨w',t⟩⟩
  .exact h2.elim
  .let⟨y,rfl,rw⟩:=rvs.one;unfold ya4 at h2;erw[yeQ]at h2;split at h2
   .rename_i n;split at h2
    .rename_i zs hz;split at h2
     .rename_i ks;split at h2
      .rename_i c;let⟨l',xs',e,hn,hx,lr⟩:=rs2.list rv2 hz
       cases e
       erw[yd]at rw;let⟨b',ys',rfl,rl,lr2⟩:=rw;refine⟨l,b',xs',ys',rfl,rfl,hx,rl.1,by have:=zic;have:=lr.length;have:=lr2.length;lia,?_⟩;exact h2 _ _ φ2 (.put (AR hn)) (rs2.put hn ⟨_,zl,(lr.append lr2).step (.put (AR hn))⟩) (by erw[yd])
      .exact h2.elim
     .exact h2.elim
    .exact h2.elim
   .exact h2.elim
  .exact h2.elim
def zm7(ha:PE X a (tE S X ca)):PE X a (tE S X (.frz ca)):=
 ha.imp λσ H Q ⟨B,φ,st,ρ,rs,re,h⟩=>by
  erw[ev]at h;refine tE.bind rs re h λx H1 v st1 φ1 s1 rs1 re1 rv h1=>?_;unfold ycx at h1;split at h1
  .rename_i n;split at h1
   .rename_i vs hv;let⟨l,xs,rfl,hn,hx,lr⟩:=rs1.list rv hv;have hm:AA l∈φ1:=AR hn;have hlt:n<φ1.length:=(A2.mp hn).1;have nl:AA l∉φ1.set n none:=λz=>by
     let⟨m,e⟩:=DD.mp z
     by_cases hmn:m=n
     .subst hmn;rw[Ao hlt]at e;cases e
     .rw[A3 (BP hmn)]at e;exact hmn (rs1.inj m n l e hn)
    have sb:∀b,AA b∈φ1.set n AD->AA b∈φ1:=λb z=>by
     let⟨m,e⟩:=DD.mp z
     by_cases hmn:m=n
     .subst hmn;rw[Ao hlt]at e;cases e
     .rw[A3 (BP hmn)]at e;exact AR e
    have s:Step φ1 H1 (φ1.set n AD) H1:=⟨λ_ _ _ e=>e,by simp,λm a hm' e=>by
     by_cases hmn:m=n
     .subst hmn;rw[Ao hlt]at e;cases e
     .rw[A3 (BP hmn)]at e;exact e,λb z=>.inl (sb b z)⟩
    refine h1 _ H1 (φ1.set n AD) s ⟨by simp[rs1.len],λm k a e1 e2=>?_,λm a e=>?_,λm o e ho=>?_,λa z=>rs1.nb a (sb a z),rs1.dom⟩ ?_
    .by_cases h1':m=n
     .subst h1';rw[Ao hlt]at e1;cases e1
     .by_cases h2':k=n
      .subst h2';rw[Ao hlt]at e2;cases e2
      .rw[A3 (BP h1')]at e1;rw[A3 (BP h2')]at e2;exact rs1.inj m k a e1 e2
    .by_cases hmn:m=n
     .subst hmn;rw[Ao hlt]at e;cases e
     .rw[A3 (BP hmn)]at e;let⟨o,q,r⟩:=rs1.obj m a e;exact⟨o,by rw[A3 (BP hmn)];exact q,r.step s rfl⟩
    .by_cases hmn:m=n
     .subst hmn;rw[Ao (by rw[<-rs1.len];exact hlt)]at e;cases e;exact absurd rfl ho
     .rw[A3 (BP hmn)]at e ⊢;exact rs1.liv m o e ho
    .simp only[yd];exact⟨l,xs,rfl,⟨hx,rs1.nb l hm,nl⟩,lr.step s⟩
   .exact h1.elim
  .exact h1.ok rs1 rv
end
section
variable (S:Se)(X:Cx)
def yap(B:AJ->Prop)(φ:Ph)(H:Hp)(f:Fl)(D:Ends):Prop:=
 match f with
 |.nx ρ' st'=>∀σ' H' φ',Step φ H φ' H'->yC X.K S.cl B φ' H' st'->yK X.K S.cl B φ' H' ρ' σ'->D.nx σ' H'
 |.rt v st'=>∀x H' φ',Step φ H φ' H'->yC X.K S.cl B φ' H' st'->yd X.K S.cl B φ' H' v x->D.rt x H'
 |.bk ρ' st'=>∀σ' H' φ',Step φ H φ' H'->yC X.K S.cl B φ' H' st'->yK X.K S.cl B φ' H' ρ' σ'->D.bk σ' H'
 |.ct ρ' st'=>∀σ' H' φ',Step φ H φ' H'->yC X.K S.cl B φ' H' st'->yK X.K S.cl B φ' H' ρ' σ'->D.ct σ' H'
 |.exc k ρ' st'=>∀σ' φ1 H1 e s',Step φ H φ1 H1->yK X.K S.cl B φ1 H1 ρ' σ'->ExcAt S X σ' B φ1 H1 k st' e s'->X.xe e s'
 |.bad=>False
def tS(c:Cs):TS:=λD σ H=>∃B φ st ρ,yC X.K S.cl B φ H st/\yK X.K S.cl B φ H ρ σ/\yap S X B φ H (ex S.call ρ st c) D
def tSs(c:Css):TS:=λD σ H=>∃B φ st ρ,yC X.K S.cl B φ H st/\yK X.K S.cl B φ H ρ σ/\yap S X B φ H (exs S.call ρ st c) D
end
section
variable {S:Se}{X:Cx}{σ:St}{B:AJ->Prop}{φ φ1:Ph}{H H1:Hp}{st:SO}{ρ:IC.Env}{D:Ends}{pos p2 px:Bo}{a b c o:AT}{ca cb cc:Ce}{s1:Bc}{ss ss':List Bc}{c1:Cs}{cs cs':Css}
theorem yap.on{f:Fl}(s:Step φ H φ1 H1)(h:yap S X B φ H f D):yap S X B φ1 H1 f D:=by
 cases f with
 |nx ρ st=>exact λσ' H' φ' t=>h σ' H' φ' (s.trans t)
 |rt ρ st=>exact λσ' H' φ' t=>h σ' H' φ' (s.trans t)
 |bk ρ st=>exact λσ' H' φ' t=>h σ' H' φ' (s.trans t)
 |ct ρ st=>exact λσ' H' φ' t=>h σ' H' φ' (s.trans t)
 |exc k ρ st=>exact λσ' φ2 H2 e s' t=>h σ' φ2 H2 e s' (s.trans t)
 |bad=>exact h
theorem tE.fl{k:PV->SO->Fl}{P:V->Hp->Prop}(rs:yC X.K S.cl B φ H st)(re:yK X.K S.cl B φ H ρ σ)(h:yap S X B φ H ((ev S.call ρ st ca).fl ρ k) D)
  (n:∀x H1 v st1 φ1,Step φ H φ1 H1->yC X.K S.cl B φ1 H1 st1->yK X.K S.cl B φ1 H1 ρ σ->yd X.K S.cl B φ1 H1 v x->yap S X B φ1 H1 (k v st1) D->P x H1):tE S X ca σ H P:=by
 refine⟨B,φ,st,ρ,rs,re,?_⟩
 cases e:ev S.call ρ st ca with
 |ok v st'=>
  rw[e]at h;exact λx H' φ' s rs' rv=>n x H' v st' φ' s rs' (re.step s) rv (h.on s)
 |exc k st'=>
  rw[e]at h;exact λe s' x=>h σ φ H e s' .rfl re x
 |bad=>rw[e]at h;exact h
theorem PS.imp{t t':TS}(h:PS X s1 t')(k:∀D σ H,t D σ H->t' D σ H):PS X s1 t:=λπ s σ H D I q=>h π s σ H D I (k D σ H q)
theorem PSs.imp{t t':TS}(h:PSs X ss t')(k:∀D σ H,t D σ H->t' D σ H):PSs X ss t:=λπ s σ H D I q=>h π s σ H D I (k D σ H q)
theorem yK.set{K:AF}{cl:Nat->AJ}(r:yK K cl B φ H ρ σ)(i:Nat){v:PV}{x:V}(rv:yd K cl B φ H v x):yK K cl B φ H (ρ.set i (AA v)) (σ.set i (AA x)):=by
 refine⟨by rw[BB,BB];exact r.len,λj w e=>?_⟩
 by_cases h:j=i
 .subst h
  by_cases hl:j<ρ.length
  .rw[Ao hl]at e
   cases e
   exact⟨x,by rw[Ao (by rw[<-r.len];exact hl)],rv⟩
  .rw[BZ (by rw[BB];lia)]at e
   cases e
 .rw[A3 (BP h)]at e ⊢;exact r.get j w e
def zmk:PSs X [] (tSs S X .nil):=zoq.imp λD σ H ⟨B,φ,st,ρ,rs,re,h⟩=>by
 erw[exs]at h;exact h σ H φ .rfl rs re
def zkD(h1:PS X s1 (tS S X c1))(h2:PSs X ss (tSs S X cs)):PSs X (s1::ss) (tSs S X (.cons c1 cs)):=
 (zhJ h1 h2).imp λD σ H ⟨B,φ,st,ρ,rs,re,h⟩=>by
  erw[exs]at h;refine⟨B,φ,st,ρ,rs,re,?_⟩
  cases e:ex S.call ρ st c1 with
  |nx ρ1 st1=>
   rw[e]at h;exact λσ' H' φ' s rs' re'=>⟨B,φ',st1,ρ1,rs',re',h.on s⟩
  |rt v st1=>rw[e]at h;exact h
  |bk ρ1 st1=>rw[e]at h;exact h
  |ct ρ1 st1=>rw[e]at h;exact h
  |exc k ρ1 st1=>rw[e]at h;exact h
  |bad=>rw[e]at h;exact h
def zjU(he:PE X a (tE S X ca))(hs:swapsWith a AD pos.line X.env=pure false:=by rfl):PS X (.Expr a pos) (tS S X (.expr ca)):=
 (zle he hs).imp λD σ H ⟨B,φ,st,ρ,rs,re,h⟩=>by
  erw[ex]at h;exact tE.fl rs re h λx H1 v st1 φ1 s rs1 re1 rv h1=>h1 σ H1 φ1 .rfl rs1 re1
def zll(he:PE X a (tE S X ca)):PS X (.Return (AA a) pos) (tS S X (.ret ca)):=
 (zmn he).imp λD σ H ⟨B,φ,st,ρ,rs,re,h⟩=>by
  erw[ex]at h;exact tE.fl rs re h λx H1 v st1 φ1 s rs1 re1 rv h1=>h1 x H1 φ1 .rfl rs1 rv
def zjM:PS X (.Return AD pos) (tS S X (.ret (.cst .non))):=
 zor.imp λD σ H ⟨B,φ,st,ρ,rs,re,h⟩=>by
  erw[ex,ev,R.fl]at h;exact h .non H φ .rfl rs (by erw[yd])
def zmx{i:Nat}{x:AO}(hN:X.N.Nodup)(hi:X.N[i]?=AA x)(hx:Loc X.env.scope x)(he:PE X a (tE S X ca))(hs:swapsWith a (AA (.Name x px)) pos.line X.env=pure false:=by rfl)
  (hf:X.fn x=AC \/ X.env.scope.names.lookup x=AA .local:=by first|exact .inl rfl|exact .inr rfl|assumption):PS X (.Assign [.Name x px] a pos) (tS S X (.asg (.n i) ca)):=
 (zmm hN hi hx he hs hf).imp λD σ H ⟨B,φ,st,ρ,rs,re,h⟩=>by
  erw[ex]at h;exact tE.fl rs re h λx H1 v st1 φ1 s rs1 re1 rv h1=>h1 _ H1 φ1 .rfl rs1 (re1.set i rv)
theorem flT(r:R PV)(f:Bool->SO->Fl):(r.fl ρ λx st1=>onF (yaL st1 x) λk=>f k st1)=(yaV r).fl ρ f:=by
 cases r with
 |ok v s=>
  erw[R.fl,yaV,R.bind]
  cases yaL s v<;>rfl
 |exc c s=>rfl
 |bad=>rfl
theorem tTs.fl{k:Bool->SO->Fl}{P:Bool->Hp->Prop}(rs:yC X.K S.cl B φ H st)(re:yK X.K S.cl B φ H ρ σ)(h:yap S X B φ H ((yaV (ev S.call ρ st ca)).fl ρ k) D)
  (n:∀b H1 st1 φ1,Step φ H φ1 H1->yC X.K S.cl B φ1 H1 st1->yK X.K S.cl B φ1 H1 ρ σ->yap S X B φ1 H1 (k b st1) D->P b H1):tTs S X ca σ H P:=by
 refine⟨B,φ,st,ρ,rs,re,?_⟩
 cases e:yaV (ev S.call ρ st ca)with
 |ok v st'=>
  rw[e]at h;exact λx H' φ' s rs' rv=>by
   subst rv;exact n v H' st' φ' s rs' (re.step s) (h.on s)
 |exc k st'=>
  rw[e]at h;exact λe s' x=>h σ φ H e s' .rfl re x
 |bad=>rw[e]at h;exact h
def znU(hc:PT X c (tTs S X cc))(ha:PSs X ss (tSs S X cs))(hb:PSs X ss' (tSs S X cs')):PS X (.If c ss ss' pos) (tS S X (.ite cc cs cs')):=
 (zn2 hc ha hb).imp λD σ H ⟨B,φ,st,ρ,rs,re,h⟩=>by
  erw[ex]at h;rw[flT _ λk st1=>cond k (exs S.call ρ st1 cs) (exs S.call ρ st1 cs')]at h;refine tTs.fl rs re h λk H1 st1 φ1 s rs1 re1 h1=>?_
  cases k with
  |true=>exact⟨B,φ1,st1,ρ,rs1,re1,h1⟩
  |false=>exact⟨B,φ1,st1,ρ,rs1,re1,h1⟩
def zmK{i:Nat}{x:AO}{op:DN}{bo:BOp}(hN:X.N.Nodup)(hi:X.N[i]?=AA x)(hx:Loc X.env.scope x)(he:PE X a (tE S X ca))(ho:PIp X op (rT2 S X (ybJ bo)))
  (hf:X.fn x=AC \/ X.env.scope.names.lookup x=AA .local:=by first|exact .inl rfl|exact .inr rfl|assumption) (hd:(x==("__debug__":AO))=false:=by decide) (hcd:(x==("__classdict__":AO))=false:=by decide):PS X (.AugAssign (.Name x px) op a pos) (tS S X (.aug i bo ca)):=
 (zjf hN hi hx he ho hf).imp λD σ H ⟨B,φ,st,ρ,rs,re,h⟩=>by
  erw[ex]at h
  cases q:ρ[i]? with
  |none=>rw[q]at h;exact h.elim
  |some w=>
   cases w with
   |none=>rw[q]at h;exact h.elim
   |some w=>
    rw[q]at h;let⟨y,hy,rw⟩:=re.get i w q;refine⟨y,hy,tE.fl rs re h λz H1 v st1 φ1 s rs1 re1 rv h1=>?_⟩
    cases e:ybJ bo w v with
    |none=>rw[e]at h1;exact h1.elim
    |some u=>
     rw[e]at h1;exact⟨B,φ1,st1,w,v,u,rs1,rw.step s,rv,e,λz' H' φ' s' rs' rz=>h1 _ H' φ' s' rs' ((re1.step s').set i rz)⟩
end
section
variable (S:Se)(X:Cx)
structure Drw(B:AJ->Prop)(φ0:Ph)(H0:Hp)(xs:List PV)(J:It):Prop where
 stop:∀φ H,Step φ0 H0 φ H->J.stop xs.length H
 go:∀(i:Nat) φ H,Step φ0 H0 φ H->i<xs.length->J.go i H
 yld:∀(i:Nat) φ H st x H' (B':AJ->Prop),(∀y,B' y->B y \/ H0 y=AD)->Step φ0 H0 φ H->yC X.K S.cl B' φ H st->i<xs.length->J.yld i H x H'->∃v,xs[i]?=AA v/\yd X.K S.cl B' φ H' v x/\∀b o,H b=AA o->H' b=AA o
abbrev RD(B:AJ->Prop):Ph->Hp->List PV->It->Prop:=λφ H=>Drw S X B φ H
def tI(c:Cit):TI:=λσ H R=>∃B φ st ρ,yC X.K S.cl B φ H st/\yK X.K S.cl B φ H ρ σ/\Run S X σ B φ H (RD S X B) (evi S.call ρ st c) R
end
section
variable {S:Se}{X:Cx}{σ:St}{B:AJ->Prop}{φ φ1:Ph}{H H1:Hp}{st:SO}{ρ:IC.Env}{D:Ends}{pos p p2 px:Bo}{a b c o tg l:AT}{ca cb cc:Ce}{es:List AT}{ces:Ces}{ss:List Bc}{cs:Css}{ci:Cit}{ct:Tg}
def zki:PE X a (tE S X .nope):=λπ s σ H Q I ⟨B,φ,st,ρ,rs,re,h⟩=>by
 erw[ev]at h;exact h.elim
def zk1{s1:Bc}:PS X s1 (tS S X .nope):=λπ s σ H D I ⟨B,φ,st,ρ,rs,re,h⟩=>by
 erw[ex]at h;exact h.elim
theorem PI.imp{t t':TI}(h:PI X tg l t')(k:∀σ H R,t σ H R->t' σ H R):PI X tg l t:=λπ s σ H R I q=>h π s σ H R I (k σ H R q)
def zlt{tl:TE}(hl:PE X l tl):PI X tg l (λσ H R=>tl σ H λx H1=>∃a,x=.ref a/\(((∃xs,SqL X.K H1 a xs)/\R (Itl X.K a) H1) \/ ((∃xs,SqT X.K H1 a xs)/\R (Itt X.K a) H1))):=by
 intro π s σ H R I h;refine thn (hl π s σ H _ I h) λv s1 kq=>?_;let⟨x,H1,I1,r1,q1⟩:=kq;let⟨a,e,q1⟩:=q1;subst e
 cases r1
 rcases q1 with⟨⟨xs,hq⟩,q⟩|⟨⟨xs,hq⟩,q⟩
 .let⟨its,rv,p,hz⟩:=I1.list hq;refine Fi p.isList ?_;refine⟨s1.heap.objs.size,[s1.heap.objs.size],_,_,H1,rfl,I1.kept (t':=s1.toks) λb o e=>AV _ e,zhx a _,⟨_,Ac _ rfl,rfl,rfl⟩,λb hb=>?_,q⟩;have e:b=s1.heap.objs.size:=by simpa using hb
  subst e;exact I1.fpOk (AS _) (I1.hok.fresh (AS _))
 .let⟨its,rv,p,hz⟩:=I1.tuple hq;refine CA (show s1.heap.IsTuple a its.toArray from p) ?_;refine⟨s1.heap.objs.size,[s1.heap.objs.size],_,_,H1,rfl,I1.kept (t':=s1.toks) λb o e=>AV _ e,zft a _,⟨_,Ac _ rfl,rfl,rfl⟩,λb hb=>?_,q⟩;have e:b=s1.heap.objs.size:=by simpa using hb
  subst e;exact I1.fpOk (AS _) (I1.hok.fresh (AS _))
def zk4{k:Bool}{vs:List PV}{xs:List V}{y:AJ}(rt:ybD X.K B φ H k y xs)(l:yj X.K S.cl B φ H vs xs):Drw S X B φ H vs (Itt X.K y):=by
 have hl:=l.length;refine⟨λφ' H' s=>⟨xs,(rt.step s).sq,by lia⟩,λi φ' H' s hi=>⟨xs,xs[i]'∅,(rt.step s).sq,by simp[show i<xs.length by lia]⟩,λi φ' H' st x H2 B' hB s rs hi q=>?_⟩;let⟨rfl,q⟩:=q;obtain⟨v,hv⟩:∃v,vs[i]?=AA v:=⟨vs[i],by simp[hi]⟩;let⟨x',hx',rv⟩:=l.get i hv;have:=q xs (rt.step s).sq;rw[this]at hx'
 cases hx'
 exact⟨v,hv,(rv.moreB hB).step s,λ_ _ e=>e⟩
def zj3{vs:List PV}{xs:List V}{y:AJ}(rt:yc7 B φ H y xs)(l:yj X.K S.cl B φ H vs xs):Drw S X B φ H vs (Itl X.K y):=by
 have hl:=l.length;refine⟨λφ' H' s=>⟨xs,(rt.step s).sq,by lia⟩,λi φ' H' s hi=>⟨xs,xs[i]'∅,(rt.step s).sq,by simp[show i<xs.length by lia]⟩,λi φ' H' st x H2 B' hB s rs hi q=>?_⟩;let⟨rfl,q⟩:=q;obtain⟨v,hv⟩:∃v,vs[i]?=AA v:=⟨vs[i],by simp[hi]⟩;let⟨x',hx',rv⟩:=l.get i hv;have:=q xs (rt.step s).sq;rw[this]at hx'
 cases hx'
 exact⟨v,hv,(rv.moreB hB).step s,λ_ _ e=>e⟩
def zl3(hl:PE X l (tE S X ca)):PI X tg l (tI S X (.seq ca)):=
 (zlt hl).imp λσ H R ⟨B,φ,st,ρ,rs,re,h⟩=>by
  erw[evi]at h;refine tE.bind rs re h λx H1 v st1 φ1 s1 rs1 re1 rv h1=>?_
  cases v with
  |tp k vs=>
   erw[yd]at rv;let⟨y,xs,rfl,rt,l⟩:=rv;exact⟨y,rfl,.inr ⟨⟨xs,rt.sq⟩,h1.ok rs1 (zk4 rt l)⟩⟩
  |lst vs=>
   erw[yd]at rv;let⟨y,xs,rfl,rt,l⟩:=rv;exact⟨y,rfl,.inl ⟨⟨xs,rt.sq⟩,h1.ok rs1 (zj3 rt l)⟩⟩
  |_=>exact h1.elim
def zap:∀(n:Nat) (lo d:Int) (i:Nat),(yr n lo d)[i]?=if i<n then AA (.int (lo+i*d))else AD
 |0,lo,d,i=>by simp[yr]
 |n+1,lo,d,0=>by simp[yr]
 |n+1,lo,d,i+1=>by
  erw[yr,AN];rw[zap n (lo+d) d i]
  by_cases h:i<n
  .rw[if_pos h,if_pos ∅,Int.natCast_succ,Int.add_mul,HB,FQ,Int.add_comm d]
  .rw[if_neg h,if_neg ∅]
def z6:∀(n:Nat) (lo d:Int),(yr n lo d).length=n
 |0,lo,d=>rfl
 |n+1,lo,d=>by simp[yr,z6 n]
def zgT{lo:Int}{n:Nat}:Drw S X B φ H (yr n lo 1) (Itr lo n):=by
 refine⟨λφ' H' s=>by rw[z6];exact AS _,λi φ' H' s hi=>by rw[z6]at hi;exact hi,λi φ' H' st x H2 B' hB s rs hi q=>?_⟩;rw[z6]at hi;let⟨rfl,rfl⟩:=q;refine⟨.int (lo+i),?_,by erw[yd],λ_ _ e=>e⟩;rw[zap,if_pos hi,GN]
def zf0{o:Option (List PV)}{st:SO}{Q:It->Hp->Prop}(h:Run S X σ B φ H (RD S X B) (toL o st) Q):∃xs,o=AA xs/\Run S X σ B φ H (RD S X B) (.ok xs st) Q:=by
 cases o with
 |none=>exact h.elim
 |some z=>exact⟨z,rfl,h⟩
def zfY(hg:Gl X "range")(hm:X.mg "range"=AD)(ha:PE X a (tE S X ca))(hs:starEach [a] X.env=[(AB,eval a X.env)]:=by rfl):PI X tg (.Call (.Name "range" p) [a] [] pos) (tI S X (.range1 ca)):=
 (zgW hg hm (zab ha zfv hs) hs).imp λσ H R ⟨B,φ,st,ρ,rs,re,h⟩=>by
  erw[evi]at h;refine tE.bind rs re h λx H1 v st1 φ1 s1 rs1 re1 rv h1=>?_;let⟨xs,e,h1⟩:=zf0 h1
  cases v with
  |int j=>
   erw[ybk]at e;split at e
   .cases e
    erw[yd]at rv;subst rv;exact⟨j,rfl,by lia,by lia,h1.ok rs1 zgT⟩
   .cases e
  |_=>cases e
def zcD:∀(xs:List PV) (k i:Nat),(yam k xs)[i]?=(xs[i]?).map λx=>.tup [.int ((k+i:Nat):Int),x]
 |[],k,i=>by simp[yam]
 |x::xs,k,0=>by simp[yam]
 |x::xs,k,i+1=>by
  erw[yam,AN];rw[zcD xs (k+1) i];have:k+1+i=k+(i+1):=by lia
  rw[this]
def zcs:∀(xs:List PV) (k:Nat),(yam k xs).length=xs.length
 |[],k=>rfl
 |x::xs,k=>by simp[yam,zcs xs]
def ziJ{k:Bool}{vs:List PV}{xs:List V}{y:AJ}(rt:ybD X.K B φ H k y xs)(l:yj X.K S.cl B φ H vs xs):Drw S X B φ H (yam 0 vs) (Ite X.K y):=by
 have hl:=l.length;have hp:=zcs vs 0;refine⟨λφ' H' s=>⟨xs,(rt.step s).sq,by lia⟩,λi φ' H' s hi=>⟨xs,xs[i]'∅,(rt.step s).sq,by simp[show i<xs.length by lia]⟩,λi φ' H' st x H2 B' hB s rs hi q=>?_⟩;let⟨T,hT,rfl,q⟩:=q;obtain⟨v,hv⟩:∃v,vs[i]?=AA v:=⟨vs[i]'∅,by simp[show i<vs.length by lia]⟩;let⟨x',hx',rv⟩:=l.get i hv;have e:=q xs x' (rt.step s).sq hx';subst e;refine⟨.tup [.int i,v],?_,.tup_new hT rs ?_,λb o e=>by rw[zk (zn e hT)];exact e⟩
 .rw[zcD,hv];simp
 .simp only[yj,yd];exact⟨_,_,rfl,rfl,x',[],rfl,(rv.moreB hB).step s,rfl⟩
def zj4{es:List AT}{kk:Nat}{tp:Bo}(hg:Gl X "enumerate")(hm:X.mg "enumerate"=AD)(ha:PE X a (tE S X ca))(hs:starEach [a] X.env=[(AB,eval a X.env)]:=by rfl):
  PI X (.Tuple es kk tp) (.Call (.Name "enumerate" p) [a] [] pos) (tI S X (.enum ca)):=
 (zhQ hg hm (zab ha zfv hs) hs).imp λσ H R ⟨B,φ,st,ρ,rs,re,h⟩=>by
  erw[evi]at h;refine tE.bind rs re h λx H1 v st1 φ1 s1 rs1 re1 rv h1=>?_
  cases v with
  |tp k vs=>
   erw[yd]at rv;let⟨y,xs,rfl,rt,l⟩:=rv;exact⟨y,rfl,⟨xs,rt.sq⟩,h1.ok rs1 (ziJ rt l)⟩
  |_=>exact h1.elim
def tG(S:Se)(X:Cx)(t:Tg):TG:=λv σ H Q=>∃B φ st ρ w ρ',yC X.K S.cl B φ H st/\yK X.K S.cl B φ H ρ σ/\yd X.K S.cl B φ H w v/\yU t w ρ=AA ρ'/\∀σ',yK X.K S.cl B φ H ρ' σ'->Q σ' H
theorem PG.imp{t t':TG}(h:PG X tg t')(k:∀v σ H Q,t v σ H Q->t' v σ H Q):PG X tg t:=λπ s σ H v u Q I rv q=>h π s σ H v u Q I rv (k v σ H Q q)
def zke{i:Nat}{x:AO}(hN:X.N.Nodup)(hi:X.N[i]?=AA x)(hx:Loc X.env.scope x)(hf:X.fn x=AC \/ X.env.scope.names.lookup x=AA .local:=by first|exact .inl rfl|exact .inr rfl|assumption):PG X (.Name x pos) (tG S X (.n i)):=
 (zgR hN hi hx hf).imp λv σ H Q ⟨B,φ,st,ρ,w,ρ',rs,re,rv,e,q⟩=>by
  cases e
  exact q _ (re.set i rv)
def gNs(l:List Nat):TGs:=λvs σ H Q=>vs.length=l.length/\Q ((l.zip vs).foldl (λσ p=>σ.set p.1 (AA p.2)) σ) H
theorem PGs.imp{es:List AT}{t t':TGs}(h:PGs X es t')(k:∀v σ H Q,t v σ H Q->t' v σ H Q):PGs X es t:=λπ s σ H vs us Q I rv q=>h π s σ H vs us Q I rv (k vs σ H Q q)
def zjT:PGs X [] (gNs []):=zn8.imp λvs σ H Q ⟨h,q⟩=>by
 cases vs with
 |nil=>exact⟨rfl,q⟩
 |cons _ _=>cases h
def ziA{es:List AT}{l:List Nat}{i:Nat}{x:AO}(hN:X.N.Nodup)(hi:X.N[i]?=AA x)(hx:Loc X.env.scope x)(h2:PGs X es (gNs l))(hf:X.fn x=AC \/ X.env.scope.names.lookup x=AA .local:=by first|exact .inl rfl|exact .inr rfl|assumption):PGs X (.Name x pos::es) (gNs (i::l)):=
 (zdn (zgR hN hi hx hf) h2).imp λvs σ H Q ⟨h,q⟩=>by
  cases vs with
  |nil=>cases h
  |cons v vs=>exact⟨v,vs,rfl,by simpa using h,q⟩
theorem yK.sets{K:AF}{cl:Nat->AJ}:∀(l:List Nat) {vs:List PV} {xs:List V} {ρ:IC.Env} {σ:St},yK K cl B φ H ρ σ->yj K cl B φ H vs xs ->
  yK K cl B φ H ((l.zip vs).foldl (λρ p=>ρ.set p.1 (AA p.2)) ρ) ((l.zip xs).foldl (λσ p=>σ.set p.1 (AA p.2)) σ)
 |[],vs,xs,ρ,σ,re,l=>by simpa using re
 |i::is,[],xs,ρ,σ,re,l=>by
  erw[yj]at l;subst l;simpa using re
 |i::is,v::vs,xs,ρ,σ,re,l=>by
  erw[yj]at l;let⟨y,ys,rfl,r,l⟩:=l;erw[Dl,Cj];exact yK.sets is (re.set i r) l
def zmR{es:List AT}{l:List Nat}{k:Nat}(hc:X.calm=AC)(h:PGs X es (gNs l))(hn:(assignEach es X.env).length=l.length:=by rfl)(hst:(assignEach es X.env).findIdx? (·.1)=none:=by rfl):PG X (.Tuple es k pos) (tG S X (.t l)):=
 (zjv hc h hn hst).imp λv σ H Q ⟨B,φ,st,ρ,w,ρ',rs,re,rv,e,q⟩=>by
  cases w with
  |tp kk vs=>
   erw[yU]at e;split at e
   .rename_i c
    cases e
    erw[yd]at rv;let⟨y,xs,rfl,rt,lr⟩:=rv;have hl:=lr.length;exact⟨y,xs,rfl,rt.sq,by lia,by lia,q _ (yK.sets l re lr)⟩
   .cases e
  |_=>cases e
def zjJ{es:List AT}{l:List Nat}{k:Nat}(he:PE X a (tE S X ca))(hg:PG X (.Tuple es k p2) (tG S X (.t l)))(hs:swapsWithSole [.Tuple es k p2] a pos.line X.env=pure false:=by rfl)(hw:swappedStores [.Tuple es k p2] a X.env=pure none:=by rfl):
  PS X (.Assign [.Tuple es k p2] a pos) (tS S X (.asg (.t l) ca)):=
 (zgA he hg hs hw).imp λD σ H ⟨B,φ,st,ρ,rs,re,h⟩=>by
  erw[ex]at h;refine tE.fl rs re h λx H1 v st1 φ1 s rs1 re1 rv h1=>?_
  cases e:yU (.t l) v ρ with
  |none=>rw[e]at h1;exact h1.elim
  |some ρ'=>
   rw[e]at h1;exact⟨B,φ1,st1,ρ,v,ρ',rs1,re1,rv,e,λσ' re'=>h1 σ' H1 φ1 .rfl rs1 re'⟩
theorem tI.fl{k:List PV->SO->Fl}{P:It->Hp->Prop}(rs:yC X.K S.cl B φ H st)(re:yK X.K S.cl B φ H ρ σ)(h:yap S X B φ H ((evi S.call ρ st ci).fl ρ k) D)
  (n:∀x H1 v st1 φ1,Step φ H φ1 H1->yC X.K S.cl B φ1 H1 st1->yK X.K S.cl B φ1 H1 ρ σ->Drw S X B φ1 H1 v x->yap S X B φ1 H1 (k v st1) D->P x H1):tI S X ci σ H P:=by
 refine⟨B,φ,st,ρ,rs,re,?_⟩
 cases e:evi S.call ρ st ci with
 |ok v st'=>
  rw[e]at h;exact λx H' φ' s rs' rv=>n x H' v st' φ' s rs' (re.step s) rv (h.on s)
 |exc k st'=>
  rw[e]at h;exact λe s' x=>h σ φ H e s' .rfl re x
 |bad=>rw[e]at h;exact h
def zlI(hp:EK (model X.prog X.w) X.A X.env X.xe)(hc:X.calm=AC)(hi:PI X tg l (tI S X ci))(hg:PG X tg (tG S X ct))(hb:PSs X ss (tSs S X cs))(hs:∀x,foldedSetIterable l X.env x=pure x:=by intro _;rfl):
  PS X (.For tg l ss [] pos) (tS S X (.for ct ci cs)):=
 (znv hp hc hi hg hb hs).imp λD σ H ⟨B,φ,st,ρ,rs,re,h⟩=>by
  erw[ex]at h;refine tI.fl rs re h λJ H1 xs st1 φ1 s1 rs1 re1 dr h1=>?_;refine⟨λi m σ H=>∃φ st ρ,i+m=xs.length/\Step φ1 H1 φ H/\yC X.K S.cl B φ H st/\yK X.K S.cl B φ H ρ σ/\yap S X B φ H (forL ct (λρ2 st2=>exs S.call ρ2 st2 cs) (xs.drop i) ρ st) D,
   ⟨xs.length,φ1,st1,ρ,by lia,.rfl,rs1,re1,by simpa using h1⟩,?_⟩
  rintro i m σ2 H2 ⟨φ2,st2,ρ2,hm,s2,rs2,re2,h2⟩
  by_cases hi:i<xs.length
  .refine .inr ⟨dr.go i φ2 H2 s2 hi,λσ' H'=>∃φ st ρ,Step φ1 H1 φ H'/\yC X.K S.cl B φ H' st/\yK X.K S.cl B φ H' ρ σ'/\yap S X B φ H' (forL ct (λρ2 st2=>exs S.call ρ2 st2 cs) (xs.drop (i+1)) ρ st) D,
    λσ' H' ⟨φ,st,ρ,s,q⟩=>⟨m-1,by lia,φ,st,ρ,by lia,s,q⟩,λx H3 hy=>?_⟩
   let⟨v,hv,rv,kk⟩:=dr.yld i φ2 H2 st2 x H3 B (λ_ z=>.inl z) s2 rs2 hi hy;have e:xs.drop i=v::xs.drop (i+1):=by
    rw[Cc hi];rw[Bf hi]at hv;rw[A6 hv]
   have s3:Step φ2 H2 φ2 H3:=⟨λb o _ e=>kk b o e,AS _,λ_ _ _ e=>e,λ_ h=>.inl h⟩;have rs3:yC X.K S.cl B φ2 H3 st2:=rs2.same kk;rw[e,forL]at h2
   cases eb:yU ct v ρ2 with
   |none=>rw[eb]at h2;exact h2.elim
   |some ρ3=>
    rw[eb]at h2;refine⟨B,φ2,st2,ρ2,v,ρ3,rs3,re2.step s3,rv,eb,λσ' re'=>⟨B,φ2,st2,ρ3,rs3,re',?_⟩⟩;have h3:=yap.on s3 h2;dsimp only at h3
    cases ee:exs S.call ρ3 st2 cs with
    |nx ρ4 st4=>
     rw[ee]at h3;exact λσ4 H4 φ4 s4 rs4 re4=>⟨φ4,st4,ρ4,s2.trans (s3.trans s4),rs4,re4,yap.on s4 h3⟩
    |ct ρ4 st4=>
     rw[ee]at h3;exact λσ4 H4 φ4 s4 rs4 re4=>⟨φ4,st4,ρ4,s2.trans (s3.trans s4),rs4,re4,yap.on s4 h3⟩
    |bk ρ4 st4=>rw[ee]at h3;exact h3
    |rt v4 st4=>rw[ee]at h3;exact h3
    |exc k ρ4 st4=>rw[ee]at h3;exact h3
    |bad=>rw[ee]at h3;exact h3
  .have e:i=xs.length:=by lia
   subst e;rw[ES,forL]at h2;exact .inl ⟨dr.stop φ2 H2 s2,h2 σ2 H2 φ2 .rfl rs2 re2⟩
def zim(hp:EK (model X.prog X.w) X.A X.env X.xe)(hc:PT X c (tTs S X cc))(hb:PSs X ss (tSs S X cs)):PS X (.While c ss [] pos) (tS S X (.while cc cs)):=
 (zhI hp hc hb).imp λD σ H ⟨B,φ,st,ρ,rs,re,h⟩=>by
  erw[ex]at h;refine⟨λm σ H=>∃φ st ρ,yC X.K S.cl B φ H st/\yK X.K S.cl B φ H ρ σ/\yap S X B φ H (yaF (λρ2 st2=>ev S.call ρ2 st2 cc) (λρ2 st2=>exs S.call ρ2 st2 cs) m ρ st) D,⟨100000,φ,st,ρ,rs,re,h⟩,?_⟩
  rintro m σ2 H2 ⟨φ2,st2,ρ2,rs2,re2,h2⟩
  cases m with
  |zero=>exact h2.elim
  |succ m=>
   rw[yaF]at h2;rw[flT _ λk st1=>cond k (yaN (exs S.call ρ2 st1 cs) λρ2 st2=>yaF (λρ2 st2=>ev S.call ρ2 st2 cc) (λρ2 st2=>exs S.call ρ2 st2 cs) m ρ2 st2) (.nx ρ2 st1)]at h2;refine tTs.fl rs2 re2 h2 λk H3 st3 φ3 s3 rs3 re3 h3=>?_
   cases k with
   |false=>exact h3 σ2 H3 φ3 .rfl rs3 re3
   |true=>
    refine⟨λσ' H'=>∃φ st ρ,yC X.K S.cl B φ H' st/\yK X.K S.cl B φ H' ρ σ'/\yap S X B φ H' (yaF (λρ2 st2=>ev S.call ρ2 st2 cc) (λρ2 st2=>exs S.call ρ2 st2 cs) m ρ st) D,
     λσ' H' q=>⟨m,by lia,q⟩,B,φ3,st3,ρ2,rs3,re3,?_⟩
    erw[cond_true]at h3
    cases ee:exs S.call ρ2 st3 cs with
    |nx ρ4 st4=>
     rw[ee]at h3;exact λσ4 H4 φ4 s4 rs4 re4=>⟨φ4,st4,ρ4,rs4,re4,yap.on s4 h3⟩
    |ct ρ4 st4=>
     rw[ee]at h3;exact λσ4 H4 φ4 s4 rs4 re4=>⟨φ4,st4,ρ4,rs4,re4,yap.on s4 h3⟩
    |bk ρ4 st4=>rw[ee]at h3;exact h3
    |rt v4 st4=>rw[ee]at h3;exact h3
    |exc k ρ4 st4=>rw[ee]at h3;exact h3
    |bad=>rw[ee]at h3;exact h3
end
section
variable (S:Se)(K:AF)
def yfR{α β:Type}(B:AJ->Prop)(φ:Ph)(H:Hp)(Rel:Ph->Hp->α->β->Prop)(r:R α)(Q:β->Hp->Prop):Prop:=
 match r with
 |.ok v st'=>∀x H' φ',Step φ H φ' H'->yC K S.cl B φ' H' st'->Rel φ' H' v x->Q x H'
 |_=>False
def tE0(c:Ce):TE:=λσ H Q=>∃B φ st ρ,yC K S.cl B φ H st/\yK K S.cl B φ H ρ σ/\yfR S K B φ H (λφ H=>yd K S.cl B φ H) (ev S.call ρ st c) Q
def tT0(c:Ce):TT:=λσ H Q=>∃B φ st ρ,yC K S.cl B φ H st/\yK K S.cl B φ H ρ σ/\yfR S K B φ H RB (yaV (ev S.call ρ st c)) Q
def tG0(t:Tg):TG:=λv σ H Q=>∃B φ st ρ w ρ',yC K S.cl B φ H st/\yK K S.cl B φ H ρ σ/\yd K S.cl B φ H w v/\yU t w ρ=AA ρ'/\∀σ',yK K S.cl B φ H ρ' σ'->Q σ' H
end
section
variable {S:Se}{X:Cx}{K:AF}{cl:Nat->AJ}{σ:St}{B:AJ->Prop}{φ φ1:Ph}{H H1:Hp}{st:SO}{ρ:IC.Env}{pos p p2 px:Bo}{a b c o tg l elt iter:AT}{ca cb cc ce:Ce}{ci:Cit}{ct:Tg}
def zj6(hK:X.K=K)(h:PE X a (tE S X ca)):PE X a (tE0 S K ca):=by
 subst hK;refine h.imp λσ H Q kq=>?_;let⟨B,φ,st,ρ,rs,re,q⟩:=kq;refine ⟨B,φ,st,ρ,rs,re,?_⟩
 cases e:ev S.call ρ st ca with
 |ok v st'=>rw[e]at q;exact q
 |exc k st'=>rw[e]at q;exact q.elim
 |bad=>rw[e]at q;exact q
def zkR(hK:X.K=K)(h:PT X a (tTs S X ca)):PTs X [a] (tT0 S K ca):=by
 subst hK;refine zkk (h.imp λσ H Q kq=>?_);let⟨B,φ,st,ρ,rs,re,q⟩:=kq;refine ⟨B,φ,st,ρ,rs,re,?_⟩
 cases e:yaV (ev S.call ρ st ca)with
 |ok v st'=>rw[e]at q;exact q
 |exc k st'=>rw[e]at q;exact q.elim
 |bad=>rw[e]at q;exact q
def zhX:PTs X [] (tT0 S K (.cst (.bl AC))):=λπ s σ H Q I ⟨B,φ,st,ρ,rs,re,q⟩=>by
 refine zk9 π s σ H Q I ?_;erw[ev,yaV,R.bind,yaL,onO]at q;exact q AC H φ .rfl rs rfl
def zkX(hK:X.K=K)(h:PG X tg (tG S X ct)):PG X tg (tG0 S K ct):=by
 subst hK;exact h
theorem ybD.skip{k:Bool}{D y:AJ}{u:HO}{xs:List V}(hD:B D)(r:ybD K B φ H k y xs):ybD K B φ (L2.upd H D u) k y xs:=by
 rcases r with⟨r,b,n⟩|r
 .exact .inl ⟨by rw[zk (show y≠D from λz=>b (z ▸ hD))];exact r,b,n⟩
 .exact .inr r
mutual
theorem yd.skip{D:AJ}{u:HO}(hD:B D):∀(v:PV) (x:V),yd K cl B φ H v x->yd K cl B φ (L2.upd H D u) v x
 |.non,x,h=>by erw[yd]at h ⊢;exact h
 |.bl b,x,h=>by erw[yd]at h ⊢;exact h
 |.int i,x,h=>by erw[yd]at h ⊢;exact h
 |.str y,x,h=>by erw[yd]at h ⊢;exact h
 |.tp k vs,x,h=>by
  erw[yd]at h ⊢;let⟨y,xs,e,r,l⟩:=h;exact⟨y,xs,e,r.skip hD,yj.skip hD vs xs l⟩
 |.lst vs,x,h=>by
  erw[yd]at h ⊢;let⟨y,xs,e,⟨r,b,n⟩,l⟩:=h;exact⟨y,xs,e,⟨by rw[zk (show y≠D from λz=>b (z ▸ hD))];exact r,b,n⟩,yj.skip hD vs xs l⟩
 |.loc n,x,h=>by erw[yd]at h ⊢;exact h
 |.fnc j,x,h=>by erw[yd]at h ⊢;exact h
 |.exn c,x,h=>by
  erw[yd]at h ⊢;let⟨y,e,r,b,n⟩:=h;exact⟨y,e,by rw[zk (show y≠D from λz=>b (z ▸ hD))];exact r,b,n⟩
 |.scr vs,x,h=>by
  erw[yd]at h ⊢;let⟨y,xs,e,r,l⟩:=h;refine⟨y,xs,e,?_,yj.skip hD vs xs l⟩;rcases r with⟨r,b,n⟩|r
  .refine .inl ⟨?_,b,n⟩;have ne:y≠D:=λz=>b (z ▸ hD);rcases r with r|⟨o,r⟩
   .exact .inl (by rw[zk ne];exact r)
   .exact .inr ⟨o,by rw[zk ne];exact r⟩
  .exact .inr r
theorem yj.skip{D:AJ}{u:HO}(hD:B D):∀(v:List PV) (x:List V),yj K cl B φ H v x->yj K cl B φ (L2.upd H D u) v x
 |[],x,h=>by erw[yj]at h ⊢;exact h
 |v::vs,x,h=>by
  erw[yj]at h ⊢;let⟨y,ys,e,r,l⟩:=h;exact⟨y,ys,e,yd.skip hD v y r,yj.skip hD vs ys l⟩
end
theorem DK.skip{D:AJ}{u:HO}(hD:B D):∀{kvs:List (PV×PV)} {ks:List (Key×V)},DK K cl B φ H kvs ks->DK K cl B φ (L2.upd H D u) kvs ks
 |[],ks,h=>h
 |(k,v)::r,ks,h=>by
  let⟨q,x,t,e,m,rv,l⟩:=h;exact⟨q,x,t,e,m,rv.skip hD,DK.skip hD l⟩
theorem DT.skip{D:AJ}{u:HO}(hD:B D):∀{kvs:List (PV×PV)} {ks:List (List Key×V)},DT K cl B φ H kvs ks->DT K cl B φ (L2.upd H D u) kvs ks
 |[],ks,h=>h
 |(k,v)::r,ks,h=>by
  let⟨q,x,t,e,m,rv,l⟩:=h;exact⟨q,x,t,e,m,rv.skip hD,DT.skip hD l⟩
theorem FS.skip{D:AJ}{u:HO}(hD:B D):∀{kvs:List (AO×PV)} {ks:List (AO×V)},FS K cl B φ H kvs ks->FS K cl B φ (L2.upd H D u) kvs ks
 |[],ks,h=>h
 |(k,v)::r,ks,h=>by
  let⟨x,t,e,rv,l⟩:=h;exact⟨x,t,e,rv.skip hD,FS.skip hD l⟩
theorem yC.skip{D:AJ}{u:HO}(hD:B D)(rs:yC K cl B φ H st):yC K cl B φ (L2.upd H D u) st:=by
 refine⟨rs.len,rs.inj,λn y e=>?_,rs.liv,rs.nb,λy h=>?_⟩
 .let⟨o,q,r⟩:=rs.obj n y e;have ne:y≠D:=λz=>rs.nb y (AR e) (z ▸ hD);refine⟨o,q,?_⟩
  cases o with
  |lst vs=>
   let⟨xs,hx,l⟩:=r;exact⟨xs,by rw[zk ne];exact hx,l.skip hD⟩
  |dct t kvs=>
   cases t with
   |false=>
    let⟨xs,hx,l⟩:=r;exact⟨xs,by rw[zk ne];exact hx,l.skip hD⟩
   |true=>
    let⟨xs,hx,l⟩:=r;exact⟨xs,by rw[zk ne];exact hx,l.skip hD⟩
  |ins c fs=>
   let⟨ks,⟨dx,hx⟩,l⟩:=r;exact⟨ks,⟨dx,by rw[zk ne];exact hx⟩,l.skip hD⟩
  |dead=>exact r.elim
 .by_cases z:y=D
  .subst z;exact⟨u,zl⟩
  .let⟨w,e⟩:=rs.dom y h;exact⟨w,by rw[zk z];exact e⟩
theorem yK.skip{D:AJ}{u:HO}(hD:B D)(re:yK K cl B φ H ρ σ):yK K cl B φ (L2.upd H D u) ρ σ:=⟨re.len,λi v e=>by
 let⟨x,h,q⟩:=re.get i v e;exact⟨x,h,q.skip hD⟩⟩
def Bx(B:AJ->Prop)(D:AJ):AJ->Prop:=λy=>B y \/ y=D
def zfR{D:AJ}(hn:H D=AD):∀y,Bx B D y->B y \/ H y=none:=λy z=>z.elim .inl λq=>.inr (q ▸ hn)
theorem yd.more{D:AJ}(hn:H D=AD){v:PV}{x:V}(h:yd K cl B φ H v x):yd K cl (Bx B D) φ H v x:=h.moreB (zfR hn)
theorem yj.more{D:AJ}(hn:H D=AD){v:List PV}{x:List V}(h:yj K cl B φ H v x):yj K cl (Bx B D) φ H v x:=h.moreB (zfR hn)
mutual
theorem yd.less{D:AJ}:∀(v:PV) (x:V),yd K cl (Bx B D) φ H v x->yd K cl B φ H v x
 |.non,x,h=>by erw[yd]at h ⊢;exact h
 |.bl b,x,h=>by erw[yd]at h ⊢;exact h
 |.int i,x,h=>by erw[yd]at h ⊢;exact h
 |.str y,x,h=>by erw[yd]at h ⊢;exact h
 |.tp k vs,x,h=>by
  erw[yd]at h ⊢;let⟨y,xs,e,r,l⟩:=h;refine⟨y,xs,e,?_,yj.less vs xs l⟩;rcases r with⟨r,b,n⟩|r
  .exact .inl ⟨r,λz=>b (.inl z),n⟩
  .exact .inr r
 |.lst vs,x,h=>by
  erw[yd]at h ⊢;let⟨y,xs,e,⟨r,b,n⟩,l⟩:=h;exact⟨y,xs,e,⟨r,λz=>b (.inl z),n⟩,yj.less vs xs l⟩
 |.loc n,x,h=>by erw[yd]at h ⊢;exact h
 |.fnc j,x,h=>by erw[yd]at h ⊢;exact h
 |.exn c,x,h=>by
  erw[yd]at h ⊢;let⟨y,e,r,b,n⟩:=h;exact⟨y,e,r,λz=>b (.inl z),n⟩
 |.scr vs,x,h=>by
  erw[yd]at h ⊢;let⟨y,xs,e,r,l⟩:=h;refine⟨y,xs,e,?_,yj.less vs xs l⟩;rcases r with⟨r,b,n⟩|r
  .exact .inl ⟨r,λz=>b (.inl z),n⟩
  .exact .inr r
theorem yj.less{D:AJ}:∀(v:List PV) (x:List V),yj K cl (Bx B D) φ H v x->yj K cl B φ H v x
 |[],x,h=>by erw[yj]at h ⊢;exact h
 |v::vs,x,h=>by
  erw[yj]at h ⊢;let⟨y,ys,e,r,l⟩:=h;exact⟨y,ys,e,yd.less v y r,yj.less vs ys l⟩
end
theorem DK.more{D:AJ}(hn:H D=AD):∀{kvs:List (PV×PV)} {ks:List (Key×V)},DK K cl B φ H kvs ks->DK K cl (Bx B D) φ H kvs ks
 |[],ks,h=>h
 |(k,v)::r,ks,h=>by
  let⟨q,x,t,e,m,rv,l⟩:=h;exact⟨q,x,t,e,m,rv.more hn,DK.more hn l⟩
theorem DT.more{D:AJ}(hn:H D=AD):∀{kvs:List (PV×PV)} {ks:List (List Key×V)},DT K cl B φ H kvs ks->DT K cl (Bx B D) φ H kvs ks
 |[],ks,h=>h
 |(k,v)::r,ks,h=>by
  let⟨q,x,t,e,m,rv,l⟩:=h;exact⟨q,x,t,e,m,rv.more hn,DT.more hn l⟩
theorem FS.more{D:AJ}(hn:H D=AD):∀{kvs:List (AO×PV)} {ks:List (AO×V)},FS K cl B φ H kvs ks->FS K cl (Bx B D) φ H kvs ks
 |[],ks,h=>h
 |(k,v)::r,ks,h=>by
  let⟨x,t,e,rv,l⟩:=h;exact⟨x,t,e,rv.more hn,FS.more hn l⟩
theorem DK.less{D:AJ}:∀{kvs:List (PV×PV)} {ks:List (Key×V)},DK K cl (Bx B D) φ H kvs ks->DK K cl B φ H kvs ks
 |[],ks,h=>h
 |(k,v)::r,ks,h=>by
  let⟨q,x,t,e,m,rv,l⟩:=h;exact⟨q,x,t,e,m,rv.less,DK.less l⟩
theorem DT.less{D:AJ}:∀{kvs:List (PV×PV)} {ks:List (List Key×V)},DT K cl (Bx B D) φ H kvs ks->DT K cl B φ H kvs ks
 |[],ks,h=>h
 |(k,v)::r,ks,h=>by
  let⟨q,x,t,e,m,rv,l⟩:=h;exact⟨q,x,t,e,m,rv.less,DT.less l⟩
theorem FS.less{D:AJ}:∀{kvs:List (AO×PV)} {ks:List (AO×V)},FS K cl (Bx B D) φ H kvs ks->FS K cl B φ H kvs ks
 |[],ks,h=>h
 |(k,v)::r,ks,h=>by
  let⟨x,t,e,rv,l⟩:=h;exact⟨x,t,e,rv.less,FS.less l⟩
theorem yC.less{D:AJ}(rs:yC K cl (Bx B D) φ H st):yC K cl B φ H st:=by
 refine⟨rs.len,rs.inj,λn y e=>?_,rs.liv,λy h z=>rs.nb y h (.inl z),λy h=>rs.dom y (.inl h)⟩;let⟨o,q,r⟩:=rs.obj n y e;refine⟨o,q,?_⟩
 cases o with
 |lst vs=>let⟨xs,hx,l⟩:=r;exact⟨xs,hx,l.less⟩
 |dct t kvs=>cases t<;>(let⟨xs,hx,l⟩:=r;exact⟨xs,hx,l.less⟩)
 |ins c fs=>let⟨ks,hx,l⟩:=r;exact⟨ks,hx,l.less⟩
 |dead=>exact r.elim
theorem yC.more{D:AJ}{u:HO}(hn:H D=AD)(rs:yC K cl B φ H st):yC K cl (Bx B D) φ (L2.upd H D u) st:=by
 have nD:AA D∉φ:=λz=>by
  let⟨w,e⟩:=rs.there z;rw[hn]at e;cases e
 have s:Step φ H φ (L2.upd H D u):=.upd hn;have rs':=rs.upd (o:=u) hn;refine⟨rs.len,rs.inj,λn y e=>?_,rs.liv,λy h z=>z.elim (rs.nb y h) λq=>nD (q ▸ h),λy h=>?_⟩
 .let⟨o,q,r⟩:=rs.obj n y e;have ne:y≠D:=λz=>nD (z ▸ AR e);have hD:Bx B D D:=.inr rfl;refine⟨o,q,?_⟩
  cases o with
  |lst vs=>let⟨xs,hx,l⟩:=r;exact⟨xs,by rw[zk ne];exact hx,(l.more hn).skip hD⟩
  |dct t kvs=>
   cases t with
   |false=>let⟨xs,hx,l⟩:=r;exact⟨xs,by rw[zk ne];exact hx,(l.more hn).skip hD⟩
   |true=>let⟨xs,hx,l⟩:=r;exact⟨xs,by rw[zk ne];exact hx,(l.more hn).skip hD⟩
  |ins c fs=>let⟨ks,⟨dx,hx⟩,l⟩:=r;exact⟨ks,⟨dx,by rw[zk ne];exact hx⟩,(l.more hn).skip hD⟩
  |dead=>exact r.elim
 .rcases h with h|h
  .exact rs'.dom y h
  .subst h;exact⟨u,zl⟩
theorem yK.more{D:AJ}{u:HO}(hn:H D=AD)(re:yK K cl B φ H ρ σ):yK K cl (Bx B D) φ (L2.upd H D u) ρ σ:=⟨re.len,λi v e=>by
 let⟨x,h,q⟩:=re.get i v e;exact⟨x,h,(q.more hn).skip (.inr rfl)⟩⟩
def yal:Tg->List (Option Nat)->Bool
 |.n i,sl=>decide (sl[i]?=AA AD)
 |.t l,sl=>l.all λi=>decide (sl[i]?=AA AD)
def zeO:∀(l:List Nat) (vs:List PV) (ρ:IC.Env) (j:Nat),j∉l->((l.zip vs).foldl (λρ p=>ρ.set p.1 (AA p.2)) ρ)[j]?=ρ[j]?
 |[],vs,ρ,j,h=>by simp
 |i::is,[],ρ,j,h=>by simp
 |i::is,v::vs,ρ,j,h=>by
  erw[Dl,Cj];rw[zeO is vs _ j λz=>h (AU _ z),A3]
  rintro rfl
  exact h A7
def ze2:∀(l:List Nat) (vs:List PV) (ρ:IC.Env),((l.zip vs).foldl (λρ p=>ρ.set p.1 (AA p.2)) ρ).length=ρ.length
 |[],vs,ρ=>by simp
 |i::is,[],ρ=>by simp
 |i::is,v::vs,ρ=>by
  erw[Dl,Cj];rw[ze2 is vs,BB]
theorem yK.untgt{sl:List (Option Nat)}{ρ0 ρ1:IC.Env}{v:PV}(hf:yal ct sl=AC)(h0:∀(i:Nat),sl[i]?=AA AD->ρ0[i]?=AA AD)(hb:yU ct v ρ0=AA ρ1)(re:yK K cl B φ H ρ1 σ):yK K cl B φ H ρ0 σ:=by
 cases ct with
 |n i=>
  cases hb
  erw[yal,decide_eq_true_eq]at hf;refine⟨by rw[<-re.len,BB],λj w e=>re.get j w ?_⟩;rw[A3]
  .exact e
  .rintro rfl
   rw[h0 _ hf]at e;cases e
 |t l=>
  cases v with
  |tp k vs=>
   erw[yU]at hb;split at hb
   .cases hb
    erw[yal,Ag,decide_eq_true_eq]at hf;refine⟨by rw[<-re.len,ze2],λj w e=>re.get j w ?_⟩;rw[zeO]
    .exact e
    .intro z;rw[h0 _ (hf j z)]at e;cases e
   .cases hb
  |_=>cases hb
theorem yK.inn{sl:List (Option Nat)}(re:yK K cl B φ H ρ σ):yK K cl B φ H (sl.map λo=>o.bind λj=>(ρ[j]?).join) (L2.inn sl σ):=by
 unfold L2.inn;refine⟨by simp,λi v e=>?_⟩;rw[Ba]at e ⊢
 cases q:sl[i]? with
 |none=>rw[q]at e;cases e
 |some o=>
  rw[q]at e
  cases o with
  |none=>cases e
  |some j=>
   erw[Bd,Az,C2]at e ⊢
   cases q2:ρ[j]? with
   |none=>rw[q2]at e;cases e
   |some w=>
    rw[q2]at e;erw[GH]at e;subst e;let⟨x,hx,rv⟩:=re.get j v q2;exact⟨x,by rw[hx];rfl,rv⟩
def zoa:1000000<sizeLine:=by rw[CS];decide
def zju{α:Type}{o:Option Bool}{k:Bool->R α}{z:α}{s:SO}(h:onO o k=.ok z s):∃b,o=AA b/\k b=.ok z s:=by
 cases o with
 |none=>cases h
 |some b=>exact⟨b,rfl,h⟩
def zaj{α β:Type}{r:R α}{k:α->SO->R β}{z:β}{s:SO}(h:r.bind k=.ok z s):∃a s1,r=.ok a s1/\k a s1=.ok z s:=by
 cases r with
 |ok a s1=>exact⟨a,s1,rfl,h⟩
 |exc c s=>cases h
 |bad=>cases h
def zdT{sl:List (Option Nat)}(hf:yal ct sl=AC){H:Hp}{Q:VK}(h:tE S X (.comp sl ct ci cc ce) σ H Q):yci sl (tI S X ci) (tG0 S X.K ct) (tT0 S X.K cc) (tE0 S X.K ce) σ H Q:=by
  let⟨B,φ,st,ρ,rs,re,h⟩:=h;erw[ev]at h;refine⟨B,φ,st,ρ,rs,re,(Run.bind h).mono λJ H1 kq=>?_⟩;let⟨xs,st1,φ1,s1,rs1,dr,h1⟩:=kq;refine λD hD=>?_
  generalize hone:(λ(x:PV) (st2:SO)=>match yU ct x (sl.map λo=>o.bind λj=>(ρ[j]?).join)with
   |none=>(R.bad:R (Option PV))
   |some ρ1=>(ev S.call ρ1 st2 cc).bind λb st3=>onO (yaL st3 b) λk=>cond k ((ev S.call ρ1 st3 ce).bind λy st4=>.ok (AA y) st4) (.ok AD st3))=one at h1
  cases e:yaD one xs st1 with
  |exc k s=>rw[e]at h1;exact h1.elim
  |bad=>rw[e]at h1;exact h1.elim
  |ok zs st5=>
   rw[e]at h1;erw[ya5]at h1;split at h1
   case isFalse=>exact h1.elim
   rename_i hz;have nB:¬B D:=rs1.nB hD;have nD:AA D∉φ1:=λz=>by
    let⟨w,e⟩:=rs1.there z;rw[hD]at e;cases e
   refine⟨λi m σc ys H2=>∃φ2 st2 vs rest,i+m=xs.length/\Step φ1 H1 φ2 H2/\H2 D=AA (.lst ys)/\AA D∉φ2/\yC X.K S.cl (Bx B D) φ2 H2 st2/\yK X.K S.cl (Bx B D) φ2 H2 (sl.map λo=>o.bind λj=>(ρ[j]?).join) σc /\
     yj X.K S.cl (Bx B D) φ2 H2 vs ys/\yaD one (xs.drop i) st2=.ok rest st5/\vs++rest=zs,
    ⟨xs.length,φ1,st1,[],zs,by lia,.upd hD,zl,nD,rs1.more hD,(yK.inn (re.step s1)).more hD,by erw[yj],by simpa using e,rfl⟩,?_⟩
   rintro i m σc ys H2 ⟨φ2,st2,vs,rest,hm,s2,hD2,nD2,rs2,re2,l2,ec,ez⟩
   refine⟨hD2,?_⟩
   by_cases hi:i<xs.length
   .have hl2:=l2.length;have hml:=zoa;have hzl:=congrArg Bt ez;rw[AM]at hzl;refine .inr ⟨dr.go i φ2 H2 s2 hi,by lia,λσ' ys' H'=>∃φ2 st2 vs rest,Step φ1 H1 φ2 H'/\H' D=AA (.lst ys')/\AA D∉φ2/\yC X.K S.cl (Bx B D) φ2 H' st2/\yK X.K S.cl (Bx B D) φ2 H' (sl.map λo=>o.bind λj=>(ρ[j]?).join) σ' /\
     yj X.K S.cl (Bx B D) φ2 H' vs ys'/\yaD one (xs.drop (i+1)) st2=.ok rest st5/\vs++rest=zs,λσ' ys' H' ⟨φ2,st2,vs,rest,q⟩=>⟨m-1,by lia,φ2,st2,vs,rest,by lia,q⟩,λx H3 hy=>?_⟩
    let⟨v,hv,rv,kk⟩:=dr.yld i φ2 H2 st2 x H3 (Bx B D) (λy z=>z.elim .inl λq=>.inr (q ▸ hD)) s2 rs2 hi hy;have s3:Step φ2 H2 φ2 H3:=⟨λb o _ e=>kk b o e,AS _,λ_ _ _ e=>e,λ_ h=>.inl h⟩;have rs3:yC X.K S.cl (Bx B D) φ2 H3 st2:=rs2.same kk;have ed:xs.drop i=v::xs.drop (i+1):=by
     rw[Cc hi];rw[Bf hi]at hv;rw[A6 hv]
    rw[ed,yaD]at ec;let⟨o,st3,e1,ec⟩:=zaj ec;let⟨rest',st4,e2,ec⟩:=zaj ec;rw[<-hone]at e1;dsimp only at e1
    cases eb:yU ct v (sl.map λo=>o.bind λj=>(ρ[j]?).join)with
    |none=>rw[eb]at e1;cases e1
    |some ρ1=>
     rw[eb]at e1;dsimp only at e1;let⟨bv,st6,e3,e1⟩:=zaj e1;let⟨k,e4,e1⟩:=zju e1;have er:st4=st5/\ybl o rest'=rest:=by
      injection ec with q1 q2;exact⟨q2,q1⟩
     let⟨rfl,rfl⟩:=er;refine⟨Bx B D,φ2,st2,_,v,ρ1,rs3,re2.step s3,rv,eb,λσ4 re4=>⟨Bx B D,φ2,st2,ρ1,rs3,re4,?_⟩⟩;have et:yaV (ev S.call ρ1 st2 cc)=.ok k st6:=by
      rw[e3];erw[yaV,R.bind,e4,onO]
     rw[et]
     rintro k' H5 φ5 s5 rs5 rfl
     have nD5:AA D∉φ5:=λz=>by
      rcases s5.new D z with q|q
      .exact nD2 q
      .rw[kk D _ hD2]at q;cases q
     have hD5:H5 D=AA (.lst ys):=s5.keep D _ nD2 (kk D _ hD2);have s25:Step φ1 H1 φ5 H5:=s2.trans (s3.trans s5);have l5:=(l2.step s3).step s5;have re5:yK X.K S.cl (Bx B D) φ5 H5 ρ1 σ4:=re4.step s5;have h0:∀(i:Nat),sl[i]?=AA AD->(sl.map λo=>o.bind λj=>(ρ[j]?).join)[i]?=AA none:=λi q=>by
      rw[Ba,q];rfl
     cases k with
     |false=>
      erw[cond_false]at e1
      cases e1
      exact⟨φ5,_,vs,rest',s25,hD5,nD5,rs5,yK.untgt hf h0 eb re5,l5,e2,ez⟩
     |true=>
      erw[cond_true]at e1;let⟨y,st7,e5,e1⟩:=zaj e1
      cases e1
      refine⟨Bx B D,φ5,st6,ρ1,rs5,re5,?_⟩;rw[e5];intro y' H6 φ6 s6 rs6 ry;have nD6:AA D∉φ6:=λz=>by
       rcases s6.new D z with q|q
       .exact nD5 q
       .rw[hD5]at q;cases q
      have hD6:H6 D=AA (.lst ys):=s6.keep D _ nD5 hD5;have hBD:Bx B D D:=.inr rfl;refine⟨hD6,φ6,_,vs++[y],rest',?_,zl,nD6,rs6.skip hBD,(yK.untgt hf h0 eb (re5.step s6)).skip hBD,((l5.step s6).append (by erw[yj];exact⟨y',[],rfl,ry,rfl⟩)).skip hBD,e2,?_⟩
      .have s16:=s25.trans s6;exact⟨λb o n q=>by rw[zk (zn q hD)];exact s16.keep b o n q,s16.len,s16.pre,s16.new⟩
      .simpa [ybl] using ez
   .have ei:i=xs.length:=by lia
    subst ei;rw[ES,yaD]at ec
    cases ec
    refine .inl ⟨dr.stop φ2 H2 s2,h1 (.ref D) H2 φ2 s2 rs2.less ?_⟩;erw[yd];exact⟨D,ys,rfl,⟨hD2,nB,nD2⟩,by rw[<-ez,BS];exact l2.less⟩
def zk3{sc:BQ}{NC:List AO}{sl:List (Option Nat)}{ifs:List AT}(hc:X.calm=AC)(O:yaf X sc NC sl)(hf:yal ct sl=AC)(hi:PI X tg iter (tI S X ci))(hg:∀j,PG (cxC X sc NC j) tg (tG0 S X.K ct))
  (ht:∀j,PTs (cxC X sc NC j) ifs (tT0 S X.K cc)) (he:∀j,PE (cxC X sc NC j) elt (tE0 S X.K ce)) (hs:∀x,foldedSetIterable iter X.env x=pure x:=by intro _;rfl):
  PE X (.ListComp elt [⟨tg,iter,ifs,0⟩] sc pos) (tE S X (.comp sl ct ci cc ce)):=
 (zj0 hc O hi hg ht he hs).imp λσ H Q h=>zdT hf h
def zkg{sc:BQ}{NC:List AO}{sl:List (Option Nat)}{ifs:List AT}{i:Nat}{x:AO}{spos:Bo}(hN:X.N.Nodup)(hix:X.N[i]?=AA x)(hx:Loc X.env.scope x)(hc:X.calm=AC)(O:yaf X sc NC sl)(hf:yal ct sl=AC)(hi:PI X tg iter (tI S X ci))(hg:∀j,PG (cxC X sc NC j) tg (tG0 S X.K ct))
  (ht:∀j,PTs (cxC X sc NC j) ifs (tT0 S X.K cc)) (he:∀j,PE (cxC X sc NC j) elt (tE0 S X.K ce))
  (hsw:swapsWith (.ListComp elt [⟨tg,iter,ifs,0⟩] sc pos) (AA (.Name x px)) spos.line X.env=pure true:=by rfl) (hs:∀x,foldedSetIterable iter X.env x=pure x:=by intro _;rfl)
  (hfn:X.fn x=AC \/ X.env.scope.names.lookup x=AA .local:=by first|exact .inl rfl|exact .inr rfl|assumption):PS X (.Assign [.Name x px] (.ListComp elt [⟨tg,iter,ifs,0⟩] sc pos) spos) (tS S X (.asg (.n i) (.comp sl ct ci cc ce))):=
 (zg8 hN hix hx hc O hi hg ht he hsw hs hfn).imp λD σ H ⟨B,φ,st,ρ,rs,re,h⟩=>by
  refine zdT hf ?_;erw[ex]at h;exact tE.fl rs re h λx H1 v st1 φ1 s rs1 re1 rv h1=>h1 _ H1 φ1 .rfl rs1 (re1.set i rv)
end
end L2
namespace IC
open PySem
def RLe{α:Type}(r q:R α):Prop:=r=.bad \/ r=q
def FLe(f g:Fl):Prop:=f=.bad \/ f=g
abbrev Cl:=Nat->List PV->SO->R PV
theorem RLe.rfl{α:Type}{r:R α}:RLe r r:=.inr (GX _)
theorem FLe.rfl{f:Fl}:FLe f f:=.inr (GX _)
theorem RLe.bind{α β:Type}{r q:R α}{k l:α->SO->R β}(h:RLe r q)(hk:∀a s,RLe (k a s) (l a s)):RLe (r.bind k) (q.bind l):=by
 rcases h with h|h
 .subst h;exact .inl (GX _)
 .subst h
  cases r with
  |ok a s=>exact hk a s
  |exc c s=>exact .rfl
  |bad=>exact .rfl
theorem RLe.comp{r q:R (List PV)}(h:RLe r q):RLe (ya5 r) (ya5 q):=by
 rcases h with h|h
 .subst h;exact .inl (GX _)
 .subst h;exact .rfl
end IC
namespace L2
open PySem PySem.Spec PyProof.Rows IC
def spI(K:AF)(cl:Nat->AJ)(call:Nat->List PV->SO->R PV)(f:Nat):Sp:=λvs H Q E=>∃B φ st args,yC K cl B φ H st/\yj K cl B φ H args vs/\match call f args st with
 |.ok v st'=>∀x H' φ',Step φ H φ' H'->yC K cl B φ' H' st'->yd K cl B φ' H' v x->Q x H'
 |.exc c st'=>∀H' φ',Step φ H φ' H'->yC K cl B φ' H' st'->E (.ref (cl c)) AD H'
 |.bad=>False
section
variable {S:Se}{X:Cx}{k:Nat}{f:AJ}{fd:Ax}{ps ks:List AO}{sp:Sp}{dvs:List V}{ds:List AH}{x:AO}{p pos:Bo}{e:AT}{es:List AT}{t tk:TA}{CX:CXT}{σ:St}{H:Hp}
def zdd{π:List (AJ×Bb)}{s:AK}{Q:VK}{us:List AH}{vs:List V}{E:XK}(F:yaM X.prog X.w X.K X.mg X.base CX k f fd ps sp)(hr:yax k X.A)(hb:Binds X.K fd ps ds)(hd:Vals dvs ds)
  (I:Inv X π σ H s) (r:Vals vs us) (h:sp (vs++dvs) H Q E) (hx:∀e s',CX X.stack H s E e s'->X.xe e s'):A5 (model X.prog X.w) X.A (call (.ref f) us) (EP X π σ Q) X.xe s:=by
 have r2:Vals (vs++dvs) (us++ds):=r.append hd;have hl:(us++ds).length=ps.length:=by rw[<-r2.length];exact F.len _ _ _ _ h
 refine G1 (D0 (F.run X.A X.stack s H ⟨us,[]⟩ (us++ds) (vs++dvs) Q E hr I.env0 (hb s us I.kIn hl) r2 h) λr s' hq=>?_)
 cases r with
 |error e=>exact hx e s' hq
 |ok fl=>
  cases fl with
  |ret u=>exact I.after hq
  |next=>exact BW hq
  |brk=>exact BW hq
  |cont=>exact BW hq
def ycI(CX:CXT)(X:Cx)(sp:Sp)(dvs:List V)(t:TA):TE:=λσ H Q=>t σ H λvs H1=>∃E:XK,sp (vs++dvs) H1 Q E/\∀π s e s',Inv X π σ H1 s->CX X.stack H1 s E e s'->X.xe e s'
def ziR(F:yaM X.prog X.w X.K X.mg X.base CX k f fd ps sp)(hr:yax k X.A)(hg:Gl X x)(hm:X.mg x=AA (.ref f))(hk:Au X.K (.ref f)=AC)(hb:Binds X.K fd ps ds)(hd:Vals dvs ds)
  (ha:PA X (e::es) t) (hdb:(x==("__debug__":AO))=false:=by decide) (he:starEach (e::es) X.env=(AB,eval e X.env)::starEach es X.env:=by rfl) (hpl:(backTo pos (starEach es X.env)).any (·.1)=false:=by rfl):
  PE X (.Call (.Name x p) (e::es) [] pos) (ycI CX X sp dvs t):=by
 intro π s σ H Q I h;refine B1 (zbe I hg hm ?_ hdb);refine Dc (h₀:=X.base) I.ok.mod.kin hk (thn (ha pos π s σ H _ I h) λus s1 kq=>?_) he hpl;let⟨vs,H1,I1,r,E,q,hx⟩:=kq;refine ⟨I1.kIn,?_⟩;exact zdd F hr hb hd I1 r q λe s' c=>hx π s1 e s' I1 c
def zgO(F:yaM X.prog X.w X.K X.mg X.base CX k f fd ps sp)(hr:yax k X.A)(hg:Gl X x)(hm:X.mg x=AA (.ref f))(hk:Au X.K (.ref f)=AC)(hb:Binds X.K fd ps ds)(hd:Vals dvs ds)
  (hdb:(x==("__debug__":AO))=false:=by decide):PE X (.Call (.Name x p) [] [] pos) (ycI CX X sp dvs ydA):=by
 intro π s σ H Q I h;let⟨E,q,hx⟩:=h;refine B1 (zbe I hg hm ?_ hdb);exact FK I.kIn hk (zdd F hr hb hd I .nil q λe s' c=>hx π s e s' I c)
variable {B:AJ->Prop}{φ:Ph}{st:SO}{ces:Ces}{fi:Nat}
def zbB{vs:List PV}{xs:List V}{Q:VK}(rs:yC X.K S.cl B φ H st)(l:yj X.K S.cl B φ H vs xs)(h:Run S X σ B φ H (RV S X B) (S.call fi vs st) Q):
  ∃E:XK,spI X.K S.cl S.call fi xs H Q E/\∀π s e s',Inv X π σ H s->CX1 X.prog X.w X.stack H s E e s'->X.xe e s':=by
 cases c:S.call fi vs st with
 |ok v st'=>
  rw[c]at h;refine⟨λ_ _ _=>False,⟨B,φ,st,vs,rs,l,by rw[c];exact h⟩,λπ s e s' _ z=>?_⟩;let⟨_,_,_,_,_,_,_,_,_,_,_,_,_,_,z⟩:=z;exact z.elim
 |exc k st'=>
  rw[c]at h;refine⟨λcls _ H'=>cls=.ref (S.cl k)/\∃φ',Step φ H φ' H'/\yC X.K S.cl B φ' H' st',⟨B,φ,st,vs,rs,l,by rw[c];exact λH' φ' s r=>⟨rfl,φ',s,r⟩⟩,λπ s e s' I z=>h e s' (.inl ⟨π,H,s,φ,I,.rfl,z⟩)⟩
 |bad=>rw[c]at h;exact h.elim
def zk0(F:yaM X.prog X.w X.K X.mg X.base (CX1 X.prog X.w) k f fd ps (spI X.K S.cl S.call fi))(hr:yax k X.A)(hg:Gl X x)(hm:X.mg x=AA (.ref f))(hk:Au X.K (.ref f)=AC)(hb:Binds X.K fd ps [])
  (ha:PA X (e::es) (tAs S X ces)) (hdb:(x==("__debug__":AO))=false:=by decide) (he:starEach (e::es) X.env=(AB,eval e X.env)::starEach es X.env:=by rfl) (hpl:(backTo pos (starEach es X.env)).any (·.1)=false:=by rfl):
  PE X (.Call (.Name x p) (e::es) [] pos) (tE S X (.call fi ces)):=
 (ziR F hr hg hm hk hb .nil ha hdb he hpl).imp λσ H Q ⟨B,φ,st,ρ,rs,re,h⟩=>by
  erw[ev]at h;refine tAs.bind rs re h λxs H1 vs st1 φ1 s1 rs1 re1 rv h1=>?_;rw[BS];exact zbB rs1 rv h1
def zil(F:yaM X.prog X.w X.K X.mg X.base (CX1 X.prog X.w) k f fd ps (spI X.K S.cl S.call fi))(hr:yax k X.A)(hg:Gl X x)(hm:X.mg x=AA (.ref f))(hk:Au X.K (.ref f)=AC)(hb:Binds X.K fd ps [])
  (hdb:(x==("__debug__":AO))=false:=by decide):PE X (.Call (.Name x p) [] [] pos) (tE S X (.call fi .nil)):=
 (zgO F hr hg hm hk hb .nil hdb).imp λσ H Q ⟨B,φ,st,ρ,rs,re,h⟩=>by
  erw[ev,evs,R.bind]at h;exact zbB rs (by erw[yj];rfl) h
end
section
variable {P:Aa}{w:Am}{K:AF}{mg:AO->Option AH}{base:Aw}{cl:Nat->AJ}{T:Nat->Option IC.Fn}{fi:Nat}{fn:IC.Fn}{x qual:AO}{stm:Bc}{f:AJ}{fd:Ax}{N ps:List AO}{k:Nat}
theorem CX1.mono{outer:List BG}{H:Hp}{s:AK}{E E':XK}{e:AH}{s':AK}(h:CX1 P w outer H s E e s')(n:∀cls H',E cls AD H'->E' cls AD H'):CX1 P w outer H s E' e s':=by
 let⟨a,cls,a0,H',Bh,r1,r2,r3,r4,r5,r6,r7,r8,r9,r10⟩:=h;exact⟨a,cls,a0,H',Bh,r1,r2,r3,r4,r5,r6,r7,r8,r9,n _ _ r10⟩
theorem yK.start{B:AJ->Prop}{φ:Ph}{H:Hp}{args:List PV}{vs:List V}(l:yj K cl B φ H args vs)(n:Nat)(hn:N.length-vs.length=n):yK K cl B φ H (args.map AA++Aj n AD) (L2.start N vs):=by
 have hl:=l.length;unfold L2.start;refine⟨by simp[hl,hn],λi v e=>?_⟩
 by_cases hi:i<args.length
 .rw[AY (by simpa using hi),Ba]at e
  cases q:args[i]? with
  |none=>rw[q]at e;cases e
  |some v'=>
   rw[q]at e
   cases e
   let⟨y,hy,rv⟩:=l.get i q;exact⟨y,by rw[AY (by simp;lia),Ba,hy];rfl,rv⟩
 .rw[Ad (by simp;lia),EM]at e;split at e<;>cases e
theorem leave{N:List AO}{scope:BQ}{cd:AH}{A:An}{outer:List BG}{s₀:AK}{H₀:Hp}{E:XK}{call:Nat->List PV->SO->R PV}{σ:St}{B:AJ->Prop}{φ:Ph}{H:Hp}{c:Nat}{st':SO}{e:AH}{s':AK}
  (h:ExcAt ⟨cl,call,AC⟩ (yaQ (CX1 P w) P w K mg base N qual scope f cd A outer s₀ H₀ E) σ B φ H c st' e s') (n:∀φ' H',Step φ H φ' H'->yC K cl B φ' H' st'->E (.ref (cl c)) AD H'):
  (yaQ (CX1 P w) P w K mg base N qual scope f cd A outer s₀ H₀ E).xe e s':=by
 rcases h with⟨π,H1,s,φ1,I,s1,q⟩|⟨_,π,H1,s,φ1,h',e0,vs,I,s1,rs,mk,rfl,rfl⟩|⟨_,π,H1,s,I,q⟩
 .exact zox π σ H1 s e s' I (q.mono λcls H' ⟨e1,φ',s2,r⟩=>by subst e1;exact n φ' H' (s1.trans s2) r)
 .exact zfP I mk (n φ1 H1 s1 rs)
 .exact zoz I (q.mono λcls H' ⟨e1,φ',s2,r⟩=>by subst e1;exact n φ' H' s2 r)
def zhn(hT:T fi=AA fn):∀(args:List PV) (st:SO),yc T (k+1) fi args st ≠ .bad->args.length=fn.np:=λargs st hne=>by
 apply Classical.byContradiction;intro c;apply hne;rw[yc,hT];exact if_neg c
def zjo(hT:T fi=AA fn)(hnp:ps.length=fn.np){vs:List V}{H:Hp}{Q:VK}{E:XK}(h:spI K cl (yc T (k+1)) fi vs H Q E):vs.length=ps.length:=by
 let⟨B,φ,st,args,rs,l,h⟩:=h;rw[hnp,<-l.length];refine zhn (k:=k) hT args st λz=>?_;rw[z]at h;exact h
def zjI(hT:T fi=AA fn)(hns:N.length=fn.ns){scope:BQ}{cdv:AH}{A:An}{outer:List BG}{s:AK}{vs:List V}{H:Hp}{Q:VK}{E:XK}(h:spI K cl (yc T (k+1)) fi vs H Q E):
  tSs ⟨cl,yc T k,AC⟩ (yaQ (CX1 P w) P w K mg base N qual scope f cdv A outer s H E) fn.body {nx:=λ_ H'=>Q .non H',rt:=Q} (L2.start N vs) H:=by
 let⟨B,φ,st,args,rs,l,h⟩:=h;have hl:args.length=fn.np:=zhn (k:=k) hT args st λz=>by rw[z]at h;exact h
 have hlen:=l.length;rw[yc,hT]at h;dsimp only at h;rw[if_pos hl]at h
 by_cases hp:fn.pure=AC
 .rw[if_pos hp]at h
  by_cases hz:nLs args=AC
  .rw[if_pos hz]at h;have rs0:yC K cl (λa=>B a \/ AA a∈φ) [] H []:=⟨rfl,λm n a e=>by simp at e,λn a e=>by simp at e,λn o e=>by simp at e,λa z=>by simp at z,λa z=>z.elim (rs.dom a) rs.there⟩;have back:∀{φ':Ph} {H':Hp},Step [] H φ' H'->Step φ H φ H'/\yC K cl B φ H' st:=λ{φ' H'} s'=>
    have kk:∀b o,H b=AA o->H' b=AA o:=λb o e=>s'.keep b o (by simp) e
    ⟨⟨λb o _ e=>kk b o e,AS _,λ_ _ _ e=>e,λ_ h=>.inl h⟩,rs.same kk⟩
   refine⟨_,[],[],_,rs0,yK.start (yj.inn rs.nb args vs hz l) (fn.ns-fn.np) ∅,?_⟩;show yap _ _ _ _ _ (exs (yc T k) (args.map AA++Aj (fn.ns-fn.np) AD) [] fn.body) _
   cases e:exs (yc T k) (args.map AA++Aj (fn.ns-fn.np) AD) [] fn.body with
   |nx ρ' st'=>
    rw[e]at h;intro σ' H' φ' s' rs' re';let⟨s2,r2⟩:=back s';exact h .non H' φ s2 r2 (by erw[yd])
   |rt v st'=>
    rw[e]at h;dsimp only at h
    by_cases hv:nL v=AC
    .rw[if_pos hv]at h;intro y H' φ' s' rs' rv;let⟨s2,r2⟩:=back s';exact h y H' φ s2 r2 (yd.out v y hv rv)
    .rw[if_neg hv]at h;exact h.elim
   |exc c ρ' st'=>
    rw[e]at h;intro σ' φ1 H1 ev s' s1 _ ex;refine leave ex λφ2 H2 s2 _=>?_;let⟨s3,r3⟩:=back (s1.trans s2);exact h H2 φ s3 r3
   |bk ρ' st'=>rw[e]at h;exact h.elim
   |ct ρ' st'=>rw[e]at h;exact h.elim
   |bad=>rw[e]at h;exact h.elim
  .rw[if_neg hz]at h;exact h.elim
 .rw[if_neg hp]at h;refine⟨B,φ,st,_,rs,yK.start l (fn.ns-fn.np) ∅,?_⟩;show yap _ _ _ _ _ (exs (yc T k) (args.map AA++Aj (fn.ns-fn.np) AD) st fn.body) _
  cases e:exs (yc T k) (args.map AA++Aj (fn.ns-fn.np) AD) st fn.body with
  |nx ρ' st'=>
   rw[e]at h;intro σ' H' φ' s' rs' re';exact h .non H' φ' s' rs' (by erw[yd])
  |rt v st'=>
   rw[e]at h;intro y H' φ' s' rs' rv;exact h y H' φ' s' rs' rv
  |exc c ρ' st'=>
   rw[e]at h;intro σ' φ1 H1 ev s' s1 _ ex;exact leave ex λφ2 H2 s2 r2=>h H2 φ2 (s1.trans s2) r2
  |bk ρ' st'=>rw[e]at h;exact h.elim
  |ct ρ' st'=>rw[e]at h;exact h.elim
  |bad=>rw[e]at h;exact h.elim
end
def tyN:Ty->String
 |.int=>"int" | .bool=>"bool" | .str=>"str" | .tuple=>"tuple" | .list=>"list" | _=>""
structure ye8(K:AF)(t:Ty):Prop where
 n:BJ K (.type "NoneType") (.type (tyN t))=AA (yF .non t)
 b:BJ K (.type "bool") (.type (tyN t))=AA (yF (.bl AC) t)
 i:BJ K (.type "int") (.type (tyN t))=AA (yF (.int 0) t)
 s:BJ K (.type "str") (.type (tyN t))=AA (yF (.str Fz) t)
 p:BJ K (.type "tuple") (.type (tyN t))=AA (yF (.tp AC []) t)
 l:BJ K (.type "list") (.type (tyN t))=AA (yF (.lst []) t)
section
variable {S:Se}{X:Cx}{σ:St}{B:AJ->Prop}{φ:Ph}{H:Hp}{st:SO}{p pos p2 px:Bo}{a b c d o:AT}{ca cb cc:Ce}{t:Ty}
def yg5(S:Se)(X:Cx)(t:Ty):List V->Hp->VK->Prop:=λxs H Q=>∃B φ st v x z,xs=[x,.ty (tyN t)]/\yC X.K S.cl B φ H st/\yd X.K S.cl B φ H v x/\yG v [t]=AA z/\yJ t=AC /\
 ∀z' H' φ',Step φ H φ' H'->yC X.K S.cl B φ' H' st->yd X.K S.cl B φ' H' z z'->Q z' H'
def zlF(Z:ye8 X.K t):yag X (.builtin "isinstance") (yg5 S X t):=by
 rintro π s σ H xs us Q I r ⟨B,φ,st,v,x,z,rfl,rs,rv,e,hb,q⟩
 let⟨u,c',rfl,ru,rc⟩:=vals2 r
 cases (show c'=FU (tyN t)from rc)
 have fin:∀(k:Bool) (tk:Nat),z=.bl k->EP X π σ Q (.bool k) {s with toks:=tk}:=λk tk ez=>⟨.bl k,H,I.tok tk,rfl,q _ H φ .rfl rs (by subst ez;erw[yd])⟩
 cases v with
 |non=>
  erw[yd]at rv;subst rv
  cases (show u=Bl from ru)
  erw[yG,hb,if_true]at e;exact CF PySem.W.kitx_none I.kIn Bw Z.n (λz=>nomatch z) λtk=>fin _ tk (by cases e;cases t<;>rfl)
 |bl k=>
  erw[yd]at rv;subst rv
  cases (show u=CT k from ru)
  erw[yG,hb,if_true]at e;exact CF PySem.W.kitx_bool I.kIn Bw Z.b (λz=>nomatch z) λtk=>fin _ tk (by cases e;cases t<;>rfl)
 |int k=>
  erw[yd]at rv;subst rv;let⟨tk,rfl⟩:=ru;erw[yG,hb,if_true]at e;exact CF PySem.W.kitx_int I.kIn Bw Z.i (λz=>nomatch z) λtk=>fin _ tk (by cases e;cases t<;>rfl)
 |str k=>
  erw[yd]at rv;subst rv;let⟨tk,rfl⟩:=ru;erw[yG,hb,if_true]at e;exact CF PySem.W.kitx_str I.kIn Bw Z.s (λz=>nomatch z) λtk=>fin _ tk (by cases e;cases t<;>rfl)
 |tp k vs=>
  erw[yd]at rv;let⟨y,ys,rfl,rt,l⟩:=rv
  cases (show u=Al y from ru)
  erw[yG,hb,if_true]at e;let⟨its,_,⟨o,g,c,_,_⟩,_⟩:=I.tuple rt.sq;exact CF PySem.W.kitx_tuple I.kIn ⟨o,g,c⟩ Z.p (λz=>nomatch z) λtk=>fin _ tk (by cases e;cases t<;>rfl)
 |lst vs=>
  erw[yd]at rv;let⟨y,ys,rfl,rt,l⟩:=rv
  cases (show u=Al y from ru)
  erw[yG,hb,if_true]at e;let⟨_,_,n,_,h1⟩:=(show yS X.prog X.w H s.heap y (.lst ys)from I.hok y _ rt.1);exact CF PySem.W.kitx_list I.kIn ⟨_,h1,rfl⟩ Z.l (λz=>nomatch z) λtk=>fin _ tk (by cases e;cases t<;>rfl)
 |loc n=>cases e
 |scr n=>cases e
 |fnc n=>cases e
 |exn n=>erw[yG,Ay,Fk,hb,Bg,if_true]at e;cases e
def zlU{T:AO}(Z:ye8 X.K t)(ht:yJ t=AC)(hg:Gl X "isinstance")(hm:X.mg "isinstance"=AD)(hgT:Gl X T)(hmT:X.mg T=AD)(hT:bootBuiltins T=AA (.type (tyN t)))(ha:PE X a (tE S X ca))(hnT:T ≠ "__name__":=by decide)(hdT:(T==("__debug__":AO))=false:=by decide)
  (he:starEach [a,.Name T p2] X.env=(AB,eval a X.env)::starEach [.Name T p2] X.env:=by rfl) (hpl:(backTo pos (starEach [.Name T p2] X.env)).any (·.1)=false:=by rfl):
  PE X (.Call (.Name "isinstance" p) [a,.Name T p2] [] pos) (tE S X (.isi ca [t])):=
 (zb1 (zlF Z) hg hm CW (zab ha (zab (zgd (v:=.ty (tyN t)) hgT hmT hT rfl hnT hdT) zfv) he) ⋯ ⋯ he hpl).imp λσ H Q ⟨B,φ,st,ρ,rs,re,h⟩=>by
  erw[ev]at h;refine tE.bind rs re h λx H1 v st1 φ1 s1 rs1 re1 rv h1=>?_;let⟨z,e,q⟩:=z4 h1 rs1;exact⟨B,φ1,st1,v,x,z,rfl,rs1,rv,e,ht,q⟩
def zeF{st4:SO}{x y v:PV}(h:yaz st x y v=AA st4):∃n xs k j,x=.loc n/\st[n]?=AA (.lst xs)/\y=.int k/\ixI xs.length k=AA j/\st4=st.set n (.lst (xs.set j v)):=by
 cases x with
 |loc n=>
  erw[yaz]at h
  cases q:st[n]? with
  |none=>rw[q]at h;cases h
  |some o=>
   rw[q]at h
   cases o with
   |lst xs=>
    cases y with
    |int k=>
     dsimp only at h
     cases q2:ixI xs.length k with
     |none=>rw[q2]at h;cases h
     |some j=>rw[q2]at h;exact⟨n,xs,k,j,rfl,q,rfl,q2,(A6 h).symm⟩
    |_=>cases h
   |_=>cases h
 |_=>cases h
theorem yj.put{K:AF}{cl:Nat->AJ}:∀{vs:List PV} {xs:List V} (j:Nat) {v:PV} {x:V},yj K cl B φ H vs xs->yd K cl B φ H v x->yj K cl B φ H (vs.set j v) (xs.set j x)
 |[],xs,j,v,x,l,r=>by erw[yj]at l;subst l;simp[yj]
 |w::vs,xs,0,v,x,l,r=>by
  erw[yj]at l;let⟨y,ys,rfl,_,l⟩:=l;erw[BF,yj];exact⟨x,ys,rfl,r,l⟩
 |w::vs,xs,j+1,v,x,l,r=>by
  erw[yj]at l;let⟨y,ys,rfl,ry,l⟩:=l;erw[BN,yj];exact⟨y,ys.set j x,rfl,ry,yj.put j l r⟩
def zlp(he:PE X a (tE S X ca))(ho:PE X b (tE S X cb))(hi:PE X c (tE S X cc))(hs:swapsWithSole [.Subscript b c px] a pos.line X.env=pure false:=by rfl)(hw:swappedStores [.Subscript b c px] a X.env=pure none:=by rfl)
  (hg:PG X (.Subscript b c px) (yea (tE S X cb) (tE S X cc) ybQ):=by exact zeT ‹_› ‹_› zb0):PS X (.Assign [.Subscript b c px] a pos) (tS S X (.six cb cc ca)):=
 (zgA he hg hs hw).imp λD σ H ⟨B,φ,st,ρ,rs,re,h⟩=>by
  erw[ex]at h;refine tE.fl rs re h λv' H1 v st1 φ1 s1 rs1 re1 rv h1=>tE.fl rs1 re1 h1 λx' H2 x st2 φ2 s2 rs2 re2 rx h2=>tE.fl rs2 re2 h2 λy' H3 y st3 φ3 s3 rs3 re3 ry h3=>?_
  cases e:yaz st3 x y v with
  |none=>rw[e]at h3;exact h3.elim
  |some st4=>
   rw[e]at h3;let⟨n,xs,k,j,rfl,hn,rfl,hj,rfl⟩:=zeF e;erw[yd]at ry;subst ry;let⟨l,ys,rfl,hp,hx,lr⟩:=rs3.list (rx.step s3) hn;refine⟨l,ys,k,j,rfl,rfl,hx,by rw[<-lr.length];exact hj,?_⟩;have s4:Step φ3 H3 φ3 (L2.upd H3 l (.lst (ys.set j v'))):=.put (AR hp);exact h3 σ _ φ3 s4 (rs3.put hp ⟨_,zl,(lr.put j ((rv.step s2).step s3)).step s4⟩) (re3.step s4)
end
section
variable {S:Se}{X:Cx}{σ:St}{B:AJ->Prop}{φ:Ph}{H:Hp}{st:SO}{p pos p2 px py pt pt2 apos:Bo}{a b c d o:AT}{ca cb cc:Ce}{kt k2:Nat}
def zlw{i j:Nat}{x y:AO}(hc:X.calm=AC)(hN:X.N.Nodup)(hi:X.N[i]?=AA x)(hj:X.N[j]?=AA y)(hij:i≠j)(h:PS X (.Assign [.Tuple [.Name x px,.Name y py] kt pt] (.Tuple [a,b] k2 pt2) pos) (yfQ i j (tAs S X (.cons ca (.cons cb .nil))))):
  PS X (.Assign [.Tuple [.Name x px,.Name y py] kt pt] (.Tuple [a,b] k2 pt2) pos) (tS S X (.asg (.t [i,j]) (.tup (.cons ca (.cons cb .nil))))):=
 h.imp λD σ H ⟨B,φ,st,ρ,rs,re,h⟩=>by
  erw[ex,ev]at h;refine⟨B,φ,st,ρ,rs,re,?_⟩
  cases e:evs S.call ρ st (.cons ca (.cons cb .nil))with
  |bad=>rw[e]at h;exact h
  |exc k st'=>rw[e]at h;exact λe s' x=>h σ φ H e s' .rfl re x
  |ok vs st'=>
   rw[e]at h;intro xs H' φ' s rs' l;erw[R.bind]at h;split at h
   .rcases vs with _|⟨v,_|⟨w,_|⟨u,t⟩⟩⟩
    .exact h.elim
    .exact h.elim
    .let⟨v',w',rfl,rv,rw⟩:=l.two;refine⟨v',w',rfl,?_⟩;exact h _ H' φ' s rs' (((re.step s).set i rv).set j rw)
    .exact h.elim
   .exact h.elim
def zjS{bo:BOp}{v w z:PV}(h:ybJ bo v w=AA z):∃i j,v=.int i/\w=.int j/\IC.binI bo i j=AA z:=by
 unfold ybJ at h;split at h
 .exact⟨_,_,rfl,rfl,h⟩
 .cases h
def zkl:PIp X .Add (rT2 S X (ybJ .add)):=by
 rintro π s σ H x y v u Q I rx ry ⟨B,φ,st,a,b,z,rs,ra,rb,e,q⟩
 let⟨i,j,rfl,rfl,e⟩:=zjS e
 cases e
 erw[yd]at ra rb;subst ra rb;exact zlV π s σ H _ _ v u Q I rx ry ⟨i,j,rfl,rfl,q _ H φ .rfl rs (by erw[yd])⟩
end
end L2
namespace WK
open PySem L2 IC
def GC(K:AF)(mg:AO->Option AH)(cl:Nat->AJ)(x:AO)(v:PV):Prop:=∃y:AJ,mg x=AA (.ref y)/\∀B φ H,yd K cl B φ H v (.ref y)
def znM{S:Se}{X:Cx}{x:AO}{v:PV}{pos:Bo}(hg:Gl X x)(h:GC X.K X.mg S.cl x v)(hd:(x==("__debug__":AO))=false:=by decide):PE X (.Name x pos) (tE S X (.cst v)):=by
 let⟨y,hm,hk⟩:=h;exact zg1 hg hm hk hd
def zja:bootBuiltins "int"=AA (.type "int"):=by decide +kernel
def zjK:bootBuiltins "bool"=AA (.type "bool"):=by decide +kernel
def znp:bootBuiltins "str"=AA (.type "str"):=by decide +kernel
def ze1:bootBuiltins "tuple"=AA (.type "tuple"):=by decide +kernel
def zkI:bootBuiltins "list"=AA (.type "list"):=by decide +kernel
def zlD:bootBuiltins "len"=AA (.builtin "len"):=by decide +kernel
def zmO:bootBuiltins "min"=AA (.builtin "min"):=by decide +kernel
def zlS:bootBuiltins "max"=AA (.builtin "max"):=by decide +kernel
def zln:bootBuiltins "all"=AA (.builtin "all"):=by decide +kernel
end WK
namespace L2
open PySem PySem.Spec PyProof.Rows IC
def shC:Sum Ce Int->Option Int
 |.inl _=>AD
 |.inr i=>AA i
def yaR:List (Option Int)->List V->List V
 |[],_=>[]
 |some i::r,zs=>.int i::yaR r zs
 |none::r,z::zs=>z::yaR r zs
 |none::_,[]=>[]
def pick:List (Option Int)->List V->List V
 |none::r,v::vs=>v::pick r vs
 |some _::r,_::vs=>pick r vs
 |_,_=>[]
def nKw:List (Option Int)->Nat
 |[]=>0
 |none::r=>nKw r+1
 |some _::r=>nKw r
def ycd:Ces->Nat
 |.nil=>0
 |.cons _ r=>ycd r+1
def gK(np:Nat)(sh:List (Option Int))(vs zs:List V):List V:=if vs.length=np/\zs.length=nKw sh then vs++yaR sh zs else []
def zgP{call:Nat->List PV->SO->R PV}{ρ:IC.Env}:∀(a:Ces) {st st':SO} {vs:List PV},evs call ρ st a=.ok vs st'->vs.length=ycd a
 |.nil,st,st',vs,h=>by erw[evs]at h;cases h;rfl
 |.cons e r,st,st',vs,h=>by
  erw[evs]at h
  cases q:ev call ρ st e with
  |ok v s1=>
   rw[q]at h;erw[R.bind]at h
   cases q2:evs call ρ s1 r with
   |ok ws s2=>
    rw[q2]at h
    cases h
    simp[ycd,zgP r q2]
   |exc c s=>rw[q2]at h;cases h
   |bad=>rw[q2]at h;cases h
  |exc c s=>rw[q]at h;cases h
  |bad=>rw[q]at h;cases h
def zgw{call:Nat->List PV->SO->R PV}{ρ:IC.Env}:∀(a b:Ces) (st:SO),evs call ρ st (ycW a b)=(evs call ρ st a).bind λvs st1=>(evs call ρ st1 b).bind λws st2=>.ok (vs++ws) st2
 |.nil,b,st=>by
  erw[ycW,evs,R.bind,BD]
  cases evs call ρ st b<;>rfl
 |.cons e r,b,st=>by
  erw[ycW,evs]
  cases ev call ρ st e with
  |ok v st1=>
   erw[R.bind];rw[zgw r b st1]
   cases evs call ρ st1 r with
   |ok vs st2=>
    erw[R.bind]
    cases evs call ρ st2 b<;>rfl
   |exc c s=>rfl
   |bad=>rfl
  |exc c s=>rfl
  |bad=>rfl
section
variable {S:Se}{X:Cx}{k:Nat}{f:AJ}{fd:Ax}{ps ks:List AO}{sp:Sp}{x:AO}{p pos kpos:Bo}{e:AT}{es:List AT}{kws:List B7}{nm:Option AO}{t tk:TA}{CX:CXT}{ca:Ce}{ces:Ces}{items:List (Sum Ce Int)}{g:List AH->List AH->List AH}{gV:List V->List V->List V}
def zbF{K:AF}{cl:Nat->AJ}{B:AJ->Prop}{φ:Ph}{H:Hp}{call:Nat->List PV->SO->R PV}{ρ:IC.Env}:∀(items:List (Sum Ce Int)) {st st':SO} {vs:List PV} {xs:List V},evs call ρ st (yas items)=.ok vs st'->yj K cl B φ H vs xs->yaR (items.map shC) (pick (items.map shC) xs)=xs/\(pick (items.map shC) xs).length=nKw (items.map shC)
 |[],st,st',vs,xs,h,l=>by
  erw[yas,evs]at h
  cases h
  erw[yj]at l;subst l;exact⟨rfl,rfl⟩
 |.inl c::r,st,st',vs,xs,h,l=>by
  erw[yas,evs]at h;let⟨v,s1,e1,h⟩:=zaj h;let⟨ws,s2,e2,h⟩:=zaj h
  cases h
  erw[yj]at l;let⟨y,ys,rfl,_,l⟩:=l;let⟨q1,q2⟩:=zbF r e2 l;erw[AX,shC,pick,yaR,nKw,AW,q1,q2];exact⟨trivial,trivial⟩
 |.inr i::r,st,st',vs,xs,h,l=>by
  erw[yas,evs,ev]at h;let⟨v,s1,e1,h⟩:=zaj h;let⟨ws,s2,e2,h⟩:=zaj h
  cases h
  cases e1
  erw[yj,yd]at l;let⟨y,ys,rfl,rfl,l⟩:=l;let⟨q1,q2⟩:=zbF r e2 l;erw[AX,shC,pick,yaR,nKw,q1,q2];exact⟨trivial,trivial⟩
def tK(S:Se)(X:Cx)(items:List (Sum Ce Int)):TA:=λσ H Q=>∃B φ st ρ,yC X.K S.cl B φ H st/\yK X.K S.cl B φ H ρ σ/\Run S X σ B φ H (RL S X B) (evs S.call ρ st (yas items)) λxs H'=>Q (pick (items.map shC) xs) H'
theorem PK.imp{t t':TA}(h:PK X kws t')(k:∀σ H Q,t σ H Q->t' σ H Q):PK X kws t:=λpos π s σ H Q I q=>h pos π s σ H Q I (k σ H Q q)
def zmZ:PK X [] (tK S X []):=zos.imp λσ H Q ⟨B,φ,st,ρ,rs,re,h⟩=>by
 erw[yas,evs]at h;exact h.ok rs (x:=[]) (by erw[yj])
def znH{i:Int}(h:PK X kws (tK S X items)):PK X kws (tK S X (.inr i::items)):=h.imp λσ H Q ⟨B,φ,st,ρ,rs,re,h⟩=>by
 erw[yas,evs,ev,R.bind]at h;refine⟨B,φ,st,ρ,rs,re,?_⟩
 cases e:evs S.call ρ st (yas items)with
 |ok vs st'=>
  rw[e]at h;intro xs H' φ' s rs' l;exact h (.int i::xs) H' φ' s rs' (by erw[yj,yd];exact⟨_,_,rfl,rfl,l⟩)
 |exc c s=>rw[e]at h;exact h
 |bad=>rw[e]at h;exact h
def zn1(ha:PE X e (tE S X ca))(h:PK X kws (tK S X items)):PK X (⟨nm,e,kpos⟩ :: kws) (tK S X (.inl ca::items)):=(zld ha h).imp λσ H Q ⟨B,φ,st,ρ,rs,re,h⟩=>by
 erw[yas,evs]at h;refine tE.bind rs re h λx H1 v st1 φ1 s1 rs1 re1 rv h1=>⟨B,φ1,st1,ρ,rs1,re1,?_⟩;refine(Run.bind (Rel:=RL S X B) h1).mono λxs H2 kq=>?_;let⟨ws,st2,φ2,s2,rs2,l,h2⟩:=kq;exact h2.ok rs2 (x:=x::xs) (by erw[yj];exact⟨x,xs,rfl,rv.step s2,l⟩)
def ziE{fi:Nat}(F:yaM X.prog X.w X.K X.mg X.base (CX1 X.prog X.w) k f fd ps (spI X.K S.cl S.call fi))(hr:yax k X.A)(hg:Gl X x)(hm:X.mg x=AA (.ref f))(hk:Au X.K (.ref f)=AC){np:Nat}(hb:∃g,ybv X.K fd ps ks g (gK np (items.map shC)))(hnp:ycd ces=np)
  (ha:PA X (e::es) (tAs S X ces)) (hkw:PK X kws (tK S X items)) (hall:(backToKw pos (keywordEach kws X.env)).all (·.1.isSome)=true:=by rfl) (hks:(backToKw pos (keywordEach kws X.env)).filterMap (·.1)=ks:=by rfl)
  (hdb:(x==("__debug__":AO))=false:=by decide) (he:starEach (e::es) X.env=(AB,eval e X.env)::starEach es X.env:=by rfl)
  (hpl:((backTo pos (starEach (e::es) X.env)).any (·.1) || (backToKw pos (keywordEach kws X.env)).any (·.1.isNone))=false:=by rfl):
  PE X (.Call (.Name x p) (e::es) kws pos) (tE S X (.call fi (ycW ces (yas items)))):=by
 intro π s σ H Q I ⟨B,φ,st,ρ,rs,re,h⟩;erw[ev]at h;rw[zgw,R.bind_assoc]at h;refine B1 (zbe I hg hm ?_ hdb);have h0:tAs S X ces σ H λvs H1=>tK S X items σ H1 λzs H2=>∃E:XK,spI X.K S.cl S.call fi (gK np (items.map shC) vs zs) H2 Q E/\∀π s e s',Inv X π σ H2 s->CX1 X.prog X.w X.stack H2 s E e s'->X.xe e s':=by
  have hlen:∀vs st',evs S.call ρ st ces=.ok vs st'->vs.length=np:=λvs st' q=>(zgP ces q).trans hnp;refine⟨B,φ,st,ρ,rs,re,?_⟩
  cases q:evs S.call ρ st ces with
  |exc c s=>rw[q]at h;exact h
  |bad=>rw[q]at h;exact h
  |ok vs st1=>
  rw[q]at h;intro xs H1 φ1 s1 rs1 rv;have h1:=Run.on s1 h;have re1:=re.step s1;have hv:=hlen vs st1 q;refine⟨B,φ1,st1,ρ,rs1,re1,?_⟩;have h1:Run S X σ B φ1 H1 (RV S X B) (((evs S.call ρ st1 (yas items)).bind λa st=>(R.ok (vs++a) st:R (List PV))).bind λvs st1=>S.call fi vs st1) Q:=h1;rw[R.bind_assoc]at h1
  cases e:evs S.call ρ st1 (yas items)with
  |ok ws st2=>
   rw[e]at h1;intro ys H2 φ2 s2 rs2 l2;let⟨m1,m2⟩:=zbF items e l2;have eg:gK np (items.map shC) xs (pick (items.map shC) ys)=xs++ys:=by
    unfold gK;rw[if_pos ⟨by rw[<-rv.length];exact hv,m2⟩,m1]
   show ∃E:XK,spI X.K S.cl S.call fi (gK np (items.map shC) xs (pick (items.map shC) ys)) H2 Q E/\_;rw[eg];exact zbB rs2 ((rv.step s2).append l2) (Run.on s2 h1)
  |exc c s=>rw[e]at h1;exact h1
  |bad=>rw[e]at h1;exact h1
 refine PySem.W.callWith_KW (h₀:=X.base) I.ok.mod.kin hk hall (thn (ha pos π s σ H _ I h0) λus s1 kq=>?_) hpl he;let⟨vs,H1,I1,r,q⟩:=kq;refine thn (hkw pos π s1 σ H1 _ I1 q) λws s2 kq=>?_;let⟨zs,H2,I2,rz,E,q2,hx⟩:=kq;refine ⟨I2.kIn,?_⟩;rw[hks];let⟨g,hb⟩:=hb;have r2:=hb.rel r rz;have hl:(g us ws).length=ps.length:=by rw[<-r2.length];exact F.len _ _ _ _ q2
 refine G1 (D0 (F.run X.A X.stack s2 H2 ⟨us,ks.zip ws⟩ (g us ws) (gK np (items.map shC) vs zs) Q E hr I2.env0 (hb.to s2 us ws I2.kIn hl) r2 q2) λr s' hq=>?_)
 cases r with
 |error e=>exact hx π s2 e s' I2 hq
 |ok fl=>
  cases fl with
  |ret u=>exact I2.after hq
  |next=>exact BW hq
  |brk=>exact BW hq
  |cont=>exact BW hq
end
def ya6:List (Option Int)->List AH->List AH->List AH
 |[],_,_=>[]
 |some _::r,ws,d::ds=>d::ya6 r ws ds
 |none::r,w::ws,_::ds=>w::ya6 r ws ds
 |_,_,_=>[]
def zci:∀(sh:List (Option Int)) (ds:List Int) {zs:List V} {ws us:List AH},Vals (ds.map V.int) us->Vals zs ws->sh.length=ds.length->(∀p∈sh.zip ds,∀i,p.1=AA i->i=p.2)->Vals (yaR sh zs) (ya6 sh ws us)
 |[],ds,zs,ws,us,r,q,hl,h=>.nil
 |some i::r,[],zs,ws,us,rr,q,hl,h=>by simp at hl
 |some i::r,d::ds,zs,ws,_,.cons a b,q,hl,h=>by
  have:i=d:=h (AA i,d) (by simp) i rfl;subst this;exact .cons a (zci r ds b q (by simpa using hl) λp hp=>h p (by simp[hp]))
 |none::r,[],zs,ws,us,rr,q,hl,h=>by simp at hl
 |none::r,d::ds,_,_,_,.cons a b,.nil,hl,h=>.nil
 |none::r,d::ds,_,_,_,.cons a b,.cons c q,hl,h=>.cons c (zci r ds b q (by simpa using hl) λp hp=>h p (by simp[hp]))
structure FnD(K:AF)(mg:AO->Option AH)(x:AO)(st:Bc)(ps:List AO)(ds:List Int)(f:AJ)(fd:Ax):Prop where
 ex:∃(oc:AH) (od:Option AJ) (dT:AJ) (kV doc pm:AH) (an:Option AJ) (cdv ct:AH) (osl:Array (Option AH)) (o:Bb) (its:Array AH) (n:Nat),
  fd=BU x x (yad st) (yR st) (yu st) (.ref dT) kV doc pm an cdv ct/\K.lookup f=AA ⟨oc,od,.func fd,osl⟩/\By K cdv x=AC/\K.lookup dT=AA o/\o.data=.seq its n/\Vals (ds.map V.int) its.toList
 kp:Au K (.ref f)=AC
 m:mg x=AA (.ref f)
theorem kbD{K:AF}{mg:AO->Option AH}{x:AO}{st:Bc}{ps ks:List AO}{ds:List Int}{f:AJ}{fd:Ax}{np off:Nat}{sh:List (Option Int)}(D:FnD K mg x st ps ds f fd)(hnk:ks.length=nKw sh)(hsh:sh.length=(ds.drop off).length)(hd':((sh.zip (ds.drop off)).all λp=>p.1.all λi=>decide (i=p.2))=AC)
  (h:∀(dT:AJ) (kV doc pm:AH) (an:Option AJ) (cdv ct:AH) (us ws its:List AH),us.length=np->ws.length=ks.length->its.length=ds.length ->
   ∃k,bindArgs (BU x x (yad st) (yR st) (yu st) (.ref dT) kV doc pm an cdv ct) ⟨us,ks.zip ws⟩=seqItems? (.ref dT) >>= k/\k (AA its.toArray)=pure (ps.zip (us++ya6 sh ws (its.drop off)))) (hps:0<ps.length):
  ∃g,ybv K fd ps ks g (gK np sh):=by
 have hd:∀p∈sh.zip (ds.drop off),∀i,p.1=AA i->i=p.2:=λp hp i hi=>by
  have:=Ag.mp hd' p hp;rw[hi]at this;simpa using this
 let⟨oc,od,dT,kV,doc,pm,an,cdv,ct,osl,o,its,n,rfl,lk,hcd,lo,hs,r⟩:=D.ex;refine⟨λus ws=>if us.length=np/\ws.length=nKw sh then us++ya6 sh ws (its.toList.drop off)else [],⟨λs us ws KX hl=>?_,λ{vs us zs ws} rv rz=>?_⟩⟩
 .by_cases c:us.length=np/\ws.length=nKw sh
  .rw[if_pos c]at hl ⊢;let⟨k,h1,h2⟩:=h dT kV doc pm an cdv ct us ws its.toList c.1 (by rw[hnk];exact c.2) (by rw[<-r.length,Af]);exact BindsTo.of_defaults rfl (KX _ _ lo) hs h1 (by simpa using h2)
  .rw[if_neg c]at hl;simp at hl;lia
 .unfold gK;have e1:=rv.length;have e2:=rz.length
  by_cases c:us.length=np/\ws.length=nKw sh
  .rw[if_pos c,if_pos ∅];refine rv.append (zci sh (ds.drop off) ?_ rz hsh hd);rw[List.map_drop];exact r.drop off
  .rw[if_neg c,if_neg ∅];exact .nil
section
variable {P:Aa}{w:Am}{K:AF}{mg:AO->Option AH}{base:Aw}{cl:Nat->AJ}{T:Nat->Option IC.Fn}{fi:Nat}{fn:IC.Fn}{x:AO}{stm:Bc}{f:AJ}{fd:Ax}{N ps:List AO}{ds:List Int}{k:Nat}
end
def zdi(a b:Key):peq (yaH a) (yaH b)=decide (a=b):=by
 rw[Ck]
 cases a<;>cases b<;>simp[yaH,peq]
def zeM:∀(a b:List Key),ybi (a.map yaH) (b.map yaH)=decide (a=b)
 |[],[]=>by simp[ybi]
 |[],y::ys=>by simp[ybi]
 |x::xs,[]=>by simp[ybi]
 |x::xs,y::ys=>by
  erw[AX,ybi,zdi,zeM xs ys];rw[Ck];simp
def zdk(a b:List Key):peq (.tup (a.map yaH)) (.tup (b.map yaH))=decide (a=b):=by
 erw[peq,zeM]
def zhj{k:PV}(h:ybs k=AC):∃q,k=yaH q:=by
 cases k with
 |int i=>exact⟨.inl i,rfl⟩
 |str i=>exact⟨.inr i,rfl⟩
 |_=>cases h
def zhs:∀{ks:List PV},ks.all ybs=AC->∃qs:List Key,ks=qs.map yaH
 |[],_=>⟨[],rfl⟩
 |k::ks,h=>by
  rw[Ay,AG]at h;let⟨q,rfl⟩:=zhj h.1;let⟨qs,rfl⟩:=zhs h.2;exact⟨q::qs,rfl⟩
section
variable {S:Se}{X:Cx}{K:AF}{cl:Nat->AJ}{σ:St}{B:AJ->Prop}{φ:Ph}{H:Hp}{st:SO}{p pos p2 px apos:Bo}{a b c d o:AT}{ca cb cc:Ce}
def zlq{q:Key}{x:V}:yd K cl B φ H (yaH q) x ↔ x=kV q:=by
 cases q<;>simp[yaH,yd,kV]
def zd1:∀{qs:List Key} {xs:List V},yj K cl B φ H (qs.map yaH) xs->xs=qs.map kV
 |[],xs,l=>by simpa only[BM,yj] using l
 |q::qs,xs,l=>by
  erw[AX,yj]at l;let⟨y,ys,rfl,r,l⟩:=l;rw[zlq.mp r,zd1 l];rfl
theorem DK.look{q:Key}:∀{kvs:List (PV×PV)} {ks:List (Key×V)},DK K cl B φ H kvs ks->∀{v:PV} {x:V},yd K cl B φ H v x->yd K cl B φ H ((IC.look (yaH q) kvs).getD v) ((ybx ks q).getD x)
 |[],ks,h,v,x,r=>by cases h;exact r
 |(k,w)::t,ks,h,v,x,r=>by
  let⟨q',y,s,rfl,rfl,rv,l⟩:=h;erw[IC.look,zdi]
  by_cases e:q'=q
  .rw[zbx (p:=(q',y)) e];simp[e,rv]
  .rw[zbs (p:=(q',y)) e];erw[decide_eq_true_eq,e,if_false];exact DK.look l r
theorem DT.look{q:List Key}:∀{kvs:List (PV×PV)} {ks:List (List Key×V)},DT K cl B φ H kvs ks->∀{v:PV} {x:V},yd K cl B φ H v x->yd K cl B φ H ((IC.look (.tup (q.map yaH)) kvs).getD v) ((ybx ks q).getD x)
 |[],ks,h,v,x,r=>by cases h;exact r
 |(k,w)::t,ks,h,v,x,r=>by
  let⟨q',y,s,rfl,rfl,rv,l⟩:=h;erw[IC.look,zdk]
  by_cases e:q'=q
  .rw[zbx (p:=(q',y)) e];simp[e,rv]
  .rw[zbs (p:=(q',y)) e];erw[decide_eq_true_eq,e,if_false];exact DT.look l r
theorem DK.any{q:Key}:∀{kvs:List (PV×PV)} {ks:List (Key×V)},DK K cl B φ H kvs ks->(kvs.any λp=>peq p.1 (yaH q))=ks.any λkv=>decide (kv.1=q)
 |[],ks,h=>by cases h;rfl
 |(k,w)::t,ks,h=>by
  let⟨q',y,s,rfl,rfl,rv,l⟩:=h;erw[B8,zdi,DK.any l]
theorem DT.any{q:List Key}:∀{kvs:List (PV×PV)} {ks:List (List Key×V)},DT K cl B φ H kvs ks->(kvs.any λp=>peq p.1 (.tup (q.map yaH)))=ks.any λkv=>decide (kv.1=q)
 |[],ks,h=>by cases h;rfl
 |(k,w)::t,ks,h=>by
  let⟨q',y,s,rfl,rfl,rv,l⟩:=h;erw[B8,zdk,DT.any l]
theorem DK.map{q:Key}{v:PV}{x:V}(r:yd K cl B φ H v x):∀{kvs:List (PV×PV)} {ks:List (Key×V)},DK K cl B φ H kvs ks->DK K cl B φ H (kvs.map λp=>if peq p.1 (yaH q)=AC then(p.1,v)else p) (ks.map λkv=>if kv.1=q then(kv.1,x)else kv)
 |[],ks,h=>by cases h;exact rfl
 |(k,w)::t,ks,h=>by
  let⟨q',y,s,rfl,rfl,rv,l⟩:=h;erw[AX,zdi,decide_eq_true_eq]
  by_cases e:q'=q
  .simp only[e,if_true];exact⟨q,x,_,rfl,rfl,r,DK.map r l⟩
  .simp only[e,if_false];exact⟨q',y,_,rfl,rfl,rv,DK.map r l⟩
theorem DT.map{q:List Key}{v:PV}{x:V}(r:yd K cl B φ H v x):∀{kvs:List (PV×PV)} {ks:List (List Key×V)},DT K cl B φ H kvs ks->DT K cl B φ H (kvs.map λp=>if peq p.1 (.tup (q.map yaH))=AC then(p.1,v)else p) (ks.map λkv=>if kv.1=q then(kv.1,x)else kv)
 |[],ks,h=>by cases h;exact rfl
 |(k,w)::t,ks,h=>by
  let⟨q',y,s,rfl,rfl,rv,l⟩:=h;erw[AX,zdk,decide_eq_true_eq]
  by_cases e:q'=q
  .simp only[e,if_true];exact⟨q,x,_,rfl,rfl,r,DT.map r l⟩
  .simp only[e,if_false];exact⟨q',y,_,rfl,rfl,rv,DT.map r l⟩
theorem DK.snoc{q:Key}{v:PV}{x:V}(r:yd K cl B φ H v x):∀{kvs:List (PV×PV)} {ks:List (Key×V)},DK K cl B φ H kvs ks->DK K cl B φ H (kvs++[(yaH q,v)]) (ks++[(q,x)])
 |[],ks,h=>by cases h;exact⟨q,x,[],rfl,rfl,r,rfl⟩
 |(k,w)::t,ks,h=>by
  let⟨q',y,s,rfl,rfl,rv,l⟩:=h;exact⟨q',y,_,rfl,rfl,rv,DK.snoc r l⟩
theorem DT.snoc{q:List Key}{v:PV}{x:V}(r:yd K cl B φ H v x):∀{kvs:List (PV×PV)} {ks:List (List Key×V)},DT K cl B φ H kvs ks->DT K cl B φ H (kvs++[(.tup (q.map yaH),v)]) (ks++[(q,x)])
 |[],ks,h=>by cases h;exact⟨q,x,[],rfl,rfl,r,rfl⟩
 |(k,w)::t,ks,h=>by
  let⟨q',y,s,rfl,rfl,rv,l⟩:=h;exact⟨q',y,_,rfl,rfl,rv,DT.snoc r l⟩
theorem DK.put{q:Key}{v:PV}{x:V}{kvs:List (PV×PV)}{ks:List (Key×V)}(l:DK K cl B φ H kvs ks)(r:yd K cl B φ H v x):DK K cl B φ H (IC.put (yaH q) v kvs) (putK ks q x):=by
 unfold IC.put putK;rw[DK.any l];split
 .exact DK.map r l
 .exact DK.snoc r l
theorem DT.put{q:List Key}{v:PV}{x:V}{kvs:List (PV×PV)}{ks:List (List Key×V)}(l:DT K cl B φ H kvs ks)(r:yd K cl B φ H v x):DT K cl B φ H (IC.put (.tup (q.map yaH)) v kvs) (putK ks q x):=by
 unfold IC.put putK;rw[DT.any l];split
 .exact DT.map r l
 .exact DT.snoc r l
theorem DK.len:∀{kvs:List (PV×PV)} {ks:List (Key×V)},DK K cl B φ H kvs ks->kvs.length=ks.length
 |[],ks,h=>by cases h;rfl
 |(k,w)::t,ks,h=>by
  let⟨q',y,s,rfl,rfl,rv,l⟩:=h;simp[DK.len l]
theorem DT.len:∀{kvs:List (PV×PV)} {ks:List (List Key×V)},DT K cl B φ H kvs ks->kvs.length=ks.length
 |[],ks,h=>by cases h;rfl
 |(k,w)::t,ks,h=>by
  let⟨q',y,s,rfl,rfl,rv,l⟩:=h;simp[DT.len l]
theorem yC.dct{n:Nat}{t:Bool}{kvs:List (PV×PV)}{x:V}(rs:yC K cl B φ H st)(r:yd K cl B φ H (.loc n) x)(h:st[n]?=AA (.dct t kvs)):∃y,x=.ref y/\φ[n]?=AA (AA y)/\yck K cl B φ H (.dct t kvs) y:=by
 erw[yd]at r;let⟨hn,y,rfl,ha⟩:=r;let⟨z,hz⟩:=rs.liv n _ h (by intro z;cases z);obtain rfl:=ha z hz;let⟨o,ho,ro⟩:=rs.obj n z hz;rw[h]at ho;cases ho;exact⟨z,rfl,hz,ro⟩
def zdV{v:PV}{t:Bool}{kvs:List (PV×PV)}(h:ybe st v=AA (t,kvs)):∃n,v=.loc n/\st[n]?=AA (.dct t kvs):=by
 cases v with
 |loc n=>
  erw[ybe]at h;split at h
  .rename_i t' xs q
   cases h
   exact⟨n,rfl,q⟩
  .cases h
 |_=>cases h
def zgy{k:PV}(h:isKey AB k=AC):∃q,k=yaH q:=zhj h
def zgM{k:PV}(h:isKey AC k=AC):∃q:List Key,k=.tup (q.map yaH):=by
 cases k with
 |tp b xs=>
  cases b with
  |false=>
   let⟨qs,rfl⟩:=zhs h;exact⟨qs,rfl⟩
  |true=>cases h
 |_=>cases h
def zhu{q:List Key}{x:V}(r:yd K cl B φ H (.tup (q.map yaH)) x):∃y,x=.ref y/\H y=AA (.tup (q.map kV)):=by
 erw[yd]at r;let⟨y,xs,rfl,rt,l⟩:=r;rcases rt with⟨rt,_⟩|⟨z,_⟩
 .exact⟨y,rfl,by rw[rt,zd1 l]⟩
 .cases z
def zlk(hu:X.A.units+1<cLine)(ha:PE X a (tE S X ca))(hb:PE X b (tE S X cb))(hc:PE X c (tE S X cc))(m:M2 X a "get" apos b c pos:=by exact⟨rfl,rfl,rfl,rfl⟩):PE X (.Call (.Attribute a "get" apos) [b,c] [] pos) (tE S X (.mth .get ca (.cons cb (.cons cc .nil)))):=
 (zhV hu ha hb hc m).imp λσ H Q ⟨B,φ,st,ρ,rs,re,h⟩=>by
  erw[ev]at h;refine tE.bind rs re h λx H1 v st1 φ1 s1 rs1 re1 rv h1=>?_;let⟨_,e1,h1⟩:=zbc h1;erw[yao]at e1
  cases q:ybe st1 v with
  |none=>rw[q]at e1;cases e1
  |some tk=>
   let⟨t,kvs⟩:=tk;let⟨n,rfl,hn⟩:=zdV q;let⟨y,rfl,hy,ro⟩:=rs1.dct rv hn;refine⟨y,rfl,?_,?_⟩
   .cases t with
    |false=>let⟨ks,hk,_⟩:=ro;exact .inl ⟨ks,.inl hk⟩
    |true=>let⟨ks,hk,_⟩:=ro;exact .inr ⟨ks,.inl hk⟩
   .simp only[evs,R.bind_assoc]at h1;refine tE.bind rs1 re1 h1 λkx H2 kv st2 φ2 s2 rs2 re2 rk h2=>tE.bind rs2 re2 h2 λdx H3 dv st3 φ3 s3 rs3 re3 rd h3=>?_;erw[R.bind]at h3;unfold ya4 at h3;erw[ydp]at h3
    cases q3:ybe st3 (.loc n)with
    |none=>rw[q3]at h3;exact h3.elim
    |some tk3=>
     let⟨t3,kvs3⟩:=tk3;rw[q3]at h3;dsimp only at h3;split at h3
     .rename_i hk;let⟨n',e',hn3⟩:=zdV q3
      cases e'
      let⟨y3,ey,hy3,ro3⟩:=rs3.dct ((rv.step s2).step s3) hn3
      cases ey
      have rk3:=rk.step s3
      cases t3 with
      |false=>
       let⟨q,rfl⟩:=zgy hk;let⟨ks,hks,l⟩:=ro3;refine⟨ybx ks q,.inl ⟨ks,q,.inl hks,zlq.mp rk3,rfl⟩,h3.ok rs3 (DK.look l rd)⟩
      |true=>
       let⟨q,rfl⟩:=zgM hk;let⟨ks,hks,l⟩:=ro3;let⟨b',rfl,hb'⟩:=zhu rk3;exact⟨ybx ks q,.inr ⟨ks,q,b',.inl hks,rfl,hb',rfl⟩,h3.ok rs3 (DT.look l rd)⟩
     .exact h3.elim
def zgJ{st4:SO}{x y v:PV}(h:ybC st x y v=AA st4):∃n t kvs,x=.loc n/\st[n]?=AA (.dct t kvs)/\isKey t y=AC/\kvs.length<1000000/\st4=st.set n (.dct t (IC.put y v kvs)):=by
 cases x with
 |loc n=>
  erw[ybC]at h;split at h
  .rename_i t kvs q;split at h
   .rename_i c;exact⟨n,t,kvs,rfl,q,c.1,c.2,(A6 h).symm⟩
   .cases h
  .cases h
 |_=>cases h
def zlf(hu:X.A.units+1<cLine)(ho:PE X b (tE S X cb))(hi:PE X c (tE S X cc))(hv:PE X a (tE S X ca))(hs:swapsWith a (AA (.Subscript b c px)) pos.line X.env=pure false:=by rfl):PS X (.Assign [.Subscript b c px] a pos) (tS S X (.dput cb cc ca)):=
 (zkq hu ho hi hv hs).imp λD σ H ⟨B,φ,st,ρ,rs,re,h⟩=>by
  erw[ex]at h;refine tE.fl rs re h λv' H1 v st1 φ1 s1 rs1 re1 rv h1=>tE.fl rs1 re1 h1 λx' H2 x st2 φ2 s2 rs2 re2 rx h2=>tE.fl rs2 re2 h2 λy' H3 y st3 φ3 s3 rs3 re3 ry h3=>?_
  cases e:ybC st3 x y v with
  |none=>rw[e]at h3;exact h3.elim
  |some st4=>
   rw[e]at h3;let⟨n,t,kvs,rfl,hn,hk,hl,rfl⟩:=zgJ e;let⟨l,rfl,hp,ro⟩:=rs3.dct (rx.step s3) hn;have rv3:=(rv.step s2).step s3;have hm:=zic
   cases t with
   |false=>
    let⟨q,rfl⟩:=zgy hk;let⟨ks,hks,ld⟩:=ro;have s4:Step φ3 H3 φ3 (L2.upd H3 l (.dK (putK ks q v'))):=.put (AR hp);refine⟨l,_,rfl,.inl ⟨ks,q,hks,zlq.mp ry,by have:=ld.len;lia,rfl⟩,h3 σ _ φ3 s4 (rs3.put hp ⟨_,zl,(ld.put rv3).step s4⟩) (re3.step s4)⟩
   |true=>
    let⟨q,rfl⟩:=zgM hk;let⟨ks,hks,ld⟩:=ro;let⟨b',rfl,hb'⟩:=zhu ry;have s4:Step φ3 H3 φ3 (L2.upd H3 l (.dT (putK ks q v'))):=.put (AR hp);refine⟨l,_,rfl,.inr ⟨ks,q,b',hks,rfl,hb',by have:=ld.len;lia,rfl⟩,h3 σ _ φ3 s4 (rs3.put hp ⟨_,zl,(ld.put rv3).step s4⟩) (re3.step s4)⟩
def trC(kvs:List (AO×Int)):List (TE×TE):=kvs.map λkv=>(tC (.str kv.1),tC (.int kv.2))
def zmF:PPs X pos [] [] (trC []):=zkC
def zkW{ks:List (Option AT)}{vs:List AT}{kvs:List (AO×Int)}{x:AO}{i:Int}{j1 j2:Nat}{p1 p2:Bo}(h:PPs X pos ks vs (trC kvs)):PPs X pos (AA (.Constant (.str x) j1 p1)::ks) (.Constant (.int i) j2 p2::vs) (trC ((x,i)::kvs)):=zig zn7 zn6 h
def zcJ:∀(kvs:List (AO×Int)) {σ:St} {H:Hp} {Q:List (V×V)->Hp->Prop},Q (kvs.map λkv=>(.str kv.1,.int kv.2)) H->ybu (trC kvs) σ H Q
 |[],σ,H,Q,h=>h
 |kv::r,σ,H,Q,h=>zcJ r (Q:=λps H3=>Q ((.str kv.1,.int kv.2)::ps) H3) h
theorem DK.fold:∀(kvs:List (AO×Int)) {acc:List (PV×PV)} {ks:List (Key×V)},DK K cl B φ H acc ks->DK K cl B φ H (kvs.foldl (λacc kv=>IC.put (.str kv.1) (.int kv.2) acc) acc) (yaX ks (kvs.map λkv=>(DZ kv.1,.int kv.2)))
 |[],acc,ks,l=>l
 |kv::r,acc,ks,l=>by
  unfold yaX;erw[Cj,AX];exact DK.fold r (l.put (q:=DZ kv.1) (x:=.int kv.2) (by erw[yd]))
def zj9{ks:List (Option AT)}{vs:List AT}{kvs:List (AO×Int)}(h:PPs X pos ks vs (trC kvs))(hall:ks.all (·.isSome)=true:=by rfl)(hl:ks.length=vs.length:=by rfl)(h0:ks≠[]:=by simp)(h15:ks.length<=15:=by decide):PE X (.Dict ks vs pos) (tE S X (.newd kvs)):=
 (zjY h hall hl h0 h15).imp λσ H Q ⟨B,φ,st,ρ,rs,re,h⟩=>by
  erw[ev]at h;split at h
  .rename_i c;intro p hp;refine zcJ kvs ⟨zl,kvs.map λkv=>(DZ kv.1,.int kv.2),by simp[kV],by simpa using c,?_⟩;rw[zjB];exact h _ _ (φ++[AA p]) (.push hp) (rs.push hp (rs.nB hp) ⟨_,zl,DK.fold kvs rfl⟩) (.loc_new rs)
  .exact h.elim
end
section
variable {S:Se}{X:Cx}{σ:St}{B:AJ->Prop}{φ:Ph}{H:Hp}{p pos p3 p4:Bo}{a b tg:AT}{ca cb:Ce}
end
end L2
namespace WK
open PySem L2 IC
section
variable {K:AF}{cl:Nat->AJ}{B:AJ->Prop}{φ:Ph}{H:Hp}
def zjx:yj K cl B φ H [] []:=by erw[yj]
def zfW{v:PV}{x:V}{vs:List PV}{xs:List V}(h:yd K cl B φ H v x)(l:yj K cl B φ H vs xs):yj K cl B φ H (v::vs) (x::xs):=by
 erw[yj];exact⟨x,xs,rfl,h,l⟩
end
def zmV{P:Aa}{w:Am}{outer:List BG}{H:Hp}{s:AK}{e:AH}{s':AK}(h:CX1 P w outer H s (λ_ _ _=>False) e s'):False:=by
 let⟨_,_,_,_,_,_,_,_,_,_,_,_,_,_,z⟩:=h;exact z
def zgU{K:AF}{cl:Nat->AJ}{B:AJ->Prop}{φ:Ph}{H:Hp}:∀ns:List Int,yj K cl B φ H (ns.map .int) (ns.map V.int)
 |[]=>zjx
 |n::ns=>zfW (by erw[yd]) (zgU ns)
def spX(K:AF)(call:Nat->List PV->SO->R PV)(fi:Nat):Sp:=λvs H Q E=>∀cl,spI K cl call fi vs H Q E
def zgt{K:AF}{call:Nat->List PV->SO->R PV}{fi:Nat}{H:Hp}{a:AJ}{ns:List Int}(ht:∀ns:List Int,ns.length<=63->call fi [.scr (ns.map .int)] []=.ok (.bl AC) [])(hl:ns.length<=63)(hS:SqL K H a (ns.map V.int)):
  spX K call fi [.ref a] H (λv _=>v=.bl AC) λ_ _ _=>False:=by
 intro cl;refine⟨λ_=>False,[],[],[.scr (ns.map .int)],⟨rfl,λm n a e=>by simp at e,λn a e=>by simp at e,λn o e=>by simp at e,λa z=>by simp at z,λa z=>z.elim⟩,zfW ?_ zjx,?_⟩
 .simp only[yd];refine⟨a,_,rfl,?_,zgU ns⟩;rcases hS with hS|hS
  .exact .inl ⟨hS,λz=>z,by simp⟩
  .exact .inr hS
 .rw[ht ns hl];intro x H' φ' _ _ r;simpa only[yd] using r
end WK
namespace L2
open PySem PySem.Spec PyProof.Rows IC
def zhr{l:List AO}(h:l.Nodup){i j:Nat}(hi:i<l.length)(hj:j<l.length)(e:l[i]=l[j]):i=j:=by
 rcases Nat.lt_trichotomy i j with q|q|q
 .exact absurd e (Ds.mp h i j hi hj q)
 .exact q
 .exact absurd e.symm (Ds.mp h j i hj hi q)
section
variable {X:Cx}{π:List (AJ×Bb)}{σ:St}{H:Hp}{s:AK}
theorem Inv.drop{h':Aw}{m:AO->Option AH}{v:Option AH}{i:Nat}{n:AO}(I:Inv X π σ H s)(hN:X.N.Nodup)(hi:X.N[i]?=AA n)(hm:s.heap.Ns X.env.locals m)(look:∀(i:Nat) (x:AO) (v:V),X.N[i]?=AA x->σ[i]?=AA (AA v)->Vis X.env.scope x->∃u,RelV v u/\Look X.env s.heap m x u)(hs:CU X.env.locals s.heap h')(hn:h'.Ns X.env.locals (λx=>if x=n then v else m x)):Inv X π (σ.set i AD) H {s with heap:=h'}:=by
 have k:∀b u,b≠X.env.locals->s.heap.get? b=AA u->h'.get? b=AA u:=λb u hb q=>(hs.2 b hb).trans q;have nl:∀b o,X.s₀.heap.get? b=AA o->b≠X.env.locals:=λb o e=>Ar (A9 (A4 e) I.ok.above);refine⟨I.ok,I.os,I.bare,⟨λb o q n hb hx=>k b o (nl b o q) (I.base.keep b o q n hb hx),λb o q n hb hx=>?_,I.base.free,λb o q hx=>?_,I.base.tups,I.base.frzs,I.base.tbls⟩,⟨_,hn,λj x v e1 e2 hv=>?_⟩,λx c e=>?_,I.free,I.freeC,λp hp=>?_,λb u e=>?_,?_⟩
 .let⟨sl,q1⟩:=I.base.slot b o q n hb hx;exact⟨sl,k b _ (nl b o q) q1⟩
 .let⟨o',q1⟩:=I.base.there b o q hx;exact⟨o',k b o' (nl b o q) q1⟩
 .have hj:j≠i:=λz=>by
   subst z;rw[C3]at e2;erw[if_true]at e2;split at e2<;>cases e2
  rw[A3 (BP hj)]at e2;have hx:x≠n:=λz=>by
   subst z;let⟨l1,g1⟩:=A2.mp e1;let⟨l2,g2⟩:=A2.mp hi;exact hj (zhr hN l1 l2 (g1.trans g2.symm))
  let⟨u,r,lk⟩:=look j x v e1 e2 hv;refine⟨u,r,?_⟩;rcases lk with⟨q1,q2⟩|⟨q1,c,q2,o,q3,q4⟩
  .exact .inl ⟨q1,by dsimp only;rw[if_neg hx];exact q2⟩
  .exact .inr ⟨q1,c,q2,o,k c o (I.cne x c q2) q3,q4⟩
 .let⟨v,o,ho,hd⟩:=I.cell x c e;exact⟨v,o,k c o (I.cne x c e) ho,hd⟩
 .let⟨q1,q2,q3,q4⟩:=I.pin p hp;exact⟨k _ _ q3 q1,q2,q3,q4⟩
 .refine(I.hok b u e).stay (λc v hc q=>k c v (λz=>?_) q) (λ_ q=>q) λ_ _ q=>q;have fr:=I.free;subst z;rcases hc with z|z
  .rw[z,e]at fr
   cases fr
  .rw[z]at fr
   cases fr
 .rw[BB];exact I.len
end
def yhD(X:Cx)(pn:List (AJ×Bb))(P:St->AH->Hp->Prop):AH->AK->Prop:=λe s'=>∃π σ H s,Inv (cxP X pn) π σ H s/\CX1 X.prog X.w X.stack H s (λcls _ H'=>P σ cls H') e s'
abbrev yd0(X:Cx)(pn:List (AJ×Bb))(P:St->AH->Hp->Prop):Cx:=(cxP X pn).wish (yhD X pn P)
section
variable {X:Cx}{body suite:List Bc}{b₀:Bc}{x n:AO}{np hpos pos:Bo}{W:AJ}{i:Nat}
def zcE{π:List (AJ×Bb)}{σ:St}{H:Hp}{s:AK}{Q:Unit->AK->Prop}{E:AH->AK->Prop}{A:An}(I:Inv X π σ H s)(hN:X.N.Nodup)(hi:X.N[i]?=AA n)(hx:X.env.scope.names.lookup n=AA .local)(hl:i<σ.length)
  (h:∀s',Inv X π (σ.set i AD) H s'->Q () s'):A5 (model X.prog X.w) A (do bindName X.env n .none;unbindBehindTheSuite X.env n pos) Q E s:=by
 refine AI (En (zaA I hN hi (.inl hx) (show RelV .non .none from rfl) (λs2 I2=>?_) (.inr hx)));let⟨m,hn,look⟩:=I2.loc;let⟨u,ru,lk⟩:=look i n .non hi (by rw[C3];simp[hl]) (.inl hx);have hm:m n=AA u:=by
  rcases lk with⟨_,q⟩|⟨z,_⟩
  .exact q
  .rw[show X.env.kindOf n=AA .local from hx]at z;rcases z with z|z<;>cases z
 have hkn:X.env.kindOf n=AA .local:=hx;have hkind:X.env.scope.kind=.function:=I.ok.kind;unfold unbindBehindTheSuite;refine EF ?_;unfold unbindName deleteName;refine AI (wpAny_point (AI ?_));erw[hkn,hkind];refine AI (m:=nsDel X.env.locals n) (wpAny_nsDel_keeps hn λh' m' hn' hs'=>?_);rw[hm];refine A0 (wpAny_point ?_);have J:=I2.drop hN hi hn look hs' hn';rw[D3]at J;exact h _ J
def zkn{tb:List (AJ×Bb)->(St->AH->Hp->Prop)->TS}{ts:List (AJ×Bb)->AJ->TS}(hstk:∃outer,X.stack=X.env::outer)(hex0:X.ex=[])(hfr:X.env.frame=AA X.env.locals)(hN:X.N.Nodup)(hi:X.N[i]?=AA n)(hx:X.env.scope.names.lookup n=AA .local)(hgx:Gl X x)(hmx:X.mg x=AA (.ref W))
  (hb:∀pn P,PSs (yd0 X pn P) body (tb pn P)) (hs:∀pn a,PSs (cxS X pn a) (b₀::suite) (ts pn a)) (hdb:(x==("__debug__":AO))=false:=by decide):
  PS X (.Try body [.ExceptHandler (AA (.Name x np)) (AA n) (b₀::suite) hpos] [] [] pos) (λD σ H=>∀pn,∃P:St->AH->Hp->Prop,tb pn P D σ H/\∀σ1 cls H',P σ1 cls H'->∃C,cls=.ref C/\Dm X.K (.ref C) (.ref W)=AA AC /\
   ∀a,H' a=AD->ts pn a {nx:=λσ2 H2=>D.nx (σ2.set i AD) H2,rt:=D.rt} (σ1.set i (AA (.ref a))) (upd H' a (.ext (ybN a C)))):=by
 intro π s σ H D I h;let⟨P,hbody,hex⟩:=h (X.pn++π);let⟨outer,hst⟩:=hstk;refine wpAny_Try_except (Be (hb (X.pn++π) P [] s σ H D (I.toP.wish _) hbody) (λf s1 hf=>?_) λe s1 hx1=>?_)
 .have cv:SP X π D f s1:=by
   cases f with
   |next=>
    let⟨σ',H',J,q⟩:=hf;exact⟨σ',H',Inv.ofP I.ok J.unwish,q⟩
   |brk=>
    let⟨σ',H',J,q⟩:=hf;exact⟨σ',H',Inv.ofP I.ok J.unwish,q⟩
   |cont=>
    let⟨σ',H',J,q⟩:=hf;exact⟨σ',H',Inv.ofP I.ok J.unwish,q⟩
   |ret u=>
    let⟨v,σ',H',J,r,q⟩:=hf;exact⟨v,σ',H',Inv.ofP I.ok J.unwish,r,q⟩
  cases f with
  |next=>exact DQ cv
  |brk=>exact cv
  |cont=>exact cv
  |ret u=>exact cv
 .let⟨pins1,σ1,H1,s2,I1,a,cls,a0,H',B,rfl,os,bare,fl,hok,un,hB,tr,hT,hE⟩:=hx1;let⟨C,rfl,hm,hsuite⟩:=hex σ1 cls H' hE;have I1:Inv (cxP X (X.pn++π)) [] σ1 H1 s2:=I1.pins_of λp hp=>absurd hp (by simp);have frs':X.A.frames=AA (X.env::outer):=by rw[<-hst];exact I.ok.frames
  have fl0:E4 B (X.env::outer) a (.ref C) a0 s1.heap:=by rw[<-hst];exact fl
  refine wpAny_looks_onW frs' hfr fl0 λh1 held1 up1=>?_;refine wpAny_landsW (s:={s1 with heap:=h1}) held1 λh2 fl2 up2=>?_;have up12:s1.heap.UpToSlots h2:=up1.trans up2;have I2:Inv (cxP X (X.pn++π)) [] σ1 H' {s1 with heap:=h2}:=I1.back (t':=s1.toks) os bare fl hok un hB tr hT fl2.1 up12;let⟨ob,hob,hobc⟩:=fl2.there;have LT:∀M:GZ,Gh M h2 (typeOf (.ref a)) (.ref C):=λM=>hobc ▸ (EO hob).andThen .now;refine wpAny_handleBy_cons (codeAny_handlers_test ?_) (by intro q;cases q);refine zbe (X:=cxS X (X.pn++π) a) (I2.toS a) hgx hmx ?_ hdb;refine PySem.W.Looks.at (PySem.W.exm_one I2.kIn (LT _) hm) ?_;rw[if_pos rfl];refine codeAny_handlers_suite_as ?_;refine lands_againW (s:={s1 with heap:=h2}) fl2 λh3 fl3 up3=>?_;have up13:=up12.trans up3;have I3:Inv (cxP X (X.pn++π)) [] σ1 H' {s1 with heap:=h3}:=I1.back (t':=s1.toks) os bare fl hok un hB tr hT fl3.1 up13;let⟨oe,ws,T3,oT,tsx,ge,⟨gc,g0⟩,gd,_⟩:=id fl3.2.2.2;have nfr:a∉frs X.stack:=λz=>by
   let⟨_,o',ho',hd⟩:=BR fl3.2.2.1 (by rw[<-hst];exact z);rw[ge]at ho'
   cases ho'
   exact hd ws gd
  have nB:B.get? a=none:=fl3.2.1;have ns2:∀o,s2.heap.get? a≠AA o:=λo z=>by
   let⟨o',q⟩:=hT a o z nfr;rw[nB]at q
   cases q
  have nH:H' a=none:=by
   cases z:H' a with
   |none=>rfl
   |some u=>
    let⟨o',q⟩:=tr a u z;rw[nB]at q
    cases q
  have n0:∀o,X.s₀.heap.get? a≠AA o:=λo z=>by
   have hx':a∉X.ex:=by
    rw[hex0];simp
   let⟨o',q⟩:=I1.base.there a o z hx';exact ns2 o' q
  have nl:a≠X.env.locals:=λz=>by
   let⟨m,hn,_⟩:=I1.loc;let⟨ol,_,_,hol,_⟩:=hn;exact ns2 ol (z ▸ hol)
  have nc:∀y c,X.env.cells.lookup y=AA c->c≠a:=λy c q z=>by
   let⟨v,oc,hoc,_⟩:=I1.cell y c q;exact ns2 oc (z ▸ hoc)
  have np:∀p∈(cxP X (X.pn++π)).pn++[],p.1≠a:=λp hp z=>ns2 p.2 (z ▸ (I1.pin p hp).1);have new:yS X.prog X.w (upd H' a (.ext (ybN a C))) h3 a (.ext (ybN a C)):=⟨⟨oe,ge,gc⟩,⟨oe,ge⟩,λk1 k2 p q=>p.keep q⟩;have I4:Inv (cxP X (X.pn++π)) [] σ1 (upd H' a (.ext (ybN a C))) {s1 with heap:=h3}:=I3.track nH n0 nl nc np new;have hln:i<X.N.length:=(A2.mp hi).1;refine zaA (X:=cxS X (X.pn++π) a) (I4.toS a) hN hi (.inl hx) (show RelV (.ref a) (.ref a)from rfl) (λs6 I6=>?_) (.inr hx);refine Be (hs (X.pn++π) a [] s6 _ _ _ I6 (hsuite a nH)) (λf s7 hf=>?_) λ_ _ z=>z.elim
  cases f with
  |next=>
   let⟨σ7,H7,J7,q7⟩:=hf;have J8:Inv X π σ7 H7 s7:=Inv.ofS I.ok J7;exact zcE (pos:=hpos) J8 hN hi hx (by rw[J8.len];exact hln) λs8 J9=>⟨_,H7,J9,q7⟩
  |brk=>
   let⟨_,_,_,z⟩:=hf;exact z.elim
  |cont=>
   let⟨_,_,_,z⟩:=hf;exact z.elim
  |ret u=>
   let⟨v,σ7,H7,J7,r7,q7⟩:=hf;have J8:Inv X π σ7 H7 s7:=Inv.ofS I.ok J7;exact zcE (pos:=hpos) J8 hN hi hx (by rw[J8.len];exact hln) λs8 J9=>⟨v,_,H7,J9,r7,q7⟩
end
section
variable {S:Se}{X:Cx}{σ:St}{B:AJ->Prop}{φ φ1:Ph}{H H1:Hp}{st:SO}{ρ:IC.Env}{D:Ends}{body suite:List Bc}{b₀:Bc}{x n:AO}{p p2 np hpos pos cpos:Bo}{W:AJ}{i:Nat}{cb ch:Css}{a e:AT}{es:List AT}{ca ce:Ce}{ces:Ces}
theorem yK.drop{K:AF}{cl:Nat->AJ}(r:yK K cl B φ H ρ σ)(i:Nat):yK K cl B φ H (ρ.set i AD) (σ.set i AD):=by
 refine⟨by rw[BB,BB];exact r.len,λj w e=>?_⟩
 by_cases h:j=i
 .subst h;rw[C3]at e;erw[if_true]at e;split at e<;>cases e
 .rw[A3 (BP h)]at e ⊢;exact r.get j w e
abbrev Se.quiet(S:Se):Se:={S with may:=AB}
def zm0{cs:List Nat}(hstk:∃outer,X.stack=X.env::outer)(hex0:X.ex=[])(hfr:X.env.frame=AA X.env.locals)(hN:X.N.Nodup)(hi:X.N[i]?=AA n)(hx:X.env.scope.names.lookup n=AA .local)(hgx:Gl X x)(hmx:X.mg x=AA (.ref W))(hW:∀c∈cs,Dm X.K (.ref (S.cl c)) (.ref W)=AA AC)
  (hb:∀pn P,PSs (yd0 X pn P) body (tSs S.quiet (yd0 X pn P) cb)) (hs:∀pn a,PSs (cxS X pn a) (b₀::suite) (tSs S.quiet (cxS X pn a) ch)) (hdb:(x==("__debug__":AO))=false:=by decide):
  PS X (.Try body [.ExceptHandler (AA (.Name x np)) (AA n) (b₀::suite) hpos] [] [] pos) (tS S X (.try cb cs i ch)):=by
 refine(zkn (tb:=λpn P=>tSs S.quiet (yd0 X pn P) cb) (ts:=λpn a=>tSs S.quiet (cxS X pn a) ch) hstk hex0 hfr hN hi hx hgx hmx hb hs hdb).imp λD σ H ⟨B,φ,st,ρ,rs,re,h⟩ pn=>?_;erw[ex]at h
 cases q:exs S.call ρ st cb with
 |exc d ρ1 st1=>
  rw[q]at h;dsimp only at h
  by_cases hd:cs.contains d=AC
  .rw[if_pos hd]at h;refine⟨λσ1 cls H'=>cls=.ref (S.cl d)/\∃φ',Step φ H φ' H'/\yC X.K S.cl B φ' H' st1/\yK X.K S.cl B φ' H' ρ1 σ1,⟨B,φ,st,ρ,rs,re,?_⟩,?_⟩
   .show yap _ _ _ _ _ (exs S.call ρ st cb) _;rw[q];intro σ' φ1 H1 e s' s1 re1 hx;rcases hx with⟨π,H2,t,φ2,I,q2,c⟩|⟨m,_⟩|⟨m,_⟩
    .refine⟨π,σ',H2,t,I.unwish,CX1.mono c λcls H' z=>?_⟩;let⟨z1,φ',z2,z3⟩:=z;exact⟨z1,φ',(s1.trans q2).trans z2,z3,(re1.step q2).step z2⟩
    .cases m
    .cases m
   .rintro σ1 cls H' ⟨rfl,φ',s1,rs1,re1⟩
    refine⟨S.cl d,rfl,hW d (by simpa using hd),λa ha=>?_⟩;have nB:¬B a:=λz=>by
     let⟨o,e⟩:=rs1.dom a z;rw[ha]at e
     cases e
    have nφ:AA a∉φ':=λz=>by
     let⟨o,e⟩:=rs1.there z;rw[ha]at e
     cases e
    have s2:Step φ' H' φ' (upd H' a (.ext (ybN a (S.cl d)))):=.upd ha;refine⟨B,φ',st1,ρ1.set i (AA (.exn d)),rs1.upd ha,(re1.step s2).set i ?_,?_⟩
    .simp only[yd];exact⟨a,rfl,zl,nB,nφ⟩
    .show yap _ _ _ _ _ (exs S.call (ρ1.set i (AA (.exn d))) st1 ch) _
     cases q2:exs S.call (ρ1.set i (AA (.exn d))) st1 ch with
     |nx ρ2 st2=>
      rw[q2]at h;intro σ' H2 φ2 s3 rs3 re3;exact h _ H2 φ2 ((s1.trans s2).trans s3) rs3 (re3.drop i)
     |rt v st2=>
      rw[q2]at h;intro y H2 φ2 s3 rs3 rv;exact h y H2 φ2 ((s1.trans s2).trans s3) rs3 rv
     |bk ρ2 st2=>rw[q2]at h;exact h.elim
     |ct ρ2 st2=>rw[q2]at h;exact h.elim
     |exc k ρ2 st2=>rw[q2]at h;exact h.elim
     |bad=>rw[q2]at h;exact h.elim
  .rw[if_neg hd]at h;exact h.elim
 |nx ρ1 st1=>
  rw[q]at h;exact⟨λ_ _ _=>False,⟨B,φ,st,ρ,rs,re,by show yap _ _ _ _ _ (exs S.call ρ st cb) _;rw[q];exact h⟩,λ_ _ _ z=>z.elim⟩
 |rt v st1=>
  rw[q]at h;exact⟨λ_ _ _=>False,⟨B,φ,st,ρ,rs,re,by show yap _ _ _ _ _ (exs S.call ρ st cb) _;rw[q];exact h⟩,λ_ _ _ z=>z.elim⟩
 |bk ρ1 st1=>
  rw[q]at h;exact⟨λ_ _ _=>False,⟨B,φ,st,ρ,rs,re,by show yap _ _ _ _ _ (exs S.call ρ st cb) _;rw[q];exact h⟩,λ_ _ _ z=>z.elim⟩
 |ct ρ1 st1=>
  rw[q]at h;exact⟨λ_ _ _=>False,⟨B,φ,st,ρ,rs,re,by show yap _ _ _ _ _ (exs S.call ρ st cb) _;rw[q];exact h⟩,λ_ _ _ z=>z.elim⟩
 |bad=>rw[q]at h;exact h.elim
theorem all_nil{P:Nat->Prop}:∀c∈([]:List Nat),P c:=λ_ h=>by cases h
theorem all_cons{P:Nat->Prop}{c:Nat}{cs:List Nat}(h:P c)(t:∀d∈cs,P d):∀d∈c::cs,P d:=λd hd=>by
 rcases AL.mp hd with e|e
 .exact e ▸ h
 .exact t d e
structure ycz(K:AF)(mg:AO->Option AH)(C:AJ)(x:AO):Prop where
 m:mg x=AA (.ref C)
 q:DL K C [.type "ValueError",.type "Exception",.type "BaseException",.type "object"] "ValueError.__new__"=AC
def ziK{k:Nat}(Z:ycz X.K X.mg (S.cl k) x)(hmay:S.may=AC)(hc:X.calm=AC)(hg:Gl X x)(ha:PE X a (tE S X ca))
  (hs:starEach [a] X.env=(AB,eval a X.env)::starEach [] X.env:=by rfl) (hpl:(backTo cpos (starEach [] X.env)).any (·.1)=false:=by rfl) (hdb:(x==("__debug__":AO))=false:=by decide):
  PS X (.Raise (AA (.Call (.Name x np) [a] [] cpos)) AD pos) (tS S X (.raise k ca)):=by
 intro π s σ H D I ⟨B,φ,st,ρ,rs,re,h⟩;erw[ex]at h;have OC:=zoy I.ok.mod.kin Z.m Z.q;have FB:=PySem.F.excBase_ValueError;let⟨tl,Nn,nm,q,bs,hdct,sn,sub,ab,col,dd,k0,k1,k2,k3,k5,mN,hC,hN,hni,TL⟩:=OC.obj;refine wpAny_Raise_call_subT (C:=S.cl k) (nm:=nm) (q:=q) (N:=Nn) (bs:=bs) (bm:=tl) (hdct:=hdct) (sn:=sn) (sub:=sub) (ab:=ab) (col:=col) (dd:=dd) (k0:=k0) (k1:=k1) (k2:=k2) (k3:=k3) (k5:=k5)
  FB (mN:=mN) (TL.hasType FB.hasBase) (I.ok.hd hc) (by rw[hs];show (AB || (backTo cpos (starEach [] X.env)).any (·.1))=AB;rw[hpl];rfl) hni (zbe I hg OC.bound ⟨rfl,?_⟩ hdb)
 have hA:=(zab ha zfv hs) cpos π s σ H (λvs H1=>∃v,vs=[v]/\∃φ1 st1,Step φ H φ1 H1/\yC X.K S.cl B φ1 H1 st1/\yK X.K S.cl B φ1 H1 ρ σ/\yap S X B φ1 H1 (.exc k ρ st1) D) I
  (tE.fl rs re h λx H1 v st1 φ1 s1 rs1 re1 rv h1=>⟨x,rfl,φ1,st1,s1,rs1,re1,h1⟩)
 rw[hs]at hA ⊢;refine DO (thn hA λus s1 kq=>?_);let⟨vs,H1,I1,r1,v,ev,φ1,st1,t1,rs1,re1,h1⟩:=kq;subst ev;refine⟨rfl,by rw[<-r1.length];show 1<=sizeLine;decide,I1.bk _ _ hC,hN.keeps I1.bk,TL.keeps I1.bk,λh' e' hx=>?_⟩;exact h1 σ φ1 H1 _ _ .rfl re1 (.inr (.inl ⟨hmay,π,H1,s1,φ1,h',e',us,I1,.rfl,rs1,hx,rfl,rfl⟩))
def tyZ(cl:Nat->AJ):Ty->AH
 |.cls d=>.ref (cl d)
 |_=>.type "ValueError"
def ybO(cl:Nat->AJ):Ty->V
 |.cls d=>.ref (cl d)
 |_=>.ty "ValueError"
def ze9{cl:Nat->AJ}{t:Ty}{c:AH}(r:RelV (ybO cl t) c):c=tyZ cl t:=by
 cases t<;>exact r
def zgg:bootBuiltins "ValueError"=AA (.type "ValueError"):=by decide +kernel
def zmY{d:Nat}{cl:Nat->AJ}(hg:Gl X x)(hm:X.mg x=AA (.ref (cl d)))(hd:(x==("__debug__":AO))=false:=by decide):PE X (.Name x pos) (tC (ybO cl (.cls d))):=zcp hg hm rfl hd
def zmp{cl:Nat->AJ}(hg:Gl X "ValueError")(hm:X.mg "ValueError"=AD):PE X (.Name "ValueError" pos) (tC (ybO cl .val)):=zgd hg hm zgg rfl
def ycM(K:AF)(cl:Nat->AJ)(c:Nat)(t:Ty):Prop:=BJ K (.ref (cl c)) (tyZ cl t)=AA (yF (.exn c) t)
def zg3{K:AF}{cl:Nat->AJ}{c:Nat}:∀{ts:List Ty},(∀t∈ts,ycM K cl c t)->G8 K (.ref (cl c)) (ts.map (tyZ cl))=AA (ts.any (yF (.exn c)))
 |[],_=>rfl
 |t::ts,h=>by
  have ht:=h t A7;unfold ycM at ht;rw[AX,G8,ht,B8]
  cases yF (.exn c) t with
  |true=>rfl
  |false=>exact zg3 λt' h'=>h t' (AU _ h')
abbrev gaE:=PySem.F.attr_ValueError.ga
def zi4{cs:List Nat}{ts:List Ty}{v z:PV}(h:yb9 cs v ts=AA z):∃c,v=.exn c/\c∈cs/\z=.bl (ts.any (yF (.exn c))):=by
 cases v with
 |exn c=>
  erw[yb9]at h;split at h
  .rename_i q;exact⟨c,rfl,by simpa using q,(A6 h).symm⟩
  .cases h
 |_=>cases h
def yg7(S:Se)(X:Cx)(cs:List Nat)(t:Ty):List V->Hp->VK->Prop:=λxs H Q=>∃B φ st v x z,xs=[x,ybO S.cl t]/\yC X.K S.cl B φ H st/\yd X.K S.cl B φ H v x/\yb9 cs v [t]=AA z /\
 ∀z' H' φ',Step φ H φ' H'->yC X.K S.cl B φ' H' st->yd X.K S.cl B φ' H' z z'->Q z' H'
def zmC{cs:List Nat}{t:Ty}(Z:∀c∈cs,ybt X.K (S.cl c)/\ycM X.K S.cl c t):yag X (.builtin "isinstance") (yg7 S X cs t):=by
 rintro π s σ H xs us Q I r ⟨B,φ,st,v,x,z,rfl,rs,rv,e,q⟩
 let⟨u,c',rfl,ru,rc⟩:=vals2 r;let⟨c,rfl,hc,rfl⟩:=zi4 e
 cases ze9 rc
 erw[yd]at rv;let⟨a,rfl,hH,_,_⟩:=rv
 cases (show u=Al a from ru)
 let⟨Z1,Z2⟩:=Z c hc;have p:ybN a (S.cl c) s.heap:=(I.hok a _ hH).1;exact CF (zeP Z1 gaE) I.kIn p Z2 (λz=>nomatch z) λtk=>⟨.bl _,H,I.tok tk,rfl,q _ H φ .rfl rs (by simp[yd])⟩
def zlY{cs:List Nat}{t:Ty}{en:AT}(Z:∀c∈cs,ybt X.K (S.cl c)/\ycM X.K S.cl c t)(hg:Gl X "isinstance")(hm:X.mg "isinstance"=AD)(hn:PE X en (tC (ybO S.cl t)))(ha:PE X a (tE S X ca))
  (he:starEach [a,en] X.env=(AB,eval a X.env)::starEach [en] X.env:=by rfl) (he2:starEach [en] X.env=(AB,eval en X.env)::starEach [] X.env:=by rfl) (hpl:(backTo pos (starEach [en] X.env)).any (·.1)=false:=by rfl):
  PE X (.Call (.Name "isinstance" p) [a,en] [] pos) (tE S X (.isx ca cs [t])):=
 (zb1 (zmC Z) hg hm CW (zab ha (zab hn zfv he2) he) ⋯ ⋯ he hpl).imp λσ H Q ⟨B,φ,st,ρ,rs,re,h⟩=>by
  erw[ev]at h;refine tE.bind rs re h λx H1 v st1 φ1 s1 rs1 re1 rv h1=>?_;let⟨z,e,q⟩:=z4 h1 rs1;exact⟨B,φ1,st1,v,x,z,rfl,rs1,rv,e,q⟩
abbrev tNs(vs:List V):TA:=λ_ H Q=>Q vs H
def zlN:PA X [] (tNs []):=zfv.imp λσ H Q h=>h
def zkT{v:V}{vs:List V}(h:PE X e (tC v))(t:PA X es (tNs vs))(he:starEach (e::es) X.env=(AB,eval e X.env)::starEach es X.env:=by rfl):PA X (e::es) (tNs (v::vs)):=(zab h t he).imp λσ H Q h=>h
def zg9{cl:Nat->AJ}:∀{ts:List Ty} {us:List AH},Vals (ts.map (ybO cl)) us->us=ts.map (tyZ cl)
 |[],us,h=>by cases h;rfl
 |t::ts,us,h=>by
  cases h with
  |cons r q=>rw[ze9 r,zg9 q];rfl
def yeP(S:Se)(X:Cx)(cs:List Nat)(ts:List Ty):List V->Hp->VK->Prop:=λxs H Q=>∃B φ st v x z p,xs=[x,.ref p]/\H p=AA (.tup (ts.map (ybO S.cl)))/\yC X.K S.cl B φ H st/\yd X.K S.cl B φ H v x/\yb9 cs v ts=AA z /\
 ∀z' H' φ',Step φ H φ' H'->yC X.K S.cl B φ' H' st->yd X.K S.cl B φ' H' z z'->Q z' H'
def zkc{cs:List Nat}{ts:List Ty}(Z:∀c∈cs,ybt X.K (S.cl c)/\∀t∈ts,ycM X.K S.cl c t):yag X (.builtin "isinstance") (yeP S X cs ts):=by
 rintro π s σ H xs us Q I r ⟨B,φ,st,v,x,z,p,rfl,hp,rs,rv,e,q⟩
 let⟨u,c',rfl,ru,rc⟩:=vals2 r;let⟨c,rfl,hc,rfl⟩:=zi4 e
 cases (show c'=Al p from rc)
 erw[yd]at rv;let⟨a,rfl,hH,_,_⟩:=rv
 cases (show u=Al a from ru)
 let⟨Z1,Z2⟩:=Z c hc;have pp:ybN a (S.cl c) s.heap:=(I.hok a _ hH).1;let⟨_,its,r2,⟨oc,od,odt,osl⟩,g,hcl,n,hd⟩:=(show yS X.prog X.w H s.heap p (.tup (ts.map (ybO S.cl)))from I.hok p _ hp);have:=zg9 r2;dsimp only at hcl hd;subst hcl hd this;exact PySem.W.kia_tup (zeP Z1 gaE) I.kIn pp g (zg3 Z2) (λz=>nomatch z) λtk=>⟨.bl _,H,I.tok tk,rfl,q _ H φ .rfl rs (by simp[yd])⟩
def zlg{cs:List Nat}{ts:List Ty}{k:Nat}{tp:Bo}(Z:∀c∈cs,ybt X.K (S.cl c)/\∀t∈ts,ycM X.K S.cl c t)(hz:ts.length<=1000)(hg:Gl X "isinstance")(hm:X.mg "isinstance"=AD)(hn:PA X es (tNs (ts.map (ybO S.cl))))(ha:PE X a (tE S X ca))
  (he:starEach [a,.Tuple es k tp] X.env=(AB,eval a X.env)::starEach [.Tuple es k tp] X.env:=by rfl) (he2:starEach [.Tuple es k tp] X.env=(AB,eval (.Tuple es k tp) X.env)::starEach [] X.env:=by rfl) (hpl:(backTo pos (starEach [.Tuple es k tp] X.env)).any (·.1)=false:=by rfl):
  PE X (.Call (.Name "isinstance" p) [a,.Tuple es k tp] [] pos) (tE S X (.isx ca cs ts)):=
 (zb1 (zkc Z) hg hm CW (zab ha (zab (zgo hn) zfv he2) he) ⋯ ⋯ he hpl).imp λσ H Q ⟨B,φ,st,ρ,rs,re,h⟩=>by
  erw[ev]at h;refine tE.bind rs re h λx H1 v st1 φ1 s1 rs1 re1 rv h1=>?_;let⟨z,e,q⟩:=z4 h1 rs1;refine⟨by rw[Af,CS];lia,λpp hp=>?_⟩;have s2:Step φ1 H1 φ1 (upd H1 pp (.tup (ts.map (ybO S.cl)))):=.upd hp;exact⟨B,φ1,st1,v,x,z,pp,rfl,zl,rs1.upd hp,rv.step s2,e,λz' H' φ' s'=>q z' H' φ' (s2.trans s')⟩
end
section
variable {S:Se}{X:Cx}{p pos p2 px apos:Bo}{a b:AT}{ca cb:Ce}
def GCI(mg:AO->Option AH)(x:AO)(i:Int):Prop:=∃t,mg x=AA (.int i t)
def zma{x:AO}{i:Int}(hg:Gl X x)(h:GCI X.mg x i)(hd:(x==("__debug__":AO))=false:=by decide):PE X (.Name x pos) (tE S X (.cst (.int i))):=by
 let⟨t,hm⟩:=h;exact(zcp hg hm (show RelV (.int i) (.int i t)from ⟨t,rfl⟩) hd).imp λσ H Q ⟨B,φ,st,ρ,rs,re,h⟩=>by
  erw[ev]at h;exact h.ok rs (by erw[yd])
end
end L2
namespace WE
open PySem PySem.Spec PyProof.Rows
section
variable {prog:Aa}{w:Am}{A:An}{E:AH->AK->Prop}{s:AK}
def ydo(h:Aw)(a t:AJ)(i:Int):Prop:=∃o,h.get? a=AA o/\o.cls=.type "reversed"/\o.data=.fields #[.ref t,rawInt i]
theorem ydo.typeIs{a t:AJ}{i:Int}(x:ydo s.heap a t i):s.TypeIs (.ref a) "reversed":=let ⟨o,ho,hc,_⟩:=x;⟨o,ho,hc⟩
end
end WE
namespace L2
open PySem PySem.Spec PyProof.Rows
end L2
namespace L2
open PySem PySem.Spec PyProof.Rows IC
open Classical in
def eqR(h:Aw)(dw:PyData)(u:AH):Bool:=decide (∃d as,Reads h u d as/\BI d dw=AC)
def zi5{h:Aw}{u:AH}{d dw:PyData}{as:List AJ}(r:Reads h u d as):eqR h dw u=BI d dw:=by
 unfold eqR
 classical
 cases c:BI d dw with
 |true=>exact decide_eq_true (p:=∃d as,Reads h u d as/\BI d dw=AC) ⟨d,as,r,c⟩
 |false=>
  refine decide_eq_false ?_
  rintro⟨d',as',r',q⟩
  have:=(reads_det (λb o e _=>e) r r').1;subst this;rw[c]at q
  cases q
section
variable {S:Se}{X:Cx}{σ:St}{B:AJ->Prop}{φ φ1:Ph}{H H1:Hp}{st:SO}{ρ:IC.Env}{p pos p2 px py pt pt2:Bo}{a b c d o a' b' c' d':AT}{ca cb cc cd ce cf:Ce}{π:List (AJ×Bb)}{s:AK}{kt k2:Nat}{es:List AT}{ces:Ces}{x:AO}
def zep(I:Inv X π σ H s)(w:PV)(hw:shd 60 w=AC):∀(vs:List PV) (xs:List V) (us:List AH),yaZ 60 vs=AC->yj X.K S.cl B φ H vs xs->Vals xs us->us.any (eqR s.heap (toD w))=inL w vs
 |[],xs,us,h,r,q=>by
  erw[yj]at r;subst r;cases q;rfl
 |v::vs,xs,us,h,r,q=>by
  erw[yj]at r;let⟨y,ys,rfl,rv,l⟩:=r;erw[yaZ,AG]at h
  cases q with
  |cons q1 q2=>
   let⟨as,z1⟩:=zaB (S:=S) I v 60 y _ h.1 rv q1;rw[B8,zep I w hw vs ys _ h.2 l q2,zi5 z1,zc4 v w 60 60 h.1 hw];rfl
def zei(I:Inv X π σ H s)(w:PV)(hw:shd 60 w=AC){wv:AH}{bs:List AJ}(zw:Reads s.heap wv (toD w) bs)(hu:X.A.units+64<cLine):∀(vs:List PV) (xs:List V) (us:List AH),yaZ 60 vs=AC->yj X.K S.cl B φ H vs xs->Vals xs us->∀u∈us,G5 X.A.in1 s u wv (eqR s.heap (toD w) u)
 |[],xs,us,h,r,q=>by
  erw[yj]at r;subst r;cases q;intro u hu;cases hu
 |v::vs,xs,us,h,r,q=>by
  erw[yj]at r;let⟨y,ys,rfl,rv,l⟩:=r;erw[yaZ,AG]at h
  cases q with
  |cons q1 q2=>
   let⟨as,z1⟩:=zaB (S:=S) I v 60 y _ h.1 rv q1;intro u hm;rcases AL.mp hm with rfl|hm
   .rw[zi5 z1];let⟨l1,d1⟩:=zc7 v 60 h.1;let⟨l2,d2⟩:=zc7 w 60 hw;refine SeqAt.eqAt_reads _ _ X.A.in1 s _ _ as bs z1 zw l1 l2 ?_;show X.A.units+1+_<_;lia
   .exact zei I w hw zw hu vs ys _ h.2 l q2 u hm
def rTs(S:Se)(X:Cx)(f:SO->PV->PV->Option PV):R2:=λx y H Q=>∃B φ st v w z,yC X.K S.cl B φ H st/\yd X.K S.cl B φ H v x/\yd X.K S.cl B φ H w y/\f st v w=AA z /\
 ∀z' H' φ',Step φ H φ' H'->yC X.K S.cl B φ' H' st->yd X.K S.cl B φ' H' z z'->Q z' H'
def zjw(hu:X.A.units+64<cLine):OpR X (compareOp .NotIn) (rTs S X ycc):=by
 rintro π s σ H x y v u Q I rx ry ⟨B,φ,st,a,b,z,rs,ra,rb,e,q⟩
 erw[ycc]at e
 cases e1:ya2 st b with
 |none=>rw[e1]at e;cases e
 |some ws=>
  rw[e1]at e;dsimp only at e;split at e
  .rename_i c;rw[AG]at c
   cases e
   let⟨l,ys,rfl,hq,lr⟩:=zgN rs rb e1
   cases (show u=Al l from ry)
   let⟨bs,z1⟩:=zaB (S:=S) I a 60 x v c.1 ra rx;rcases hq with hq|hq
   .let⟨its,r,pl,hz⟩:=I.list hq;refine SeqAt.notIn_listAt (eqR s.heap (toD a)) pl.isList (λw hw=>zei (S:=S) I a c.1 z1 hu ws ys its c.2 lr r w (by simpa using hw)) ⟨.bl _,H,I,rfl,?_⟩;rw[show its.toArray.any (eqR s.heap (toD a))=its.any (eqR s.heap (toD a))by simp,zep (S:=S) I a c.1 ws ys its c.2 lr r];exact q _ H φ .rfl rs (by erw[yd])
   .let⟨its,r,pl,hz⟩:=I.tuple hq;refine SeqAt.notIn_tupleAt (eqR s.heap (toD a)) pl (λw hw=>zei (S:=S) I a c.1 z1 hu ws ys its c.2 lr r w (by simpa using hw)) ⟨.bl _,H,I,rfl,?_⟩;rw[show its.toArray.any (eqR s.heap (toD a))=its.any (eqR s.heap (toD a))by simp,zep (S:=S) I a c.1 ws ys its c.2 lr r];exact q _ H φ .rfl rs (by erw[yd])
  .cases e
def zmI(hu:X.A.units+64<cLine)(ha:PE X a (tE S X ca))(hb:PE X b (tE S X cb))(hm:behindInMarks .NotIn b=AB):PE X (.Compare a [.NotIn] [b] pos) (tE S X (.nin ca cb)):=
 (zez (zjw hu) ha hb hm).imp λσ H Q ⟨B,φ,st,ρ,rs,re,h⟩=>by
  erw[ev]at h;refine tE.bind rs re h λx H1 v st1 φ1 s1 rs1 re1 rv h1=>tE.bind rs1 re1 h1 λy H2 w st2 φ2 s2 rs2 re2 rw h2=>?_;let⟨z,e,q⟩:=z4 h2 rs2;exact⟨B,φ2,st2,v,w,z,rs2,rv.step s2,rw,e,q⟩
def zjV{st:SO}{x y z:PV}(h:ycc st x y=AA z):∃k,z=.bl k:=by
 unfold ycc at h;split at h
 .split at h
  .cases h;exact⟨_,rfl⟩
  .cases h
 .cases h
def zlJ(hu:X.A.units+64<cLine)(ha:PE X a (tE S X ca))(hb:PE X b (tE S X cb))(hm:behindInMarks .NotIn b=AB):PT X (.Compare a [.NotIn] [b] pos) (tTs S X (.nin ca cb)):=
 (zgZ (zjw hu) ha hb hm).imp λσ H Q ⟨B,φ,st,ρ,rs,re,h⟩=>by
  erw[ev,yaV,R.bind_assoc]at h;refine tE.bind rs re h λx H1 v st1 φ1 s1 rs1 re1 rv h1=>tE.bind rs1 re1 h1 λy H2 w st2 φ2 s2 rs2 re2 rw h2=>?_
  cases e:ycc st2 v w with
  |none=>rw[e]at h2;exact h2.elim
  |some z=>
   let⟨k,rfl⟩:=zjV e;rw[e]at h2;refine⟨B,φ2,st2,v,w,.bl k,rs2,rv.step s2,rw,e,λz' H' φ' s' rs' rz=>?_⟩;erw[yd]at rz;exact⟨k,rz,h2 k H' φ' s' rs' rfl⟩
def ziV(hg:Gl X "list")(hm:X.mg "list"=AD)(hv:bootBuiltins "list"=AA (.type "list"))(ha:PA X [a] (tAs S X (.cons ca .nil)))
  (he:starEach [a] X.env=(AB,eval a X.env)::starEach [] X.env:=by rfl) (hpl:(backTo pos (starEach [] X.env)).any (·.1)=false:=by rfl):PE X (.Call (.Name "list" p) [a] [] pos) (tE S X (.thw (.blt .list (.cons ca .nil)))):=
 (zdP zdI hg hm hv ha ⋯ ⋯ he hpl).imp λσ H Q ⟨B,φ,st,ρ,rs,re,h⟩=>by
  erw[ev,R.bind_assoc]at h;refine tAs.bind rs re h λxs H1 vs st1 φ1 s1 rs1 re1 rv h1=>?_
  cases e:yZ .list st1 vs with
  |none=>rw[e]at h1;exact h1.elim
  |some z=>
   rw[e]at h1;let⟨v,rfl⟩:=zcy e λ_ _=>rfl;let⟨x,rfl,rv1⟩:=rv.one;erw[yZ]at e
   cases e1:ya2 st1 v with
   |none=>rw[e1]at e;cases e
   |some ws=>
    rw[e1]at e
    cases e
    let⟨y,ys,rfl,hq,l⟩:=zgN rs1 rv1 e1;refine⟨y,ys,rfl,hq,λD hD=>?_⟩;erw[toR,R.bind,ycK]at h1;exact h1 _ _ (φ1++[AA D]) (.push hD) (rs1.push hD (rs1.nB hD) ⟨ys,zl,l.step (.push hD)⟩) (.loc_new rs1)
theorem tAs.fl{D:Ends}{k:List PV->SO->Fl}{P:List V->Hp->Prop}(rs:yC X.K S.cl B φ H st)(re:yK X.K S.cl B φ H ρ σ)(h:yap S X B φ H ((evs S.call ρ st ces).fl ρ k) D)
  (n:∀x H1 v st1 φ1,Step φ H φ1 H1->yC X.K S.cl B φ1 H1 st1->yK X.K S.cl B φ1 H1 ρ σ->yj X.K S.cl B φ1 H1 v x->yap S X B φ1 H1 (k v st1) D->P x H1):tAs S X ces σ H P:=by
 refine⟨B,φ,st,ρ,rs,re,?_⟩
 cases e:evs S.call ρ st ces with
 |ok v st'=>
  rw[e]at h;exact λx H' φ' s rs' rv=>n x H' v st' φ' s rs' (re.step s) rv (h.on s)
 |exc k st'=>
  rw[e]at h;exact λe s' x=>h σ φ H e s' .rfl re x
 |bad=>rw[e]at h;exact h
def zgX{D:Ends}{k:SO->Fl}{P:Hp->Prop}{x y v:PV}{x' y' v':V}(rs:yC X.K S.cl B φ H st)(re:yK X.K S.cl B φ H ρ σ)(rx:yd X.K S.cl B φ H x x')(ry:yd X.K S.cl B φ H y y')(rv:yd X.K S.cl B φ H v v')
  (h:yap S X B φ H (match yaz st x y v with
   |none=>.bad
   |some st5=>k st5) D)
  (n:∀H1 st1,Step φ H φ H1->yC X.K S.cl B φ H1 st1->yK X.K S.cl B φ H1 ρ σ->yap S X B φ H1 (k st1) D->P H1):ybQ x' y' v' H P:=by
 cases e:yaz st x y v with
 |none=>rw[e]at h;exact h.elim
 |some st4=>
  rw[e]at h;let⟨n',xs,k',j,rfl,hn,rfl,hj,rfl⟩:=zeF e;erw[yd]at ry;subst ry;let⟨l,ys,rfl,hp,hx,lr⟩:=rs.list rx hn;refine⟨l,ys,k',j,rfl,rfl,hx,by rw[<-lr.length];exact hj,?_⟩;have s4:Step φ H φ (L2.upd H l (.lst (ys.set j v'))):=.put (AR hp);exact n _ _ s4 (rs.put (o:=.lst (xs.set j v)) hp ⟨_,zl,(lr.put j rv).step s4⟩) (re.step s4) (h.on s4)
def zkU(hc:X.calm=AC)(he:PA X [a,b] (tAs S X (.cons ca (.cons cb .nil))))(ho:PE X c (tE S X cc))(hi:PE X d (tE S X cd))(ho2:PE X c' (tE S X ce))(hi2:PE X d' (tE S X cf))
  (hg1:PG X (.Subscript c d px) (yea (tE S X cc) (tE S X cd) ybQ)) (hg2:PG X (.Subscript c' d' py) (yea (tE S X ce) (tE S X cf) ybQ))
  (hs:swapsWithSole [.Tuple [.Subscript c d px,.Subscript c' d' py] kt pt] (.Tuple [a,b] k2 pt2) pos.line X.env=pure false:=by rfl) (hw:swappedStores [.Tuple [.Subscript c d px,.Subscript c' d' py] kt pt] (.Tuple [a,b] k2 pt2) X.env=pure none:=by rfl):
  PS X (.Assign [.Tuple [.Subscript c d px,.Subscript c' d' py] kt pt] (.Tuple [a,b] k2 pt2) pos) (tS S X (.six2 cc cd ce cf ca cb)):=
 (zgA (zgo he) (zjv hc (zdn hg1 (zdn hg2 zn8))) hs hw).imp λD σ H ⟨B,φ,st,ρ,rs,re,h⟩=>by
  erw[ex]at h
  have h':yap S X B φ H ((evs S.call ρ st (.cons ca (.cons cb .nil))).fl ρ λvs st2=>match vs with
   |[v,w]=>(ev S.call ρ st2 cc).fl ρ λx st3=>(ev S.call ρ st3 cd).fl ρ λy st4=>match yaz st4 x y v with
    |none=>.bad
    |some st5=>(ev S.call ρ st5 ce).fl ρ λx2 st6=>(ev S.call ρ st6 cf).fl ρ λy2 st7=>match yaz st7 x2 y2 w with
     |some st8=>.nx ρ st8
     |none=>.bad
   |_=>.bad) D:=by
   erw[evs]
   cases e:ev S.call ρ st ca with
   |ok v st1=>
    rw[e]at h;erw[R.bind,R.fl]at h ⊢
    cases e2:ev S.call ρ st1 cb with
    |ok w st2=>rw[e2]at h;exact h
    |exc k s=>rw[e2]at h;exact h
    |bad=>rw[e2]at h;exact h
   |exc k s=>rw[e]at h;exact h
   |bad=>rw[e]at h;exact h
  refine tAs.fl rs re h' λxs H1 vs st1 φ1 s1 rs1 re1 rl h1=>?_;rcases vs with _|⟨v,_|⟨w,_|⟨u,t⟩⟩⟩
  .exact h1.elim
  .exact h1.elim
  .let⟨v',w',rfl,rv,rw⟩:=rl.two;refine⟨by show 2<=sizeLine;decide,λp hp=>⟨p,[v',w'],rfl,.inl (.inl zl),rfl,v',[w'],rfl,?_⟩⟩;have s2:Step φ1 H1 φ1 (L2.upd H1 p (.tup [v',w'])):=.upd hp;refine tE.fl (rs1.upd hp) (re1.step s2) (h1.on s2) λx' H3 x st3 φ3 s3 rs3 re3 rx h3=>tE.fl rs3 re3 h3 λy' H4 y st4 φ4 s4 rs4 re4 ry h4=>?_;refine zgX rs4 re4 (rx.step s4) ry (((rv.step s2).step s3).step s4) h4 λH5 st5 s5 rs5 re5 h5=>⟨w',[],rfl,?_⟩;refine tE.fl rs5 re5 h5 λx2' H6 x2 st6 φ6 s6 rs6 re6 rx2 h6=>tE.fl rs6 re6 h6 λy2' H7 y2 st7 φ7 s7 rs7 re7 ry2 h7=>?_
   have h7':yap S X B φ7 H7 (match yaz st7 x2 y2 w with
    |none=>.bad
    |some st8=>.nx ρ st8) D:=by
    cases e:yaz st7 x2 y2 w with
    |none=>rw[e]at h7;exact h7
    |some st8=>rw[e]at h7;exact h7
   refine zgX rs7 re7 (rx2.step s7) ry2 ((((((rw.step s2).step s3).step s4).step s5).step s6).step s7) h7' λH8 st8 s8 rs8 re8 h8=>⟨rfl,?_⟩;exact h8 σ _ φ7 .rfl rs8 re8
  .exact h1.elim
end
end L2
namespace IC
open PySem
end IC
namespace L2
open PySem PySem.Spec PyProof.Rows IC
section
variable {S:Se}{X:Cx}{σ:St}{B:AJ->Prop}{φ:Ph}{H:Hp}{p p2 pos pos2 apos:Bo}{a b tg:AT}{ca cb:Ce}
end
end L2
namespace WE
open PySem PySem.Spec PyProof.Rows
section
variable {pg:Aa}{wd:Am}{A:An}{Er:AH->AK->Prop}{s:AK}
theorem tit_keep{h h':Aw}{i t:AJ}{j:Nat}(u:h.IsTupleIter i t j)(k:∀o,h.get? i=AA o->h'.get? i=AA o):h'.IsTupleIter i t j:=let ⟨o,g,r⟩:=u;⟨o,k o g,r⟩
def zbX{h h':Aw}{t:AJ}{xs:Array AH}(u:h.IsTuple t xs)(k:∀o,h.get? t=AA o->h'.get? t=AA o):h'.IsTuple t xs:=let ⟨o,g,r⟩:=u;⟨o,k o g,r⟩
def Kz(z TO i1 i2:AJ)(h h':Aw):Prop:=∀c o,c≠z->c≠TO->c≠i1->c≠i2->h.get? c=AA o->h'.get? c=AA o
def zfN{z TI TO i1 i2 l1 l2:AJ}{j:Nat}{xs ys:Array AH}{x y a b:AH}{Q:AH->AK->Prop}(D:Fm z TI TO i1 i2 l1 l2)
  (gz:Dy s.heap z TI TO .none) (gI:CL s.heap TI (.ref i1) (.ref i2)) (gO:CL s.heap TO a b) (u1:s.heap.IsTupleIter i1 l1 j) (u2:s.heap.IsTupleIter i2 l2 j) (t1:s.heap.IsTuple l1 xs) (t2:s.heap.IsTuple l2 ys) (ex:xs[j]?=AA x) (ey:ys[j]?=AA y)
  (k:∀h',Dy h' z TI TO (rawInt s.heap.objs.size)->CL h' TO x y->h'.IsTupleIter i1 l1 (j+1)->h'.IsTupleIter i2 l2 (j+1)->CL h' s.heap.objs.size x y->h'.objs.size=s.heap.objs.size+1->Kz z TO i1 i2 s.heap h'->Q (.ref s.heap.objs.size) {s with heap:=h'}):
  A5 (model pg wd) A (FE.«zip.__next__» ⟨[.ref z],[]⟩) (λf s'=>∃v,f=.done (.ret v)/\Q v s') Er s:=by
 show A5 _ _ (field (.ref z) 2 >>= _) _ _ _;refine AI (BO gz rfl (x:=.bool AB) rfl ?_);show A5 _ _ (field (.ref z) 3 >>= _) _ _ _;refine AI (BO gz rfl (x:=.ref TI) rfl ?_);refine AI (CQ gI rfl ?_);show A5 _ _ (B0 (.ref z) >>= _) _ _ _;refine AI ?_;unfold B0;refine AI (BO gz rfl (x:=.none) rfl (A0 ?_));erw[if_true];refine AI (EX ?_);refine AI (BO gz rfl (x:=.ref TO) rfl ?_);refine AI (CV gz (by simp) λha za sa=>?_)
 replace za:Dy ha z TI TO .ellipsis:=za
 refine AI ?_;erw[GI,GT,Ea,G9];refine AI (AI (EF ?_));show A5 _ _ (BL (.ref i1) >>= _) _ _ _;refine AI (zbD (tit_keep u1 λo e=>sa.extBut _ _ D.i1z e) (zbX t1 λo e=>sa.extBut _ _ D.l1z e) ex λhb ub sb=>A0 ?_);have ob:CL hb TO a b:=sb.extBut _ _ D.TOi1 (sa.extBut _ _ D.TOz gO);refine AI (CQ ob rfl ?_);refine AI (Et ob λhc oc sc=>?_)
 replace oc:CL hc TO x b:=oc
 refine AI (wpAny_letGo (A0 ?_));refine AI (AI (EF ?_));show A5 _ _ (BL (.ref i2) >>= _) _ _ _;refine AI (zbD (tit_keep u2 λo e=>sc.extBut _ _ D.TOi2.symm (sb.extBut _ _ D.i12.symm (sa.extBut _ _ D.i2z e))) (zbX t2 λo e=>sc.extBut _ _ D.l2TO (sb.extBut _ _ D.l2i1 (sa.extBut _ _ D.l2z e))) ey λhd ud sd=>A0 ?_);have od:CL hd TO x b:=sd.extBut _ _ D.TOi2 oc;refine AI (CQ od rfl ?_);refine AI (Et od λhe oe se=>?_)
 replace oe:CL he TO x y:=oe
 refine AI (wpAny_letGo (A0 (A0 ?_)));refine AI (CQ oe rfl ?_);refine AI (wpAny_newTuple ?_);have sz:he.objs.size=s.heap.objs.size:=by rw[se.1,sd.1,sc.1,sb.1,sa.1]
 have ze:Dy he z TI TO .ellipsis:=se.extBut _ _ D.TOz.symm (sd.extBut _ _ D.i2z.symm (sc.extBut _ _ D.TOz.symm (sb.extBut _ _ D.i1z.symm za)));have ke:Kz z TO i1 i2 s.heap he:=λc o p1 p2 p3 p4 e=>se.extBut _ _ p2 (sd.extBut _ _ p4 (sc.extBut _ _ p2 (sb.extBut _ _ p3 (sa.extBut _ _ p1 e))));have v1:he.IsTupleIter i1 l1 (j+1):=tit_keep ub λo e=>se.extBut _ _ D.TOi1.symm (sd.extBut _ _ D.i12 (sc.extBut _ _ D.TOi1.symm e));have v2:he.IsTupleIter i2 l2 (j+1):=tit_keep ud λo e=>se.extBut _ _ D.TOi2.symm e;have lz:z<he.objs.size:=A4 ze;show A5 _ _ (Cd (.ref z) (.ref he.objs.size) >>= _) _ _ _;refine AI ?_;unfold Cd;have zf:Dy (he.push {cls:=.type "tuple",data:=.seq #[x,y]}) z TI TO .ellipsis:=AV _ ze;refine AI (CV zf (by simp) λhg zg sg=>?_)
 replace zg:Dy hg z TI TO (rawInt he.objs.size):=zg
 refine CV zg (by simp) λhi zi si=>?_
 replace zi:Dy hi z TI TO (rawInt he.objs.size):=zi
 have up:∀c o,c≠z->he.get? c=AA o->hi.get? c=AA o:=λc o p e=>si.extBut _ _ p (sg.extBut _ _ p (AV _ e));have pn:CL hi he.objs.size x y:=si.extBut _ _ (EY lz) (sg.extBut _ _ (EY lz) (Ac _ rfl));have si8:hi.objs.size=he.objs.size+1:=by rw[si.1,sg.1,Bi]
 rw[sz]at zi pn si8;refine A0 ⟨_,rfl,?_⟩;show Q (.ref he.objs.size) _;rw[sz];exact k hi zi (up _ _ D.TOz oe) (tit_keep v1 λo e=>up _ o D.i1z e) (tit_keep v2 λo e=>up _ o D.i2z e) pn si8 λc o p1 p2 p3 p4 e=>up c o p1 (ke c o p1 p2 p3 p4 e)
def zhF{z TI TO i1 i2 l1 l2:AJ}{j:Nat}{xs:Array AH}{a b:AH}{Q:Fin->AK->Prop}(hh:A.handled=AD)(D:Fm z TI TO i1 i2 l1 l2)
  (gz:Dy s.heap z TI TO .none) (gI:CL s.heap TI (.ref i1) (.ref i2)) (gO:CL s.heap TO a b) (u1:s.heap.IsTupleIter i1 l1 j) (t1:s.heap.IsTuple l1 xs) (ex:xs[j]?=AD)
  (k:∀h' e,Kz z TO i1 i2 s.heap h'->(∃o,h'.get? e=AA o/\o.cls=.type "StopIteration")->Er (.ref e) {s with heap:=h'}):
  A5 (model pg wd) A (FE.«zip.__next__» ⟨[.ref z],[]⟩) Q Er s:=by
 show A5 _ _ (field (.ref z) 2 >>= _) _ _ _;refine AI (BO gz rfl (x:=.bool AB) rfl ?_);show A5 _ _ (field (.ref z) 3 >>= _) _ _ _;refine AI (BO gz rfl (x:=.ref TI) rfl ?_);refine AI (CQ gI rfl ?_);show A5 _ _ (B0 (.ref z) >>= _) _ _ _;refine AI ?_;unfold B0;refine AI (BO gz rfl (x:=.none) rfl (A0 ?_));erw[if_true];refine AI (EX ?_);refine AI (BO gz rfl (x:=.ref TO) rfl ?_);refine AI (CV gz (by simp) λha za sa=>?_)
 replace za:Dy ha z TI TO .ellipsis:=za
 refine AI ?_;erw[GI,GT,Ea,G9];refine AI (AI (EF ?_));show A5 _ _ (BL (.ref i1) >>= _) _ _ _;refine AI (zdL hh (tit_keep u1 λo e=>sa.extBut _ _ D.i1z e) (zbX t1 λo e=>sa.extBut _ _ D.l1z e) ex λhb e sb he=>?_);let⟨oe,ge,ce⟩:=he;have zb:Dy hb z TI TO .ellipsis:=sb _ _ D.i1z.symm za;have ne:e≠z:=λq=>by subst q;rw[zb]at ge;cases ge;simp at ce
 exact CV zb (by simp) λhc _ sc=>k hc e (λc o p1 _ p3 _ q=>sc.extBut _ _ p1 (sb _ _ p3 (sa.extBut _ _ p1 q))) ⟨oe,sc.extBut _ _ ne ge,ce⟩
theorem pyNext_zipT{z TI TO i1 i2 l1 l2:AJ}{j:Nat}{xs ys:Array AH}{x y a b:AH}{Q:Option AH->AK->Prop}(D:Fm z TI TO i1 i2 l1 l2)
  (gz:Dy s.heap z TI TO .none) (gI:CL s.heap TI (.ref i1) (.ref i2)) (gO:CL s.heap TO a b) (u1:s.heap.IsTupleIter i1 l1 j) (u2:s.heap.IsTupleIter i2 l2 j) (t1:s.heap.IsTuple l1 xs) (t2:s.heap.IsTuple l2 ys) (ex:xs[j]?=AA x) (ey:ys[j]?=AA y)
  (k:∀h',Dy h' z TI TO (rawInt s.heap.objs.size)->CL h' TO x y->h'.IsTupleIter i1 l1 (j+1)->h'.IsTupleIter i2 l2 (j+1)->CL h' s.heap.objs.size x y->h'.objs.size=s.heap.objs.size+1->Kz z TO i1 i2 s.heap h'->Q (AA (.ref s.heap.objs.size)) {s with heap:=h'}):
  A5 (model pg wd) A (pyNext (.ref z)) Q Er s:=by
 have ty:s.TypeIs (.ref z) "zip":=⟨_,gz,rfl⟩;unfold pyNext;exact AI (wpAny_attempt (B3 (name:=AE "__next__") ty DX (CP DX ty GJ (zfN D gz gI gO u1 u2 t1 t2 ex ey λh' a1 a2 a3 a4 a5 a6 a7=>A0 (k h' a1 a2 a3 a4 a5 a6 a7)) (Fp _))))
theorem pyNext_zipE{z TI TO i1 i2 l1 l2:AJ}{j:Nat}{xs:Array AH}{a b:AH}{Q:Option AH->AK->Prop}(hh:A.handled=AD)(D:Fm z TI TO i1 i2 l1 l2)
  (gz:Dy s.heap z TI TO .none) (gI:CL s.heap TI (.ref i1) (.ref i2)) (gO:CL s.heap TO a b) (u1:s.heap.IsTupleIter i1 l1 j) (t1:s.heap.IsTuple l1 xs) (ex:xs[j]?=AD)
  (k:∀h',Kz z TO i1 i2 s.heap h'->Q AD {s with heap:=h'}):A5 (model pg wd) A (pyNext (.ref z)) Q Er s:=by
 have ty:s.TypeIs (.ref z) "zip":=⟨_,gz,rfl⟩;unfold pyNext;refine AI (wpAny_attempt (B3 (name:=AE "__next__") ty DX (CP DX ty GJ (zhF hh D gz gI gO u1 t1 ex λh' e kk he=>?_) (Fp _))));let⟨o,ho,hc⟩:=he;exact AI (wpAny_isInstance (T:="StopIteration") (b:=AC) ⟨o,ho,hc⟩ isSubtype_stop (A0 (k _ kk)))
end
abbrev ti(l:AJ):Obj:={cls:=.type "tuple_iterator",data:=.fields #[.ref l,.int 0 0]}
abbrev yht(h:Aw)(l1:AJ):Heap:=h.push (ti l1)
abbrev yhv(h:Aw)(l1 l2:AJ):Heap:=(yht h l1).push (ti l2)
abbrev yhM(h:Aw)(l1 l2:AJ):Heap:=(yhv h l1 l2).push {cls:=.type "tuple",data:=.seq #[.ref h.objs.size,.ref (yht h l1).objs.size]}
abbrev yhT(h:Aw)(l1 l2:AJ):Heap:=(yhM h l1 l2).push {cls:=.type "tuple",data:=.seq #[.none,.none]}
abbrev yes(h:Aw)(l1 l2:AJ):Heap:=(yhT h l1 l2).push {cls:=.type "zip",data:=.fields #[.none,.bool AB,.bool AB,.ref (yhv h l1 l2).objs.size,.ref (yhM h l1 l2).objs.size]}
def zfl(l1 l2:AJ)(xs ys:Array AH):
  Meets (FE.«zip.__new__» ⟨[.type "zip",.ref l1,.ref l2],[]⟩) (λ_ R s=>s.heap.IsTuple l1 xs/\s.heap.IsTuple l2 ys/\R (.ok (.ret (.ref (yhT s.heap l1 l2).objs.size))) {s with heap:=yes s.heap l1 l2}):=
 .of_wp λprog w A R s h=>by
  let⟨hp,g,d,tk,os⟩:=s;let⟨q1,q2,h⟩:=h;have hsub:=sub_zip;have T1:Ff (GP ⟨hp,g,d,tk,os⟩) l1 xs:=q1;have T2:Ff (GP ⟨hp.push (ti l1),g,d,tk,os⟩) l2 ys:=zbX q2 λo e=>AV _ e
  wp_walk using CA T1,CA T2
  exact⟨_,rfl,h⟩
theorem call_zipT{pg:Aa}{wd:Am}{A:An}{Er:AH->AK->Prop}{s:AK}{l1 l2:AJ}{xs ys:Array AH}{Q:AH->AK->Prop}(t1:s.heap.IsTuple l1 xs)(t2:s.heap.IsTuple l2 ys)
  (k:∀h',Dy h' (s.heap.objs.size+4) (s.heap.objs.size+2) (s.heap.objs.size+3) .none->CL h' (s.heap.objs.size+2) (.ref s.heap.objs.size) (.ref (s.heap.objs.size+1))->CL h' (s.heap.objs.size+3) .none .none->h'.IsTupleIter s.heap.objs.size l1 0->h'.IsTupleIter (s.heap.objs.size+1) l2 0 ->
   (∀b o,s.heap.get? b=AA o->h'.get? b=AA o)->Q (.ref (s.heap.objs.size+4)) {s with heap:=h'}):A5 (model pg wd) A (call (.type "zip") [.ref l1,.ref l2]) Q Er s:=by
 refine callType_new F.called_zip ⋯ (F.typeCall_zip_2 _ _) (F.newCall_zip_2 _ _) (λobj=>F.args_object_init_3 obj _ _) F.entry_zip_new (zfl l1 l2 xs ys) ⟨t1,t2,?_⟩;have n1:(yht s.heap l1).objs.size=s.heap.objs.size+1:=Bi ..;have n2:(yhv s.heap l1 l2).objs.size=s.heap.objs.size+2:=by rw[Bi,n1]
 have n3:(yhM s.heap l1 l2).objs.size=s.heap.objs.size+3:=by rw[Bi,n2]
 have n4:(yhT s.heap l1 l2).objs.size=s.heap.objs.size+4:=by rw[Bi,n3]
 have kp:∀{h:Aw} {o:Bb} {b:AJ} {u:Bb},h.get? b=AA u->(h.push o).get? b=AA u:=λe=>AV _ e;have m5:(yes s.heap l1 l2).get? (yhT s.heap l1 l2).objs.size=AA _:=Ac _ rfl;have m4:(yes s.heap l1 l2).get? (yhM s.heap l1 l2).objs.size=AA _:=kp (Ac _ rfl);have m3:(yes s.heap l1 l2).get? (yhv s.heap l1 l2).objs.size=AA _:=kp (kp (Ac _ rfl));have m2:(yes s.heap l1 l2).get? (yht s.heap l1).objs.size=AA _:=kp (kp (kp (Ac _ rfl)));have m1:(yes s.heap l1 l2).get? s.heap.objs.size=AA _:=kp (kp (kp (kp (Ac _ rfl))));rw[n2,n3,n4]at m5;rw[n1,n2]at m3;rw[n3]at m4;rw[n1]at m2;show _/\_;rw[n4];exact⟨⟨_,m5,rfl⟩,k _ m5 m3 m4 ⟨_,m1,rfl,rfl⟩ ⟨_,m2,rfl,rfl⟩ λb o e=>kp (kp (kp (kp (kp e))))⟩
end WE
namespace L2
open PySem PySem.Spec PyProof.Rows
def Itz(K:AF)(a b:AJ):It:=
 ⟨λi H=>∃xs ys x y,SqT K H a xs/\SqT K H b ys/\xs[i]?=AA x/\ys[i]?=AA y,λi H v H'=>∃T,H T=AD/\v=.ref T/\∀xs ys x y,SqT K H a xs->SqT K H b ys->xs[i]?=AA x->ys[i]?=AA y->H'=upd H T (.tup [x,y]),λi H=>∃xs,SqT K H a xs/\xs.length=i⟩
def zhv{P:Aa}{w:Am}{K:AF}{es:List AT}{kk:Nat}{pos:Bo}(z TI TO i1 i2 a b:AJ)(D:Fm z TI TO i1 i2 a b):
  Turn P w K (.Tuple es kk pos) (Itz K a b) [z,TI,TO,i1,i2] z (λi h=>Dy h z TI TO .none/\CL h TI (.ref i1) (.ref i2)/\(∃p q,CL h TO p q)/\h.IsTupleIter i1 a i/\h.IsTupleIter i2 b i) where
 mem:=by simp
 obj:=λi h st c hc=>by
  let⟨g0,g1,⟨p,q,g2⟩,⟨o3,g3,_,d3⟩,⟨o4,g4,_,d4⟩⟩:=st;erw[AL,AZ,or_false]at hc;rcases hc with rfl|rfl|rfl|rfl|rfl
  .exact⟨_,g0,λv y=>nomatch y⟩
  .exact⟨_,g1,λv y=>nomatch y⟩
  .exact⟨_,g2,λv y=>nomatch y⟩
  .exact⟨o3,g3,λv y=>by rw[d3]at y;cases y⟩
  .exact⟨o4,g4,λv y=>by rw[d4]at y;cases y⟩
 keep:=λi h h' st k=>by
  let⟨g0,g1,⟨p,q,g2⟩,g3,g4⟩:=st;exact⟨k z (by simp) _ g0,k TI (by simp) _ g1,⟨p,q,k TO (by simp) _ g2⟩,WE.tit_keep g3 λo e=>k i1 (by simp) o e,WE.tit_keep g4 λo e=>k i2 (by simp) o e⟩
 item:=by
  intro X hP hw hK hc i π s σ H E I hf st hg;subst hP hw hK;let⟨xs,ys,x,y,hq1,hq2,hx,hy⟩:=hg;let⟨its,rv,p1,_⟩:=I.tuple hq1;let⟨jts,rw',p2,_⟩:=I.tuple hq2;let⟨g0,g1,⟨p,q,g2⟩,g3,g4⟩:=st;let⟨u,hu,ru⟩:=rv.get hx;let⟨v,hv,rv2⟩:=rw'.get hy;refine WE.pyNext_zipT D g0 g1 g2 g3 g4 p1 p2 (by simpa using hu) (by simpa using hv) λh1 a1 a2 a3 a4 a5 a6 a7=>⟨_,rfl,?_⟩;refine wpAny_letOwnedTupleGo_zip a1 λh2 b1 b2=>?_;have lt:∀{c o},s.heap.get? c=AA o->s.heap.objs.size≠c:=λe=>EY (A4 e);have hTz:s.heap.objs.size≠z:=lt g0;have hch:∀c o,c∉[z,TI,TO,i1,i2]->s.heap.get? c=AA o->h2.get? c=AA o:=λc o hn e=>b2.extBut _ _ (λz'=>hn (by simp[z'])) (a7 c o (λz'=>hn (by simp[z'])) (λz'=>hn (by simp[z'])) (λz'=>hn (by simp[z'])) (λz'=>hn (by simp[z'])) e);have new:yS X.prog X.w (upd H s.heap.objs.size (.tup [x,y])) h2 s.heap.objs.size (.tup [x,y]):=⟨by show 2<=sizeLine;decide,[u,v],.cons ru (.cons rv2 .nil),_,b2.extBut _ _ hTz a5,rfl,_,rfl⟩;have I2:=I.turnLaid (t':=s.toks) hf hch (AS _) new;have gI:CL h1 TI (.ref i1) (.ref i2):=a7 _ _ D.TIz D.TITO D.TIi1 D.TIi2 g1;refine⟨.ref s.heap.objs.size,_,I2,rfl,⟨s.heap.objs.size,I.hok.fresh (AS _),rfl,λxs' ys' x' y' hx1 hy1 hx2 hy2=>?_⟩,⟨b1,b2.extBut _ _ D.TIz gI,⟨_,_,b2.extBut _ _ D.TOz a2⟩,WE.tit_keep a3 λo e=>b2.extBut _ _ D.i1z e,WE.tit_keep a4 λo e=>b2.extBut _ _ D.i2z e⟩,λc hc=>?_⟩
  .rw[I.tuple_inj hx1 hq1,hx]at hx2;rw[I.tuple_inj hy1 hq2,hy]at hy2
   cases hx2
   cases hy2
   rfl
  .have hne:c≠s.heap.objs.size:=λz'=>by
    subst z';let⟨o3,e3,_⟩:=g3;let⟨o4,e4,_⟩:=g4;erw[AL,AZ,or_false]at hc;rcases hc with z' | z' | z' | z' | z'
    .exact lt g0 z'
    .exact lt g1 z'
    .exact lt g2 z'
    .exact lt e3 z'
    .exact lt e4 z'
   rw[zk hne];exact(hf c hc).1
 done:=by
  intro X hP hw hK hc i π s σ H E I hf st hg;subst hP hw hK;let⟨xs,hq1,hx⟩:=hg;let⟨its,rv,p1,_⟩:=I.tuple hq1;let⟨g0,g1,⟨p,q,g2⟩,g3,g4⟩:=st;have hl:=rv.length;refine WE.pyNext_zipE (I.ok.hd hc) D g0 g1 g2 g3 p1 (by simp;lia) λh' kz=>⟨rfl,I.turnedL (t':=s.toks) hf λc o hn e=>kz c o (λz'=>hn (by simp[z'])) (λz'=>hn (by simp[z'])) (λz'=>hn (by simp[z'])) (λz'=>hn (by simp[z'])) e⟩
 self:=λ_ _ _ _ _ st q=>GL st.1 q
def yhB(K:AF)(ta:TA):TI:=λσ H R=>ta σ H λvs H1=>∃a b,vs=[.ref a,.ref b]/\(∃xs,SqT K H1 a xs)/\(∃ys,SqT K H1 b ys)/\R (Itz K a b) H1
def zko{X:Cx}{a b:AT}{es:List AT}{kk:Nat}{tp:Bo}{ta:TA}{p pos:Bo}(hg:Gl X "zip")(hm:X.mg "zip"=AD)(ha:PA X [a,b] ta)(hs:starEach [a,b] X.env=[(AB,eval a X.env),(AB,eval b X.env)]:=by rfl)(hs2:starEach [b] X.env=[(AB,eval b X.env)]:=by rfl):
  PI X (.Tuple es kk tp) (.Call (.Name "zip" p) [a,b] [] pos) (yhB X.K ta):=by
 intro π s σ H R I h;refine B1 (zcT I hg hm boot_zip ?_);refine Br (thn (ha pos π s σ H _ I h) λus s1 kq=>?_) (by rw[hs,hs2]) (by rw[hs2];rfl);let⟨vs,H1,I1,r1,q1⟩:=kq;let⟨l1,l2,rfl,⟨xs,hq1⟩,⟨ys,hq2⟩,q⟩:=q1
 cases r1 with
 |cons r rr=>
  cases rr with
  |cons r2 r3=>
   cases r3
   cases (show _=Al l1 from r)
   cases (show _=Al l2 from r2)
   let⟨its,rv,pt1,_⟩:=I1.tuple hq1;let⟨jts,rv2,pt2,_⟩:=I1.tuple hq2;have b1:l1<s1.heap.objs.size:=by let⟨_,e,_⟩:=pt1;exact A4 e
   have b2:l2<s1.heap.objs.size:=by let⟨_,e,_⟩:=pt2;exact A4 e
   refine WE.call_zipT pt1 pt2 λh1 g0 g1 g2 g3 g4 kp=>?_;refine GL g0 ?_;refine⟨_,[s1.heap.objs.size+4,s1.heap.objs.size+2,s1.heap.objs.size+3,s1.heap.objs.size,s1.heap.objs.size+1],_,_,H1,rfl,I1.kept (t':=s1.toks) kp,zhv _ _ _ _ _ l1 l2 (zipApart_new b1 b2),⟨g0,g1,⟨_,_,g2⟩,g3,g4⟩,λc hc=>?_,q⟩;have hb2:s1.heap.objs.size<=c:=by
    erw[AL,AZ,or_false]at hc;rcases hc with z' | z' | z' | z' | z'<;>subst z'
    .exact DG _ 4
    .exact DG _ 2
    .exact DG _ 3
    .exact AS _
    .exact DG _ 1
   exact I1.fpOk hb2 (I1.hok.fresh hb2)
end L2
namespace L2
open PySem PySem.Spec PyProof.Rows IC
inductive ycf(K:AF)(cl:Nat->AJ)(w:Am):List (AO×PV)->List Bv->Prop
 |nil:ycf K cl w [] []
 |cons {k:AO} {v:PV} {t:HC} {u:AH} {x:V} {D:List (AO×PV)} {es:List Bv} (hr:RelV x u) (hv:∀B φ H,yd K cl B φ H v x) (h:ycf K cl w D es):ycf K cl w ((k,v)::D) (⟨Dn w.params k,.str k t,u⟩ :: es)
def GD(K:AF)(w:Am)(mg:AO->Option AH)(cl:Nat->AJ)(x:AO)(D:List (AO×PV)):Prop:=
 ∃(y:AJ) (es:Array Bv) (ep:Nat),mg x=AA (.ref y)/\K.lookup y=AA ⟨.type "dict",AD,.dict es ep,#[]⟩/\(y==sysModules)=AB/\ycf K cl w D es.toList/\(D.map (·.1)).Nodup
theorem ycf.pairs{K:AF}{cl:Nat->AJ}{P:Aa}{w:Am}{D:List (AO×PV)}{es:List Bv}(h:ycf K cl w D es):
  ∃vs:List (AO×AH),Pairs (strKind P w) es vs/\(∀e∈es,∃k,(strKind P w).is k e.key=AC/\e.hash=(strKind P w).hash k)/\vs.map (·.1)=D.map (·.1) /\
   (∀s,(valueAt vs s).isSome=(yW s D).isSome)/\∀s v,yW s D=AA v->∃u x,valueAt vs s=AA u/\RelV x u/\∀B φ H,yd K cl B φ H v x:=by
 induction h with
 |nil=>exact⟨[],.nil,λe he=>(by cases he),rfl,λs=>rfl,λs v e=>by cases e⟩
 |@cons k v t u x D es hr hv h ih=>
  let⟨vs,h1,h2,h3,h4,h5⟩:=ih;have hat:∀s,valueAt ((k,u)::vs) s=if k=s then AA u else valueAt vs s:=λs=>by
   unfold valueAt;rw[Bp]
   by_cases e:k=s
   .simp[e]
   .simp[e]
  refine⟨(k,u)::vs,.cons (Do P w k t) rfl h1,λe he=>?_,by rw[AX,AX,h3],λs=>?_,λs v' e=>?_⟩
  .rcases AL.1 he with rfl|he
   .exact⟨k,Do P w k t,rfl⟩
   .exact h2 e he
  .rw[hat,yW]
   by_cases e:k=s
   .rw[if_pos e,if_pos (by simpa using e)];rfl
   .rw[if_neg e,if_neg (by simpa using e),h4]
  .rw[yW]at e;rw[hat]
   by_cases q:k=s
   .rw[if_pos (by simpa using q)]at e
    cases e
    exact⟨u,x,by rw[if_pos q],hr,hv⟩
   .rw[if_neg (by simpa using q)]at e;let⟨u',x',e1,e2,e3⟩:=h5 s v' e;exact⟨u',x',by rw[if_neg q];exact e1,e2,e3⟩
section
variable {S:Se}{X:Cx}{σ:St}{B:AJ->Prop}{φ:Ph}{H:Hp}{st:SO}{pos p:Bo}{a b i:AT}{ca cb:Ce}{x:AO}{D:List (AO×PV)}{ty:TE}
def zgI{y:AJ}{es:Array Bv}{ep:Nat}{π:List (AJ×Bb)}{s:AK}(I:Inv X π σ H s)(hk:X.K.lookup y=AA ⟨.type "dict",AD,.dict es ep,#[]⟩)(hn:(D.map (·.1)).Nodup){vs:List (AO×AH)}(h1:Pairs (strKind X.prog X.w) es.toList vs)
  (h2:∀e∈es.toList,∃k,(strKind X.prog X.w).is k e.key=AC/\e.hash=(strKind X.prog X.w).hash k) (h3:vs.map (·.1)=D.map (·.1)):s.heap.DictOf (strKind X.prog X.w) y vs:=
 ⟨_,es,ep,I.kIn y _ hk,⟨rfl,rfl,rfl⟩,rfl,λe he=>h2 e (by simpa using he),h1,by rw[h3];exact hn⟩
def yfq(S:Se)(X:Cx)(D:List (AO×PV))(ty:TE):TE:=λσ H Q=>ty σ H λz H2=>∃s v,z=.str s/\yW s D=AA v/\∀x',(∀B φ H,yd X.K S.cl B φ H v x')->Q x' H2
def zkf(hg:Gl X x)(h:GD X.K X.w X.mg S.cl x D)(hi:PE X i ty)(hs:yed i)(hd:(x==("__debug__":AO))=false:=by decide):PE X (.Subscript (.Name x p) i pos) (yfq S X D ty):=by
 let⟨y,es,ep,hm,hk,hsy,hr,hn⟩:=h;let⟨vs,h1,h2,h3,h4,h5⟩:=hr.pairs (P:=X.prog);intro π s σ H Q I q0;refine zkL PySem.F.slot_dict_getitem.lookup hs (thn (zcp (v:=.ref y) hg hm rfl hd π s σ H (λz H1=>z=.ref y/\ty σ H1 λz H2=>∃s v,z=.str s/\yW s D=AA v/\∀x',(∀B φ H,yd X.K S.cl B φ H v x')->Q x' H2) I ⟨rfl,q0⟩) λu s1 kq=>?_);let⟨z,H1,I1,rz,ez,q1⟩:=kq;refine thn (hi π s1 σ H1 _ I1 q1) λiv s2 kq=>?_;let⟨z2,H2,I2,rz2,sx,v,ez2,e,q2⟩:=kq;subst ez;subst ez2;obtain rfl:u=Al y:=rz;let⟨t,rfl⟩:=rz2;have dd:=zgI I2 hk hn h1 h2 h3;let⟨u',x',e1,e2,e3⟩:=h5 sx v e;exact⟨dd.typeIs,wpAny_getItem_of (Do X.prog X.w sx t) dd.mapOf e1 ⟨x',H2,I2.tok _,e2,q2 x' e3⟩⟩
def zm4(hg:Gl X x)(h:GD X.K X.w X.mg S.cl x D)(hb:PE X b (tE S X cb))(hs:yed b:=by exact λ_ _=>rfl)(hd:(x==("__debug__":AO))=false:=by decide):PE X (.Subscript (.Name x p) b pos) (tE S X (.dix D cb)):=
 (zkf hg h hb hs hd).imp λσ H Q ⟨B,φ,st,ρ,rs,re,h⟩=>by
  erw[ev]at h;refine tE.bind rs re h λz H1 v st1 φ1 s1 rs1 re1 rv h1=>?_;let⟨w,e,q⟩:=z4 h1 rs1
  cases v with
  |str sx=>
   erw[yd]at rv;exact⟨sx,w,rv,e,λx' hx=>q x' H1 φ1 .rfl rs1 (hx _ _ _)⟩
  |_=>cases e
def ygM(y:AJ)(D:List (AO×PV)):R2:=λx z H Q=>z=.ref y/\∃s,x=.str s/\Q (.bl (yW s D).isSome) H
def znb(hg:Gl X x)(h:GD X.K X.w X.mg S.cl x D)(ha:PE X a (tE S X ca))(hm:behindInMarks .In (.Name x p)=false:=by ac_rfl)(hd:(x==("__debug__":AO))=false:=by decide):PE X (.Compare a [.In] [.Name x p] pos) (tE S X (.din ca D)):=by
 let⟨y,es,ep,hmg,hk,hsy,hr,hn⟩:=h;let⟨vs,h1,h2,h3,h4,h5⟩:=hr.pairs (P:=X.prog);have op:OpR X (compareOp .In) (ygM y D):=by
  intro π s σ H z1 z2 v u Q I r1 r2 ⟨ez,sx,ex,q⟩;subst ez;subst ex;obtain rfl:u=Al y:=r2;let⟨t,rfl⟩:=r1;have dd:=zgI I hk hn h1 h2 h3;refine wpAny_in_of (Do X.prog X.w sx t) hsy dd.mapOf ⟨.bl (yW sx D).isSome,H,I.tok _,?_,q⟩;rw[h4];rfl
 refine(zez op ha (zcp (v:=.ref y) hg hmg rfl hd) hm).imp λσ H Q kq=>?_;let⟨B,φ,st,ρ,rs,re,h⟩:=kq;erw[ev]at h;refine tE.bind rs re h λz H1 v st1 φ1 s1 rs1 re1 rv h1=>?_;let⟨w,e,q⟩:=z4 h1 rs1
 cases v with
 |str sx=>
  erw[yd]at rv
  cases e
  exact⟨rfl,sx,rv,q _ H1 φ1 .rfl rs1 (by erw[yd])⟩
 |_=>cases e
def zdu:∀(xs ys:List PV) (i:Nat) {x y:PV},xs[i]?=AA x->ys[i]?=AA y->(yac xs ys)[i]?=AA (.tup [x,y])
 |[],_,i,_,_,h,_=>by simp at h
 |_::_,[],i,_,_,_,h=>by simp at h
 |x::xs,y::ys,0,_,_,h1,h2=>by simp at h1 h2;simp[yac,h1,h2]
 |x::xs,y::ys,i+1,_,_,h1,h2=>by
  erw[AN]at h1 h2;erw[yac,AN];exact zdu xs ys i h1 h2
def zdz:∀(xs ys:List PV),xs.length<=ys.length->(yac xs ys).length=xs.length
 |[],_,_=>by simp[yac]
 |_::_,[],h=>by simp at h
 |x::xs,y::ys,h=>by erw[yac,AW,zdz xs ys (by simpa using h)]
def zkA{k j:Bool}{vs ws:List PV}{xs ys:List V}{y z:AJ}(rt:ybD X.K B φ H k y xs)(l:yj X.K S.cl B φ H vs xs)(rt2:ybD X.K B φ H j z ys)(l2:yj X.K S.cl B φ H ws ys)(hle:vs.length<=ws.length):Drw S X B φ H (yac vs ws) (Itz X.K y z):=by
 have hl:=l.length;have hl2:=l2.length;have hp:=zdz vs ws hle;refine⟨λφ' H' s=>⟨xs,(rt.step s).sq,by lia⟩,λi φ' H' s hi=>⟨xs,ys,xs[i]'∅,ys[i]'∅,(rt.step s).sq,(rt2.step s).sq,by simp[show i<xs.length by lia],by simp[show i<ys.length by lia]⟩,λi φ' H' st x H2 B' hB s rs hi q=>?_⟩;let⟨T,hT,rfl,q⟩:=q;obtain⟨v,hv⟩:∃v,vs[i]?=AA v:=⟨vs[i]'∅,by simp[show i<vs.length by lia]⟩;obtain⟨w,hw⟩:∃w,ws[i]?=AA w:=⟨ws[i]'∅,by simp[show i<ws.length by lia]⟩;let⟨x',hx',rv⟩:=l.get i hv;let⟨y',hy',rw'⟩:=l2.get i hw;have e:=q xs ys x' y' (rt.step s).sq (rt2.step s).sq hx' hy';subst e;refine⟨.tup [v,w],zdu vs ws i hv hw,.tup_new hT rs ?_,λb o e=>by rw[zk (zn e hT)];exact e⟩;erw[yj];exact⟨x',[y'],rfl,(rv.moreB hB).step s,y',[],rfl,(rw'.moreB hB).step s,rfl⟩
def zng{es:List AT}{kk:Nat}{tp:Bo}(hg:Gl X "zip")(hm:X.mg "zip"=AD)(ha:PE X a (tE S X ca))(hb:PE X b (tE S X cb))(hs:starEach [a,b] X.env=[(AB,eval a X.env),(AB,eval b X.env)]:=by rfl)(hs2:starEach [b] X.env=[(AB,eval b X.env)]:=by rfl):
  PI X (.Tuple es kk tp) (.Call (.Name "zip" p) [a,b] [] pos) (tI S X (.zip ca cb)):=
 (zko hg hm (zab ha (zab hb zfv hs2) (by rw[hs,hs2])) hs hs2).imp λσ H R ⟨B,φ,st,ρ,rs,re,h⟩=>by
  erw[evi]at h;refine tE.bind rs re h λx H1 v st1 φ1 s1 rs1 re1 rv h1=>tE.bind rs1 re1 h1 λy H2 w st2 φ2 s2 rs2 re2 rw h2=>?_;let⟨zs,e,h2⟩:=zf0 h2
  cases v with
  |tp k vs=>
   cases w with
   |tp j ws=>
    erw[yei]at e
    by_cases hle:vs.length<=ws.length
    .rw[if_pos hle]at e
     cases e
     erw[yd]at rv rw;let⟨a1,xs,rfl,rt,l⟩:=rv;let⟨a2,ys,rfl,rt2,l2⟩:=rw;exact⟨a1,a2,rfl,⟨xs,(rt.step s2).sq⟩,⟨ys,rt2.sq⟩,h2.ok rs2 (zkA (rt.step s2) (l.step s2) rt2 l2 hle)⟩
    .rw[if_neg hle]at e
     cases e
   |_=>cases e
  |_=>cases e
end
section
variable {K:AF}{cl:Nat->AJ}{B:AJ->Prop}{φ:Ph}{H:Hp}{st:SO}
theorem nth{D y:AJ}(b:¬Bx B D y)(n:AA y∉φ):¬B y/\AA y∉φ++[AA D]:=⟨λz=>b (.inl z),λz=>by
 rcases Ak.1 z with z|z
 .exact n z
 .simp only[AL,AZ,or_false,C2]at z;exact b (.inr z)⟩
mutual
theorem yd.thaw{D:AJ}:∀(v:PV) (x:V),yd K cl (Bx B D) φ H v x->yd K cl B (φ++[AA D]) H v x
 |.non,x,h=>by erw[yd]at h ⊢;exact h
 |.bl b,x,h=>by erw[yd]at h ⊢;exact h
 |.int i,x,h=>by erw[yd]at h ⊢;exact h
 |.str y,x,h=>by erw[yd]at h ⊢;exact h
 |.tp k vs,x,h=>by
  erw[yd]at h ⊢;let⟨y,xs,e,r,l⟩:=h;refine⟨y,xs,e,?_,yj.thaw vs xs l⟩;rcases r with⟨r,b,n⟩|r
  .exact .inl ⟨r,nth b n⟩
  .exact .inr r
 |.lst vs,x,h=>by
  erw[yd]at h ⊢;let⟨y,xs,e,⟨r,b,n⟩,l⟩:=h;exact⟨y,xs,e,⟨r,nth b n⟩,yj.thaw vs xs l⟩
 |.loc n,x,h=>by
  erw[yd]at h ⊢;let⟨hn,y,e,q⟩:=h;exact⟨by simp;lia,y,e,λb z=>q b (by rw[AY hn]at z;exact z)⟩
 |.fnc j,x,h=>by erw[yd]at h ⊢;exact h
 |.exn c,x,h=>by
  erw[yd]at h ⊢;let⟨y,e,r,b,n⟩:=h;exact⟨y,e,r,nth b n⟩
 |.scr vs,x,h=>by
  erw[yd]at h ⊢;let⟨y,xs,e,r,l⟩:=h;refine⟨y,xs,e,?_,yj.thaw vs xs l⟩;rcases r with⟨r,b,n⟩|r
  .exact .inl ⟨r,nth b n⟩
  .exact .inr r
theorem yj.thaw{D:AJ}:∀(v:List PV) (x:List V),yj K cl (Bx B D) φ H v x->yj K cl B (φ++[AA D]) H v x
 |[],x,h=>by erw[yj]at h ⊢;exact h
 |v::vs,x,h=>by
  erw[yj]at h ⊢;let⟨y,ys,e,r,l⟩:=h;exact⟨y,ys,e,yd.thaw v y r,yj.thaw vs ys l⟩
end
theorem DK.thaw{D:AJ}:∀{kvs:List (PV×PV)} {ks:List (Key×V)},DK K cl (Bx B D) φ H kvs ks->DK K cl B (φ++[AA D]) H kvs ks
 |[],ks,h=>h
 |(k,v)::r,ks,h=>by
  let⟨q,x,t,e,m,rv,l⟩:=h;exact⟨q,x,t,e,m,rv.thaw,DK.thaw l⟩
theorem DT.thaw{D:AJ}:∀{kvs:List (PV×PV)} {ks:List (List Key×V)},DT K cl (Bx B D) φ H kvs ks->DT K cl B (φ++[AA D]) H kvs ks
 |[],ks,h=>h
 |(k,v)::r,ks,h=>by
  let⟨q,x,t,e,m,rv,l⟩:=h;exact⟨q,x,t,e,m,rv.thaw,DT.thaw l⟩
theorem FS.thaw{D:AJ}:∀{kvs:List (AO×PV)} {ks:List (AO×V)},FS K cl (Bx B D) φ H kvs ks->FS K cl B (φ++[AA D]) H kvs ks
 |[],ks,h=>h
 |(k,v)::r,ks,h=>by
  let⟨x,t,e,rv,l⟩:=h;exact⟨x,t,e,rv.thaw,FS.thaw l⟩
theorem yC.thaw{D:AJ}{zs:List PV}{ys:List V}(rs:yC K cl (Bx B D) φ H st)(nB:¬B D)(hD:H D=AA (.lst ys))(nD:AA D∉φ)(l:yj K cl (Bx B D) φ H zs ys):yC K cl B (φ++[AA D]) H (st++[.lst zs]):=by
 have hl:φ.length=st.length:=rs.len;have spl:∀{n:Nat} {a:AJ},(φ++[AA D])[n]?=AA (AA a)->(n<φ.length/\φ[n]?=AA (AA a)) \/ (n=φ.length/\a=D):=λ{n a} e=>by
  by_cases hn:n<φ.length
  .rw[AY hn]at e;exact .inl ⟨hn,e⟩
  .rw[Ad ∅]at e;rcases (by lia:n-φ.length=0 \/ 0<n-φ.length)with q|q
   .rw[q]at e;simp at e;exact .inr ⟨by lia,e.symm⟩
   .rw[BZ (by simp;lia)]at e;cases e
 have ne:∀{n:Nat} {a:AJ},φ[n]?=AA (AA a)->a≠D:=λe z=>nD (z ▸ AR e);refine⟨by simp[hl],λm n a e1 e2=>?_,λn a e=>?_,λn o e ho=>?_,λa h=>?_,λa h=>rs.dom a (.inl h)⟩
 .rcases spl e1 with⟨h1,e1⟩|⟨h1,q1⟩<;>rcases spl e2 with⟨h2,e2⟩|⟨h2,q2⟩
  .exact rs.inj m n a e1 e2
  .exact absurd q2 (ne e1)
  .exact absurd q1 (ne e2)
  .lia
 .rcases spl e with⟨h1,e1⟩|⟨h1,q1⟩
  .let⟨o,q,r⟩:=rs.obj n a e1;refine⟨o,by rw[AY ∅];exact q,?_⟩
   cases o with
   |lst vs=>let⟨xs,hx,l⟩:=r;exact⟨xs,hx,l.thaw⟩
   |dct t kvs=>cases t<;>(let⟨xs,hx,l⟩:=r;exact⟨xs,hx,l.thaw⟩)
   |ins c fs=>let⟨ks,hx,l⟩:=r;exact⟨ks,hx,l.thaw⟩
   |dead=>exact r.elim
  .subst q1;exact⟨.lst zs,by rw[h1,hl,Ad (AS _)];simp,ys,hD,l.thaw⟩
 .by_cases hn:n<st.length
  .rw[AY hn]at e;let⟨a,q⟩:=rs.liv n o e ho;exact⟨a,by rw[AY ∅];exact q⟩
  .have hn2:n=st.length:=by
    rcases (by lia:n=st.length \/ st.length<n)with q|q
    .exact q
    .rw[BZ (by simp;lia)]at e;cases e
   exact⟨D,by rw[hn2,<-hl,Ad (AS _)];simp⟩
 .rcases Ak.1 h with h|h
  .exact λz=>rs.nb a h (.inl z)
  .simp only[AL,AZ,or_false,C2]at h;subst h;exact nB
end
section
variable {S:Se}{X:Cx}{K:AF}{cl:Nat->AJ}{σ:St}{B:AJ->Prop}{φ φ1:Ph}{H H1:Hp}{st:SO}{ρ:IC.Env}{pos p p2 px:Bo}{a b c o tg l elt iter:AT}{ca cb cc ce:Ce}{ci:Cit}{ct:Tg}
def zfh{sl:List (Option Nat)}(hf:yal ct sl=AC){H:Hp}{Q:VK}(h:tE S X (.thw (.comp sl ct ci cc ce)) σ H Q):yci sl (tI S X ci) (tG0 S X.K ct) (tT0 S X.K cc) (tE0 S X.K ce) σ H Q:=by
  let⟨B,φ,st,ρ,rs,re,h⟩:=h;erw[ev,R.bind_assoc]at h;refine⟨B,φ,st,ρ,rs,re,(Run.bind h).mono λJ H1 kq=>?_⟩;let⟨xs,st1,φ1,s1,rs1,dr,h1⟩:=kq;refine λD hD=>?_
  generalize hone:(λ(x:PV) (st2:SO)=>match yU ct x (sl.map λo=>o.bind λj=>(ρ[j]?).join)with
   |none=>(R.bad:R (Option PV))
   |some ρ1=>(ev S.call ρ1 st2 cc).bind λb st3=>onO (yaL st3 b) λk=>cond k ((ev S.call ρ1 st3 ce).bind λy st4=>.ok (AA y) st4) (.ok AD st3))=one at h1
  cases e:yaD one xs st1 with
  |exc k s=>rw[e]at h1;erw[ya5,R.bind]at h1;exact h1.elim
  |bad=>rw[e]at h1;erw[ya5,R.bind]at h1;exact h1.elim
  |ok zs st5=>
   rw[e]at h1;erw[ya5]at h1
   by_cases hz:zs.length<=1000000
   case neg=>rw[if_neg hz]at h1;erw[R.bind]at h1;exact h1.elim
   rw[if_pos hz]at h1;erw[R.bind,ycK]at h1;have nB:¬B D:=rs1.nB hD;have nD:AA D∉φ1:=λz=>by
    let⟨w,e⟩:=rs1.there z;rw[hD]at e;cases e
   refine⟨λi m σc ys H2=>∃φ2 st2 vs rest,i+m=xs.length/\Step φ1 H1 φ2 H2/\H2 D=AA (.lst ys)/\AA D∉φ2/\yC X.K S.cl (Bx B D) φ2 H2 st2/\yK X.K S.cl (Bx B D) φ2 H2 (sl.map λo=>o.bind λj=>(ρ[j]?).join) σc /\
     yj X.K S.cl (Bx B D) φ2 H2 vs ys/\yaD one (xs.drop i) st2=.ok rest st5/\vs++rest=zs,
    ⟨xs.length,φ1,st1,[],zs,by lia,.upd hD,zl,nD,rs1.more hD,(yK.inn (re.step s1)).more hD,by erw[yj],by simpa using e,rfl⟩,?_⟩
   rintro i m σc ys H2 ⟨φ2,st2,vs,rest,hm,s2,hD2,nD2,rs2,re2,l2,ec,ez⟩
   refine⟨hD2,?_⟩
   by_cases hi:i<xs.length
   .have hl2:=l2.length;have hml:=zoa;have hzl:=congrArg Bt ez;rw[AM]at hzl;refine .inr ⟨dr.go i φ2 H2 s2 hi,by lia,λσ' ys' H'=>∃φ2 st2 vs rest,Step φ1 H1 φ2 H'/\H' D=AA (.lst ys')/\AA D∉φ2/\yC X.K S.cl (Bx B D) φ2 H' st2/\yK X.K S.cl (Bx B D) φ2 H' (sl.map λo=>o.bind λj=>(ρ[j]?).join) σ' /\
     yj X.K S.cl (Bx B D) φ2 H' vs ys'/\yaD one (xs.drop (i+1)) st2=.ok rest st5/\vs++rest=zs,λσ' ys' H' ⟨φ2,st2,vs,rest,q⟩=>⟨m-1,by lia,φ2,st2,vs,rest,by lia,q⟩,λx H3 hy=>?_⟩
    let⟨v,hv,rv,kk⟩:=dr.yld i φ2 H2 st2 x H3 (Bx B D) (λy z=>z.elim .inl λq=>.inr (q ▸ hD)) s2 rs2 hi hy;have s3:Step φ2 H2 φ2 H3:=⟨λb o _ e=>kk b o e,AS _,λ_ _ _ e=>e,λ_ h=>.inl h⟩;have rs3:yC X.K S.cl (Bx B D) φ2 H3 st2:=rs2.same kk;have ed:xs.drop i=v::xs.drop (i+1):=by
     rw[Cc hi];rw[Bf hi]at hv;rw[A6 hv]
    rw[ed,yaD]at ec;let⟨o,st3,e1,ec⟩:=zaj ec;let⟨rest',st4,e2,ec⟩:=zaj ec;rw[<-hone]at e1;dsimp only at e1
    cases eb:yU ct v (sl.map λo=>o.bind λj=>(ρ[j]?).join)with
    |none=>rw[eb]at e1;cases e1
    |some ρ1=>
     rw[eb]at e1;dsimp only at e1;let⟨bv,st6,e3,e1⟩:=zaj e1;let⟨k,e4,e1⟩:=zju e1;have er:st4=st5/\ybl o rest'=rest:=by
      injection ec with q1 q2;exact⟨q2,q1⟩
     let⟨rfl,rfl⟩:=er;refine⟨Bx B D,φ2,st2,_,v,ρ1,rs3,re2.step s3,rv,eb,λσ4 re4=>⟨Bx B D,φ2,st2,ρ1,rs3,re4,?_⟩⟩;have et:yaV (ev S.call ρ1 st2 cc)=.ok k st6:=by
      rw[e3];erw[yaV,R.bind,e4,onO]
     rw[et]
     rintro k' H5 φ5 s5 rs5 rfl
     have nD5:AA D∉φ5:=λz=>by
      rcases s5.new D z with q|q
      .exact nD2 q
      .rw[kk D _ hD2]at q;cases q
     have hD5:H5 D=AA (.lst ys):=s5.keep D _ nD2 (kk D _ hD2);have s25:Step φ1 H1 φ5 H5:=s2.trans (s3.trans s5);have l5:=(l2.step s3).step s5;have re5:yK X.K S.cl (Bx B D) φ5 H5 ρ1 σ4:=re4.step s5;have h0:∀(i:Nat),sl[i]?=AA AD->(sl.map λo=>o.bind λj=>(ρ[j]?).join)[i]?=AA none:=λi q=>by
      rw[Ba,q];rfl
     cases k with
     |false=>
      erw[cond_false]at e1
      cases e1
      exact⟨φ5,_,vs,rest',s25,hD5,nD5,rs5,yK.untgt hf h0 eb re5,l5,e2,ez⟩
     |true=>
      erw[cond_true]at e1;let⟨y,st7,e5,e1⟩:=zaj e1
      cases e1
      refine⟨Bx B D,φ5,st6,ρ1,rs5,re5,?_⟩;rw[e5];intro y' H6 φ6 s6 rs6 ry;have nD6:AA D∉φ6:=λz=>by
       rcases s6.new D z with q|q
       .exact nD5 q
       .rw[hD5]at q;cases q
      have hD6:H6 D=AA (.lst ys):=s6.keep D _ nD5 hD5;have hBD:Bx B D D:=.inr rfl;refine⟨hD6,φ6,_,vs++[y],rest',?_,zl,nD6,rs6.skip hBD,(yK.untgt hf h0 eb (re5.step s6)).skip hBD,((l5.step s6).append (by erw[yj];exact⟨y',[],rfl,ry,rfl⟩)).skip hBD,e2,?_⟩
      .have s16:=s25.trans s6;exact⟨λb o n q=>by rw[zk (zn q hD)];exact s16.keep b o n q,s16.len,s16.pre,s16.new⟩
      .simpa [ybl] using ez
   .have ei:i=xs.length:=by lia
    subst ei;rw[ES,yaD]at ec
    cases ec
    have s3:Step φ1 H1 (φ2++[AA D]) H2:=⟨λb o n q=>s2.keep b o n q,BH s2.len (by simp),λn b h e=>by rw[AY (A9 h s2.len)]at e;exact s2.pre n b h e,λb h=>by
     rcases Ak.1 h with h|h
     .exact s2.new b h
     .simp only[AL,AZ,or_false,C2]at h;subst h;exact .inr hD⟩
    refine .inl ⟨dr.stop φ2 H2 s2,h1 (.ref D) H2 (φ2++[AA D]) s3 (yC.thaw rs2 nB hD2 nD2 (by rw[<-ez,BS];exact l2)) ?_⟩;erw[yd];refine⟨by simp[rs2.len],D,rfl,λb e=>?_⟩;rw[<-rs2.len,Ad (AS _)]at e;simpa using e.symm
def zih{sc:BQ}{NC:List AO}{sl:List (Option Nat)}{ifs:List AT}{i:Nat}{x:AO}{spos:Bo}(hN:X.N.Nodup)(hix:X.N[i]?=AA x)(hx:Loc X.env.scope x)(hc:X.calm=AC)(O:yaf X sc NC sl)(hf:yal ct sl=AC)(hi:PI X tg iter (tI S X ci))(hg:∀j,PG (cxC X sc NC j) tg (tG0 S X.K ct))
  (ht:∀j,PTs (cxC X sc NC j) ifs (tT0 S X.K cc)) (he:∀j,PE (cxC X sc NC j) elt (tE0 S X.K ce))
  (hsw:swapsWith (.ListComp elt [⟨tg,iter,ifs,0⟩] sc pos) (AA (.Name x px)) spos.line X.env=pure true:=by rfl) (hs:∀x,foldedSetIterable iter X.env x=pure x:=by intro _;rfl)
  (hfn:X.fn x=AC \/ X.env.scope.names.lookup x=AA .local:=by first|exact .inl rfl|exact .inr rfl|assumption):PS X (.Assign [.Name x px] (.ListComp elt [⟨tg,iter,ifs,0⟩] sc pos) spos) (tS S X (.asg (.n i) (.thw (.comp sl ct ci cc ce)))):=
 (zg8 hN hix hx hc O hi hg ht he hsw hs hfn).imp λD σ H ⟨B,φ,st,ρ,rs,re,h⟩=>by
  refine zfh hf ?_;erw[ex]at h;exact tE.fl rs re h λx H1 v st1 φ1 s rs1 re1 rv h1=>h1 _ H1 φ1 .rfl rs1 (re1.set i rv)
end
section
variable {K:AF}{cl:Nat->AJ}{B:AJ->Prop}{φ:Ph}{H:Hp}{st:SO}
theorem FS.lookup{f:AO}:∀{fs:List (AO×PV)} {ks:List (AO×V)},FS K cl B φ H fs ks->(∀v,fs.lookup f=AA v->∃x,ks.lookup f=AA x/\yd K cl B φ H v x)/\(fs.lookup f=AD->ks.lookup f=AD)
 |[],ks,h=>by
  cases (show ks=[]from h)
  exact⟨nofun,λ_=>rfl⟩
 |(k,v)::r,ks,h=>by
  let⟨x,s,rfl,rv,l⟩:=h;let⟨q1,q2⟩:=FS.lookup (f:=f) l;erw[Bs]
  cases e:f==k with
  |true=>exact⟨λw z=>by cases z;exact⟨x,rfl,rv⟩,λz=>by cases z⟩
  |false=>exact⟨q1,q2⟩
theorem FS.put{f:AO}{v:PV}{x:V}(r:yd K cl B φ H v x):∀{fs:List (AO×PV)} {ks:List (AO×V)},FS K cl B φ H fs ks->FS K cl B φ H (ycg f v fs) (ya3 f x ks)
 |[],ks,h=>by
  cases (show ks=[]from h)
  exact⟨x,[],rfl,r,rfl⟩
 |(k,w)::q,ks,h=>by
  let⟨y,s,rfl,ry,l⟩:=h;erw[ycg,ya3]
  by_cases c:k=f
  .rw[if_pos c,if_pos c];exact⟨x,s,rfl,r,l⟩
  .rw[if_neg c,if_neg c];exact⟨y,_,rfl,ry,FS.put r l⟩
theorem FS.len:∀{fs:List (AO×PV)} {ks:List (AO×V)},FS K cl B φ H fs ks->fs.length=ks.length
 |[],ks,h=>by cases (show ks=[]from h);rfl
 |(k,w)::q,ks,h=>by
  let⟨y,s,rfl,ry,l⟩:=h;simp[FS.len l]
theorem yC.ins{n c:Nat}{fs:List (AO×PV)}{x:V}(rs:yC K cl B φ H st)(r:yd K cl B φ H (.loc n) x)(h:st[n]?=AA (.ins c fs)):∃y ks dx,x=.ref y/\φ[n]?=AA (AA y)/\H y=AA (.ins (cl c) dx ks)/\FS K cl B φ H fs ks:=by
 erw[yd]at r;let⟨hn,y,rfl,hy⟩:=r;let⟨a,ha⟩:=rs.liv n _ h (by intro z;cases z);let⟨o,ho,ro⟩:=rs.obj n a ha;have e:=hy a ha;subst e;rw[h]at ho
 cases ho
 let⟨ks,⟨dx,q⟩,l⟩:=ro;exact⟨a,ks,dx,rfl,ha,q,l⟩
end
section
variable {S:Se}{X:Cx}{σ:St}{B:AJ->Prop}{φ φ1:Ph}{H H1:Hp}{st:SO}{ρ:IC.Env}{p pos pos' p2 apos:Bo}{a b d o e:AT}{ca cb cc:Ce}{es:List AT}{ces:Ces}{c i k:Nat}{f m x:AO}{fa:AJ}{fd:Ax}{ps:List AO}
def zeW{st:SO}{x v:PV}(h:ybq c st x f=AA v):∃n fs,x=.loc n/\st[n]?=AA (.ins c fs)/\fs.lookup f=AA v:=by
 cases x with
 |loc n=>
  erw[ybq]at h;split at h
  .rename_i dd fs e;split at h
   .rename_i q;subst q;exact⟨n,fs,rfl,e,h⟩
   .cases h
  .cases h
 |_=>cases h
def zeV{st st4:SO}{x v:PV}(h:ybZ c st x f v=AA st4):∃n fs,x=.loc n/\st[n]?=AA (.ins c fs)/\fs.length<1000/\st4=st.set n (.ins c (ycg f v fs)):=by
 cases x with
 |loc n=>
  erw[ybZ]at h;split at h
  .rename_i dd fs e;split at h
   .rename_i q;let⟨q,q2⟩:=q;subst q
    cases h
    exact⟨n,fs,rfl,e,q2,rfl⟩
   .cases h
  .cases h
 |_=>cases h
def ziC{st:SO}{x:PV}{t:Bool}(h:yco c m st x=AA t):∃n fs,x=.loc n/\st[n]?=AA (.ins c fs)/\fs.lookup m=none:=by
 cases x with
 |loc n=>
  erw[yco]at h;split at h
  .rename_i dd fs e;split at h
   .rename_i q;let⟨q,q2⟩:=q;subst q;exact⟨n,fs,rfl,e,q2⟩
   .cases h
  .cases h
 |_=>cases h
def zmj(hc:Cls X.K (S.cl c))(hn:yaq X.K (S.cl c) f)(ha:PE X a (tE S X ca))(hb:attributeBase a f X.env (eval a X.env)=eval a X.env:=by rfl):PE X (.Attribute a f pos) (tE S X (.fld c ca f)):=
 (zlG ha hb).imp λσ H Q ⟨B,φ,st,ρ,rs,re,h⟩=>by
  erw[ev]at h;refine tE.bind rs re h λx H1 v st1 φ1 s1 rs1 re1 rv h1=>?_;let⟨z,e,q⟩:=z4 h1 rs1;let⟨n,fs,rfl,hn',l⟩:=zeW e;let⟨y,ks,dx,rfl,_,hy,lr⟩:=rs1.ins rv hn';let⟨x,hx,rx⟩:=lr.lookup.1 z l;exact⟨y,S.cl c,dx,ks,x,rfl,hy,hc,hn,hx,q x H1 φ1 .rfl rs1 rx⟩
def zmL(hc:Cls X.K (S.cl c))(hn:yaq X.K (S.cl c) f)(ha:PE X a (tE S X ca))(hv:PE X b (tE S X cb))(hs:swapsWith b (AA (.Attribute a f pos')) pos.line X.env=pure false:=by rfl):PS X (.Assign [.Attribute a f pos'] b pos) (tS S X (.sfl c ca f cb)):=
 (zl6 ha hv hs).imp λD σ H ⟨B,φ,st,ρ,rs,re,h⟩=>by
  erw[ex]at h;refine tE.fl rs re h λv' H1 v st1 φ1 s1 rs1 re1 rv h1=>tE.fl rs1 re1 h1 λx' H2 x st2 φ2 s2 rs2 re2 rx h2=>?_
  cases e:ybZ c st2 x f v with
  |none=>rw[e]at h2;exact h2.elim
  |some st4=>
   rw[e]at h2;let⟨n,fs,rfl,hn',hl,rfl⟩:=zeV e;let⟨y,ks,dx,rfl,hp,hy,lr⟩:=rs2.ins rx hn';refine⟨y,S.cl c,dx,ks,rfl,hy,hc,hn,by rw[<-lr.len];exact hl,?_⟩;have s4:Step φ2 H2 φ2 (L2.upd H2 y (.ins (S.cl c) dx (ya3 f v' ks))):=.put (AR hp);exact h2 σ _ φ2 s4 (rs2.put (o:=.ins c (ycg f v fs)) hp ⟨_,⟨dx,zl⟩,(FS.put (rv.step s2) lr).step s4⟩) (re2.step s4)
theorem noX:ybw (CX1 X.prog X.w) X (λ_ _ _=>False):=λπ σ H s e s' _ z=>by
 let⟨_,_,_,_,_,_,_,_,_,_,_,_,_,_,z⟩:=z;exact z.elim
def zf6{vs:List PV}{xs:List V}{Q:VK}{rs:yC X.K S.cl B φ H st}(l:yj X.K S.cl B φ H vs xs)(h:Run S X σ B φ H (RV S X B) ((ybm (S.call i (.loc st.length::vs) (st++[.ins c []]))).bind λv st2=>newV st.length v st2) Q):
  ∀x dx,H x=AD->H dx=AD->dx≠x->spI X.K S.cl S.call i (.ref x::xs) (L2.upd (L2.upd H dx (.own x)) x (.ins (S.cl c) dx [])) (λv H2=>v=.non/\Q (.ref x) H2) (λ_ _ _=>False):=by
 intro x dx hx hdx ne;have hx':L2.upd H dx (.own x) x=none:=by rw[zk (BP ne)];exact hx
 have t1:Step φ H φ (L2.upd H dx (.own x)):=.upd hdx;have rs1:=rs.upd (o:=.own x) hdx;have t2:Step φ (L2.upd H dx (.own x)) (φ++[AA x]) (L2.upd (L2.upd H dx (.own x)) x (.ins (S.cl c) dx [])):=.push hx';have rs2:=rs1.push hx' (rs1.nB hx') (o:=.ins c []) ⟨[],⟨dx,zl⟩,rfl⟩;have ll:yd X.K S.cl B (φ++[AA x]) (L2.upd (L2.upd H dx (.own x)) x (.ins (S.cl c) dx [])) (.loc st.length) (.ref x):=.loc_new rs1;refine⟨B,φ++[AA x],st++[.ins c []],.loc st.length::vs,rs2,?_,?_⟩
 .simp only[yj];exact⟨.ref x,xs,rfl,ll,(l.step t1).step t2⟩
 .cases e:S.call i (.loc st.length::vs) (st++[.ins c []])with
  |ok v st'=>
   rw[e]at h;erw[ybm,R.bind]at h
   cases v with
   |non=>
    intro z H' φ' s rs' rz;erw[yd]at rz;exact⟨rz,h (.ref x) H' φ' ((t1.trans t2).trans s) rs' (ll.step s)⟩
   |_=>exact h.elim
  |exc k s=>rw[e]at h;exact h.elim
  |bad=>rw[e]at h;exact h.elim
def zlx(M:Mk X.K (S.cl c) fa)(F:yaM X.prog X.w X.K X.mg X.base (CX1 X.prog X.w) k fa fd ps (spI X.K S.cl S.call i))(hr:yax (k+1) X.A)(hg:Gl X x)(hm:X.mg x=AA (.ref (S.cl c)))(hb:Binds X.K fd ps [])
  (ha:PA X (e::es) (tAs S X ces)) (hdb:(x==("__debug__":AO))=false:=by decide) (he:starEach (e::es) X.env=(AB,eval e X.env)::starEach es X.env:=by rfl) (hpl:(backTo pos (starEach es X.env)).any (·.1)=false:=by rfl):
  PE X (.Call (.Name x p) (e::es) [] pos) (tE S X (.new c i ces)):=
 (zkw M F hr hg hm hb .nil noX ha hdb he hpl).imp λσ H Q ⟨B,φ,st,ρ,rs,re,h⟩=>by
  erw[ev]at h;refine tAs.bind rs re h λxs H1 vs st1 φ1 s1 rs1 re1 rv h1=>?_;rw[BS];exact zf6 (rs:=rs1) rv h1
def ybU(CX:CXT)(X:Cx)(C:AJ)(m:AO)(sp:Sp)(ta:TE)(t:TA):TE:=λσ H Q=>ta σ H λx H1=>∃y dx fs,x=.ref y/\H1 y=AA (.ins C dx fs)/\fs.lookup m=AD/\t σ H1 λvs H2=>∃E:XK,sp (.ref y::vs) H2 Q E/\∀π s e s',Inv X π σ H2 s->CX X.stack H2 s E e s'->X.xe e s'
def zhz{CX:CXT}{sp:Sp}{C:AJ}{ta:TE}{t:TA}{pl:Ge Bool}(he:PE X o ta)(c:Cls X.K C)(hm:Meth X.K C m fa)(F:yaM X.prog X.w X.K X.mg X.base CX k fa fd ps sp)(hr:yax k X.A)(hb:Binds X.K fd ps [])(ha:PA X (e::es) t)
  (hst:starEach (e::es) X.env=(AB,eval e X.env)::starEach es X.env:=by rfl) (hpl:(backTo pos (starEach es X.env)).any (·.1)=false:=by rfl)
  (ht:eval (.Call (.Attribute o m apos) (e::es) [] pos) X.env=(do
   let ov <-eval o X.env
   standAt apos.atName
   let (f,first) <-holding [ov] (getMethod ov m pl)
   callWith pos f first (backTo pos (starEach (e::es) X.env)) (backToKw pos (keywordEach [] X.env))):=by rfl):
  PE X (.Call (.Attribute o m apos) (e::es) [] pos) (ybU CX X C m sp ta t):=by
 intro π s σ H Q I h;refine Ej (pl:=pl) (thn (he π s σ H _ I h) λu s1 kq=>?_) ht;let⟨x,H1,I1,rx,y,dx,fs,ex,ea,l,q⟩:=kq;subst ex;obtain rfl:u=Al y:=rx;refine zcZ I1 ea c hm l ?_;refine Dc (first:=[.ref y]) (h₀:=X.base) I.ok.mod.kin hm.kp (thn (ha pos π s1 σ H1 _ I1 q) λus s2 kq=>?_) hst hpl;let⟨vs,H2,I2,r,E,q2,hx⟩:=kq;refine ⟨I2.kIn,?_⟩;exact zdd (us:=.ref y::us) (vs:=.ref y::vs) F hr hb .nil I2 (.cons rfl r) (by rw[BS];exact q2) λe s' z=>hx π s2 e s' I2 z
def zg5{CX:CXT}{sp:Sp}{C:AJ}{ta:TE}{pl:Ge Bool}(he:PE X o ta)(c:Cls X.K C)(hm:Meth X.K C m fa)(F:yaM X.prog X.w X.K X.mg X.base CX k fa fd ps sp)(hr:yax k X.A)(hb:Binds X.K fd ps [])
  (ht:eval (.Call (.Attribute o m apos) [] [] pos) X.env=(do
   let ov <-eval o X.env
   standAt apos.atName
   let (f,first) <-holding [ov] (getMethod ov m pl)
   callWith pos f first (backTo pos (starEach [] X.env)) (backToKw pos (keywordEach [] X.env))):=by rfl):
  PE X (.Call (.Attribute o m apos) [] [] pos) (ybU CX X C m sp ta ydA):=by
 intro π s σ H Q I h;refine Ej (pl:=pl) (thn (he π s σ H _ I h) λu s1 kq=>?_) ht;let⟨x,H1,I1,rx,y,dx,fs,ex,ea,l,E,q2,hx⟩:=kq;subst ex;obtain rfl:u=Al y:=rx;refine zcZ I1 ea c hm l ?_;exact FK (first:=[.ref y]) I1.kIn hm.kp (zdd (us:=[.ref y]) (vs:=[.ref y]) F hr hb .nil I1 (.cons rfl .nil) q2 λe s' z=>hx π s1 e s' I1 z)
def zd5{Q:VK}{t:TA}(hq:∀{H1:Hp} {φ1:Ph} {st1:SO} {P:List V->Hp->Prop} {kk:List PV->SO->R PV},yC X.K S.cl B φ1 H1 st1->yK X.K S.cl B φ1 H1 ρ σ->Run S X σ B φ1 H1 (RV S X B) ((evs S.call ρ st1 ces).bind kk) Q ->
   (∀xs H2 vs st2 φ2,Step φ1 H1 φ2 H2->yC X.K S.cl B φ2 H2 st2->yK X.K S.cl B φ2 H2 ρ σ->yj X.K S.cl B φ2 H2 vs xs->Run S X σ B φ2 H2 (RV S X B) (kk vs st2) Q->P xs H2)->t σ H1 P)
  (rs:yC X.K S.cl B φ H st) (re:yK X.K S.cl B φ H ρ σ) (h:Run S X σ B φ H (RV S X B) ((ev S.call ρ st ca).bind λx st1=>onO (yco c m st1 x) λ_=>(evs S.call ρ st1 ces).bind λvs st2=>S.call i (x::vs) st2) Q):
  ybU (CX1 X.prog X.w) X (S.cl c) m (spI X.K S.cl S.call i) (tE S X ca) t σ H Q:=by
 refine tE.bind rs re h λx H1 v st1 φ1 s1 rs1 re1 rv h1=>?_
 cases q:yco c m st1 v with
 |none=>rw[q]at h1;exact h1.elim
 |some b=>
  rw[q]at h1;erw[onO]at h1;let⟨n,fs,rfl,hn,hl⟩:=ziC q;let⟨y,ks,dx,rfl,_,hy,lr⟩:=rs1.ins rv hn;refine⟨y,dx,ks,rfl,hy,lr.lookup.2 hl,hq rs1 re1 h1 λxs H2 vs st2 φ2 s2 rs2 re2 rl h2=>?_⟩;exact zbB rs2 (by erw[yj];exact⟨.ref y,xs,rfl,rv.step s2,rl⟩) h2
def zls{pl:Ge Bool}(hc:Cls X.K (S.cl c))(hm:Meth X.K (S.cl c) m fa)(F:yaM X.prog X.w X.K X.mg X.base (CX1 X.prog X.w) k fa fd ps (spI X.K S.cl S.call i))(hr:yax k X.A)(hb:Binds X.K fd ps [])
  (ho:PE X o (tE S X ca)) (ha:PA X (e::es) (tAs S X ces))
  (hst:starEach (e::es) X.env=(AB,eval e X.env)::starEach es X.env:=by rfl) (hpl:(backTo pos (starEach es X.env)).any (·.1)=false:=by rfl)
  (ht:eval (.Call (.Attribute o m apos) (e::es) [] pos) X.env=(do
   let ov <-eval o X.env
   standAt apos.atName
   let (f,first) <-holding [ov] (getMethod ov m pl)
   callWith pos f first (backTo pos (starEach (e::es) X.env)) (backToKw pos (keywordEach [] X.env))):=by rfl):
  PE X (.Call (.Attribute o m apos) (e::es) [] pos) (tE S X (.mcl c i m ca ces)):=
 (zhz ho hc hm F hr hb ha hst hpl ht).imp λσ H Q ⟨B,φ,st,ρ,rs,re,h⟩=>by
  erw[ev]at h;exact zd5 (λrs1 re1 h1 n=>tAs.bind rs1 re1 h1 n) rs re h
def zkM{pl:Ge Bool}(hc:Cls X.K (S.cl c))(hm:Meth X.K (S.cl c) m fa)(F:yaM X.prog X.w X.K X.mg X.base (CX1 X.prog X.w) k fa fd ps (spI X.K S.cl S.call i))(hr:yax k X.A)(hb:Binds X.K fd ps [])
  (ho:PE X o (tE S X ca))
  (ht:eval (.Call (.Attribute o m apos) [] [] pos) X.env=(do
   let ov <-eval o X.env
   standAt apos.atName
   let (f,first) <-holding [ov] (getMethod ov m pl)
   callWith pos f first (backTo pos (starEach [] X.env)) (backToKw pos (keywordEach [] X.env))):=by rfl):
  PE X (.Call (.Attribute o m apos) [] [] pos) (tE S X (.mcl c i m ca .nil)):=
 (zg5 ho hc hm F hr hb ht).imp λσ H Q ⟨B,φ,st,ρ,rs,re,h⟩=>by
  erw[ev]at h;refine zd5 (t:=ydA) (λ{H1 φ1 st1 P kk} rs1 re1 h1 n=>?_) rs re h;erw[evs,R.bind]at h1;exact n [] H1 [] st1 φ1 .rfl rs1 re1 (by erw[yj]) h1
end
inductive ycr(w:Am)(fa:Nat->AJ):List (AO×Nat)->List Bv->Prop
 |nil:ycr w fa [] []
 |cons {k:AO} {i:Nat} {t:HC} {D:List (AO×Nat)} {es:List Bv} (h:ycr w fa D es):ycr w fa ((k,i)::D) (⟨Dn w.params k,.str k t,.ref (fa i)⟩ :: es)
def GDF(K:AF)(w:Am)(mg:AO->Option AH)(fa:Nat->AJ)(x:AO)(D:List (AO×Nat)):Prop:=
 ∃(y:AJ) (es:Array Bv) (ep:Nat),mg x=AA (.ref y)/\K.lookup y=AA ⟨.type "dict",AD,.dict es ep,#[]⟩/\ycr w fa D es.toList/\(D.map (·.1)).Nodup
theorem ycr.pairs{P:Aa}{w:Am}{fa:Nat->AJ}{D:List (AO×Nat)}{es:List Bv}(h:ycr w fa D es):
  ∃vs:List (AO×AH),Pairs (strKind P w) es vs/\(∀e∈es,∃k,(strKind P w).is k e.key=AC/\e.hash=(strKind P w).hash k)/\vs.map (·.1)=D.map (·.1) /\
   ∀s i,D.lookup s=AA i->valueAt vs s=AA (.ref (fa i)):=by
 induction h with
 |nil=>exact⟨[],.nil,λe he=>(by cases he),rfl,λs v e=>by cases e⟩
 |@cons k i t D es h ih=>
  let⟨vs,h1,h2,h3,h5⟩:=ih;have hat:∀s,valueAt ((k,Al (fa i))::vs) s=if k=s then AA (.ref (fa i))else valueAt vs s:=λs=>by
   unfold valueAt;rw[Bp]
   by_cases e:k=s
   .simp[e]
   .simp[e]
  refine⟨(k,.ref (fa i))::vs,.cons (Do P w k t) rfl h1,λe he=>?_,by rw[AX,AX,h3],λs j e=>?_⟩
  .rcases AL.1 he with rfl|he
   .exact⟨k,Do P w k t,rfl⟩
   .exact h2 e he
  .rw[hat];erw[Bs]at e
   by_cases q:k=s
   .subst q;rw[beq_self_eq_true]at e
    cases e
    rw[if_pos rfl]
   .rw[beq_eq_false_iff_ne.2 (BP q)]at e;rw[if_neg q];exact h5 s j e
section
variable {S:Se}{X:Cx}{σ:St}{B:AJ->Prop}{φ:Ph}{H:Hp}{st:SO}{ρ:IC.Env}{pos p p1 p2 p3 p4 p5 p6 p7:Bo}{a b i e n:AT}{es:List AT}{ca cn:Ce}{ces:Ces}{x y:AO}{D:List (AO×Nat)}{ty:TE}{t:TA}{fa:Nat->AJ}{fdd:Nat->Ax}{ps:Nat->List AO}{k ix:Nat}
structure Makers(S:Se)(X:Cx)(k:Nat)(D:List (AO×Nat))(fa:Nat->AJ)(fdd:Nat->Ax)(ps:Nat->List AO):Prop where
 F:∀s j,D.lookup s=AA j->yaM X.prog X.w X.K X.mg X.base (CX1 X.prog X.w) k (fa j) (fdd j) (ps j) (spI X.K S.cl S.call j)
 kp:∀s j,D.lookup s=AA j->Au X.K (.ref (fa j))=AC
 b:∀s j,D.lookup s=AA j->Binds X.K (fdd j) (ps j) []
end
section
variable {P:Aa}{w:Am}{K:AF}{mg:AO->Option AH}{base:Aw}{cl:Nat->AJ}{T:Nat->Option IC.Fn}{fi:Nat}{fn:IC.Fn}{x qual:AO}{stm:Bc}{f:AJ}{fd:Ax}{N ps:List AO}{k m:Nat}
def ziv:yaM P w K mg base (CX1 P w) m f fd ps (spI K cl (yc T 0) fi):=
 ⟨λvs H Q E ⟨_,_,_,_,_,_,h⟩=>by rw[yc]at h;exact h.elim,λA outer s H args us vs Q E _ _ _ _ ⟨_,_,_,_,_,_,h⟩=>by rw[yc]at h;exact h.elim⟩
end
theorem yay.units{k:Nat}{A:An}(r:yay k A):A.units+64<cLine:=by have:=r.un;lia
section
variable {P:Aa}{w:Am}{K:AF}{mg:AO->Option AH}{base:Aw}{cl:Nat->AJ}{T:Nat->Option IC.Fn}{fi:Nat}{fn:IC.Fn}{x qual:AO}{stm:Bc}{f:AJ}{fd:Ax}{N ps:List AO}{k m:Nat}
def ziM(hT:T fi=AA fn)(hns:N.length=fn.ns)(hpu:fn.pure=AB){scope:BQ}{cdv:AH}{A:An}{outer:List BG}{s:AK}{vs:List V}{H:Hp}{Q:VK}(h:spI K cl (yc T (k+1)) fi vs H Q E0):
  tSs ⟨cl,yc T k,AB⟩ (ybE P w K mg base N qual scope f cdv A outer s H) fn.body {nx:=λ_ H'=>Q .non H',rt:=Q} (L2.start N vs) H:=by
 let⟨B,φ,st,args,rs,l,h⟩:=h;have hl:args.length=fn.np:=zhn (k:=k) hT args st λz=>by rw[z]at h;exact h
 have hlen:=l.length;rw[yc,hT]at h;dsimp only at h;rw[if_pos hl,hpu,if_neg (by simp)]at h;refine⟨B,φ,st,_,rs,yK.start l (fn.ns-fn.np) ∅,?_⟩;show yap _ _ _ _ _ (exs (yc T k) (args.map AA++Aj (fn.ns-fn.np) AD) st fn.body) _
 cases e:exs (yc T k) (args.map AA++Aj (fn.ns-fn.np) AD) st fn.body with
 |nx ρ' st'=>
  rw[e]at h;intro σ' H' φ' s' rs' re';exact h .non H' φ' s' rs' (by erw[yd])
 |rt v st'=>
  rw[e]at h;intro y H' φ' s' rs' rv;exact h y H' φ' s' rs' rv
 |exc c ρ' st'=>
  rw[e]at h;intro σ' φ1 H1 ev s' s1 _ ex;rcases ex with⟨π,H2,s2,φ2,I,s3,q⟩|⟨hm,_⟩|⟨hm,_⟩
  .let⟨_,cls,_,H',_,_,_,_,_,_,_,_,_,_,e1,φ',s4,r⟩:=q;exact(h H' φ' (s1.trans (s3.trans s4)) r).elim
  .cases hm
  .cases hm
 |bk ρ' st'=>rw[e]at h;exact h.elim
 |ct ρ' st'=>rw[e]at h;exact h.elim
 |bad=>rw[e]at h;exact h.elim
def znn(hT:T fi=AA fn)(F:Fun K x qual stm f fd)(Sc:yaI N ps (yu stm))(hnp:ps.length=fn.np)(hns:N.length=fn.ns)(hpu:fn.pure=AB)
  (body:∀(cdv:AH) (A:An) (outer:List BG) (s:AK) (H:Hp),yay m (A.deeper (envOfC qual (yu stm) s.heap.objs.size f cdv)) ->
   PSs (ybE P w K mg base N qual (yu stm) f cdv A outer s H) (yR stm) (tSs ⟨cl,yc T k,AB⟩ (ybE P w K mg base N qual (yu stm) f cdv A outer s H) fn.body)):
  ybS P w K mg base (m+1) f fd ps (spI K cl (yc T (k+1)) fi):=
 F.okH Sc (λvs H Q E h=>zjo hT hnp h) λcdv A outer s H vs Q hr h=>⟨_,body cdv A outer s H hr,ziM hT hns hpu h⟩
def ziQ:ybS P w K mg base m f fd ps (spI K cl (yc T 0) fi):=
 ⟨λvs H Q E ⟨_,_,_,_,_,_,h⟩=>by rw[yc]at h;exact h.elim,λA outer s H args us vs Q _ _ _ _ ⟨_,_,_,_,_,_,h⟩=>by rw[yc]at h;exact h.elim⟩
end
section
variable {S:Se}{X:Cx}{σ:St}{B:AJ->Prop}{φ:Ph}{H:Hp}{st:SO}{ρ:IC.Env}{p pos:Bo}{e:AT}{es:List AT}{ces:Ces}{fi k:Nat}{x:AO}{f:AJ}{fd:Ax}{ps:List AO}
end
end L2
namespace L2
open PySem IC
def zj5{v w:PV}{zs:List PV}(h:yP .add v w=AA (.lst zs)):∃a b,v=.lst a/\w=.lst b/\zs=a++b/\a.length+b.length<=sizeMax:=by
 unfold yP at h;split at h
 .unfold binI at h;simp at h
 .simp at h
 .simp only at h;split at h
  .cases h
  .cases h
 .simp only at h;split at h
  .unfold yel at h
   repeat' split at h
   all_goals cases h
  .cases h
 .rename_i a b;simp only at h;split at h
  .rename_i c
   cases h
   exact⟨a,b,rfl,rfl,rfl,c⟩
  .cases h
 .cases h
section
variable {S:Se}{X:Cx}{σ:St}{B:AJ->Prop}{φ φ1:Ph}{H H1:Hp}{st:SO}{ρ:IC.Env}{p pos p2 px py pt pt2:Bo}{a b c d o a' b' c' d':AT}{ca cb cc cd ce cf:Ce}{π:List (AJ×Bb)}{s:AK}{kt k2:Nat}{es:List AT}{ces:Ces}{x:AO}
def zkJ(ha:PE X a (tE S X ca))(hb:PE X b (tE S X cb)):PE X (.BinOp a .Add b pos) (tE S X (.thw (.bin .add ca cb))):=
 (zl2 zjr ha hb).imp λσ H Q ⟨B,φ,st,ρ,rs,re,h⟩=>by
  erw[ev,R.bind_assoc]at h;refine tE.bind rs re h λx H1 v st1 φ1 s1 rs1 re1 rv h1=>tE.bind rs1 re1 h1 λy H2 w st2 φ2 s2 rs2 re2 rw h2=>?_
  cases e:yP .add v w with
  |none=>rw[e]at h2;exact h2.elim
  |some z=>
   rw[e]at h2
   cases z with
   |lst zs=>
    let⟨vs,ws,rfl,rfl,rfl,c⟩:=zj5 e;have rv2:=rv.step s2;erw[yd]at rv2 rw;let⟨p,xs,rfl,r1,l1⟩:=rv2;let⟨p',ys,rfl,r2,l2⟩:=rw;have n1:=l1.length;have n2:=l2.length;refine⟨p,p',xs,ys,rfl,rfl,r1.1,r2.1,by rw[<-zB];lia,λD hD=>?_⟩;erw[toR,R.bind,ycK]at h2;exact h2 _ _ (φ2++[AA D]) (.push hD) (rs2.push hD (rs2.nB hD) ⟨_,zl,(l1.append l2).step (.push hD)⟩) (.loc_new rs2)
   |_=>exact h2.elim
end
end L2
namespace L2
open PySem PySem.Spec PyProof.Rows
section
variable {X:Cx}
def ziq{i:Int}(i0:0<=i)(i1:i<=sizeLine):(!Builtin.List.listFitsIndex i)=false:=by
 unfold Ga;have:sizeLine<=9000000000000000000:=by decide
 simp;lia
def ycS:V->List V->Hp->VK->Prop:=λx vs H Q=>∃l i xs y,x=.ref l/\vs=[.int i,y]/\H l=AA (.lst xs)/\0<=i/\i<=xs.length/\xs.length<sizeLine/\Q .non (upd H l (.lst (xs.take i.toNat++y::xs.drop i.toNat)))
def zhq:MtM X "list.insert" ycS:=by
 intro π s σ H x vs v us Q I rx rv h;let⟨l,i,xs,y,rfl,rfl,hH,i0,i1,hz,q⟩:=h
 cases rx
 let⟨u,w,rfl,ru,rw⟩:=rv.two;let⟨tk,rfl⟩:=ru;let⟨z,its,n,r,hl,e⟩:=I.lstM hH;refine Di Ek ⟨_,e,rfl⟩ F.entry_list_insert (F.args_list_insert_3 _ _ _) (AutoSeq1.list_insert_list_int_val_1 l its.toArray n i tk w (by rw[ziq i0 ∅];exact As) (by rw[A1];lia)) ⟨e,?_⟩;refine⟨.non,_,I.lset (its':=its.take i.toNat++w::its.drop i.toNat) hH e ?_ ((r.take i.toNat).append (.cons rw (r.drop i.toNat))) ?_,rfl,q⟩
 .show (its.toArray.extract 0 (if i<0 then(i+(its.toArray.size:Int)).toNat else min i.toNat its.toArray.size)).push w++its.toArray.extract (if i<0 then(i+(its.toArray.size:Int)).toNat else min i.toNat its.toArray.size)=_;rw[if_neg ∅,A1,Nat.min_eq_left ∅];apply Array.toList_inj.mp;simp;exact List.take_of_length_le (by simp)
 .rw[AM,AW,CO,DE];lia
end
end L2
namespace L2
open PySem PySem.Spec PyProof.Rows IC
section
variable {S:Se}{X:Cx}{σ:St}{B:AJ->Prop}{φ φ1:Ph}{H H1:Hp}{st:SO}{ρ:IC.Env}{p pos p2 apos:Bo}{a b c d:AT}{ca cb cc:Ce}{es:List AT}{ces:Ces}{K:AF}{cl:Nat->AJ}
def zf5(ha:PE X a (tE S X ca))(hb:PE X b (tE S X cb))(hc:PE X c (tE S X cc))(hs:starEach [b,c] X.env=[(AB,eval b X.env),(AB,eval c X.env)]:=by rfl)(hs2:starEach [c] X.env=[(AB,eval c X.env)]:=by rfl)(hbase:attributeBase a "insert" X.env (eval a X.env)=eval a X.env:=by rfl)(hline:(apos.endLine==pos.line)=true:=by rfl)(hany:((backTo pos (starEach [c] X.env)).any λx=>x.1)=false:=by rfl)
  (hfew:((backTo pos (starEach [b,c] X.env)).all (λx=>!x.1)&&(backToKw pos (keywordEach [] X.env)).all (λx=>x.1.isSome)&&decide (([b,c]:List AT).length+([]:List B7).length+(if ([]:List B7).isEmpty then 0 else 1)<30))=true:=by rfl):
  PE X (.Call (.Attribute a "insert" apos) [b,c] [] pos) (tE S X (.mth .insert ca (.cons cb (.cons cc .nil)))):=
 (zgn B6 Ek PySem.F.type_list_insert zhq ha (zak (S:=S) hb (zak (S:=S) hc zbk hs2) (by rw[hs,hs2])) hbase hfew hline (by rw[hs,hs2]) hany).imp λσ H Q ⟨B,φ,st,ρ,rs,re,h⟩=>by
  erw[ev]at h;refine tE.bind rs re h λx H1 v st1 φ1 s1 rs1 re1 rv h1=>?_;let⟨_,e1,h1⟩:=zbc h1;have t1:∃ws,yL st1 v=AA ws:=by
   erw[yao]at e1
   cases q:yL st1 v with
   |none=>rw[q]at e1;cases e1
   |some ws=>exact⟨ws,rfl⟩
  let⟨ws,t1⟩:=t1;let⟨l,xs,rfl,hl,_⟩:=zaQ rs1 rv t1;refine⟨.inl ⟨rfl,xs,hl⟩,tAs.bind rs1 re1 h1 λys H2 vs st2 φ2 s2 rs2 re2 rvs h2=>?_⟩;have rv2:=rv.step s2;rcases vs with _|⟨w,_|⟨w',_|⟨w'',t⟩⟩⟩
  .exact h2.elim
  .exact h2.elim
  .let⟨y,y',rfl,rw,rw'⟩:=rvs.two;unfold ya4 at h2;erw[yfE]at h2;split at h2
   .rename_i n;split at h2
    .rename_i zs hz;split at h2
     .rename_i k;split at h2
      .rename_i c;let⟨l',xs',e,hn,hx,lr⟩:=rs2.list rv2 hz
       cases e
       erw[yd]at rw;subst rw;have hln:=lr.length;refine⟨l,k,xs',y',rfl,rfl,hx,c.1,by lia,by have:=zic;lia,?_⟩;exact h2 _ _ φ2 (.put (AR hn)) (rs2.put hn ⟨_,zl,((lr.take k.toNat).append (show yj _ _ _ _ _ (w'::zs.drop k.toNat) (y'::xs'.drop k.toNat)by erw[yj];exact⟨y',_,rfl,rw',lr.drop k.toNat⟩)).step (.put (AR hn))⟩) (by erw[yd])
      .exact h2.elim
     .exact h2.elim
    .exact h2.elim
   .exact h2.elim
  .exact h2.elim
end
section
variable {S:Se}{X:Cx}{a b:AT}{c i:Nat}{j:Int}{f:AO}{pos tpos:Bo}
def zmz(hc:Cls X.K (S.cl c))(hn:yaq X.K (S.cl c) f)(ha:PE X a (tE S X (.var i)))(hv:PE X b (tE S X (.cst (.int j)))):
  PS X (.AugAssign (.Attribute a f tpos) .Add b pos) (tS S X (.sfl c (.var i) f (.bin .add (.fld c (.var i) f) (.cst (.int j))))):=
 (zha ha hv zm8).imp λD σ H ⟨B,φ,st,ρ,rs,re,h⟩=>by
  erw[ex,ev]at h
  cases q:ρ[i]? with
  |none=>rw[q]at h;exact h.elim
  |some o=>
   cases o with
   |none=>rw[q]at h;exact h.elim
   |some x=>
    rw[q]at h;dsimp only[R.bind]at h;refine⟨B,φ,st,ρ,rs,re,?_⟩;erw[ev,q];intro x' H1 φ1 s1 rs1 rx;have re1:=re.step s1;have h:=yap.on s1 h
    cases e:ybq c st x f with
    |none=>rw[e]at h;exact h.elim
    |some v=>
     rw[e]at h;let⟨n,fs,rfl,hn',l⟩:=zeW e;let⟨y,ks,dx,rfl,hp,hy,lr⟩:=rs1.ins rx hn';let⟨x,hx,rxv⟩:=lr.lookup.1 v l;refine⟨y,S.cl c,dx,ks,x,rfl,hy,hc,hn,hx,⟨B,φ1,st,ρ,rs1,re1,?_⟩⟩;erw[ev];intro y' H2 φ2 s2 rs2 ry;erw[yd]at ry;subst ry
     cases v with
     |int k=>
      erw[yd]at rxv;subst rxv;refine⟨k,j,rfl,rfl,?_⟩;have h:yap S X B φ1 H1 (match ybZ c st (.loc n) f (.int (k+j))with|some st3=>Fl.nx ρ st3|none=>Fl.bad) D:=h;have h:=yap.on s2 h;have rx2:=rx.step s2;let⟨y2,ks2,dx2,e2,hp2,hy2,lr2⟩:=rs2.ins rx2 hn'
      cases e2
      cases e3:ybZ c st (.loc n) f (.int (k+j))with
      |none=>rw[e3]at h;exact h.elim
      |some st4=>
       rw[e3]at h;let⟨n',fs',z,hn2,hl,rfl⟩:=zeV e3
       cases z
       rw[hn']at hn2
       cases hn2
       refine⟨dx2,ks2,hy2,by rw[<-lr2.len];exact hl,?_⟩;have s4:Step φ2 H2 φ2 (L2.upd H2 y (.ins (S.cl c) dx2 (ya3 f (.int (k+j)) ks2))):=.put (AR hp2);exact h σ _ φ2 s4 (rs2.put (o:=.ins c (ycg f (.int (k+j)) fs)) hp2 ⟨_,⟨dx2,zl⟩,(FS.put (by erw[yd]) lr2).step s4⟩) ((re1.step s2).step s4)
     |_=>exact h.elim
end
end L2
namespace HT
open PySem PySem.Spec PyProof.Rows
section
variable {prog:Aa}{w:Am}{A:An}{E:AH->AK->Prop}{s:AK}
end
end HT
namespace L2
open PySem PySem.Spec PyProof.Rows IC
section
variable {S:Se}{X:Cx}{pos p2:Bo}{e e3:AT}{te t3:TE}{a:AT}{ca c3:Ce}
theorem yj.reverse{K:AF}{cl:Nat->AJ}{B:AJ->Prop}{φ:Ph}{H:Hp}:∀{vs:List PV} {xs:List V},yj K cl B φ H vs xs->yj K cl B φ H vs.reverse xs.reverse
 |[],xs,h=>by
  erw[yj]at h;subst h;erw[List.reverse_nil,yj]
 |v::vs,xs,h=>by
  erw[yj]at h;let⟨y,ys,rfl,r,l⟩:=h;rw[Cw,Cw];exact(yj.reverse l).append (by erw[yj];exact⟨y,[],rfl,r,rfl⟩)
end
section
variable {X:Cx}{prog:Aa}{w:Am}{A:An}{E:AH->AK->Prop}{s:AK}
end
section
variable {S:Se}{X:Cx}{pos px:Bo}{a:AT}{ca:Ce}
end
section
variable {X:Cx}
def zhf{x:V}:∀{xs:List V} {us:List AH},Vals xs us->xs.all yav=AC->us.countP (eqU x)=xs.countP λy=>eqV y x
 |_,_,.nil,_=>rfl
 |y::xs,u::us,.cons r t,f=>by
  rw[Ay,AG]at f;rw[DH,DH,zdU r f.1,zhf t f.2]
def ydH:V->List V->Hp->VK->Prop:=λx vs H Q=>∃l xs y,x=.ref l/\vs=[y]/\H l=AA (.lst xs)/\yav y=AC/\xs.all yav=AC/\Q (.int (xs.countP λz=>eqV z y)) H
def zh9:MtM X "list.count" ydH:=by
 intro π s σ H x vs v us Q I rx rv h;let⟨l,xs,y,rfl,rfl,hH,fy,fs,q⟩:=h
 cases rx
 let⟨w,rfl,rw⟩:=vals1 rv;let⟨z,its,n,r,hl,e⟩:=I.lstM hH;refine Di Eu ⟨_,e,rfl⟩ F.entry_list_count (F.args_list_count_2 _ _) (SeqAt.list_countAt l its.toArray n AD #[] w (eqU y)) ⟨e,λu hu=>zbl rw fy r fs u (by simpa using hu),?_⟩;refine⟨.int _,H,I.tok _,⟨_,rfl⟩,?_⟩;rw[show its.toArray.toList=its from rfl,zhf r fs];exact q
def ydZ:V->List V->Hp->VK->Prop:=λx vs H Q=>∃l xs y j,x=.ref l/\vs=[y]/\H l=AA (.lst xs)/\yav y=AC/\xs.all yav=AC/\(∃z,xs[j]?=AA z/\eqV z y=AC)/\(∀m z,m<j->xs[m]?=AA z->eqV z y=AB)/\Q (.int (j:Nat)) H
def zeQ{xs:List V}{us:List AH}(h:Vals xs us):∀{m:Nat} {u:AH},us[m]?=AA u->∃z,xs[m]?=AA z/\RelV z u:=by
 induction h with
 |nil=>intro m u e;simp at e
 |cons r t ih=>
  intro m u e
  cases m with
  |zero=>simp at e;subst e;exact⟨_,rfl,r⟩
  |succ m=>simp at e;let⟨z,e1,e2⟩:=ih e;exact⟨z,by simpa using e1,e2⟩
def ziy:MtM X "list.index" ydZ:=by
 intro π s σ H x vs v us Q I rx rv h;let⟨l,xs,y,j,rfl,rfl,hH,fy,fs,⟨z,hz,ez⟩,hno,q⟩:=h
 cases rx
 let⟨w,rfl,rw⟩:=vals1 rv;let⟨hsz,its,n,r,hl,e⟩:=I.lstM hH;have hj:j<its.length:=by
  have:=(A2.1 hz).1;lia
 have flatAt:∀{m:Nat} {z:V},xs[m]?=AA z->yav z=true:=λ{m z} hm=>Ag.1 fs z (AR hm);have sz:sizeLine<2^63-1:=by rw[CS];decide
 refine Di Ew ⟨_,e,rfl⟩ F.entry_list_index (F.args_list_index_2 _ _) (SeqAt.list_indexAt l its.toArray n AD #[] w (eqU y) j (by simpa using hj) ∅ ?_ ?_) ⟨e,λu hu=>zbl rw fy r fs u (by simpa using hu),?_⟩
 .let⟨z',e1,r1⟩:=zeQ r (m:=j) (u:=its[j]) (by simp[hj]);rw[hz]at e1
  cases e1
  erw[Ex];rw[zdU r1 (flatAt hz)];exact ez
 .intro m hm hlt;have hm':m<its.length:=by simpa using hm
  let⟨z',e1,r1⟩:=zeQ r (m:=m) (u:=its[m]) (by simp[hm']);erw[Ex];rw[zdU r1 (flatAt e1)];exact hno m z' hlt e1
 .exact⟨.int _,H,I.tok _,⟨_,rfl⟩,q⟩
end
section
variable {S:Se}{X:Cx}{σ:St}{B:AJ->Prop}{φ φ1:Ph}{H H1:Hp}{st:SO}{ρ:IC.Env}{p pos p2 apos:Bo}{a b:AT}{ca cb:Ce}{K:AF}{cl:Nat->AJ}
def zek{v:PV}{x:V}(r:yd K cl B φ H v x)(h:IC.flat v=AC):∀{vs:List PV} {xs:List V},yj K cl B φ H vs xs->vs.all IC.flat=AC->(xs.countP λy=>eqV y x)=vs.countP λy=>peq y v
 |[],xs,l,_=>by erw[yj]at l;subst l;rfl
 |w::vs,xs,l,f=>by
  erw[yj]at l;let⟨y,ys,rfl,rw,l⟩:=l;rw[Ay,AG]at f;rw[DH,DH,zek r h l f.2,(rw.flat f.1).2 v x h r]
def zet{v:PV}{x:V}(r:yd K cl B φ H v x)(h:IC.flat v=AC):∀{vs:List PV} {xs:List V} {j:Nat},yj K cl B φ H vs xs->vs.all IC.flat=AC->ybV v vs=AA j->(∃z,xs[j]?=AA z/\eqV z x=AC)/\∀m z,m<j->xs[m]?=AA z->eqV z x=AB
 |[],xs,j,l,_,e=>by cases e
 |w::vs,xs,j,l,f,e=>by
  erw[yj]at l;let⟨y,ys,rfl,rw,l⟩:=l;rw[Ay,AG]at f;have hq:=(rw.flat f.1).2 v x h r;erw[ybV]at e;split at e
  .rename_i c
   cases e
   exact⟨⟨y,rfl,by rw[hq];exact c⟩,λm z hm=>by lia⟩
  .rename_i c
   cases e1:ybV v vs with
   |none=>rw[e1]at e;cases e
   |some i=>
    rw[e1]at e
    cases e
    let⟨q1,q2⟩:=zet r h l f.2 e1;refine⟨by simpa using q1,λm z hm hz=>?_⟩
    cases m with
    |zero=>
     simp at hz;subst hz;rw[hq];simpa using c
    |succ m=>exact q2 m z (Nat.lt_of_succ_lt_succ hm) (by simpa using hz)
def ziu(ha:PE X a (tE S X ca))(hb:PE X b (tE S X cb))(hs:starEach [b] X.env=(AB,eval b X.env)::starEach [] X.env:=by rfl)(hbase:attributeBase a "count" X.env (eval a X.env)=eval a X.env:=by rfl)(hline:(apos.endLine==pos.line)=true:=by rfl)(hany:(backTo pos (starEach [] X.env)).any (·.1)=false:=by rfl)
  (hfew:((backTo pos (starEach [b] X.env)).all (λx=>!x.1)&&(backToKw pos (keywordEach [] X.env)).all (λx=>x.1.isSome)&&decide (([b]:List AT).length+([]:List B7).length+(if ([]:List B7).isEmpty then 0 else 1)<30))=true:=by rfl):
  PE X (.Call (.Attribute a "count" apos) [b] [] pos) (tE S X (.mth .count ca (.cons cb .nil))):=
 (zgn B6 Eu PySem.F.type_list_count zh9 ha (zak (S:=S) hb zbk hs) hbase hfew hline hs hany).imp λσ H Q ⟨B,φ,st,ρ,rs,re,h⟩=>by
  erw[ev]at h;refine tE.bind rs re h λx H1 v st1 φ1 s1 rs1 re1 rv h1=>?_;let⟨_,e1,h1⟩:=zbc h1;obtain⟨ws,t1⟩:∃ws,yL st1 v=AA ws:=by
   erw[yao]at e1
   cases q:yL st1 v with
   |none=>rw[q]at e1;cases e1
   |some ws=>exact⟨ws,rfl⟩
  let⟨l,xs,rfl,hl,_⟩:=zaQ rs1 rv t1;refine⟨.inl ⟨rfl,xs,hl⟩,tAs.bind rs1 re1 h1 λys H2 vs st2 φ2 s2 rs2 re2 rvs h2=>?_⟩;have rv2:=rv.step s2;rcases vs with _|⟨w,_|⟨w',t⟩⟩
  .exact h2.elim
  .let⟨y,rfl,rw⟩:=rvs.one;unfold ya4 at h2;erw[yfD]at h2
   cases t2:yL st2 v with
   |none=>rw[t2]at h2;exact h2.elim
   |some zs=>
    rw[t2]at h2;dsimp only at h2;split at h2
    .rename_i c;rw[AG]at c;let⟨l',xs',e',hl',lr⟩:=zaQ rs2 rv2 t2
     cases e'
     let⟨q1,_⟩:=zaV rw c.1 lr c.2
     cases v with
     |loc n=>
      erw[yL]at t2;split at t2
      .rename_i zs' hz
       cases t2
       let⟨l2,xs2,e2,hn,hx,lr2⟩:=rs2.list rv2 hz
       cases e2
       let⟨q1,_⟩:=zaV rw c.1 lr2 c.2;exact⟨l,xs2,y,rfl,rfl,hx,(rw.flat c.1).1,q1,h2.ok rs2 (by erw[yd];rw[zek rw c.1 lr2 c.2])⟩
      .cases t2
     |lst zs'=>
      cases t2
      erw[yd]at rv2;let⟨a',xs2,e2,⟨hx,_,_⟩,lr2⟩:=rv2
      cases e2
      let⟨q1,_⟩:=zaV rw c.1 lr2 c.2;exact⟨l,xs2,y,rfl,rfl,hx,(rw.flat c.1).1,q1,h2.ok rs2 (by erw[yd];rw[zek rw c.1 lr2 c.2])⟩
     |_=>cases t2
    .exact h2.elim
  .exact h2.elim
def zi1(ha:PE X a (tE S X ca))(hb:PE X b (tE S X cb))(hs:starEach [b] X.env=(AB,eval b X.env)::starEach [] X.env:=by rfl)(hbase:attributeBase a "index" X.env (eval a X.env)=eval a X.env:=by rfl)(hline:(apos.endLine==pos.line)=true:=by rfl)(hany:(backTo pos (starEach [] X.env)).any (·.1)=false:=by rfl)
  (hfew:((backTo pos (starEach [b] X.env)).all (λx=>!x.1)&&(backToKw pos (keywordEach [] X.env)).all (λx=>x.1.isSome)&&decide (([b]:List AT).length+([]:List B7).length+(if ([]:List B7).isEmpty then 0 else 1)<30))=true:=by rfl):
  PE X (.Call (.Attribute a "index" apos) [b] [] pos) (tE S X (.mth .index ca (.cons cb .nil))):=
 (zgn B6 Ew PySem.F.type_list_index ziy ha (zak (S:=S) hb zbk hs) hbase hfew hline hs hany).imp λσ H Q ⟨B,φ,st,ρ,rs,re,h⟩=>by
  erw[ev]at h;refine tE.bind rs re h λx H1 v st1 φ1 s1 rs1 re1 rv h1=>?_;let⟨_,e1,h1⟩:=zbc h1;obtain⟨ws,t1⟩:∃ws,yL st1 v=AA ws:=by
   erw[yao]at e1
   cases q:yL st1 v with
   |none=>rw[q]at e1;cases e1
   |some ws=>exact⟨ws,rfl⟩
  let⟨l,xs,rfl,hl,_⟩:=zaQ rs1 rv t1;refine⟨.inl ⟨rfl,xs,hl⟩,tAs.bind rs1 re1 h1 λys H2 vs st2 φ2 s2 rs2 re2 rvs h2=>?_⟩;have rv2:=rv.step s2;rcases vs with _|⟨w,_|⟨w',t⟩⟩
  .exact h2.elim
  .let⟨y,rfl,rw⟩:=rvs.one;unfold ya4 at h2;erw[yfv]at h2
   cases t2:yL st2 v with
   |none=>rw[t2]at h2;exact h2.elim
   |some zs=>
    rw[t2]at h2;dsimp only at h2;split at h2
    .rename_i c;rw[AG]at c;split at h2
     .rename_i j hj
      cases v with
      |loc n=>
       erw[yL]at t2;split at t2
       .rename_i zs' hz
        cases t2
        let⟨l2,xs2,e2,hn,hx,lr2⟩:=rs2.list rv2 hz
        cases e2
        let⟨q1,_⟩:=zaV rw c.1 lr2 c.2;let⟨q2,q3⟩:=zet rw c.1 lr2 c.2 hj;exact⟨l,xs2,y,j,rfl,rfl,hx,(rw.flat c.1).1,q1,q2,q3,h2.ok rs2 (by erw[yd])⟩
       .cases t2
      |lst zs'=>
       cases t2
       erw[yd]at rv2;let⟨a',xs2,e2,⟨hx,_,_⟩,lr2⟩:=rv2
       cases e2
       let⟨q1,_⟩:=zaV rw c.1 lr2 c.2;let⟨q2,q3⟩:=zet rw c.1 lr2 c.2 hj;exact⟨l,xs2,y,j,rfl,rfl,hx,(rw.flat c.1).1,q1,q2,q3,h2.ok rs2 (by erw[yd])⟩
      |_=>cases t2
     .exact h2.elim
    .exact h2.elim
  .exact h2.elim
end
section
variable {S:Se}{X:Cx}{σ:St}{B:AJ->Prop}{φ:Ph}{H:Hp}{st:SO}{p pos p2 px apos:Bo}{a b c d o tg l:AT}{ca cb cc:Ce}{ct:Tg}{ss:List Bc}{cs:Css}
def ziU(ha:PE X a (tE S X ca))(hbase:attributeBase a "clear" X.env (eval a X.env)=eval a X.env:=by rfl)(hline:(apos.endLine==pos.line)=true:=by rfl):PE X (.Call (.Attribute a "clear" apos) [] [] pos) (tE S X (.mth .clear ca .nil)):=
 (zm9 B6 Eo PySem.F.type_list_clear zhG ha hbase hline).imp λσ H Q ⟨B,φ,st,ρ,rs,re,h⟩=>by
  erw[ev]at h;refine tE.bind rs re h λx H1 v st1 φ1 s1 rs1 re1 rv h1=>?_;let⟨_,e1,h1⟩:=zbc h1;erw[evs,R.bind,ya4]at h1
  cases v with
  |loc n=>
   erw[yfC]at h1;split at h1
   .rename_i zs hz;let⟨l',xs',e,hn,hx,lr⟩:=rs1.list rv hz;subst e;refine⟨.inl ⟨rfl,xs',.inl (.inl hx)⟩,l',xs',rfl,rfl,hx,?_⟩;exact h1 _ _ φ1 (.put (AR hn)) (rs1.put hn ⟨[],zl,by erw[yj]⟩) (by erw[yd])
   .exact h1.elim
  |_=>cases e1
end
end L2
namespace L2
open PySem PySem.Spec PyProof.Rows IC WK
inductive GK where
 |fn (i:Nat)|fnD (i:Nat)|cst (v:PV)|dct (D:List (AO×PV))|exc (c:Nat)|cls (c i:Nat)
structure Gs where
 g:AO->Option GK
 b:AO->Bool
 t:Ty->Bool
 fl:Nat->AO->Bool
 me:Nat->AO->Option Nat
 kb:Nat->Nat->List AO->Option (List (Option Int))
 mr:AO->Option (List (AO×Nat))
 fv:AO->Nat->Bool
 xk:Nat->Ty->Bool
 xc:Nat->AO->Bool
 xm:Nat->AO->Bool
 qf:Nat->Bool
structure Kx where
 N:List AO
 sc:BQ
 own:Bool
 h:Bool
def Fo(m:Nat)(S:Se)(X:Cx)(i:Nat)(f:AJ)(fd:Ax)(ps:List AO):Prop:=yaM X.prog X.w X.K X.mg X.base (CX1 X.prog X.w) m f fd ps (spI X.K S.cl S.call i)
structure Glo(γ:Gs)(m:Nat)(S:Se)(X:Cx):Prop where
 F:∀x i,γ.g x=AA (.fn i)->∃f fd ps,Fo m S X i f fd ps/\X.mg x=AA (.ref f)/\Au X.K (.ref f)=AC/\Binds X.K fd ps []
 Q:∀x i np ks sh,γ.g x=AA (.fnD i)->γ.kb i np ks=AA sh->∃f fd ps,Fo m S X i f fd ps/\X.mg x=AA (.ref f)/\Au X.K (.ref f)=AC/\∃g,ybv X.K fd ps ks g (gK np sh)
 C:∀x v,γ.g x=AA (.cst v)->GC X.K X.mg S.cl x v \/ ∃i,v=.int i/\GCI X.mg x i
 D:∀x d,γ.g x=AA (.dct d)->GD X.K X.w X.mg S.cl x d
 E:∀x c,γ.g x=AA (.exc c)->ycz X.K X.mg (S.cl c) x
 N:∀x c i,γ.g x=AA (.cls c i)->X.mg x=AA (.ref (S.cl c))/\∃f fd ps,Mk X.K (S.cl c) f/\Fo m S X i f fd ps/\Binds X.K fd ps []
 B:∀x,γ.b x=AC->X.mg x=AD
 T:∀t,γ.t t=AC->ye8 X.K t
 A:∀c f,γ.fl c f=AC->Cls X.K (S.cl c)/\yaq X.K (S.cl c) f
 M:∀c n i,γ.me c n=AA i->Cls X.K (S.cl c)/\∃f fd ps,Meth X.K (S.cl c) n f/\Fo m S X i f fd ps/\Binds X.K fd ps []
 K:∀y D,γ.mr y=AA D->∃fa fdd ps,Makers S X m D fa fdd ps/\GDF X.K X.w X.mg fa y D
 V:∀x i,γ.g x=AA (.fn i)->γ.fv x i=AC->X.mg x=AA (.ref (S.cl (1000+i)))
 I:∀c t,γ.xk c t=AC->ybt X.K (S.cl c)/\ycM X.K S.cl c t
 L:∀d x,γ.xc d x=AC->X.mg x=AA (.ref (S.cl d))
 H:∀c x,γ.xm c x=AC->∃W,X.mg x=AA (.ref W)/\Dm X.K (.ref (S.cl c)) (.ref W)=AA AC
 Z:∀x i,γ.g x=AA (.fn i)->γ.qf i=AC->∃f fd ps,ybS X.prog X.w X.K X.mg X.base m f fd ps (spI X.K S.cl S.call i)/\X.mg x=AA (.ref f)/\Au X.K (.ref f)=AC/\Binds X.K fd ps []
structure Good(γ:Gs)(κ:Kx)(m:Nat)(S:Se)(X:Cx):Prop where
 n:X.N=κ.N
 sc:X.env.scope=κ.sc
 calm:κ.h=AB->X.calm=AC
 room:yay (m+1) X.A
 hd:κ.h=AB->X.A.handled=AD
 own:κ.own=AC->EK (model X.prog X.w) X.A X.env X.xe/\(∀x,X.fn x=AC)/\S.may=AC
 top:κ.own=AC->(∃outer,X.stack=X.env::outer)/\X.ex=[]/\X.env.frame=AA X.env.locals
 glo:Glo γ m S X
theorem Good.rm{γ:Gs}{κ:Kx}{m:Nat}{S:Se}{X:Cx}(G:Good γ κ m S X)(h:κ.h=AB):yax (m+1) X.A:=⟨G.hd h,G.room.dp,G.room.un⟩
def zjz{k:Nat}{A:An}(r:yay k A):A.units+1<cLine:=by have:=r.units;lia
abbrev Pr(P:Prop):Type:=Option (PLift P)
abbrev YE(γ:Gs)(κ:Kx)(e:AT)(c:Ce):Prop:=∀m S X,Good γ κ m S X->PE X e (tE S X c)
abbrev YT(γ:Gs)(κ:Kx)(e:AT)(c:Ce):Prop:=∀m S X,Good γ κ m S X->PT X e (tTs S X c)
abbrev YW(γ:Gs)(κ:Kx)(e:AT)(c:Ce):Prop:=∀m S X,Good γ κ m S X->PW X e (tTs S X c)
abbrev YA(γ:Gs)(κ:Kx)(e:List AT)(c:Ces):Prop:=∀m S X,Good γ κ m S X->PA X e (tAs S X c)
abbrev YO(γ:Gs)(κ:Kx)(e:Option AT)(c:Ce):Prop:=∀m S X,Good γ κ m S X->PO X e (tO S X c)
abbrev YS(γ:Gs)(κ:Kx)(s:Bc)(c:Cs):Prop:=∀m S X,Good γ κ m S X->PS X s (tS S X c)
abbrev YSs(γ:Gs)(κ:Kx)(s:List Bc)(c:Css):Prop:=∀m S X,Good γ κ m S X->PSs X s (tSs S X c)
def an{P Q:Prop}(a:Pr P)(k:P->Pr Q):Pr Q:=match a with
 |some h=>k h.down
 |none=>AD
def ok{P:Prop}(h:P):Pr P:=AA ⟨h⟩
def ask(p:Prop)[Decidable p]:Pr p:=if h:p then AA ⟨h⟩else AD
def nst:AT->Bool
 |.Starred _ _=>AB
 |_=>AC
def zaI{a:AT}{es:List AT}{env:BG}(h:nst a=AC):starEach (a::es) env=(AB,eval a env)::starEach es env:=by
 cases a<;>first|rfl|cases h
def yb0(es:List AT):Bool:=es.all nst
theorem stars{pos:Bo}{env:BG}:∀{es:List AT},yb0 es=AC->(backTo pos (starEach es env)).any (·.1)=AB
 |[],_=>rfl
 |a::es,h=>by
  erw[yb0,Ay,AG]at h;rw[zaI h.1];have:=stars (pos:=pos) (env:=env) (es:=es) h.2;simpa [backTo] using this
def nco:AT->Bool
 |.ListComp ..=>AB
 |.SetComp ..=>AB
 |.DictComp ..=>AB
 |_=>AC
theorem swp{a:AT}{t:Option AT}{l:Nat}{env:BG}(h:nco a=AC):swapsWith a t l env=pure false:=by
 cases a<;>first|rfl|cases h
def nse:AT->Bool
 |.Set ..=>AB
 |_=>AC
theorem fse{a:AT}{env:BG}(h:nse a=AC):∀x,foldedSetIterable a env x=pure x:=by
 cases a<;>first|exact λ_=>rfl|cases h
theorem nmk{op:FM}{a:AT}(h:nse a=AC):behindInMarks op a=false:=by
 cases a<;>first|rfl|cases h
def nsl:AT->Bool
 |.Slice ..=>AB
 |_=>AC
theorem pix{a:AT}(h:nsl a=AC):ybp a:=by
 cases a<;>first|exact λ_ _=>rfl|cases h
theorem nos{a:AT}(h:nsl a=AC):yed a:=pix h
def ntu:AT->Bool
 |.Tuple ..=>AB
 |_=>AC
def nte:AT->Bool
 |.UnaryOp ..=>AB
 |.BoolOp ..=>AB
 |.IfExp ..=>AB
 |.Compare ..=>AB
 |_=>AC
theorem itr{a:AT}{env:BG}(h:nte a=AC):∀whole,isTrue a env whole=(do let v <-whole;standAt a.pos;holding [v] (truthy v)):=by
 cases a<;>first|exact λ_=>rfl|cases h
def nca:AT->Bool
 |.Call ..=>AB
 |_=>AC
def zge{a:AT}{f:AO}{env:BG}{w:Ge AH}(h:nca a=AC):attributeBase a f env w=w:=by
 cases a<;>first|rfl|cases h
def mOp(op:DN)(o:BOp):Pr (∀S X,OpR X (binaryOp op) (rT2 S X (yP o))):=
 match op,o with
 |.Add,.add=>ok (λ_ _=>zli)
 |.Sub,.sub=>ok (λ_ _=>zlu)
 |.Mult,.mul=>ok (λ_ _=>zmd)
 |.FloorDiv,.fdiv=>ok (λ_ _=>zjD)
 |.Mod,.mod=>ok (λ_ _=>zmT)
 |.Pow,.pow=>ok (λ_ _=>zl5)
 |_,_=>AD
def mCm(op:FM)(o:COp):Pr (∀m S X,yay m X.A->OpR X (compareOp op) (rT2 S X (yD o))):=
 match op,o with
 |.Eq,.eq=>ok (λ_ _ _ r=>znV r.units)
 |.NotEq,.ne=>ok (λ_ _ _ r=>znS r.units)
 |.Lt,.lt=>ok (λ_ _ _ _=>znF)
 |.LtE,.le=>ok (λ_ _ _ _=>znJ)
 |.Gt,.gt=>ok (λ_ _ _ _=>znD)
 |.GtE,.ge=>ok (λ_ _ _ _=>znx)
 |.Is,.is=>ok (λ_ _ _ _=>znK)
 |.In,.isin=>ok (λ_ _ _ _=>znG)
 |_,_=>AD
def ye6(sc:BQ)(x:AO):Bool:=match sc.names.lookup x with
 |some .local=>AC
 |some .cell=>AC
 |some .free=>AC
 |_=>AB
def zj2{sc:BQ}{x:AO}(h:ye6 sc x=AC):Vis sc x:=by
 unfold ye6 at h;split at h
 .exact .inl ‹_›
 .exact .inr (.inl ‹_›)
 .exact .inr (.inr ‹_›)
 .cases h
def yd9(sc:BQ)(x:AO):Bool:=match sc.names.lookup x with
 |some .local=>AC
 |some .cell=>AC
 |_=>AB
def zfS{sc:BQ}{x:AO}(h:yd9 sc x=AC):Loc sc x:=by
 unfold yd9 at h;split at h
 .exact .inl ‹_›
 .exact .inr ‹_›
 .cases h
def pln(x:AO):Bool:=!(x==("__debug__":AO))&&!(x==("__classdict__":AO))&&!(x==("__name__":AO))
def ze6{x:AO}(h:pln x=AC):(x==("__debug__":AO))=false:=by
 erw[pln,AG,Bk]at h;exact h.1.1
def zob{x:AO}(h:pln x=AC):(x==("__classdict__":AO))=false:=by
 erw[pln,AG,Bk]at h;exact h.1.2
def zlr{x:AO}(h:pln x=AC):x ≠ "__name__":=by
 erw[pln,AG,Bk]at h;intro e;rw[e]at h;exact absurd h.2 ⋯
def hf(κ:Kx){P:Prop}(f:κ.h=AB->Pr P):Pr P:=if h:κ.h=AB then f h else AD
def glB(κ:Kx)(x:AO):Bool:=decide (κ.sc.names.lookup x=AA .globalImplicit)&&pln x
def zT{γ:Gs}{κ:Kx}{m:Nat}{S:Se}{X:Cx}(G:Good γ κ m S X){x:AO}(h:glB κ x=AC):Gl X x:=by
 erw[glB,AG,decide_eq_true_eq]at h;show X.env.scope.names.lookup x=_;rw[G.sc];exact h.1
def zaP{κ:Kx}{x:AO}(h:glB κ x=AC):pln x=true:=by
 erw[glB,AG]at h;exact h.2
def setB(κ:Kx)(i:Nat)(x:AO):Bool:=decide (κ.N[i]?=AA x)&&decide κ.N.Nodup&&yd9 κ.sc x&&(κ.own || decide (κ.sc.names.lookup x=AA .local))&&pln x
structure yfr(X:Cx)(i:Nat)(x:AO):Prop where
 d:X.N.Nodup
 i:X.N[i]?=AA x
 l:Loc X.env.scope x
 f:X.fn x=AC \/ X.env.scope.names.lookup x=AA .local
 p:pln x=AC
def zaN{γ:Gs}{κ:Kx}{m:Nat}{S:Se}{X:Cx}(G:Good γ κ m S X){i:Nat}{x:AO}(h:setB κ i x=AC):yfr X i x:=by
 erw[setB,AG,DW,decide_eq_true_eq]at h;let⟨⟨⟨⟨h1,h2⟩,h3⟩,h4⟩,h5⟩:=h;refine⟨by rw[G.n];exact h2,by rw[G.n];exact h1,by rw[G.sc];exact zfS h3,?_,h5⟩;rcases h4 with h4|h4
 .exact .inl ((G.own h4).2.1 x)
 .exact .inr (by rw[G.sc];exact h4)
def gFn(γ:Gs)(x:AO)(i:Nat):Pr (γ.g x=AA (.fn i)):=match h:γ.g x with
 |some (.fn j)=>if e:j=i then AA ⟨by subst e;rfl⟩else AD
 |_=>AD
section
variable {γ:Gs}{κ:Kx}{ca cb cc:Ce}{ces:Ces}
def yfH(v:PV)(e:AT):Pr (YE γ κ e (.cst v)):=
 match e with
 |.Constant (.int i) _ _=>match v with
  |.int j=>an (ask (i=j)) λh=>ok (λ_ _ _ _=>by cases h;exact zjp)
  |_=>AD
 |.Constant (.bool i) _ _=>match v with
  |.bl j=>an (ask (i=j)) λh=>ok (λ_ _ _ _=>by cases h;exact znO)
  |_=>AD
 |.Constant .none _ _=>match v with
  |.non=>ok (λ_ _ _ _=>znj)
  |_=>AD
 |.Constant (.str i) _ _=>match v with
  |.str j=>an (ask (i=j)) λh=>ok (λ_ _ _ _=>by cases h;exact zmu)
  |_=>AD
 |_=>AD
def yfX(i:Nat)(e:AT):Pr (YE γ κ e (.var i)):=
 match e with
 |.Name x _=>an (ask (κ.N[i]?=AA x/\ye6 κ.sc x=AC/\pln x=AC)) λh=>ok (λ_ _ _ G=>zmS (by rw[G.n];exact h.1) (by rw[G.sc];exact zj2 h.2.1) (ze6 h.2.2) (zob h.2.2))
 |_=>AD
def yg1(o:BOp)(e:AT)(fa:∀x,Pr (YE γ κ x ca))(fb:∀x,Pr (YE γ κ x cb)):Pr (YE γ κ e (.bin o ca cb)):=
 match e with
 |.BinOp a op b _=>
  an (mOp op o) λho=>an (fa a) λha=>an (fb b) λhb=>ok (λm S X G=>zmB (ho S X) (ha m S X G) (hb m S X G))
 |_=>AD
def ygd(e:AT)(fa:∀x,Pr (YE γ κ x ca)):Pr (YE γ κ e (.neg ca)):=
 match e with
 |.UnaryOp .USub a _=>
  an (fa a) λha=>ok (λm S X G=>zjs (ha m S X G))
 |_=>AD
def ygV(e:AT)(fa:∀x,Pr (YE γ κ x ca)):Pr (YE γ κ e (.not ca)):=
 match e with
 |.UnaryOp .Not a _=>
  an (fa a) λha=>ok (λm S X G=>zmN (ha m S X G))
 |_=>AD
def ygy(o:COp)(e:AT)(fa:∀x,Pr (YE γ κ x ca))(fb:∀x,Pr (YE γ κ x cb)):Pr (YE γ κ e (.cmp o ca cb)):=
 match e with
 |.Compare a [op] [b] _=>
  an (mCm op o) λho=>an (ask (nse b=AC)) λhs=>an (fa a) λha=>an (fb b) λhb=>ok (λm S X G=>zni (ho _ S X G.room) (ha m S X G) (hb m S X G) (nmk hs))
 |_=>AD
def yer(o:COp)(e:AT)(fa:∀x,Pr (YE γ κ x ca))(fb:∀x,Pr (YE γ κ x cb)):Pr (YT γ κ e (.cmp o ca cb)):=
 match e with
 |.Compare a [op] [b] _=>
  an (mCm op o) λho=>an (ask (nse b=AC)) λhs=>an (fa a) λha=>an (fb b) λhb=>ok (λm S X G=>zno (ho _ S X G.room) (ha m S X G) (hb m S X G) (nmk hs))
 |_=>AD
theorem lmk{op op':FM}{b c:AT}(h:nse c=AC):lastMarks [op,op'] [b,c]=false:=nmk h
def yhf(o p:COp)(e:AT)(fa:∀x,Pr (YE γ κ x ca))(fb:∀x,Pr (YE γ κ x cb))(fc:∀x,Pr (YE γ κ x cc)):Pr (YE γ κ e (.chain o p ca cb cc)):=
 match e with
 |.Compare a [op,op'] [b,c] _=>
  an (mCm op o) λho=>an (mCm op' p) λhp=>an (ask (nse c=AC)) λhs=>an (fa a) λha=>an (fb b) λhb=>an (fc c) λhc=>ok (λm S X G=>zhP (ho _ S X G.room) (hp _ S X G.room) (ha m S X G) (hb m S X G) (hc m S X G) (lmk hs))
 |_=>AD
def ye7(o p:COp)(e:AT)(fa:∀x,Pr (YE γ κ x ca))(fb:∀x,Pr (YE γ κ x cb))(fc:∀x,Pr (YE γ κ x cc)):Pr (YT γ κ e (.chain o p ca cb cc)):=
 match e with
 |.Compare a [op,op'] [b,c] _=>
  an (mCm op o) λho=>an (mCm op' p) λhp=>an (ask (nse c=AC)) λhs=>an (fa a) λha=>an (fb b) λhb=>an (fc c) λhc=>ok (λm S X G=>ziH (ho _ S X G.room) (hp _ S X G.room) (ha m S X G) (hb m S X G) (hc m S X G) (lmk hs))
 |_=>AD
def yhI(e:AT)(fc:∀x,Pr (YT γ κ x cc))(fa:∀x,Pr (YE γ κ x ca))(fb:∀x,Pr (YE γ κ x cb)):Pr (YE γ κ e (.ite cc ca cb)):=
 match e with
 |.IfExp c a b _=>
  an (fc c) λhc=>an (fa a) λha=>an (fb b) λhb=>ok (λm S X G=>znc (hc m S X G) (ha m S X G) (hb m S X G))
 |_=>AD
def yhr(e:AT)(fa:∀x,Pr (YA γ κ x ces)):Pr (YE γ κ e (.tup ces)):=
 match e with
 |.Tuple es _ _=>
  an (fa es) λha=>ok (λm S X G=>zmE (ha m S X G))
 |_=>AD
def yhR(e:AT)(fa:∀x,Pr (YA γ κ x ces)):Pr (YE γ κ e (.lst ces)):=
 match e with
 |.List es _=>
  an (fa es) λha=>ok (λm S X G=>zlm (ha m S X G))
 |_=>AD
def yff(e:AT)(fa:∀x,Pr (YA γ κ x ces)):Pr (YE γ κ e (.newl ces)):=
 match e with
 |.List es _=>
  an (fa es) λha=>ok (λm S X G=>zkF (ha m S X G))
 |_=>AD
def mIdx(e:AT)(fa:∀x,Pr (YE γ κ x ca))(fb:∀x,Pr (YE γ κ x cb)):Pr (YE γ κ e (.idx ca cb)):=
 match e with
 |.Subscript a b _=>
  an (ask (nsl b=AC)) λhs=>an (fa a) λha=>an (fb b) λhb=>ok (λm S X G=>zna (ha m S X G) (hb m S X G) (pix hs))
 |_=>AD
def yf8(e:AT)(fa:∀x,Pr (YE γ κ x ca))(fb:∀x,Pr (YO γ κ x cb))(fc:∀x,Pr (YO γ κ x cc)):Pr (YE γ κ e (.slc ca cb cc)):=
 match e with
 |.Subscript a (.Slice l h AD _) _=>
  an (fa a) λha=>an (fb l) λhb=>an (fc h) λhc=>ok (λm S X G=>zl1 (ha m S X G) (hb m S X G) (hc m S X G))
 |_=>AD
def yfA(c:Ce)(e:Option AT)(fa:∀x,Pr (YE γ κ x c)):Pr (YO γ κ e c):=
 match e with
 |none=>match c with
  |.cst .non=>ok (λ_ _ _ _=>zkK)
  |_=>AD
 |some a=>
  an (fa a) λha=>ok (λm S X G=>zky (ha m S X G))
inductive Fs(γ:Gs)(κ:Kx):Ces->Type where
 |nil:Fs γ κ .nil
 |cons {c:Ce} {cs:Ces} (f:∀x,Pr (YE γ κ x c)) (r:Fs γ κ cs):Fs γ κ (.cons c cs)
def ybc:{ces:Ces}->Fs γ κ ces->(es:List AT)->Pr (YA γ κ es ces)
 |_,.nil,[]=>ok λ_ _ _ _=>zbk
 |_,.cons f r,a::es=>an (ask (nst a=AC)) λhs=>an (f a) λha=>an (ybc r es) λhr=>ok λm S X G=>zak (ha m S X G) (hr m S X G) (zaI hs)
 |_,_,_=>AD
structure Sp2(γ:Gs)(κ:Kx)(ces:Ces)(np:Nat) where
 c1:Ces
 c2:Ces
 f1:Fs γ κ c1
 f2:Fs γ κ c2
 h:ycW c1 c2=ces
 l:ycd c1=np
def ycF:(np:Nat)->{ces:Ces}->Fs γ κ ces->Option (Sp2 γ κ ces np)
 |0,ces,F=>AA ⟨.nil,ces,.nil,F,rfl,rfl⟩
 |n+1,_,.cons f r=>match ycF n r with
  |some s=>AA ⟨.cons _ s.c1,s.c2,.cons f s.f1,s.f2,by rw[ycW,s.h],by rw[ycd,s.l]⟩
  |none=>AD
 |_,_,_=>AD
structure It2(γ:Gs)(κ:Kx)(ces:Ces)(sh:List (Option Int))(kws:List B7) where
 it:List (Sum Ce Int)
 h:yas it=ces
 s:it.map shC=sh
 k:∀m S X,Good γ κ m S X->PK X kws (tK S X it)
def ybW:(sh:List (Option Int))->{ces:Ces}->Fs γ κ ces->(kws:List B7)->Option (It2 γ κ ces sh kws)
 |[],_,.nil,[]=>AA ⟨[],rfl,rfl,λ_ _ _ _=>zmZ⟩
 |none::sh,.cons c _,.cons f r,⟨_,e,_⟩ :: kws=>match f e,ybW sh r kws with
  |some h,AA q=>AA ⟨.inl c::q.it,by rw[yas,q.h],by rw[AX,q.s];rfl,λm S X G=>zn1 (h.down m S X G) (q.k m S X G)⟩
  |_,_=>AD
 |some i::sh,.cons (.cst (.int j)) _,.cons _ r,kws=>if e:i=j then match ybW sh r kws with
  |some q=>AA ⟨.inr i::q.it,by rw[yas,q.h,e],by rw[AX,q.s];rfl,λm S X G=>znH (q.k m S X G)⟩
  |none=>AD
  else AD
 |_,_,_,_=>AD
def kwN:List B7->List AO
 |[]=>[]
 |⟨AA x,_,_⟩ :: r=>x::kwN r
 |_::r=>kwN r
def kwB:List B7->Bool
 |[]=>AC
 |⟨AA _,_,_⟩ :: r=>kwB r
 |_=>AB
def zlZ{pos:Bo}{env:BG}:∀{kws:List B7},kwB kws=AC->(backToKw pos (keywordEach kws env)).all (·.1.isSome)=AC/\(backToKw pos (keywordEach kws env)).filterMap (·.1)=kwN kws/\(backToKw pos (keywordEach kws env)).any (·.1.isNone)=AB
 |[],_=>⟨rfl,rfl,rfl⟩
 |⟨AA x,e,_⟩ :: r,h=>by
  let⟨h1,h2,h3⟩:=zlZ (pos:=pos) (env:=env) (kws:=r) h;erw[backToKw]at h1 h2 h3 ⊢;erw[keywordEach,AX,Ay,CM,B8,h1,h2,h3,kwN];simp
def yf3(hκ:κ.h=AB)(i:Nat)(F:Fs γ κ ces)(e:AT):Pr (YE γ κ e (.call i ces)):=
 match e with
 |.Call (.Name x _) [] [] _=>match F with
  |.nil=>an (ask (glB κ x=AC)) λhg=>an (gFn γ x i) λhf=>ok λm S X G=>by
   let⟨f,fd,ps,h1,h2,h3,h4⟩:=G.glo.F x i hf;exact zil h1 ((G.rm hκ).mono (Cm m)) (zT G hg) h2 h3 h4 (ze6 (zaP hg))
  |_=>AD
 |.Call (.Name x _) (a::es) kws _=>an (ask (glB κ x=AC/\nst a=AC/\yb0 es=AC)) λhg=>
  match hx:γ.g x with
  |some (.fn j)=>match kws with
   |[]=>an (ask (j=i)) λhj=>an (ybc F (a::es)) λha=>ok λm S X G=>by
    subst hj;let⟨f,fd,ps,h1,h2,h3,h4⟩:=G.glo.F x j hx;exact zk0 h1 ((G.rm hκ).mono (Cm m)) (zT G hg.1) h2 h3 h4 (ha m S X G) (ze6 (zaP hg.1)) (zaI hg.2.1) (stars hg.2.2)
   |_=>AD
  |some (.fnD j)=>match hk:γ.kb j (es.length+1) (kwN kws)with
   |none=>AD
   |some sh=>match ycF (es.length+1) F with
    |none=>AD
    |some s=>match ybW sh s.f2 kws with
     |none=>AD
     |some q=>an (ask (kwB kws=AC/\j=i)) λhw=>an (ybc s.f1 (a::es)) λha=>ok λm S X G=>by
      let⟨hw,rfl⟩:=hw;let⟨f,fd,ps,h1,h2,h3,h4⟩:=G.glo.Q x j _ _ sh hx hk;rw[<-s.h,<-q.h];rw[<-q.s]at h4;have w:=λ{pos}=>zlZ (pos:=pos) (env:=X.env) hw;exact ziE h1 ((G.rm hκ).mono (Cm m)) (zT G hg.1) h2 h3 h4 s.l (ha m S X G) (q.k m S X G) w.1 w.2.1 (ze6 (zaP hg.1)) (zaI hg.2.1) (by
       rw[w.2.2,FO];exact stars (es:=a::es) (by erw[yb0,Ay,hg.2.1,A8];exact hg.2.2))
  |_=>AD
 |_=>AD
abbrev yfe(b:Blt)(x:AO):Prop:=∀S X,X.calm=AC->(∃id,yag X (.builtin id) (rB S X b)/\bootBuiltins x=AA (.builtin id)) \/ ∃T,yag X (.type T) (rB S X b)/\bootBuiltins x=AA (.type T)
def ygH(b:Blt)(x:AO):Pr (yfe b x):=
 match b with
 |.len=>an (ask (x="len")) λh=>ok λ_ _ _=>.inl ⟨_,znk,h ▸ zlD⟩
 |.int=>an (ask (x="int")) λh=>ok λ_ _ _=>.inr ⟨_,zmA,h ▸ zja⟩
 |.min=>an (ask (x="min")) λh=>ok λ_ _ c=>.inl ⟨_,zmG c,h ▸ zmO⟩
 |.max=>an (ask (x="max")) λh=>ok λ_ _ c=>.inl ⟨_,znr c,h ▸ zlS⟩
 |.tuple=>an (ask (x="tuple")) λh=>ok λ_ _ _=>.inr ⟨_,zid,h ▸ ze1⟩
 |.all=>an (ask (x="all")) λh=>ok λ_ _ c=>.inl ⟨_,zmH c,h ▸ zln⟩
 |_=>AD
def ygw(b:Blt)(F:Fs γ κ ces)(e:AT):Pr (YE γ κ e (.blt b ces)):=
 match e with
 |.Call (.Name x _) (a::es) [] _=>hf κ λhκ=>an (ask (glB κ x=AC/\nst a=AC/\yb0 es=AC/\γ.b x=AC)) λhg=>an (ygH b x) λhb=>an (ybc F (a::es)) λha=>ok λm S X G=>by
  rcases hb S X (G.calm hκ)with⟨id,h1,h2⟩|⟨T,h1,h2⟩
  .exact zly h1 (zT G hg.1) (G.glo.B x hg.2.2.2) h2 (ha m S X G) (zlr (zaP hg.1)) (ze6 (zaP hg.1)) (zaI hg.2.1) (stars hg.2.2.1)
  .exact zk2 h1 (zT G hg.1) (G.glo.B x hg.2.2.2) h2 (ha m S X G) (zlr (zaP hg.1)) (ze6 (zaP hg.1)) (zaI hg.2.1) (stars hg.2.2.1)
 |_=>AD
def yg6(b:Blt)(F:Fs γ κ ces)(e:AT):Pr (YE γ κ e (.blt b ces)):=
 match b with
 |b=>ygw b F e
def tyB(t:Ty)(x:AO):Pr (yJ t=AC/\bootBuiltins x=AA (.type (tyN t))):=
 match t with
 |.int=>an (ask (x="int")) λh=>ok ⟨rfl,h ▸ zja⟩
 |.bool=>an (ask (x="bool")) λh=>ok ⟨rfl,h ▸ zjK⟩
 |.str=>an (ask (x="str")) λh=>ok ⟨rfl,h ▸ znp⟩
 |.tuple=>an (ask (x="tuple")) λh=>ok ⟨rfl,h ▸ ze1⟩
 |_=>AD
def ygX(ts:List Ty)(e:AT)(fa:∀x,Pr (YE γ κ x ca)):Pr (YE γ κ e (.isi ca ts)):=
 match ts,e with
 |[t],.Call (.Name n _) [a,.Name x _] [] _=>an (ask (n="isinstance"/\glB κ n=AC/\γ.b n=AC/\glB κ x=AC/\γ.b x=AC/\γ.t t=AC/\nst a=AC)) λh=>an (tyB t x) λht=>an (fa a) λha=>ok λm S X G=>by
  let⟨rfl,h1,h2,h3,h4,h5,h6⟩:=h;exact zlU (G.glo.T t h5) ht.1 (zT G h1) (G.glo.B _ h2) (zT G h3) (G.glo.B _ h4) ht.2 (ha m S X G) (zlr (zaP h3)) (ze6 (zaP h3)) (zaI h6) rfl
 |_,_=>AD
mutual
noncomputable def yfm:(a b:PV)->Pr (a=b)
 |.non,.non=>ok rfl
 |.bl a,.bl b=>an (ask (a=b)) λh=>ok (by rw[h])
 |.int a,.int b=>an (ask (a=b)) λh=>ok (by rw[h])
 |.str a,.str b=>an (ask (a=b)) λh=>ok (by rw[h])
 |.tp k a,.tp j b=>an (ask (k=j)) λh=>an (yc0 a b) λg=>ok (by rw[h,g])
 |.lst a,.lst b=>an (yc0 a b) λg=>ok (by rw[g])
 |_,_=>AD
noncomputable def yc0:(a b:List PV)->Pr (a=b)
 |[],[]=>ok rfl
 |a::x,b::y=>an (yfm a b) λh=>an (yc0 x y) λg=>ok (by rw[h,g])
 |_,_=>AD
end
def eqD:(a b:List (AO×PV))->Pr (a=b)
 |[],[]=>ok rfl
 |(k,a)::x,(j,b)::y=>an (ask (k=j)) λe=>an (yfm a b) λh=>an (eqD x y) λg=>ok (by rw[e,h,g])
 |_,_=>AD
def yhc(v:PV)(e:AT):Pr (YE γ κ e (.cst v)):=
 match e with
 |.Name x _=>match h:γ.g x with
  |some (.cst u)=>an (ask (glB κ x=AC)) λhg=>an (yfm u v) λhv=>ok λm S X G=>by
   subst hv;rcases G.glo.C x u h with q|⟨i,rfl,q⟩
   .exact znM (zT G hg) q (ze6 (zaP hg))
   .exact zma (zT G hg) q (ze6 (zaP hg))
  |some (.fn i)=>match v with
   |.fnc j=>an (ask (glB κ x=AC/\γ.fv x i=AC/\i=j)) λhg=>ok λm S X G=>by
    let⟨h1,h2,rfl⟩:=hg;exact zg1 (zT G h1) (G.glo.V x i h h2) (λB φ H=>by erw[yd]) (ze6 (zaP h1))
   |_=>AD
  |_=>AD
 |e=>yfH v e
def ygS(D:List (AO×PV))(e:AT)(fb:∀x,Pr (YE γ κ x cb)):Pr (YE γ κ e (.dix D cb)):=
 match e with
 |.Subscript (.Name x _) b _=>match h:γ.g x with
  |some (.dct E)=>an (ask (glB κ x=AC/\nsl b=AC)) λhg=>an (eqD E D) λhv=>an (fb b) λhb=>ok λm S X G=>by
   subst hv;exact zm4 (zT G hg.1) (G.glo.D x E h) (hb m S X G) (nos hg.2) (ze6 (zaP hg.1))
  |_=>AD
 |_=>AD
def ygq(D:List (AO×PV))(e:AT)(fa:∀x,Pr (YE γ κ x ca)):Pr (YE γ κ e (.din ca D)):=
 match e with
 |.Compare a [.In] [.Name x _] _=>match h:γ.g x with
  |some (.dct E)=>an (ask (glB κ x=AC)) λhg=>an (eqD E D) λhv=>an (fa a) λha=>ok λm S X G=>by
   subst hv;exact znb (zT G hg) (G.glo.D x E h) (ha m S X G) rfl (ze6 (zaP hg))
  |_=>AD
 |_=>AD
def zoc{pos:Bo}{env:BG}:∀{es:List AT},yb0 es=AC->((backTo pos (starEach es env)).all λx=>!x.1)=AC
 |[],_=>rfl
 |a::es,h=>by
  erw[yb0,Ay,AG]at h;have:=zoc (pos:=pos) (env:=env) (es:=es) h.2;erw[backTo]at this ⊢;rw[zaI h.1,AX,Ay,this];rfl
def zi8{o:AT}{n:AO}{ap pos:Bo}{es:List AT}{env:BG}(hb:nca o=AC)(hs:yb0 es=AC)(hn:es.length<30)(hl:(ap.endLine==pos.line)=AC):
  eval (.Call (.Attribute o n ap) es [] pos) env=(do
   let ov <-eval o env
   standAt ap.atName
   let (f,first) <-holding [ov] (getMethod ov n (do return (<-importBound o env).getD AC))
   callWith pos f first (backTo pos (starEach es env)) (backToKw pos (keywordEach [] env))):=by
 have hf:methodCallForm (es.length+([]:List B7).length) (backTo pos (starEach es env)) (backToKw pos (keywordEach [] env))=true:=by
  erw[methodCallForm,zoc hs,A8];simp[backToKw,keywordEach,hn]
 rw[arm_eval_Call,zge hb];erw[methodCall,calleeOf,methodCallPos,hf,hl,if_true,CZ,Bool.or_true,pure_bind]
def yhJ(c:Nat)(f:AO)(e:AT)(fa:∀x,Pr (YE γ κ x ca)):Pr (YE γ κ e (.fld c ca f)):=
 match e with
 |.Attribute a g _=>an (ask (g=f/\γ.fl c f=AC/\nca a=AC)) λh=>an (fa a) λha=>ok λm S X G=>by
  let⟨rfl,h1,h2⟩:=h;exact zmj (G.glo.A c g h1).1 (G.glo.A c g h1).2 (ha m S X G) (zge h2)
 |_=>AD
def ygh(hκ:κ.h=AB)(c i:Nat)(F:Fs γ κ ces)(e:AT):Pr (YE γ κ e (.new c i ces)):=
 match e with
 |.Call (.Name x _) (a::es) [] _=>match h:γ.g x with
  |some (.cls c' i')=>an (ask (c'=c/\i'=i/\glB κ x=AC/\nst a=AC/\yb0 es=AC)) λhg=>an (ybc F (a::es)) λha=>ok λm S X G=>by
   let⟨rfl,rfl,h1,h2,h3⟩:=hg;let⟨q,f,fd,ps,q1,q2,q3⟩:=G.glo.N x c' i' h;exact zlx q1 q2 (G.rm hκ) (zT G h1) q q3 (ha m S X G) (ze6 (zaP h1)) (zaI h2) (stars h3)
  |_=>AD
 |_=>AD
def ygF(hκ:κ.h=AB)(c i:Nat)(n:AO)(F:Fs γ κ ces)(e:AT)(fa:∀x,Pr (YE γ κ x ca)):Pr (YE γ κ e (.mcl c i n ca ces)):=
 match e with
 |.Call (.Attribute (.Name x p) n' ap) [] [] pos=>match F with
  |.nil=>an (ask (n'=n/\γ.me c n=AA i/\(ap.endLine==pos.line)=AC)) λh=>an (fa (.Name x p)) λho=>ok λm S X G=>by
   let⟨rfl,h1,h4⟩:=h;let⟨q,f,fd,ps,q1,q2,q3⟩:=G.glo.M c n' i h1;exact zkM q q1 q2 ((G.rm hκ).mono (Cm m)) q3 (ho m S X G) (zi8 rfl rfl (Nat.zero_lt_succ _) h4)
  |_=>AD
 |.Call (.Attribute (.Name x p) n' ap) (a::es) [] pos=>an (ask (n'=n/\γ.me c n=AA i/\nst a=AC/\yb0 es=AC/\(ap.endLine==pos.line)=AC/\(a::es).length<30)) λh=>an (fa (.Name x p)) λho=>an (ybc F (a::es)) λha=>ok λm S X G=>by
  let⟨rfl,h1,h2,h3,h4,h5⟩:=h;let⟨q,f,fd,ps,q1,q2,q3⟩:=G.glo.M c n' i h1;exact zls q q1 q2 ((G.rm hκ).mono (Cm m)) q3 (ho m S X G) (ha m S X G) (zaI h2) (stars h3) (zi8 rfl (by erw[yb0,Ay,h2,A8];exact h3) h5 h4)
 |_=>AD
def ziP{pos:Bo}{env:BG}{b:AT}(h:nst b=AC):((backTo pos (starEach [b] env)).all (λx=>!x.1)&&(backToKw pos (keywordEach [] env)).all (λx=>x.1.isSome)&&decide (([b]:List AT).length+([]:List B7).length+(if ([]:List B7).isEmpty then 0 else 1)<30))=true:=by
 rw[zaI h];rfl
def yhe(k:Mth)(F:Fs γ κ ces)(e:AT)(fa:∀x,Pr (YE γ κ x ca)):Pr (YE γ κ e (.mth k ca ces)):=
 match k,e,F with
 |.append,.Call (.Attribute a n ap) [b] [] pos,.cons fb .nil=>an (ask (n="append"/\nca a=AC/\nst b=AC/\(ap.endLine==pos.line)=AC)) λh=>an (fa a) λha=>an (fb b) λhb=>ok λm S X G=>by
  let⟨rfl,h1,h2,h3⟩:=h;exact zhb (ha m S X G) (hb m S X G) (zaI h2) (zge h1) h3 (ziP h2)
 |.extend,.Call (.Attribute a n ap) [b] [] pos,.cons fb .nil=>an (ask (n="extend"/\nca a=AC/\nst b=AC/\(ap.endLine==pos.line)=AC)) λh=>an (fa a) λha=>an (fb b) λhb=>ok λm S X G=>by
  let⟨rfl,h1,h2,h3⟩:=h;exact zfL (ha m S X G) (hb m S X G) (zaI h2) (zge h1) h3 (ziP h2)
 |.get,.Call (.Attribute a n ap) [b,c] [] pos,.cons fb (.cons fc .nil)=>an (ask (n="get"/\nca a=AC/\nst b=AC/\nst c=AC/\(ap.endLine==pos.line)=AC)) λh=>an (fa a) λha=>an (fb b) λhb=>an (fc c) λhc=>ok λm S X G=>by
  let⟨rfl,h1,h2,h4,h3⟩:=h;exact zlk (zjz G.room) (ha m S X G) (hb m S X G) (hc m S X G) ⟨zge h1,by rw[zaI h2,zaI h4];rfl,h3,by rw[zaI h2,zaI h4];rfl⟩
 |.insert,.Call (.Attribute a n ap) [b,c] [] pos,.cons fb (.cons fc .nil)=>an (ask (n="insert"/\nca a=AC/\nst b=AC/\nst c=AC/\(ap.endLine==pos.line)=AC)) λh=>an (fa a) λha=>an (fb b) λhb=>an (fc c) λhc=>ok λm S X G=>by
  let⟨rfl,h1,h2,h4,h3⟩:=h;exact zf5 (ha m S X G) (hb m S X G) (hc m S X G) (by rw[zaI h2,zaI h4];rfl) (by rw[zaI h4];rfl) (zge h1) h3 (by rw[zaI h4];rfl) (by rw[zaI h2,zaI h4];rfl)
 |.clear,.Call (.Attribute a n ap) [] [] pos,.nil=>an (ask (n="clear"/\nca a=AC/\(ap.endLine==pos.line)=AC)) λh=>an (fa a) λha=>ok λm S X G=>by
  let⟨rfl,h1,h3⟩:=h;exact ziU (ha m S X G) (zge h1) h3
 |.count,.Call (.Attribute a n ap) [b] [] pos,.cons fb .nil=>an (ask (n="count"/\nca a=AC/\nst b=AC/\(ap.endLine==pos.line)=AC)) λh=>an (fa a) λha=>an (fb b) λhb=>ok λm S X G=>by
  let⟨rfl,h1,h2,h3⟩:=h;exact ziu (ha m S X G) (hb m S X G) (zaI h2) (zge h1) h3 rfl (ziP h2)
 |.index,.Call (.Attribute a n ap) [b] [] pos,.cons fb .nil=>an (ask (n="index"/\nca a=AC/\nst b=AC/\(ap.endLine==pos.line)=AC)) λh=>an (fa a) λha=>an (fb b) λhb=>ok λm S X G=>by
  let⟨rfl,h1,h2,h3⟩:=h;exact zi1 (ha m S X G) (hb m S X G) (zaI h2) (zge h1) h3 rfl (ziP h2)
 |_,_,_=>AD
def ygi(e:AT)(fa:∀x,Pr (YE γ κ x ca))(fb:∀x,Pr (YE γ κ x cb)):Pr (YE γ κ e (.nin ca cb)):=
 match e with
 |.Compare a [.NotIn] [b] _=>an (ask (behindInMarks .NotIn b=AB)) λh=>an (fa a) λha=>an (fb b) λhb=>ok λm S X G=>zmI G.room.units (ha m S X G) (hb m S X G) h
 |_=>AD
def ye5(e:AT)(fa:∀x,Pr (YE γ κ x ca))(fb:∀x,Pr (YE γ κ x cb)):Pr (YT γ κ e (.nin ca cb)):=
 match e with
 |.Compare a [.NotIn] [b] _=>an (ask (behindInMarks .NotIn b=AB)) λh=>an (fa a) λha=>an (fb b) λhb=>ok λm S X G=>zlJ G.room.units (ha m S X G) (hb m S X G) h
 |_=>AD
def yhy(e:AT)(fa:∀x,Pr (YE γ κ x ca)):Pr (YE γ κ e (.thw (.blt .list (.cons ca .nil)))):=
 match e with
 |.Call (.Name x _) [a] [] _=>an (ask (x="list"/\glB κ x=AC/\nst a=AC/\γ.b x=AC)) λh=>an (fa a) λha=>ok λm S X G=>by
  let⟨rfl,h1,h2,h3⟩:=h;exact ziV (zT G h1) (G.glo.B _ h3) zkI (zak (ha m S X G) zbk (zaI h2)) (zaI h2) rfl
 |_=>AD
def ye2(e:AT)(fa:∀x,Pr (YE γ κ x ca))(fb:∀x,Pr (YE γ κ x cb)):Pr (YE γ κ e (.thw (.bin .add ca cb))):=
 match e with
 |.BinOp a .Add b _=>an (fa a) λha=>an (fb b) λhb=>ok λm S X G=>zkJ (ha m S X G) (hb m S X G)
 |_=>AD
def mCn(t:Ty)(e:AT):Pr (∀m S X,Good γ κ m S X->PE X e (tC (ybO S.cl t))):=
 match t,e with
 |.cls d,.Name y _=>an (ask (γ.xc d y=AC/\glB κ y=AC)) λh=>ok λm S X G=>zmY (zT G h.2) (G.glo.L d y h.1) (ze6 (zaP h.2))
 |.val,.Name y _=>an (ask (y="ValueError"/\γ.b y=AC/\glB κ y=AC)) λh=>ok λm S X G=>by
  let⟨rfl,h1,h2⟩:=h;exact zmp (zT G h2) (G.glo.B _ h1)
 |_,_=>AD
def mNs:(ts:List Ty)->(es:List AT)->Pr (∀m S X,Good γ κ m S X->PA X es (tNs (ts.map (ybO S.cl))))
 |[],[]=>ok λ_ _ _ _=>zlN
 |t::ts,e::es=>an (ask (nst e=AC)) λh=>an (mCn t e) λhe=>an (mNs ts es) λhr=>ok λm S X G=>zkT (he m S X G) (hr m S X G) (zaI h)
 |_,_=>AD
def xkB(γ:Gs)(cs:List Nat)(ts:List Ty):Bool:=cs.all λc=>ts.all λt=>γ.xk c t
def zi6{γ:Gs}{m:Nat}{S:Se}{X:Cx}(G:Glo γ m S X){cs:List Nat}{ts:List Ty}(h:xkB γ cs ts=AC)(hn:ts≠[]):∀c∈cs,ybt X.K (S.cl c)/\∀t∈ts,ycM X.K S.cl c t:=λc hc=>by
 erw[xkB,Ag]at h;refine⟨?_,λt ht=>(G.I c t (h c hc t ht)).2⟩
 cases ts with
 |nil=>exact absurd rfl hn
 |cons t ts=>exact(G.I c t (h c hc t A7)).1
def yhF(cs:List Nat)(ts:List Ty)(e:AT)(fa:∀x,Pr (YE γ κ x ca)):Pr (YE γ κ e (.isx ca cs ts)):=
 match e with
 |.Call (.Name x _) [a,.Tuple es _ _] [] _=>an (ask (x="isinstance"/\glB κ x=AC/\γ.b x=AC/\nst a=AC/\xkB γ cs ts=AC/\ts.length<=1000/\ts≠[])) λh=>an (fa a) λha=>an (mNs (γ:=γ) (κ:=κ) ts es) λhn=>ok λm S X G=>by
  let⟨rfl,h1,h2,h3,h4,h5,h6⟩:=h;exact zlg (zi6 G.glo h4 h6) h5 (zT G h1) (G.glo.B _ h2) (hn m S X G) (ha m S X G) (zaI h3) rfl rfl
 |.Call (.Name x _) [a,.Name y py] [] _=>match ts with
  |[t]=>an (ask (x="isinstance"/\glB κ x=AC/\γ.b x=AC/\nst a=AC/\xkB γ cs [t]=AC)) λh=>an (fa a) λha=>an (mCn (γ:=γ) (κ:=κ) t (.Name y py)) λhn=>ok λm S X G=>by
   let⟨rfl,h1,h2,h3,h4⟩:=h;exact zlY (λc hc=>let z:=zi6 G.glo h4 (by simp) c hc;⟨z.1,z.2 t A7⟩) (zT G h1) (G.glo.B _ h2) (hn m S X G) (ha m S X G) (zaI h3) rfl rfl
  |_=>AD
 |_=>AD
end
structure Ev(γ:Gs)(c:Ce) where
 e:∀κ x,Pr (YE γ κ x c)
 t:∀κ x,Pr (YT γ κ x c)
 w:∀κ op l pos,Pr (YW γ κ (.BoolOp op l pos) c)
section
variable {γ:Gs}{ca cb cc:Ce}
def w1{c:Ce}(t:∀κ x,Pr (YT γ κ x c))(κ:Kx)(op:Gu)(l:List AT)(pos:Bo):Pr (YW γ κ (.BoolOp op l pos) c):=
 match op,l with
 |.And,[a]=>an (t κ a) λh=>ok λm S X G=>zkt (h m S X G)
 |.Or,[a]=>an (t κ a) λh=>ok λm S X G=>zns (h m S X G)
 |_,_=>AD
def plT{c:Ce}(e:∀κ x,Pr (YE γ κ x c))(κ:Kx)(x:AT):Pr (YT γ κ x c):=an (ask (nte x=AC)) λh=>an (e κ x) λhe=>ok λm S X G=>zme (he m S X G) (itr h)
def plain{c:Ce}(e:∀κ x,Pr (YE γ κ x c)):Ev γ c:=⟨e,plT e,w1 (plT e)⟩
def yct{c:Ce}(e:∀κ x,Pr (YE γ κ x c))(t:∀κ x,Pr (YT γ κ x c)):Ev γ c:=⟨e,t,w1 t⟩
def ygJ(A:Ev γ ca)(κ:Kx)(e:AT):Pr (YT γ κ e (.not ca)):=
 match e with
 |.UnaryOp .Not a _=>an (A.t κ a) λh=>ok λm S X G=>zne (h m S X G)
 |_=>AD
def yge(A:Ev γ ca)(B:Ev γ cb)(κ:Kx)(e:AT):Pr (YE γ κ e (.and ca cb)):=
 match e with
 |.BoolOp .And (a::b::[]) _=>an (A.e κ a) λha=>an (B.e κ b) λhb=>ok λm S X G=>zji (ha m S X G) (zi7 (hb m S X G))
 |.BoolOp .And (a::b::c::r) p=>an (A.e κ a) λha=>an (B.e κ (.BoolOp .And (b::c::r) p)) λhb=>ok λm S X G=>zji (ha m S X G) (hb m S X G)
 |_=>AD
def orE(A:Ev γ ca)(B:Ev γ cb)(κ:Kx)(e:AT):Pr (YE γ κ e (.or ca cb)):=
 match e with
 |.BoolOp .Or (a::b::[]) _=>an (A.e κ a) λha=>an (B.e κ b) λhb=>ok λm S X G=>zlP (ha m S X G) (zi7 (hb m S X G))
 |.BoolOp .Or (a::b::c::r) p=>an (A.e κ a) λha=>an (B.e κ (.BoolOp .Or (b::c::r) p)) λhb=>ok λm S X G=>zlP (ha m S X G) (hb m S X G)
 |_=>AD
def yeB(A:Ev γ ca)(B:Ev γ cb)(κ:Kx)(op:Gu)(l:List AT)(pos:Bo):Pr (YW γ κ (.BoolOp op l pos) (.and ca cb)):=
 match op,l with
 |.And,a::b::r=>an (A.t κ a) λha=>an (B.w κ .And (b::r) pos) λhb=>ok λm S X G=>zm3 (ha m S X G) (hb m S X G)
 |_,_=>AD
def orW(A:Ev γ ca)(B:Ev γ cb)(κ:Kx)(op:Gu)(l:List AT)(pos:Bo):Pr (YW γ κ (.BoolOp op l pos) (.or ca cb)):=
 match op,l with
 |.Or,a::b::r=>an (A.t κ a) λha=>an (B.w κ .Or (b::r) pos) λhb=>ok λm S X G=>znR (ha m S X G) (hb m S X G)
 |_,_=>AD
def ptW{c:Ce}(w:∀κ op l pos,Pr (YW γ κ (.BoolOp op l pos) c))(κ:Kx)(e:AT):Pr (YT γ κ e c):=
 match e with
 |.BoolOp op l p=>an (w κ op l p) λh=>ok λm S X G=>PW.pt (h m S X G)
 |_=>AD
def yfZ{c:Ce}(t:∀κ x,Pr (YT γ κ x c))(w:∀κ op l pos,Pr (YW γ κ (.BoolOp op l pos) c))(κ:Kx)(op:Gu)(l:List AT)(pos:Bo):Pr (YW γ κ (.BoolOp op l pos) c):=
 match l with
 |[a]=>w1 t κ op [a] pos
 |l=>w κ op l pos
def yfn(A:Ev γ ca)(B:Ev γ cb):Ev γ (.and ca cb):=⟨yge A B,ptW (yeB A B),yfZ (ptW (yeB A B)) (yeB A B)⟩
def yhi(A:Ev γ ca)(B:Ev γ cb):Ev γ (.or ca cb):=⟨orE A B,ptW (orW A B),yfZ (ptW (orW A B)) (orW A B)⟩
end
abbrev YI(γ:Gs)(κ:Kx)(tg l:AT)(c:Cit):Prop:=∀m S X,Good γ κ m S X->PI X tg l (tI S X c)
abbrev YG(γ:Gs)(κ:Kx)(tg:AT)(c:Tg):Prop:=∀m S X,Good γ κ m S X->PG X tg (tG S X c)
section
variable {γ:Gs}{κ:Kx}{ca cb cc ce:Ce}{ci:Cit}
def yhz(e:∀x,Pr (YE γ κ x ca))(tg l:AT):Pr (YI γ κ tg l (.seq ca)):=an (e l) λh=>ok λm S X G=>zl3 (h m S X G)
def iR1(fa:∀x,Pr (YE γ κ x ca))(tg l:AT):Pr (YI γ κ tg l (.range1 ca)):=
 match l with
 |.Call (.Name x _) [a] [] _=>an (ask (x="range"/\glB κ x=AC/\γ.b x=AC/\nst a=AC)) λh=>an (fa a) λha=>ok λm S X G=>by
  let⟨rfl,h1,h2,h3⟩:=h;exact zfY (zT G h1) (G.glo.B _ h2) (ha m S X G) (zaI h3)
 |_=>AD
def yeF(fa:∀x,Pr (YE γ κ x ca))(tg l:AT):Pr (YI γ κ tg l (.enum ca)):=
 match tg,l with
 |.Tuple _ _ _,.Call (.Name x _) [a] [] _=>an (ask (x="enumerate"/\glB κ x=AC/\γ.b x=AC/\nst a=AC)) λh=>an (fa a) λha=>ok λm S X G=>by
  let⟨rfl,h1,h2,h3⟩:=h;exact zj4 (zT G h1) (G.glo.B _ h2) (ha m S X G) (zaI h3)
 |_,_=>AD
def ygB(fa:∀x,Pr (YE γ κ x ca))(fb:∀x,Pr (YE γ κ x cb))(tg l:AT):Pr (YI γ κ tg l (.zip ca cb)):=
 match tg,l with
 |.Tuple _ _ _,.Call (.Name x _) [a,b] [] _=>an (ask (x="zip"/\glB κ x=AC/\γ.b x=AC/\nst a=AC/\nst b=AC)) λh=>an (fa a) λha=>an (fb b) λhb=>ok λm S X G=>by
  let⟨rfl,h1,h2,h3,h4⟩:=h;exact zng (zT G h1) (G.glo.B _ h2) (ha m S X G) (hb m S X G) (by rw[zaI h3,zaI h4];rfl) (zaI h4)
 |_,_=>AD
def gNm(κ:Kx):(l:List Nat)->(es:List AT)->Pr (∀m S X,Good γ κ m S X->PGs X es (gNs l)/\(assignEach es X.env).length=l.length/\(assignEach es X.env).findIdx? (·.1)=AD)
 |[],[]=>ok λ_ _ _ _=>⟨zjT,rfl,rfl⟩
 |i::l,.Name x _::es=>an (ask (setB κ i x=AC)) λh=>an (gNm κ l es) λhr=>ok λm S X G=>by
  have s:=zaN G h;let⟨h1,h2,h3⟩:=hr m S X G;refine⟨ziA s.d s.i s.l h1 s.f,?_,?_⟩
  .simp only[assignEach,AW,h2]
  .simp only[assignEach,List.findIdx?_cons,h3];rfl
 |_,_=>AD
def mTg(ct:Tg)(tg:AT):Pr (YG γ κ tg ct):=
 match ct,tg with
 |.n i,.Name x _=>an (ask (setB κ i x=AC)) λh=>ok λm S X G=>let s:=zaN G h;zke s.d s.i s.l s.f
 |.t l,.Tuple es _ _=>hf κ λhκ=>an (gNm κ l es) λh=>ok λm S X G=>zmR (G.calm hκ) (h m S X G).1 (h m S X G).2.1 (h m S X G).2.2
 |_,_=>AD
def tgN:AT->List AO
 |.Name x _=>[x]
 |.Tuple es _ _=>es.filterMap fun
  |.Name x _=>AA x
  |_=>AD
 |_=>[]
def ydw(N:List AO)(sl:List (Option Nat))(tg:AT):List Str:=tgN tg++(sl.drop (tgN tg).length).filterMap λo=>o.bind λj=>N[j]?
def ycs(sc so:BQ):Scope:={sc with names:=sc.names.map λ(n,k)=>if (k==CY&&so.kind==.function&&so.names.lookup n==AA .cell)then(n,FP)else(n,k)}
def yV(N:List AO)(so sc:BQ)(NC:List AO)(sl:List (Option Nat)):Bool:=
 decide (sc.kind=.function)&&(sc.names.all λy=>y.2 != .local || decide (sc.names.lookup y.1=AA .local))&&(sc.names.all λy=>y.2 != .cell)&&(sc.names.all λy=>y.2 != .free || decide (so.names.lookup y.1=AA .cell)) &&
  ((NC.zip sl).all λp=>p.2.all λj=>decide (N[j]?=AA p.1/\sc.names.lookup p.1=AA .free))&&decide (sl.length=NC.length)
def zie{X:Cx}{sc:BQ}{NC:List AO}{sl:List (Option Nat)}(h:yV X.N X.env.scope sc NC sl=AC):yaf X sc NC sl:=by
 erw[yV,AG,decide_eq_true_eq,Ag,DW,bne_iff_ne,ne_eq]at h;let⟨⟨⟨⟨⟨h1,h2⟩,h3⟩,h4⟩,h5⟩,h6⟩:=h;exact zow _ _ rfl rfl h1 (λy hy e=>(h2 y hy).resolve_left λz=>z e) h3 (λy hy e=>(h4 y hy).resolve_left λz=>z e) (λp hp=>by simpa using h5 p hp) h6
theorem Good.comp{m:Nat}{S:Se}{X:Cx}(G:Good γ κ m S X)(sc:BQ)(NC:List AO)(j:CI):Good γ ⟨NC,ycs sc κ.sc,AB,κ.h⟩ m S (cxC X sc NC j):=by
 refine⟨rfl,?_,G.calm,G.room,G.hd,(λh=>nomatch h),(λh=>nomatch h),⟨G.glo.F,G.glo.Q,G.glo.C,G.glo.D,G.glo.E,G.glo.N,G.glo.B,G.glo.T,G.glo.A,G.glo.M,λy D h=>let ⟨fa,fdd,ps,M,d⟩:=G.glo.K y D h;⟨fa,fdd,ps,⟨M.F,M.kp,M.b⟩,d⟩,G.glo.V,G.glo.I,G.glo.L,G.glo.H,G.glo.Z⟩⟩;show relabel sc X.env=_;rw[<-G.sc];rfl
def yf6(c:Ce)(f:∀x,Pr (YT γ κ x c))(ifs:List AT):Pr (∀m S X,Good γ κ m S X->PTs X ifs (tT0 S X.K c)):=
 match ifs with
 |[]=>match c with
  |.cst (.bl AC)=>ok λ_ _ _ _=>zhX
  |_=>AD
 |[a]=>an (f a) λh=>ok λm S X G=>zkR rfl (h m S X G)
 |_=>AD
structure ycX(γ:Gs)(κ:Kx)(sl:List (Option Nat))(ct:Tg)(ci:Cit)(cc ce:Ce)(elt tg it:AT)(ifs:List AT)(sc:BQ):Prop where
 q:∀m S X,Good γ κ m S X->∃NC,yaf X sc NC sl/\PI X tg it (tI S X ci)/\(∀j,PG (cxC X sc NC j) tg (tG0 S X.K ct))/\(∀j,PTs (cxC X sc NC j) ifs (tT0 S X.K cc))/\∀j,PE (cxC X sc NC j) elt (tE0 S X.K ce)
 f:yal ct sl=AC
 s:nse it=AC
def mCo(sl:List (Option Nat))(ct:Tg)(fi:∀tg l,Pr (YI γ κ tg l ci))(C:Ev γ cc)(E:Ev γ ce)(elt tg it:AT)(ifs:List AT)(sc:BQ):Pr (ycX γ κ sl ct ci cc ce elt tg it ifs sc):=
 an (ask (yV κ.N κ.sc sc (ydw κ.N sl tg) sl=AC/\yal ct sl=AC/\nse it=AC)) λh=>an (fi tg it) λhi=>an (mTg (γ:=γ) (κ:=⟨ydw κ.N sl tg,ycs sc κ.sc,AB,κ.h⟩) ct tg) λhg=>
  an (yf6 (γ:=γ) (κ:=⟨ydw κ.N sl tg,ycs sc κ.sc,AB,κ.h⟩) cc (C.t _) ifs) λht=>an (E.e ⟨ydw κ.N sl tg,ycs sc κ.sc,AB,κ.h⟩ elt) λhe=>ok ⟨λm S X G=>⟨ydw κ.N sl tg,by
   rw[<-G.n,<-G.sc]at h;rw[<-G.n];exact zie h.1,hi m S X G,λj=>zkX rfl (hg m S _ (G.comp sc _ j)),λj=>ht m S _ (G.comp sc _ j),λj=>zj6 rfl (he m S _ (G.comp sc _ j))⟩,h.2.1,h.2.2⟩
def yev(sl:List (Option Nat))(ct:Tg)(fi:∀tg l,Pr (YI γ κ tg l ci))(C:Ev γ cc)(E:Ev γ ce)(e:AT):Pr (YE γ κ e (.comp sl ct ci cc ce)):=
 match e with
 |.ListComp elt [⟨tg,it,ifs,0⟩] sc _=>hf κ λhκ=>an (mCo sl ct fi C E elt tg it ifs sc) λh=>ok λm S X G=>by
  let⟨NC,h1,h2,h3,h4,h5⟩:=h.q m S X G;exact zk3 (G.calm hκ) h1 h.f h2 h3 h4 h5 (fse h.s)
 |_=>AD
end
section
variable {γ:Gs}{κ:Kx}
def mPp:(kvs:List (AO×Int))->(ks:List (Option AT))->(vs:List AT)->Pr (∀X pos,PPs X pos ks vs (trC kvs))
 |[],[],[]=>ok λ_ _=>zmF
 |(x,i)::r,AA (.Constant (.str y) _ _)::ks,.Constant (.int j) _ _::vs=>an (ask (y=x/\j=i)) λh=>an (mPp r ks vs) λhr=>ok λX pos=>by
  let⟨rfl,rfl⟩:=h;exact zkW (hr X pos)
 |_,_,_=>AD
def yew(kvs:List (AO×Int))(e:AT):Pr (YE γ κ e (.newd kvs)):=
 match e with
 |.Dict ks vs pos=>an (mPp kvs ks vs) λh=>an (ask (ks.all (·.isSome)=AC/\ks.length=vs.length/\ks.length≠0/\ks.length<=15)) λq=>ok λm S X G=>zj9 (h X pos) q.1 q.2.1 (λz=>q.2.2.1 (by rw[z];rfl)) q.2.2.2
 |_=>AD
end
mutual
noncomputable def ch(γ:Gs):(c:Ce)->Ev γ c
 |.cst v=>plain λκ x=>yhc v x
 |.var i=>plain λκ x=>yfX i x
 |.bin o a b=>plain λκ x=>yg1 o x ((ch γ a).e κ) ((ch γ b).e κ)
 |.neg a=>plain λκ x=>ygd x ((ch γ a).e κ)
 |.not a=>yct (λκ x=>ygV x ((ch γ a).e κ)) (ygJ (ch γ a))
 |.and a b=>yfn (ch γ a) (ch γ b)
 |.or a b=>yhi (ch γ a) (ch γ b)
 |.cmp o a b=>yct (λκ x=>ygy o x ((ch γ a).e κ) ((ch γ b).e κ)) (λκ x=>yer o x ((ch γ a).e κ) ((ch γ b).e κ))
 |.chain o p a b c=>yct (λκ x=>yhf o p x ((ch γ a).e κ) ((ch γ b).e κ) ((ch γ c).e κ)) (λκ x=>ye7 o p x ((ch γ a).e κ) ((ch γ b).e κ) ((ch γ c).e κ))
 |.ite c a b=>plain λκ x=>yhI x ((ch γ c).t κ) ((ch γ a).e κ) ((ch γ b).e κ)
 |.tup es=>plain λκ x=>yhr x (ybc (chs γ es κ))
 |.lst es=>plain λκ x=>yhR x (ybc (chs γ es κ))
 |.newl es=>plain λκ x=>yff x (ybc (chs γ es κ))
 |.newd kvs=>plain λκ x=>yew kvs x
 |.idx a i=>plain λκ x=>mIdx x ((ch γ a).e κ) ((ch γ i).e κ)
 |.slc a l h=>plain λκ x=>yf8 x ((ch γ a).e κ) (λo=>yfA l o ((ch γ l).e κ)) (λo=>yfA h o ((ch γ h).e κ))
 |.call f es=>plain λκ x=>hf κ λh=>yf3 h f (chs γ es κ) x
 |.isx a cs ts=>plain λκ x=>yhF cs ts x ((ch γ a).e κ)
 |.nin a b=>yct (λκ x=>ygi x ((ch γ a).e κ) ((ch γ b).e κ)) (λκ x=>ye5 x ((ch γ a).e κ) ((ch γ b).e κ))
 |.thw (.bin .add a b)=>plain λκ x=>ye2 x ((ch γ a).e κ) ((ch γ b).e κ)
 |.thw (.blt .list (.cons a .nil))=>plain λκ x=>yhy x ((ch γ a).e κ)
 |.blt b es=>plain λκ x=>yg6 b (chs γ es κ) x
 |.mth k o es=>plain λκ x=>yhe k (chs γ es κ) x ((ch γ o).e κ)
 |.isi a ts=>plain λκ x=>ygX ts x ((ch γ a).e κ)
 |.comp sl tg it c e=>plain λκ x=>yev sl tg (chi γ it κ) (ch γ c) (ch γ e) x
 |.frz a=>plain λκ x=>an ((ch γ a).e κ x) λh=>ok λm S X G=>zm7 (h m S X G)
 |.nope=>plain λκ x=>ok λ_ _ _ _=>zki
 |.dix D a=>plain λκ x=>ygS D x ((ch γ a).e κ)
 |.din a D=>plain λκ x=>ygq D x ((ch γ a).e κ)
 |.fld c a f=>plain λκ x=>yhJ c f x ((ch γ a).e κ)
 |.new c i es=>plain λκ x=>hf κ λh=>ygh h c i (chs γ es κ) x
 |.mcl c i n o es=>plain λκ x=>hf κ λh=>ygF h c i n (chs γ es κ) x ((ch γ o).e κ)
 |_=>plain λ_ _=>AD
noncomputable def chs(γ:Gs):(cs:Ces)->(κ:Kx)->Fs γ κ cs
 |.nil,_=>.nil
 |.cons c cs,κ=>.cons (λx=>(ch γ c).e κ x) (chs γ cs κ)
noncomputable def chi(γ:Gs):(c:Cit)->(κ:Kx)->∀tg l,Pr (YI γ κ tg l c)
 |.seq a,κ=>yhz ((ch γ a).e κ)
 |.range1 a,κ=>iR1 ((ch γ a).e κ)
 |.enum a,κ=>yeF ((ch γ a).e κ)
 |.zip a b,κ=>ygB ((ch γ a).e κ) ((ch γ b).e κ)
 |_,_=>λ_ _=>AD
end
section
variable {γ:Gs}{κ:Kx}{ca cb cc ce:Ce}{ci:Cit}{ct:Tg}{cs cs':Css}{ces:Ces}
def swB(so:BQ)(x:AO)(px pos:Bo)(sc:BQ):Bool:=(if so.kind.isAnnotationScope then Dp else so.kind)==.function&&so.names.lookup x==AA .local&&px.line==pos.line&&!(sc.names.any λ(n,k)=>n==x&&(k==.local || k==.cell))
def zod{elt:AT}{gs:List Comprehension}{sc:BQ}{pos px:Bo}{x:AO}{l:Nat}{env:BG}:swapsWith (.ListComp elt gs sc pos) (AA (.Name x px)) l env=pure (swB env.scope x px pos sc):=rfl
def yfd(f:∀x,Pr (YE γ κ x ca))(s:Bc):Pr (YS γ κ s (.expr ca)):=
 match s with
 |.Expr a _=>an (ask (nco a=AC)) λhs=>an (f a) λh=>ok λm S X G=>zjU (h m S X G) (swp hs)
 |_=>AD
def yfJ(i:Nat)(f:∀x,Pr (YE γ κ x ca))(s:Bc):Pr (YS γ κ s (.asg (.n i) ca)):=
 match s with
 |.Assign [.Name x _] a _=>an (ask (nco a=AC/\setB κ i x=AC)) λhs=>an (f a) λh=>ok λm S X G=>let q:=zaN G hs.2;zmx q.d q.i q.l (h m S X G) (swp hs.1) q.f
 |_=>AD
def yeD(i:Nat)(sl:List (Option Nat))(ct:Tg)(fi:∀tg l,Pr (YI γ κ tg l ci))(C:Ev γ cc)(E:Ev γ ce)(s:Bc):Pr (YS γ κ s (.asg (.n i) (.comp sl ct ci cc ce))):=
 match s with
 |.Assign [.Name x px] (.ListComp elt [⟨tg,it,ifs,0⟩] sc p) _=>hf κ λhκ=>an (ask (setB κ i x=AC/\swB κ.sc x px p sc=AC)) λhs=>an (mCo sl ct fi C E elt tg it ifs sc) λh=>ok λm S X G=>by
  let⟨NC,h1,h2,h3,h4,h5⟩:=h.q m S X G;have q:=zaN G hs.1;exact zkg q.d q.i q.l (G.calm hκ) h1 h.f h2 h3 h4 h5 (by rw[zod,G.sc,hs.2]) (fse h.s) q.f
 |_=>AD
def ydU(i:Nat)(sl:List (Option Nat))(ct:Tg)(fi:∀tg l,Pr (YI γ κ tg l ci))(C:Ev γ cc)(E:Ev γ ce)(s:Bc):Pr (YS γ κ s (.asg (.n i) (.thw (.comp sl ct ci cc ce)))):=
 match s with
 |.Assign [.Name x px] (.ListComp elt [⟨tg,it,ifs,0⟩] sc p) _=>hf κ λhκ=>an (ask (setB κ i x=AC/\swB κ.sc x px p sc=AC)) λhs=>an (mCo sl ct fi C E elt tg it ifs sc) λh=>ok λm S X G=>by
  let⟨NC,h1,h2,h3,h4,h5⟩:=h.q m S X G;have q:=zaN G hs.1;exact zih q.d q.i q.l (G.calm hκ) h1 h.f h2 h3 h4 h5 (by rw[zod,G.sc,hs.2]) (fse h.s) q.f
 |_=>AD
def zjH{a:AT}(h:nst a=AC):(match (generalizing:=false) a with | .Starred _ _=>AC|_=>AB)=false:=by
 revert h;cases a<;>intro h<;>first|rfl|cases h
def swD(so:BQ)(x y:AO)(px py:Bo)(a b:AT):Bool:=(if so.kind.isAnnotationScope then Dp else so.kind)==.function&&so.names.lookup x==AA .local&&so.names.lookup y==AA .local&&py.line==px.line&&nst a&&nst b&&!(x==y)&&!(foldedForSure 8 a&&foldedForSure 8 b)&&!(constantsAlone 8 a&&constantsAlone 8 b)
def zoB{x y:AO}{px py pt pt2:Bo}{kt k2:Nat}{a b:AT}{env:BG}(h:swD env.scope x y px py a b=AC):
  swappedStores [.Tuple [.Name x px,.Name y py] kt pt] (.Tuple [a,b] k2 pt2) env=pure (AA [x,y]):=by
 erw[swD,AG,Bk]at h;let⟨⟨⟨⟨⟨⟨⟨⟨h1,h2⟩,h3⟩,h4⟩,h5⟩,h6⟩,h7⟩,h8⟩,h9⟩:=h;have k1:(env.blockKind != .function)=false:=by
  show (!((if env.scope.kind.isAnnotationScope then Dp else env.scope.kind)==.function))=AB;rw[h1];rfl
 have k2:env.kindOf x=AA .local:=eq_of_beq h2;have k3:env.kindOf y=AA .local:=eq_of_beq h3;have k4:py.line=px.line:=eq_of_beq h4;have k7:¬y=x:=λz=>by subst z;simp at h7
 have m1:=zjH h5;have m2:=zjH h6;have c8:¬(foldedForSure 8 a=AC/\foldedForSure 8 b=AC):=λz=>by rw[z.1,z.2]at h8;cases h8
 have c9:¬(constantsAlone 8 a=AC/\constantsAlone 8 b=AC):=λz=>by rw[z.1,z.2]at h9;cases h9
 have x1:(Expr.Name x px).pos=px:=rfl;have x2:(Expr.Name y py).pos=py:=rfl;unfold swappedStores;simp[k1,m1,m2,k2,k3,k4,List.eraseDups_cons,k7,x1,x2,c8,c9,CM];intro z;exfalso;rcases z with z|z
 .exact As (m1.symm.trans z)
 .exact As (m2.symm.trans z)
def yha(i j:Nat)(fa:∀x,Pr (YE γ κ x ca))(fb:∀x,Pr (YE γ κ x cb))(s:Bc):Pr (YS γ κ s (.asg (.t [i,j]) (.tup (.cons ca (.cons cb .nil))))):=
 match s with
 |.Assign [.Tuple [.Name x px,.Name y py] _ _] (.Tuple [a,b] _ _) _=>hf κ λhκ=>an (ask (setB κ i x=AC/\setB κ j y=AC/\i≠j/\swD κ.sc x y px py a b=AC)) λh=>an (fa a) λha=>an (fb b) λhb=>ok λm S X G=>by
  let⟨h1,h2,h3,h4⟩:=h;have q:=zaN G h1;have r:=zaN G h2;have h5:=h4;erw[swD,AG]at h5;have e1:X.env.scope.names.lookup x=AA .local:=by rw[G.sc];exact eq_of_beq h5.1.1.1.1.1.1.1.2
  have e2:X.env.scope.names.lookup y=AA .local:=by rw[G.sc];exact eq_of_beq h5.1.1.1.1.1.1.2
  exact zlw (G.calm hκ) q.d q.i r.i h3 (znh (G.calm hκ) q.d q.i r.i h3 e1 e2 (zak (ha m S X G) (zak (hb m S X G) zbk (zaI h5.1.1.1.2)) (zaI h5.1.1.1.1.2)) (zoB (by rw[G.sc];exact h4)))
 |_=>AD
theorem sw0{es:List AT}{k:Nat}{p:Bo}{a:AT}{env:BG}(h:ntu a=AC):swappedStores [.Tuple es k p] a env=pure none:=by
 cases a<;>first|rfl|cases h
theorem sw1{b c:AT}{p:Bo}{a:AT}{env:BG}:swappedStores [.Subscript b c p] a env=pure none:=by
 cases a<;>rfl
def zlT{t a:AT}{l:Nat}{env:BG}(h:nco a=AC):swapsWithSole [t] a l env=pure false:=by
 show swapsWith a (AA t) l env=_;exact swp h
theorem asS{b c:AT}{pos:Bo}{env:BG}(h:nsl c=AC):∀v,assign (.Subscript b c pos) env v=(do
   let ov <-holding [v] (eval b env)
   let iv <-holding [v,ov] (eval c env)
   standAt pos
   holding [v,ov,iv] (setItem ov iv v)
   release [v,ov,iv] []):=by
 cases c<;>first|exact λ_=>rfl|cases h
def ygj(l:List Nat)(f:∀x,Pr (YE γ κ x ca))(s:Bc):Pr (YS γ κ s (.asg (.t l) ca)):=
 match s with
 |.Assign [.Tuple es k p] a _=>an (ask (nco a=AC/\ntu a=AC)) λhs=>an (mTg (γ:=γ) (κ:=κ) (.t l) (.Tuple es k p)) λhg=>an (f a) λh=>ok λm S X G=>zjJ (h m S X G) (hg m S X G) (zlT hs.1) (sw0 hs.2)
 |_=>AD
def ygb(f:∀x,Pr (YE γ κ x cc))(fo:∀x,Pr (YE γ κ x ca))(fi:∀x,Pr (YE γ κ x cb))(s:Bc):Pr (YS γ κ s (.six ca cb cc)):=
 match s with
 |.Assign [.Subscript b c _] a _=>an (ask (nco a=AC/\nsl c=AC)) λhs=>an (f a) λh=>an (fo b) λho=>an (fi c) λhi=>ok λm S X G=>zlp (h m S X G) (ho m S X G) (hi m S X G) (zlT hs.1) sw1 (zeT (ho m S X G) (hi m S X G) zb0 (asS hs.2))
 |_=>AD
theorem sw2{c d c' d' a b:AT}{px py pt pt2:Bo}{kt k2:Nat}{env:BG}(h5:nst a=AC)(h6:nst b=AC):swappedStores [.Tuple [.Subscript c d px,.Subscript c' d' py] kt pt] (.Tuple [a,b] k2 pt2) env=pure none:=by
 have m1:=zjH h5;have m2:=zjH h6;unfold swappedStores;simp[m1,m2]
def ye1{ca cb cc cd ce cf:Ce}(fa:∀x,Pr (YE γ κ x ca))(fb:∀x,Pr (YE γ κ x cb))(fo:∀x,Pr (YE γ κ x cc))(fi:∀x,Pr (YE γ κ x cd))(fp:∀x,Pr (YE γ κ x ce))(fj:∀x,Pr (YE γ κ x cf))(s:Bc):Pr (YS γ κ s (.six2 cc cd ce cf ca cb)):=
 match s with
 |.Assign [.Tuple [.Subscript c d _,.Subscript c' d' _] _ _] (.Tuple [a,b] _ _) _=>hf κ λhκ=>an (ask (nst a=AC/\nst b=AC/\nsl d=AC/\nsl d'=AC)) λhs=>an (fa a) λha=>an (fb b) λhb=>an (fo c) λhc=>an (fi d) λhd=>an (fp c') λhp=>an (fj d') λhj=>ok λm S X G=>
  zkU (G.calm hκ) (zak (ha m S X G) (zak (hb m S X G) zbk (zaI hs.2.1)) (zaI hs.1)) (hc m S X G) (hd m S X G) (hp m S X G) (hj m S X G) (zeT (hc m S X G) (hd m S X G) zb0 (asS hs.2.2.1)) (zeT (hp m S X G) (hj m S X G) zb0 (asS hs.2.2.2)) (zlT rfl) (sw2 hs.1 hs.2.1)
 |_=>AD
def yeV(f:∀x,Pr (YE γ κ x cc))(fo:∀x,Pr (YE γ κ x ca))(fi:∀x,Pr (YE γ κ x cb))(s:Bc):Pr (YS γ κ s (.dput ca cb cc)):=
 match s with
 |.Assign [.Subscript b c _] a _=>an (ask (nco a=AC)) λhs=>an (f a) λh=>an (fo b) λho=>an (fi c) λhi=>ok λm S X G=>zlf (zjz G.room) (ho m S X G) (hi m S X G) (h m S X G) (swp hs)
 |_=>AD
def yhA(op:DN)(o:BOp):Pr (∀S X,PIp X op (rT2 S X (ybJ o))):=
 match op,o with
 |.Add,.add=>ok λ_ _=>zkl
 |_,_=>AD
def yhd(i:Nat)(o:BOp)(f:∀x,Pr (YE γ κ x ca))(s:Bc):Pr (YS γ κ s (.aug i o ca)):=
 match s with
 |.AugAssign (.Name x _) op a _=>an (ask (setB κ i x=AC)) λh=>an (yhA op o) λhp=>an (f a) λha=>ok λm S X G=>let q:=zaN G h;zmK q.d q.i q.l (ha m S X G) (hp S X) q.f (ze6 q.p) (zob q.p)
 |_=>AD
def yhk(c:Ce)(f:∀x,Pr (YE γ κ x c))(s:Bc):Pr (YS γ κ s (.ret c)):=
 match s with
 |.Return (AA a) _=>an (f a) λh=>ok λm S X G=>zll (h m S X G)
 |.Return AD _=>match c with
  |.cst .non=>ok λ_ _ _ _=>zjM
  |_=>AD
 |_=>AD
def sIf(fc:∀x,Pr (YT γ κ x cc))(fa:∀x,Pr (YSs γ κ x cs))(fb:∀x,Pr (YSs γ κ x cs'))(s:Bc):Pr (YS γ κ s (.ite cc cs cs')):=
 match s with
 |.If c a b _=>an (fc c) λhc=>an (fa a) λha=>an (fb b) λhb=>ok λm S X G=>znU (hc m S X G) (ha m S X G) (hb m S X G)
 |_=>AD
def yg9(ct:Tg)(fi:∀tg l,Pr (YI γ κ tg l ci))(fb:∀x,Pr (YSs γ κ x cs))(s:Bc):Pr (YS γ κ s (.for ct ci cs)):=
 match s with
 |.For tg l b [] _=>hf κ λhκ=>an (ask (κ.own=AC/\nse l=AC)) λho=>an (fi tg l) λhi=>an (mTg (γ:=γ) (κ:=κ) ct tg) λhg=>an (fb b) λhb=>ok λm S X G=>zlI (G.own ho.1).1 (G.calm hκ) (hi m S X G) (hg m S X G) (hb m S X G) (fse ho.2)
 |_=>AD
def sWh(fc:∀x,Pr (YT γ κ x cc))(fb:∀x,Pr (YSs γ κ x cs))(s:Bc):Pr (YS γ κ s (.while cc cs)):=
 match s with
 |.While c b [] _=>an (ask (κ.own=AC)) λho=>an (fc c) λhc=>an (fb b) λhb=>ok λm S X G=>zim (G.own ho).1 (hc m S X G) (hb m S X G)
 |_=>AD
def ygu(k:Nat)(f:∀x,Pr (YE γ κ x ca))(s:Bc):Pr (YS γ κ s (.raise k ca)):=
 match s with
 |.Raise (AA (.Call (.Name x _) [a] [] _)) AD _=>hf κ λhκ=>match hx:γ.g x with
  |some (.exc c)=>an (ask (c=k/\κ.own=AC/\glB κ x=AC/\nst a=AC)) λh=>an (f a) λha=>ok λm S X G=>by
   let⟨rfl,h1,h2,h3⟩:=h;exact ziK (G.glo.E x c hx) (G.own h1).2.2 (G.calm hκ) (zT G h2) (ha m S X G) (zaI h3) rfl (ze6 (zaP h2))
  |_=>AD
 |_=>AD
def ygO(c:Nat)(f:AO)(fo:∀x,Pr (YE γ κ x ca))(fv:∀x,Pr (YE γ κ x cb))(s:Bc):Pr (YS γ κ s (.sfl c ca f cb)):=
 match s with
 |.Assign [.Attribute a g _] b _=>an (ask (g=f/\γ.fl c f=AC/\nco b=AC)) λh=>an (fo a) λha=>an (fv b) λhb=>ok λm S X G=>by
  let⟨rfl,h1,h2⟩:=h;exact zmL (G.glo.A c g h1).1 (G.glo.A c g h1).2 (ha m S X G) (hb m S X G) (swp h2)
 |_=>AD
def ygP(c i:Nat)(f:AO)(j:Int)(fo:∀x,Pr (YE γ κ x (.var i)))(fv:∀x,Pr (YE γ κ x (.cst (.int j))))(s:Bc):Pr (YS γ κ s (.sfl c (.var i) f (.bin .add (.fld c (.var i) f) (.cst (.int j))))):=
 match s with
 |.AugAssign (.Attribute a g _) .Add b _=>an (ask (g=f/\γ.fl c f=AC)) λh=>an (fo a) λha=>an (fv b) λhb=>ok λm S X G=>by
  let⟨rfl,h1⟩:=h;exact zmz (G.glo.A c g h1).1 (G.glo.A c g h1).2 (ha m S X G) (hb m S X G)
 |_=>AD
def yhK(c:Nat)(o:Ce)(f:AO)(e:Ce)(O:Ev γ o)(E:Ev γ e)(s:Bc):Pr (YS γ κ s (.sfl c o f e)):=
 match s with
 |.AugAssign t op b p=>match o,e with
  | .var i,.bin .add (.fld c' (.var i') f') (.cst (.int j))=>an (ask (c'=c/\i'=i/\f'=f)) λh=>an (ygP (γ:=γ) (κ:=κ) c i f j (λx=>yfX i x) (λx=>yfH (.int j) x) (.AugAssign t op b p)) λq=>ok (by
    let⟨rfl,rfl,rfl⟩:=h;exact q)
  |_,_=>AD
 |s=>ygO c f (O.e κ) (E.e κ) s
theorem Good.tb{m:Nat}{S:Se}{X:Cx}(G:Good γ κ m S X)(hκ:κ.h=AB)(pn:List (AJ×Bb))(P:St->AH->Hp->Prop):Good γ ⟨κ.N,κ.sc,AB,AB⟩ m S.quiet (yd0 X pn P):=
 ⟨G.n,G.sc,λ_=>G.calm hκ,G.room,λ_=>G.hd hκ,(λh=>nomatch h),(λh=>nomatch h),⟨G.glo.F,G.glo.Q,G.glo.C,G.glo.D,G.glo.E,G.glo.N,G.glo.B,G.glo.T,G.glo.A,G.glo.M,λy D h=>let ⟨fa,fdd,ps,M,d⟩:=G.glo.K y D h;⟨fa,fdd,ps,⟨M.F,M.kp,M.b⟩,d⟩,G.glo.V,G.glo.I,G.glo.L,G.glo.H,G.glo.Z⟩⟩
theorem Good.th{m:Nat}{S:Se}{X:Cx}(G:Good γ κ m S X)(pn:List (AJ×Bb))(a:AJ):Good γ ⟨κ.N,κ.sc,AB,AC⟩ m S.quiet (cxS X pn a):=
 ⟨G.n,G.sc,(λh=>nomatch h),G.room.mark,(λh=>nomatch h),(λh=>nomatch h),(λh=>nomatch h),⟨G.glo.F,G.glo.Q,G.glo.C,G.glo.D,G.glo.E,G.glo.N,G.glo.B,G.glo.T,G.glo.A,G.glo.M,λy D h=>let ⟨fa,fdd,ps,M,d⟩:=G.glo.K y D h;⟨fa,fdd,ps,⟨M.F,M.kp,M.b⟩,d⟩,G.glo.V,G.glo.I,G.glo.L,G.glo.H,G.glo.Z⟩⟩
def yhG(cs:List Nat)(i:Nat){cb ch:Css}(fb:∀s,Pr (YSs γ ⟨κ.N,κ.sc,AB,AB⟩ s cb))(fh:∀s,Pr (YSs γ ⟨κ.N,κ.sc,AB,AC⟩ s ch))(s:Bc):Pr (YS γ κ s (.try cb cs i ch)):=
 match s with
 |.Try body [.ExceptHandler (AA (.Name x _)) (AA n) (b₀::suite) _] [] [] _=>hf κ λhκ=>an (ask (κ.own=AC/\κ.N.Nodup/\κ.N[i]?=AA n/\κ.sc.names.lookup n=AA .local/\glB κ x=AC/\(cs.all λc=>γ.xm c x)=AC/\cs≠[])) λh=>an (fb body) λhb=>an (fh (b₀::suite)) λhs=>ok λm S X G=>by
  let⟨h1,h2,h3,h4,h5,h6,h7⟩:=h;erw[Ag]at h6;obtain⟨W,hW⟩:∃W,X.mg x=AA (.ref W):=by
   cases cs with
   |nil=>exact absurd rfl h7
   |cons c cs=>let⟨W,q,_⟩:=G.glo.H c x (h6 c A7);exact⟨W,q⟩
  refine zm0 (G.top h1).1 (G.top h1).2.1 (G.top h1).2.2 (by rw[G.n];exact h2) (by rw[G.n];exact h3) (by rw[G.sc];exact h4) (zT G h5) hW (λc hc=>?_) (λpn P=>hb m _ _ (G.tb hκ pn P)) (λpn a=>hs m _ _ (G.th pn a)) (ze6 (zaP h5));let⟨W',q,e⟩:=G.glo.H c x (h6 c hc);rw[hW]at q
  cases q
  exact e
 |_=>AD
end
mutual
noncomputable def chS(γ:Gs):(c:Cs)->(κ:Kx)->∀s,Pr (YS γ κ s c)
 |.expr e,κ=>yfd ((ch γ e).e κ)
 |.asg (.n i) (.comp sl ct ci cc ce),κ=>yeD i sl ct (chi γ ci κ) (ch γ cc) (ch γ ce)
 |.asg (.n i) (.thw (.comp sl ct ci cc ce)),κ=>ydU i sl ct (chi γ ci κ) (ch γ cc) (ch γ ce)
 |.asg (.n i) c,κ=>yfJ i ((ch γ c).e κ)
 |.asg (.t [i,j]) (.tup (.cons a (.cons b .nil))),κ=>yha i j ((ch γ a).e κ) ((ch γ b).e κ)
 |.asg (.t l) c,κ=>ygj l ((ch γ c).e κ)
 |.six o i e,κ=>ygb ((ch γ e).e κ) ((ch γ o).e κ) ((ch γ i).e κ)
 |.six2 o i p j e f,κ=>ye1 ((ch γ e).e κ) ((ch γ f).e κ) ((ch γ o).e κ) ((ch γ i).e κ) ((ch γ p).e κ) ((ch γ j).e κ)
 |.dput o i e,κ=>yeV ((ch γ e).e κ) ((ch γ o).e κ) ((ch γ i).e κ)
 |.aug i o e,κ=>yhd i o ((ch γ e).e κ)
 |.ret e,κ=>yhk e ((ch γ e).e κ)
 |.ite c a b,κ=>sIf ((ch γ c).t κ) (yca γ a κ) (yca γ b κ)
 |.for t it b,κ=>yg9 t (chi γ it κ) (yca γ b κ)
 |.while c b,κ=>sWh ((ch γ c).t κ) (yca γ b κ)
 |.nope,_=>λ_=>ok λ_ _ _ _=>zk1
 |.try b cs i h,κ=>yhG cs i (yca γ b ⟨κ.N,κ.sc,AB,AB⟩) (yca γ h ⟨κ.N,κ.sc,AB,AC⟩)
 |.raise k e,κ=>ygu k ((ch γ e).e κ)
 |.sfl c o f e,κ=>yhK c o f e (ch γ o) (ch γ e)
noncomputable def yca(γ:Gs):(c:Css)->(κ:Kx)->∀s,Pr (YSs γ κ s c)
 |.nil,_,[]=>ok λ_ _ _ _=>zmk
 |.cons c cs,κ,s::ss=>an (chS γ c κ s) λh=>an (yca γ cs κ ss) λhr=>ok λm S X G=>zkD (h m S X G) (hr m S X G)
 |_,_,_=>AD
end
inductive Dk where
 |fn|fd (ds:List Int)|me (c:Nat)|ini (c:Nat)
structure Df where
 gn:AO
 nm:AO
 q:AO
 st:Bc
 N:List AO
 ps:List AO
 fn:IC.Fn
 k:Dk
def scB(N P:List AO)(sc:BQ):Bool:=decide (sc.kind=.function)&&!sc.isCoroutine&&!sc.isGenerator&&decide N.Nodup&&decide (N.take P.length=P)&&P.all (yd9 sc)&&sc.names.all λy=>y.2 != .free
def zjh{N P:List AO}{sc:BQ}(h:scB N P sc=AC):yaI N P sc:=by
 erw[scB,AG,decide_eq_true_eq,Bk,Ag,bne_iff_ne,ne_eq]at h;let⟨⟨⟨⟨⟨⟨h1,h2⟩,h3⟩,h4⟩,h5⟩,h6⟩,h7⟩:=h;exact⟨h1,h2,h3,h4,h5,λx hx=>zfS (h6 x hx),h7⟩
def okD(γ:Gs)(d:Df):Bool:=scB d.N d.ps (yu d.st)&&decide (d.ps.length=d.fn.np)&&decide (d.N.length=d.fn.ns)&&(yca γ d.fn.body ⟨d.N,yu d.st,AC,AB⟩ (yR d.st)).isSome
def ybP{α:Type}(P:α->Prop):List α->Prop
 |[]=>True
 |d::r=>P d/\ybP P r
theorem ybP.get{α:Type}{P:α->Prop}:∀{l:List α},ybP P l->∀d∈l,P d
 |_::_,h,d,hd=>by
  rcases AL.1 hd with rfl|hd
  .exact h.1
  .exact h.2.get d hd
def ybA:List AO->(List AH->Prop)->Prop
 |[],P=>P []
 |_::r,P=>∀a,ybA r λus=>P (a::us)
theorem ybA.get:∀{ps:List AO} {P:List AH->Prop},ybA ps P->∀us,us.length=ps.length->P us
 |[],P,h,[],_=>h
 |_::r,P,h,a::us,e=>(h a).get us (by simpa using e)
def ya8(d:Df):Prop:=∀(kV doc pm:AH) (an:Option AJ) (cdv ct:AH),ybA d.ps λus=>bindArgs (BU d.nm d.q (yad d.st) (yR d.st) (yu d.st) .none kV doc pm an cdv ct) ⟨us,[]⟩=pure (d.ps.zip us)
structure ych(K:AF)(d:Df)(dv:AH)(f:AJ)(fd:Ax):Prop where
 ex:∃(oc:AH) (od:Option AJ) (kV doc pm:AH) (an:Option AJ) (cdv ct:AH) (osl:Array (Option AH)),
  fd=BU d.nm d.q (yad d.st) (yR d.st) (yu d.st) dv kV doc pm an cdv ct/\K.lookup f=AA ⟨oc,od,.func fd,osl⟩/\By K cdv d.q=AC
 kp:Au K (.ref f)=AC
def At(K:AF)(cn:Nat->AO)(d:Df)(f:AJ):Prop:=
 match d.k with
 |.fn=>BE K mainGlobals d.gn=AA (AA (.ref f))/\ya8 d
 |.fd _=>BE K mainGlobals d.gn=AA (AA (.ref f))
 |.me c=>ya8 d/\∃q,BE K mainGlobals (cn c)=AA (AA (.ref q))/\Ai K (.ref q) d.nm=AA (AA (.ref f))/\Ca K (.ref f)=AC
 |.ini c=>ya8 d/\∃q,BE K mainGlobals (cn c)=AA (AA (.ref q))/\Ai K (.ref q) d.nm=AA (AA (.ref f))/\Ca K (.ref f)=AC/\DR K q=AC/\Au K (.ref q)=AC
def DvP(K:AF)(d:Df)(dv:AH):Prop:=
 match d.k with
 |.fd ds=>∃dT o its n,dv=.ref dT/\K.lookup dT=AA o/\o.data=.seq its n/\Vals (ds.map V.int) its.toList
 |_=>dv=.none
def yda(K:AF)(cn:Nat->AO)(d:Df):Prop:=∃dv f fd,ych K d dv f fd/\At K cn d f/\DvP K d dv
section
variable {K:AF}{cn:Nat->AO}{gn nm:AO}{st:Bc}{N ps:List AO}{fn:IC.Fn}{f:AJ}{oc:AH}{od:Option AJ}{kV doc pm:AH}{an:Option AJ}{cdv ct:AH}{osl:Array (Option AH)}
theorem rowFn(a:BE K mainGlobals gn=AA (AA (.ref f)))(l:K.lookup f=AA ⟨oc,od,.func (BU nm nm (yad st) (yR st) (yu st) .none kV doc pm an cdv ct),osl⟩)
  (c:By K cdv nm=AC) (p:Au K (.ref f)=AC) (b:ya8 ⟨gn,nm,nm,st,N,ps,fn,.fn⟩):yda K cn ⟨gn,nm,nm,st,N,ps,fn,.fn⟩:=
 ⟨.none,f,_,⟨⟨oc,od,kV,doc,pm,an,cdv,ct,osl,rfl,l,c⟩,p⟩,⟨a,b⟩,rfl⟩
theorem rowFd{ds:List Int}{dT:AJ}{o:Bb}{its:Array AH}{n:Nat}(a:BE K mainGlobals gn=AA (AA (.ref f)))(l:K.lookup f=AA ⟨oc,od,.func (BU nm nm (yad st) (yR st) (yu st) (.ref dT) kV doc pm an cdv ct),osl⟩)
  (c:By K cdv nm=AC) (p:Au K (.ref f)=AC) (d:K.lookup dT=AA o) (e:o.data=.seq its n) (v:Vals (ds.map V.int) its.toList):yda K cn ⟨gn,nm,nm,st,N,ps,fn,.fd ds⟩:=
 ⟨.ref dT,f,_,⟨⟨oc,od,kV,doc,pm,an,cdv,ct,osl,rfl,l,c⟩,p⟩,a,dT,o,its,n,rfl,d,e,v⟩
theorem rowMe{qn:AO}{cc:Nat}{q:AJ}(z:BE K mainGlobals (cn cc)=AA (AA (.ref q)))(a:Ai K (.ref q) nm=AA (AA (.ref f)))(i:Ca K (.ref f)=AC)(l:K.lookup f=AA ⟨oc,od,.func (BU nm qn (yad st) (yR st) (yu st) .none kV doc pm an cdv ct),osl⟩)
  (c:By K cdv qn=AC) (p:Au K (.ref f)=AC) (b:ya8 ⟨gn,nm,qn,st,N,ps,fn,.me cc⟩):yda K cn ⟨gn,nm,qn,st,N,ps,fn,.me cc⟩:=
 ⟨.none,f,_,⟨⟨oc,od,kV,doc,pm,an,cdv,ct,osl,rfl,l,c⟩,p⟩,⟨b,q,z,a,i⟩,rfl⟩
theorem rowIni{qn:AO}{cc:Nat}{q:AJ}(z:BE K mainGlobals (cn cc)=AA (AA (.ref q)))(a:Ai K (.ref q) nm=AA (AA (.ref f)))(i:Ca K (.ref f)=AC)(l:K.lookup f=AA ⟨oc,od,.func (BU nm qn (yad st) (yR st) (yu st) .none kV doc pm an cdv ct),osl⟩)
  (c:By K cdv qn=AC) (p:Au K (.ref f)=AC) (b:ya8 ⟨gn,nm,qn,st,N,ps,fn,.ini cc⟩) (mk:DR K q=AC) (kq:Au K (.ref q)=AC):yda K cn ⟨gn,nm,qn,st,N,ps,fn,.ini cc⟩:=
 ⟨.none,f,_,⟨⟨oc,od,kV,doc,pm,an,cdv,ct,osl,rfl,l,c⟩,p⟩,⟨b,q,z,a,i,mk,kq⟩,rfl⟩
theorem gdf_mk{w:Am}{h:Aw}{mg:AO->Option AH}{x:AO}{D:List (AO×Nat)}{fa:Nat->AJ}{y:AJ}{es:Array Bv}{ep:Nat}(X:K.In h)(G:h.Ns mainGlobals mg)(a:BE K mainGlobals x=AA (AA (.ref y)))(l:K.lookup y=AA ⟨.type "dict",AD,.dict es ep,#[]⟩)
  (r:ycr w fa D es.toList) (n:(D.map (·.1)).Nodup):GDF K w mg fa x D:=⟨y,es,ep,EG X G a,l,r,n⟩
theorem gd_mk{w:Am}{h:Aw}{mg:AO->Option AH}{x:AO}{D:List (AO×PV)}{cl:Nat->AJ}{y:AJ}{es:Array Bv}{ep:Nat}(X:K.In h)(G:h.Ns mainGlobals mg)(a:BE K mainGlobals x=AA (AA (.ref y)))(l:K.lookup y=AA ⟨.type "dict",AD,.dict es ep,#[]⟩)
  (s:(y==sysModules)=AB) (r:ycf K cl w D es.toList) (n:(D.map (·.1)).Nodup):GD K w mg cl x D:=⟨y,es,ep,EG X G a,l,s,r,n⟩
end
abbrev KoV(K:AF)(v:PV)(u:AH):Prop:=∃x:V,RelV x u/\∀cl B φ H,yd K cl B φ H v x
abbrev KoL(K:AF)(vs:List PV)(us:List AH):Prop:=∃xs:List V,Vals xs us/\∀cl B φ H,yj K cl B φ H vs xs
mutual
noncomputable def yeN(K:AF):(v:PV)->(u:AH)->Pr (KoV K v u)
 |.int i,.int j t=>an (ask (i=j)) λh=>ok ⟨.int i,⟨t,by rw[h]⟩,λ_ _ _ _=>by erw[yd]⟩
 |.str i,.str j t=>an (ask (i=j)) λh=>ok ⟨.str i,⟨t,by rw[h]⟩,λ_ _ _ _=>by erw[yd]⟩
 |.tp AC vs,.ref a=>match h:K.lookup a with
  |some ⟨c,_,.seq its n,_⟩=>an (ask (c=.type "tuple"/\its.size<=sizeLine)) λq=>an (yd1 K vs its.toList) λr=>ok (by
    let⟨xs,r1,r2⟩:=r;refine⟨.ref a,rfl,λcl B φ H=>?_⟩;erw[yd];exact⟨a,xs,rfl,.inr ⟨rfl,_,its,n,h,q.1,rfl,q.2,r1⟩,r2 cl B φ H⟩)
  |_=>AD
 |_,_=>AD
noncomputable def yd1(K:AF):(vs:List PV)->(us:List AH)->Pr (KoL K vs us)
 |[],[]=>ok ⟨[],.nil,λ_ _ _ _=>by erw[yj]⟩
 |v::vs,u::us=>an (yeN K v u) λh=>an (yd1 K vs us) λr=>ok (by
   let⟨x,h1,h2⟩:=h;let⟨xs,r1,r2⟩:=r;refine⟨x::xs,.cons h1 r1,λcl B φ H=>?_⟩;erw[yj];exact⟨x,xs,rfl,h2 cl B φ H,r2 cl B φ H⟩)
 |_,_=>AD
end
theorem con_row{K:AF}{cl:Nat->AJ}{w:Am}{k:AO}{v:PV}{tk:HC}{u:AH}{D:List (AO×PV)}{es:List Bv}(c:(yeN K v u).isSome=AC)(h:ycf K cl w D es):ycf K cl w ((k,v)::D) (⟨Dn w.params k,.str k tk,u⟩ :: es):=by
 let⟨⟨x,r,q⟩,_⟩:=Ae.1 c;exact .cons r (q cl) h
theorem frow_cons{w:Am}{fa:Nat->AJ}{k:AO}{i:Nat}{tk:HC}{a:AJ}{D:List (AO×Nat)}{es:List Bv}(e:fa i=a)(h:ycr w fa D es):ycr w fa ((k,i)::D) (⟨Dn w.params k,.str k tk,.ref a⟩ :: es):=by
 subst e;exact .cons h
structure Tb where
 tbl:List Df
 al:List (AO×GK)
 bs:List AO
 ts:List Ty
 fl:List (Nat×AO)
 me:List ((Nat×AO)×Nat)
 kb:List ((Nat×Nat×List AO)×List (Option Int))
 cn:List (Nat×AO)
 dd:List (AO×List (AO×PV))
 ml:List (AO×List (AO×Nat))
 xs:List (Nat×Ty)
 xc:List (Nat×AO)
 xm:List (Nat×AO)
 qh:List AO
abbrev eF(x:AO)(i:Nat):AO×GK:=(x,.fn i)
abbrev eC(x:AO)(v:PV):AO×GK:=(x,.cst v)
abbrev eG(x:AO)(g:GK):AO×GK:=(x,g)
abbrev eN(c:Nat)(x:AO):Nat×Str:=(c,x)
abbrev eM(c:Nat)(x:AO)(i:Nat):(Nat×AO)×Nat:=((c,x),i)
abbrev eB(x:AO)(d:List (AO×PV)):AO×List (AO×PV):=(x,d)
def tyE:Ty->Ty->Bool
 |.int,.int=>AC
 |.bool,.bool=>AC
 |.str,.str=>AC
 |.tuple,.tuple=>AC
 |.list,.list=>AC
 |_,_=>AB
def zlR{a b:Ty}(h:tyE a b=AC):a=b:=by
 cases a<;>cases b<;>first|rfl|cases h
def tyX:Ty->Ty->Bool
 |.cls a,.cls b=>a==b
 |.val,.val=>AC
 |_,_=>AB
def zlQ{a b:Ty}(h:tyX a b=AC):a=b:=by
 cases a<;>cases b<;>first|rfl|(cases h;done)|(rw[eq_of_beq (show _=AC from h)])
def Tb.gs(t:Tb):Gs:=⟨λx=>t.al.lookup x,λx=>t.bs.contains x,λy=>t.ts.any (tyE y),λc f=>t.fl.contains (c,f),λc n=>t.me.lookup (c,n),λi n ks=>t.kb.lookup (i,n,ks),λx=>t.ml.lookup x,λx i=>decide (t.cn.lookup (1000+i)=AA x),λc y=>t.xs.any λp=>p.1==c&&tyX p.2 y,λd x=>t.xc.contains (d,x),λc x=>t.xm.contains (c,x),λi=>match t.tbl[i]? with
 |some d=>t.qh.contains d.gn
 |none=>AB⟩
def nmA(K:AF)(x:AO):Option Addr:=match BE K mainGlobals x with
 |some (AA (.ref q))=>AA q
 |_=>AD
def clA(K:AF)(t:Tb)(c:Nat):Addr:=((t.cn.lookup c).bind (nmA K)).getD 0
def cnm(t:Tb)(c:Nat):Str:=(t.cn.lookup c).getD ""
def faA(K:AF)(t:Tb)(i:Nat):Addr:=match t.tbl[i]? with
 |some d=>match d.k with
  |.fn=>(nmA K d.gn).getD 0
  |.fd _=>(nmA K d.gn).getD 0
  |.me c=>match Ai K (.ref (clA K t c)) d.nm with
   |some (AA (.ref f))=>f
   |_=>0
  |.ini c=>match Ai K (.ref (clA K t c)) d.nm with
   |some (AA (.ref f))=>f
   |_=>0
 |none=>0
def ycR:Dk->Bool
 |.fn=>AC
 |_=>AB
def yeW:Dk->Bool
 |.fd _=>AC
 |_=>AB
def yf0:PV->Bool
 |.int _=>AC
 |.tp _ _=>AC
 |_=>AB
def alB(K:AF)(t:Tb):AO×GK->Bool
 |(x,.fn i)=>match t.tbl[i]? with
  |some d=>ycR d.k&&(decide (x=d.gn) || decide (nmA K x=nmA K d.gn))
  |none=>AB
 |(x,.fnD i)=>match t.tbl[i]? with
  |some d=>yeW d.k&&(decide (x=d.gn) || decide (nmA K x=nmA K d.gn))
  |none=>AB
 |(x,.cst v)=>yf0 v&&match BE K mainGlobals x with
  |some (AA u)=>(yeN K v u).isSome
  |_=>AB
 |(x,.dct d)=>t.dd.any λp=>decide (p.1=x)&&(eqD p.2 d).isSome
 |(x,.exc c)=>decide (t.cn.lookup c=AA x)&&(nmA K x).any λq=>DL K q [.type "ValueError",.type "Exception",.type "BaseException",.type "object"] "ValueError.__new__"
 |(x,.cls c i)=>decide (t.cn.lookup c=AA x)&&(nmA K x).isSome&&match t.tbl[i]? with
  |some d=>match d.k with
   |.ini c'=>decide (c'=c)&&decide (d.nm="__init__")
   |_=>AB
  |none=>AB
def yfw(K:AF)(t:Ty):Bool:=
 decide (BJ K (.type "NoneType") (.type (tyN t))=AA (yF .non t))&&decide (BJ K (.type "bool") (.type (tyN t))=AA (yF (.bl AC) t))&&decide (BJ K (.type "int") (.type (tyN t))=AA (yF (.int 0) t))&&decide (BJ K (.type "str") (.type (tyN t))=AA (yF (.str Fz) t))&&decide (BJ K (.type "tuple") (.type (tyN t))=AA (yF (.tp AC []) t))&&decide (BJ K (.type "list") (.type (tyN t))=AA (yF (.lst []) t))
def yem(K:AF)(q:AJ):Bool:=C9 K q Fz&&Cp K q&&Du K q&&decide (Ai K (.ref q) "__setattr__"=AA (AA (.builtin "object.__setattr__")))
def zfZ{K:AF}{q:AJ}(h:yem K q=AC):Cls K q:=by
 erw[yem,AG,decide_eq_true_eq]at h;exact⟨h.1.1.1,h.1.1.2,h.1.2,h.2⟩
def yfp(K:AF)(q:AJ):Bool:=decide (Ai K (.ref q) "__getattribute__"=AA (AA (.builtin "BaseException.__getattribute__")))&&decide (Ai K (.ref q) "__getattr__"=AA AD)&&decide (Ai K (.ref q) "__class__"=AA (AA (.builtin "object.__class__")))&&decide (Gf K (.ref q) (.type "BaseException")=AA AC)&&decide (Gg K q (.type "object")=AA AC)&&(EB K q).isSome
def zkB{K:AF}{q:AJ}(h:yfp K q=AC):ybt K q:=by
 erw[yfp,AG,decide_eq_true_eq]at h;let⟨⟨⟨⟨⟨h1,h2⟩,h3⟩,h4⟩,h5⟩,h6⟩:=h;exact⟨h1,h2,h3,h4,h5,Ae.1 h6⟩
def yfL(K:AF)(t:Tb):Bool:=
 t.xs.all (λp=>yfp K (clA K t p.1)&&decide (BJ K (.ref (clA K t p.1)) (tyZ (clA K t) p.2)=AA (yF (.exn p.1) p.2))) &&
  t.xc.all (λp=>decide (t.cn.lookup p.1=AA p.2)&&(nmA K p.2).isSome) &&
  t.xm.all λp=>(nmA K p.2).any λW=>decide (Dm K (.ref (clA K t p.1)) (.ref W)=AA AC)
def ydR(K:AF)(t:Tb):Bool:=
 t.al.all (alB K t)&&t.bs.all (λx=>decide (BE K mainGlobals x=AA AD))&&t.ts.all (yfw K) &&
  t.fl.all (λp=>(t.cn.lookup p.1).isSome&&(nmA K (cnm t p.1)).any λq=>yem K q&&decide (Ai K (.ref q) p.2=AA AD)) &&
  t.me.all (λp=>(t.cn.lookup p.1.1).isSome&&(nmA K (cnm t p.1.1)).any λq=>yem K q&&match t.tbl[p.2]? with
   |some d=>(match d.k with
    |.me c=>decide (c=p.1.1)
    |_=>AB)&&decide (d.nm=p.1.2)
   |none=>AB) &&
  t.ml.all λp=>p.2.all λq=>match t.tbl[q.2]? with
   |some d=>ycR d.k
   |none=>AB
def yfl(K:AF)(t:Tb):Bool:=ydR K t&&yfL K t
def fd0:FuncData:=BU "" "" (yad (.Pass ⟨0,0,0,0⟩)) [] (yu (.Pass ⟨0,0,0,0⟩)) .none .none .none .none AD .none .none
def fdA(K:AF)(t:Tb)(i:Nat):FuncData:=match K.lookup (faA K t i)with
 |some ⟨_,_,.func fd,_⟩=>fd
 |_=>fd0
def psA(t:Tb)(i:Nat):List Str:=match t.tbl[i]? with
 |some d=>d.ps
 |none=>[]
theorem lkm{α β:Type}[BEq α][LawfulBEq α]{x:α}{k:β}:∀{l:List (α×β)},l.lookup x=AA k->(x,k)∈l
 |[],h=>nomatch h
 |y::l,h=>by
  rw[B4]at h
  cases hx:x==y.1 with
  |true=>rw[hx]at h;cases h;rw[eq_of_beq hx];exact A7
  |false=>rw[hx]at h;exact AU _ (lkm h)
def KbP(t:Tb)(p:(Nat×Nat×List AO)×List (Option Int)):Prop:=∀d ds,t.tbl[p.1.1]?=AA d->d.k=.fd ds->∀(K:AF) (mg:AO->Option AH) (f:AJ) (fd:Ax),FnD K mg d.nm d.st d.ps ds f fd->∃g,ybv K fd d.ps p.1.2.2 g (gK p.1.2.1 p.2)
structure Fact(t:Tb)(w:Am)(K:AF)(mg:AO->Option AH):Prop where
 X:∀x u,BE K mainGlobals x=AA u->mg x=u
 R:ybP (yda K (cnm t)) t.tbl
 B:yfl K t=AC
 D:ybP (λp=>∀cl,GD K w mg cl p.1 p.2) t.dd
 Kb:ybP (KbP t) t.kb
 Ml:ybP (λp=>GDF K w mg (faA K t) p.1 p.2) t.ml
def zl0{K:AF}{x:AO}{q:AJ}(h:nmA K x=AA q):BE K mainGlobals x=AA (AA (.ref q)):=by
 unfold nmA at h;split at h
 .cases h;assumption
 .cases h
def zba{K:AF}{x:AO}{q:AJ}(h:BE K mainGlobals x=AA (AA (.ref q))):nmA K x=AA q:=by
 erw[nmA,h]
def zeZ{K:AF}{t:Tb}{c:Nat}{q:AJ}(h:nmA K (cnm t c)=AA q)(hc:(t.cn.lookup c).isSome=AC):clA K t c=q:=by
 let⟨x,e⟩:=Ae.1 hc;erw[clA,e,Az];erw[cnm,e,B5]at h;rw[h];rfl
def okH(t:Tb)(d:Df):Bool:=(yca t.gs d.fn.body ⟨d.N,yu d.st,AB,AC⟩ (yR d.st)).isSome&&!d.fn.pure&&ycR d.k
def okT(t:Tb)(d:Df):Bool:=okD t.gs d&&(!t.qh.contains d.gn || okH t d)&&match d.k with
 |.fn=>AC
 |.fd _=>decide (d.q=d.nm)
 |.me c=>(t.cn.lookup c).isSome
 |.ini c=>(t.cn.lookup c).isSome&&decide (d.nm="__init__")
section
variable {t:Tb}{w:Am}{K:AF}{mg:AO->Option AH}{T:Nat->Option IC.Fn}{P:Aa}{base:Aw}{k:Nat}
def zbO(F:Fact t w K mg)(O:∀d∈t.tbl,okT t d=AC){i:Nat}{d:Df}(h:t.tbl[i]?=AA d):∃dv fd,ych K d dv (faA K t i) fd/\At K (cnm t) d (faA K t i)/\DvP K d dv:=by
 have hm:=AR h;let⟨dv,f,fd,h1,h2,h3⟩:=F.R.get d hm;have e:f=faA K t i:=by
  have o:=O d hm;erw[okT,AG]at o;have o:=o.2;erw[faA,h];unfold At at h2
  cases q:d.k with
  |fn=>
   rw[q]at h2;erw[zba h2.1,B5]
  |fd ds=>
   rw[q]at h2;have h2:BE K mainGlobals d.gn=AA (AA (.ref f)):=h2;erw[zba h2,B5]
  |me c=>
   rw[q]at h2 o;let⟨_,q',e1,e2,_⟩:=h2;erw[zeZ (zba e1) o,e2]
  |ini c=>
   rw[q]at h2 o;let⟨_,q',e1,e2,_⟩:=h2;erw[AG]at o;erw[zeZ (zba e1) o.1,e2]
 subst e;exact⟨dv,fd,h1,h2,h3⟩
theorem ych.binds{d:Df}{f:AJ}{fd:Ax}(R:ych K d .none f fd)(b:ya8 d):Binds K fd d.ps []:=
 Fun.binds ⟨R.ex,R.kp⟩ λkV doc pm an cdv ct us hl=>(b kV doc pm an cdv ct).get us hl
theorem ych.ok{d:Df}{dv:AH}{f:AJ}{fd:Ax}{fi m:Nat}{cl:Nat->AJ}(R:ych K d dv f fd)(hT:T fi=AA d.fn)(Sc:yaI d.N d.ps (yu d.st))(hnp:d.ps.length=d.fn.np)(hns:d.N.length=d.fn.ns)
  (body:∀(cdv:AH) (A:An) (outer:List BG) (s:AK) (H:Hp) (E:XK),yax m (A.deeper (envOfC d.q (yu d.st) s.heap.objs.size f cdv)) ->
   PSs (yaQ (CX1 P w) P w K mg base d.N d.q (yu d.st) f cdv A outer s H E) (yR d.st) (tSs ⟨cl,yc T k,AC⟩ (yaQ (CX1 P w) P w K mg base d.N d.q (yu d.st) f cdv A outer s H E) d.fn.body)):
  yaM P w K mg base (CX1 P w) (m+1) f fd d.ps (spI K cl (yc T (k+1)) fi):=by
 let⟨oc,od,kV,doc,pm,an,cdv,ct,osl,rfl,lk,hcd⟩:=R.ex;exact znz lk hcd Sc (λvs H Q E h=>zjo hT hnp h) λA outer s H vs Q E hr h=>⟨_,body cdv A outer s H E hr,zjI hT hns h⟩
def Fn2(t:Tb)(P:Aa)(w:Am)(K:AF)(mg:AO->Option AH)(base:Aw)(T:Nat->Option IC.Fn)(k:Nat):Prop:=
 ∀i d dv fd,t.tbl[i]?=AA d->ych K d dv (faA K t i) fd->yaM P w K mg base (CX1 P w) (2*k) (faA K t i) fd d.ps (spI K (clA K t) (yc T k) i)
def FnH(t:Tb)(P:Aa)(w:Am)(K:AF)(mg:AO->Option AH)(base:Aw)(T:Nat->Option IC.Fn)(k:Nat):Prop:=
 ∀i d fd,t.tbl[i]?=AA d->t.qh.contains d.gn=AC->ych K d .none (faA K t i) fd->ybS P w K mg base (2*k) (faA K t i) fd d.ps (spI K (clA K t) (yc T k) i)
def ze3(F:Fact t w K mg)(O:∀d∈t.tbl,okT t d=AC)(C:Fn2 t P w K mg base T k)(CH:FnH t P w K mg base T k){N:List AO}{q:AO}{sc:BQ}{f:AJ}{cdv:AH}{A:An}{outer:List BG}{s:AK}{H:Hp}{E:XK}:
  Glo t.gs (2*k) ⟨clA K t,yc T k,AC⟩ (yaQ (CX1 P w) P w K mg base N q sc f cdv A outer s H E):=by
 have B:=F.B;erw[yfl,AG]at B;let⟨B,B2⟩:=B;erw[ydR,AG,Ag]at B;erw[yfL,AG,Ag]at B2;let⟨⟨⟨⟨⟨b1,b2⟩,b3⟩,b4⟩,b5⟩,b6⟩:=B;let⟨⟨b7,b8⟩,b9⟩:=B2;have mgr:∀{x:AO} {a:AJ},nmA K x=AA a->mg x=AA (.ref a):=λh=>F.X _ _ (zl0 h);have same:∀{x y:AO} {a:AJ},(decide (x=y) || decide (nmA K x=nmA K y))=AC->nmA K y=AA a->nmA K x=AA a:=λ{x y a} h e=>by
  erw[DW,decide_eq_true_eq]at h;rcases h with rfl|h
  .exact e
  .rw[h];exact e
 refine⟨λx i h=>?_,λx i np ks sh h hk=>?_,λx v h=>?_,λx d h=>?_,λx c h=>?_,λx c i h=>?_,λx h=>?_,λy h=>?_,λc n h=>?_,λc n i h=>?_,λy D h=>?_,λx i h hv=>?_,λc y h=>?_,λd x h=>?_,λc x h=>?_,λx i h hq=>?_⟩
 .have q:=b1 _ (lkm h);erw[alB]at q;split at q
  .rename_i d hd;erw[AG]at q;let⟨dv,fd,r1,r2,r3⟩:=zbO F O hd;have hk:d.k=.fn:=by cases e:d.k<;>rw[e]at q<;>first|rfl|cases q.1
   erw[At,hk]at r2;erw[DvP,hk]at r3;subst r3;exact⟨_,fd,d.ps,C i d _ fd hd r1,mgr (same q.2 (zba r2.1)),r1.kp,r1.binds r2.2⟩
  .cases q
 .have q:=b1 _ (lkm h);erw[alB]at q;split at q
  .rename_i d hd;erw[AG]at q;let⟨dv,fd,r1,r2,r3⟩:=zbO F O hd;obtain⟨ds,hk'⟩:∃ds,d.k=.fd ds:=by cases e:d.k<;>rw[e]at q<;>first|exact⟨_,rfl⟩|cases q.1
   erw[At,hk']at r2;erw[DvP,hk']at r3;let⟨dT,o,its,n,rfl,e1,e2,e3⟩:=r3;have oo:=O d (AR hd);erw[okT,hk',AG,decide_eq_true_eq]at oo;have D:FnD K (λ_=>AA (.ref (faA K t i))) d.nm d.st d.ps ds (faA K t i) fd:=by
    let⟨oc,od,kV,doc,pm,an,cdv,ct,osl,z1,z2,z3⟩:=r1.ex;rw[oo.2]at z1 z3;exact⟨⟨oc,od,dT,kV,doc,pm,an,cdv,ct,osl,o,its,n,z1,z2,z3,e1,e2,e3⟩,r1.kp,rfl⟩
   exact⟨_,fd,d.ps,C i d _ fd hd r1,mgr (same q.2 (zba r2)),r1.kp,F.Kb.get _ (lkm hk) d ds hd hk' K _ _ _ D⟩
  .cases q
 .have q:=b1 _ (lkm h);erw[alB,AG]at q;let⟨q0,q⟩:=q;split at q
  .rename_i u hu;let⟨⟨y,r,z⟩,_⟩:=Ae.1 q;have hm:=F.X _ _ hu
   cases v with
   |int i=>
    have z:=z (λ_=>0) (λ_=>False) [] (λ_=>AD);erw[yd]at z;subst z;let⟨tk,rfl⟩:=r;exact .inr ⟨i,rfl,tk,hm⟩
   |tp b vs=>
    have z0:=z (λ_=>0) (λ_=>False) [] (λ_=>AD);erw[yd]at z0;let⟨a,xs,rfl,_⟩:=z0;have r:u=.ref a:=r;subst r;exact .inl ⟨a,hm,λB φ H=>z _ B φ H⟩
   |_=>cases q0
  .cases q
 .have q:=b1 _ (lkm h);erw[alB,DF,AG,decide_eq_true_eq]at q;let⟨p,hp,rfl,q⟩:=q;let⟨⟨e⟩,_⟩:=Ae.1 q;rw[<-e];exact F.D.get p hp _
 .have q:=b1 _ (lkm h);erw[alB,AG,decide_eq_true_eq,C8]at q;let⟨q1,q2,q3⟩:=q;let⟨a,ha⟩:=Ae.1 q2;have e:clA K t c=a:=by erw[clA,q1,Az,ha,B5]
  erw[ha,Ec]at q3;exact⟨by show mg x=AA (.ref (clA K t c));rw[e];exact mgr ha,by show DL K (clA K t c) _ _=AC;rw[e];exact q3⟩
 .have q:=b1 _ (lkm h);erw[alB,AG,decide_eq_true_eq]at q;let⟨⟨q1,q2⟩,q3⟩:=q;let⟨a,ha⟩:=Ae.1 q2;have e:clA K t c=a:=by erw[clA,q1,Az,ha,B5]
  split at q3
  .rename_i d hd
   cases hk:d.k with
   |ini c'=>
    rw[hk]at q3;erw[AG,decide_eq_true_eq]at q3;let⟨rfl,hn⟩:=q3;let⟨dv,fd,r1,r2,r3⟩:=zbO F O hd;erw[At,hk]at r2;erw[DvP,hk]at r3;subst r3;let⟨r0,q',r4,r5,r6,r7,r8⟩:=r2;have e2:q'=a:=by
     have:nmA K (cnm t c')=AA q':=zba r4;erw[cnm,q1,B5,ha]at this;exact(A6 this).symm
    subst e2;rw[hn]at r5;refine⟨by show mg x=AA (.ref (clA K t c'));rw[e];exact mgr ha,_,fd,d.ps,?_,C i d _ fd hd r1,r1.binds r0⟩;show Mk K (clA K t c') _;rw[e];exact⟨r7,r5,r6,r8⟩
   |_=>rw[hk]at q3;cases q3
  .cases q3
 .have q:x∈t.bs:=by simpa [Tb.gs] using h
  have:=b2 x q;erw[decide_eq_true_eq]at this;exact F.X _ _ this
 .simp only[Tb.gs,DF]at h;let⟨y',hy,e⟩:=h;have:=zlR e;subst this;have q:=b3 y hy;erw[yfw,AG,decide_eq_true_eq]at q;exact⟨q.1.1.1.1.1,q.1.1.1.1.2,q.1.1.1.2,q.1.1.2,q.1.2,q.2⟩
 .have q:(c,n)∈t.fl:=by simpa [Tb.gs] using h
  have q:=b4 _ q;erw[AG,C8,decide_eq_true_eq]at q;let⟨q1,q2,q3⟩:=q;let⟨a,ha⟩:=Ae.1 q2;erw[ha,Ec]at q3;have e:clA K t c=a:=zeZ ha q1;show Cls K (clA K t c)/\yaq K (clA K t c) n;rw[e];exact⟨zfZ q3.1,q3.2⟩
 .have q:=b5 _ (lkm h);erw[AG,C8,decide_eq_true_eq]at q;let⟨q1,q2,q3,q4⟩:=q;let⟨a,ha⟩:=Ae.1 q2;erw[ha,Ec]at q3;have e:clA K t c=a:=zeZ ha q1;split at q4
  .rename_i d hd;erw[AG,decide_eq_true_eq]at q4;let⟨q4,hn⟩:=q4
   cases hk:d.k with
   |me c'=>
    rw[hk]at q4;have q4:c'=c:=by simpa using q4
    subst q4;let⟨dv,fd,r1,r2,r3⟩:=zbO F O hd;erw[At,hk]at r2;erw[DvP,hk]at r3;subst r3;let⟨r0,q',r4,r5,r6⟩:=r2;have e2:q'=a:=A6 ((zba r4).symm.trans ha);subst e2;refine⟨by show Cls K (clA K t c');rw[e];exact zfZ q3,_,fd,d.ps,?_,C i d _ fd hd r1,r1.binds r0⟩;show Meth K (clA K t c') n _;rw[e,<-hn];exact⟨r5,r6,r1.kp⟩
   |_=>rw[hk]at q4;cases q4
  .cases q4
 .have q:=b6 _ (lkm h);have g:∀s j,D.lookup s=AA j->∃d dv fd,t.tbl[j]?=AA d/\ych K d dv (faA K t j) fd/\dv=.none/\ya8 d/\fd=fdA K t j/\d.ps=psA t j:=λs j hj=>by
   have q:=q _ (lkm hj);split at q
   .rename_i d hd;let⟨dv,fd,r1,r2,r3⟩:=zbO F O hd;have hk:d.k=.fn:=by cases e:d.k<;>rw[e]at q<;>first|rfl|cases q
    erw[At,hk]at r2;erw[DvP,hk]at r3;let⟨oc,od,kV,doc,pm,an,cdv,ct,osl,_,lk,_⟩:=r1.ex;exact⟨d,dv,fd,hd,r1,r3,r2.2,by erw[fdA,lk],by erw[psA,hd]⟩
   .cases q
  refine⟨faA K t,fdA K t,psA t,⟨λs j hj=>?_,λs j hj=>?_,λs j hj=>?_⟩,F.Ml.get _ (lkm h)⟩
  .let⟨d,dv,fd,h1,h2,h3,h4,h5,h6⟩:=g s j hj;rw[<-h5,<-h6];exact C j d dv fd h1 h2
  .let⟨d,dv,fd,h1,h2,h3,h4,h5,h6⟩:=g s j hj;exact h2.kp
  .let⟨d,dv,fd,h1,h2,h3,h4,h5,h6⟩:=g s j hj;subst h3;rw[<-h5,<-h6];exact h2.binds h4
 .have q:=b1 _ (lkm h);erw[alB]at q;split at q
  .rename_i d hd;erw[AG]at q;let⟨dv,fd,r1,r2,r3⟩:=zbO F O hd;have hk:d.k=.fn:=by cases e:d.k<;>rw[e]at q<;>first|rfl|cases q.1
   erw[At,hk]at r2;have hn:=same q.2 (zba r2.1);have e:t.cn.lookup (1000+i)=AA x:=of_decide_eq_true hv;have z:clA K t (1000+i)=faA K t i:=by erw[clA,e,Az,hn,B5]
   show mg x=AA (.ref (clA K t (1000+i)));rw[z];exact mgr hn
  .cases q
 .let⟨p,hp,q⟩:=DF.1 h;erw[AG,beq_iff_eq]at q;let⟨rfl,q⟩:=q;have:=zlQ q;subst this;have b:=b7 p hp;erw[decide_eq_true_eq]at b;exact⟨zkB b.1,b.2⟩
 .have b:=b8 _ (El.1 h);erw[decide_eq_true_eq]at b;let⟨a,ha⟩:=Ae.1 b.2;have e:clA K t d=a:=by erw[clA,b.1,Az,ha,B5]
  show mg x=AA (.ref (clA K t d));rw[e];exact mgr ha
 .have b:=b9 _ (El.1 h)
  cases ha:nmA K x with
  |none=>rw[ha]at b;cases b
  |some W=>
   rw[ha]at b;exact⟨W,mgr ha,of_decide_eq_true b⟩
 .have q:=b1 _ (lkm h);erw[alB]at q;split at q
  .rename_i d hd;erw[AG]at q;let⟨dv,fd,r1,r2,r3⟩:=zbO F O hd;have hk:d.k=.fn:=by cases e:d.k<;>rw[e]at q<;>first|rfl|cases q.1
   erw[At,hk]at r2;erw[DvP,hk]at r3;subst r3;have hq:t.qh.contains d.gn=true:=by simpa only[Tb.gs,hd] using hq
   exact⟨_,fd,d.ps,CH i d fd hd hq r1,mgr (same q.2 (zba r2.1)),r1.kp,r1.binds r2.2⟩
  .cases q
def zgz(F:Fact t w K mg)(O:∀d∈t.tbl,okT t d=AC)(hT:∀i d,t.tbl[i]?=AA d->T i=AA d.fn):∀k,Fn2 t P w K mg base T k/\FnH t P w K mg base T k
 |0=>⟨λi d dv fd _ _=>ziv,λi d fd _ _ _=>ziQ⟩
 |k+1=>by
  have ih:=zgz F O hT k;refine⟨λi d dv fd h R=>?_,λi d fd h hq R=>?_⟩
  .have o:=O d (AR h);erw[okT,okD,AG,decide_eq_true_eq]at o;let⟨⟨⟨⟨⟨o1,o2⟩,o3⟩,o4⟩,_⟩,_⟩:=o;let⟨⟨y⟩,_⟩:=Ae.1 o4;exact R.ok (m:=2*k+1) (hT i d h) (zjh o1) o2 o3 λ_ _ _ _ _ _ hr=>y (2*k) _ _ ⟨rfl,rfl,λ_=>rfl,hr.h,λ_=>hr.hd,λ_=>⟨own1,λ_=>rfl,rfl⟩,λ_=>⟨⟨_,rfl⟩,rfl,rfl⟩,ze3 F O ih.1 ih.2⟩
  .have o:=O d (AR h);erw[okT,okD,AG,decide_eq_true_eq]at o;let⟨⟨⟨⟨⟨o1,o2⟩,o3⟩,_⟩,oq⟩,_⟩:=o;have oh:okH t d=true:=by rw[hq]at oq;simpa using oq
   erw[okH,AG,Bk]at oh;let⟨⟨y⟩,_⟩:=Ae.1 oh.1.1;refine znn (m:=2*k+1) (hT i d h) ⟨R.ex,R.kp⟩ (zjh o1) o2 o3 oh.1.2 λcdv A outer s H hr=>y (2*k) _ _ ⟨rfl,rfl,(λh=>nomatch h),hr,(λh=>nomatch h),(λh=>nomatch h),(λh=>nomatch h),?_⟩;have G:=ze3 (N:=d.N) (q:=d.q) (sc:=yu d.st) (f:=faA K t i) (cdv:=cdv) (A:=A) (outer:=outer) (s:=s) (H:=H) (E:=E0) F O ih.1 ih.2;exact⟨G.F,G.Q,G.C,G.D,G.E,G.N,G.B,G.T,G.A,G.M,λy D h=>let ⟨fa,fdd,ps,M,d⟩:=G.K y D h;⟨fa,fdd,ps,⟨M.F,M.kp,M.b⟩,d⟩,G.V,G.I,G.L,G.H,G.Z⟩
def zkV(F:Fact t w K mg)(O:∀d∈t.tbl,okT t d=AC)(hT:∀i d,t.tbl[i]?=AA d->T i=AA d.fn)(k:Nat):Fn2 t P w K mg base T k:=(zgz F O hT k).1
def yc9:Nat->(List AH->Prop)->Prop
 |0,P=>P []
 |n+1,P=>∀a,yc9 n λus=>P (a::us)
theorem yc9.get:∀{n:Nat} {P:List AH->Prop},yc9 n P->∀us,us.length=n->P us
 |0,P,h,[],_=>h
 |n+1,P,h,a::us,e=>(h a).get us (by simpa using e)
theorem kbP{i np:Nat}{ks:List AO}{sh:List (Option Int)}{d:Df}{ds:List Int}(hd:t.tbl[i]?=AA d)(hk:d.k=.fd ds)(h1:ks.length=nKw sh)(h2:sh.length=(ds.drop (ds.length-sh.length)).length)
  (h3:((sh.zip (ds.drop (ds.length-sh.length))).all λp=>p.1.all λi=>decide (i=p.2))=AC) (hp:0<d.ps.length)
  (h:∀(dT:AJ) (kV doc pm:AH) (an:Option AJ) (cdv ct:AH),yc9 np λus=>yc9 ks.length λws=>yc9 ds.length λits=>
   ∃k,bindArgs (BU d.nm d.nm (yad d.st) (yR d.st) (yu d.st) (.ref dT) kV doc pm an cdv ct) ⟨us,ks.zip ws⟩=seqItems? (.ref dT) >>= k/\k (AA its.toArray)=pure (d.ps.zip (us++ya6 sh ws (its.drop (ds.length-sh.length))))):KbP t ((i,np,ks),sh):=by
 intro d' ds' e1 e2 K mg f fd D;have e1:t.tbl[i]?=AA d':=e1;rw[hd]at e1
 cases e1
 rw[hk]at e2
 cases e2
 exact kbD D h1 h2 h3 (λdT kV doc pm an cdv ct us ws its z1 z2 z3=>(((h dT kV doc pm an cdv ct).get us z1).get ws z2).get its z3) hp
theorem all_mk2{h:Aw}{fx:AJ}(X:K.In h)(G:h.Ns mainGlobals mg)(hfa:mg "law"=AA (.ref fx))(R:ybP (yda K (cnm t)) t.tbl)(B:yfl K t=AC)(D:ybP (λp=>∀cl,GD K w mg cl p.1 p.2) t.dd)(Kb:ybP (KbP t) t.kb)(Ml:ybP (λp=>GDF K w mg (faA K t) p.1 p.2) t.ml)
  (O:t.tbl.all (okT t)=AC) (hT:∀i d,t.tbl[i]?=AA d->T i=AA d.fn) {L:Nat} {st:Bc} {N:List AO} {fn:IC.Fn} (hL:t.tbl[L]?=AA ⟨"law","law","law",st,N,["_law_script"],fn,.fn⟩) (lvl:Nat):
  ∃fd:Ax,(∀(s:AK) (v:AH),EZ s fd ⟨[v],[]⟩ [("_law_script",v)])/\∀base:Aw,K.In base->base.Ns mainGlobals mg->yaM P w K mg base (CX1 P w) (2*lvl) fx fd ["_law_script"] (spX K (yc T lvl) L):=by
 have F:Fact t w K mg:=⟨λx u e=>by
  cases u with
  |none=>exact PySem.W.mg_none_of X G e
  |some v=>exact EG X G e,R,B,D,Kb,Ml⟩
 have O':=Ag.1 O;let⟨dv,fd,r1,r2,r3⟩:=zbO F O' hL;have r3:dv=.none:=r3;subst r3;have r2:BE K mainGlobals "law"=AA (AA (.ref (faA K t L)))/\ya8 _:=r2;have e:=Gi (A6 (hfa.symm.trans (EG X G r2.1)));subst e;refine⟨fd,λs v=>?_,λbase _ _=>(zkV F O' hT lvl L _ _ fd hL r1).imp λ_ _ _ _ h=>h _⟩;let⟨oc,od,kV,doc,pm,an,cdv,ct,osl,rfl,_⟩:=r1.ex;exact .of_eq (r2.2 kV doc pm an cdv ct v)
end
end L2
namespace IC
open PySem
def yig:PV:=(.int 10000000000000000000000000000000000000000)
def yix:PV:=(.int 2)
def yiy:PV:=(.int 4000)
def yiz:PV:=(.int 4000)
def yiA:PV:=(.int 20)
def yiB:PV:=(.int 2)
def ygg:PV:=(.int 200)
def yb:List (AO×PV):=[(AE "set",(.tp AC [(.str "cell"),(.str "figure")])),(AE "move",(.tp AC [(.str "cell"),(.str "cell")])),(AE "bare",(.tp AC [(.str "cell"),(.str "cell")])),(AE "sum",(.tp AC [(.str "cell"),(.str "cell"),(.str "cell")])),(AE "less",(.tp AC [(.str "cell"),(.str "cell"),(.str "cell")])),(AE "both",(.tp AC [(.str "cell"),(.str "cell"),(.str "cell")])),(AE "any",(.tp AC [(.str "cell"),(.str "cell"),(.str "cell")])),(AE "odd",(.tp AC [(.str "cell"),(.str "cell"),(.str "cell")])),(AE "twice",(.tp AC [(.str "cell"),(.str "cell")])),(AE "half",(.tp AC [(.str "cell"),(.str "cell")])),(AE "times",(.tp AC [(.str "cell"),(.str "cell"),(.str "cell"),(.str "cell")])),(AE "mark",(.tp AC [(.str "figure")])),(AE "ask",(.tp AC [(.str "cell")]))]
section zq
local macro_rules|`(#[$x,*])=>do
 let mut a←`(.e)
 for y in x.getElems.reverse do a←`(.k $y $a)
 pure a
def ym:Fn:=⟨3,3,AC,#[.ret (.and (.isi (.v 0) [.int]) (.and (.not (.isi (.v 0) [.bool])) (.chain .le .le (.v 1) (.v 0) (.v 2))))]⟩
def yk:Fn:=⟨1,1,AC,#[.ret (.and (.isi (.v 0) [.str]) (.and (.cmp .eq (.blt .len #[.v 0]) (.i 1)) (.chain .le .le (.s "a") (.v 0) (.s "z"))))]⟩
def yn:Fn:=⟨2,2,AC,#[.ite (.or (.not (.isi (.v 0) [.tuple])) (.cmp .ne (.blt .len #[.v 0]) (.v 1))) #[.ret (.cst (.bl AB))] .e,.ret (.blt .all #[.comp [AD] (.n 0) (.seq (.v 0)) (.cst (.bl AC)) (.call 0 #[.v 0,.neg (.cst ygg),.cst ygg])])]⟩
def yhU:Fn:=⟨1,1,AC,#[.ret (.call 5 #[.v 0,.cst (.bl AB)])]⟩
def yhV:Fn:=⟨1,1,AC,#[.ret (.call 5 #[.v 0,.cst (.bl AC)])]⟩
def yH:Fn:=⟨2,4,AC,#[.ite (.or (.not (.call 6 #[.v 0])) (.cmp .ne (.blt .len #[.v 0]) (.bin .add (.blt .len #[.dix yb (.idx (.v 0) (.i 0))]) (.i 1)))) #[.ret (.cst (.bl AB))] .e,.for (.t [2,3]) (.zip (.dix yb (.idx (.v 0) (.i 0))) (.slc (.v 0) (.i 1) (.cst .non))) #[.ite (.not (.call 7 #[.v 2,.v 3,.v 1])) #[.ret (.cst (.bl AB))] .e],.ret (.or (.cmp .ne (.idx (.v 0) (.i 0)) (.s "times")) (.cmp .ne (.idx (.v 0) (.i 1)) (.idx (.v 0) (.i 2))))]⟩
def yce:Fn:=⟨1,1,AC,#[.ret (.and (.isi (.v 0) [.tuple]) (.and (.cmp .gt (.blt .len #[.v 0]) (.i 0)) (.and (.isi (.idx (.v 0) (.i 0)) [.str]) (.din (.idx (.v 0) (.i 0)) yb))))]⟩
def ygv:Fn:=⟨3,3,AC,#[.ite (.cmp .eq (.v 0) (.s "figure")) #[.ret (.call 0 #[.v 1,.i 0,.i 1])] .e,.ret (.ite (.v 2) (.call 9 #[.v 1]) (.call 8 #[.v 1]))]⟩
def yet:Fn:=⟨1,1,AC,#[.ret (.and (.call 10 #[.v 0]) (.call 0 #[.idx (.v 0) (.i 1),.i 0,.i 99]))]⟩
def yT:Fn:=⟨1,1,AC,#[.ret (.and (.call 10 #[.v 0]) (.call 2 #[.idx (.v 0) (.i 1),.i 4]))]⟩
def yY:Fn:=⟨1,1,AC,#[.ret (.and (.isi (.v 0) [.tuple]) (.and (.cmp .eq (.blt .len #[.v 0]) (.i 2)) (.call 1 #[.idx (.v 0) (.i 0)])))]⟩
def yv:Fn:=⟨1,1,AC,#[.ret (.and (.isi (.v 0) [.tuple]) (.and (.cmp .le (.blt .len #[.v 0]) (.cst yiA)) (.blt .all #[.comp [AD] (.n 0) (.seq (.v 0)) (.cst (.bl AC)) (.call 13 #[.v 0])])))]⟩
def yhW:Fn:=⟨4,4,AC,#[.ret (.bin .add (.bin .add (.bin .add (.idx (.v 0) (.i 0)) (.bin .mul (.idx (.v 0) (.i 1)) (.v 2))) (.bin .mul (.idx (.v 0) (.i 2)) (.v 3))) (.bin .mul (.idx (.v 0) (.i 3)) (.v 1)))]⟩
def yl:Fn:=⟨1,4,AC,#[.ite (.or (.not (.isi (.v 0) [.tuple])) (.cmp .ne (.blt .len #[.v 0]) (.i 3))) #[.ret (.cst (.bl AB))] .e,.asg (.t [1,2,3]) (.v 0),.ret (.and (.call 0 #[.v 1,.bin .sub (.i 1) (.cst yig),.bin .sub (.cst yig) (.i 1)]) (.and (.call 2 #[.v 2,.i 6]) (.call 14 #[.v 3])))]⟩
def yy:Fn:=⟨1,1,AC,#[.ret (.and (.isi (.v 0) [.tuple]) (.and (.cmp .le (.blt .len #[.v 0]) (.cst yiB)) (.blt .all #[.comp [AD] (.n 0) (.seq (.v 0)) (.cst (.bl AC)) (.call 15 #[.v 0])])))]⟩
def yi:Fn:=⟨1,1,AC,#[.ite (.or (.not (.isi (.v 0) [.tuple])) (.cmp .eq (.blt .len #[.v 0]) (.i 0))) #[.ret (.cst (.bl AB))] .e,.ite (.cmp .eq (.idx (.v 0) (.i 0)) (.s "mark")) #[.ret (.cmp .eq (.blt .len #[.v 0]) (.i 1))] .e,.ite (.or (.cmp .ne (.idx (.v 0) (.i 0)) (.s "slice")) (.or (.cmp .ne (.blt .len #[.v 0]) (.i 4)) (.not (.call 1 #[.idx (.v 0) (.i 1)])))) #[.ret (.cst (.bl AB))] .e,.ret (.and (.call 2 #[.idx (.v 0) (.i 2),.i 4]) (.call 2 #[.idx (.v 0) (.i 3),.i 4]))]⟩
def yih:Fn:=⟨3,3,AB,#[.sfl 20 (.v 0) (AE "w") (.v 1),.sfl 20 (.v 0) (AE "n") (.v 2),.sfl 20 (.v 0) (AE "steps") (.newl .e),.sfl 20 (.v 0) (AE "rows") (.i 0),.sfl 20 (.v 0) (AE "rounds") (.i 0)]⟩
def ye:Fn:=⟨3,4,AB,#[.for (.n 3) (.seq (.v 1)) #[.ite (.cmp .eq (.idx (.v 3) (.i 0)) (.s "row")) #[.expr (.mcl 20 20 (AE "add_row") (.v 0) #[.idx (.v 3) (.i 1),.v 2])] #[.expr (.mcl 20 18 (AE "go_rounds") (.v 0) #[.v 3,.v 2])]]]⟩
def yg:Fn:=⟨3,5,AB,#[.asg (.n 3) (.blt .max #[.i 0,.mcl 20 19 (AE "count_of") (.v 0) #[.idx (.v 1) (.i 1)]]),.for (.n 4) (.range1 (.v 3)) #[.expr (.mcl 20 22 (AE "add_asked") (.v 0) #[.idx (.v 1) (.i 2),.bin .add (.v 2) (.tup #[.v 4])]),.expr (.mcl 20 21 (AE "add_round") (.v 0) .e),.expr (.mcl 20 17 (AE "go_parts") (.v 0) #[.idx (.v 1) (.i 3),.bin .add (.v 2) (.tup #[.v 4])])],.expr (.mcl 20 22 (AE "add_asked") (.v 0) #[.idx (.v 1) (.i 2),.bin .add (.v 2) (.tup #[.v 3])])]⟩
def y9:Fn:=⟨2,5,AB,#[.asg (.t [2,3,4]) (.v 1),.ret (.bin .add (.bin .add (.v 2) (.bin .mul (.v 3) (.fld 20 (.v 0) (AE "n")))) (.bin .mul (.bin .mul (.v 4) (.fld 20 (.v 0) (AE "w"))) (.fld 20 (.v 0) (AE "n"))))]⟩
def y6:Fn:=⟨3,6,AB,#[.asg (.t [3,4]) (.call 28 #[.v 2]),.asg (.n 5) (.blt .tuple #[.comp [AD,AA 3,AA 4,AA 0] (.n 0) (.seq (.v 1)) (.cst (.bl AC)) (.call 29 #[.v 0,.fld 20 (.v 3) (AE "n"),.v 1,.v 2])]),.sfl 20 (.v 0) (AE "rows") (.bin .add (.fld 20 (.v 0) (AE "rows")) (.i 1)),.ite (.or (.not (.call 3 #[.v 5])) (.cmp .gt (.fld 20 (.v 0) (AE "rows")) (.cst yiz))) #[.raise 5 (.s "what comes is no row, or one row too many")] .e,.expr (.mth .append (.fld 20 (.v 0) (AE "steps")) #[.tup #[.s "row",.v 5]])]⟩
def yhX:Fn:=⟨1,1,AB,#[.sfl 20 (.v 0) (AE "rounds") (.bin .add (.fld 20 (.v 0) (AE "rounds")) (.i 1)),.ite (.cmp .gt (.fld 20 (.v 0) (AE "rounds")) (.cst yiy)) #[.nope] .e]⟩
def yhY:Fn:=⟨3,5,AB,#[.asg (.t [3,4]) (.call 28 #[.v 2]),.expr (.mth .append (.fld 20 (.v 0) (AE "steps")) #[.tup #[.s "asked",.v 1,.v 3,.v 4]])]⟩
def yhZ:Fn:=⟨1,1,AC,#[.ret (.call 26 #[.v 0,.cst yix])]⟩
def yeA:Fn:=⟨3,3,AC,#[.ret (.blt .tuple #[.comp [AD] (.n 0) (.seq (.call 25 #[.v 0,.v 1,.v 2])) (.cmp .eq (.idx (.v 0) (.i 0)) (.s "row")) (.idx (.v 0) (.i 1))])]⟩
def yeK:Fn:=⟨3,4,AC,#[.ite (.not (.call 23 #[.v 0])) #[.nope] .e,.asg (.n 3) (.new 20 16 #[.v 1,.v 2]),.expr (.mcl 20 17 (AE "go_parts") (.v 3) #[.v 0,.tup .e]),.ret (.frz (.fld 20 (.v 3) (AE "steps")))]⟩
def ygY:Fn:=⟨2,2,AC,#[.ret (.and (.isi (.v 0) [.tuple]) (.blt .all #[.comp [AD,AA 1] (.n 0) (.seq (.v 0)) (.cst (.bl AC)) (.call 27 #[.v 0,.v 1])]))]⟩
def yw:Fn:=⟨2,2,AC,#[.ite (.or (.not (.isi (.v 0) [.tuple])) (.cmp .eq (.blt .len #[.v 0]) (.i 0))) #[.ret (.cst (.bl AB))] .e,.ite (.cmp .eq (.idx (.v 0) (.i 0)) (.s "row")) #[.ret (.and (.cmp .eq (.blt .len #[.v 0]) (.i 2)) (.call 4 #[.idx (.v 0) (.i 1)]))] .e,.ite (.or (.cmp .ne (.idx (.v 0) (.i 0)) (.s "rounds")) (.or (.cmp .ne (.blt .len #[.v 0]) (.i 4)) (.cmp .eq (.v 1) (.i 0)))) #[.ret (.cst (.bl AB))] .e,.ret (.and (.call 2 #[.idx (.v 0) (.i 1),.i 3]) (.and (.call 11 #[.idx (.v 0) (.i 2)]) (.call 26 #[.idx (.v 0) (.i 3),.bin .sub (.v 1) (.i 1)])))]⟩
def yg2:Fn:=⟨1,1,AC,#[.ret (.slc (.bin .add (.v 0) (.tup #[.i 0,.i 0])) (.cst .non) (.i 2))]⟩
def ydc:Fn:=⟨4,4,AC,#[.ite (.not (.isi (.v 0) [.tuple])) #[.ret (.v 0)] .e,.ret (.tup #[.idx (.v 0) (.i 0),.call 12 #[.idx (.v 0) (.i 1),.v 1,.v 2,.v 3]])]⟩
def yh0:Fn:=⟨1,1,AB,#[.ret (.newl #[.slc (.v 0) (.cst .non) (.i 63),.i 0,.i 0,.cst (.bl AB)])]⟩
def yau:Fn:=⟨1,8,AC,#[.asg (.n 1) (.tup #[.i 2147483647,.i 2147483629,.i 2147483587,.i 2147483579,.i 2147483563]),.asg (.n 2) (.i 0),.for (.t [3,4]) (.enum (.v 1)) #[.asg (.n 5) (.bin .add (.v 0) (.idx (.tup #[.i 11,.i 101,.i 1009,.i 10007,.i 100003]) (.v 3))),.asg (.n 5) (.bin .mod (.bin .mul (.v 5) (.bin .add (.i 48271) (.bin .mul (.i 2) (.v 3)))) (.v 4)),.asg (.n 6) (.bin .mod (.bin .mul (.v 5) (.v 5)) (.v 4)),.asg (.n 7) (.bin .mod (.bin .mul (.bin .mod (.bin .mul (.v 6) (.v 6)) (.v 4)) (.v 5)) (.v 4)),.asg (.n 2) (.bin .add (.bin .mul (.v 2) (.v 4)) (.v 7))],.ret (.v 2)]⟩
def yai:Fn:=⟨1,4,AB,#[.asg (.t [1,2]) (.tup #[.idx (.v 0) (.i 0),.idx (.v 0) (.i 1)]),.asg (.n 3) (.bin .add (.bin .mul (.i 31) (.v 2)) (.i 7)),.ite (.cmp .gt (.blt .len #[.v 1]) (.i 0)) #[.asg (.n 3) (.bin .mul (.i 104729) (.bin .fdiv (.v 2) (.blt .len #[.v 1]))),.asg (.n 3) (.bin .add (.v 3) (.idx (.v 1) (.bin .mod (.v 2) (.blt .len #[.v 1]))))] .e,.six (.v 0) (.i 1) (.bin .add (.v 2) (.i 1)),.six (.v 0) (.i 3) (.or (.cmp .ge (.v 2) (.blt .len #[.v 1])) (.cmp .lt (.v 3) (.bin .pow (.i 10) (.i 18)))),.ite (.idx (.v 0) (.i 3)) #[.six (.v 0) (.i 2) (.call 31 #[.v 3])] #[.six (.v 0) (.i 2) (.bin .sub (.v 3) (.bin .pow (.i 10) (.i 18)))]]⟩
def yab:Fn:=⟨2,4,AB,#[.asg (.n 2) (.i 0),.while (.and (.cmp .lt (.v 2) (.i 64)) (.or (.cmp .eq (.idx (.v 0) (.i 2)) (.i 0)) (.and (.idx (.v 0) (.i 3)) (.cmp .lt (.idx (.v 0) (.i 2)) (.bin .mul (.v 1) (.i 4096)))))) #[.expr (.call 32 #[.v 0]),.aug 2 .add (.i 1),.ite (.and (.idx (.v 0) (.i 3)) (.cmp .lt (.idx (.v 0) (.i 2)) (.bin .mul (.v 1) (.i 4096)))) #[.six (.v 0) (.i 2) (.bin .add (.idx (.v 0) (.i 2)) (.bin .mul (.bin .mul (.v 1) (.i 4096)) (.bin .add (.i 1) (.bin .mod (.idx (.v 0) (.i 2)) (.i 4093)))))] .e],.asg (.n 3) (.bin .mod (.idx (.v 0) (.i 2)) (.v 1)),.six (.v 0) (.i 2) (.bin .fdiv (.idx (.v 0) (.i 2)) (.v 1)),.ret (.v 3)]⟩
def yh1:Fn:=⟨2,2,AB,#[.ret (.tup #[.bin .add (.i 4) (.call 33 #[.v 0,.i 13]),.bin .add (.i 1) (.call 33 #[.v 0,.v 1])])]⟩
def yh2:Fn:=⟨1,1,AC,#[.ret (.and (.isi (.v 0) [.int]) (.not (.isi (.v 0) [.bool])))]⟩
def yfx:Fn:=⟨1,1,AC,#[.ret (.and (.isi (.v 0) [.str]) (.and (.cmp .eq (.blt .len #[.v 0]) (.i 1)) (.cmp .isin (.v 0) (.s "abcdefghijklmnopqrstuvwxyz"))))]⟩
def yh3:Fn:=⟨4,4,AC,#[.ret (.bin .add (.bin .add (.bin .add (.idx (.v 0) (.i 0)) (.bin .mul (.idx (.v 0) (.i 1)) (.v 1))) (.bin .mul (.idx (.v 0) (.i 2)) (.v 2))) (.bin .mul (.idx (.v 0) (.i 3)) (.v 3)))]⟩
def yQ:Fn:=⟨4,6,AC,#[.asg (.n 4) (.newl #[.idx (.v 0) (.i 0)]),.for (.n 5) (.seq (.slc (.v 0) (.i 1) (.cst .non))) #[.ite (.isi (.v 5) [.tuple]) #[.expr (.mth .append (.v 4) #[.tup #[.idx (.v 5) (.i 0),.call 37 #[.idx (.v 5) (.i 1),.v 1,.v 2,.v 3]]])] #[.expr (.mth .append (.v 4) #[.v 5])]],.ret (.blt .tuple #[.v 4])]⟩
def yh4:Fn:=⟨3,3,AC,#[.ret (.bin .add (.bin .add (.idx (.v 0) (.i 0)) (.bin .mul (.idx (.v 0) (.i 1)) (.v 2))) (.bin .mul (.bin .mul (.idx (.v 0) (.i 2)) (.v 1)) (.v 2)))]⟩
def yN:Fn:=⟨4,11,AC,#[.asg (.n 4) (.newl .e),.asg (.n 5) (.i 0),.for (.n 6) (.seq (.v 0)) #[.ite (.cmp .eq (.idx (.v 6) (.i 0)) (.s "row")) #[.expr (.mth .append (.v 4) #[.call 38 #[.idx (.v 6) (.i 1),.i 0,.i 0,.v 2]])] #[.for (.n 7) (.range1 (.blt .min #[.call 39 #[.idx (.v 6) (.i 1),.v 1,.v 2],.i 4001])) #[.aug 5 .add (.i 1),.for (.n 8) (.seq (.idx (.v 6) (.i 3))) #[.ite (.cmp .eq (.idx (.v 8) (.i 0)) (.s "row")) #[.expr (.mth .append (.v 4) #[.call 38 #[.idx (.v 8) (.i 1),.v 7,.i 0,.v 2]])] #[.ite (.and (.cmp .le (.v 5) (.i 4000)) (.cmp .le (.blt .len #[.v 4]) (.v 3))) #[.asg (.n 9) (.blt .min #[.blt .max #[.i 0,.call 39 #[.idx (.v 8) (.i 1),.v 1,.v 2]],.i 4001]),.aug 5 .add (.v 9),.for (.n 10) (.range1 (.v 9)) #[.ite (.and (.cmp .le (.v 5) (.i 4000)) (.cmp .le (.blt .len #[.v 4]) (.v 3))) #[.expr (.mth .extend (.v 4) #[.comp [AD,AA 7,AA 10,AA 2] (.n 0) (.seq (.idx (.v 8) (.i 3))) (.cst (.bl AC)) (.call 38 #[.idx (.v 0) (.i 1),.v 1,.v 2,.v 3])])] .e]] .e]],.ite (.or (.cmp .gt (.v 5) (.i 4000)) (.cmp .gt (.blt .len #[.v 4]) (.v 3))) #[.ret (.cst .non)] .e]]],.ite (.cmp .gt (.blt .len #[.v 4]) (.v 3)) #[.ret (.cst .non)] .e,.ret (.frz (.v 4))]⟩
def yh5:Fn:=⟨1,1,AB,#[.ret (.idx (.s "abcdefghijklmnopqrstuvwxyz") (.call 33 #[.v 0,.i 26]))]⟩
def yt:Fn:=⟨2,6,AB,#[.asg (.n 2) (.tup #[.s "set",.s "move",.s "bare",.s "sum",.s "less",.s "both",.s "any",.s "odd",.s "twice",.s "half",.s "times",.s "mark",.s "ask"]),.asg (.n 3) (.idx (.v 2) (.call 33 #[.v 0,.i 13])),.asg (.n 4) (.call 33 #[.v 0,.i 2]),.asg (.n 5) (.thw (.comp [AD,AA 1,AA 0] (.n 0) (.range1 (.i 4)) (.cst (.bl AC)) (.idx (.v 1) (.call 33 #[.v 2,.blt .len #[.v 1]])))),.ite (.cmp .eq (.v 3) (.s "mark")) #[.ret (.tup #[.v 3,.v 4])] .e,.ite (.cmp .eq (.v 3) (.s "ask")) #[.ret (.tup #[.v 3,.idx (.v 5) (.i 0)])] .e,.ite (.cmp .eq (.v 3) (.s "set")) #[.ret (.tup #[.v 3,.idx (.v 5) (.i 0),.v 4])] .e,.ite (.cmp .eq (.v 3) (.s "times")) #[.ite (.cmp .eq (.idx (.v 5) (.i 0)) (.idx (.v 5) (.i 1))) #[.six2 (.v 5) (.i 0) (.v 5) (.i 1) (.idx (.v 1) (.i 0)) (.idx (.v 1) (.i 1))] .e,.ret (.tup #[.v 3,.idx (.v 5) (.i 0),.idx (.v 5) (.i 1),.idx (.v 5) (.i 2),.idx (.v 5) (.i 3)])] .e,.ite (.cmp .isin (.v 3) (.tup #[.s "move",.s "bare",.s "twice",.s "half"])) #[.ret (.tup #[.v 3,.idx (.v 5) (.i 0),.idx (.v 5) (.i 1)])] .e,.ret (.tup #[.v 3,.idx (.v 5) (.i 0),.idx (.v 5) (.i 1),.idx (.v 5) (.i 2)])]⟩
def yA:Fn:=⟨1,1,AC,#[.ite (.or (.not (.isi (.v 0) [.tuple])) (.or (.cmp .ne (.blt .len #[.v 0]) (.i 2)) (.not (.call 36 #[.idx (.v 0) (.i 0)])))) #[.ret (.cst (.bl AB))] .e,.ret (.and (.call 35 #[.idx (.v 0) (.i 1)]) (.chain .le .le (.i 0) (.idx (.v 0) (.i 1)) (.i 99)))]⟩
def yh:Fn:=⟨1,2,AC,#[.ite (.or (.not (.isi (.v 0) [.tuple])) (.or (.cmp .lt (.blt .len #[.v 0]) (.i 2)) (.not (.isi (.idx (.v 0) (.i 0)) [.str])))) #[.ret (.cst (.bl AB))] .e,.ite (.cmp .eq (.idx (.v 0) (.i 0)) (.s "mark")) #[.ret (.and (.cmp .eq (.blt .len #[.v 0]) (.i 2)) (.and (.call 35 #[.idx (.v 0) (.i 1)]) (.cmp .isin (.idx (.v 0) (.i 1)) (.tup #[.i 0,.i 1]))))] .e,.ite (.cmp .eq (.idx (.v 0) (.i 0)) (.s "ask")) #[.ret (.and (.cmp .eq (.blt .len #[.v 0]) (.i 2)) (.call 43 #[.idx (.v 0) (.i 1)]))] .e,.ite (.cmp .eq (.idx (.v 0) (.i 0)) (.s "set")) #[.ret (.and (.cmp .eq (.blt .len #[.v 0]) (.i 3)) (.and (.call 43 #[.idx (.v 0) (.i 1)]) (.and (.call 35 #[.idx (.v 0) (.i 2)]) (.cmp .isin (.idx (.v 0) (.i 2)) (.tup #[.i 0,.i 1])))))] .e,.asg (.n 1) (.newd [("move",3),("bare",3),("twice",3),("half",3),("sum",4),("less",4),("both",4),("any",4),("odd",4)]),.dput (.v 1) (.s "times") (.i 5),.ite (.or (.cmp .ne (.mth .get (.v 1) #[.idx (.v 0) (.i 0),.i 0]) (.blt .len #[.v 0])) (.not (.blt .all #[.comp [AD] (.n 0) (.seq (.slc (.v 0) (.i 1) (.cst .non))) (.cst (.bl AC)) (.call 43 #[.v 0])]))) #[.ret (.cst (.bl AB))] .e,.ret (.or (.cmp .ne (.idx (.v 0) (.i 0)) (.s "times")) (.cmp .ne (.idx (.v 0) (.i 1)) (.idx (.v 0) (.i 2))))]⟩
def y7:Fn:=⟨1,4,AB,#[.asg (.n 1) (.call 33 #[.v 0,.i 8]),.asg (.n 2) (.call 33 #[.v 0,.i 100]),.asg (.n 3) (.comp [AD,AA 0] (.n 0) (.range1 (.i 3)) (.cst (.bl AC)) (.bin .sub (.call 33 #[.v 1,.i 4]) (.i 1))),.ite (.cmp .lt (.v 1) (.i 4)) #[.ret (.tup #[.v 2,.i 0,.i 0,.i 0])] .e,.ite (.cmp .lt (.v 1) (.i 7)) #[.ret (.tup #[.bin .add (.i 10) (.bin .mod (.v 2) (.i 60)),.idx (.v 3) (.i 0),.idx (.v 3) (.i 1),.idx (.v 3) (.i 2)])] .e,.ret (.blt .tuple #[.lst #[.idx (.tup #[.i 200,.neg (.i 200),.v 2,.i 0]) (.call 33 #[.v 0,.i 4]),.idx (.v 3) (.i 0),.idx (.v 3) (.i 1),.idx (.v 3) (.i 2)]])]⟩
def yo:Fn:=⟨1,4,AB,#[.asg (.n 1) (.newl .e),.for (.n 2) (.range1 (.bin .add (.i 2) (.call 33 #[.v 0,.i 3]))) #[.asg (.n 3) (.tup #[.call 41 #[.v 0],.call 45 #[.v 0]]),.ite (.nin (.v 3) (.v 1)) #[.expr (.mth .append (.v 1) #[.v 3])] .e],.ite (.cmp .eq (.blt .len #[.v 1]) (.i 1)) #[.expr (.mth .append (.v 1) #[.tup #[.idx (.idx (.v 1) (.i 0)) (.i 0),.tup #[.bin .add (.bin .mod (.idx (.idx (.idx (.v 1) (.i 0)) (.i 1)) (.i 0)) (.i 90)) (.i 1),.i 0,.i 0,.i 1]]])] .e,.ret (.call 42 #[.v 0,.v 1])]⟩
def yp:Fn:=⟨1,9,AB,#[.asg (.n 1) (.newl .e),.for (.n 2) (.range1 (.blt .max #[.i 0,.bin .sub (.call 33 #[.v 0,.i 6]) (.i 2)])) #[.asg (.n 3) (.newl .e),.for (.n 4) (.range1 (.call 33 #[.v 0,.i 3])) #[.asg (.n 5) (.tup #[.s "mark"]),.ite (.cmp .gt (.call 33 #[.v 0,.i 4]) (.i 0)) #[.asg (.n 5) (.tup #[.s "slice",.call 41 #[.v 0],.call 45 #[.v 0],.call 45 #[.v 0]])] .e,.expr (.mth .append (.v 3) #[.v 5])],.asg (.n 6) (.bin .mul (.call 33 #[.v 0,.bin .pow (.i 10) (.i 40)]) (.bin .sub (.i 1) (.bin .mul (.i 2) (.call 33 #[.v 0,.i 2])))),.asg (.n 7) (.idx (.tup #[.bin .sub (.call 33 #[.v 0,.i 7]) (.i 3),.v 6]) (.call 33 #[.v 0,.i 2])),.asg (.n 8) (.thw (.comp [AD,AA 0] (.n 0) (.range1 (.i 6)) (.cst (.bl AC)) (.bin .sub (.call 33 #[.v 1,.i 5]) (.i 1)))),.six (.v 8) (.call 33 #[.v 0,.i 6]) (.idx (.tup #[.i 0,.i 1,.i 200,.neg (.i 200)]) (.call 33 #[.v 0,.i 4])),.expr (.mth .append (.v 1) #[.tup #[.v 7,.blt .tuple #[.v 8],.blt .tuple #[.v 3]]])],.ret (.blt .tuple #[.v 1])]⟩
def yx:Fn:=⟨3,6,AB,#[.asg (.n 3) (.blt .int #[.and (.cmp .lt (.bin .mul (.v 1) (.v 2)) (.i 13)) (.cmp .eq (.call 33 #[.v 0,.i 4]) (.i 0))]),.asg (.n 4) (.tup #[.bin .mul (.call 33 #[.v 0,.i 4]) (.bin .sub (.i 1) (.v 3)),.bin .mul (.call 33 #[.v 0,.i 3]) (.bin .sub (.i 1) (.v 3)),.v 3]),.asg (.n 5) (.call 33 #[.v 0,.i 8]),.ite (.cmp .eq (.v 5) (.i 0)) #[.asg (.n 4) (.tup #[.bin .sub (.i 0) (.call 33 #[.v 0,.i 201]),.i 0,.i 0])] .e,.ite (.cmp .eq (.v 5) (.i 1)) #[.asg (.n 4) (.tup #[.bin .sub (.i 0) (.call 33 #[.v 0,.i 4]),.i 2,.i 0])] .e,.ite (.cmp .eq (.v 5) (.i 2)) #[.asg (.n 4) (.tup #[.bin .add (.i 4) (.call 33 #[.v 0,.i 8]),.bin .sub (.neg (.i 1)) (.call 33 #[.v 0,.i 2]),.i 0])] .e,.ret (.v 4)]⟩
def yq:Fn:=⟨3,8,AB,#[.asg (.n 3) (.newl .e),.for (.n 4) (.range1 (.call 33 #[.v 0,.i 4])) #[.ite (.cmp .eq (.call 33 #[.v 0,.i 2]) (.i 0)) #[.expr (.mth .append (.v 3) #[.tup #[.s "row",.call 46 #[.v 0]]])] #[.asg (.n 5) (.newl .e),.for (.n 6) (.range1 (.call 33 #[.v 0,.i 3])) #[.asg (.n 7) (.comp [AD,AA 0] (.n 0) (.range1 (.call 33 #[.v 0,.i 3])) (.cst (.bl AC)) (.tup #[.s "row",.call 46 #[.v 1]])),.ite (.cmp .eq (.call 33 #[.v 0,.i 2]) (.i 0)) #[.asg (.n 5) (.thw (.bin .add (.frz (.v 5)) (.slc (.v 7) (.cst .non) (.i 1))))] #[.expr (.mth .append (.v 5) #[.tup #[.s "rounds",.call 48 #[.v 0,.v 1,.v 2],.call 47 #[.v 0],.blt .tuple #[.v 7]]])]],.expr (.mth .append (.v 3) #[.tup #[.s "rounds",.call 48 #[.v 0,.v 1,.v 2],.call 47 #[.v 0],.blt .tuple #[.v 5]]])]],.ret (.blt .tuple #[.v 3])]⟩
def yfF:Fn:=⟨3,6,AC,#[.asg (.n 3) (.cst .non),.asg (.n 4) (.cst (.bl AB)),.try #[.asg (.n 3) (.call 24 #[.v 0,.v 1,.v 2])] [5] 5 #[.asg (.n 4) (.and (.isx (.v 5) [5] [.cls 5]) (.isx (.v 5) [5] [.val])),.asg (.n 4) (.and (.v 4) (.not (.isx (.v 5) [5] [.cls 4,.cls 2,.cls 3,.cls 0])))],.ite (.and (.cmp .is (.v 3) (.cst .non)) (.not (.v 4))) #[.nope] .e,.ret (.v 3)]⟩
def yhg:Fn:=⟨3,4,AC,#[.asg (.n 3) (.call 40 #[.v 0,.v 1,.v 2,.i 4000]),.ite (.or (.cmp .is (.v 3) (.cst .non)) (.not (.blt .all #[.comp [AD] (.n 0) (.seq (.v 3)) (.cst (.bl AC)) (.call 44 #[.v 0])]))) #[.ret (.cst .non)] .e,.ret (.blt .tuple #[.v 3])]⟩
def yhm:Fn:=⟨2,2,AC,#[.ite (.or (.cmp .is (.v 1) (.cst .non)) (.not (.isi (.v 0) [.tuple]))) #[.ret (.and (.cmp .is (.v 0) (.cst .non)) (.cmp .is (.v 1) (.cst .non)))] .e,.ret (.and (.cmp .eq (.v 0) (.v 1)) (.blt .all #[.comp [AD] (.n 0) (.seq (.v 0)) (.cst (.bl AC)) (.call 44 #[.v 0])]))]⟩
def yfK:Fn:=⟨1,8,AC,#[.asg (.n 1) (.call 30 #[.v 0]),.asg (.t [2,3]) (.call 34 #[.v 1,.i 4]),.asg (.n 4) (.call 49 #[.v 1,.v 2,.v 3]),.asg (.n 5) (.call 49 #[.v 1,.v 2,.v 3]),.asg (.n 6) (.call 51 #[.v 4,.v 2,.v 3]),.ite (.or (.not (.call 52 #[.call 50 #[.v 4,.v 2,.v 3],.v 6])) (.not (.call 52 #[.call 50 #[.v 5,.v 2,.v 3],.call 51 #[.v 5,.v 2,.v 3]]))) #[.nope] .e,.asg (.n 7) (.bin .add (.i 4) (.call 33 #[.v 1,.i 3])),.ite (.and (.cmp .eq (.v 3) (.i 2)) (.and (.cmp .lt (.v 2) (.i 7)) (.not (.call 52 #[.call 50 #[.v 4,.v 7,.v 3],.call 51 #[.v 4,.v 7,.v 3]])))) #[.nope] .e,.ret (.call 52 #[.call 50 #[.v 4,.v 2,.v 3],.v 6])]⟩
end zq
def Tl:List Fn:=[ym,yk,yn,yhU,yhV,yH,yce,ygv,yet,yT,yY,yv,yhW,yl,yy,yi,yih,ye,yg,y9,y6,yhX,yhY,yhZ,yeA,yeK,ygY,yw,yg2,ydc,yh0,yau,yai,yab,yh1,yh2,yfx,yh3,yQ,yh4,yN,yh5,yt,yA,yh,y7,yo,yp,yx,yq,yfF,yhg,yhm,yfK]
def T(i:Nat):Option Fn:=Tl[i]?
abbrev yh6:Nat:=0
abbrev yiC:Nat:=1
abbrev ydn:Nat:=2
abbrev yf:Nat:=3
abbrev yiD:Nat:=4
abbrev yiE:Nat:=5
abbrev yh7:Nat:=6
abbrev yiF:Nat:=7
abbrev yiG:Nat:=8
abbrev yiH:Nat:=9
abbrev yiI:Nat:=10
abbrev yiJ:Nat:=11
abbrev yiK:Nat:=12
abbrev yii:Nat:=13
abbrev yiL:Nat:=14
abbrev yij:Nat:=15
abbrev yiM:Nat:=16
abbrev y8:Nat:=17
abbrev yz:Nat:=18
abbrev yik:Nat:=19
abbrev yh8:Nat:=20
abbrev yil:Nat:=21
abbrev yim:Nat:=22
abbrev yB:Nat:=23
abbrev yfT:Nat:=24
abbrev yh9:Nat:=25
abbrev yga:Nat:=26
abbrev ydE:Nat:=27
abbrev yia:Nat:=28
abbrev ydI:Nat:=29
abbrev yin:Nat:=30
abbrev yio:Nat:=31
abbrev yiN:Nat:=32
abbrev ya:Nat:=33
abbrev yip:Nat:=34
abbrev yiq:Nat:=35
abbrev yiO:Nat:=36
abbrev yiP:Nat:=37
abbrev yir:Nat:=38
abbrev yiQ:Nat:=39
abbrev yis:Nat:=40
abbrev yiR:Nat:=41
abbrev yit:Nat:=42
abbrev yiu:Nat:=43
abbrev yiv:Nat:=44
abbrev yiS:Nat:=45
abbrev yiw:Nat:=46
abbrev yiT:Nat:=47
abbrev yib:Nat:=48
abbrev yic:Nat:=49
abbrev ygf:Nat:=50
abbrev yid:Nat:=51
abbrev yie:Nat:=52
abbrev yif:Nat:=53
end IC
namespace WK
open PySem L2 IC
def top(i:Nat):Stmt:=DP.main.body.getD i (.Pass ⟨0,0,0,0⟩)
def tbQ:Tb where
 tbl:=[⟨"is_whole","is_whole","is_whole",top 9,["thing","low","high"],["thing","low","high"],ym,.fn⟩,⟨"is_letter","is_letter","is_letter",top 10,["thing"],["thing"],yk,.fn⟩,⟨"are_told","are_told","are_told",top 11,["thing","many"],["thing","many"],yn,.fn⟩,⟨"is_row","is_row","is_row",top 14,["thing"],["thing"],yhU,.fn⟩,⟨"is_told_row","is_told_row","is_told_row",top 15,["thing"],["thing"],yhV,.fn⟩,⟨"has_form","has_form","has_form",top 16,["thing","told","kind","operand"],["thing","told"],yH,.fn⟩,⟨"is_named","is_named","is_named",top 17,["thing"],["thing"],yce,.fn⟩,⟨"is_operand","is_operand","is_operand",top 18,["kind","thing","told"],["kind","thing","told"],ygv,.fn⟩,⟨"is_cell","is_cell","is_cell",top 19,["thing"],["thing"],yet,.fn⟩,⟨"is_told_cell","is_told_cell","is_told_cell",top 20,["thing"],["thing"],yT,.fn⟩,⟨"is_lettered","is_lettered","is_lettered",top 21,["thing"],["thing"],yY,.fn⟩,⟨"is_sentence","is_sentence","is_sentence",top 26,["thing"],["thing"],yv,.fn⟩,⟨"place_of","place_of","place_of",top 27,["told","n","i","j"],["told","n","i","j"],yhW,.fn⟩,⟨"is_term","is_term","is_term",top 28,["thing","f","exponent","things"],["thing"],yl,.fn⟩,⟨"are_things","are_things","are_things",top 29,["thing"],["thing"],yy,.fn⟩,⟨"is_thing","is_thing","is_thing",top 30,["thing"],["thing"],yi,.fn⟩,⟨"","__init__","Unrolling.__init__",inClass (top 35) 0,["self","w","n"],["self","w","n"],yih,.ini 20⟩,⟨"","go_parts","Unrolling.go_parts",inClass (top 35) 1,["self","parts","gone","part"],["self","parts","gone"],ye,.me 20⟩,⟨"","go_rounds","Unrolling.go_rounds",inClass (top 35) 2,["self","part","gone","count","at"],["self","part","gone"],yg,.me 20⟩,⟨"","count_of","Unrolling.count_of",inClass (top 35) 3,["self","told","c","m","t"],["self","told"],y9,.me 20⟩,⟨"","add_row","Unrolling.add_row",inClass (top 35) 4,["self","told","gone","i","j","row"],["self","told","gone"],y6,.me 20⟩,⟨"","add_round","Unrolling.add_round",inClass (top 35) 5,["self"],["self"],yhX,.me 20⟩,⟨"","add_asked","Unrolling.add_asked",inClass (top 35) 6,["self","sentence","gone","i","j"],["self","sentence","gone"],yhY,.me 20⟩,⟨"is_telling","is_telling","is_telling",top 36,["thing"],["thing"],yhZ,.fn⟩,⟨"unrolled","unrolled","unrolled",top 37,["telling","w","n"],["telling","w","n"],yeA,.fn⟩,⟨"steps_of","steps_of","steps_of",top 38,["telling","w","n","unrolling"],["telling","w","n"],yeK,.fn⟩,⟨"are_parts","are_parts","are_parts",top 39,["thing","nests"],["thing","nests"],ygY,.fn⟩,⟨"is_part","is_part","is_part",top 40,["thing","nests"],["thing","nests"],yw,.fn⟩,⟨"both_gone","both_gone","both_gone",top 41,["gone"],["gone"],yg2,.fn⟩,⟨"placed","placed","placed",top 42,["thing","n","i","j"],["thing","n","i","j"],ydc,.fn⟩,⟨"_law_fresh","_law_fresh","_law_fresh",top 44,["_law_script"],["_law_script"],yh0,.fn⟩,⟨"_law_mixed","_law_mixed","_law_mixed",top 45,["_law_seed","_law_primes","_law_number","_law_k","_law_prime","_law_far","_law_square","_law_power"],["_law_seed"],yau,.fn⟩,⟨"_law_fill","_law_fill","_law_fill",top 46,["_law_state","_law_cells","_law_at_here","_law_seed"],["_law_state"],yai,.fn⟩,⟨"_law_take","_law_take","_law_take",top 47,["_law_state","_law_many","_law_turns","_law_digit"],["_law_state","_law_many"],yab,.fn⟩,⟨"_law_sizes","_law_sizes","_law_sizes",top 48,["_law_state","_law_most"],["_law_state","_law_most"],yh1,.fn⟩,⟨"_law_whole","_law_whole","_law_whole",top 49,["_law_thing"],["_law_thing"],yh2,.fn⟩,⟨"_law_letter","_law_letter","_law_letter",top 50,["_law_thing"],["_law_thing"],yfx,.fn⟩,⟨"_law_at","_law_at","_law_at",top 51,["_law_index","_law_i","_law_j","_law_n"],["_law_index","_law_i","_law_j","_law_n"],yh3,.fn⟩,⟨"_law_plain_row","_law_plain_row","_law_plain_row",top 52,["_law_row","_law_i","_law_j","_law_n","_law_told","_law_part"],["_law_row","_law_i","_law_j","_law_n"],yQ,.fn⟩,⟨"_law_count","_law_count","_law_count",top 53,["_law_count_here","_law_w","_law_n"],["_law_count_here","_law_w","_law_n"],yh4,.fn⟩,⟨"_law_unrolled","_law_unrolled","_law_unrolled",top 54,["_law_told","_law_w","_law_n","_law_most","_law_rows","_law_rounds","_law_part","_law_i","_law_inner","_law_many","_law_j"],["_law_told","_law_w","_law_n","_law_most"],yN,.fn⟩,⟨"_law_some_letter","_law_some_letter","_law_some_letter",top 55,["_law_state"],["_law_state"],yh5,.fn⟩,⟨"_law_some_row","_law_some_row","_law_some_row",top 56,["_law_state","_law_cells","_law_kinds","_law_kind","_law_digit","_law_some"],["_law_state","_law_cells"],yt,.fn⟩,⟨"_law_is_cell","_law_is_cell","_law_is_cell",top 57,["_law_thing"],["_law_thing"],yA,.fn⟩,⟨"_law_is_row","_law_is_row","_law_is_row",top 58,["_law_row","_law_lengths"],["_law_row"],yh,.fn⟩,⟨"_law_some_index","_law_some_index","_law_some_index",top 59,["_law_state","_law_way","_law_first","_law_small"],["_law_state"],y7,.fn⟩,⟨"_law_some_telling_row","_law_some_telling_row","_law_some_telling_row",top 60,["_law_state","_law_cells","_law_k","_law_spot"],["_law_state"],yo,.fn⟩,⟨"_law_some_sentence","_law_some_sentence","_law_some_sentence",top 61,["_law_state","_law_terms","_law_k","_law_things","_law_j","_law_thing","_law_far","_law_factor","_law_numbers"],["_law_state"],yp,.fn⟩,⟨"_law_some_count","_law_some_count","_law_some_count",top 62,["_law_state","_law_w","_law_n","_law_t","_law_count_here","_law_way"],["_law_state","_law_w","_law_n"],yx,.fn⟩,⟨"_law_some_telling","_law_some_telling","_law_some_telling",top 63,["_law_state","_law_w","_law_n","_law_parts","_law_k","_law_inner","_law_j","_law_deep"],["_law_state","_law_w","_law_n"],yq,.fn⟩,⟨"_law_asked","_law_asked","_law_asked",top 64,["_law_told","_law_w","_law_n","_law_found","_law_kind","e"],["_law_told","_law_w","_law_n"],yfF,.fn⟩,⟨"_law_due","_law_due","_law_due",top 65,["_law_told","_law_w","_law_n","_law_rows"],["_law_told","_law_w","_law_n"],yhg,.fn⟩,⟨"_law_same","_law_same","_law_same",top 66,["_law_found","_law_due_here"],["_law_found","_law_due_here"],yhm,.fn⟩,⟨"law","law","law",top 67,["_law_script","_law_state","_law_w","_law_n","_law_one","_law_other","_law_first","_law_wide"],["_law_script"],yfK,.fn⟩]
 al:=[eF "is_whole" 0,eF "is_letter" 1,eF "are_told" 2,eF "is_row" 3,eF "is_told_row" 4,eF "has_form" 5,eF "is_named" 6,eF "is_operand" 7,eF "is_cell" 8,eF "is_told_cell" 9,eF "is_lettered" 10,eF "is_sentence" 11,eF "place_of" 12,eF "is_term" 13,eF "are_things" 14,eF "is_thing" 15,eF "is_telling" 23,eF "unrolled" 24,eF "steps_of" 25,eF "are_parts" 26,eF "is_part" 27,eF "both_gone" 28,eF "placed" 29,eF "_law_fresh" 30,eF "_law_mixed" 31,eF "_law_fill" 32,eF "_law_take" 33,eF "_law_sizes" 34,eF "_law_whole" 35,eF "_law_letter" 36,eF "_law_at" 37,eF "_law_plain_row" 38,eF "_law_count" 39,eF "_law_unrolled" 40,eF "_law_some_letter" 41,eF "_law_some_row" 42,eF "_law_is_cell" 43,eF "_law_is_row" 44,eF "_law_some_index" 45,eF "_law_some_telling_row" 46,eF "_law_some_sentence" 47,eF "_law_some_count" 48,eF "_law_some_telling" 49,eF "_law_asked" 50,eF "_law_due" 51,eF "_law_same" 52,eF "law" 53,eC "FACTOR_LIMIT" (.int (10000000000000000000000000000000000000000)),eC "MOST_NESTS" (.int (2)),eC "MOST_ROUNDS" (.int (4000)),eC "MOST_ROWS" (.int (4000)),eC "MOST_TERMS" (.int (20)),eC "MOST_THINGS" (.int (2)),eC "MOST_TOLD" (.int (200)),eG "ROWS" (.dct yb),eG "NoTelling" (.exc 5),eG "Unrolling" (.cls 20 16)]
 bs:=["ValueError","all","bool","enumerate","int","isinstance","len","max","min","range","str","tuple","zip"]
 ts:=[.bool,.int,.str,.tuple]
 fl:=[eN 20 "n",eN 20 "rounds",eN 20 "rows",eN 20 "steps",eN 20 "w"]
 me:=[eM 20 "go_parts" 17,eM 20 "go_rounds" 18,eM 20 "count_of" 19,eM 20 "add_row" 20,eM 20 "add_round" 21,eM 20 "add_asked" 22]
 kb:=[]
 cn:=[eN 20 "Unrolling",eN 5 "NoTelling",eN 0 "NoFit",eN 2 "NoCell",eN 3 "NoWord",eN 4 "NoRow"]
 dd:=[eB "ROWS" yb]
 ml:=[]
 xs:=[(5,.cls 0),(5,.cls 2),(5,.cls 3),(5,.cls 4),(5,.cls 5),(5,.val)]
 xc:=[eN 0 "NoFit",eN 2 "NoCell",eN 3 "NoWord",eN 4 "NoRow",eN 5 "NoTelling"]
 xm:=[eN 5 "WordError"]
 qh:=[]
theorem ok_all:tbQ.tbl.all (okT tbQ)=true:=by decide +kernel
theorem T_ok:∀i d,tbQ.tbl[i]?=AA d->T i=AA d.fn:=λi d h=>by
 have e:Tl=tbQ.tbl.map (·.fn):=rfl;rw[T,e,Ba,h];rfl
theorem kb_all:ybP (KbP tbQ) tbQ.kb:=by
 repeat' (first|exact trivial|(refine⟨kbP rfl rfl rfl rfl rfl ⋯ ?_,?_⟩;((repeat intro _);exact⟨_,rfl,rfl⟩)))
theorem cn_20:cnm tbQ 20="Unrolling":=rfl
end WK
namespace IC
open PySem
def yar(call:Cl)(t:Tg)(b:Css)(xs:List PV)(ρ:Env)(st:SO):Fl:=forL t (λρ2 st2=>exs call ρ2 st2 b) xs ρ st
def yaY(call:Cl)(c:Ce)(b:Css)(n:Nat)(ρ:Env)(st:SO):Fl:=yaF (λρ2 st2=>ev call ρ2 st2 c) (λρ2 st2=>exs call ρ2 st2 b) n ρ st
def yaA(call:Cl)(ρ0:Env)(t:Tg)(c e:Ce)(x:PV)(st2:SO):R (Option PV):=match yU t x ρ0 with
 |none=>.bad
 |some ρ1=>(ev call ρ1 st2 c).bind λb st3=>onO (yaL st3 b) λk=>cond k ((ev call ρ1 st3 e).bind λy st4=>.ok (AA y) st4) (.ok AD st3)
def yV(call:Cl)(ρ0:Env)(t:Tg)(c e:Ce)(xs:List PV)(st:SO):R (List PV):=yaD (yaA call ρ0 t c e) xs st
def yaS(f:Fl)(k:Env->SO->Fl):Fl:=
 match f with
 |.nx ρ st=>k ρ st
 |f=>f
def nxO(o:Option Env)(st:SO):Fl:=
 match o with
 |some ρ=>.nx ρ st
 |none=>.bad
def stO(ρ:Env)(o:Option SO):Fl:=
 match o with
 |some st=>.nx ρ st
 |none=>.bad
section
variable {call:Cl}{ρ:Env}{st:SO}
theorem x_for{t:Tg}{it:Cit}{b:Css}:ex call ρ st (.for t it b)=(evi call ρ st it).fl ρ λxs st1=>yar call t b xs ρ st1:=rfl
def zjQ{c:Ce}{b:Css}:ex call ρ st (.while c b)=yaY call c b 100000 ρ st:=rfl
theorem v_comp{sl:List (Option Nat)}{t:Tg}{it:Cit}{c e:Ce}:ev call ρ st (.comp sl t it c e)=(evi call ρ st it).bind λxs st1=>ya5 (yV call (sl.map λo=>o.bind λj=>(ρ[j]?).join) t c e xs st1):=rfl
def zI{t:Tg}{b:Css}:yar call t b [] ρ st=.nx ρ st:=rfl
def zp{t:Tg}{b:Css}{x:PV}{xs:List PV}{ρ1:Env}(h:yU t x ρ=AA ρ1):yar call t b (x::xs) ρ st=yaN (exs call ρ1 st b) λρ2 st2=>yar call t b xs ρ2 st2:=by
 rw[yar,forL,h];rfl
def zb7{t:Tg}{b:Css}(P:Nat->Env->SO->Prop):∀(xs:List PV) (i:Nat) (ρ:Env) (st:SO),P i ρ st ->
  (∀(j:Nat) (x:PV) (ρ:Env) (st:SO),xs[j]?=AA x->P (i+j) ρ st->∃ρ1 ρ2 st2,yU t x ρ=AA ρ1/\exs call ρ1 st b=.nx ρ2 st2/\P (i+j+1) ρ2 st2) ->
  ∃ρ' st',yar call t b xs ρ st=.nx ρ' st'/\P (i+xs.length) ρ' st'
 |[],i,ρ,st,h,_=>⟨ρ,st,zI,h⟩
 |x::xs,i,ρ,st,h,k=>by
  let⟨ρ1,ρ2,st2,e1,e2,h2⟩:=k 0 x ρ st rfl h;let⟨ρ',st',e3,h3⟩:=zb7 P xs (i+1) ρ2 st2 h2 λj y ρ st hy hp=>by
   have:=k (j+1) y ρ st (by simpa using hy) (by rw[show i+(j+1)=i+1+j by lia];exact hp);rw[show i+(j+1)+1=i+1+j+1 by lia]at this;exact this
  refine⟨ρ',st',?_,by rw[AW,show i+(xs.length+1)=i+1+xs.length by lia];exact h3⟩;rw[zp e1,e2];exact e3
def zhm{c:Ce}{b:Css}{n:Nat}{x:PV}{st1 st2:SO}{ρ2:Env}(h:ev call ρ st c=.ok x st1)(ht:yaL st1 x=AA AC)(hb:exs call ρ st1 b=.nx ρ2 st2):yaY call c b (n+1) ρ st=yaY call c b n ρ2 st2:=by
 rw[yaY,yaF,h];erw[R.fl,ht,onF,cond_true,hb,yaN];rfl
def zef{c:Ce}{b:Css}{n:Nat}{x:PV}{st1:SO}(h:ev call ρ st c=.ok x st1)(ht:yaL st1 x=AA AB):yaY call c b (n+1) ρ st=.nx ρ st1:=by
 rw[yaY,yaF,h];erw[R.fl,ht,onF,cond_false]
def zag{ρ0:Env}{t:Tg}{c e:Ce}:yV call ρ0 t c e [] st=.ok [] st:=rfl
def zH{ρ0:Env}{t:Tg}{c e:Ce}{x:PV}{xs:List PV}:yV call ρ0 t c e (x::xs) st=(yaA call ρ0 t c e x st).bind λo st1=>(yV call ρ0 t c e xs st1).bind λys st2=>.ok (ybl o ys) st2:=rfl
def zav{ρ0:Env}{t:Tg}{c e:Ce}{f:PV->PV}:∀(xs:List PV),(∀x∈xs,yaA call ρ0 t c e x st=.ok (AA (f x)) st)->yV call ρ0 t c e xs st=.ok (xs.map f) st
 |[],_=>zag
 |x::xs,h=>by
  rw[zH,h x A7];erw[R.bind];rw[zav xs λy hy=>h y (AU _ hy)];rfl
theorem xs_nil:exs call ρ st .nil=.nx ρ st:=rfl
theorem xs_cons{s:Cs}{ss:Css}:exs call ρ st (.cons s ss)=yaS (ex call ρ st s) λρ1 st1=>exs call ρ1 st1 ss:=rfl
theorem x_asg{t:Tg}{e:Ce}:ex call ρ st (.asg t e)=(ev call ρ st e).fl ρ λv st1=>nxO (yU t v ρ) st1:=rfl
theorem x_expr{e:Ce}:ex call ρ st (.expr e)=(ev call ρ st e).fl ρ λ_ st1=>.nx ρ st1:=rfl
theorem x_ret{e:Ce}:ex call ρ st (.ret e)=(ev call ρ st e).fl ρ λv st1=>.rt v st1:=rfl
theorem x_ite{c:Ce}{a b:Css}:ex call ρ st (.ite c a b)=(ev call ρ st c).fl ρ λx st1=>onF (yaL st1 x) λk=>cond k (exs call ρ st1 a) (exs call ρ st1 b):=rfl
theorem x_raise{c:Nat}{e:Ce}:ex call ρ st (.raise c e)=(ev call ρ st e).fl ρ λ_ st1=>.exc c ρ st1:=rfl
def yfU(i:Nat)(f:Fl):Fl:=
 match f with
 |.nx ρ2 st2=>.nx (ρ2.set i AD) st2
 |.rt v st2=>.rt v st2
 |_=>.bad
def yeL(cs:List Nat)(i:Nat)(f:Fl)(k:Env->SO->Nat->Fl):Fl:=
 match f with
 |.exc d ρ1 st1=>if cs.contains d then yfU i (k ρ1 st1 d)else .bad
 |f=>f
theorem x_try{b h:Css}{cs:List Nat}{i:Nat}:ex call ρ st (.try b cs i h)=yeL cs i (exs call ρ st b) λρ1 st1 d=>exs call (ρ1.set i (AA (.exn d))) st1 h:=rfl
theorem x_six{o i e:Ce}:ex call ρ st (.six o i e)=(ev call ρ st e).fl ρ λv st1=>(ev call ρ st1 o).fl ρ λx st2=>(ev call ρ st2 i).fl ρ λy st3=>stO ρ (yaz st3 x y v):=rfl
def zjP{c:Nat}{o e:Ce}{f:AO}:ex call ρ st (.sfl c o f e)=(ev call ρ st e).fl ρ λv st1=>(ev call ρ st1 o).fl ρ λx st2=>stO ρ (ybZ c st2 x f v):=rfl
def zl8{o i e:Ce}:ex call ρ st (.dput o i e)=(ev call ρ st e).fl ρ λv st1=>(ev call ρ st1 o).fl ρ λx st2=>(ev call ρ st2 i).fl ρ λy st3=>stO ρ (ybC st3 x y v):=rfl
def znt{i:Nat}{o:BOp}{e:Ce}{x:PV}(h:ρ[i]?=AA (AA x)):ex call ρ st (.aug i o e)=(ev call ρ st e).fl ρ λy st1=>nxO ((ybJ o x y).map λz=>ρ.set i (AA z)) st1:=by
 rw[ex,h];show (ev call ρ st e).fl ρ _=_;refine congrArg _ (funext λy=>funext λst1=>?_)
 cases ybJ o x y<;>rfl
end
theorem ve1(call:Nat->List PV->SO->R PV)(ρ:Env)(st:SO)(v:PV):
  ev call ρ st (Ce.cst v)=R.ok v st:=rfl
theorem ve2(call:Nat->List PV->SO->R PV)(ρ:Env)(st:SO)(i:Nat):
  ev call ρ st (Ce.var i) =
  match ρ[i]? with
  |some (AA v)=>R.ok v st
  |x=>R.bad:=rfl
theorem ve3(call:Nat->List PV->SO->R PV)(ρ:Env)(st:SO)(o:BOp)(a b:Ce):
  ev call ρ st (Ce.bin o a b)=R.bind (ev call ρ st a) λx st1=>R.bind (ev call ρ st1 b) λy st2=>toR (yP o x y) st2:=rfl
theorem ve4(call:Nat->List PV->SO->R PV)(ρ:Env)(st:SO)(a:Ce):
  ev call ρ st (Ce.neg a) =
  R.bind (ev call ρ st a) λx st1=>
   match x with
   |PV.int i=>R.ok (PV.int (-i)) st1
   |x=>R.bad:=rfl
theorem ve5(call:Nat->List PV->SO->R PV)(ρ:Env)(st:SO)(a:Ce):
  ev call ρ st (Ce.not a)=R.bind (ev call ρ st a) λx st1=>onBl x λk=>R.ok (PV.bl !k) st1:=rfl
theorem ve6(call:Nat->List PV->SO->R PV)(ρ:Env)(st:SO)(a b:Ce):
  ev call ρ st (Ce.and a b)=R.bind (ev call ρ st a) λx st1=>onBl x λk=>bif k then ev call ρ st1 b else R.ok (PV.bl AB) st1:=rfl
theorem ve7(call:Nat->List PV->SO->R PV)(ρ:Env)(st:SO)(a b:Ce):
  ev call ρ st (Ce.or a b)=R.bind (ev call ρ st a) λx st1=>onBl x λk=>bif k then R.ok (PV.bl AC) st1 else ev call ρ st1 b:=rfl
theorem ve8(call:Nat->List PV->SO->R PV)(ρ:Env)(st:SO)(o:COp)(a b:Ce):
  ev call ρ st (Ce.cmp o a b)=R.bind (ev call ρ st a) λx st1=>R.bind (ev call ρ st1 b) λy st2=>toR (yD o x y) st2:=rfl
theorem ve9(call:Nat->List PV->SO->R PV)(ρ:Env)(st:SO)(o p:COp)(a b c:Ce):
  ev call ρ st (Ce.chain o p a b c)=R.bind (ev call ρ st a) λx st1=>R.bind (ev call ρ st1 b) λy st2=>onO (blO (yD o x y)) λk=>bif k then R.bind (ev call ρ st2 c) λz st3=>toR (yD p y z) st3 else R.ok (PV.bl AB) st2:=rfl
theorem ve10(call:Nat->List PV->SO->R PV)(ρ:Env)(st:SO)(c a b:Ce):
  ev call ρ st (Ce.ite c a b)=R.bind (ev call ρ st c) λx st1=>onO (yaL st1 x) λk=>bif k then ev call ρ st1 a else ev call ρ st1 b:=rfl
theorem ve11(call:Nat->List PV->SO->R PV)(ρ:Env)(st:SO)(es:Ces):
  ev call ρ st (Ce.tup es)=R.bind (evs call ρ st es) λvs st1=>if Bt vs<=sizeMax then R.ok (PV.tup vs) st1 else R.bad:=rfl
theorem ve12(call:Nat->List PV->SO->R PV)(ρ:Env)(st:SO)(es:Ces):
  ev call ρ st (Ce.lst es)=R.bind (evs call ρ st es) λvs st1=>if Bt vs<=sizeMax then R.ok (PV.lst vs) st1 else R.bad:=rfl
theorem ve13(call:Nat->List PV->SO->R PV)(ρ:Env)(st:SO)(es:Ces):
  ev call ρ st (Ce.newl es)=R.bind (evs call ρ st es) λvs st1=>if Bt vs<=sizeMax then R.ok (PV.loc (Bt st1)) (st1++[Ob.lst vs])else R.bad:=rfl
theorem ve14(call:Nat->List PV->SO->R PV)(ρ:Env)(st:SO)(kvs:List (AO×Int)):
  ev call ρ st (Ce.newd kvs)=if Bt kvs<=15 then R.ok (PV.loc (Bt st)) (st++[Ob.dct AB (List.foldl (λacc kv=>put (PV.str (Prod.fst kv)) (PV.int (Prod.snd kv)) acc) [] kvs)])else R.bad:=rfl
theorem ve16(call:Nat->List PV->SO->R PV)(ρ:Env)(st:SO)(a i:Ce):
  ev call ρ st (Ce.idx a i)=R.bind (ev call ρ st a) λx st1=>R.bind (ev call ρ st1 i) λy st2=>toR (idxV st2 x y) st2:=rfl
theorem ve17(call:Nat->List PV->SO->R PV)(ρ:Env)(st:SO)(a l h:Ce):
  ev call ρ st (Ce.slc a l h)=R.bind (ev call ρ st a) λx st1=>R.bind (ev call ρ st1 l) λy st2=>onP (ybB y) λo=>R.bind (ev call ρ st2 h) λz st3=>toR (yb6 x o z) st3:=rfl
theorem ve18(call:Nat->List PV->SO->R PV)(ρ:Env)(st:SO)(f:Nat)(es:Ces):
  ev call ρ st (Ce.call f es)=R.bind (evs call ρ st es) λvs st1=>call f vs st1:=rfl
theorem ve19(call:Nat->List PV->SO->R PV)(ρ:Env)(st:SO)(b:Blt)(es:Ces):
  ev call ρ st (Ce.blt b es)=R.bind (evs call ρ st es) λvs st1=>toR (yZ b st1 vs) st1:=rfl
theorem ve20(call:Nat->List PV->SO->R PV)(ρ:Env)(st:SO)(m:Mth)(o:Ce)(es:Ces):
  ev call ρ st (Ce.mth m o es)=R.bind (ev call ρ st o) λx st1=>onO (yao m st1 x) λx_1=>R.bind (evs call ρ st1 es) λvs st2=>ya4 m st2 x vs:=rfl
theorem ve21(call:Nat->List PV->SO->R PV)(ρ:Env)(st:SO)(a:Ce)(ts:List Ty):
  ev call ρ st (Ce.isi a ts)=R.bind (ev call ρ st a) λx st1=>toR (yG x ts) st1:=rfl
theorem ve22(call:Nat->List PV->SO->R PV)(ρ:Env)(st:SO)(a:Ce)(cs:List Nat)(ts:List Ty):
  ev call ρ st (Ce.isx a cs ts)=R.bind (ev call ρ st a) λx st1=>toR (yb9 cs x ts) st1:=rfl
theorem ve24(call:Nat->List PV->SO->R PV)(ρ:Env)(st:SO):
  ev call ρ st Ce.nope=R.bad:=rfl
theorem ve25(call:Nat->List PV->SO->R PV)(ρ:Env)(st:SO)(a:Ce):
  ev call ρ st (Ce.frz a)=R.bind (ev call ρ st a) λx st1=>ycx x st1:=rfl
theorem ve28(call:Nat->List PV->SO->R PV)(ρ:Env)(st:SO)(D:List (AO×PV))(a:Ce):
  ev call ρ st (Ce.dix D a)=R.bind (ev call ρ st a) λx st1=>toR (yd5 D x) st1:=rfl
theorem ve29(call:Nat->List PV->SO->R PV)(ρ:Env)(st:SO)(a:Ce)(D:List (AO×PV)):
  ev call ρ st (Ce.din a D)=R.bind (ev call ρ st a) λx st1=>toR (yfa D x) st1:=rfl
theorem ve30(call:Nat->List PV->SO->R PV)(ρ:Env)(st:SO)(a:Ce):
  ev call ρ st (Ce.thw a)=R.bind (ev call ρ st a) λx st1=>ycK x st1:=rfl
theorem ve31(call:Nat->List PV->SO->R PV)(ρ:Env)(st:SO)(a b:Ce):
  ev call ρ st (Ce.nin a b)=R.bind (ev call ρ st a) λx st1=>R.bind (ev call ρ st1 b) λy st2=>toR (ycc st2 x y) st2:=rfl
theorem ve32(call:Nat->List PV->SO->R PV)(ρ:Env)(st:SO)(c:Nat)(a:Ce)(f:AO):
  ev call ρ st (Ce.fld c a f)=R.bind (ev call ρ st a) λx st1=>toR (ybq c st1 x f) st1:=rfl
theorem ve33(call:Nat->List PV->SO->R PV)(ρ:Env)(st:SO)(c i:Nat)(es:Ces):
  ev call ρ st (Ce.new c i es)=R.bind (evs call ρ st es) λvs st1=>R.bind (ybm (call i (PV.loc (Bt st1)::vs) (st1++[Ob.ins c []]))) λv st2=>newV (Bt st1) v st2:=rfl
theorem ve37(call:Nat->List PV->SO->R PV)(ρ:Env)(st:SO)(c i:Nat)(m:AO)(o:Ce)
 (es:Ces):
  ev call ρ st (Ce.mcl c i m o es)=R.bind (ev call ρ st o) λx st1=>onO (yco c m st1 x) λx_1=>R.bind (evs call ρ st1 es) λvs st2=>call i (x::vs) st2:=rfl
end IC
namespace WK
open IC PySem
def chS(c:Nat):Str:=⟨#[c]⟩
def yc1(c:Nat)(i:Int):PV:=.tup [.str (chS c),.int i]
abbrev Mem:=Nat->Int->Int
def upd(M:Mem)(c:Nat)(i v:Int):Mem:=λd j=>if d=c/\j=i then v else M d j
def Rel(kvs:List (PV×PV))(M:Mem):Prop:=∀c i,(look (yc1 c i) kvs).getD (.int 0)=.int (M c i)
abbrev Cel:=Nat×Int
inductive Rw where
 |mark (d:Int)|ask (x:Cel)|set (t:Cel) (d:Int)|move (t x:Cel)|bare (t x:Cel)|twice (t x:Cel)|half (t x:Cel)
 |sum (t x y:Cel)|less (t x y:Cel)|both (t x y:Cel)|any (t x y:Cel)|odd (t x y:Cel)|times (l h x y:Cel)
def zia{st:SO}{n:Nat}{o:Ob}(h:st[n]?=AA o):st=st.set n o:=by
 refine Fq λi=>?_;rw[C3];split
 .rename_i e;subst e;split
  .exact h
  .rename_i z;rw[BZ ∅]at h
   cases h
 .rfl
def zch(i:Int):shp (.int i)=true:=rfl
section
variable {st:SO}{k:Bool}{a b c d e:PV}{r:List PV}{i j:Int}
theorem ix0:idxV st (.tp k (a::r)) (.int 0)=AA a:=by simp[idxV,yaG,at?,ixI]
theorem ix1:idxV st (.tp k (a::b::r)) (.int 1)=AA b:=by
 have:(1:Int)<(r.length:Int)+1+1:=by lia
 simp[idxV,yaG,at?,ixI,this]
theorem ix2:idxV st (.tp k (a::b::c::r)) (.int 2)=AA c:=by
 have:(2:Int)<(r.length:Int)+1+1+1:=by lia
 simp[idxV,yaG,at?,ixI,this]
theorem ix3:idxV st (.tp k (a::b::c::d::r)) (.int 3)=AA d:=by
 have:(3:Int)<(r.length:Int)+1+1+1+1:=by lia
 simp[idxV,yaG,at?,ixI,this]
theorem b_add:yP .add (.int i) (.int j)=AA (.int (i+j)):=rfl
theorem b_sub:yP .sub (.int i) (.int j)=AA (.int (i-j)):=rfl
def zh6(h:i.natAbs<18446744073709551616 \/ j.natAbs<18446744073709551616):yP .mul (.int i) (.int j)=AA (.int (i*j)):=by
 have:yaT i j=true:=by simpa [yaT] using h
 simp[yP,binI,this]
def zaz(h:i.natAbs<18446744073709551616):yP .mul (.int i) (.int j)=AA (.int (i*j)):=zh6 (.inl h)
def zbj(h:j.natAbs<18446744073709551616):yP .mul (.int i) (.int j)=AA (.int (i*j)):=zh6 (.inr h)
theorem b_mul2:yP .mul (.int 2) (.int j)=AA (.int (2*j)):=zh6 (.inl ⋯)
def znB(h:0<j)(h2:j<18446744073709551616*18446744073709551616):yP .fdiv (.int i) (.int j)=AA (.int (i/j)):=by
 have h3:j<10000000000000000000000000000000000000000000000000000000000000000000000:=by lia
 simp[yP,binI,h,h3]
theorem b_div2:yP .fdiv (.int i) (.int 2)=AA (.int (i/2)):=rfl
def zhY(h:0<j):yP .mod (.int i) (.int j)=AA (.int (i%j)):=by simp[yP,binI,h]
theorem toR_some{v:PV}:toR (AA v) st=.ok v st:=rfl
theorem c_ne:yD .ne (.int i) (.int j)=AA (.bl (!(i==j))):=by simp[yD,zch,peq]
theorem c_eq:yD .eq (.int i) (.int j)=AA (.bl (i==j)):=by simp[yD,zch,peq]
theorem c_lt:yD .lt (.int i) (.int j)=AA (.bl (decide (i<j))):=rfl
theorem c_le:yD .le (.int i) (.int j)=AA (.bl (decide (i<=j))):=rfl
theorem c_gt:yD .gt (.int i) (.int j)=AA (.bl (decide (j<i))):=rfl
theorem c_ge:yD .ge (.int i) (.int j)=AA (.bl (decide (j<=i))):=rfl
theorem t_bl{b:Bool}:yaL st (.bl b)=AA b:=rfl
theorem on_t{f:Bool->Fl}{b:Bool}:onF (AA b) f=f b:=rfl
theorem ono{α:Type}{f:Bool->R α}{b:Bool}:onO (AA b) f=f b:=rfl
def zbp{ρ:IC.Env}:stO ρ (AA st)=.nx ρ st:=rfl
theorem nxO_some{ρ:IC.Env}:nxO (AA ρ) st=.nx ρ st:=rfl
theorem fl_ok{α:Type}{a:α}{ρ:IC.Env}{k:α->SO->Fl}:(R.ok a st).fl ρ k=k a st:=rfl
theorem bd_ok{α β:Type}{a:α}{k:α->SO->R β}:(R.ok a st).bind k=k a st:=rfl
theorem th_nx{ρ:IC.Env}{k:IC.Env->SO->Fl}:yaS (.nx ρ st) k=k ρ st:=rfl
theorem th_rt{v:PV}{k:IC.Env->SO->Fl}:yaS (.rt v st) k=.rt v st:=rfl
theorem fl_exc{α:Type}{c:Nat}{ρ:IC.Env}{k:α->SO->Fl}:(R.exc c st:R α).fl ρ k=.exc c ρ st:=rfl
theorem bd_exc{α β:Type}{c:Nat}{k:α->SO->R β}:(R.exc c st:R α).bind k=.exc c st:=rfl
theorem th_exc{c:Nat}{ρ:IC.Env}{k:IC.Env->SO->Fl}:yaS (.exc c ρ st) k=.exc c ρ st:=rfl
theorem noLocs_ints:∀(l:List Int),nLs (l.map PV.int)=AC
 |[]=>rfl
 |_::l=>by simp[nLs,nL,noLocs_ints l]
theorem bT_n{i:Nat}{v:PV}{ρ:IC.Env}:yU (.n i) v ρ=AA (ρ.set i (AA v)):=rfl
theorem mget{o k d:PV}:ya4 .get st o [k,d]=ydp st o k d:=rfl
end
def yat:PV:=.tup [.int 2147483647,.int 2147483629,.int 2147483587,.int 2147483579,.int 2147483563]
def ydO:Css:=match yau.body with
 |.cons _ (.cons _ (.cons (.for _ _ b) _))=>b
 |_=>.nil
def zca{c:Cl}{s num g p:Int}{i:Nat}{u5 u6 u7:Option PV}(hg:∀st,idxV st (.tup [.int 11,.int 101,.int 1009,.int 10007,.int 100003]) (.int i)=AA (.int g))(hi:i<5)(hp:0<p)(hp2:p<18446744073709551616):
  ∃num' v5 v6 v7,exs c [AA (.int s),AA yat,AA (.int num),AA (.int i),AA (.int p),u5,u6,u7] [] ydO=.nx [AA (.int s),AA yat,AA (.int num'),AA (.int i),AA (.int p),v5,v6,v7] []:=by
 have h1:∀z:Int,yP .mul (.int z) (.int (48271+2*(i:Int)))=AA (.int (z*(48271+2*(i:Int)))):=λz=>zbj ∅;have h2:∀z y:Int,yP .mul (.int z) (.int (y%p))=AA (.int (z*(y%p))):=λz y=>zbj (by
  have a:=Ed y (show p≠0 by lia);have b:=Dq y hp;lia)
 have h3:∀z:Int,yP .mul (.int z) (.int p)=AA (.int (z*p)):=λz=>zbj ∅;erw[ydO,yau,AW,Av,BV,C0,if_true,xs_cons,xs_nil,x_asg,IC.ve1,IC.ve2,IC.ve3,IC.ve11,IC.ve16,evs,AQ,AN,bd_ok,fl_ok,toR_some,bT_n,nxO_some,th_nx,BF,BN,sizeMax,ET,b_add,b_mul2,hg,h1,h2,h3,zhY hp];exact⟨_,_,_,_,rfl⟩
def zir{c:Cl}{s num:Int}{u5 u6 u7:Option PV}(i:Nat)(p:Int)(h:(i,p)∈[(0,(2147483647:Int)),(1,2147483629),(2,2147483587),(3,2147483579),(4,2147483563)]):
  ∃num' v5 v6 v7,exs c [AA (.int s),AA yat,AA (.int num),AA (.int i),AA (.int p),u5,u6,u7] [] ydO=.nx [AA (.int s),AA yat,AA (.int num'),AA (.int i),AA (.int p),v5,v6,v7] []:=by
 erw[AL,Prod.mk.injEq,AZ,or_false]at h;rcases h with⟨rfl,rfl⟩|⟨rfl,rfl⟩|⟨rfl,rfl⟩|⟨rfl,rfl⟩|⟨rfl,rfl⟩
 .exact zca (λ_=>rfl) ⋯ ⋯ ⋯
 .exact zca (λ_=>rfl) ⋯ ⋯ ⋯
 .exact zca (λ_=>rfl) ⋯ ⋯ ⋯
 .exact zca (λ_=>rfl) ⋯ ⋯ ⋯
 .exact zca (λ_=>rfl) ⋯ ⋯ ⋯
def yeo:List PV:=[.tup [.int 0,.int 2147483647],.tup [.int 1,.int 2147483629],.tup [.int 2,.int 2147483587],.tup [.int 3,.int 2147483579],.tup [.int 4,.int 2147483563]]
theorem mixed(k:Nat)(s:Int)(st:SO):∃num,yc T (k+1) yio [.int s] st=.ok (.int num) st:=by
 let⟨ρ',st',h,num,a,b,c,d,e,e1,e2⟩:=zb7 (call:=yc T k) (t:=.t [3,4]) (b:=ydO) (λ_ ρ st=>∃num a b c d e,ρ=[AA (.int s),AA yat,AA (.int num),a,b,c,d,e]/\st=[]) yeo 0 [AA (.int s),AA yat,AA (.int 0),AD,AD,AD,AD,AD] [] ⟨_,_,_,_,_,_,rfl,rfl⟩ (by
  rintro j x ρ st hx ⟨num,a,b,c,d,e,rfl,rfl⟩
  have hx:=AR hx;have hx:∃i p,x=.tup [.int ((i:Nat):Int),.int p]/\(i,p)∈[(0,(2147483647:Int)),(1,2147483629),(2,2147483587),(3,2147483579),(4,2147483563)]:=by
   erw[yeo,AL,AZ,or_false]at hx;rcases hx with rfl|rfl|rfl|rfl|rfl
   .exact⟨0,_,rfl,by simp⟩
   .exact⟨1,_,rfl,by simp⟩
   .exact⟨2,_,rfl,by simp⟩
   .exact⟨3,_,rfl,by simp⟩
   .exact⟨4,_,rfl,by simp⟩
  let⟨i,p,rfl,hm⟩:=hx;let⟨num',v5,v6,v7,hh⟩:=zir (c:=yc T k) (s:=s) (num:=num) (u5:=c) (u6:=d) (u7:=e) i p hm;exact⟨_,_,_,rfl,hh,_,_,_,_,_,_,rfl,rfl⟩)
 subst e1 e2;refine⟨num,?_⟩;rw[yc];have hb:yau.body=.cons (.asg (.n 1) (.tup (.cons (.cst (.int 2147483647)) (.cons (.cst (.int 2147483629)) (.cons (.cst (.int 2147483587)) (.cons (.cst (.int 2147483579)) (.cons (.cst (.int 2147483563)) .nil))))))) (.cons (.asg (.n 2) (.cst (.int 0))) (.cons (.for (.t [3,4]) (.enum (.var 1)) ydO) (.cons (.ret (.var 2)) .nil))):=rfl;have hT:T yio=AA ⟨1,8,AC,yau.body⟩:=rfl;have hp:PV.tup [.int 2147483647,.int 2147483629,.int 2147483587,.int 2147483579,.int 2147483563]=yat:=rfl;rw[hT,hb];have h5:ev (yc T k) [AA (.int s),AD,AD,AD,AD,AD,AD,AD] [] (.tup (.cons (.cst (.int 2147483647)) (.cons (.cst (.int 2147483629)) (.cons (.cst (.int 2147483587)) (.cons (.cst (.int 2147483579)) (.cons (.cst (.int 2147483563)) .nil))))))=.ok yat []:=by
  simp[IC.ve1,IC.ve11,evs,R.bind,sizeMax,yat]
 have he:evi (yc T k) [AA (.int s),AA yat,AA (.int 0),AD,AD,AD,AD,AD] [] (.enum (.var 1))=.ok yeo []:=by
  simp[evi,IC.ve2,R.bind,yat,yam,yeo]
 erw[AW,Av,if_true,nLs,nL,Bg,AX,BM,Bu,Aj,BA,BD,xs_cons,xs_nil,x_asg,x_for,x_ret,h5,R.fl,yU,nxO,yaS,BF,BN,IC.ve1,he,h,IC.ve2,AQ,AN]
mutual
noncomputable def tam(d m:Nat):PV->Bool
 |.non=>AC
 |.bl _=>AC
 |.int _=>AC
 |.str s=>s.cps.toList.all (· < 128)&&decide (s.cps.toList.length<=m)
 |.tp _ xs=>decide (0<d)&&(decide (xs.length<=m)&&ybI (d-1) m xs)
 |.lst xs=>decide (0<d)&&(decide (xs.length<=m)&&ybI (d-1) m xs)
 |_=>AB
noncomputable def ybI(d m:Nat):List PV->Bool
 |[]=>AC
 |x::xs=>tam d m x&&ybI d m xs
end
def zb3(d m:Nat):∀xs:List PV,ybI d m xs=AC ↔ ∀x∈xs,tam d m x=AC
 |[]=>by simp[ybI]
 |x::xs=>by simp[ybI,zb3 d m xs]
mutual
theorem zo(d m:Nat):∀v:PV,tam d m v=AC->nL v=AC
 |.non,_=>rfl
 |.bl _,_=>rfl
 |.int _,_=>rfl
 |.str _,_=>rfl
 |.tp _ xs,h=>by erw[tam,AG]at h;erw[nL];exact zbH (d-1) m xs h.2.2
 |.lst xs,h=>by erw[tam,AG]at h;erw[nL];exact zbH (d-1) m xs h.2.2
 |.loc _,h=>by simp[tam]at h
 |.fnc _,h=>by simp[tam]at h
 |.exn _,h=>by simp[tam]at h
 |.scr _,h=>by simp[tam]at h
theorem zbH(d m:Nat):∀v:List PV,ybI d m v=AC->nLs v=AC
 |[],_=>rfl
 |x::xs,h=>by
  erw[ybI,AG]at h;erw[nLs,AG];exact⟨zo d m x h.1,zbH d m xs h.2⟩
end
def zoC{s:AO}(h:s.cps.toList.all (· < 128)=AC):s.cps.all (· < 0x110000)=true:=by
 rw[<-Array.all_toList];rw[Ag]at h ⊢;intro x hx;have:=h x hx;erw[decide_eq_true_eq]at this ⊢;lia
mutual
theorem zgu(d m:Nat):∀(v:PV) (n:Nat),tam d m v=AC->d<=n->shd n v=AC
 |.non,n,_,_=>rfl
 |.bl _,n,_,_=>rfl
 |.int _,n,_,_=>rfl
 |.str s,n,h,_=>by erw[tam,AG]at h;exact zoC h.1
 |.tp _ xs,n,h,l=>by
  erw[tam,AG,decide_eq_true_eq]at h;erw[shd,AG,decide_eq_true_eq];exact⟨by lia,zbw (d-1) m xs (n-1) h.2.2 ∅⟩
 |.lst xs,n,h,l=>by
  erw[tam,AG,decide_eq_true_eq]at h;erw[shd,AG,decide_eq_true_eq];exact⟨by lia,zbw (d-1) m xs (n-1) h.2.2 ∅⟩
 |.loc _,n,h,_=>by simp[tam]at h
 |.fnc _,n,h,_=>by simp[tam]at h
 |.exn _,n,h,_=>by simp[tam]at h
 |.scr _,n,h,_=>by simp[tam]at h
theorem zbw(d m:Nat):∀(v:List PV) (n:Nat),ybI d m v=AC->d<=n->yaZ n v=AC
 |[],n,_,_=>rfl
 |x::xs,n,h,l=>by
  erw[ybI,AG]at h;erw[yaZ,AG];exact⟨zgu d m x n h.1 l,zbw d m xs n h.2 l⟩
end
mutual
theorem za6{d m d' m':Nat}(hd:d<=d')(hm:m<=m'):∀v:PV,tam d m v=AC->tam d' m' v=AC
 |.non,_=>rfl
 |.bl _,_=>rfl
 |.int _,_=>rfl
 |.str s,h=>by erw[tam,AG,decide_eq_true_eq]at h ⊢;exact⟨h.1,by lia⟩
 |.tp _ xs,h=>by
  erw[tam,AG,decide_eq_true_eq]at h ⊢;exact⟨by lia,by lia,zer ∅ hm xs h.2.2⟩
 |.lst xs,h=>by
  erw[tam,AG,decide_eq_true_eq]at h ⊢;exact⟨by lia,by lia,zer ∅ hm xs h.2.2⟩
 |.loc _,h=>by simp[tam]at h
 |.fnc _,h=>by simp[tam]at h
 |.exn _,h=>by simp[tam]at h
 |.scr _,h=>by simp[tam]at h
theorem zer{d m d' m':Nat}(hd:d<=d')(hm:m<=m'):∀v:List PV,ybI d m v=AC->ybI d' m' v=AC
 |[],_=>rfl
 |x::xs,h=>by
  erw[ybI,AG]at h ⊢;exact⟨za6 hd hm x h.1,zer hd hm xs h.2⟩
end
def zD{d m:Nat}{k:Bool}{xs:List PV}:tam d m (.tp k xs)=AC ↔ 0<d/\xs.length<=m/\∀x∈xs,tam (d-1) m x=true:=by
 erw[tam,AG,decide_eq_true_eq,zb3]
def zbi{d m:Nat}{v:PV}(h:tam d m v=AC)(hd:d<=60):shp v=true:=zgu d m v 60 h hd
def zeA(f:PV->Bool):∀xs:List PV,allB (xs.map λx=>.bl (f x))=AA (xs.all f)
 |[]=>rfl
 |x::xs=>by simp[allB,zeA f xs]
def z7(ys:List PV)(h:ys.length<=1000000)(st:SO):ya5 (.ok ys st)=.ok (.lst ys) st:=by simp[ya5,h]
def zbf(f:PV->Bool)(xs:List PV)(st:SO):yZ .all st [.lst (xs.map λx=>.bl (f x))]=AA (.bl (xs.all f)):=by
 simp[yZ,yL,zeA]
def zaY(n:Nat)(h:n<1000):ybk (.int (n:Int))=AA (yr n 0 1):=by
 simp[ybk];lia
def zbJ{z:Int}(h:0<=z):∃n:Nat,z=n:=⟨z.toNat,by lia⟩
def yde(st:SO)(f:Fl):R PV:=
 match f with
 |.rt v _=>if nL v then .ok v st else .bad
 |.nx _ _=>.ok .non st
 |.exc c _ _=>.exc c st
 |_=>.bad
def zd{T:Nat->Option IC.Fn}{k f:Nat}{fn:IC.Fn}{args:List PV}{st:SO}(hT:T f=AA fn)(hp:fn.pure=AC)(hl:args.length=fn.np)(hn:nLs args=AC):
  yc T (k+1) f args st=yde st (exs (yc T k) (args.map AA++Aj (fn.ns-fn.np) AD) [] fn.body):=by
 rw[yc,hT];dsimp only;rw[if_pos hl,if_pos hp,if_pos hn];rfl
def outI(f:Fl):R PV:=
 match f with
 |.rt v st1=>.ok v st1
 |.nx _ st1=>.ok .non st1
 |.exc c _ st1=>.exc c st1
 |_=>.bad
def zq{T:Nat->Option IC.Fn}{k f:Nat}{fn:IC.Fn}{args:List PV}{st:SO}(hT:T f=AA fn)(hp:fn.pure=AB)(hl:args.length=fn.np):
  yc T (k+1) f args st=outI (exs (yc T k) (args.map AA++Aj (fn.ns-fn.np) AD) st fn.body):=by
 rw[yc,hT];dsimp only;rw[if_pos hl,hp,if_neg (by simp)];rfl
def z5{st:SO}{v:PV}:outI (.rt v st)=.ok v st:=rfl
def zc{st s:SO}{b:Bool}:yde st (.rt (.bl b) s)=.ok (.bl b) st:=rfl
def zkS{α:Type}{xs:List α}{lo hi:Option Int}{x:α}(h:x∈cut xs lo hi):x∈xs:=List.mem_of_mem_drop (List.mem_of_mem_take h)
def zj1{α:Type}(xs:List α)(lo hi:Option Int):(cut xs lo hi).length<=xs.length:=by
 unfold cut;rw[CO,DE];lia
set_option backward.eqns.nonrecursive true
local macro_rules | `(tactic| simp! [$xs,*])=>do
 let l<-("IC.xs_cons IC.xs_nil IC.x_asg IC.x_ite IC.x_ret IC.x_expr IC.x_for IC.x_six IC.x_try IC.x_raise IC.evs IC.evi IC.ve1 IC.ve2 IC.ve3 IC.ve4 IC.ve5 IC.ve6 IC.ve7 IC.ve8 IC.ve9 IC.ve10 IC.ve11 IC.ve12 IC.ve13 IC.ve14 IC.ve16 IC.ve17 IC.ve18 IC.ve19 IC.ve20 IC.ve21 IC.ve22 IC.ve24 IC.ve25 IC.ve28 IC.v_comp List.getElem?_cons_zero List.getElem?_cons_succ WK.bd_ok WK.fl_ok WK.bd_exc WK.fl_exc WK.toR_some IC.toL WK.bT_n WK.nxO_some WK.th_nx WK.th_rt WK.th_exc List.set_cons_zero List.set_cons_succ WK.on_t WK.t_bl WK.ono IC.onBl cond_true cond_false List.length_cons List.length_nil Nat.zero_add Nat.reduceAdd Nat.reduceSub Nat.reduceLeDiff if_true IC.nL IC.nLs WK.noLocs_ints Bool.and_self Bool.not_true Bool.not_false List.map_cons List.map_nil List.replicate List.cons_append List.nil_append List.append_nil Option.bind_none Option.bind_some Option.join_some WK.b_add WK.b_sub WK.b_mul2 WK.b_div2 WK.c_lt WK.c_le WK.c_gt WK.c_ge WK.c_eq WK.c_ne IC.PV.tup IC.sizeMax".splitOn " ").toArray.mapM λs=>`(Lean.Parser.Tactic.simpLemma| $(Lean.mkIdent s.toName):term)
 `(tactic| simp only[$l,*,$xs,*])
theorem rdS{st:SO}{n:Nat}{o x:Ob}(h:st[n]?=AA o):(st.set n x)[n]?=AA x:=by
 have:n<st.length:=by
  rcases E7 n st.length with h1|h1
  .exact h1
  .rw[BZ h1]at h;cases h
 rw[Ao this]
def zm5(ns:List Int)(a:Int)(h:ns≠[]):∃v,yaG (ns.map PV.int) (.int (a%(ns.length:Int)))=AA (.int v):=by
 have h0:0<ns.length:=FL.2 h;have h1:=Ed a (show (ns.length:Int)≠0 by lia);have h2:=Dq a (show (0:Int)<ns.length by lia);have h3:(a%(ns.length:Int)).toNat<ns.length:=by lia
 refine⟨ns[(a%(ns.length:Int)).toNat],?_⟩;simp[yaG,at?,ixI,h1,h2,h3]
def flT:Css:=match yai.body with
 |.cons _ (.cons _ (.cons _ t))=>t
 |x=>x
abbrev flS(l:PV)(a p:Int)(f:Bool):Ob:=.lst [l,.int a,.int p,.bl f]
def znE{st:SO}{n:Nat}{l:PV}{a p v:Int}{f:Bool}(h:st[n]?=AA (flS l a p f)):yaz st (.loc n) (.int 1) (.int v)=AA (st.set n (flS l v p f)):=by erw[yaz,h];rfl
def znL{st:SO}{n:Nat}{l:PV}{a p v:Int}{f:Bool}(h:st[n]?=AA (flS l a p f)):yaz st (.loc n) (.int 2) (.int v)=AA (st.set n (flS l a v f)):=by erw[yaz,h];rfl
def znQ{st:SO}{n:Nat}{l:PV}{a p:Int}{f g:Bool}(h:st[n]?=AA (flS l a p f)):yaz st (.loc n) (.int 3) (.bl g)=AA (st.set n (flS l a p g)):=by erw[yaz,h];rfl
def zoD{st:SO}{n:Nat}{l:PV}{a p:Int}{f:Bool}(h:st[n]?=AA (flS l a p f)):idxV st (.loc n) (.int 0)=AA l:=by erw[idxV,h];rfl
def zoE{st:SO}{n:Nat}{l:PV}{a p:Int}{f:Bool}(h:st[n]?=AA (flS l a p f)):idxV st (.loc n) (.int 1)=AA (.int a):=by erw[idxV,h];rfl
def zoF{st:SO}{n:Nat}{l:PV}{a p:Int}{f:Bool}(h:st[n]?=AA (flS l a p f)):idxV st (.loc n) (.int 3)=AA (.bl f):=by erw[idxV,h];rfl
theorem p18:yP .pow (.int 10) (.int 18)=AA (.int 1000000000000000000):=by ac_rfl
def zeC(k n:Nat){l:PV}{m a v p q:Int}{f g:Bool}{st:SO}(h:st[n]?=AA (flS l a p f))(hl:∀st,yZ .len st [l]=AA (.int m))(hg:(decide (a ≥ m) || decide (v<1000000000000000000))=g)
  (h1:g=AC->yc T (k+1) yio [.int v] (st.set n (flS l (a+1) p AC))=.ok (.int q) (st.set n (flS l (a+1) p AC))) (h2:g=AB->q=v-1000000000000000000):
  exs (yc T (k+1)) [AA (.loc n),AA l,AA (.int a),AA (.int v)] st flT=.nx [AA (.loc n),AA l,AA (.int a),AA (.int v)] (st.set n (flS l (a+1) q g)):=by
 have s1:=znE h (v:=a+1);have r1:=rdS h (x:=flS l (a+1) p f);have s2:=znQ r1 (g:=g);have r2:=rdS r1 (x:=flS l (a+1) p g);have s3:=znL r2 (v:=q);have i3:=zoF r2;rw[D3]at s2 s3 i3 r2;rw[D3]at s3
 have hb:flT=(match flT with
  |.cons a (.cons (.six x y _) r)=>.cons a (.cons (.six x y (.or (.cmp .ge (.var 2) (.blt .len (.cons (.var 1) .nil))) (.cmp .lt (.var 3) (.bin .pow (.cst (.int 10)) (.cst (.int 18)))))) r)
  |x=>x):=rfl
 have hor:∀st,ev (yc T (k+1)) [AA (.loc n),AA l,AA (.int a),AA (.int v)] st (.or (.cmp .ge (.var 2) (.blt .len (.cons (.var 1) .nil))) (.cmp .lt (.var 3) (.bin .pow (.cst (.int 10)) (.cst (.int 18)))))=.ok (.bl g) st:=λst=>by
  cases c:decide (a ≥ m)
  .rw[c,ED]at hg;simp! [hl,c,p18,hg]
  .rw[c,E5]at hg;subst hg;simp! [hl,c]
 generalize hE:(Ce.or (.cmp .ge (.var 2) (.blt .len (.cons (.var 1) .nil))) (.cmp .lt (.var 3) (.bin .pow (.cst (.int 10)) (.cst (.int 18)))))=E at *
 cases g with
 |true=>
  have h1:=h1 rfl;rw[hb];simp! [flT,yai,stO,s1,hor,s2,i3,h1,s3]
 |false=>
  have h2:=h2 rfl;subst h2;rw[hb];simp! [flT,yai,stO,s1,hor,s2,i3,p18,s3]
theorem fill(k n:Nat)(ns:List Int)(hns:ns.length<=1000)(a p:Int)(ha:0<=a)(f:Bool)(st:SO)(h:st[n]?=AA (.lst [.lst (ns.map .int),.int a,.int p,.bl f])):
  ∃p' f',yc T (k+2) yiN [.loc n] st=.ok .non (st.set n (.lst [.lst (ns.map .int),.int (a+1),.int p',.bl f'])):=by
 have hT:T yiN=AA ⟨1,4,AB,yai.body⟩:=rfl;have hl:∀st,yZ .len st [.lst (ns.map .int)]=AA (.int (ns.length:Int)):=λst=>by
  show AA (PV.int (((ns.map PV.int).length:Nat):Int))=_;simp
 have i0:=zoD h;have i1:=zoE h;have bt:∀(a b:PV) (ρ:IC.Env),yU (.t [1,2]) (.tp AB [a,b]) ρ=AA ((ρ.set 1 (AA a)).set 2 (AA b)):=λ_ _ _=>rfl
 have hb:yai.body=(match yai.body with
  |.cons a (.cons b (.cons c _))=>.cons a (.cons b (.cons c flT))
  |x=>x):=rfl
 have m31:yP .mul (.int 31) (.int a)=AA (.int (31*a)):=zaz ⋯;obtain⟨v,hv⟩:∃v,exs (yc T (k+1)) [AA (.loc n),AD,AD,AD] st yai.body=exs (yc T (k+1)) [AA (.loc n),AA (.lst (ns.map .int)),AA (.int a),AA (.int v)] st flT:=by
  by_cases hn:ns=[]
  .have c0:decide ((ns.length:Int) > 0)=false:=by subst hn;rfl
   refine⟨31*a+7,?_⟩;rw[hb];generalize flT=F,ns.map PV.int=L at *;simp! [yai,i0,i1,bt,m31,hl,c0]
  .have h0:0<ns.length:=FL.2 hn;let⟨v,hv⟩:=zm5 ns a hn;have c0:decide ((ns.length:Int) > 0)=true:=decide_eq_true ∅;have d1:=znB (i:=a) (j:=(ns.length:Int)) ∅ ∅;have d2:=zhY (i:=a) (j:=(ns.length:Int)) ∅;have m1:yP .mul (.int 104729) (.int (a/(ns.length:Int)))=AA (.int (104729*(a/(ns.length:Int)))):=zaz ⋯;have ix:∀st,idxV st (.lst (ns.map .int)) (.int (a%(ns.length:Int)))=AA (.int v):=λ_=>hv;refine⟨104729*(a/(ns.length:Int))+v,?_⟩;rw[hb];generalize flT=F,ns.map PV.int=L at *;simp! [yai,i0,i1,bt,m31,hl,c0,d1,d2,m1,ix]
 cases c:(decide (a ≥ (ns.length:Int)) || decide (v<1000000000000000000))with
 |true=>
  let⟨q,hq⟩:=mixed k v (st.set n (flS (.lst (ns.map .int)) (a+1) p AC));refine⟨q,AC,?_⟩;rw[zq hT rfl rfl];have e:=zeC k n h hl c (λ_=>hq) (λh=>nomatch h);rw[<-hv]at e;exact(congrArg _ e).trans rfl
 |false=>
  refine⟨v-1000000000000000000,AB,?_⟩;rw[zq hT rfl rfl];have e:=zeC k n h hl c (λh=>nomatch h) (λ_=>rfl);rw[<-hv]at e;exact(congrArg _ e).trans rfl
def ybo:Ce:=match yab.body with
 |.cons _ (.cons (.while c _) _)=>c
 |_=>.nope
def ybL:Css:=match yab.body with
 |.cons _ (.cons (.while _ b) _)=>b
 |_=>.nil
def zht{c:Cl}{n:Nat}{ns:List Int}{a p m t:Int}{f:Bool}{u:Option PV}{st:SO}(h:st[n]?=AA (.lst [.lst (ns.map .int),.int a,.int p,.bl f])):
  ∃B,ev c [AA (.loc n),AA (.int m),AA (.int t),u] st ybo=.ok (.bl B) st/\(B=AC->t<64):=by
 by_cases h1:t<64
 .by_cases h2:p=0
  .refine⟨AC,?_,λ_=>h1⟩;erw[ybo,yab,IC.ve1,IC.ve2,IC.ve3,IC.ve6,IC.ve7,IC.ve8,IC.ve16,R.bind,AQ,AN,h,idxV,yaG,at?,ixI,yP,binI,yaT,toR,yD,ybH,onBl];simp[h1,h2,zch,peq]
  .have h2:(p==0)=false:=by simp[h2]
   cases f
   .refine⟨AB,?_,λ_=>h1⟩;erw[ybo,yab,IC.ve1,IC.ve2,IC.ve3,IC.ve6,IC.ve7,IC.ve8,IC.ve16,R.bind,AQ,AN,h,idxV,yaG,at?,ixI,yP,binI,yaT,toR,yD,ybH,onBl];simp[h,h1,h2,zch,peq]
   .refine⟨decide (p<m*4096),?_,λ_=>h1⟩;erw[ybo,yab,IC.ve1,IC.ve2,IC.ve3,IC.ve6,IC.ve7,IC.ve8,IC.ve16,R.bind,AQ,AN,h,idxV,yaG,at?,ixI,yP,binI,yaT,toR,yD,ybH,onBl];simp[h,h1,h2,zch,peq]
 .refine⟨AB,?_,λz=>by cases z⟩;erw[ybo,yab,IC.ve1,IC.ve2,IC.ve3,IC.ve6,IC.ve7,IC.ve8,IC.ve16,R.bind,AQ,AN,h,idxV,yaG,at?,ixI,yP,binI,yaT,toR,yD,ybH,onBl];simp[h1]
def zhg(k:Nat){n:Nat}{ns:List Int}(hns:ns.length<=1000){a p m t:Int}(ha:0<=a){f:Bool}{u:Option PV}{st:SO}(h:st[n]?=AA (.lst [.lst (ns.map .int),.int a,.int p,.bl f])):
  ∃p' f',exs (yc T (k+2)) [AA (.loc n),AA (.int m),AA (.int t),u] st ybL=.nx [AA (.loc n),AA (.int m),AA (.int (t+1)),u] (st.set n (.lst [.lst (ns.map .int),.int (a+1),.int p',.bl f'])):=by
 let⟨q,g,hq⟩:=fill k n ns hns a p ha f st h;have hm:(1+q%4093).natAbs<18446744073709551616:=by lia
 have hau:∀st,ex (yc T (k+2)) [AA (.loc n),AA (.int m),AA (.int t),u] st (.aug 2 .add (.cst (.int 1)))=.nx [AA (.loc n),AA (.int m),AA (.int (t+1)),u] st:=λst=>by
  rw[znt (x:=.int t) rfl];simp[IC.ve1,R.fl,ybJ,yP,binI,nxO]
 cases g
 .refine⟨q,AB,?_⟩;erw[ybL,yab,xs_cons,xs_nil,x_expr,x_ite,x_six,hau,yaS,nxO,IC.ve1,IC.ve2,IC.ve3,IC.ve6,IC.ve8,IC.ve16,IC.ve18,evs,R.fl,R.bind,hq,ybJ,yP,binI,Bd,BF,BN,AQ,AN,rdS h,idxV,yaG,at?,ixI,yaT,toR,yD,ybH,onBl,onF,yaL];simp[rdS h]
 .by_cases hl:q<m*4096
  .refine⟨q+m*4096*(1+q%4093),AC,?_⟩;erw[ybL,yab,xs_cons,xs_nil,x_expr,x_ite,x_six,hau,yaS,nxO,IC.ve1,IC.ve2,IC.ve3,IC.ve6,IC.ve8,IC.ve16,IC.ve18,evs,R.fl,R.bind,hq,ybJ,yP,binI,Bd,BF,BN,AQ,AN,rdS h,idxV,yaG,at?,ixI,yaT,toR,yD,ybH,onBl,onF,yaL,stO,yaz];simp[rdS h,hl,hm]
  .refine⟨q,AC,?_⟩;erw[ybL,yab,xs_cons,xs_nil,x_expr,x_ite,x_six,hau,yaS,nxO,IC.ve1,IC.ve2,IC.ve3,IC.ve6,IC.ve8,IC.ve16,IC.ve18,evs,R.fl,R.bind,hq,ybJ,yP,binI,Bd,BF,BN,AQ,AN,rdS h,idxV,yaG,at?,ixI,yaT,toR,yD,ybH,onBl,onF,yaL];simp[rdS h,hl]
def zdE(k:Nat){n:Nat}{ns:List Int}(hns:ns.length<=1000){m:Int}{u:Option PV}:∀(r N:Nat) (t a p:Int) (f:Bool) (st:SO),r<=N->64-t<=r->0<=a->st[n]?=AA (.lst [.lst (ns.map .int),.int a,.int p,.bl f]) ->
  ∃t' a' p' f',0<=a'/\yaY (yc T (k+2)) ybo ybL (N+1) [AA (.loc n),AA (.int m),AA (.int t),u] st=.nx [AA (.loc n),AA (.int m),AA (.int t'),u] (st.set n (.lst [.lst (ns.map .int),.int a',.int p',.bl f']))
 |r,N,t,a,p,f,st,hN,ht,ha,h=>by
  let⟨B,hB,hb⟩:=zht (c:=yc T (k+2)) (m:=m) (t:=t) (u:=u) h;have hs:st.set n (.lst [.lst (ns.map .int),.int a,.int p,.bl f])=st:=by
   refine Fq λi=>?_;rw[C3];split
   .rename_i e;subst e;split
    .exact h.symm
    .rename_i z;rw[BZ ∅]at h
     cases h
   .rfl
  cases B with
  |false=>exact⟨t,a,p,f,ha,by rw[zef hB rfl,hs]⟩
  |true=>
   have h64:=hb rfl
   match r,N with
   |0,_=>exact absurd ht ∅
   |r+1,N+1=>
    let⟨p1,f1,hx⟩:=zhg k hns (m:=m) (t:=t) ha (u:=u) h;let⟨t',a',p',f',h0,h2⟩:=zdE k hns (m:=m) (u:=u) r N (t+1) (a+1) p1 f1 _ ∅ ∅ ∅ (rdS h);refine⟨t',a',p',f',h0,?_⟩;rw[zhm hB rfl hx,h2,D3]
theorem take(k n:Nat)(ns:List Int)(hns:ns.length<=1000)(a p m:Int)(ha:0<=a)(hm:0<m)(hm2:m<10000000000000000000000000000000000000000000000000000000000000000000000)(f:Bool)(st:SO)(h:st[n]?=AA (.lst [.lst (ns.map .int),.int a,.int p,.bl f])):
  ∃d a' p' f',0<=d/\d<m/\0<=a'/\yc T (k+3) ya [.loc n,.int m] st=.ok (.int d) (st.set n (.lst [.lst (ns.map .int),.int a',.int p',.bl f'])):=by
 let⟨t',a',p',f',h0,h2⟩:=zdE k hns (m:=m) (u:=AD) 64 99999 0 a p f st ∅ ∅ ha h;refine⟨p'%m,a',p'/m,f',Ed _ ∅,Dq _ hm,h0,?_⟩;have hb:yab.body=.cons (.asg (.n 2) (.cst (.int 0))) (.cons (.while ybo ybL) (.cons (.asg (.n 3) (.bin .mod (.idx (.var 0) (.cst (.int 2))) (.var 1))) (.cons (.six (.var 0) (.cst (.int 2)) (.bin .fdiv (.idx (.var 0) (.cst (.int 2))) (.var 1))) (.cons (.ret (.var 3)) .nil)))):=rfl;have hT:T ya=AA ⟨2,4,AB,yab.body⟩:=rfl;rw[yc,hT,hb];erw[AW,Av,if_true,AX,BM,Bu,Aj,BA,BD,xs_cons,xs_nil,x_asg,zjQ,x_six,x_ret,yaS,nxO,stO,IC.ve1,IC.ve2,IC.ve3,IC.ve16,R.fl,R.bind,yU,BF,BN,AQ,AN,h2,rdS h,idxV,yaG,at?,ixI,yP,binI,hm,hm2,and_self,toR,yaz];simp[rdS h,hm,hm2]
def Drw(ns:List Int)(n:Nat)(st:SO):Prop:=∃a p f,0<=a/\st[n]?=AA (.lst [.lst (ns.map .int),.int a,.int p,.bl f])
def Onl(ns:List Int)(n:Nat)(st st':SO):Prop:=∃a p f,0<=a/\st'=st.set n (.lst [.lst (ns.map .int),.int a,.int p,.bl f])
theorem Onl.drw{ns:List Int}{n:Nat}{st st':SO}(h:Drw ns n st)(o:Onl ns n st st'):Drw ns n st':=by
 let⟨a,p,f,ha,h⟩:=h;let⟨b,q,g,hb,rfl⟩:=o;exact⟨b,q,g,hb,rdS h⟩
theorem Onl.trans{ns:List Int}{n:Nat}{st st1 st2:SO}(o:Onl ns n st st1)(o2:Onl ns n st1 st2):Onl ns n st st2:=by
 let⟨b,q,g,hb,rfl⟩:=o;let⟨c,r,j,hc,rfl⟩:=o2;exact⟨c,r,j,hc,by rw[D3]⟩
def zgG(k:Nat){n:Nat}{ns:List Int}(hns:ns.length<=1000){m:Int}(hm:0<m)(hm2:m<10000000000000000000000000000000000000000000000000000000000000000000000){st:SO}(h:Drw ns n st):
  ∃d st',0<=d/\d<m/\Onl ns n st st'/\yc T (k+3) ya [.loc n,.int m] st=.ok (.int d) st':=by
 let⟨a,p,f,ha,h⟩:=h;let⟨d,a',p',f',h1,h2,h3,h4⟩:=take k n ns hns a p m ha hm hm2 f st h;exact⟨d,_,h1,h2,⟨_,_,_,h3,rfl⟩,h4⟩
theorem fresh(k:Nat)(ns:List Int)(h:ns.length<=63)(st:SO):∃v,yc T (k+1) yin [.scr (ns.map .int)] st=.ok (.loc st.length) (st++[v])/\v=.lst [.lst (ns.map .int),.int 0,.int 0,.bl AB]:=by
 have hT:T yin=AA yh0:=rfl;refine⟨_,?_,rfl⟩;rw[yc,hT];erw[yh0,AW,Av,if_true,AX,BM,Bu,Aj,BA,BD,xs_cons,xs_nil,x_ret,yaS,ev,evs,R.fl,R.bind,AQ,toR];have hc:yb6 (.scr (ns.map PV.int)) AD (.int 63)=AA (.lst (ns.map .int)):=by
  have hk:yaU ns.length 63=ns.length:=by
   show min 63 ns.length=ns.length;lia
  simp[yb6,ybB,yb3,cut,ycm,yb5,hk]
  try rw[<-Af (f:=PV.int),GG]
 simp[ybB,onP,hc,sizeMax]
theorem Drw.refl{ns:List Int}{n:Nat}{st:SO}(h:Drw ns n st):Onl ns n st st:=by
 let⟨a,p,f,ha,h⟩:=h;exact⟨a,p,f,ha,zia h⟩
theorem Drw.pos{ns:List Int}{st:SO}(h:Drw ns 0 st):0<st.length:=by
 let⟨a,p,f,ha,h⟩:=h;rcases E7 0 st.length with z|z
 .exact z
 .rw[BZ z]at h;cases h
theorem Drw.app{ns:List Int}{st:SO}(h:Drw ns 0 st)(o:Ob):Drw ns 0 (st++[o]):=by
 have hl:=h.pos;let⟨a,p,f,ha,h⟩:=h;exact⟨a,p,f,ha,by rw[AY hl];exact h⟩
theorem Drw.put{ns:List Int}{st:SO}(h:Drw ns 0 st){L:Nat}(hL:L≠0)(o:Ob):Drw ns 0 (st.set L o):=by
 let⟨a,p,f,ha,h⟩:=h;exact⟨a,p,f,ha,by rw[A3 hL];exact h⟩
theorem Onl.get{ns:List Int}{st st':SO}(o:Onl ns 0 st st'){L:Nat}(hL:L≠0):st'[L]?=st[L]?:=by
 let⟨a,p,f,ha,rfl⟩:=o;rw[A3 (BP hL)]
def zfj(l:List Int):nLs [PV.scr (l.map .int)]=true:=by simp[nLs,nL,noLocs_ints]
theorem Onl.len{ns:List Int}{n:Nat}{st st':SO}(o:Onl ns n st st'):st'.length=st.length:=by
 let⟨a,p,f,ha,rfl⟩:=o;rw[BB]
local macro_rules | `(tactic| simp! [$xs,*])=>do
 let l<-("IC.xs_cons IC.xs_nil IC.x_asg IC.x_ite IC.x_ret IC.x_expr IC.x_for IC.x_six IC.x_try IC.x_raise IC.evs IC.evi IC.ve1 IC.ve2 IC.ve3 IC.ve4 IC.ve5 IC.ve6 IC.ve7 IC.ve8 IC.ve9 IC.ve10 IC.ve11 IC.ve12 IC.ve13 IC.ve14 IC.ve16 IC.ve17 IC.ve18 IC.ve19 IC.ve20 IC.ve21 IC.ve22 IC.ve24 IC.ve25 IC.v_comp List.getElem?_cons_zero List.getElem?_cons_succ WK.bd_ok WK.fl_ok WK.bd_exc WK.fl_exc WK.toR_some IC.toL WK.bT_n WK.nxO_some WK.th_nx WK.th_rt WK.th_exc List.set_cons_zero List.set_cons_succ WK.on_t WK.t_bl WK.ono IC.onBl cond_true cond_false List.length_cons List.length_nil Nat.zero_add Nat.reduceAdd Nat.reduceSub Nat.reduceLeDiff if_true IC.nL IC.nLs WK.noLocs_ints Bool.and_self Bool.not_true Bool.not_false List.map_cons List.map_nil List.replicate List.cons_append List.nil_append List.append_nil Option.bind_none Option.bind_some Option.join_some WK.b_add WK.b_sub WK.b_mul2 WK.b_div2 WK.c_lt WK.c_le WK.c_gt WK.c_ge WK.c_eq WK.c_ne IC.PV.tup IC.sizeMax".splitOn " ").toArray.mapM λs=>`(Lean.Parser.Tactic.simpLemma| $(Lean.mkIdent s.toName):term)
 `(tactic| simp only[$l,*,$xs,*])
def wh(lo hi:Int):PV->Bool
 |.int i=>decide (lo<=i)&&decide (i<=hi)
 |_=>AB
def ltr:PV->Bool
 |.str s=>match s.cps.toList with
  |[c]=>decide (97<=c)&&decide (c<=122)
  |_=>AB
 |_=>AB
def told(n:Nat):PV->Bool
 |.tp _ xs=>decide (xs.length=n)&&xs.all (wh (-200) 200)
 |_=>AB
def zaL(k:Nat){d m:Nat}{v:PV}(hv:tam d m v=AC)(lo hi:Int)(st:SO):yc T (k+1) yh6 [v,.int lo,.int hi] st=.ok (.bl (wh lo hi v)) st:=by
 have hT:T yh6=AA ym:=rfl;have hn:=zo d m v hv;rw[zd hT rfl rfl (by simp[nLs,nL,hn])]
 cases v with
 |int i=>
  by_cases h:lo<=i
  .simp! [ym,zc,yG,yF,yJ,blO,decide_eq_true h,wh,A8]
  .simp! [ym,zc,yG,yF,yJ,blO,decide_eq_false h,wh,Ah]
 |bl b=>simp! [ym,zc,yG,yF,yJ,wh]
 |non=>simp! [ym,zc,yG,yF,yJ,wh]
 |str s=>simp! [ym,zc,yG,yF,yJ,wh]
 |tp b xs=>simp! [ym,zc,yG,yF,yJ,wh]
 |lst xs=>simp! [ym,zc,yG,yF,yJ,wh]
 |loc _=>simp[tam]at hv
 |exn _=>simp[tam]at hv
 |fnc _=>simp[tam]at hv
 |scr _=>simp[tam]at hv
def zjg(c d:Nat):decide ([c] < [d])=decide (c<d):=by
 have:[c] < [d] ↔ c<d:=by
  rw[List.cons_lt_cons_iff];simp
 exact decide_eq_decide.mpr this
def zmg:(AE "a").cps.toList=[97]:=by decide +kernel
def zlA:(AE "z").cps.toList=[122]:=by decide +kernel
def zjn{s:AO}{st:SO}(h:s.cps.toList.length<=1000000):yZ .len st [.str s]=AA (.int s.cps.toList.length):=by
 have:s.length=s.cps.toList.length:=by simp[G3]
 erw[yZ,lenV,this];rw[if_pos (by erw[sizeMax];lia)]
def zbS(k:Nat){d m:Nat}{v:PV}(hv:tam d m v=AC)(hm:m<=1000)(st:SO):yc T (k+1) yiC [v] st=.ok (.bl (ltr v)) st:=by
 have hT:T yiC=AA yk:=rfl;have hn:=zo d m v hv;rw[zd hT rfl rfl (by simp[nLs,nL,hn])]
 cases v with
 |str s=>
  erw[tam,AG,decide_eq_true_eq]at hv;have hl:=zjn (s:=s) (st:=[]) ∅
  cases hs:s.cps.toList with
  |nil=>
   rw[hs]at hl;simp! [yk,zc,yG,yF,yJ,hl,ltr,hs];rfl
  |cons c r=>
   cases r with
   |nil=>
    rw[hs]at hl;have h1:yD .le (.str "a") (.str s)=AA (.bl (decide (97<=c))):=by
     erw[yD,ydu,hs,zmg,zjg]
     by_cases q:c<97
     .rw[decide_eq_true q,decide_eq_false ∅];rfl
     .rw[decide_eq_false q,decide_eq_true ∅];rfl
    have h2:yD .le (.str s) (.str "z")=AA (.bl (decide (c<=122))):=by
     erw[yD,ydu,hs,zlA,zjg]
     by_cases q:122<c
     .rw[decide_eq_true q,decide_eq_false ∅];rfl
     .rw[decide_eq_false q,decide_eq_true ∅];rfl
    have h0:(((1:Nat):Int)==1)=true:=rfl
    by_cases q:97<=c
    .simp! [yk,zc,yG,yF,yJ,hl,h0,ltr,hs,h1,h2,blO,decide_eq_true q,A8]
    .simp! [yk,zc,yG,yF,yJ,hl,h0,ltr,hs,h1,h2,blO,decide_eq_false q,Ah]
   |cons e r=>
    rw[hs]at hl;have h0:((((c::e::r:List Nat).length:Nat):Int)==1)=false:=by
     rw[beq_eq_false_iff_ne];erw[AW];lia
    erw[AW]at hl h0;simp! [yk,zc,yG,yF,yJ,hl,h0,ltr,hs]
 |int i=>simp! [yk,zc,yG,yF,yJ,ltr]
 |bl b=>simp! [yk,zc,yG,yF,yJ,ltr]
 |non=>simp! [yk,zc,yG,yF,yJ,ltr]
 |tp b xs=>simp! [yk,zc,yG,yF,yJ,ltr]
 |lst xs=>simp! [yk,zc,yG,yF,yJ,ltr]
 |loc _=>simp[tam]at hv
 |exn _=>simp[tam]at hv
 |fnc _=>simp[tam]at hv
 |scr _=>simp[tam]at hv
def zbN(a b:Nat):yD .ne (.int a) (.int b)=AA (.bl (!decide (a=b))):=by
 rw[c_ne]
 by_cases h:a=b
 .subst h;simp
 .rw[decide_eq_false h,show ((a:Int)==b)=AB by rw[beq_eq_false_iff_ne];lia]
def zh{k:Bool}{xs:List PV}{st:SO}:yZ .len st [.tp k xs]=AA (.int xs.length):=rfl
def zat(k:Nat){d m:Nat}{v:PV}(hv:tam d m v=AC)(hm:m<=1000)(n:Nat)(st:SO):yc T (k+2) ydn [v,.int n] st=.ok (.bl (told n v)) st:=by
 have hT:T ydn=AA yn:=rfl;have hn:=zo d m v hv;rw[zd hT rfl rfl (by simp[nLs,nL,hn])]
 cases v with
 |tp b xs=>
  let⟨h0,h1,h2⟩:=zD.1 hv;have hc:yV (yc T (k+1)) [AD] (.n 0) (.cst (.bl AC)) (.call yh6 (.cons (.var 0) (.cons (.neg (.cst ygg)) (.cons (.cst ygg) .nil)))) xs []=.ok (xs.map λx=>.bl (wh (-200) 200 x)) []:=by
   refine zav _ λp hp=>?_;have:=zaL k (h2 p hp) (-200) 200 [];have hv:ygg=.int 200:=rfl;simp! [yaA,hv,this]
  have hne:=zbN xs.length n
  by_cases h:xs.length=n
  .rw[decide_eq_true h]at hne;simp! [yn,zc,yG,yF,yJ,zh,hne,hc];rw[z7 _ (by rw[Af];lia)];simp! [zbf,zc,told,decide_eq_true h,A8]
  .rw[decide_eq_false h]at hne;simp! [yn,zc,yG,yF,yJ,zh,hne,told,decide_eq_false h,Ah]
 |int i=>simp! [yn,zc,yG,yF,yJ,told]
 |bl b=>simp! [yn,zc,yG,yF,yJ,told]
 |non=>simp! [yn,zc,yG,yF,yJ,told]
 |str s=>simp! [yn,zc,yG,yF,yJ,told]
 |lst xs=>simp! [yn,zc,yG,yF,yJ,told]
 |loc _=>simp[tam]at hv
 |exn _=>simp[tam]at hv
 |fnc _=>simp[tam]at hv
 |scr _=>simp[tam]at hv
abbrev ybr:Str:=AE "mark"
abbrev yaE:Str:=AE "slice"
def thg:PV->Bool
 | .tp _ (x::r)=>if peq x (.str ybr)then r.isEmpty else if peq x (.str yaE)then(match r with
  |[l,a,b]=>ltr l&&(told 4 a&&told 4 b)
  |_=>AB)else AB
 |_=>AB
def ths:PV->Bool
 |.tp _ xs=>decide (xs.length<=2)&&xs.all thg
 |_=>AB
def trm:PV->Bool
 |.tp _ [f,e,t]=>wh (1-10^40) (10^40-1) f&&(told 6 e&&ths t)
 |_=>AB
def sen:PV->Bool
 |.tp _ xs=>decide (xs.length<=20)&&xs.all trm
 |_=>AB
def zfk{d m:Nat}{v:PV}(hv:tam d m v=AC)(hd:d<=60)(s:AO)(hs:s.cps.all (· < 0x110000)=AC):yD .eq v (.str s)=AA (.bl (peq v (.str s))):=by
 have h1:shp v=true:=zbi hv hd;have h2:shp (.str s)=true:=hs;erw[yD];rw[if_pos (by rw[h1,h2];rfl)]
def zjO{d m:Nat}{v:PV}(hv:tam d m v=AC)(hd:d<=60)(s:AO)(hs:s.cps.all (· < 0x110000)=AC):yD .ne v (.str s)=AA (.bl (!peq v (.str s))):=by
 have h1:shp v=true:=zbi hv hd;have h2:shp (.str s)=true:=hs;erw[yD];rw[if_pos (by rw[h1,h2];rfl)]
def zn4:ybr.cps.all (· < 0x110000)=true:=by decide +kernel
def znY:yaE.cps.all (· < 0x110000)=true:=by decide +kernel
def zbr(a b:Nat):yD .eq (.int a) (.int b)=AA (.bl (decide (a=b))):=by
 rw[c_eq]
 by_cases h:a=b
 .subst h;simp
 .rw[decide_eq_false h,show ((a:Int)==b)=AB by rw[beq_eq_false_iff_ne];lia]
def zd9(k:Nat){d m:Nat}{v:PV}(hv:tam d m v=AC)(hd:d<=60)(hm:m<=1000)(st:SO):yc T (k+3) yij [v] st=.ok (.bl (thg v)) st:=by
 have hT:T yij=AA yi:=rfl;have hn:=zo d m v hv;rw[zd hT rfl rfl (by simp[nLs,nL,hn])]
 cases v with
 |tp b xs=>
  let⟨h0,h1,h2⟩:=zD.1 hv
  cases xs with
  |nil=>
   have hl0:yD .eq (.int (([]:List PV).length:Int)) (.int 0)=AA (.bl AC):=rfl;simp! [yi,zc,yG,yF,yJ,zh,hl0,thg];rfl
  |cons x r=>
   have hx:=h2 x A7;have hl0:yD .eq (.int ((r.length+1:Nat):Int)) (.int 0)=AA (.bl AB):=by
    have:=zbr (r.length+1) 0;rw[decide_eq_false ∅]at this;exact this
   have hem:=zfk hx ∅ ybr zn4;have hes:=zjO hx ∅ yaE znY;have hi0:∀st,idxV st (.tp b (x::r)) (.int 0)=AA x:=λst=>ix0
   by_cases q:peq x (.str ybr)=AC
   .have hl1:yD .eq (.int ((r.length+1:Nat):Int)) (.int 1)=AA (.bl r.isEmpty):=by
     have:=zbr (r.length+1) 1;have e:decide (r.length+1=1)=r.isEmpty:=by cases r<;>simp
     rw[e]at this;exact this
    rw[q]at hem;have ht:thg (.tp b (x::r))=r.isEmpty:=by erw[thg,q,if_true]
    rw[ht];simp! [yi,zc,yG,yF,yJ,zh,hl0,hi0,hem,hl1]
   .have q:peq x (.str ybr)=false:=by simpa using q
    rw[q]at hem
    by_cases q2:peq x (.str yaE)=AC
    .rw[q2]at hes
     by_cases h4:r.length=3
     .obtain⟨l,a,c,rfl⟩:∃l a c,r=[l,a,c]:=by
       match r,h4 with
       |[l,a,c],_=>exact⟨l,a,c,rfl⟩
      have hl4:yD .ne (.int ((([l,a,c]:List PV).length+1:Nat):Int)) (.int 4)=AA (.bl AB):=rfl;have hL:=zbS (k+1) (h2 l (by simp)) hm [];have hA:=(show yc T (k+2) ydn [a,.int 4] []=_ from zat k (h2 a (by simp)) hm 4 []);have hC:=(show yc T (k+2) ydn [c,.int 4] []=_ from zat k (h2 c (by simp)) hm 4 []);have ht:thg (.tp b [x,l,a,c])=(ltr l&&(told 4 a&&told 4 c)):=by erw[thg,q,q2,if_true,Ap,if_false]
      rw[ht];erw[AW,Av,BV,C0]at hl0 hl4
      cases e1:ltr l with
      |false=>
       rw[e1]at hL;simp! [yi,zc,yG,yF,yJ,zh,hl0,hi0,hem,hes,hl4,ix1,hL,Ah]
      |true=>
       rw[e1]at hL
       cases e2:told 4 a with
       |false=>
        rw[e2]at hA;simp! [yi,zc,yG,yF,yJ,zh,hl0,hi0,hem,hes,hl4,ix1,ix2,ix3,hL,A8,Ah,hA]
       |true=>
        rw[e2]at hA;simp! [yi,zc,yG,yF,yJ,zh,hl0,hi0,hem,hes,hl4,ix1,ix2,ix3,hL,A8,hA,hC]
     .have hl4:yD .ne (.int ((r.length+1:Nat):Int)) (.int 4)=AA (.bl AC):=by
       have:=zbN (r.length+1) 4;rw[decide_eq_false ∅]at this;exact this
      have ht:thg (.tp b (x::r))=false:=by
       erw[thg,q,q2,if_true,Ap,if_false];split
       .simp at h4
       .rfl
      rw[ht];simp! [yi,zc,yG,yF,yJ,zh,hl0,hi0,hem,hes,hl4]
    .have q2:peq x (.str yaE)=false:=by simpa using q2
     rw[q2]at hes;have ht:thg (.tp b (x::r))=false:=by erw[thg,q,q2,Ap,if_false]
     rw[ht];simp! [yi,zc,yG,yF,yJ,zh,hl0,hi0,hem,hes]
 |int i=>simp! [yi,zc,yG,yF,yJ,thg]
 |bl b=>simp! [yi,zc,yG,yF,yJ,thg]
 |non=>simp! [yi,zc,yG,yF,yJ,thg]
 |str s=>simp! [yi,zc,yG,yF,yJ,thg]
 |lst xs=>simp! [yi,zc,yG,yF,yJ,thg]
 |loc _=>simp[tam]at hv
 |exn _=>simp[tam]at hv
 |fnc _=>simp[tam]at hv
 |scr _=>simp[tam]at hv
def zjk(a b:Nat):yD .le (.int a) (.int b)=AA (.bl (decide (a<=b))):=by
 rw[c_le]
 by_cases h:a<=b
 .rw[decide_eq_true h,decide_eq_true ∅]
 .rw[decide_eq_false h,decide_eq_false ∅]
def zdc(k:Nat){d m:Nat}{v:PV}(hv:tam d m v=AC)(hd:d<=60)(hm:m<=1000)(st:SO):yc T (k+4) yiL [v] st=.ok (.bl (ths v)) st:=by
 have hT:T yiL=AA yy:=rfl;have hn:=zo d m v hv;have hM:yiB=.int ((2:Nat):Int):=rfl;rw[zd hT rfl rfl (by simp[nLs,nL,hn])]
 cases v with
 |tp b xs=>
  let⟨h0,h1,h2⟩:=zD.1 hv;have hc:yV (yc T (k+3)) [AD] (.n 0) (.cst (.bl AC)) (.call yij (.cons (.var 0) .nil)) xs []=.ok (xs.map λx=>.bl (thg x)) []:=by
   refine zav _ λp hp=>?_;have:=zd9 k (h2 p hp) ∅ hm [];simp! [yaA,this]
  have hle:=zjk xs.length 2
  by_cases h:xs.length<=2
  .rw[decide_eq_true h]at hle;simp! [yy,zc,yG,yF,yJ,zh,hM,hle,hc];rw[z7 _ (by rw[Af];lia)];simp! [zbf,zc,ths,decide_eq_true h,A8]
  .rw[decide_eq_false h]at hle;simp! [yy,zc,yG,yF,yJ,zh,hM,hle,ths,decide_eq_false h,Ah]
 |int i=>simp! [yy,zc,yG,yF,yJ,ths]
 |bl b=>simp! [yy,zc,yG,yF,yJ,ths]
 |non=>simp! [yy,zc,yG,yF,yJ,ths]
 |str s=>simp! [yy,zc,yG,yF,yJ,ths]
 |lst xs=>simp! [yy,zc,yG,yF,yJ,ths]
 |loc _=>simp[tam]at hv
 |exn _=>simp[tam]at hv
 |fnc _=>simp[tam]at hv
 |scr _=>simp[tam]at hv
def zfg(k:Nat){d m:Nat}{v:PV}(hv:tam d m v=AC)(hd:d<=60)(hm:m<=1000)(st:SO):yc T (k+5) yii [v] st=.ok (.bl (trm v)) st:=by
 have hT:T yii=AA yl:=rfl;have hn:=zo d m v hv;have hF:yig=.int (10^40):=rfl;rw[zd hT rfl rfl (by simp[nLs,nL,hn])]
 cases v with
 |tp b xs=>
  let⟨h0,h1,h2⟩:=zD.1 hv
  by_cases h3:xs.length=3
  .obtain⟨f,e,t,rfl⟩:∃f e t,xs=[f,e,t]:=by
    match xs,h3 with
    |[f,e,t],_=>exact⟨f,e,t,rfl⟩
   have h3:yD .ne (.int ((3:Nat):Int)) (.int 3)=AA (.bl AB):=rfl;have hW:=zaL (k+3) (h2 f (by simp)) (1-10^40) (10^40-1) [];have hE:=(show yc T (k+4) ydn [e,.int 6] []=_ from zat (k+2) (h2 e (by simp)) hm 6 []);have hH:=zdc k (h2 t (by simp)) ∅ hm [];have hb:yU (.t [1,2,3]) (.tp b [f,e,t]) [AA (.tp b [f,e,t]),AD,AD,AD]=AA [AA (.tp b [f,e,t]),AA f,AA e,AA t]:=rfl;have ht:trm (.tp b [f,e,t])=(wh (1-10^40) (10^40-1) f&&(told 6 e&&ths t)):=rfl;rw[ht]
   cases e1:wh (1-10^40) (10^40-1) f with
   |false=>
    rw[e1]at hW;simp! [yl,zc,yG,yF,yJ,zh,h3,hb,hF,hW,Ah]
   |true=>
    rw[e1]at hW
    cases e2:told 6 e with
    |false=>
     rw[e2]at hE;simp! [yl,zc,yG,yF,yJ,zh,h3,hb,hF,hW,hE,A8,Ah]
    |true=>
     rw[e2]at hE;simp! [yl,zc,yG,yF,yJ,zh,h3,hb,hF,hW,hE,hH,A8]
  .have hl3:yD .ne (.int (xs.length:Int)) (.int 3)=AA (.bl AC):=by
    have:=zbN xs.length 3;rw[decide_eq_false h3]at this;exact this
   have ht:trm (.tp b xs)=false:=by
    unfold trm;split
    .rename_i e
     cases e
     simp at h3
    .rfl
   rw[ht];simp! [yl,zc,yG,yF,yJ,zh,hl3]
 |int i=>simp! [yl,zc,yG,yF,yJ,trm]
 |bl b=>simp! [yl,zc,yG,yF,yJ,trm]
 |non=>simp! [yl,zc,yG,yF,yJ,trm]
 |str s=>simp! [yl,zc,yG,yF,yJ,trm]
 |lst xs=>simp! [yl,zc,yG,yF,yJ,trm]
 |loc _=>simp[tam]at hv
 |exn _=>simp[tam]at hv
 |fnc _=>simp[tam]at hv
 |scr _=>simp[tam]at hv
def zcI(k:Nat){d m:Nat}{v:PV}(hv:tam d m v=AC)(hd:d<=60)(hm:m<=1000)(st:SO):yc T (k+6) yiJ [v] st=.ok (.bl (sen v)) st:=by
 have hT:T yiJ=AA yv:=rfl;have hn:=zo d m v hv;have hM:yiA=.int ((20:Nat):Int):=rfl;rw[zd hT rfl rfl (by simp[nLs,nL,hn])]
 cases v with
 |tp b xs=>
  let⟨h0,h1,h2⟩:=zD.1 hv;have hc:yV (yc T (k+5)) [AD] (.n 0) (.cst (.bl AC)) (.call yii (.cons (.var 0) .nil)) xs []=.ok (xs.map λx=>.bl (trm x)) []:=by
   refine zav _ λp hp=>?_;have:=zfg k (h2 p hp) ∅ hm [];simp! [yaA,this]
  have hle:=zjk xs.length 20
  by_cases h:xs.length<=20
  .rw[decide_eq_true h]at hle;simp! [yv,zc,yG,yF,yJ,zh,hM,hle,hc];rw[z7 _ (by rw[Af];lia)];simp! [zbf,zc,sen,decide_eq_true h,A8]
  .rw[decide_eq_false h]at hle;simp! [yv,zc,yG,yF,yJ,zh,hM,hle,sen,decide_eq_false h,Ah]
 |int i=>simp! [yv,zc,yG,yF,yJ,sen]
 |bl b=>simp! [yv,zc,yG,yF,yJ,sen]
 |non=>simp! [yv,zc,yG,yF,yJ,sen]
 |str s=>simp! [yv,zc,yG,yF,yJ,sen]
 |lst xs=>simp! [yv,zc,yG,yF,yJ,sen]
 |loc _=>simp[tam]at hv
 |exn _=>simp[tam]at hv
 |fnc _=>simp[tam]at hv
 |scr _=>simp[tam]at hv
def isI:PV->Bool
 |.int _=>AC
 |_=>AB
def zaU(k:Nat){d m:Nat}{v:PV}(hv:tam d m v=AC)(st:SO):yc T (k+1) yiq [v] st=.ok (.bl (isI v)) st:=by
 have hT:T yiq=AA yh2:=rfl;have hn:=zo d m v hv;rw[zd hT rfl rfl (by simp[nLs,nL,hn])]
 cases v with
 |loc _=>simp[tam]at hv
 |exn _=>simp[tam]at hv
 |fnc _=>simp[tam]at hv
 |scr _=>simp[tam]at hv
 |_=>simp! [yh2,zc,yG,yF,yJ,isI]
abbrev ycv:Str:=AE "abcdefghijklmnopqrstuvwxyz"
def zkh:(EW 128).all (λc=>inS ⟨#[c]⟩ ycv==(decide (97<=c)&&decide (c<=122)))=true:=by decide +kernel
def zkG{c:Nat}(h:c<128):inS ⟨#[c]⟩ ycv=(decide (97<=c)&&decide (c<=122)):=by
 have:=Ag.mp zkh c (by simpa using h);exact eq_of_beq this
def zgk(s:AO){l:List Nat}(h:s.cps.toList=l):s=⟨l.toArray⟩:=by
 let⟨⟨c⟩⟩:=s;simp at h;rw[h]
def zc9(k:Nat){d m:Nat}{v:PV}(hv:tam d m v=AC)(hm:m<=1000)(st:SO):yc T (k+1) yiO [v] st=.ok (.bl (ltr v)) st:=by
 have hT:T yiO=AA yfx:=rfl;have hn:=zo d m v hv;rw[zd hT rfl rfl (by simp[nLs,nL,hn])]
 cases v with
 |str s=>
  erw[tam,AG,decide_eq_true_eq]at hv;have hl:=zjn (s:=s) (st:=[]) ∅
  by_cases h1:s.cps.toList.length=1
  .obtain⟨c,hs⟩:∃c,s.cps.toList=[c]:=by
    match h:s.cps.toList,h1 with
    |[c],_=>exact⟨c,rfl⟩
   have hc:c<128:=by
    have:=Ag.1 hv.1 c (by rw[hs];simp);simpa using this
   have hin:yD .isin (.str s) (.str ycv)=AA (.bl (decide (97<=c)&&decide (c<=122))):=by
    rw[zgk s hs];exact congrArg (λb=>AA (PV.bl b)) (zkG hc)
   rw[hs]at hl;have h0:(((1:Nat):Int)==1)=true:=rfl;simp! [yfx,zc,yG,yF,yJ,hl,h0,hin,ltr,hs]
  .have h0:(((s.cps.toList.length:Nat):Int)==1)=false:=by
    rw[beq_eq_false_iff_ne];lia
   have ht:ltr (.str s)=false:=by
    unfold ltr;dsimp only;split
    .rename_i e;rw[e]at h1;simp at h1
    .rfl
   rw[ht];simp! [yfx,zc,yG,yF,yJ,hl,h0]
 |loc _=>simp[tam]at hv
 |exn _=>simp[tam]at hv
 |fnc _=>simp[tam]at hv
 |scr _=>simp[tam]at hv
 |_=>simp! [yfx,zc,yG,yF,yJ,ltr]
def zbK{α:Type}{i:Int}{k:Option Int->R α}:onP (ybB (.int i)) k=k (AA i):=rfl
def zkx{α:Type}{k:Option Int->R α}:onP (ybB .non) k=k none:=rfl
def zhk{n:Nat}{i:Int}(h0:0<=i)(h1:i<n):ixI n i=AA i.toNat:=by simp[ixI,h0,h1]
def zk8{st:SO}{xs:List PV}{i:Int}(h0:0<=i)(h1:i<xs.length):∃x,x∈xs/\idxV st (.lst xs) (.int i)=AA x:=by
 have hi:i.toNat<xs.length:=by lia
 refine⟨xs[i.toNat],GM hi,?_⟩;erw[idxV,yaG,at?,zhk h0 h1,Az];exact Bf hi
def zeD{k:Bool}{xs:List PV}{i:Int}(h0:0<=i)(h1:i<xs.length):∃x,x∈xs/\∀st,idxV st (.tp k xs) (.int i)=AA x:=by
 have hi:i.toNat<xs.length:=by lia
 refine⟨xs[i.toNat],GM hi,λst=>?_⟩;erw[idxV,yaG,at?,zhk h0 h1,Az];exact Bf hi
def zgF{c d m:Nat}(h:c<128)(hm:1<=m):tam d m (.str ⟨#[c]⟩)=true:=by
 simp[tam,h];lia
def zkE:ycv.cps.toList.length=26:=by decide +kernel
def zlo{x:PV}{o:Option Int}{i:Int}:yb6 x o (.int i)=yb3 x o (AA i):=rfl
abbrev ya1:Str:=AE "figure"
abbrev yaa:Str:=AE "times"
def plS(tl:Bool)(a:PV):Bool:=match tl with
 |true=>told 4 a
 |false=>wh 0 99 a
def yaw(tl:Bool):PV->Bool
 |.tp _ [l,a]=>ltr l&&plS tl a
 |_=>AB
def ybT:PV->Bool
 |.tp _ [l,_]=>ltr l
 |_=>AB
def ycD:PV->Bool
 |.tp _ (.str s::_)=>(yW s yb).isSome
 |_=>AB
def opS(tl:Bool)(k x:PV):Bool:=if peq k (.str ya1)then wh 0 1 x else yaw tl x
def prS(tl:Bool):PV->Bool
 |.tp _ [k,x]=>opS tl k x
 |_=>AB
def unl:List PV->Bool
 |a::b::_=>!peq a b
 |_=>AC
def yae(tl:Bool):PV->Bool
 |.tp _ (.str s::r)=>match yW s yb with
  |some (.tp _ ks)=>decide (r.length=ks.length)&&((yac ks r).all (prS tl)&&(!decide (s=yaa) || unl r))
  |_=>AB
 |_=>AB
def zcm(k:Nat){d m:Nat}{v:PV}(hv:tam d m v=AC)(hm:m<=1000)(st:SO):yc T (k+2) yiI [v] st=.ok (.bl (ybT v)) st:=by
 have hT:T yiI=AA yY:=rfl;have hn:=zo d m v hv;rw[zd hT rfl rfl (by simp[nLs,nL,hn])]
 cases v with
 |tp b xs=>
  let⟨h0,h1,h2⟩:=zD.1 hv
  by_cases h:xs.length=2
  .obtain⟨l,a,rfl⟩:∃l a,xs=[l,a]:=by
    match xs,h with
    |[l,a],_=>exact⟨l,a,rfl⟩
   have hl:yD .eq (.int ((2:Nat):Int)) (.int 2)=AA (.bl AC):=rfl;have hL:=zbS k (h2 l (by simp)) hm [];simp! [yY,zc,yG,yF,yJ,zh,hl,ix0,hL,ybT]
  .have hl:yD .eq (.int (xs.length:Int)) (.int 2)=AA (.bl AB):=by
    have:=zbr xs.length 2;rw[decide_eq_false h]at this;exact this
   have ht:ybT (.tp b xs)=false:=by
    unfold ybT;split
    .rename_i e;cases e;simp at h
    .rfl
   rw[ht];simp! [yY,zc,yG,yF,yJ,zh,hl]
 |loc _=>simp[tam]at hv
 |exn _=>simp[tam]at hv
 |fnc _=>simp[tam]at hv
 |scr _=>simp[tam]at hv
 |_=>simp! [yY,zc,yG,yF,yJ,ybT]
def zcn(k:Nat){d m:Nat}{v:PV}(hv:tam d m v=AC)(hm:m<=1000)(st:SO):yc T (k+3) yiH [v] st=.ok (.bl (yaw AC v)) st:=by
 have hT:T yiH=AA yT:=rfl;have hn:=zo d m v hv;have hL:=zcm k hv hm [];rw[zd hT rfl rfl (by simp[nLs,nL,hn])]
 by_cases hx:∃b l a,v=.tp b [l,a]
 .let⟨b,l,a,rfl⟩:=hx;let⟨h0,h1,h2⟩:=zD.1 hv;have hW:yc T (k+2) ydn [a,.int 4] []=.ok (.bl (told 4 a)) []:=zat k (h2 a (by simp)) hm 4 [];have hc:yaw AC (.tp b [l,a])=(ltr l&&told 4 a):=rfl;rw[hc];have hl0:ybT (.tp b [l,a])=ltr l:=rfl;rw[hl0]at hL
  cases e:ltr l with
  |false=>
   rw[e]at hL;simp! [yT,zc,hL,Ah]
  |true=>
   rw[e]at hL;simp! [yT,zc,hL,ix1,hW,A8]
 .have h1:ybT v=false:=by
   unfold ybT;split
   .rename_i b l a;exact absurd ⟨b,l,a,rfl⟩ hx
   .rfl
  have h2:yaw AC v=false:=by
   unfold yaw;split
   .rename_i b l a;exact absurd ⟨b,l,a,rfl⟩ hx
   .rfl
  rw[h1]at hL;rw[h2];simp! [yT,zc,hL]
def zfp(k:Nat){d m:Nat}{v:PV}(hv:tam d m v=AC)(hm:m<=1000)(st:SO):yc T (k+3) yiG [v] st=.ok (.bl (yaw AB v)) st:=by
 have hT:T yiG=AA yet:=rfl;have hn:=zo d m v hv;have hL:=zcm k hv hm [];rw[zd hT rfl rfl (by simp[nLs,nL,hn])]
 by_cases hx:∃b l a,v=.tp b [l,a]
 .let⟨b,l,a,rfl⟩:=hx;let⟨h0,h1,h2⟩:=zD.1 hv;have hW:yc T (k+2) yh6 [a,.int 0,.int 99] []=.ok (.bl (wh 0 99 a)) []:=zaL (k+1) (h2 a (by simp)) 0 99 [];have hc:yaw AB (.tp b [l,a])=(ltr l&&wh 0 99 a):=rfl;rw[hc];have hl0:ybT (.tp b [l,a])=ltr l:=rfl;rw[hl0]at hL
  cases e:ltr l with
  |false=>
   rw[e]at hL;simp! [yet,zc,hL,Ah]
  |true=>
   rw[e]at hL;simp! [yet,zc,hL,ix1,hW,A8]
 .have h1:ybT v=false:=by
   unfold ybT;split
   .rename_i b l a;exact absurd ⟨b,l,a,rfl⟩ hx
   .rfl
  have h2:yaw AB v=false:=by
   unfold yaw;split
   .rename_i b l a;exact absurd ⟨b,l,a,rfl⟩ hx
   .rfl
  rw[h1]at hL;rw[h2];simp! [yet,zc,hL]
def zmy:ya1.cps.all (· < 0x110000)=true:=by decide +kernel
def ze7:yaa.cps.all (· < 0x110000)=true:=by decide +kernel
def zdj(k:Nat)(tl:Bool){d m d' m':Nat}{v kd:PV}(hv:tam d m v=AC)(hm:m<=1000)(hk:tam d' m' kd=AC)(hd:d'<=60)(st:SO):yc T (k+4) yiF [kd,v,.bl tl] st=.ok (.bl (opS tl kd v)) st:=by
 have hT:T yiF=AA ygv:=rfl;have hn:=zo d m v hv;have hn2:=zo d' m' kd hk;have he:=zfk hk hd ya1 zmy;have hW:=zaL (k+2) hv 0 1 [];have hC1:=zcn k hv hm [];have hC2:=zfp k hv hm [];rw[zd hT rfl rfl (by simp[nLs,nL,hn,hn2])];unfold opS
 cases e:peq kd (.str ya1)with
 |true=>
  rw[e]at he;simp! [ygv,zc,he,hW]
 |false=>
  rw[e]at he
  cases tl<;>simp! [ygv,zc,he,hC1,hC2,Ap,if_false]
def ziG:∀p∈yb,∃ks,p.2=.tp AC ks/\ks.length<=4/\1<=ks.length/\∀x∈ks,tam 1 10 x=true:=by
 intro p hp;erw[yb,AL,AZ,or_false]at hp;rcases hp with rfl|rfl|rfl|rfl|rfl|rfl|rfl|rfl|rfl|rfl|rfl|rfl|rfl<;>refine⟨_,rfl,by simp,by simp,λx hx=>?_⟩<;>erw[AL,AZ,or_false]at hx<;>(repeat' rcases hx with rfl|hx)<;>first|(subst hx;decide +kernel)|decide +kernel
def zdt{s:AO}{v:PV}:∀{D:List (AO×PV)},yW s D=AA v->(s,v)∈D
 |[],h=>by cases h
 |(a,b)::r,h=>by
  rw[yW]at h
  by_cases e:a=s
  .rw[if_pos (by simpa using e)]at h
   cases h
   rw[e];exact A7
  .rw[if_neg (by simpa using e)]at h;exact AU _ (zdt h)
def zfa{s:AO}{v:PV}(h:yW s yb=AA v):∃ks,v=.tp AC ks/\ks.length<=4/\1<=ks.length/\∀x∈ks,tam 1 10 x=true:=ziG _ (zdt h)
def zea(k:Nat){d m:Nat}{v:PV}(hv:tam d m v=AC)(st:SO):yc T (k+1) yh7 [v] st=.ok (.bl (ycD v)) st:=by
 have hT:T yh7=AA yce:=rfl;have hn:=zo d m v hv;rw[zd hT rfl rfl (by simp[nLs,nL,hn])]
 cases v with
 |tp b xs=>
  cases xs with
  |nil=>
   have h0:yD .gt (.int (([]:List PV).length:Int)) (.int 0)=AA (.bl AB):=rfl;simp! [yce,zc,yG,yF,yJ,zh,h0,ycD];rfl
  |cons x r=>
   let⟨_,_,h2⟩:=zD.1 hv;have hx:=h2 x (by simp);have h0:decide ((0:Int)<((r.length+1:Nat):Int))=true:=decide_eq_true ∅
   cases x with
   |str s=>simp! [yce,zc,yG,yF,yJ,zh,h0,ix0,IC.ve29,yfa,ycD]
   |loc _=>simp[tam]at hx
   |exn _=>simp[tam]at hx
   |fnc _=>simp[tam]at hx
   |scr _=>simp[tam]at hx
   |_=>simp! [yce,zc,yG,yF,yJ,zh,h0,ix0,ycD]
 |loc _=>simp[tam]at hv
 |exn _=>simp[tam]at hv
 |fnc _=>simp[tam]at hv
 |scr _=>simp[tam]at hv
 |_=>simp! [yce,zc,yG,yF,yJ,ycD]
def ydX:Css:=match yH.body with
 |.cons _ (.cons (.for _ _ b) _)=>b
 |_=>.nil
def zeK(k:Nat)(tl:Bool){d m:Nat}{p0:Option PV}(hm:m<=1000):∀(ks r:List PV) (u w:Option PV),(∀x∈ks,tam 1 10 x=AC)->(∀x∈r,tam d m x=AC) ->
  ∃u' w',yar (yc T (k+4)) (.t [2,3]) ydX (yac ks r) [p0,AA (.bl tl),u,w] []=if (yac ks r).all (prS tl)then .nx [p0,AA (.bl tl),u',w'] []else .rt (.bl AB) []
 |[],r,u,w,_,_=>⟨u,w,by erw[yac,Fk,if_true];rw[zI]⟩
 |k0::ks,[],u,w,_,_=>⟨u,w,by erw[yac,Fk,if_true];rw[zI]⟩
 |k0::ks,x::r,u,w,hk,hr=>by
  let⟨u',w',e⟩:=zeK k tl (p0:=p0) hm ks r (AA k0) (AA x) (λy hy=>hk y (AU _ hy)) λy hy=>hr y (AU _ hy);refine⟨u',w',?_⟩;have ho:=zdj k tl (hr x A7) hm (hk k0 A7) ∅ [];have hp:prS tl (.tup [k0,x])=opS tl k0 x:=rfl;have hst:exs (yc T (k+4)) [p0,AA (.bl tl),AA k0,AA x] [] ydX=if opS tl k0 x then .nx [p0,AA (.bl tl),AA k0,AA x] []else .rt (.bl AB) []:=by
   cases q:opS tl k0 x with
   |true=>rw[q]at ho;simp! [ydX,yH,ho]
   |false=>rw[q]at ho;simp! [ydX,yH,ho,Ap,if_false]
  rw[yac,zp (ρ1:=[p0,AA (.bl tl),AA k0,AA x]) rfl,hst,Ay,hp]
  cases q:opS tl k0 x with
  |true=>erw[if_true,yaN,A8];exact e
  |false=>erw[Ap,if_false,yaN,Ah]
def zkb{b:Bool}{x:PV}{r:List PV}:yb6 (.tp b (x::r)) (AA 1) .non=AA (.tp AB r):=by
 have h:yaU (r.length+1) 1=1:=by
  show min 1 (r.length+1)=1;lia
 erw[yb6,ybB,yb3,ycm,yb5,AW,h];rw[if_neg ∅];simp[cut,ycm,yb5,h]
def zmD{d m d' m':Nat}{v w:PV}(hv:tam d m v=AC)(hd:d<=60)(hw:tam d' m' w=AC)(hd':d'<=60):yD .ne v w=AA (.bl (!peq v w)):=by
 have h1:shp v=true:=zbi hv hd;have h2:shp w=true:=zbi hw hd';erw[yD];rw[if_pos (by rw[h1,h2];rfl)]
def zai(a b:AO):peq (.str a) (.str b)=decide (a=b):=by
 erw[peq];rw[Ck];simp
def zfU:yW yaa yb=AA (.tp AC [.str "cell",.str "cell",.str "cell",.str "cell"]):=by ac_rfl
def zcF(k:Nat)(tl:Bool){d m:Nat}{v:PV}(hv:tam d m v=AC)(hd:d<=60)(hm:m<=1000)(st:SO):yc T (k+5) yiE [v,.bl tl] st=.ok (.bl (yae tl v)) st:=by
 have hT:T yiE=AA ⟨2,4,AC,yH.body⟩:=rfl;have hn:=zo d m v hv;have hN:=zea (k+3) hv []
 have hb:yH.body=(match yH.body with
  |.cons a (.cons (.for t i _) r)=>.cons a (.cons (.for t i ydX) r)
  |_=>.nil):=rfl
 rw[zd hT rfl rfl (by simp[nLs,nL,hn])];dsimp only;rw[hb]
 by_cases hx:∃b s r,v=.tp b (.str s::r)/\(yW s yb).isSome=AC
 .let⟨b,s,r,rfl,hs⟩:=hx;let⟨h0,h1,h2⟩:=zD.1 hv;let⟨kv,hkv⟩:=Ae.1 hs;let⟨ks,rfl,hk4,hk1,hkt⟩:=zfa hkv;have hN:yc T (k+4) yh7 [.tp b (.str s::r)] []=.ok (.bl AC) []:=by
   rw[hN];erw[ycD,hs]
  have hrow:yae tl (.tp b (.str s::r))=(decide (r.length=ks.length)&&((yac ks r).all (prS tl)&&(!decide (s=yaa) || unl r))):=by
   erw[yae,hkv]
  rw[hrow];have hdx:∀st,toR (yd5 yb (.str s)) st=.ok (.tp AC ks) st:=λst=>by erw[yd5,hkv,toR]
  have hne:yD .ne (.int ((r.length+1:Nat):Int)) (.int ((ks.length:Int)+1))=AA (.bl (!decide (r.length=ks.length))):=by
   have:=zbN (r.length+1) (ks.length+1);rw[show decide (r.length+1=ks.length+1)=decide (r.length=ks.length)from decide_eq_decide.mpr ∅]at this;exact this
  by_cases hl:r.length=ks.length
  .rw[decide_eq_true hl]at hne ⊢;let⟨u',w',e⟩:=zeK k tl (p0:=AA (.tp b (.str s::r))) (d:=d-1) hm ks r AD AD hkt (λx hx=>h2 x (AU _ hx));have hz:yei (.tp AC ks) (.tp AB r)=AA (yac ks r):=by erw[yei];rw[if_pos ∅]
   have ht:=zjO (h2 (.str s) A7) ∅ yaa ze7;rw[zai]at ht
   cases hall:(yac ks r).all (prS tl)with
   |false=>
    rw[hall]at e;simp! [yH,hN,zh,ix0,IC.ve28,hdx,hne,zbK,zkb,hz,e,Ap,if_false,A8,Ah,zc]
   |true=>
    rw[hall]at e
    by_cases hst:s=yaa
    .subst hst;have hk:ks.length=4:=by rw[zfU]at hkv;cases hkv;rfl
     obtain⟨a,c,hi1,hi2,hu,ha,hc⟩:∃a c,(∀st,idxV st (.tp b (.str yaa::r)) (.int 1)=AA a)/\(∀st,idxV st (.tp b (.str yaa::r)) (.int 2)=AA c)/\unl r=!peq a c/\a∈r/\c∈r:=by
      rw[hk]at hl
      match r,hl with
      |a::c::r',_=>exact⟨a,c,λst=>ix1,λst=>ix2,rfl,by simp,by simp⟩
     have hac:=zmD (h2 a (AU _ ha)) ∅ (h2 c (AU _ hc)) ∅;rw[decide_eq_true rfl]at ht;simp! [yH,hN,zh,ix0,hi1,hi2,IC.ve28,hdx,hne,zbK,zkb,hz,e,A8,zc,ht,hac,hu,decide_true,ED]
    .rw[decide_eq_false hst]at ht;simp! [yH,hN,zh,ix0,IC.ve28,hdx,hne,zbK,zkb,hz,e,A8,zc,ht,decide_eq_false hst,E5]
  .rw[decide_eq_false hl]at hne ⊢;simp! [yH,hN,zh,ix0,IC.ve28,hdx,hne,Ah,zc]
 .have h1:ycD v=false:=by
   unfold ycD;split
   .rename_i b s r
    cases q:(yW s yb).isSome with
    |false=>rfl
    |true=>exact absurd ⟨b,s,r,rfl,q⟩ hx
   .rfl
  have h2:yae tl v=false:=by
   unfold yae;split
   .rename_i b s r;split
    .rename_i ks q;exact absurd ⟨b,s,r,rfl,by rw[q];rfl⟩ hx
    .rfl
   .rfl
  have hN:yc T (k+4) yh7 [v] []=.ok (.bl AB) []:=by rw[hN,h1]
  rw[h2];simp! [yH,hN,zc]
def zcH(k:Nat){d m:Nat}{v:PV}(hv:tam d m v=AC)(hd:d<=60)(hm:m<=1000)(st:SO):yc T (k+6) yiD [v] st=.ok (.bl (yae AC v)) st:=by
 have hT:T yiD=AA yhV:=rfl;have hn:=zo d m v hv;have hF:=zcF k AC hv hd hm [];rw[zd hT rfl rfl (by simp[nLs,nL,hn])];simp! [yhV,hF,zc]
def zgb(k:Nat){d m:Nat}{v:PV}(hv:tam d m v=AC)(hd:d<=60)(hm:m<=1000)(st:SO):yc T (k+6) yf [v] st=.ok (.bl (yae AB v)) st:=by
 have hT:T yf=AA yhU:=rfl;have hn:=zo d m v hv;have hF:=zcF k AB hv hd hm [];rw[zd hT rfl rfl (by simp[nLs,nL,hn])];simp! [yhU,hF,zc]
def zco(k:Nat){d m:Nat}{v:PV}(hv:tam d m v=AC)(hm:m<=1000)(st:SO):yc T (k+3) yiu [v] st=.ok (.bl (yaw AB v)) st:=by
 have hT:T yiu=AA yA:=rfl;have hn:=zo d m v hv;rw[zd hT rfl rfl (by simp[nLs,nL,hn])]
 cases v with
 |tp b xs=>
  let⟨h0,h1,h2⟩:=zD.1 hv
  by_cases h:xs.length=2
  .obtain⟨l,a,rfl⟩:∃l a,xs=[l,a]:=by
    match xs,h with
    |[l,a],_=>exact⟨l,a,rfl⟩
   have hl:yD .ne (.int ((2:Nat):Int)) (.int 2)=AA (.bl AB):=rfl;have hL:=zc9 (k+1) (h2 l (by simp)) hm [];have hW:=zaU (k+1) (h2 a (by simp)) [];have hc:yaw AB (.tp b [l,a])=(ltr l&&wh 0 99 a):=rfl;rw[hc]
   cases e:ltr l with
   |false=>
    rw[e]at hL;simp! [yA,zc,yG,yF,yJ,zh,hl,ix0,hL,Ah]
   |true=>
    rw[e]at hL
    cases a with
    |int i=>
     have hW:yc T (k+2) yiq [.int i] []=.ok (.bl AC) []:=hW
     by_cases h9:0<=i
     .simp! [yA,zc,yG,yF,yJ,zh,hl,ix0,ix1,hL,hW,A8,wh,blO,decide_eq_true h9]
     .simp! [yA,zc,yG,yF,yJ,zh,hl,ix0,ix1,hL,hW,A8,wh,blO,decide_eq_false h9,Ah]
    |_=>simp! [yA,zc,yG,yF,yJ,zh,hl,ix0,ix1,hL,hW,isI,wh,A8]
  .have hl:yD .ne (.int (xs.length:Int)) (.int 2)=AA (.bl AC):=by
    have:=zbN xs.length 2;rw[decide_eq_false h]at this;exact this
   have ht:yaw AB (.tp b xs)=false:=by
    unfold yaw;split
    .rename_i e;cases e;simp at h
    .rfl
   rw[ht];simp! [yA,zc,yG,yF,yJ,zh,hl]
 |loc _=>simp[tam]at hv
 |exn _=>simp[tam]at hv
 |fnc _=>simp[tam]at hv
 |scr _=>simp[tam]at hv
 |_=>simp! [yA,zc,yG,yF,yJ,yaw]
def yb1:List (PV×PV):=[(.str "move",.int 3),(.str "bare",.int 3),(.str "twice",.int 3),(.str "half",.int 3),(.str "sum",.int 4),(.str "less",.int 4),(.str "both",.int 4),(.str "any",.int 4),(.str "odd",.int 4)]
def ya9:List (PV×PV):=yb1++[(.str "times",.int 5)]
def newE:Ce:=match yh.body with
 |.cons _ (.cons _ (.cons _ (.cons _ (.cons (.asg _ e) _))))=>e
 |_=>.nope
def zmM{call:Cl}{ρ:IC.Env}:ev call ρ [] newE=.ok (.loc 0) [.dct AB yb1]:=by ac_rfl
def zlz:ybC [.dct AB yb1] (.loc 0) (.str "times") (.int 5)=AA [.dct AB ya9]:=by ac_rfl
def ycZ(s:AO):Int:=match look (.str s) ya9 with
 |some (.int i)=>i
 |_=>0
def zij:∀p∈ya9,∃i,p.2=.int i:=by
 intro p hp;erw[ya9,yb1,BA,BD,AL,AZ,or_false]at hp;rcases hp with rfl|rfl|rfl|rfl|rfl|rfl|rfl|rfl|rfl|rfl<;>exact⟨_,rfl⟩
def zeI{k v:PV}:∀{D:List (PV×PV)},look k D=AA v->∃p∈D,p.2=v
 |[],h=>by cases h
 |(a,b)::r,h=>by
  rw[look]at h
  by_cases e:peq a k=AC
  .rw[if_pos e]at h;exact⟨(a,b),A7,A6 h⟩
  .rw[if_neg e]at h;let⟨p,hp,q⟩:=zeI h;exact⟨p,AU _ hp,q⟩
def zeE(s:AO):ydp [.dct AB ya9] (.loc 0) (.str s) (.int 0)=.ok (.int (ycZ s)) [.dct AB ya9]:=by
 have hk:isKey AB (.str s)=true:=rfl;have hd:ybe [.dct AB ya9] (.loc 0)=AA (AB,ya9):=rfl;erw[ydp,hd,hk,if_true,ycZ]
 cases q:look (.str s) ya9 with
 |none=>rfl
 |some v=>
  let⟨p,hp,e⟩:=zeI q;let⟨i,hi⟩:=zij p hp;rw[hi]at e;subst e;rfl
abbrev yaC:PV:=.str "cell"
theorem cls(s:AO)(h1:s≠AE "mark")(h2:s≠AE "ask")(h3:s≠AE "set"):
  (yW s yb=AD/\ycZ s=0) \/ ∃n,2<=n/\n<=4/\yW s yb=AA (.tp AC (Aj n yaC))/\ycZ s=((n+1:Nat):Int):=by
 by_cases a1:s=AE "move"
 .subst a1;exact .inr ⟨2,by lia,by lia,by ac_rfl,by ac_rfl⟩
 by_cases a2:s=AE "bare"
 .subst a2;exact .inr ⟨2,by lia,by lia,by ac_rfl,by ac_rfl⟩
 by_cases a3:s=AE "twice"
 .subst a3;exact .inr ⟨2,by lia,by lia,by ac_rfl,by ac_rfl⟩
 by_cases a4:s=AE "half"
 .subst a4;exact .inr ⟨2,by lia,by lia,by ac_rfl,by ac_rfl⟩
 by_cases a5:s=AE "times"
 .subst a5;exact .inr ⟨4,by lia,by lia,by ac_rfl,by ac_rfl⟩
 by_cases a6:s=AE "sum"
 .subst a6;exact .inr ⟨3,by lia,by lia,by ac_rfl,by ac_rfl⟩
 by_cases a7:s=AE "less"
 .subst a7;exact .inr ⟨3,by lia,by lia,by ac_rfl,by ac_rfl⟩
 by_cases a8:s=AE "both"
 .subst a8;exact .inr ⟨3,by lia,by lia,by ac_rfl,by ac_rfl⟩
 by_cases a9:s=AE "any"
 .subst a9;exact .inr ⟨3,by lia,by lia,by ac_rfl,by ac_rfl⟩
 by_cases a0:s=AE "odd"
 .subst a0;exact .inr ⟨3,by lia,by lia,by ac_rfl,by ac_rfl⟩
 have c:∀{x:AO},¬s=x->¬x=s:=λh e=>h e.symm;refine .inl ⟨?_,?_⟩
 .simp only[yb,yW,decide_eq_true_eq,c h1,c h2,c h3,c a1,c a2,c a3,c a4,c a5,c a6,c a7,c a8,c a9,c a0,if_false]
 .simp only[ycZ,ya9,yb1,BA,BD,look,zai,decide_eq_true_eq,c a1,c a2,c a3,c a4,c a5,c a6,c a7,c a8,c a9,c a0,if_false]
def zcv(tl:Bool):∀(n:Nat) (r:List PV),r.length=n->(yac (Aj n yaC) r).all (prS tl)=r.all (yaw tl)
 |0,[],_=>rfl
 |n+1,x::r,h=>by
  have hp:prS tl (.tup [yaC,x])=yaw tl x:=by
   have:peq yaC (.str ya1)=false:=by rw[zai];decide +kernel
   erw[prS,opS,this,Ap,if_false]
  rw[List.replicate_succ,yac,Ay,Ay,hp,zcv tl n r (by simpa using h)]
 |0,_::_,h=>by simp at h
 |n+1,[],h=>by simp at h
def zoe{d m:Nat}{v:PV}(hv:tam d m v=AC):(isI v=AC->yD .isin v (.tp AB [.int 0,.int 1])=AA (.bl (wh 0 1 v)))/\(isI v=AB->wh 0 1 v=AB):=by
 cases v with
 |int i=>
  refine⟨λ_=>?_,λz=>(by cases z)⟩;show AA (PV.bl (inL (.int i) [.int 0,.int 1]))=_
  congr 2
  erw[inL,peq,wh,FO];rw[Ck];simp;lia
 |_=>exact⟨λz=>(by cases z),λ_=>rfl⟩
def zi9(a b:Nat):yD .lt (.int a) (.int b)=AA (.bl (decide (a<b))):=by
 rw[c_lt]
 by_cases h:a<b
 .rw[decide_eq_true h,decide_eq_true ∅]
 .rw[decide_eq_false h,decide_eq_false ∅]
def yeh:Css:=match yh.body with | .cons _ r=>r|x=>x
def ydk:Css:=match yeh with | .cons _ r=>r|x=>x
def ydT:Css:=match ydk with | .cons _ r=>r|x=>x
def ydb:Css:=match ydT with | .cons _ r=>r|x=>x
def yeg:Css:=match ydb with | .cons _ (.cons _ r)=>r|x=>x
def yd6:Css:=match yeg with | .cons _ r=>r|x=>x
def zof:yh.body=(match yh.body with | .cons a _=>.cons a yeh|x=>x):=rfl
def zoG:yeh=(match yh.body with | .cons _ (.cons a _)=>.cons a ydk|x=>x):=rfl
def zoH:ydk=(match yh.body with | .cons _ (.cons _ (.cons a _))=>.cons a ydT|x=>x):=rfl
def zoI:ydT=(match yh.body with | .cons _ (.cons _ (.cons _ (.cons a _)))=>.cons a ydb|x=>x):=rfl
def zoJ:ydb=(match yh.body with | .cons _ (.cons _ (.cons _ (.cons _ (.cons (.asg t _) (.cons b _)))))=>.cons (.asg t newE) (.cons b yeg)|x=>x):=rfl
def zoK:yeg=(match yh.body with | .cons _ (.cons _ (.cons _ (.cons _ (.cons _ (.cons _ (.cons a _))))))=>.cons a yd6|x=>x):=rfl
def zoL:yd6=(match yh.body with | .cons _ (.cons _ (.cons _ (.cons _ (.cons _ (.cons _ (.cons _ a))))))=>a|x=>x):=rfl
def zfw(k:Nat){d m:Nat}{v:PV}(hv:tam d m v=AC)(hd:d<=60)(hm:m<=1000)(st:SO):yc T (k+4) yiv [v] st=.ok (.bl (yae AB v)) st:=by
 have hT:T yiv=AA ⟨1,2,AC,yh.body⟩:=rfl;have hn:=zo d m v hv;rw[zd hT rfl rfl (by simp[nLs,nL,hn])];dsimp only;have hE:List.map AA [v]++Aj (2-1) AD=[AA v,AD]:=rfl;rw[hE]
 by_cases hx:∃b s x r,v=.tp b (.str s::x::r)
 .let⟨b,s,x,r,rfl⟩:=hx;let⟨h0,h1,h2⟩:=zD.1 hv;have hlt:yD .lt (.int ((r.length+1+1:Nat):Int)) (.int 2)=AA (.bl AB):=by
   have:=zi9 (r.length+1+1) 2;rw[decide_eq_false ∅]at this;exact this
  have em:=zfk (h2 (.str s) A7) ∅ (AE "mark") (by decide +kernel);have ea:=zfk (h2 (.str s) A7) ∅ (AE "ask") (by decide +kernel);have es:=zfk (h2 (.str s) A7) ∅ (AE "set") (by decide +kernel);rw[zai]at em ea es;have hx1:=h2 x (by simp);have hC:=zco k hx1 hm [];have hW:=zaU (k+2) hx1 [];have g0:exs (yc T (k+3)) [AA (.tp b (.str s::x::r)),AD] [] yh.body=exs (yc T (k+3)) [AA (.tp b (.str s::x::r)),AD] [] yeh:=by
   rw[zof];simp! [yh,yG,yF,yJ,zh,hlt,ix0]
  rw[g0,zoG]
  by_cases c1:s=AE "mark"
  .have hrow:yae AB (.tp b (.str s::x::r))=(decide (r.length=0)&&wh 0 1 x):=by
    subst c1;have hk:yW (AE "mark") yb=AA (.tp AC [.str ya1]):=by ac_rfl
    have ht:decide (AE "mark"=yaa)=false:=by decide +kernel
    have hp:prS AB (.tup [.str ya1,x])=wh 0 1 x:=by
     have:peq (.str ya1) (.str ya1)=true:=by rw[zai];simp
     erw[prS,opS,this,if_true]
    cases r with
    |nil=>simp[yae,hk,yac,hp,ht]
    |cons y r=>simp[yae,hk]
   rw[hrow];rw[decide_eq_true c1]at em;have hl:=zbr (r.length+1+1) 2;rw[show decide (r.length+1+1=2)=decide (r.length=0)from decide_eq_decide.mpr ∅]at hl;have hl:yD .eq (.int ((r.length+1+1:Nat):Int)) (.int 2)=AA (.bl (decide (r.length=0))):=hl;let⟨i1,i2⟩:=zoe hx1
   cases q:decide (r.length=0)with
   |false=>
    rw[q]at hl;simp! [yh,zc,zh,ix0,em,hl,Ah]
   |true=>
    rw[q]at hl
    cases w:isI x with
    |false=>
     rw[w]at hW;rw[i2 w];simp! [yh,zc,zh,ix0,ix1,em,hl,hW,A8]
    |true=>
     rw[w]at hW;have i1:=i1 w;simp! [yh,zc,zh,ix0,ix1,em,hl,hW,i1,A8]
  .rw[decide_eq_false c1]at em;have g1:exs (yc T (k+3)) [AA (.tp b (.str s::x::r)),AD] [] (match yh.body with | .cons _ (.cons a _)=>.cons a ydk|x=>x)=exs (yc T (k+3)) [AA (.tp b (.str s::x::r)),AD] [] ydk:=by
    simp! [yh,ix0,em]
   rw[g1,zoH]
   by_cases c2:s=AE "ask"
   .have hrow:yae AB (.tp b (.str s::x::r))=(decide (r.length=0)&&yaw AB x):=by
     subst c2;have hk:yW (AE "ask") yb=AA (.tp AC [yaC]):=by ac_rfl
     have ht:decide (AE "ask"=yaa)=false:=by decide +kernel
     have hp:prS AB (.tup [yaC,x])=yaw AB x:=by
      have:peq yaC (.str ya1)=false:=by rw[zai];decide +kernel
      erw[prS,opS,this,Ap,if_false]
     cases r with
     |nil=>simp[yae,hk,yac,hp,ht]
     |cons y r=>simp[yae,hk]
    rw[hrow];rw[decide_eq_true c2]at ea;have hl:=zbr (r.length+1+1) 2;rw[show decide (r.length+1+1=2)=decide (r.length=0)from decide_eq_decide.mpr ∅]at hl;have hl:yD .eq (.int ((r.length+1+1:Nat):Int)) (.int 2)=AA (.bl (decide (r.length=0))):=hl
    cases q:decide (r.length=0)with
    |false=>
     rw[q]at hl;simp! [yh,zc,zh,ix0,ea,hl,Ah]
    |true=>
     rw[q]at hl;simp! [yh,zc,zh,ix0,ix1,ea,hl,hC,A8]
   .rw[decide_eq_false c2]at ea;have g2:exs (yc T (k+3)) [AA (.tp b (.str s::x::r)),AD] [] (match yh.body with | .cons _ (.cons _ (.cons a _))=>.cons a ydT|x=>x)=exs (yc T (k+3)) [AA (.tp b (.str s::x::r)),AD] [] ydT:=by
     simp! [yh,ix0,ea]
    rw[g2,zoI]
    by_cases c3:s=AE "set"
    .have hp:prS AB (.tup [yaC,x])=yaw AB x:=by
      have:peq yaC (.str ya1)=false:=by rw[zai];decide +kernel
      erw[prS,opS,this,Ap,if_false]
     have hk:yW s yb=AA (.tp AC [yaC,.str ya1]):=by subst c3;ac_rfl
     have ht:decide (s=yaa)=false:=by subst c3;decide +kernel
     rw[decide_eq_true c3]at es;have hl:=zbr (r.length+1+1) 3;rw[show decide (r.length+1+1=3)=decide (r.length=1)from decide_eq_decide.mpr ∅]at hl;have hl:yD .eq (.int ((r.length+1+1:Nat):Int)) (.int 3)=AA (.bl (decide (r.length=1))):=hl
     by_cases q:r.length=1
     .obtain⟨y,rfl⟩:∃y,r=[y]:=by
       match r,q with
       |[y],_=>exact⟨y,rfl⟩
      have hy:=h2 y (by simp);have hW2:=zaU (k+2) hy [];let⟨i1,i2⟩:=zoe hy;have hp2:prS AB (.tup [.str ya1,y])=wh 0 1 y:=by
       have:peq (.str ya1) (.str ya1)=true:=by rw[zai];simp
       erw[prS,opS,this,if_true]
      have hrow:yae AB (.tp b (.str s::x::[y]))=(yaw AB x&&wh 0 1 y):=by simp[yae,hk,yac,hp,hp2,ht]
      rw[hrow];have hl:yD .eq (.int ((3:Nat):Int)) (.int 3)=AA (.bl AC):=rfl;have hlt:yD .lt (.int ((3:Nat):Int)) (.int 2)=AA (.bl AB):=rfl
      cases z:yaw AB x with
      |false=>
       rw[z]at hC;simp! [yh,zc,zh,ix0,ix1,es,hl,hC,Ah]
      |true=>
       rw[z]at hC
       cases w:isI y with
       |false=>
        rw[w]at hW2;rw[i2 w];simp! [yh,zc,zh,ix0,ix1,ix2,es,hl,hC,hW2,A8]
       |true=>
        rw[w]at hW2;have i1:=i1 w;simp! [yh,zc,zh,ix0,ix1,ix2,es,hl,hC,hW2,i1,A8]
     .rw[decide_eq_false q]at hl;have hrow:yae AB (.tp b (.str s::x::r))=false:=by
       erw[yae,hk];rw[decide_eq_false (by simp;exact q)];rfl
      rw[hrow];simp! [yh,zc,zh,ix0,es,hl]
    .rw[decide_eq_false c3]at es;have g3:exs (yc T (k+3)) [AA (.tp b (.str s::x::r)),AD] [] (match yh.body with | .cons _ (.cons _ (.cons _ (.cons a _)))=>.cons a ydb|x=>x)=exs (yc T (k+3)) [AA (.tp b (.str s::x::r)),AD] [] ydb:=by
      simp! [yh,ix0,es]
     have g4:exs (yc T (k+3)) [AA (.tp b (.str s::x::r)),AD] [] ydb=exs (yc T (k+3)) [AA (.tp b (.str s::x::r)),AA (.loc 0)] [.dct AB ya9] yeg:=by
      rw[zoJ];simp! [yh,zmM,zl8,zlz,zbp]
     rw[g3,g4,zoK];have hmg:∀(o:PV),yao .get [.dct AB ya9] (.loc 0)=AA true:=λ_=>rfl;have hmg:=hmg .non;have hcut:=zkb (b:=b) (x:=.str s) (r:=x::r);have hcmp:yV (yc T (k+3)) [AD] (.n 0) (.cst (.bl AC)) (.call yiu (.cons (.var 0) .nil)) (x::r) [.dct AB ya9]=.ok ((x::r).map λy=>.bl (yaw AB y)) [.dct AB ya9]:=by
      refine zav _ λp hp=>?_;have:=zco k (h2 p (AU _ hp)) hm [.dct AB ya9];simp! [yaA,this]
     have hlr:ya5 (.ok ((x::r).map λy=>PV.bl (yaw AB y)) [.dct AB ya9])=.ok (.lst ((x::r).map λy=>.bl (yaw AB y))) [.dct AB ya9]:=z7 _ (by rw[Af];erw[AW]at h1 ⊢;lia) _;have ht:=zjO (h2 (.str s) A7) ∅ yaa ze7;rw[zai]at ht;rcases cls s c1 c2 c3 with⟨k0,l0⟩|⟨n,n2,n4,k0,l0⟩
     .have hrow:yae AB (.tp b (.str s::x::r))=false:=by erw[yae,k0]
      rw[hrow];have hne:yD .ne (.int (ycZ s)) (.int ((r.length+1+1:Nat):Int))=AA (.bl AC):=by
       have:=zbN 0 (r.length+1+1);rw[decide_eq_false ∅]at this;rw[l0];exact this
      simp! [yh,zc,zh,ix0,hmg,mget,zeE,hne]
     .have hne:yD .ne (.int (ycZ s)) (.int ((r.length+1+1:Nat):Int))=AA (.bl (!decide (r.length+1=n))):=by
       have:=zbN (n+1) (r.length+1+1);rw[show decide (n+1=r.length+1+1)=decide (r.length+1=n)from decide_eq_decide.mpr ∅]at this;rw[l0];exact this
      by_cases hl:r.length+1=n
      .have hrow:yae AB (.tp b (.str s::x::r))=((x::r).all (yaw AB)&&(!decide (s=yaa) || unl (x::r))):=by
        erw[yae,k0,C1];rw[decide_eq_true (by simpa using hl),zcv AB n (x::r) (by simpa using hl),A8]
       rw[hrow];rw[decide_eq_true hl]at hne;have hall:=λst=>zbf (yaw AB) (x::r) st;erw[AX]at hlr hall hcmp
       cases z:(x::r).all (yaw AB)with
       |false=>
        rw[z]at hall;simp! [yh,zc,zh,ix0,hmg,mget,zeE,hne,zbK,hcut,hcmp,hlr,hall,Ah]
       |true=>
        rw[z]at hall;have g5:exs (yc T (k+3)) [AA (.tp b (.str s::x::r)),AA (.loc 0)] [.dct AB ya9] (match yh.body with | .cons _ (.cons _ (.cons _ (.cons _ (.cons _ (.cons _ (.cons a _))))))=>.cons a yd6|x=>x)=exs (yc T (k+3)) [AA (.tp b (.str s::x::r)),AA (.loc 0)] [.dct AB ya9] yd6:=by
         simp! [yh,zh,ix0,hmg,mget,zeE,hne,zbK,hcut,hcmp,hlr,hall]
        rw[g5,zoL]
        by_cases hst:s=yaa
        .obtain⟨y,r',rfl⟩:∃y r',r=y::r':=by
          cases r with
          |nil=>simp at hl;lia
          |cons y r'=>exact⟨y,r',rfl⟩
         have hac:=zmD hx1 ∅ (h2 y (by simp)) ∅;rw[decide_eq_true hst]at ht ⊢;have hu:unl (x::y::r')=!peq x y:=rfl;rw[hu]
         skip
         simp! [yh,zc,ix0,ix1,ix2,ht,hac,A8,ED]
        .rw[decide_eq_false hst]at ht ⊢;simp! [yh,zc,ix0,ht,A8,E5]
      .have hrow:yae AB (.tp b (.str s::x::r))=false:=by
        erw[yae,k0,C1];rw[decide_eq_false (by simpa using hl)];rfl
       rw[hrow];rw[decide_eq_false hl]at hne;simp! [yh,zc,zh,ix0,hmg,mget,zeE,hne]
 .have hrow:yae AB v=false:=by
   unfold yae;split
   .rename_i b s r;split
    .rename_i k1 ks q;let⟨ks',e,_,h1,_⟩:=zfa q
     cases e
     cases r with
     |nil=>rw[decide_eq_false (by simp;lia)];rfl
     |cons x r=>exact absurd ⟨b,s,x,r,rfl⟩ hx
    .rfl
   .rfl
  rw[hrow,zof]
  cases v with
  |tp b xs=>
   let⟨h0,h1,h2⟩:=zD.1 hv
   cases xs with
   |nil=>
    have hlt:yD .lt (.int (([]:List PV).length:Int)) (.int 2)=AA (.bl AC):=rfl;simp! [yh,zc,yG,yF,yJ,zh,hlt];rfl
   |cons y r=>
    cases r with
    |nil=>
     have hlt:yD .lt (.int ((1:Nat):Int)) (.int 2)=AA (.bl AC):=rfl;simp! [yh,zc,yG,yF,yJ,zh,hlt]
    |cons x r=>
     have hlt:yD .lt (.int ((r.length+1+1:Nat):Int)) (.int 2)=AA (.bl AB):=by
      have:=zi9 (r.length+1+1) 2;rw[decide_eq_false ∅]at this;exact this
     have hy:=h2 y (by simp)
     cases y with
     |str s=>exact absurd ⟨b,s,x,r,rfl⟩ hx
     |loc _=>simp[tam]at hy
     |exn _=>simp[tam]at hy
     |fnc _=>simp[tam]at hy
     |scr _=>simp[tam]at hy
     |_=>simp! [yh,zc,yG,yF,yJ,zh,hlt,ix0]
  |loc _=>simp[tam]at hv
  |exn _=>simp[tam]at hv
  |fnc _=>simp[tam]at hv
  |scr _=>simp[tam]at hv
  |_=>simp! [yh,zc,yG,yF,yJ]
abbrev ya0:Str:=AE "row"
abbrev ybb:Str:=AE "rounds"
def zj8:ya0.cps.all (· < 0x110000)=true:=by decide +kernel
def zkZ:ybb.cps.all (· < 0x110000)=true:=by decide +kernel
def yaO(f:PV->Bool):PV->Bool
 |.tp _ xs=>xs.all f
 |_=>AB
def in1:List PV->Bool
 |[x]=>yae AC x
 |_=>AB
def in3(ok:Bool)(f:PV->Bool):List PV->Bool
 |[c,s,ps]=>ok&&(told 3 c&&(sen s&&yaO f ps))
 |_=>AB
def prt(ok:Bool)(f:PV->Bool):PV->Bool
 |.tp _ (h::r)=>if peq h (.str ya0)then in1 r else peq h (.str ybb)&&in3 ok f r
 |_=>AB
def zmt{r:List PV}(h:¬r.length=1):in1 r=false:=by
 match r with
 |[]=>rfl
 |[x]=>simp at h
 |_::_::_=>rfl
def zlK{ok:Bool}{f:PV->Bool}{r:List PV}(h:¬r.length=3):in3 ok f r=false:=by
 match r with
 |[]=>rfl
 |[_]=>rfl
 |[_,_]=>rfl
 |[c,s,ps]=>simp at h
 |_::_::_::_::_=>rfl
def zaD(j n:Nat){d m:Nat}{g:PV->Bool}{v:PV}(hv:tam d m v=AC)(hm:m<=1000)(hp:∀x,tam (d-1) m x=AC->yc T j ydE [x,.int n] []=.ok (.bl (g x)) [])(st:SO):
  yc T (j+1) yga [v,.int n] st=.ok (.bl (yaO g v)) st:=by
 have hT:T yga=AA ygY:=rfl;have hn:=zo d m v hv;rw[zd hT rfl rfl (by simp[nLs,nL,hn])]
 cases v with
 |tp b xs=>
  let⟨h0,h1,h2⟩:=zD.1 hv;have hc:yV (yc T j) [AD,AA (.int n)] (.n 0) (.cst (.bl AC)) (.call ydE (.cons (.var 0) (.cons (.var 1) .nil))) xs []=.ok (xs.map λx=>.bl (g x)) []:=by
   refine zav _ λp hp'=>?_;have:=hp p (h2 p hp');simp! [yaA,this]
  simp! [ygY,zc,yG,yF,yJ,hc];rw[z7 _ (by rw[Af];lia)];simp! [zbf,zc,yaO]
 |loc _=>simp[tam]at hv
 |exn _=>simp[tam]at hv
 |fnc _=>simp[tam]at hv
 |scr _=>simp[tam]at hv
 |_=>simp! [ygY,zc,yG,yF,yJ,yaO]
def ydB:Css:=match yw.body with | .cons _ r=>r|x=>x
def ydY:Css:=match ydB with | .cons _ r=>r|x=>x
def yec:Css:=match ydY with | .cons _ r=>r|x=>x
def zoM:yw.body=(match yw.body with | .cons a _=>.cons a ydB|x=>x):=rfl
def zoN:ydB=(match yw.body with | .cons _ (.cons a _)=>.cons a ydY|x=>x):=rfl
def zoO:ydY=(match yw.body with | .cons _ (.cons _ (.cons a _))=>.cons a yec|x=>x):=rfl
def zoP:yec=(match yw.body with | .cons _ (.cons _ (.cons _ a))=>a|x=>x):=rfl
def zaS(k n:Nat){d m:Nat}{f:PV->Bool}{v:PV}(hv:tam d m v=AC)(hd:d<=60)(hm:m<=1000)(hp:0<n->∀x,tam (d-1) m x=AC->yc T (k+6) yga [x,.int ((n:Int)-1)] []=.ok (.bl (yaO f x)) [])(st:SO):
  yc T (k+7) ydE [v,.int n] st=.ok (.bl (prt (decide (0<n)) f v)) st:=by
 have hT:T ydE=AA ⟨2,2,AC,yw.body⟩:=rfl;have hn:=zo d m v hv;rw[zd hT rfl rfl (by simp[nLs,nL,hn])];dsimp only;rw[zoM]
 cases v with
 |tp b xs=>
  let⟨h0,h1,h2⟩:=zD.1 hv
  cases xs with
  |nil=>
   have hl:yD .eq (.int ((0:Nat):Int)) (.int 0)=AA (.bl AC):=rfl;simp! [yw,zc,yG,yF,yJ,zh,hl,prt]
  |cons h r=>
   have hh:=h2 h (by simp);have hl0:yD .eq (.int ((r.length+1:Nat):Int)) (.int 0)=AA (.bl AB):=by
    have:=zbr (r.length+1) 0;rw[decide_eq_false ∅]at this;exact this
   have he:=zfk hh ∅ ya0 zj8;have r0:exs (yc T (k+6)) [AA (.tp b (h::r)),AA (.int n)] [] (match yw.body with | .cons a _=>.cons a ydB|x=>x)=exs (yc T (k+6)) [AA (.tp b (h::r)),AA (.int n)] [] ydB:=by
    simp! [yw,yG,yF,yJ,zh,hl0]
   erw[AX,BM,Aj,Bu,BS];rw[r0,zoN]
   cases e:peq h (.str ya0)with
   |true=>
    rw[e]at he;have hpr:prt (decide (0<n)) f (.tp b (h::r))=in1 r:=by erw[prt,e,if_true]
    rw[hpr]
    by_cases q:r.length=1
    .obtain⟨x,rfl⟩:∃x,r=[x]:=by
      match r,q with
      |[x],_=>exact⟨x,rfl⟩
     have hR:=zcH k (h2 x (by simp)) ∅ hm [];have hl:yD .eq (.int ((2:Nat):Int)) (.int 2)=AA (.bl AC):=rfl;simp! [yw,zc,zh,hl,ix0,ix1,he,hR,in1]
    .have hl:yD .eq (.int ((r.length+1:Nat):Int)) (.int 2)=AA (.bl AB):=by
      have:=zbr (r.length+1) 2;rw[decide_eq_false ∅]at this;exact this
     rw[zmt q];simp! [yw,zc,zh,hl,ix0,he]
   |false=>
    rw[e]at he;have hpr:prt (decide (0<n)) f (.tp b (h::r))=(peq h (.str ybb)&&in3 (decide (0<n)) f r):=by erw[prt,e,Ap,if_false]
    rw[hpr];have hne:=zjO hh ∅ ybb zkZ;have r1:exs (yc T (k+6)) [AA (.tp b (h::r)),AA (.int n)] [] (match yw.body with | .cons _ (.cons a _)=>.cons a ydY|x=>x)=exs (yc T (k+6)) [AA (.tp b (h::r)),AA (.int n)] [] ydY:=by
     simp! [yw,ix0,he]
    rw[r1,zoO]
    cases e2:peq h (.str ybb)with
    |false=>
     rw[e2]at hne;simp! [yw,zc,ix0,hne,Ah,Bool.not_false]
    |true=>
     rw[e2]at hne;rw[A8]
     by_cases q:r.length=3
     .obtain⟨c,s,ps,rfl⟩:∃c s ps,r=[c,s,ps]:=by
       match r,q with
       |[c,s,ps],_=>exact⟨c,s,ps,rfl⟩
      have hl:yD .ne (.int ((4:Nat):Int)) (.int 4)=AA (.bl AB):=rfl;have hz:=zbr n 0;have hz:yD .eq (.int (n:Int)) (.int 0)=AA (.bl (decide (n=0))):=hz
      by_cases n0:n=0
      .rw[decide_eq_true n0]at hz;have hi:in3 (decide (0<n)) f [c,s,ps]=false:=by rw[decide_eq_false ∅];rfl
       rw[hi];simp! [yw,zc,zh,hl,ix0,hne,hz,CZ]
      .rw[decide_eq_false n0]at hz;have hi:in3 (decide (0<n)) f [c,s,ps]=(told 3 c&&(sen s&&yaO f ps)):=by rw[decide_eq_true ∅];rfl
       rw[hi];have hA:yc T (k+6) ydn [c,.int 3] []=.ok (.bl (told 3 c)) []:=zat (k+4) (h2 c (by simp)) hm 3 [];have hS:=zcI k (h2 s (by simp)) ∅ hm [];have hP:=hp ∅ ps (h2 ps (by simp));have r2:exs (yc T (k+6)) [AA (.tp b [h,c,s,ps]),AA (.int n)] [] (match yw.body with | .cons _ (.cons _ (.cons a _))=>.cons a yec|x=>x)=exs (yc T (k+6)) [AA (.tp b [h,c,s,ps]),AA (.int n)] [] yec:=by
        simp! [yw,zh,hl,ix0,hne,hz,CZ]
       rw[r2,zoP]
       cases z1:told 3 c with
       |false=>
        rw[z1]at hA;simp! [yw,zc,ix1,hA,CZ,Ah]
       |true=>
        rw[z1]at hA
        cases z2:sen s with
        |false=>
         rw[z2]at hS;simp! [yw,zc,ix1,ix2,hA,hS,CZ,Ah,A8]
        |true=>
         rw[z2]at hS;simp! [yw,zc,ix1,ix2,ix3,hA,hS,b_sub,hP,CZ,A8]
     .have hl:yD .ne (.int ((r.length+1:Nat):Int)) (.int 4)=AA (.bl AC):=by
       have:=zbN (r.length+1) 4;rw[decide_eq_false ∅]at this;exact this
      rw[zlK q];simp! [yw,zc,zh,hl,ix0,hne,CZ]
 |loc _=>simp[tam]at hv
 |exn _=>simp[tam]at hv
 |fnc _=>simp[tam]at hv
 |scr _=>simp[tam]at hv
 |_=>simp! [yw,zc,yG,yF,yJ,prt]
def yd7:PV->Bool:=prt AB λ_=>AB
def yds:PV->Bool:=prt AC yd7
def ydz:PV->Bool:=prt AC yds
def zc5(k:Nat){d m:Nat}{v:PV}(hv:tam d m v=AC)(hd:d<=60)(hm:m<=1000)(st:SO):yc T (k+13) yB [v] st=.ok (.bl (yaO ydz v)) st:=by
 have hT:T yB=AA yhZ:=rfl;have hn:=zo d m v hv;have p0:∀{d:Nat} (x:PV),d<=60->tam d m x=AC->yc T (k+7) ydE [x,.int (0:Nat)] []=.ok (.bl (yd7 x)) []:=λx h hx=>zaS k 0 (f:=λ_=>AB) hx h hm (λz=>absurd z ∅) [];have a0:∀{d:Nat} (x:PV),d<=60->tam d m x=AC->yc T (k+8) yga [x,.int (0:Nat)] []=.ok (.bl (yaO yd7 x)) []:=λx h hx=>zaD (k+7) 0 hx hm (λy hy=>p0 y ∅ hy) [];have p1:∀{d:Nat} (x:PV),d<=60->tam d m x=AC->yc T (k+9) ydE [x,.int (1:Nat)] []=.ok (.bl (yds x)) []:=λx h hx=>zaS (k+2) 1 (f:=yd7) hx h hm (λ_ y hy=>a0 y ∅ hy) [];have a1:∀{d:Nat} (x:PV),d<=60->tam d m x=AC->yc T (k+10) yga [x,.int (1:Nat)] []=.ok (.bl (yaO yds x)) []:=λx h hx=>zaD (k+9) 1 hx hm (λy hy=>p1 y ∅ hy) [];have p2:∀{d:Nat} (x:PV),d<=60->tam d m x=AC->yc T (k+11) ydE [x,.int (2:Nat)] []=.ok (.bl (ydz x)) []:=λx h hx=>zaS (k+4) 2 (f:=yds) hx h hm (λ_ y hy=>a1 y ∅ hy) [];have a2:yc T (k+12) yga [v,.int 2] []=.ok (.bl (yaO ydz v)) []:=zaD (k+11) 2 hv hm (λy hy=>p2 y ∅ hy) [];have hN:yix=.int 2:=rfl;rw[zd hT rfl rfl (by simp[nLs,nL,hn])];simp! [yhZ,zc,hN,a2]
structure Frm(ns:List Int)(B st:SO):Prop where
 dr:Drw ns 0 st
 len:B.length<=st.length
 get:∀m,m≠0->m<B.length->st[m]?=B[m]?
section
variable {ns:List Int}{B st st':SO}
theorem Frm.refl(h:Drw ns 0 st):Frm ns st st:=⟨h,AS _,λ_ _ _=>rfl⟩
theorem Frm.pos(h:Frm ns B st):0<st.length:=h.dr.pos
theorem Frm.app(h:Frm ns B st)(o:Ob):Frm ns B (st++[o]):=⟨h.dr.app o,by have:=h.len;simp;lia,λm h0 h1=>by
 have:=h.len;rw[AY ∅];exact h.get m h0 h1⟩
theorem Frm.put(h:Frm ns B st){L:Nat}(hL:L≠0)(hB:B.length<=L)(o:Ob):Frm ns B (st.set L o):=⟨h.dr.put hL o,by rw[BB];exact h.len,λm h0 h1=>by
 rw[A3 ∅];exact h.get m h0 h1⟩
theorem Onl.frm(h:Frm ns B st)(o:Onl ns 0 st st'):Frm ns B st':=⟨o.drw h.dr,by rw[o.len];exact h.len,λm h0 h1=>by rw[o.get h0];exact h.get m h0 h1⟩
theorem Frm.trans{C:SO}(h:Frm ns B st)(g:Frm ns st C):Frm ns B C:=⟨g.dr,BH h.len g.len,λm h0 h1=>by
 have:=h.len;rw[g.get m h0 ∅];exact h.get m h0 h1⟩
def zbU(k:Nat)(hns:ns.length<=1000){m:Int}(hm:0<m)(hm2:m<10000000000000000000000000000000000000000000000000000000000000000000000)(h:Frm ns B st):
  ∃d st',0<=d/\d<m/\Onl ns 0 st st'/\yc T (k+3) ya [.loc 0,.int m] st=.ok (.int d) st':=zgG k hns hm hm2 h.dr
end
def smE:Ce:=.bin .sub (.call ya (.cons (.var 1) (.cons (.cst (.int 4)) .nil))) (.cst (.int 1))
def zog{ns:List Int}(hns:ns.length<=1000)(k:Nat){B:SO}:∀(N:Nat) (a:Int) (st:SO),Frm ns B st->∃ys st',ys.length=N/\(∀y∈ys,∃i:Int,y=.int i/\-1<=i/\i<=2)/\Frm ns B st' /\
  yV (yc T (k+3)) [AD,AA (.loc 0)] (.n 0) (.cst (.bl AC)) smE (yr N a 1) st=.ok ys st'
 |0,a,st,h=>⟨[],st,rfl,by simp,h,by rw[yr,zag]⟩
 |N+1,a,st,h=>by
  let⟨w,s1,w0,w1,o1,e1⟩:=zbU k hns (m:=4) ∅ ∅ h;let⟨ys,s3,l,t,g3,e3⟩:=zog hns k N (a+1) s1 (o1.frm h);refine⟨.int (w-1)::ys,s3,by simp[l],λy hy=>?_,g3,?_⟩
  .rcases AL.1 hy with rfl|hy
   .exact⟨w-1,rfl,by lia,by lia⟩
   .exact t y hy
  .have one:yaA (yc T (k+3)) [AD,AA (.loc 0)] (.n 0) (.cst (.bl AC)) smE (.int a) st=.ok (AA (.int (w-1))) s1:=by
    simp! [yaA,smE,e1]
   rw[yr,zH,one,bd_ok,e3,bd_ok];rfl
def zd8{n:Nat}{b:Bool}{xs:List PV}(hl:xs.length=n)(h:∀x∈xs,∃i:Int,x=.int i/\-200<=i/\i<=200):told n (.tp b xs)=true:=by
 erw[told,AG,decide_eq_true_eq,Ag];refine⟨hl,λx hx=>?_⟩;let⟨i,rfl,i0,i1⟩:=h x hx;erw[wh];rw[decide_eq_true i0,decide_eq_true i1];rfl
def ydg(v:PV):Prop:=∃a b c d:Int,v=.tp AB [.int a,.int b,.int c,.int d]/\-200<=a/\a<=200/\-200<=b/\b<=200/\-200<=c/\c<=200/\-200<=d/\d<=200
def zeg{v:PV}(h:ydg v):told 4 v=true:=by
 let⟨a,b,c,d,rfl,h⟩:=h;refine zd8 rfl λx hx=>?_;erw[AL,AZ,or_false]at hx;rcases hx with rfl|rfl|rfl|rfl
 .exact⟨a,rfl,by lia,by lia⟩
 .exact⟨b,rfl,by lia,by lia⟩
 .exact⟨c,rfl,by lia,by lia⟩
 .exact⟨d,rfl,by lia,by lia⟩
def zgD{v:PV}(h:ydg v):tam 1 10 v=true:=by
 let⟨a,b,c,d,rfl,h⟩:=h;rfl
def zbI{ns:List Int}(hns:ns.length<=1000)(k:Nat){B st:SO}(h:Frm ns B st):∃v st',ydg v/\Frm ns B st'/\yc T (k+4) yiS [.loc 0] st=.ok v st':=by
 have hT:T yiS=AA y7:=rfl;let⟨w,s1,w0,w1,o1,e1⟩:=zbU k hns (m:=8) ∅ ∅ h;have g1:=o1.frm h;let⟨f,s2,f0,f1,o2,e2⟩:=zbU k hns (m:=100) ∅ ∅ g1;have g2:=o2.frm g1;let⟨ys,s3,l,t,g3,e3⟩:=zog hns k 3 0 s2 g2;obtain⟨y0,y1,y2,rfl⟩:∃y0 y1 y2,ys=[y0,y1,y2]:=by
  match ys,l with
  |[a,b,c],_=>exact⟨a,b,c,rfl⟩
 let⟨a,rfl,a0,a1⟩:=t y0 (by simp);let⟨b,rfl,b0,b1⟩:=t y1 (by simp);let⟨c,rfl,c0,c1⟩:=t y2 (by simp);have hr:ybk (.int 3)=AA (yr 3 0 1):=rfl;have hE:ya5 (.ok [PV.int a,.int b,.int c] s3)=.ok (.lst [.int a,.int b,.int c]) s3:=z7 _ (by simp) _;have e3:yV (yc T (k+3)) [AD,AA (.loc 0)] (.n 0) (.cst (.bl AC)) (.bin .sub (.call 33 (.cons (.var 1) (.cons (.cst (.int 4)) .nil))) (.cst (.int 1))) (yr 3 0 1) s2=.ok [.int a,.int b,.int c] s3:=e3;have j0:∀s,idxV s (.lst [.int a,.int b,.int c]) (.int 0)=AA (.int a):=λs=>by simp[idxV,yaG,at?,ixI]
 have j1:∀s,idxV s (.lst [.int a,.int b,.int c]) (.int 1)=AA (.int b):=λs=>by simp[idxV,yaG,at?,ixI]
 have j2:∀s,idxV s (.lst [.int a,.int b,.int c]) (.int 2)=AA (.int c):=λs=>by simp[idxV,yaG,at?,ixI]
 by_cases h4:w<4
 .refine⟨_,s3,⟨f,0,0,0,rfl,by lia,by lia,by lia,by lia,by lia,by lia,by lia,by lia⟩,g3,?_⟩;have hd:decide (w<4)=true:=decide_eq_true h4;rw[zq hT rfl rfl];simp! [y7,z5,e1,e2,hr,e3,hE,hd,Ab]
 have hd:decide (w<4)=false:=decide_eq_false h4
 by_cases h7:w<7
 .have hd7:decide (w<7)=true:=decide_eq_true h7;refine⟨_,s3,⟨10+f%60,a,b,c,rfl,by lia,by lia,by lia,by lia,by lia,by lia,by lia,by lia⟩,g3,?_⟩;have hm:yP .mod (.int f) (.int 60)=AA (.int (f%60)):=zhY ∅;rw[zq hT rfl rfl];simp! [y7,z5,e1,e2,hr,e3,hE,hd,hd7,hm,j0,j1,j2,Ab]
 have hd7:decide (w<7)=false:=decide_eq_false h7;let⟨q,s4,q0,q1,o4,e4⟩:=zbU k hns (m:=4) ∅ ∅ g3;let⟨z,zm,zi⟩:=zeD (k:=AB) (xs:=[.int 200,.int (-200),.int f,.int 0]) q0 (show q<((4:Nat):Int)from q1);obtain⟨i,rfl,i0,i1⟩:∃i:Int,z=.int i/\-200<=i/\i<=200:=by
  erw[AL,AZ,or_false]at zm;rcases zm with rfl|rfl|rfl|rfl
  .exact⟨200,rfl,by lia,by lia⟩
  .exact⟨-200,rfl,by lia,by lia⟩
  .exact⟨f,rfl,by lia,by lia⟩
  .exact⟨0,rfl,by lia,by lia⟩
 refine⟨_,s4,⟨i,a,b,c,rfl,by lia,by lia,by lia,by lia,by lia,by lia,by lia,by lia⟩,o4.frm g3,?_⟩;have htu:∀s,yZ .tuple s [.lst [.int i,.int a,.int b,.int c]]=AA (.tp AB [.int i,.int a,.int b,.int c]):=λs=>rfl;have hn2:∀ρ s,ev (yc T (k+3)) ρ s (.neg (.cst (.int 200)))=.ok (.int (-200)) s:=λρ s=>by erw[ev,R.bind]
 rw[zq hT rfl rfl];simp! [y7,z5,e1,e2,hr,e3,hE,hd,hd7,hn2,e4,zi,j0,j1,j2,htu,Ab]
def zmP:∀n:Fin 26,ycv.cps.toList[n.val]?=AA (97+n.val):=by decide +kernel
def zkQ{i:Int}(h0:0<=i)(h1:i<26):∃c,97<=c/\c<=122/\∀st,idxV st (.str ycv) (.int i)=AA (.str ⟨#[c]⟩):=by
 let⟨n,rfl⟩:=zbJ h0;have hn:n<26:=by lia
 have hl:ycv.length<=sizeMax:=by decide +kernel
 refine⟨97+n,by lia,by lia,λst=>?_⟩;have e:=zmP ⟨n,hn⟩;have hx:ixI ycv.cps.toList.length (n:Int)=AA n:=by
  rw[zkE];simp[ixI];lia
 erw[idxV,if_pos hl,yaG,at?,hx,Az,e,Bd]
def zcx{ns:List Int}(hns:ns.length<=1000)(k:Nat){st:SO}(h:Drw ns 0 st):∃c st',97<=c/\c<=122/\Onl ns 0 st st'/\yc T (k+4) yiR [.loc 0] st=.ok (.str ⟨#[c]⟩) st':=by
 have hT:T yiR=AA yh5:=rfl;let⟨w,s1,w0,w1,o1,e1⟩:=zgG k hns (m:=26) ∅ ∅ h;let⟨c,c0,c1,hc⟩:=zkQ w0 w1;refine⟨c,s1,c0,c1,o1,?_⟩;rw[zq hT rfl rfl];simp! [yh5,z5,e1,hc]
def Wd(w n w':Int):Prop:=w'=w \/ n=2/\w<7/\4<=w'/\w' < 7
def yc5(w n:Int)(v:PV):Prop:=∃a b c:Int,v=.tp AB [.int a,.int b,.int c]/\-200<=a/\a<=200/\-200<=b/\b<=200/\-200<=c/\c<=200/\∀w',Wd w n w'->a+b*n+c*w' * n<=12
def zka{w n:Int}{v:PV}(h:yc5 w n v):told 3 v=true:=by
 let⟨a,b,c,rfl,h⟩:=h;refine zd8 rfl λx hx=>?_;erw[AL,AZ,or_false]at hx;rcases hx with rfl|rfl|rfl
 .exact⟨a,rfl,by lia,by lia⟩
 .exact⟨b,rfl,by lia,by lia⟩
 .exact⟨c,rfl,by lia,by lia⟩
def zmh{w n:Int}{v:PV}(h:yc5 w n v):tam 1 10 v=true:=by
 let⟨a,b,c,rfl,h⟩:=h;rfl
def cnT:Css:=match yx.body with
 |.cons _ r=>r
 |_=>.nil
theorem cnE:yx.body=(match yx.body with | .cons a _=>.cons a cnT|x=>x):=rfl
def ydW:Css:=match yx.body with
 |.cons _ (.cons _ (.cons _ r))=>r
 |_=>.nil
def zoQ:cnT=(match yx.body with | .cons _ (.cons a (.cons b _))=>.cons a (.cons b ydW)|x=>x):=rfl
def zeX{ns:List Int}(hns:ns.length<=1000)(k:Nat){B st:SO}(h:Frm ns B st){t:Int}(t0:0<=t)(t1:t<=1){W N:Int}(n0:0<=N)(n4:N<=4)(ht:t=1->W*N<13){p1 p2:Option PV}:∃v st',yc5 W N v/\Frm ns B st'/\exs (yc T (k+3)) [AA (.loc 0),p1,p2,AA (.int t),AD,AD] st cnT=.rt v st':=by
 let⟨a,s1,a0,a1,o1,e1⟩:=zbU k hns (m:=4) ∅ ∅ h;have g1:=o1.frm h;let⟨b,s2,b0,b1,o2,e2⟩:=zbU k hns (m:=3) ∅ ∅ g1;have g2:=o2.frm g1;let⟨w,s3,w0,w1,o3,e3⟩:=zbU k hns (m:=8) ∅ ∅ g2;have g3:=o3.frm g2;have m1:yP .mul (.int a) (.int (1-t))=AA (.int (a*(1-t))):=zbj ∅;have m2:yP .mul (.int b) (.int (1-t))=AA (.int (b*(1-t))):=zbj ∅;have r1:0<=a*(1-t)/\a*(1-t)<=3/\0<=b*(1-t)/\b*(1-t)<=2:=by
  rcases (show t=0 \/ t=1 by lia)with rfl|rfl
  .simp;lia
  .simp
 rw[zoQ]
 by_cases k0:w=0
 .let⟨c,s4,c0,c1,o4,e4⟩:=zbU k hns (m:=201) ∅ ∅ g3;have hb0:(w==0)=true:=by simp[k0]
  have hb1:(w==1)=false:=by simp;lia
  have hb2:(w==2)=false:=by simp;lia
  refine⟨_,s4,⟨0-c,0,0,rfl,by lia,by lia,by lia,by lia,by lia,by lia,λw' _=>by erw[D4,E8];lia⟩,o4.frm g3,?_⟩;simp! [ydW,yx,e1,m1,e2,m2,e3,hb0,e4,hb1,hb2,Ab]
 have hb0:(w==0)=false:=beq_eq_false_iff_ne.2 k0
 by_cases k1:w=1
 .let⟨c,s4,c0,c1,o4,e4⟩:=zbU k hns (m:=4) ∅ ∅ g3;have hb1:(w==1)=true:=by simp[k1]
  have hb2:(w==2)=false:=by simp;lia
  refine⟨_,s4,⟨0-c,2,0,rfl,by lia,by lia,by lia,by lia,by lia,by lia,λw' _=>by erw[D4,E8];lia⟩,o4.frm g3,?_⟩;simp! [ydW,yx,e1,m1,e2,m2,e3,hb0,e4,hb1,hb2,Ab]
 have hb1:(w==1)=false:=beq_eq_false_iff_ne.2 k1
 by_cases k2:w=2
 .let⟨c,s4,c0,c1,o4,e4⟩:=zbU k hns (m:=8) ∅ ∅ g3;have g4:=o4.frm g3;let⟨d,s5,d0,d1,o5,e5⟩:=zbU k hns (m:=2) ∅ ∅ g4;have hb2:(w==2)=true:=by simp[k2]
  have hn:∀ρ s,ev (yc T (k+3)) ρ s (.neg (.cst (.int 1)))=.ok (.int (-1)) s:=λρ s=>by erw[ev,R.bind]
  refine⟨_,s5,⟨4+c,-1-d,0,rfl,by lia,by lia,by lia,by lia,by lia,by lia,λw' _=>by rcases (show d=0 \/ d=1 by lia)with rfl|rfl<;>erw[D4,E8]<;>lia⟩,o5.frm g4,?_⟩;simp! [ydW,yx,e1,m1,e2,m2,e3,hb0,hb1,hb2,e4,hn,e5,Ab]
 .have hb2:(w==2)=false:=beq_eq_false_iff_ne.2 k2;refine⟨_,s3,⟨a*(1-t),b*(1-t),t,rfl,by lia,by lia,by lia,by lia,by lia,by lia,λw' hw=>?_⟩,g3,?_⟩
  .rcases (show t=0 \/ t=1 by lia)with rfl|rfl
   .simp only[Int.sub_zero,GN,D4,E8];rcases (show b=0 \/ b=1 \/ b=2 by lia)with rfl|rfl|rfl<;>lia
   .simp only[Int.sub_self,Int.mul_zero,D4,Ft,HB];rcases hw with rfl|⟨rfl,_,_,_⟩
    .have:=ht rfl;lia
    .lia
  simp! [ydW,yx,e1,m1,e2,m2,e3,hb0,hb1,hb2,Ab]
def zcL{ns:List Int}(hns:ns.length<=1000)(k:Nat){B st:SO}(h:Frm ns B st){w n:Int}(w0:0<=w)(w1:w<=1000)(n0:0<=n)(n4:n<=4):∃v st',yc5 w n v/\Frm ns B st'/\yc T (k+4) yib [.loc 0,.int w,.int n] st=.ok v st':=by
 have hT:T yib=AA ⟨3,6,AB,yx.body⟩:=rfl;have hm:yP .mul (.int w) (.int n)=AA (.int (w*n)):=zaz ∅;have hi:∀s b,yZ .int s [.bl b]=AA (.int (bi b)):=λs b=>rfl
 cases hd:decide (w*n<13)with
 |false=>
  let⟨v,s',x,g,e⟩:=zeX hns k h (t:=0) ∅ ∅ n0 n4 (W:=w) ∅ (p1:=AA (.int w)) (p2:=AA (.int n));refine⟨v,s',x,g,?_⟩;have h0:bi AB=0:=rfl;rw[zq hT rfl rfl];dsimp only;rw[cnE];simp! [yx,hm,hd,hi,h0,e,z5]
 |true=>
  let⟨c,s1,c0,c1,o1,e1⟩:=zbU k hns (m:=4) ∅ ∅ h;have g1:=o1.frm h;let⟨v,s',x,g,e⟩:=zeX hns k g1 (t:=bi (c==0)) (by cases (c==0)<;>decide) (by cases (c==0)<;>decide) n0 n4 (W:=w) (λ_=>of_decide_eq_true hd) (p1:=AA (.int w)) (p2:=AA (.int n));refine⟨v,s',x,g,?_⟩;rw[zq hT rfl rfl];dsimp only;rw[cnE];simp! [yx,hm,hd,e1,hi,e,z5]
def za7{st:SO}{L:Nat}{xs:List PV}{v:PV}(h:st[L]?=AA (.lst xs))(hl:xs.length<1000):yao .append st (.loc L)=AA AC/\ya4 .append st (.loc L) [v]=.ok .non (st.set L (.lst (xs++[v]))):=by
 constructor
 .simp[yao,yL,h]
 .simp only[ya4,ydf,h];rw[if_pos ∅]
def isT(v:PV):Prop:=thg v=AC/\tam 2 10 v=AC
def znf:isT (.tp AB [.str ybr]):=by
 refine⟨by ac_rfl,by decide +kernel⟩
def zkm{c:Nat}(c0:97<=c)(c1:c<=122){a b:PV}(ha:ydg a)(hb:ydg b):isT (.tp AB [.str yaE,.str ⟨#[c]⟩,a,b]):=by
 have h1:peq (.str yaE) (.str ybr)=false:=by ac_rfl
 have h2:peq (.str yaE) (.str yaE)=true:=by ac_rfl
 have h3:ltr (.str ⟨#[c]⟩)=true:=by simp[ltr,c0,c1]
 refine⟨?_,zD.2 ⟨by lia,by simp,λx hx=>?_⟩⟩
 .simp only[thg,h1,h2,Ap,if_false,if_true,h3,zeg ha,zeg hb,Bg]
 .simp only[AL,AZ,or_false]at hx;rcases hx with rfl|rfl|rfl|rfl
  .decide +kernel
  .exact zgF ∅ ∅
  .exact zgD ha
  .exact zgD hb
def snB:Css:=match yp.body with
 |.cons _ (.cons (.for _ _ b) _)=>b
 |_=>.nil
def ycA:Css:=match snB with
 |.cons _ (.cons (.for _ _ b) _)=>b
 |_=>.nil
theorem things{ns:List Int}(hns:ns.length<=1000)(k:Nat){B:SO}{L:Nat}(hL:L≠0)(hB:B.length<=L){p1 p2:Option PV}{r:List (Option PV)}:∀(N:Nat) (a:Int) (acc:List PV) (p4 p5:Option PV) (st:SO),Frm ns B st->st[L]?=AA (.lst acc)->acc.length+N<=900->(∀y∈acc,isT y) ->
  ∃acc' q4 q5 st',acc'.length=acc.length+N/\(∀y∈acc',isT y)/\Frm ns B st'/\st'[L]?=AA (.lst acc') /\
   yar (yc T (k+4)) (.n 4) ycA (yr N a 1) (AA (.loc 0)::p1::p2::AA (.loc L)::p4::p5::r) st=.nx (AA (.loc 0)::p1::p2::AA (.loc L)::q4::q5::r) st'
 |0,a,acc,p4,p5,st,h,hs,hl,ht=>⟨acc,p4,p5,st,rfl,ht,h,hs,by rw[yr,zI]⟩
 |N+1,a,acc,p4,p5,st,h,hs,hl,ht=>by
  let⟨w,s1,w0,w1,o1,e1⟩:=zbU (k+1) hns (m:=4) ∅ ∅ h;have g1:=o1.frm h;have e1:yc T (k+4) ya [.loc 0,.int 4] st=_:=e1;obtain⟨v,s2,tv,g2,l2,e2⟩:∃v s2,isT v/\Frm ns B s2/\s2[L]?=AA (.lst acc)/\exs (yc T (k+4)) (AA (.loc 0)::p1::p2::AA (.loc L)::AA (.int a)::p5::r) st ycA=exs (yc T (k+4)) (AA (.loc 0)::p1::p2::AA (.loc L)::AA (.int a)::AA v::r) s2 (match ycA with | .cons _ (.cons _ r)=>r|x=>x):=by
   cases hd:decide (0<w)with
   |false=>
    refine⟨_,s1,znf,g1,by rw[o1.get hL];exact hs,?_⟩;simp! [ycA,snB,yp,Ab,e1,hd]
   |true=>
    let⟨c,s2,c0,c1,o2,e2⟩:=zcx hns k g1.dr;have g2:=o2.frm g1;have hL1:L<st.length:=(A2.1 hs).1;have hL2:L<s2.length:=by rw[o2.len,o1.len];exact hL1
    let⟨x,s3,hx,f3,e3⟩:=zbI hns k (Frm.refl g2.dr);let⟨y,s4,hy,f4,e4⟩:=zbI hns k (Frm.refl f3.dr);have l3:=f3.len;refine⟨_,s4,zkm c0 c1 hx hy,(g2.trans f3).trans f4,by rw[f4.get L hL ∅,f3.get L hL hL2,o2.get hL,o1.get hL];exact hs,?_⟩;simp! [ycA,snB,yp,Ab,e1,hd,e2,e3,e4]
  let⟨m1,n1⟩:=za7 (v:=v) l2 ∅;have hL2:L<s2.length:=(A2.1 l2).1;let⟨acc',q4,q5,st',r1,r2,r3,r4,r5⟩:=things hns k hL hB (p1:=p1) (p2:=p2) (r:=r) N (a+1) (acc++[v]) (AA (.int a)) (AA v) (s2.set L (.lst (acc++[v]))) (g2.put hL hB _) (rdS l2) (by simp;lia) (λy hy=>by
   rcases Ak.1 hy with hy|hy
   .exact ht y hy
   .simp only[AL,AZ,or_false]at hy;rw[hy];exact tv)
  refine⟨acc',q4,q5,st',by rw[r1];simp;lia,r2,r3,r4,?_⟩;have hb:exs (yc T (k+4)) (AA (.loc 0)::p1::p2::AA (.loc L)::AA (.int a)::p5::r) st ycA=.nx (AA (.loc 0)::p1::p2::AA (.loc L)::AA (.int a)::AA v::r) (s2.set L (.lst (acc++[v]))):=by
   rw[e2];simp! [ycA,snB,yp,m1,n1]
  rw[yr,zp (ρ1:=AA (.loc 0)::p1::p2::AA (.loc L)::AA (.int a)::p5::r) rfl,hb];exact r5
def fiE:Ce:=.bin .sub (.call ya (.cons (.var 1) (.cons (.cst (.int 5)) .nil))) (.cst (.int 1))
def zoh{ns:List Int}(hns:ns.length<=1000)(k:Nat){B:SO}:∀(N:Nat) (a:Int) (st:SO),Frm ns B st->∃ys st',ys.length=N/\(∀y∈ys,∃i:Int,y=.int i/\-200<=i/\i<=200)/\Frm ns B st'/\Onl ns 0 st st' /\
  yV (yc T (k+4)) [AD,AA (.loc 0)] (.n 0) (.cst (.bl AC)) fiE (yr N a 1) st=.ok ys st'
 |0,a,st,h=>⟨[],st,rfl,by simp,h,h.dr.refl,by rw[yr,zag]⟩
 |N+1,a,st,h=>by
  let⟨w,s1,w0,w1,o1,e1⟩:=zbU (k+1) hns (m:=5) ∅ ∅ h;have e1:yc T (k+4) ya [.loc 0,.int 5] st=_:=e1;let⟨ys,s3,l,t,g3,o3,e3⟩:=zoh hns k N (a+1) s1 (o1.frm h);refine⟨.int (w-1)::ys,s3,by simp[l],λy hy=>?_,g3,o1.trans o3,?_⟩
  .rcases AL.1 hy with rfl|hy
   .exact⟨w-1,rfl,by lia,by lia⟩
   .exact t y hy
  .have one:yaA (yc T (k+4)) [AD,AA (.loc 0)] (.n 0) (.cst (.bl AC)) fiE (.int a) st=.ok (AA (.int (w-1))) s1:=by
    simp! [yaA,fiE,e1]
   rw[yr,zH,one,bd_ok,e3,bd_ok];rfl
def isM(v:PV):Prop:=trm v=AC/\tam 4 10 v=AC
def zoR{f:Int}{ns ts:List PV}(f0:1-10^40<=f)(f1:f<=10^40-1)(hl:ns.length=6)(hn:∀x∈ns,∃i:Int,x=.int i/\-200<=i/\i<=200)(tl:ts.length<=2)(ht:∀y∈ts,isT y):isM (.tp AB [.int f,.tp AB ns,.tp AB ts]):=by
 constructor
 .simp only[trm,wh,zd8 hl hn,ths];rw[decide_eq_true f0,decide_eq_true f1,decide_eq_true tl,Ag.2 λx hx=>(ht x hx).1];rfl
 .refine zD.2 ⟨by lia,by simp,λx hx=>?_⟩;erw[AL,AZ,or_false]at hx;rcases hx with rfl|rfl|rfl
  .rfl
  .refine zD.2 ⟨by lia,by lia,λx hx=>?_⟩;let⟨i,rfl,_⟩:=hn x hx;rfl
  .refine zD.2 ⟨by lia,by lia,λx hx=>za6 ∅ ∅ _ (ht x hx).2⟩
def isS(v:PV):Prop:=sen v=AC/\tam 5 10 v=AC
def zoS{ts:List PV}(tl:ts.length<=10)(ht:∀y∈ts,isM y):isS (.tp AB ts):=by
 constructor
 .simp only[sen];rw[decide_eq_true (by lia:ts.length<=20),Ag.2 λx hx=>(ht x hx).1];rfl
 .exact zD.2 ⟨by lia,by lia,λx hx=>za6 ∅ ∅ _ (ht x hx).2⟩
def snT:Css:=match snB with
 |.cons _ (.cons _ r)=>r
 |x=>x
def yep:Css:=match snT with
 |.cons _ (.cons _ r)=>r
 |x=>x
theorem snE:snB=(match yp.body with
 |.cons _ (.cons (.for _ _ (.cons a (.cons (.for t i _) _))) _)=>.cons a (.cons (.for t i ycA) snT)
 |x=>x):=rfl
def zoT:snT=(match yp.body with
 |.cons _ (.cons (.for _ _ (.cons _ (.cons _ (.cons a (.cons b _))))) _)=>.cons a (.cons b yep)
 |x=>x):=rfl
def zoU:yep=(match yp.body with
 |.cons _ (.cons (.for _ _ (.cons _ (.cons _ (.cons _ (.cons _ (.cons (.asg t (.thw (.comp sl tg it c2 _))) r)))))) _)=>.cons (.asg t (.thw (.comp sl tg it c2 fiE))) r
 |x=>x):=rfl
def zhM{ns:List Int}(hns:ns.length<=1000)(k:Nat){B st:SO}(h:Frm ns B st){L1 L3:Nat}(h1:L1≠0)(h3:L3≠0)(hB:B.length<=L1)(hne:L1≠L3){acc ts:List PV}(hs:st[L1]?=AA (.lst acc))(hl:acc.length<900)(hs3:st[L3]?=AA (.lst ts))(tl:ts.length<=2)(ht:∀y∈ts,isT y){f:Int}(f0:1-10^40<=f)(f1:f<=10^40-1){p2 p4 p5 p6 p8:Option PV}:
  ∃v q8 st',isM v/\Frm ns B st'/\st'[L1]?=AA (.lst (acc++[v])) /\
   exs (yc T (k+4)) [AA (.loc 0),AA (.loc L1),p2,AA (.loc L3),p4,p5,p6,AA (.int f),p8] st yep=.nx [AA (.loc 0),AA (.loc L1),p2,AA (.loc L3),p4,p5,p6,AA (.int f),q8] st':=by
 let⟨ys,s1,l1,t1,g1,o1,e1⟩:=zoh hns k 6 0 st h;have hb1:L1<st.length:=(A2.1 hs).1;have hb3:L3<st.length:=(A2.1 hs3).1;have ln1:=o1.len;have g2:=g1.app (.lst ys);let⟨w,s2,w0,w1,o2,e2⟩:=zbU (k+1) hns (m:=4) ∅ ∅ g2;have e2:yc T (k+4) ya [.loc 0,.int 4] (s1++[.lst ys])=_:=e2;have g3:=o2.frm g2;let⟨u,s3,u0,u1,o3,e3⟩:=zbU (k+1) hns (m:=6) ∅ ∅ g3;have e3:yc T (k+4) ya [.loc 0,.int 6] s2=_:=e3;have g4:=o3.frm g3;let⟨z,zm,zi⟩:=zeD (k:=AB) (xs:=[.int 0,.int 1,.int 200,.int (-200)]) w0 (show w<((4:Nat):Int)from w1);have hz:∃i:Int,z=.int i/\-200<=i/\i<=200:=by
  erw[AL,AZ,or_false]at zm;rcases zm with rfl|rfl|rfl|rfl
  .exact⟨0,rfl,by lia,by lia⟩
  .exact⟨1,rfl,by lia,by lia⟩
  .exact⟨200,rfl,by lia,by lia⟩
  .exact⟨-200,rfl,by lia,by lia⟩
 have pos:0<s1.length:=g1.pos;have ln2:=o2.len;have ln3:=o3.len;rw[AM,CB]at ln2;have hy:s3[s1.length]?=AA (.lst ys):=by
  rw[o3.get ∅,o2.get ∅];simp
 have hx:ixI ys.length u=AA u.toNat:=zhk u0 ∅;have hsix:yaz s3 (.loc s1.length) (.int u) z=AA (s3.set s1.length (.lst (ys.set u.toNat z))):=by
  erw[yaz,hy,hx]
 have r1:∀m,m≠0->m<st.length->∀o,(s3.set s1.length o)[m]?=st[m]?:=λm m0 ml o=>by
  rw[A3 ∅,o3.get m0,o2.get m0,AY ∅,o1.get m0]
 have hb:∀y∈ys.set u.toNat z,∃i:Int,y=.int i/\-200<=i/\i<=200:=λy hy=>by
  rcases List.mem_or_eq_of_mem_set hy with hy|hy
  .exact t1 y hy
  .rw[hy];exact hz
 obtain⟨s5,hs5⟩:∃s5,s5=s3.set s1.length (.lst (ys.set u.toNat z)):=⟨_,rfl⟩;rw[<-hs5]at hsix;have j1:s5[L1]?=AA (.lst acc):=by rw[hs5,r1 L1 h1 hb1];exact hs
 have j3:s5[L3]?=AA (.lst ts):=by rw[hs5,r1 L3 h3 hb3];exact hs3
 have jn:s5[s1.length]?=AA (.lst (ys.set u.toNat z)):=by rw[hs5];exact rdS hy
 have g5:Frm ns B s5:=by rw[hs5];exact g4.put ∅ (by have:=g1.len;lia) _
 have tu:yZ .tuple s5 [.loc s1.length]=AA (.tp AB (ys.set u.toNat z)):=by simp[yZ,ycE,yL,jn]
 have tt:yZ .tuple s5 [.loc L3]=AA (.tp AB ts):=by simp[yZ,ycE,yL,j3]
 let⟨m1,n1⟩:=za7 (v:=.tp AB [.int f,.tp AB (ys.set u.toNat z),.tp AB ts]) j1 ∅;refine⟨_,AA (.loc s1.length),s5.set L1 (.lst (acc++[.tp AB [.int f,.tp AB (ys.set u.toNat z),.tp AB ts]])),zoR f0 f1 (by rw[BB];exact l1) hb tl ht,g5.put h1 hB _,rdS j1,?_⟩;have hr:ybk (.int 6)=AA (yr 6 0 1):=rfl;have hE:ya5 (.ok ys s1)=.ok (.lst ys) s1:=z7 _ ∅ _;have hth:ycK (.lst ys) s1=.ok (.loc s1.length) (s1++[.lst ys]):=rfl;have hn2:∀ρ s,ev (yc T (k+4)) ρ s (.neg (.cst (.int 200)))=.ok (.int (-200)) s:=λρ s=>by erw[ev,R.bind]
 rw[zoU];simp! [yp,IC.ve30,hr,e1,hE,hth,hn2,e2,zi,e3,hsix,stO,m1,tu,tt,n1,Ab]
def ziZ{ns:List Int}(hns:ns.length<=1000)(k:Nat){B st:SO}(h:Frm ns B st){L1:Nat}(h1:L1≠0)(hB:B.length<=L1){acc:List PV}(hs:st[L1]?=AA (.lst acc))(hl:acc.length<900){p2 p3 p4 p5 p6 p7 p8:Option PV}:
  ∃v q3 q4 q5 q6 q7 q8 st',isM v/\Frm ns B st'/\st'[L1]?=AA (.lst (acc++[v])) /\
   exs (yc T (k+4)) [AA (.loc 0),AA (.loc L1),p2,p3,p4,p5,p6,p7,p8] st snB=.nx [AA (.loc 0),AA (.loc L1),p2,q3,q4,q5,q6,q7,q8] st':=by
 have hb1:L1<st.length:=(A2.1 hs).1;have pos:=h.pos;have g0:=h.app (.lst []);let⟨n,s1,n0,n1,o1,e1⟩:=zbU (k+1) hns (m:=3) ∅ ∅ g0;have e1:yc T (k+4) ya [.loc 0,.int 3] (st++[.lst []])=_:=e1;have g1:=o1.frm g0;let⟨n,rfl⟩:=zbJ n0;have hs1:s1[L1]?=AA (.lst acc):=by rw[o1.get h1,AY hb1];exact hs
 have hs3:s1[st.length]?=AA (.lst []):=by rw[o1.get ∅];simp
 obtain⟨s1',hs1'⟩:∃s1',s1'=s1.set st.length .dead:=⟨_,rfl⟩;have ln1:=o1.len;rw[AM,CB]at ln1;let⟨ts,q4,q5,s2,l2,t2,f2,r2,e2⟩:=things hns k (B:=st) (L:=st.length) ∅ (AS _) (p1:=AA (.loc L1)) (p2:=p2) (r:=[p6,p7,p8]) n 0 [] p4 p5 s1 (o1.frm ((Frm.refl h.dr).app (.lst []))) hs3 (by simp;lia) (by simp);erw[Av,BV]at l2;have g2:Frm ns B s2:=h.trans f2;have k1:s2[L1]?=AA (.lst acc):=by rw[f2.get L1 h1 hb1];exact hs
 let⟨w,s3,w0,w1,o3,e3⟩:=zbU (k+1) hns (m:=10000000000000000000000000000000000000000) ∅ ∅ g2;have e3:yc T (k+4) ya [.loc 0,.int 10000000000000000000000000000000000000000] s2=_:=e3;have g3:=o3.frm g2;let⟨u,s4,u0,u1,o4,e4⟩:=zbU (k+1) hns (m:=2) ∅ ∅ g3;have e4:yc T (k+4) ya [.loc 0,.int 2] s3=_:=e4;have g4:=o4.frm g3;let⟨x,s5,x0,x1,o5,e5⟩:=zbU (k+1) hns (m:=7) ∅ ∅ g4;have e5:yc T (k+4) ya [.loc 0,.int 7] s4=_:=e5;have g5:=o5.frm g4;let⟨y,s6,y0,y1,o6,e6⟩:=zbU (k+1) hns (m:=2) ∅ ∅ g5;have e6:yc T (k+4) ya [.loc 0,.int 2] s5=_:=e6;have g6:=o6.frm g5;have mu:yP .mul (.int w) (.int (1-2*u))=AA (.int (w*(1-2*u))):=zbj ∅;have mu2:yP .mul (.int 2) (.int u)=AA (.int (2*u)):=zaz ∅;have hw:-w<=w*(1-2*u)/\w*(1-2*u)<=w:=by
  rcases (show u=0 \/ u=1 by lia)with rfl|rfl
  .simp;lia
  .simp;lia
 let⟨z,zm,zi⟩:=zeD (k:=AB) (xs:=[.int (x-3),.int (w*(1-2*u))]) y0 (show y<((2:Nat):Int)from y1);obtain⟨f,rfl,f0,f1⟩:∃f:Int,z=.int f/\1-10^40<=f/\f<=10^40-1:=by
  erw[AL,AZ,or_false]at zm;rcases zm with rfl|rfl
  .exact⟨x-3,rfl,by lia,by lia⟩
  .exact⟨_,rfl,by lia,by lia⟩
 have j:∀m,m≠0->s6[m]?=s2[m]?:=λm m0=>by rw[o6.get m0,o5.get m0,o4.get m0,o3.get m0]
 let⟨v,q8,s7,hv,g7,r7,e7⟩:=zhM hns k g6 (L3:=st.length) h1 ∅ hB ∅ (by rw[j L1 h1];exact k1) hl (by rw[j _ ∅];exact r2) ∅ t2 f0 f1 (p2:=p2) (p4:=q4) (p5:=q5) (p6:=AA (.int (w*(1-2*u)))) (p8:=p8);refine⟨v,AA (.loc st.length),q4,q5,AA (.int (w*(1-2*u))),AA (.int f),q8,s7,hv,g7,r7,?_⟩;have hp:yP .pow (.int 10) (.int 40)=AA (.int 10000000000000000000000000000000000000000):=rfl;have hr:=zaY n ∅;rw[snE];simp! [yp,Ab,e1,hr,e2];rw[zoT];simp! [yp,Ab,hp,e3,mu2,e4,mu,e5,e6,zi,e7]
def zdY{ns:List Int}(hns:ns.length<=1000)(k:Nat){B:SO}{L1:Nat}(h1:L1≠0)(hB:B.length<=L1):∀(N:Nat) (a:Int) (acc:List PV) (p2 p3 p4 p5 p6 p7 p8:Option PV) (st:SO),Frm ns B st->st[L1]?=AA (.lst acc)->acc.length+N<=10->(∀y∈acc,isM y) ->
  ∃acc' ρ st',acc'.length<=10/\(∀y∈acc',isM y)/\Frm ns B st'/\st'[L1]?=AA (.lst acc') /\
   yar (yc T (k+4)) (.n 2) snB (yr N a 1) [AA (.loc 0),AA (.loc L1),p2,p3,p4,p5,p6,p7,p8] st=.nx (AA (.loc 0)::AA (.loc L1)::ρ) st'
 |0,a,acc,p2,p3,p4,p5,p6,p7,p8,st,h,hs,hl,ht=>⟨acc,_,st,by lia,ht,h,hs,by rw[yr,zI]⟩
 |N+1,a,acc,p2,p3,p4,p5,p6,p7,p8,st,h,hs,hl,ht=>by
  let⟨v,q3,q4,q5,q6,q7,q8,s1,hv,g1,r1,e1⟩:=ziZ hns k h h1 hB hs ∅ (p2:=AA (.int a)) (p3:=p3) (p4:=p4) (p5:=p5) (p6:=p6) (p7:=p7) (p8:=p8);let⟨acc',ρ,st',x1,x2,x3,x4,x5⟩:=zdY hns k h1 hB N (a+1) (acc++[v]) (AA (.int a)) q3 q4 q5 q6 q7 q8 s1 g1 r1 (by simp;lia) (λy hy=>by
   rcases Ak.1 hy with hy|hy
   .exact ht y hy
   .simp only[AL,AZ,or_false]at hy;rw[hy];exact hv)
  refine⟨acc',ρ,st',x1,x2,x3,x4,?_⟩;rw[yr,zp (ρ1:=[AA (.loc 0),AA (.loc L1),AA (.int a),p3,p4,p5,p6,p7,p8]) rfl,e1];exact x5
def zbm{ns:List Int}(hns:ns.length<=1000)(k:Nat){B st:SO}(h:Frm ns B st):∃v st',isS v/\Frm ns B st'/\yc T (k+5) yiT [.loc 0] st=.ok v st':=by
 have hT:T yiT=AA ⟨1,9,AB,yp.body⟩:=rfl;have pos:=h.pos;have g0:=h.app (.lst []);let⟨n,s1,n0,n1,o1,e1⟩:=zbU (k+1) hns (m:=6) ∅ ∅ g0;have e1:yc T (k+4) ya [.loc 0,.int 6] (st++[.lst []])=_:=e1;have g1:=o1.frm g0;have hs1:s1[st.length]?=AA (.lst []):=by rw[o1.get ∅];simp
 have hmx:∀s,yZ .max s [.int 0,.int (n-2)]=AA (.int ((n-2).toNat:Nat)):=λs=>by
  erw[yZ,maxV]
  congr 2
  split<;>lia
 let⟨ts,ρ,s2,l2,t2,g2,r2,e2⟩:=zdY hns k (L1:=st.length) ∅ h.len (n-2).toNat 0 [] AD AD AD AD AD AD AD s1 g1 hs1 (by simp;lia) (by simp);have hr:=zaY (n-2).toNat ∅;have tu:yZ .tuple s2 [.loc st.length]=AA (.tp AB ts):=by simp[yZ,ycE,yL,r2]
 refine⟨_,s2,zoS l2 t2,g2,?_⟩
 have hb:yp.body=(match yp.body with
  |.cons a (.cons (.for t i _) r)=>.cons a (.cons (.for t i snB) r)
  |x=>x):=rfl
 rw[zq hT rfl rfl];dsimp only;rw[hb];simp! [yp,z5,Ab,e1,hmx,hr,e2,tu]
def ybM(v:PV):Prop:=∃c x,97<=c/\c<=122/\ydg x/\v=.tp AB [.str ⟨#[c]⟩,x]
def zjc{v:PV}(h:ybM v):yaw AC v=true:=by
 let⟨c,x,c0,c1,hx,rfl⟩:=h;have h3:ltr (.str ⟨#[c]⟩)=true:=by simp[ltr,c0,c1]
 erw[yaw,plS,h3,zeg hx,Bg]
def zd3{v:PV}(h:ybM v):tam 2 10 v=true:=by
 let⟨c,x,c0,c1,hx,rfl⟩:=h;refine zD.2 ⟨by lia,by simp,λy hy=>?_⟩;erw[AL,AZ,or_false]at hy;rcases hy with rfl|rfl
 .exact zgF ∅ ∅
 .exact zgD hx
def two(xs:List PV):Prop:=xs.Pairwise λa b=>peq a b=AB
def zk5{xs:List PV}(h:∀y∈xs,ybM y):yaZ 60 xs=true:=zbw 2 10 xs 60 ((zb3 2 10 xs).2 λx hx=>zd3 (h x hx)) ∅
def zdv{v:PV}:∀{xs:List PV},inL v xs=AB->∀y∈xs,peq y v=AB
 |[],_=>λy hy=>by cases hy
 |x::xs,h=>λy hy=>by
  erw[inL,Bool.or_eq_false_iff]at h;rcases AL.1 hy with rfl|hy
  .exact h.1
  .exact zdv h.2 y hy
def zfM{xs:List PV}{v:PV}(h:two xs)(hv:inL v xs=AB):two (xs++[v]):=by
 refine List.pairwise_append.2 ⟨h,by simp,λa ha b hb=>?_⟩;erw[AL,AZ,or_false]at hb;subst hb;exact zdv hv a ha
def someE:Ce:=.idx (.var 1) (.call ya (.cons (.var 2) (.cons (.blt .len (.cons (.var 1) .nil)) .nil)))
theorem ycd{xs:List PV}{st:SO}{C:Nat}(h:st[C]?=AA (.lst xs)):yZ .len st [.loc C]=AA (.int xs.length):=by simp[yZ,lenV,ya2,h]
def zl9{xs:List PV}{st:SO}{C:Nat}(h:st[C]?=AA (.lst xs))(i:PV):idxV st (.loc C) i=idxV st (.lst xs) i:=by erw[idxV,h]
def zoi{ns:List Int}(hns:ns.length<=1000)(k:Nat){xs:List PV}{C:Nat}(hC:C≠0)(hx:0<xs.length)(hx2:xs.length<=1000):∀(N:Nat) (a:Int) (st:SO),Drw ns 0 st->st[C]?=AA (.lst xs)->∃ys st',ys.length=N/\(∀y∈ys,y∈xs)/\Onl ns 0 st st' /\
  yV (yc T (k+3)) [AD,AA (.loc C),AA (.loc 0)] (.n 0) (.cst (.bl AC)) someE (yr N a 1) st=.ok ys st'
 |0,a,st,h,hs=>⟨[],st,rfl,by simp,h.refl,by rw[yr,zag]⟩
 |N+1,a,st,h,hs=>by
  let⟨w,s1,w0,w1,o1,e1⟩:=zgG k hns (m:=(xs.length:Int)) ∅ ∅ h;let⟨x,hx',hi⟩:=zk8 (st:=s1) w0 w1;have hs1:s1[C]?=AA (.lst xs):=by rw[o1.get hC];exact hs
  let⟨ys,s3,l,t,o3,e3⟩:=zoi hns k hC hx hx2 N (a+1) s1 (o1.drw h) (by rw[o1.get hC];exact hs);refine⟨x::ys,s3,by simp[l],λy hy=>?_,o1.trans o3,?_⟩
  .rcases AL.1 hy with rfl|hy
   .exact hx'
   .exact t y hy
  .have one:yaA (yc T (k+3)) [AD,AA (.loc C),AA (.loc 0)] (.n 0) (.cst (.bl AC)) someE (.int a) st=.ok (AA x) s1:=by
    simp! [yaA,someE,ycd hs,e1,zl9 hs1,hi]
   rw[yr,zH,one,bd_ok,e3,bd_ok];rfl
def names13:List PV:=[.str "set",.str "move",.str "bare",.str "sum",.str "less",.str "both",.str "any",.str "odd",.str "twice",.str "half",.str "times",.str "mark",.str "ask"]
def four:List PV:=[.str "move",.str "bare",.str "twice",.str "half"]
def zfe:∀x∈names13,∃s,x=.str s/\tam 1 10 (.str s)=AC/\(s=AE "mark" \/ s=AE "ask" \/ s=AE "set" \/ s=AE "times" \/
  ((s≠AE "mark"/\s≠AE "ask"/\s≠AE "set"/\s≠AE "times")/\((s=AE "move" \/ s=AE "bare" \/ s=AE "twice" \/ s=AE "half")/\inL (.str s) four=AC \/ (s=AE "sum" \/ s=AE "less" \/ s=AE "both" \/ s=AE "any" \/ s=AE "odd")/\inL (.str s) four=AB))):=by
 intro x hx;erw[names13,AL,AZ,or_false]at hx;rcases hx with rfl|rfl|rfl|rfl|rfl|rfl|rfl|rfl|rfl|rfl|rfl|rfl|rfl<;>refine⟨_,rfl,by decide +kernel,?_⟩
 case inl=>exact .inr (.inr (.inl rfl))
 case inr.inr.inr.inr.inr.inr.inr.inr.inr.inr.inl=>exact .inr (.inr (.inr (.inl rfl)))
 case inr.inr.inr.inr.inr.inr.inr.inr.inr.inr.inr.inl=>exact .inl rfl
 case inr.inr.inr.inr.inr.inr.inr.inr.inr.inr.inr.inr=>exact .inr (.inl rfl)
 all_goals refine .inr (.inr (.inr (.inr ⟨⟨by decide +kernel,by decide +kernel,by decide +kernel,by decide +kernel⟩,?_⟩)))
 all_goals first|exact .inl ⟨by simp,by decide +kernel⟩|exact .inr ⟨by simp,by decide +kernel⟩
inductive Rww(xs:List PV):AO->List PV->Prop
 |mark {q:Int} (q0:0<=q) (q1:q<2):Rww xs (AE "mark") [.int q]
 |ask {c:PV} (hc:c∈xs):Rww xs (AE "ask") [c]
 |set {c:PV} {q:Int} (hc:c∈xs) (q0:0<=q) (q1:q<2):Rww xs (AE "set") [c,.int q]
 |times {a b c d:PV} (ha:a∈xs) (hb:b∈xs) (hc:c∈xs) (hd:d∈xs) (hn:peq a b=AB):Rww xs (AE "times") [a,b,c,d]
 |one {s:AO} {a b:PV} (hs:s=AE "move" \/ s=AE "bare" \/ s=AE "twice" \/ s=AE "half") (ha:a∈xs) (hb:b∈xs):Rww xs s [a,b]
 |two {s:AO} {a b c:PV} (hs:s=AE "sum" \/ s=AE "less" \/ s=AE "both" \/ s=AE "any" \/ s=AE "odd") (ha:a∈xs) (hb:b∈xs) (hc:c∈xs):Rww xs s [a,b,c]
def zkY{s:AO}{n:Nat}{ps:List PV}(hk:yW s yb=AA (.tp AC (Aj n yaC)))(hl:ps.length=n)(hc:∀p∈ps,ybM p)(ht:s=yaa->unl ps=AC):yae AC (.tp AB (.str s::ps))=true:=by
 erw[yae,hk,C1];rw[decide_eq_true hl,zcv AC n ps hl,Ag.2 λp hp=>zjc (hc p hp)]
 by_cases c:s=yaa
 .rw[ht c];simp
 .rw[decide_eq_false c];simp
def srT:Css:=match yt.body with
 |.cons _ (.cons _ (.cons _ (.cons _ r)))=>r
 |_=>.nil
def ydG:Css:=match srT with | .cons _ r=>r|x=>x
def yd3:Css:=match ydG with | .cons _ r=>r|x=>x
def ydr:Css:=match yd3 with | .cons _ r=>r|x=>x
def yfh:Css:=match ydr with | .cons _ r=>r|x=>x
theorem sS0:srT=(match yt.body with | .cons _ (.cons _ (.cons _ (.cons _ (.cons a _))))=>.cons a ydG|x=>x):=rfl
theorem sS1:ydG=(match yt.body with | .cons _ (.cons _ (.cons _ (.cons _ (.cons _ (.cons a _)))))=>.cons a yd3|x=>x):=rfl
theorem sS2:yd3=(match yt.body with | .cons _ (.cons _ (.cons _ (.cons _ (.cons _ (.cons _ (.cons a _))))))=>.cons a ydr|x=>x):=rfl
theorem sS3:ydr=(match yt.body with | .cons _ (.cons _ (.cons _ (.cons _ (.cons _ (.cons _ (.cons _ (.cons a _)))))))=>.cons a yfh|x=>x):=rfl
theorem sS4:yfh=(match yt.body with | .cons _ (.cons _ (.cons _ (.cons _ (.cons _ (.cons _ (.cons _ (.cons _ a)))))))=>a|x=>x):=rfl
def yeX(o:Option SO)(k:SO->Fl):Fl:=match o with
 |none=>.bad
 |some st=>k st
def zix{st:SO}{k:SO->Fl}:yeX (AA st) k=k st:=rfl
def zmb{call:Cl}{ρ:IC.Env}{st:SO}{o i p j e f:Ce}:ex call ρ st (.six2 o i p j e f)=(ev call ρ st e).fl ρ λv st1=>(ev call ρ st1 f).fl ρ λw st2=>(ev call ρ st2 o).fl ρ λx st3=>(ev call ρ st3 i).fl ρ λy st4=>yeX (yaz st4 x y v) λst5=>(ev call ρ st5 p).fl ρ λx2 st6=>(ev call ρ st6 j).fl ρ λy2 st7=>stO ρ (yaz st7 x2 y2 w):=by
 rw[ex];refine congrArg _ (funext λv=>funext λst1=>congrArg _ (funext λw=>funext λst2=>congrArg _ (funext λx=>funext λst3=>congrArg _ (funext λy=>funext λst4=>?_))))
 cases yaz st4 x y v with
 |none=>rfl
 |some st5=>
  dsimp only[yeX];refine congrArg _ (funext λx2=>funext λst6=>congrArg _ (funext λy2=>funext λst7=>?_))
  cases yaz st7 x2 y2 w<;>rfl
def zmX{xs:List PV}{s:AO}{ps:List PV}(h:Rww xs s ps)(hx:∀x∈xs,ybM x):yae AC (.tp AB (.str s::ps))=AC/\tam 4 10 (.tp AB (.str s::ps))=true:=by
 have ti:∀d i,tam d 10 (.int i)=true:=λ_ _=>rfl;have tc:∀{c:PV},c∈xs->tam 3 10 c=true:=λhc=>za6 ∅ ∅ _ (zd3 (hx _ hc));have big:∀{s:AO} {ps:List PV},tam 3 10 (.str s)=AC->ps.length<=4->(∀p∈ps,tam 3 10 p=AC)->tam 4 10 (.tp AB (.str s::ps))=true:=λ{s ps} a b c=>zD.2 ⟨by lia,by simp;lia,λx hx=>by
  rcases AL.1 hx with rfl|hx
  .exact a
  .exact c x hx⟩
 have fig:∀{q:Int},0<=q->q<2->prS AC (.tup [.str ya1,.int q])=true:=λ{q} q0 q1=>by
  have:peq (.str ya1) (.str ya1)=true:=by rw[zai];simp
  erw[prS,opS,this,if_true,wh];rw[decide_eq_true q0,decide_eq_true ∅];rfl
 cases h with
 |mark q0 q1=>
  refine⟨?_,big (by decide +kernel) (by simp) λp hp=>by simp at hp;rw[hp];exact ti _ _⟩;have hk:yW (AE "mark") yb=AA (.tp AC [.str ya1]):=by ac_rfl
  have ht:decide (AE "mark"=yaa)=false:=by decide +kernel
  simp[yae,hk,yac,fig q0 q1,ht]
 |ask hc=>
  refine⟨zkY (n:=1) (by ac_rfl) rfl (λp hp=>by simp at hp;rw[hp];exact hx _ hc) (λe=>absurd e (by decide +kernel)),big (by decide +kernel) (by simp) λp hp=>by simp at hp;rw[hp];exact tc hc⟩
 |@set c q hc q0 q1=>
  refine⟨?_,big (by decide +kernel) (by simp) λp hp=>by
   erw[AL,AZ,or_false]at hp;rcases hp with rfl|rfl
   .exact tc hc
   .exact ti _ _⟩
  have hk:yW (AE "set") yb=AA (.tp AC [yaC,.str ya1]):=by ac_rfl
  have ht:decide (AE "set"=yaa)=false:=by decide +kernel
  have hp:prS AC (.tup [yaC,c])=true:=by
   have:peq yaC (.str ya1)=false:=by rw[zai];decide +kernel
   erw[prS,opS,this,Ap,if_false];exact zjc (hx _ hc)
  simp[yae,hk,yac,hp,fig q0 q1,ht]
 |@times a b c d ha hb hc hd hn=>
  have hm:∀p∈[a,b,c,d],p∈xs:=λp hp=>by
   erw[AL,AZ,or_false]at hp;rcases hp with rfl|rfl|rfl|rfl<;>assumption
  exact⟨zkY (n:=4) (by ac_rfl) rfl (λp hp=>hx p (hm p hp)) (λ_=>by show (!peq a b)=AC;rw[hn];rfl),big (by decide +kernel) (by simp) λp hp=>tc (hm p hp)⟩
 |@one s a b hs ha hb=>
  have hm:∀p∈[a,b],p∈xs:=λp hp=>by
   erw[AL,AZ,or_false]at hp;rcases hp with rfl|rfl<;>assumption
  rcases hs with rfl|rfl|rfl|rfl<;>exact⟨zkY (n:=2) (by ac_rfl) rfl (λp hp=>hx p (hm p hp)) (λe=>absurd e (by decide +kernel)),big (by decide +kernel) (by simp) λp hp=>tc (hm p hp)⟩
 |@two s a b c hs ha hb hc=>
  have hm:∀p∈[a,b,c],p∈xs:=λp hp=>by
   erw[AL,AZ,or_false]at hp;rcases hp with rfl|rfl|rfl<;>assumption
  rcases hs with rfl|rfl|rfl|rfl|rfl<;>exact⟨zkY (n:=3) (by ac_rfl) rfl (λp hp=>hx p (hm p hp)) (λe=>absurd e (by decide +kernel)),big (by decide +kernel) (by simp) λp hp=>tc (hm p hp)⟩
def zii(k:Nat){s:AO}{x0 x1:PV}{xs:List PV}{q:Int}{p2:Option PV}{y0 y1 y2 y3:PV}{st:SO}{C:Nat}(hs:st[C]?=AA (.lst (x0::x1::xs)))(hx:∀x∈x0::x1::xs,ybM x)(hx2:two (x0::x1::xs))(hy:∀y∈[y0,y1,y2,y3],y∈x0::x1::xs)(q0:0<=q)(q1:q<2)
  (ts:tam 1 10 (.str s)=AC) (hk:s=AE "mark" \/ s=AE "ask" \/ s=AE "set" \/ s=AE "times" \/
  ((s≠AE "mark"/\s≠AE "ask"/\s≠AE "set"/\s≠AE "times")/\((s=AE "move" \/ s=AE "bare" \/ s=AE "twice" \/ s=AE "half")/\inL (.str s) four=AC \/ (s=AE "sum" \/ s=AE "less" \/ s=AE "both" \/ s=AE "any" \/ s=AE "odd")/\inL (.str s) four=AB))):
  ∃ps zs,Rww (x0::x1::xs) s ps/\exs (yc T (k+3)) [AA (.loc 0),AA (.loc C),p2,AA (.str s),AA (.int q),AA (.loc st.length)] (st++[.lst [y0,y1,y2,y3]]) srT=.rt (.tp AB (.str s::ps)) (st++[.lst zs]):=by
 have hg:∀z0 z1,(st++[Ob.lst [z0,z1,y2,y3]])[st.length]?=AA (.lst [z0,z1,y2,y3]):=λz0 z1=>by simp
 have i0:∀z0 z1,idxV (st++[Ob.lst [z0,z1,y2,y3]]) (.loc st.length) (.int 0)=AA z0:=λz0 z1=>by erw[idxV,hg];rfl
 have i1:∀z0 z1,idxV (st++[Ob.lst [z0,z1,y2,y3]]) (.loc st.length) (.int 1)=AA z1:=λz0 z1=>by erw[idxV,hg];rfl
 have i2:∀z0 z1,idxV (st++[Ob.lst [z0,z1,y2,y3]]) (.loc st.length) (.int 2)=AA y2:=λz0 z1=>by erw[idxV,hg];rfl
 have i3:∀z0 z1,idxV (st++[Ob.lst [z0,z1,y2,y3]]) (.loc st.length) (.int 3)=AA y3:=λz0 z1=>by erw[idxV,hg];rfl
 have hc:∀o,(st++[o])[C]?=AA (.lst (x0::x1::xs)):=λo=>by rw[AY (A2.1 hs).1];exact hs
 have j0:∀o,idxV (st++[o]) (.loc C) (.int 0)=AA x0:=λo=>by
  rw[zl9 (hc o)];have:ixI (x0::x1::xs).length 0=AA 0:=by simp[ixI];lia
  erw[idxV,yaG,at?,this];rfl
 have j1:∀o,idxV (st++[o]) (.loc C) (.int 1)=AA x1:=λo=>by
  rw[zl9 (hc o)];have:ixI (x0::x1::xs).length 1=AA 1:=by simp[ixI];lia
  erw[idxV,yaG,at?,this];rfl
 have em:=zfk ts ∅ (AE "mark") (by decide +kernel);have ea:=zfk ts ∅ (AE "ask") (by decide +kernel);have es:=zfk ts ∅ (AE "set") (by decide +kernel);have et:=zfk ts ∅ (AE "times") (by decide +kernel);rw[zai]at em ea es et;have m0:=hy y0 (by simp);have m1:=hy y1 (by simp);have m2:=hy y2 (by simp);have m3:=hy y3 (by simp)
 by_cases k1:s=AE "mark"
 .refine⟨[.int q],[y0,y1,y2,y3],k1 ▸ .mark q0 q1,?_⟩;rw[decide_eq_true k1]at em;rw[sS0];simp! [yt,em]
 rw[decide_eq_false k1]at em;have r0:exs (yc T (k+3)) [AA (.loc 0),AA (.loc C),p2,AA (.str s),AA (.int q),AA (.loc st.length)] (st++[.lst [y0,y1,y2,y3]]) srT=exs (yc T (k+3)) [AA (.loc 0),AA (.loc C),p2,AA (.str s),AA (.int q),AA (.loc st.length)] (st++[.lst [y0,y1,y2,y3]]) ydG:=by
  rw[sS0];simp! [yt,em]
 rw[r0]
 by_cases k2:s=AE "ask"
 .refine⟨[y0],[y0,y1,y2,y3],k2 ▸ .ask m0,?_⟩;rw[decide_eq_true k2]at ea;rw[sS1];simp! [yt,ea,i0]
 rw[decide_eq_false k2]at ea;have r1:exs (yc T (k+3)) [AA (.loc 0),AA (.loc C),p2,AA (.str s),AA (.int q),AA (.loc st.length)] (st++[.lst [y0,y1,y2,y3]]) ydG=exs (yc T (k+3)) [AA (.loc 0),AA (.loc C),p2,AA (.str s),AA (.int q),AA (.loc st.length)] (st++[.lst [y0,y1,y2,y3]]) yd3:=by
  rw[sS1];simp! [yt,ea]
 rw[r1]
 by_cases k3:s=AE "set"
 .refine⟨[y0,.int q],[y0,y1,y2,y3],k3 ▸ .set m0 q0 q1,?_⟩;rw[decide_eq_true k3]at es;rw[sS2];simp! [yt,es,i0]
 rw[decide_eq_false k3]at es;have r2:exs (yc T (k+3)) [AA (.loc 0),AA (.loc C),p2,AA (.str s),AA (.int q),AA (.loc st.length)] (st++[.lst [y0,y1,y2,y3]]) yd3=exs (yc T (k+3)) [AA (.loc 0),AA (.loc C),p2,AA (.str s),AA (.int q),AA (.loc st.length)] (st++[.lst [y0,y1,y2,y3]]) ydr:=by
  rw[sS2];simp! [yt,es]
 rw[r2]
 by_cases k4:s=AE "times"
 .rw[decide_eq_true k4]at et;have hq:yD .eq y0 y1=AA (.bl (peq y0 y1)):=by
   erw[yD];rw[if_pos (by rw[zbi (zd3 (hx _ m0)) ∅,zbi (zd3 (hx _ m1)) ∅];rfl)]
  cases e:peq y0 y1 with
  |false=>
   rw[e]at hq;refine⟨[y0,y1,y2,y3],[y0,y1,y2,y3],k4 ▸ .times m0 m1 m2 m3 e,?_⟩;rw[sS3];simp! [yt,et,i0,i1,i2,i3,hq]
  |true=>
   rw[e]at hq;refine⟨[x0,x1,y2,y3],[x0,x1,y2,y3],k4 ▸ .times (by simp) (by simp) m2 m3 (List.rel_of_pairwise_cons hx2 (by simp)),?_⟩;have s0:yaz (st++[Ob.lst [y0,y1,y2,y3]]) (.loc st.length) (.int 0) x0=AA (st++[.lst [x0,y1,y2,y3]]):=by
    erw[yaz,hg];rw[show ixI ([y0,y1,y2,y3]:List PV).length 0=AA 0 from rfl];simp
   have s1:yaz (st++[Ob.lst [x0,y1,y2,y3]]) (.loc st.length) (.int 1) x1=AA (st++[.lst [x0,x1,y2,y3]]):=by
    erw[yaz,hg];rw[show ixI ([x0,y1,y2,y3]:List PV).length 1=AA 1 from rfl];simp
   rw[sS3];simp! [yt,et,i0,i1,i2,i3,hq,zmb,j0,j1,s0,zix,s1,zbp]
 rw[decide_eq_false k4]at et;have r3:exs (yc T (k+3)) [AA (.loc 0),AA (.loc C),p2,AA (.str s),AA (.int q),AA (.loc st.length)] (st++[.lst [y0,y1,y2,y3]]) ydr=exs (yc T (k+3)) [AA (.loc 0),AA (.loc C),p2,AA (.str s),AA (.int q),AA (.loc st.length)] (st++[.lst [y0,y1,y2,y3]]) yfh:=by
  rw[sS3];simp! [yt,et]
 rw[r3,sS4];rcases hk with hk|hk|hk|hk|⟨_,hk⟩
 .exact absurd hk k1
 .exact absurd hk k2
 .exact absurd hk k3
 .exact absurd hk k4
 have hi:yD .isin (.str s) (.tp AB four)=AA (.bl (inL (.str s) four)):=rfl;rcases hk with⟨hk,e⟩|⟨hk,e⟩
 .rw[e]at hi;erw[four]at hi;refine⟨[y0,y1],[y0,y1,y2,y3],.one hk m0 m1,?_⟩;simp! [yt,hi,i0,i1]
 .rw[e]at hi;erw[four]at hi;refine⟨[y0,y1,y2],[y0,y1,y2,y3],.two hk m0 m1 m2,?_⟩;simp! [yt,hi,i0,i1,i2]
def ziN{ns:List Int}(hns:ns.length<=1000)(k:Nat){st:SO}(h:Drw ns 0 st){xs:List PV}{C:Nat}(hC:C≠0)(hs:st[C]?=AA (.lst xs))(hx:∀x∈xs,ybM x)(hx2:two xs)(hl:2<=xs.length)(hl2:xs.length<=30):
  ∃s ps s3 zs,Rww xs s ps/\Onl ns 0 st s3/\yc T (k+4) yit [.loc 0,.loc C] st=.ok (.tp AB (.str s::ps)) (s3++[.lst zs]):=by
 have hT:T yit=AA ⟨2,6,AB,yt.body⟩:=rfl;let⟨w,s1,w0,w1,o1,e1⟩:=zgG k hns (m:=13) ∅ ∅ h;let⟨x,hx',hi⟩:=zeD (k:=AB) (xs:=names13) w0 (show w<((13:Nat):Int)from w1);let⟨s,rfl,ts,hk⟩:=zfe x hx';let⟨q,s2,q0,q1,o2,e2⟩:=zgG k hns (m:=2) ∅ ∅ (o1.drw h);let⟨ys,s3,l3,t3,o3,e3⟩:=zoi hns k (xs:=xs) hC ∅ ∅ 4 0 s2 (o2.drw (o1.drw h)) (by rw[o2.get hC,o1.get hC];exact hs);obtain⟨x0,x1,xr,rfl⟩:∃x0 x1 xr,xs=x0::x1::xr:=by
  match xs,hl with
  |x0::x1::xr,_=>exact⟨x0,x1,xr,rfl⟩
 obtain⟨y0,y1,y2,y3,rfl⟩:∃y0 y1 y2 y3,ys=[y0,y1,y2,y3]:=by
  match ys,l3 with
  |[y0,y1,y2,y3],_=>exact⟨y0,y1,y2,y3,rfl⟩
 let⟨ps,zs,r4,e4⟩:=zii k (st:=s3) (p2:=AA (.tp AB names13)) (C:=C) (by rw[o3.get hC,o2.get hC,o1.get hC];exact hs) hx hx2 t3 q0 q1 ts hk;refine⟨s,ps,s3,zs,r4,(o1.trans o2).trans o3,?_⟩;have hr:ybk (.int 4)=AA (yr 4 0 1):=rfl;have hlr:ya5 (.ok [y0,y1,y2,y3] s3)=.ok (.lst [y0,y1,y2,y3]) s3:=z7 _ (by simp) _;have hth:ycK (.lst [y0,y1,y2,y3]) s3=.ok (.loc s3.length) (s3++[.lst [y0,y1,y2,y3]]):=rfl
 have hb:yt.body=(match yt.body with
  |.cons a (.cons b (.cons c (.cons (.asg t (.thw (.comp sl tg it c2 _))) _)))=>.cons a (.cons b (.cons c (.cons (.asg t (.thw (.comp sl tg it c2 someE))) srT)))
  |_=>.nil):=rfl
 rw[zq hT rfl rfl];dsimp only;rw[hb];erw[names13]at hi e4;simp! [yt,z5,Ab,e1,hi,e2,IC.ve30,hr,e3,hlr,hth,e4]
def trB:Css:=match yo.body with
 |.cons _ (.cons (.for _ _ b) _)=>b
 |_=>.nil
def trT:Css:=match yo.body with
 |.cons _ (.cons _ r)=>r
 |_=>.nil
def zex{ns:List Int}(hns:ns.length<=1000)(k:Nat){B:SO}{L:Nat}(hL:L≠0)(hB:B.length<=L):∀(N:Nat) (a:Int) (acc:List PV) (p2 p3:Option PV) (st:SO),(∀y∈acc,ybM y)->two acc->acc.length+N<=20->Frm ns B st->st[L]?=AA (.lst acc) ->
  ∃acc' q2 q3 st',(∀y∈acc',ybM y)/\two acc'/\acc'.length<=acc.length+N/\(0<acc.length+N->0<acc'.length)/\Frm ns B st'/\st'[L]?=AA (.lst acc') /\
   yar (yc T (k+4)) (.n 2) trB (yr N a 1) [AA (.loc 0),AA (.loc L),p2,p3] st=.nx [AA (.loc 0),AA (.loc L),q2,q3] st'
 |0,a,acc,p2,p3,st,h1,h2,h3,h,hs=>⟨acc,p2,p3,st,h1,h2,by lia,by lia,h,hs,by rw[yr,zI]⟩
 |N+1,a,acc,p2,p3,st,h1,h2,h3,h,hs=>by
  let⟨c,s1,c0,c1,o1,e1⟩:=zcx hns k h.dr;have g1:=o1.frm h;have hL1:L<st.length:=(A2.1 hs).1;have ln1:=o1.len;let⟨x,s2,hx,f2,e2⟩:=zbI hns k (Frm.refl g1.dr);have g2:=g1.trans f2;have hs2:s2[L]?=AA (.lst acc):=by rw[f2.get L hL ∅,o1.get hL];exact hs
  obtain⟨v,hv'⟩:∃v:PV,v=.tp AB [.str ⟨#[c]⟩,x]:=⟨_,rfl⟩;have hv:ybM v:=⟨c,x,c0,c1,hx,hv'⟩;have hn:ycc s2 v (.loc L)=AA (.bl (!inL v acc)):=by
   erw[ycc,ya2,hs2];rw[if_pos (by rw[zbi (zd3 hv) ∅,zk5 h1];rfl)]
  cases q:inL v acc with
  |true=>
   rw[q]at hn;let⟨acc',q2,q3,st',r1,r2,r3,r4,r5,r6,r7⟩:=zex hns k hL hB N (a+1) acc (AA (.int a)) (AA v) s2 h1 h2 ∅ g2 hs2;have:0<acc.length:=by
    cases acc with
    |nil=>simp[inL]at q
    |cons x r=>simp
   refine⟨acc',q2,q3,st',r1,r2,by lia,λ_=>r4 ∅,r5,r6,?_⟩;rw[hv']at hn;have hb:exs (yc T (k+4)) [AA (.loc 0),AA (.loc L),AA (.int a),p3] st trB=.nx [AA (.loc 0),AA (.loc L),AA (.int a),AA v] s2:=by
    rw[hv'];simp! [trB,yo,e1,e2,IC.ve31,hn,Ab]
   rw[yr,zp (ρ1:=[AA (.loc 0),AA (.loc L),AA (.int a),p3]) rfl,hb];exact r7
  |false=>
   rw[q]at hn;let⟨m1,m2⟩:=za7 (v:=v) hs2 ∅;let⟨acc',q2,q3,st',r1,r2,r3,r4,r5,r6,r7⟩:=zex hns k hL hB N (a+1) (acc++[v]) (AA (.int a)) (AA v) (s2.set L (.lst (acc++[v]))) (λy hy=>by
    rcases Ak.1 hy with hy|hy
    .exact h1 y hy
    .simp at hy;rw[hy];exact hv) (zfM h2 q) (by simp;lia) (g2.put hL hB _) (rdS hs2)
   rw[AM,CB]at r3 r4;refine⟨acc',q2,q3,st',r1,r2,by lia,λ_=>r4 ∅,r5,r6,?_⟩;have hb:exs (yc T (k+4)) [AA (.loc 0),AA (.loc L),AA (.int a),p3] st trB=.nx [AA (.loc 0),AA (.loc L),AA (.int a),AA v] (s2.set L (.lst (acc++[v]))):=by
    rw[hv']at hn m2 ⊢;simp! [trB,yo,e1,e2,IC.ve31,hn,m1,m2,Ab]
   rw[yr,zp (ρ1:=[AA (.loc 0),AA (.loc L),AA (.int a),p3]) rfl,hb];exact r7
def isR(v:PV):Prop:=yae AC v=AC/\tam 4 10 v=AC
def zjd{ns:List Int}(hns:ns.length<=1000)(k:Nat){B st:SO}(h:Frm ns B st){L:Nat}(hL:L≠0){xs:List PV}(hs:st[L]?=AA (.lst xs))(hx:∀x∈xs,ybM x)(hx2:two xs)(hl:2<=xs.length)(hl2:xs.length<=30):∃v st',isR v/\Frm ns B st'/\yc T (k+4) yit [.loc 0,.loc L] st=.ok v st':=by
 let⟨s,ps,s3,zs,r,o,e⟩:=ziN hns k h.dr hL hs hx hx2 hl hl2;exact⟨_,_,zmX r hx,(o.frm h).app _,e⟩
def zdK{ns:List Int}(hns:ns.length<=1000)(k:Nat){B st:SO}(h:Frm ns B st):∃v st',isR v/\Frm ns B st'/\yc T (k+5) yiw [.loc 0] st=.ok v st':=by
 have hT:T yiw=AA ⟨1,4,AB,yo.body⟩:=rfl;have pos:=h.pos;have hL:st.length≠0:=by lia
 have g0:=h.app (.lst []);let⟨n,s1,n0,n1,o1,e1⟩:=zbU (k+1) hns (m:=3) ∅ ∅ g0;have e1:yc T (k+4) ya [.loc 0,.int 3] (st++[.lst []])=_:=e1;have g1:=o1.frm g0;have hs1:s1[st.length]?=AA (.lst []):=by rw[o1.get ∅];simp
 let⟨n,rfl⟩:=zbJ n0;let⟨xs,q2,q3,s2,r1,r2,r3,r4,r5,r6,r7⟩:=zex hns k hL h.len (2+n) 0 [] AD AD s1 (by simp) Fe (by simp;lia) g1 hs1;have r4:=r4 ∅;erw[Av,BV]at r3;have hr:ybk (.int (2+(n:Int)))=AA (yr (2+n) 0 1):=by
  have:=zaY (2+n) ∅;rw[<-this];congr 2
 have hb:yo.body=(match yo.body with
  |.cons a (.cons (.for t i _) _)=>.cons a (.cons (.for t i trB) trT)
  |x=>x):=rfl
 have hlen:=ycd r6
 by_cases cz:xs.length=1
 .obtain⟨x,rfl⟩:∃x,xs=[x]:=by
   match xs,cz with
   |[x],_=>exact⟨x,rfl⟩
  let⟨c,x4,c0,c1,hx4,rfl⟩:=r1 x (by simp);have hx4':=hx4;let⟨a,b,d,e,rfl,b1,b2,b3,b4,b5,b6,b7,b8⟩:=hx4;have i0:idxV s2 (.loc st.length) (.int 0)=AA (.tp AB [.str ⟨#[c]⟩,.tp AB [.int a,.int b,.int d,.int e]]):=by erw[idxV,r6];rfl
  have hmod:yP .mod (.int a) (.int 90)=AA (.int (a%90)):=zhY ∅;obtain⟨v,hv⟩:∃v:PV,v=.tp AB [.str ⟨#[c]⟩,.tp AB [.int (a%90+1),.int 0,.int 0,.int 1]]:=⟨_,rfl⟩;have cv:ybM v:=⟨c,_,c0,c1,⟨a%90+1,0,0,1,rfl,by lia,by lia,by lia,by lia,by lia,by lia,by lia,by lia⟩,hv⟩;let⟨m1,m2⟩:=za7 (v:=v) r6 (by simp);let⟨w,s4,hw,g4,e4⟩:=zjd hns k (r5.put hL h.len (.lst ([.tp AB [.str ⟨#[c]⟩,.tp AB [.int a,.int b,.int d,.int e]]]++[v]))) hL (rdS r6) (λy hy=>by
   rcases Ak.1 hy with hy|hy
   .exact r1 y hy
   .simp at hy;rw[hy];exact cv) (zfM r2 (by
    rw[hv];have:(a==a%90+1)=false:=by simp;lia
    simp[inL,peq,ybi,this])) (by simp) (by simp)
  refine⟨w,s4,hw,g4,?_⟩;rw[zq hT rfl rfl];dsimp only;rw[hb];have hlen:yZ .len s2 [.loc st.length]=AA (.int 1):=hlen;rw[hv]at m2 e4;erw[BA,BD]at m2 e4;simp! [yo,z5,Ab,e1,hr,r7];simp! [trT,yo,z5,hlen,c_eq,beq_self_eq_true,m1,i0,ix0,ix1,hmod,m2,e4,Ab]
 .let⟨w,s4,hw,g4,e4⟩:=zjd hns k r5 hL r6 r1 r2 ∅ ∅;refine⟨w,s4,hw,g4,?_⟩;rw[zq hT rfl rfl];dsimp only;rw[hb];have hq2:((xs.length:Int)==1)=false:=by simp;lia
  simp! [yo,z5,Ab,e1,hr,r7];simp! [trT,yo,z5,hlen,hq2,e4]
structure Cx where
 l:Nat
 c:Int
 i:Int
 j:Int
 m:Int
deriving DecidableEq
inductive Op where
 |fig (d:Int)|cel (x:Cx)
deriving DecidableEq
structure Rs where
 nm:AO
 ops:List Op
deriving DecidableEq
inductive T2 where
 |row (r:Rs)|rounds (c m t:Int) (rs:List Rs)
deriving DecidableEq
inductive T1 where
 |row (r:Rs)|rounds (c m t:Int) (ps:List T2)
deriving DecidableEq
def Cx.at(x:Cx)(I J n:Int):Int:=x.c+x.i*I+x.j*J+x.m*n
def Op.pv(I J n:Int):Op->PV
 |.fig d=>.int d
 |.cel x=>yc1 x.l (x.at I J n)
def Rs.pv(r:Rs)(I J n:Int):PV:=.tup (.str r.nm::r.ops.map (Op.pv I J n))
def cnt(c m t w n:Int):Nat:=(c+m*n+t*w*n).toNat
def upTo{α:Type}(f:Nat->List α):Nat->List α
 |0=>[]
 |n+1=>upTo f n++f n
def T2.rows(w n:Int)(I:Nat):T2->List PV
 |.row r=>[r.pv I 0 n]
 |.rounds c m t rs=>upTo (λJ=>rs.map λr=>r.pv I J n) (cnt c m t w n)
def T2.rnd(w n:Int):T2->Nat
 |.row _=>0
 |.rounds c m t _=>cnt c m t w n
def yI(w n:Int)(I:Nat)(ps:List T2):List PV:=ps.flatMap (T2.rows w n I)
def yan(w n:Int)(ps:List T2):Nat:=(ps.map (T2.rnd w n)).sum
def T1.rows(w n:Int):T1->List PV
 |.row r=>[r.pv 0 0 n]
 |.rounds c m t ps=>upTo (λI=>yI w n I ps) (cnt c m t w n)
def T1.rnd(w n:Int):T1->Nat
 |.row _=>0
 |.rounds c m t ps=>cnt c m t w n*(1+yan w n ps)
def yE(w n:Int)(ps:List T1):List PV:=ps.flatMap (T1.rows w n)
def yaJ(w n:Int)(ps:List T1):Nat:=(ps.map (T1.rnd w n)).sum
def sm(i:Int):Bool:=decide (i.natAbs<=200)
def intOf:PV->Option Int
 |.int i=>AA i
 |_=>AD
def strOf:PV->Option AO
 |.str s=>AA s
 |_=>AD
def ycJ:PV->Option (Bool×List PV)
 |.tp k l=>AA (k,l)
 |_=>AD
def ydq:List PV->Option (PV×PV×PV×PV)
 |[a,b,c,d]=>AA (a,b,c,d)
 |_=>AD
def ydS(l:List PV):Option (Int×Int×Int×Int):=(ydq l).bind λp=>(intOf p.1).bind λi=>(intOf p.2.1).bind λj=>(intOf p.2.2.1).bind λk=>(intOf p.2.2.2).bind λm=>AA (i,j,k,m)
def ye3(l:List PV):Option (Int×Int×Int):=(ydS (l++[.int 0])).bind λz=>AA (z.1,z.2.1,z.2.2.1)
def opC(x y:PV):Option Op:=(strOf x).bind λs=>(ycJ y).bind λq=>(ydS q.2).bind λz=>if s=chS (s.cps.getD 0 0)/\(sm z.1&&sm z.2.1&&sm z.2.2.1&&sm z.2.2.2)=AC then AA (.cel ⟨s.cps.getD 0 0,z.1,z.2.1,z.2.2.1,z.2.2.2⟩)else AD
def yeU:List PV->Option (PV×PV)
 |[a,b]=>AA (a,b)
 |_=>AD
def ycO(v:PV):Option Op:=match intOf v with
 |some d=>AA (.fig d)
 |none=>(ycJ v).bind λp=>(yeU p.2).bind λq=>opC q.1 q.2
def yaK:List PV->Option (List Op)
 |[]=>AA []
 |v::vs=>match ycO v,yaK vs with
  |some a,AA b=>AA (a::b)
  |_,_=>AD
def rowOf:PV->Option Rs
 |.tp _ (.str nm::vs)=>match yaK vs with
  |some ops=>if vs.length<100 then AA ⟨nm,ops⟩else AD
  |none=>AD
 |_=>AD
def ycU(s:AO):Bool:=decide (s=AE "row")
def ybK:PV->Option Rs
 |.tp _ [.str s,v]=>if ycU s then rowOf v else AD
 |_=>AD
def deepOf:List PV->Option (List Rs)
 |[]=>AA []
 |v::vs=>match ybK v,deepOf vs with
  |some a,AA b=>AA (a::b)
  |_,_=>AD
def yb8(s:AO):Bool:=decide (s=AE "rounds")
def ycy(v:PV):Option (Int×Int×Int×List PV):=(ycJ v).bind λp=>(ydq p.2).bind λq=>(strOf q.1).bind λs=>(ycJ q.2.1).bind λy=>(ye3 y.2).bind λc=>(ycJ q.2.2.2).bind λu=>if (yb8 s&&(sm c.1&&sm c.2.1&&sm c.2.2))=AC then AA (c.1,c.2.1,c.2.2,u.2)else AD
def part2(v:PV):Option T2:=match ycy v with
 |some z=>(deepOf z.2.2.2).map (.rounds z.1 z.2.1 z.2.2.1)
 |none=>(ybK v).map .row
def yah:List PV->Option (List T2)
 |[]=>AA []
 |v::vs=>match part2 v,yah vs with
  |some a,AA b=>AA (a::b)
  |_,_=>AD
def part1(v:PV):Option T1:=match ycy v with
 |some z=>(yah z.2.2.2).map (.rounds z.1 z.2.1 z.2.2.1)
 |none=>(ybK v).map .row
def yaj:List PV->Option (List T1)
 |[]=>AA []
 |v::vs=>match part1 v,yaj vs with
  |some a,AA b=>AA (a::b)
  |_,_=>AD
theorem bnd{α β:Type}{o:Option α}{f:α->Option β}{b:β}(h:o.bind f=AA b):∃a,o=AA a/\f a=AA b:=by
 cases o with
 |none=>exact nomatch h
 |some a=>exact⟨a,rfl,h⟩
theorem mpd{α β:Type}{o:Option α}{f:α->β}{b:β}(h:o.map f=AA b):∃a,o=AA a/\b=f a:=by
 cases o with
 |none=>exact nomatch h
 |some a=>have h:AA (f a)=AA b:=h;cases h;exact⟨a,rfl,rfl⟩
def zbz{v:PV}{i:Int}(h:intOf v=AA i):v=.int i:=by
 cases v with
 |int j=>have h:AA j=AA i:=h;cases h;rfl
 |_=>exact nomatch (show AD=AA i from h)
def zfb{v:PV}{i:AO}(h:strOf v=AA i):v=.str i:=by
 cases v with
 |str j=>have h:AA j=AA i:=h;cases h;rfl
 |_=>exact nomatch (show AD=AA i from h)
def zce{v:PV}{p:Bool×List PV}(h:ycJ v=AA p):v=.tp p.1 p.2:=by
 cases v with
 |tp k l=>have h:AA (k,l)=AA p:=h;cases h;rfl
 |_=>exact nomatch (show AD=AA p from h)
def zfV{l:List PV}{p:PV×PV×PV×PV}(h:ydq l=AA p):l=[p.1,p.2.1,p.2.2.1,p.2.2.2]:=by
 rcases l with _|⟨a,_|⟨b,_|⟨c,_|⟨d,_|⟨e,l⟩⟩⟩⟩⟩
 case cons.cons.cons.cons.nil=>have h:AA (a,b,c,d)=AA p:=h;cases h;rfl
 all_goals exact nomatch (show AD=AA p from h)
def zjF{l:List PV}{p:PV×PV}(h:yeU l=AA p):l=[p.1,p.2]:=by
 rcases l with _|⟨a,_|⟨b,_|⟨c,l⟩⟩⟩
 case cons.cons.nil=>have h:AA (a,b)=AA p:=h;cases h;rfl
 all_goals exact nomatch (show AD=AA p from h)
def zf9{l:List PV}{z:Int×Int×Int×Int}(h:ydS l=AA z):l=[.int z.1,.int z.2.1,.int z.2.2.1,.int z.2.2.2]:=by
 let⟨p,e,h⟩:=bnd h;let⟨i,e1,h⟩:=bnd h;let⟨j,e2,h⟩:=bnd h;let⟨k,e3,h⟩:=bnd h;let⟨m,e4,h⟩:=bnd h;have h:AA (i,j,k,m)=AA z:=h
 cases h
 rw[zfV e,zbz e1,zbz e2,zbz e3,zbz e4]
def zla{l:List PV}{z:Int×Int×Int}(h:ye3 l=AA z):l=[.int z.1,.int z.2.1,.int z.2.2]:=by
 let⟨p,e,h⟩:=bnd h;have e:=zf9 e;have h:AA (p.1,p.2.1,p.2.2.1)=AA z:=h
 cases h
 have e:l++[.int 0]=[.int p.1,.int p.2.1,.int p.2.2.1]++[.int p.2.2.2]:=e;exact(List.append_inj' e rfl).1
def zd7{v:PV}{o:Op}(h:ycO v=AA o):(∃d,o=.fig d/\v=.int d) \/ ∃a b x,o=.cel x/\v=.tp a [.str (chS x.l),.tp b [.int x.c,.int x.i,.int x.j,.int x.m]]/\x.i.natAbs<=200/\x.j.natAbs<=200/\x.m.natAbs<=200:=by
 unfold ycO at h
 cases e:intOf v with
 |some d=>rw[e]at h;have h:AA (Op.fig d)=AA o:=h;cases h;exact .inl ⟨d,rfl,zbz e⟩
 |none=>
  rw[e]at h;let⟨p,e1,h⟩:=bnd h;let⟨q,e2,h⟩:=bnd h;let⟨s,e3,h⟩:=bnd h;let⟨y,e4,h⟩:=bnd h;let⟨z,e5,h⟩:=bnd h
  by_cases c:s=chS (s.cps.getD 0 0)/\(sm z.1&&sm z.2.1&&sm z.2.2.1&&sm z.2.2.2)=AC
  .rw[if_pos c]at h;have q2:=c.2;erw[sm,AG,decide_eq_true_eq]at q2
   cases h
   refine .inr ⟨p.1,y.1,_,rfl,?_,q2.1.1.2,q2.1.2,q2.2⟩;rw[zce e1,zjF e2,zfb e3,zce e4,zf9 e5];simp only;rw[<-c.1]
  .rw[if_neg c]at h;cases h
def zg7{v:PV}{z:Int×Int×Int×List PV}(h:ycy v=AA z):∃a b sn d,v=.tp a [.str "rounds",.tp b [.int z.1,.int z.2.1,.int z.2.2.1],sn,.tp d z.2.2.2]/\z.1.natAbs<=200/\z.2.1.natAbs<=200/\z.2.2.1.natAbs<=200:=by
 let⟨p,e1,h⟩:=bnd h;let⟨q,e2,h⟩:=bnd h;let⟨s,e3,h⟩:=bnd h;let⟨y,e4,h⟩:=bnd h;let⟨c,e5,h⟩:=bnd h;let⟨u,e6,h⟩:=bnd h
 by_cases k:(yb8 s&&(sm c.1&&sm c.2.1&&sm c.2.2))=AC
 .rw[if_pos k]at h;erw[yb8,sm,AG,decide_eq_true_eq]at k
  cases h
  refine⟨p.1,y.1,q.2.2.1,u.1,?_,k.2.1.1,k.2.1.2,k.2.2⟩;rw[zce e1,zfV e2,zfb e3,zce e4,zla e5,zce e6,k.1]
 .rw[if_neg k]at h;cases h
def zbZ{v:PV}{r:Rs}(h:rowOf v=AA r):∃a vs,v=.tp a (.str r.nm::vs)/\yaK vs=AA r.ops/\vs.length<100:=by
 unfold rowOf at h;split at h
 .rename_i a nm vs;split at h
  .rename_i ops q;split at h
   .rename_i z
    cases h;exact⟨a,vs,rfl,q,z⟩
   .cases h
  .cases h
 .cases h
def zcC{v:PV}{r:Rs}(h:ybK v=AA r):∃a v1,v=.tp a [.str "row",v1]/\rowOf v1=AA r:=by
 unfold ybK at h;split at h
 .rename_i a s v1;split at h
  .rename_i q;have q:s=AE "row":=by simpa [ycU] using q
   exact⟨a,v1,by rw[q],h⟩
  .cases h
 .cases h
def zde{v:PV}{p:T2}(h:part2 v=AA p):(∃r,p=.row r/\ybK v=AA r) \/ ∃a b sn d vs c m t rs,p=.rounds c m t rs/\v=.tp a [.str "rounds",.tp b [.int c,.int m,.int t],sn,.tp d vs]/\deepOf vs=AA rs/\c.natAbs<=200/\m.natAbs<=200/\t.natAbs<=200:=by
 unfold part2 at h
 cases e:ycy v with
 |some z=>
  rw[e]at h;let⟨a,b,sn,d,hv,hc,hm,ht⟩:=zg7 e;let⟨rs,e2,hp⟩:=mpd (f:=T2.rounds z.1 z.2.1 z.2.2.1) (o:=deepOf z.2.2.2) h;exact .inr ⟨a,b,sn,d,_,_,_,_,rs,hp,hv,e2,hc,hm,ht⟩
 |none=>
  rw[e]at h;let⟨r,e2,hp⟩:=mpd (f:=T2.row) (o:=ybK v) h;exact .inl ⟨r,hp,e2⟩
def zc2{v:PV}{p:T1}(h:part1 v=AA p):(∃r,p=.row r/\ybK v=AA r) \/ ∃a b sn d vs c m t ps,p=.rounds c m t ps/\v=.tp a [.str "rounds",.tp b [.int c,.int m,.int t],sn,.tp d vs]/\yah vs=AA ps/\c.natAbs<=200/\m.natAbs<=200/\t.natAbs<=200:=by
 unfold part1 at h
 cases e:ycy v with
 |some z=>
  rw[e]at h;let⟨a,b,sn,d,hv,hc,hm,ht⟩:=zg7 e;let⟨rs,e2,hp⟩:=mpd (f:=T1.rounds z.1 z.2.1 z.2.2.1) (o:=yah z.2.2.2) h;exact .inr ⟨a,b,sn,d,_,_,_,_,rs,hp,hv,e2,hc,hm,ht⟩
 |none=>
  rw[e]at h;let⟨r,e2,hp⟩:=mpd (f:=T1.row) (o:=ybK v) h;exact .inl ⟨r,hp,e2⟩
abbrev cU:Nat:=20
abbrev sw:Str:=AE "w"
abbrev sn:Str:=AE "n"
abbrev sst:Str:=AE "steps"
abbrev srw:Str:=AE "rows"
abbrev srd:Str:=AE "rounds"
abbrev ufs(w n:Int)(l:Nat)(r q:Int):List (AO×PV):=[(sw,.int w),(sn,.int n),(sst,.loc l),(srw,.int r),(srd,.int q)]
def uob(w n:Int)(l:Nat)(r q:Int):Ob:=.ins cU (ufs w n l r q)
structure UM(st:SO)(u l:Nat)(w n r q:Int)(xs:List PV):Prop where
 o:st[u]?=AA (uob w n l r q)
 d:st[l]?=AA (.lst xs)
 ne:u≠l
section
variable {st:SO}{u l:Nat}{w n r q:Int}{xs:List PV}
theorem UM.fw(h:UM st u l w n r q xs):ybq cU st (.loc u) sw=AA (.int w):=by erw[ybq,h.o,uob,if_true];ac_rfl
theorem UM.fn(h:UM st u l w n r q xs):ybq cU st (.loc u) sn=AA (.int n):=by erw[ybq,h.o,uob,if_true];ac_rfl
theorem UM.fs(h:UM st u l w n r q xs):ybq cU st (.loc u) sst=AA (.loc l):=by erw[ybq,h.o,uob,if_true];ac_rfl
theorem UM.fr(h:UM st u l w n r q xs):ybq cU st (.loc u) srw=AA (.int r):=by erw[ybq,h.o,uob,if_true];ac_rfl
theorem UM.fq(h:UM st u l w n r q xs):ybq cU st (.loc u) srd=AA (.int q):=by erw[ybq,h.o,uob,if_true];ac_rfl
theorem UM.sr(h:UM st u l w n r q xs)(v:Int):ybZ cU st (.loc u) srw (.int v)=AA (st.set u (uob w n l v q))/\UM (st.set u (uob w n l v q)) u l w n v q xs:=by
 refine⟨?_,rdS h.o,by rw[A3 h.ne];exact h.d,h.ne⟩;erw[ybZ,h.o,uob];rw[if_pos ⟨trivial,by simp⟩,show ycg srw (.int v) (ufs w n l r q)=ufs w n l v q by ac_rfl]
theorem UM.sq(h:UM st u l w n r q xs)(v:Int):ybZ cU st (.loc u) srd (.int v)=AA (st.set u (uob w n l r v))/\UM (st.set u (uob w n l r v)) u l w n r v xs:=by
 refine⟨?_,rdS h.o,by rw[A3 h.ne];exact h.d,h.ne⟩;erw[ybZ,h.o,uob];rw[if_pos ⟨trivial,by simp⟩,show ycg srd (.int v) (ufs w n l r q)=ufs w n l r v by ac_rfl]
theorem UM.ap(h:UM st u l w n r q xs)(hx:xs.length<1000000)(v:PV):ya4 .append st (.loc l) [v]=.ok .non (st.set l (.lst (xs++[v])))/\UM (st.set l (.lst (xs++[v]))) u l w n r q (xs++[v]):=by
 refine⟨?_,by rw[A3 (BP h.ne)];exact h.o,rdS h.d,h.ne⟩;unfold ya4;erw[ydf,h.d];rw[if_pos hx]
theorem UM.ok(h:UM st u l w n r q xs):yao .append st (.loc l)=AA true:=by simp[yao,yL,h.d]
theorem UM.ins(h:UM st u l w n r q xs)(x:AO)(hx:((ufs 0 0 0 0 0).lookup x).isNone=true:=by decide +kernel):yco cU x st (.loc u)=AA true:=by
 have e:(ufs w n l r q).lookup x=none:=by
  erw[ufs,Bs]at hx ⊢
  cases h1:x==sw<;>rw[h1]at hx<;>simp only at hx ⊢<;>try cases hx
  cases h2:x==sn<;>rw[h2]at hx<;>simp only at hx ⊢<;>try cases hx
  cases h3:x==sst<;>rw[h3]at hx<;>simp only at hx ⊢<;>try cases hx
  cases h4:x==srw<;>rw[h4]at hx<;>simp only at hx ⊢<;>try cases hx
  cases h5:x==srd<;>rw[h5]at hx<;>simp only at hx ⊢<;>try cases hx
 erw[yco,h.o,uob];rw[if_pos ⟨trivial,e⟩]
def zgs(k:Nat)(h:UM st u l w n r q xs)(hq:q+1<=4000):∃s,yc T (k+1) yil [.loc u] st=.ok .non s/\UM s u l w n r (q+1) xs:=by
 have hT:T yil=AA yhX:=rfl;let⟨d,h2⟩:=h.sq (q+1);have c:decide (q+1 > 4000)=false:=decide_eq_false ∅;have vM:yiy=.int 4000:=rfl;refine⟨_,?_,h2⟩;rw[zq hT rfl rfl];have f1:=h.fq;have f2:=h2.fq;simp! [yhX,f1,zjP,d,zbp,f2,vM,c,IC.ve32,z5];rfl
def zcb(k:Nat):∀(G:List Int),G.length<=2->∀s:SO,yc T (k+1) yia [.tp AB (G.map .int)] s=.ok (.tp AB [.int (G.headD 0),.int (G.tail.headD 0)]) s
 |[],_,s=>by
  have hT:T yia=AA yg2:=rfl;rw[zd hT rfl rfl rfl];rfl
 |[a],_,s=>by
  have hT:T yia=AA yg2:=rfl;rw[zd hT rfl rfl rfl];rfl
 |[a,b],_,s=>by
  have hT:T yia=AA yg2:=rfl;rw[zd hT rfl rfl rfl];rfl
def zho(k:Nat)(h:UM st u l w n r q xs)(hx:xs.length<1000000)(sen:PV)(G:List Int)(hG:G.length<=2):∃s,yc T (k+2) yim [.loc u,sen,.tp AB (G.map .int)] st=.ok .non s/\UM s u l w n r q (xs++[.tp AB [.str "asked",sen,.int (G.headD 0),.int (G.tail.headD 0)]]):=by
 have hT:T yim=AA yhY:=rfl;have e1:=zcb k G hG st;let⟨a,h2⟩:=h.ap hx (.tp AB [.str "asked",sen,.int (G.headD 0),.int (G.tail.headD 0)]);have bt:∀(i j:Nat) (a b:PV) (ρ:IC.Env),yU (.t [i,j]) (.tp AB [a,b]) ρ=AA ((ρ.set i (AA a)).set j (AA b)):=λ_ _ _ _ _=>rfl;refine⟨_,?_,h2⟩;rw[zq hT rfl rfl];have f1:=h.fs;have o:=h.ok;generalize PV.tp AB (G.map .int)=gv at *;simp! [yhY,e1,bt,f1,o,a,IC.ve32,z5];rfl
def zit(k:Nat)(h:UM st u l w n r q xs)(bb:Bool)(c m t:Int)(b1:yP .mul (.int m) (.int n)=AA (.int (m*n)))(b2:yP .mul (.int t) (.int w)=AA (.int (t*w)))(b3:yP .mul (.int (t*w)) (.int n)=AA (.int (t*w*n))):
  yc T (k+1) yik [.loc u,.tp bb [.int c,.int m,.int t]] st=.ok (.int (c+m*n+t*w*n)) st:=by
 have hT:T yik=AA y9:=rfl;have bt:∀(i j k:Nat) (a b c:PV) (ρ:IC.Env),yU (.t [i,j,k]) (.tp bb [a,b,c]) ρ=AA (((ρ.set i (AA a)).set j (AA b)).set k (AA c)):=λ_ _ _ _ _ _ _=>rfl;rw[zq hT rfl rfl];have f1:=h.fw;have f2:=h.fn;simp! [y9,bt,f1,f2,b1,b2,b3,IC.ve32,z5]
def ziY(k:Nat){b:Bool}{c i j m I J n:Int}(hi:i.natAbs<=200)(hj:j.natAbs<=200)(hm:m.natAbs<=200)(s:SO):yc T (k+1) yiK [.tp b [.int c,.int i,.int j,.int m],.int n,.int I,.int J] s=.ok (.int (c+i*I+j*J+m*n)) s:=by
 have hT:T yiK=AA yhW:=rfl;have h1:i.natAbs<18446744073709551616:=by lia
 have h2:j.natAbs<18446744073709551616:=by lia
 have h3:m.natAbs<18446744073709551616:=by lia
 have j2:∀st,idxV st (.tp b [.int c,.int i,.int j,.int m]) (.int 2)=AA (.int j):=λ_=>rfl;have j3:∀st,idxV st (.tp b [.int c,.int i,.int j,.int m]) (.int 3)=AA (.int m):=λ_=>rfl;rw[zd hT rfl rfl rfl];simp! [yhW,ix0,ix1,j2,j3,zaz h1,zaz h2,zaz h3];rfl
theorem placed(k:Nat){v:PV}{o:Op}(h:ycO v=AA o)(I J n:Int)(s:SO):yc T (k+2) ydI [v,.int n,.int I,.int J] s=.ok (o.pv I J n) s:=by
 have hT:T ydI=AA ydc:=rfl;rcases zd7 h with⟨d,rfl,rfl⟩|⟨f1,f2,x,rfl,rfl,q1,q2,q3⟩
 .rw[zd hT rfl rfl rfl];have hi:yG (.int d) [.tuple]=AA (.bl AB):=rfl;simp! [ydc,hi];rfl
 .have hi:yG (.tp f1 [.str (chS x.l),.tp f2 [.int x.c,.int x.i,.int x.j,.int x.m]]) [.tuple]=AA (.bl AC):=rfl;have e:=λs=>ziY k (b:=f2) (c:=x.c) (I:=I) (J:=J) (n:=n) q1 q2 q3 s;rw[zd hT rfl rfl rfl];simp! [ydc,hi,ix0,ix1,e];rfl
def zcY(k:Nat)(x:AO)(I J n:Int)(s:SO):yc T (k+2) ydI [.str x,.int n,.int I,.int J] s=.ok (.str x) s:=by
 have hT:T ydI=AA ydc:=rfl;rw[zd hT rfl rfl rfl];have hi:yG (.str x) [.tuple]=AA (.bl AB):=rfl;simp! [ydc,hi];rfl
def arC:Ce:=.call ydI (.cons (.var 0) (.cons (.fld cU (.var 3) sn) (.cons (.var 1) (.cons (.var 2) .nil))))
def zdf(k:Nat)(h:UM st u l w n r q xs)(I J:Int):∀(vs:List PV) (ops:List Op),yaK vs=AA ops->yV (yc T (k+2)) [AD,AA (.int I),AA (.int J),AA (.loc u)] (.n 0) (.cst (.bl AC)) arC vs st=.ok (ops.map (Op.pv I J n)) st
 |[],ops,e=>by cases e;exact zag
 |v::vs,ops,e=>by
  unfold yaK at e;split at e
  .rename_i a b ha hb
   cases e
   have hp:=placed k ha I J n st;have f1:=h.fn;have ih:=zdf k h I J vs b hb;have one:yaA (yc T (k+2)) [AD,AA (.int I),AA (.int J),AA (.loc u)] (.n 0) (.cst (.bl AC)) arC v st=.ok (AA (a.pv I J n)) st:=by
    simp! [yaA,arC,f1,hp,IC.ve32]
   rw[zH,one,bd_ok,ih,bd_ok];rfl
  .cases e
def zc3:∀{vs:List PV} {ops:List Op},yaK vs=AA ops->ops.length=vs.length
 |[],ops,e=>by cases e;rfl
 |v::vs,ops,e=>by
  unfold yaK at e;split at e
  .rename_i a b ha hb
   cases e
   rw[AW,AW,zc3 hb]
  .cases e
def zkP(k:Nat)(h:UM st u l w n r q xs)(hx:xs.length<1000000)(hr:r+1<=4000){v:PV}{rs:Rs}(hv:rowOf v=AA rs)(G:List Int)(hG:G.length<=2)
  (hrow:∀s,yc T (k+2) yf [rs.pv (G.headD 0) (G.tail.headD 0) n] s=.ok (.bl AC) s):
  ∃s,yc T (k+3) yh8 [.loc u,v,.tp AB (G.map .int)] st=.ok .non s/\UM s u l w n (r+1) q (xs++[.tp AB [.str "row",rs.pv (G.headD 0) (G.tail.headD 0) n]]):=by
 have hT:T yh8=AA y6:=rfl;let⟨a,vs,rfl,ho,hl⟩:=zbZ hv;have e1:=zcb (k+1) G hG st;generalize G.headD 0=I,G.tail.headD 0=J at *;have hl2:=zc3 ho;have e2:yV (yc T (k+2)) [AD,AA (.int I),AA (.int J),AA (.loc u)] (.n 0) (.cst (.bl AC)) arC (.str rs.nm::vs) st=.ok (.str rs.nm::rs.ops.map (Op.pv I J n)) st:=by
  have hp:=zcY k rs.nm I J n st;have f1:=h.fn;have one:yaA (yc T (k+2)) [AD,AA (.int I),AA (.int J),AA (.loc u)] (.n 0) (.cst (.bl AC)) arC (.str rs.nm) st=.ok (AA (.str rs.nm)) st:=by
   simp! [yaA,arC,f1,hp,IC.ve32]
  rw[zH,one,bd_ok,zdf k h I J vs rs.ops ho,bd_ok];rfl
 have e2:yV (yc T (k+2)) [AD,AA (.int I),AA (.int J),AA (.loc u)] (.n 0) (.cst (.bl AC)) (.call ydI (.cons (.var 0) (.cons (.fld cU (.var 3) sn) (.cons (.var 1) (.cons (.var 2) .nil))))) (.str rs.nm::vs) st=_:=e2;let⟨d,h2⟩:=h.sr (r+1);have ht:∀st,yZ .tuple st [.lst (.str rs.nm::rs.ops.map (Op.pv I J n))]=AA (rs.pv I J n):=λ_=>rfl;let⟨b,h3⟩:=h2.ap hx (.tp AB [.str "row",rs.pv I J n]);have bt:∀(i j:Nat) (a b:PV) (ρ:IC.Env),yU (.t [i,j]) (.tp AB [a,b]) ρ=AA ((ρ.set i (AA a)).set j (AA b)):=λ_ _ _ _ _=>rfl;have c:decide (r+1 > 4000)=false:=decide_eq_false ∅;have vM:yiz=.int 4000:=rfl;have f1:=h.fr;have f2:=h2.fr;have f3:=h2.fs;have o:=h2.ok;have lr:=λst=>z7 (.str rs.nm::rs.ops.map (Op.pv I J n)) (by simp[hl2];lia) st;refine⟨_,?_,h3⟩;rw[zq hT rfl rfl];generalize PV.tp AB (G.map .int)=gv,PV.str rs.nm::rs.ops.map (Op.pv I J n)=row,rs.pv I J n=rowv at *;simp! [y6,e1,bt,e2,lr,ht,f1,zjP,d,zbp,hrow,f2,vM,c,f3,o,b,IC.ve32,z5];rfl
end
inductive StR:List PV->List PV->Prop
 |nil:StR [] []
 |row {xs rs v}:nL v=AC->StR xs rs->StR (xs++[.tp AB [.str "row",v]]) (rs++[v])
 |ask {xs rs a b c}:nLs [a,b,c]=AC->StR xs rs->StR (xs++[.tp AB [.str "asked",a,b,c]]) rs
def US(st:SO)(u l:Nat)(w n:Int)(R:List PV)(q:Int)(a:Nat):Prop:=∃xs,UM st u l w n R.length q xs/\StR xs R/\xs.length<=R.length+a
section
variable {st:SO}{u l:Nat}{w n q:Int}{R:List PV}{a:Nat}
def gpB:Css:=match ye.body with
 |.cons (.for _ _ b) _=>b
 |x=>x
def zaF:yD .eq (.str "row") (.str "row")=AA (.bl AC):=by ac_rfl
def zaW:yD .eq (.str "rounds") (.str "row")=AA (.bl AB):=by ac_rfl
def zis(I J n:Int)(o:Op):nL (o.pv I J n)=true:=by cases o<;>rfl
def zcd(I J n:Int):∀ops:List Op,nLs (ops.map (Op.pv I J n))=AC
 |[]=>rfl
 |o::os=>by rw[AX,nLs,zis,zcd I J n os];rfl
def zbt(r:Rs)(I J n:Int):nL (r.pv I J n)=true:=by
 show nLs (PV.str r.nm::r.ops.map (Op.pv I J n))=AC;rw[nLs,zcd];rfl
def zeG(k:Nat)(H:US st u l w n R q a)(hR:R.length+1<=4000)(ha:a<=500000){v:PV}{r:Rs}(hv:ybK v=AA r)(G:List Int)(hG:G.length<=2)
  (hrow:∀s,yc T (k+2) yf [r.pv (G.headD 0) (G.tail.headD 0) n] s=.ok (.bl AC) s) (p1:Option PV):
  ∃s,exs (yc T (k+3)) [AA (.loc u),p1,AA (.tp AB (G.map .int)),AA v] st gpB=.nx [AA (.loc u),p1,AA (.tp AB (G.map .int)),AA v] s/\US s u l w n (R++[r.pv (G.headD 0) (G.tail.headD 0) n]) q a:=by
 let⟨xs,h,hs,hx⟩:=H;let⟨b,v1,rfl,h1⟩:=zcC hv;let⟨s,e,h2⟩:=zkP k h ∅ ∅ h1 G hG hrow;have ih:=h.ins (AE "add_row");refine⟨s,?_,_,?_,.row (zbt _ _ _ _) hs,by simp;lia⟩
 .generalize PV.tp AB (G.map .int)=gv at *;simp! [gpB,ye,ix0,ix1,zaF,ih,e,IC.ve37]
 .rw[AM,CB];exact h2
def zgv(k:Nat)(I J:Int)(p1:Option PV)(ha:a<=500000):∀(vs:List PV) (rs:List Rs) (st:SO) (R:List PV) (p3:Option PV),deepOf vs=AA rs->US st u l w n R q a->R.length+rs.length<=4000 ->
  (∀r∈rs,∀s,yc T (k+2) yf [r.pv I J n] s=.ok (.bl AC) s) ->
  ∃s p3',yar (yc T (k+3)) (.n 3) gpB vs [AA (.loc u),p1,AA (.tp AB [.int I,.int J]),p3] st=.nx [AA (.loc u),p1,AA (.tp AB [.int I,.int J]),p3'] s/\US s u l w n (R++rs.map λr=>r.pv I J n) q a
 |[],rs,st,R,p3,hd,H,_,_=>by
  cases hd
  exact⟨st,p3,zI,by simpa using H⟩
 |v::vs,rs,st,R,p3,hd,H,hl,hrow=>by
  unfold deepOf at hd;split at hd
  .rename_i x y hx hy
   cases hd
   erw[AW]at hl;let⟨s1,e1,H1⟩:=zeG k H ∅ ha hx [I,J] (by simp) (hrow x (by simp)) p1;have e1:exs (yc T (k+3)) [AA (.loc u),p1,AA (.tp AB [.int I,.int J]),AA v] st gpB=.nx [AA (.loc u),p1,AA (.tp AB [.int I,.int J]),AA v] s1:=e1;let⟨s2,p3',e2,H2⟩:=zgv k I J p1 ha vs y s1 _ (AA v) hy H1 (by simp;lia) (λr hr=>hrow r (by simp[hr]));refine⟨s2,p3',?_,by simpa using H2⟩;rw[zp (ρ1:=[AA (.loc u),p1,AA (.tp AB [.int I,.int J]),AA v]) rfl,e1];exact e2
  .cases hd
def zcu{α:Type}(f:Nat->List α){i:Nat}:∀n,i<=n->(upTo f i).length<=(upTo f n).length
 |0,h=>by
  rw[show i=0 by lia];exact AS _
 |n+1,h=>by
  rcases E7 i (n+1)with h1|h1
  .have:=zcu f (i:=i) n ∅;rw[upTo,AM];lia
  .have:i=n+1:=by lia
   rw[this];exact AS _
theorem US.ask(H:US st u l w n R q a)(k:Nat)(ha:a+1<=500000)(hR:R.length<=4000)(sen:PV)(hsn:nL sen=AC)(G:List Int)(hG:G.length<=2):∃s,yc T (k+2) yim [.loc u,sen,.tp AB (G.map .int)] st=.ok .non s/\US s u l w n R q (a+1):=by
 let⟨xs,h,hs,hx⟩:=H;let⟨s,e,h2⟩:=zho k h ∅ sen G hG;exact⟨s,e,_,h2,.ask (by simp[nLs,nL,hsn]) hs,by simp;lia⟩
theorem US.rnd(H:US st u l w n R q a)(k:Nat)(hq:q+1<=4000):∃s,yc T (k+1) yil [.loc u] st=.ok .non s/\US s u l w n R (q+1) a:=by
 let⟨xs,h,hs,hx⟩:=H;let⟨s,e,h2⟩:=zgs k h hq;exact⟨s,e,_,h2,hs,hx⟩
theorem US.ins(H:US st u l w n R q a)(x:AO)(hx:((ufs 0 0 0 0 0).lookup x).isNone=true:=by decide +kernel):yco cU x st (.loc u)=AA true:=by
 let⟨xs,h,_⟩:=H;exact h.ins x hx
def grB:Css:=match yg.body with
 |.cons _ (.cons (.for _ _ b) _)=>b
 |x=>x
def znq:∀(G:List Int),G.length<=1->∀J:Int,yP .add (.tp AB (G.map .int)) (.tp AB [.int J])=AA (.tp AB ((G++[J]).map .int))
 |[],_,J=>rfl
 |[a],_,J=>rfl
def BodyOk(k u l:Nat)(w n:Int)(d:Bool)(vs:List PV)(G:List Int)(f:Nat->List PV)(qn an J:Nat):Prop:=
 ∀(st:SO) (R:List PV) (q:Int) (a:Nat),US st u l w n R q a->R.length+(f J).length<=4000->q+qn<=4000->a+an<=500000 ->
  ∃s,yc T k y8 [.loc u,.tp d vs,.tp AB ((G++[(J:Int)]).map .int)] st=.ok .non s/\US s u l w n (R++f J) (q+qn) (a+an)
def zg4(k:Nat){a1 d:Bool}{s0 cn sn:PV}(hsn:nL sn=AC){vs:List PV}{G:List Int}(hG:G.length<=1){f:Nat->List PV}{qn an N:Nat}(hb:∀J<N,BodyOk (k+2) u l w n d vs G f qn an J)
  (hR:R.length+(upTo f N).length<=4000) (hq:q+(N*(1+qn):Nat)<=4000) (ha:a+N*(1+an)<=500000):∀(M j:Nat) (st:SO) (p4:Option PV),j+M=N->US st u l w n (R++upTo f j) (q+(j*(1+qn):Nat)) (a+j*(1+an)) ->
  ∃s p4',yar (yc T (k+2)) (.n 4) grB (yr M (j:Int) 1) [AA (.loc u),AA (.tp a1 [s0,cn,sn,.tp d vs]),AA (.tp AB (G.map .int)),AA (.int N),p4] st=.nx [AA (.loc u),AA (.tp a1 [s0,cn,sn,.tp d vs]),AA (.tp AB (G.map .int)),AA (.int N),p4'] s/\US s u l w n (R++upTo f N) (q+(N*(1+qn):Nat)) (a+N*(1+an))
 |0,j,st,p4,hj,H=>by
  have:j=N:=by lia
  subst this;exact⟨st,p4,by rw[yr];exact zI,H⟩
 |M+1,j,st,p4,hj,H=>by
  have l1:(upTo f (j+1)).length<=(upTo f N).length:=zcu f N ∅;rw[upTo,AM]at l1;have m1:(j+1)*(1+qn)<=N*(1+qn):=CG _ ∅;have m2:(j+1)*(1+an)<=N*(1+an):=CG _ ∅;have n1:(j+1)*(1+qn)=j*(1+qn)+(1+qn):=DA _ _;have n2:(j+1)*(1+an)=j*(1+an)+(1+an):=DA _ _;let⟨s1,e1,H1⟩:=H.ask k ∅ (by rw[AM];lia) sn hsn (G++[(j:Int)]) (by simp;lia);let⟨s2,e2,H2⟩:=H1.rnd (k+1) ∅;let⟨s3,e3,H3⟩:=hb j ∅ s2 _ _ _ H2 (by rw[AM];lia) ∅ ∅;have H3:US s3 u l w n (R++upTo f (j+1)) (q+((j+1)*(1+qn):Nat)) (a+(j+1)*(1+an)):=by
   rw[upTo,<-BK,n1,n2];have x1:q+((j*(1+qn)+(1+qn):Nat):Int)=q+((j*(1+qn):Nat):Int)+1+(qn:Int):=by lia
   have x2:a+(j*(1+an)+(1+an))=a+j*(1+an)+1+an:=by lia
   rw[x1,x2];exact H3
  let⟨s4,p4',e4,H4⟩:=zg4 k (a1:=a1) (s0:=s0) (cn:=cn) (sn:=sn) hsn hG hb hR hq ha M (j+1) s3 (AA (.int j)) ∅ H3;refine⟨s4,p4',?_,H4⟩;have i1:=H.ins (AE "add_asked");have i2:=H1.ins (AE "add_round");have i3:=H2.ins (AE "go_parts");have c1:=znq G hG (j:Int);have one:exs (yc T (k+2)) [AA (.loc u),AA (.tp a1 [s0,cn,sn,.tp d vs]),AA (.tp AB (G.map .int)),AA (.int N),AA (.int (j:Int))] st grB=.nx [AA (.loc u),AA (.tp a1 [s0,cn,sn,.tp d vs]),AA (.tp AB (G.map .int)),AA (.int N),AA (.int (j:Int))] s3:=by
   generalize PV.tp AB (G.map .int)=gv,PV.tp AB ((G++[(j:Int)]).map .int)=gw,PV.tp d vs=pv at *;simp! [grB,yg,ix0,ix1,ix2,ix3,c1,i1,i2,i3,e1,e2,e3,IC.ve37]
  rw[yr,zp (ρ1:=[AA (.loc u),AA (.tp a1 [s0,cn,sn,.tp d vs]),AA (.tp AB (G.map .int)),AA (.int N),AA (.int (j:Int))]) rfl,one];exact e4
theorem US.cnt(H:US st u l w n R q a)(k:Nat)(bb:Bool){c m t:Int}(hm:m.natAbs<=200)(ht:t.natAbs<=200)(n0:0<=n)(n1:n<=8):yc T (k+1) yik [.loc u,.tp bb [.int c,.int m,.int t]] st=.ok (.int (c+m*n+t*w*n)) st:=by
 let⟨xs,h,_⟩:=H;have zbj:∀{i j:Int},j.natAbs<18446744073709551616->yP .mul (.int i) (.int j)=AA (.int (i*j)):=λh=>zh6 (.inr h);exact zit k h bb c m t (zaz ∅) (zaz ∅) (zbj ∅)
def zg0(z:Int)(s:SO):yZ .max s [.int 0,.int z]=AA (.int ((z.toNat:Nat):Int)):=by
 show AA (PV.int (if 0<z then z else 0))=_;split
 .rw[Int.toNat_of_nonneg ∅]
 .rw[show z.toNat=0 by lia];rfl
def zdy(k:Nat){a1 b d:Bool}{s0 sn:PV}(hsn:nL sn=AC){vs:List PV}{c m t:Int}{G:List Int}(hG:G.length<=1){f:Nat->List PV}{qn an N:Nat}(hN:N=cnt c m t w n)(hm:m.natAbs<=200)(ht:t.natAbs<=200)(n0:0<=n)(n1:n<=8)(hN2:N<1000000)
  (hb:∀J<N,BodyOk (k+2) u l w n d vs G f qn an J) (hR:R.length+(upTo f N).length<=4000) (hq:q+(N*(1+qn):Nat)<=4000) (ha:a+N*(1+an)+1<=500000) (H:US st u l w n R q a):
  ∃s,yc T (k+3) yz [.loc u,.tp a1 [s0,.tp b [.int c,.int m,.int t],sn,.tp d vs],.tp AB (G.map .int)] st=.ok .non s/\US s u l w n (R++upTo f N) (q+(N*(1+qn):Nat)) (a+N*(1+an)+1):=by
 have hT:T yz=AA ⟨3,5,AB,yg.body⟩:=rfl;have e1:=H.cnt (k+1) b (c:=c) hm ht n0 n1;have i1:=H.ins (AE "count_of");let⟨s1,p4,e2,H2⟩:=zg4 k (a1:=a1) (s0:=s0) (cn:=.tp b [.int c,.int m,.int t]) (sn:=sn) (a:=a) (q:=q) (R:=R) hsn hG hb hR hq ∅ N 0 st AD ∅ (by simpa [upTo] using H);let⟨s2,e3,H3⟩:=H2.ask k ∅ (by rw[AM];lia) sn hsn (G++[(N:Int)]) (by simp;lia);have i2:=H2.ins (AE "add_asked");have c1:=znq G hG (N:Int);have hx:=zg0 (c+m*n+t*w*n) st;have hz:((c+m*n+t*w*n).toNat:Int)=(N:Int):=by rw[hN];rfl
 rw[hz]at hx;have hr:ybk (.int (N:Int))=AA (yr N 0 1):=by
  erw[ybk];rw[if_pos ∅];rfl
 have hbd:yg.body=(match yg.body with
  |.cons x (.cons (.for t i _) r)=>.cons x (.cons (.for t i grB) r)
  |x=>x):=rfl
 refine⟨s2,?_,H3⟩;rw[zq hT rfl rfl];dsimp only;rw[hbd];have e2:yar (yc T (k+2)) (.n 4) grB (yr N 0 1) _ st=_:=e2;generalize PV.tp AB (G.map .int)=gv,PV.tp AB ((G++[(N:Int)]).map .int)=gw,PV.tp d vs=pv,PV.tp b [.int c,.int m,.int t]=cv,c+m*n+t*w*n=z at *;simp! [yg,ix0,ix1,ix2,ix3,i1,e1,hx,hr,e2,c1,i2,e3,IC.ve37,z5];rfl
def zes(k:Nat){b:Bool}{vs:List PV}{gv:PV}{s:SO}{p3:Option PV}(e:yar (yc T k) (.n 3) gpB vs [AA (.loc u),AA (.tp b vs),AA gv,AD] st=.nx [AA (.loc u),AA (.tp b vs),AA gv,p3] s):
  yc T (k+1) y8 [.loc u,.tp b vs,gv] st=.ok .non s:=by
 have hT:T y8=AA ⟨3,4,AB,ye.body⟩:=rfl
 have hbd:ye.body=(match ye.body with
  |.cons (.for t i _) r=>.cons (.for t i gpB) r
  |x=>x):=rfl
 rw[zq hT rfl rfl];dsimp only;rw[hbd];simp! [ye,e,z5];rfl
def zdr(k:Nat){d:Bool}{vs:List PV}{rs:List Rs}(hd:deepOf vs=AA rs)(I:Int)(J:Nat)(hrow:∀r∈rs,∀s,yc T (k+2) yf [r.pv I J n] s=.ok (.bl AC) s):BodyOk (k+4) u l w n d vs [I] (λJ=>rs.map λr=>r.pv I J n) 0 0 J:=by
 intro st R q a H h1 h2 h3;let⟨s,p3,e,H2⟩:=zgv k (a:=a) (q:=q) I J (AA (.tp d vs)) ∅ vs rs st R AD hd H (by simpa using h1) hrow;exact⟨s,zes (k+3) e,by simpa using H2⟩
def zi2(k:Nat)(H:US st u l w n R q a){a1:Bool}{r:List PV}{gv:PV}{p1:Option PV}{s:SO}(e:yc T k yz [.loc u,.tp a1 (.str "rounds" :: r),gv] st=.ok .non s):
  exs (yc T k) [AA (.loc u),p1,AA gv,AA (.tp a1 (.str "rounds" :: r))] st gpB=.nx [AA (.loc u),p1,AA gv,AA (.tp a1 (.str "rounds" :: r))] s:=by
 have ih:=H.ins (AE "go_rounds");simp! [gpB,ye,ix0,zaW,ih,e,IC.ve37]
def ycl(v:PV):Prop:=∀(k:Nat) (s:SO),yc T (10+k) yf [v] s=.ok (.bl AC) s
def T2.ak(w n:Int):T2->Nat
 |.row _=>0
 |.rounds c m t _=>cnt c m t w n+1
def ak2(w n:Int)(ps:List T2):Nat:=(ps.map (T2.ak w n)).sum
def zaH{c m t w n:Int}(hc:c.natAbs<=200)(hm:m.natAbs<=200)(ht:t.natAbs<=200)(w0:0<=w)(w1:w<=16)(n0:0<=n)(n1:n<=8):(c+m*n+t*w*n).natAbs<1000000:=by
 have h1:(m*n).natAbs<=200*8:=by rw[Ey];exact DB hm ∅
 have h2:(t*w*n).natAbs<=200*16*8:=by rw[Ey,Ey];exact DB (DB ht ∅) ∅
 have h3:=BH (Fu (c+m*n) (t*w*n)) (Gb (Fu c (m*n)) h2);have h4:c.natAbs+(m*n).natAbs+200*16*8<=200+200*8+200*16*8:=Nat.add_le_add_right (Gb hc h1) _;exact Nat.lt_of_le_of_lt (BH h3 h4) ⋯
def zcr{α:Type}{f:Nat->List α}{x:α}:∀{N J:Nat},J<N->x∈f J->x∈upTo f N
 |0,_,h,_=>absurd h ∅
 |N+1,J,h,hx=>by
  rw[upTo,Ak];rcases E7 J N with h1|h1
  .exact .inl (zcr h1 hx)
  .have:J=N:=by lia
   exact .inr (this ▸ hx)
def zhK{a b d:Bool}{x c m t sn:PV}{vs:List PV}(h:nL (.tp a [x,.tp b [c,m,t],sn,.tp d vs])=AC):nL sn=true:=by
 erw[nL,nLs,AG]at h;exact h.2.2.1
def zj7{a b d:Bool}{x c m t sn:PV}{vs:List PV}(h:nL (.tp a [x,.tp b [c,m,t],sn,.tp d vs])=AC):nLs vs=true:=by
 erw[nL,nLs,AG]at h;exact h.2.2.2.1
def zae{v:PV}{vs:List PV}(h:nLs (v::vs)=AC):nL v=AC/\nLs vs=true:=by
 simpa only[nLs,AG] using h
def zgp(k:Nat)(w0:0<=w)(w1:w<=16)(n0:0<=n)(n1:n<=8)(I:Nat)(p1:Option PV){v:PV}{p:T2}(hv:nL v=AC)(hp:part2 v=AA p)(H:US st u l w n R q a)(hR:R.length+(p.rows w n I).length<=4000)(hq:q+(p.rnd w n:Nat)<=4000)(ha:a+p.ak w n<=500000)(hrow:∀x∈p.rows w n I,ycl x):
  ∃s,exs (yc T (k+13)) [AA (.loc u),p1,AA (.tp AB [.int I]),AA v] st gpB=.nx [AA (.loc u),p1,AA (.tp AB [.int I]),AA v] s/\US s u l w n (R++p.rows w n I) (q+(p.rnd w n:Nat)) (a+p.ak w n):=by
 rcases zde hp with⟨r,rfl,h1⟩|⟨a1,b,sn,d,vs,c,m,t,rs,rfl,rfl,hd,hc,hm,ht⟩
 .let⟨s,e,H2⟩:=zeG (k+10) H (by simpa [T2.rows] using hR) ∅ h1 [(I:Int)] (by simp) (λs=>by
   have:=hrow (r.pv I 0 n) (by simp[T2.rows]) (k+2) s;rw[show 10+(k+2)=k+10+2 by lia]at this;exact this) p1
  exact⟨s,e,by simpa [T2.rows,T2.rnd,T2.ak] using H2⟩
 .have hN:cnt c m t w n<1000000:=by
   have:=zaH hc hm ht w0 w1 n0 n1;erw[cnt];lia
  erw[T2.rows,T2.rnd,T2.ak]at hR hq ha hrow ⊢;let⟨s,e,H2⟩:=zdy (k+10) (a1:=a1) (b:=b) (d:=d) (s0:=.str "rounds") (sn:=sn) (zhK hv) (vs:=vs) (G:=[(I:Int)]) (by simp) (f:=λJ=>rs.map λr=>r.pv I J n) (qn:=0) (an:=0) rfl hm ht n0 n1 hN
   (λJ hJ=>zdr (k+8) hd I J (λr hr s=>by
    have:=hrow (r.pv I J n) (zcr hJ (D5.2 ⟨r,hr,rfl⟩)) k s;rw[show 10+k=k+8+2 by lia]at this;exact this)) hR (by simpa using hq) ∅ H
  have e:yc T (k+13) yz [.loc u,.tp a1 [.str "rounds",.tp b [.int c,.int m,.int t],sn,.tp d vs],.tp AB [.int I]] st=.ok .non s:=e;exact⟨s,zi2 (k+13) H e,by simpa [EH] using H2⟩
def zjy(k:Nat)(w0:0<=w)(w1:w<=16)(n0:0<=n)(n1:n<=8)(I:Nat)(p1:Option PV):∀(vs:List PV) (ps:List T2) (st:SO) (R:List PV) (q:Int) (a:Nat) (p3:Option PV),nLs vs=AC->yah vs=AA ps->US st u l w n R q a->R.length+(yI w n I ps).length<=4000->q+(yan w n ps:Nat)<=4000->a+ak2 w n ps<=500000->(∀x∈yI w n I ps,ycl x) ->
  ∃s p3',yar (yc T (k+13)) (.n 3) gpB vs [AA (.loc u),p1,AA (.tp AB [.int I]),p3] st=.nx [AA (.loc u),p1,AA (.tp AB [.int I]),p3'] s/\US s u l w n (R++yI w n I ps) (q+(yan w n ps:Nat)) (a+ak2 w n ps)
 |[],ps,st,R,q,a,p3,_,hp,H,_,_,_,_=>by
  cases hp
  exact⟨st,p3,zI,by simpa [yI,yan,ak2] using H⟩
 |v::vs,ps,st,R,q,a,p3,hv,hp,H,hR,hq,ha,hrow=>by
  unfold yah at hp;split at hp
  .rename_i x y hx hy
   cases hp
   have r1:yI w n I (x::y)=x.rows w n I++yI w n I y:=by simp[yI]
   have r2:yan w n (x::y)=x.rnd w n+yan w n y:=by simp[yan]
   have r3:ak2 w n (x::y)=x.ak w n+ak2 w n y:=by simp[ak2]
   rw[r1,AM]at hR;rw[r2]at hq;rw[r3]at ha;rw[r1]at hrow;rw[r1,r2,r3];let⟨s1,e1,H1⟩:=zgp k w0 w1 n0 n1 I p1 (zae hv).1 hx H ∅ ∅ ∅ (λz hz=>hrow z (by simp[hz]));let⟨s2,p3',e2,H2⟩:=zjy k w0 w1 n0 n1 I p1 vs y s1 _ _ _ (AA v) (zae hv).2 hy H1 (by rw[AM];lia) ∅ ∅ (λz hz=>hrow z (by simp[hz]));refine⟨s2,p3',?_,?_⟩
   .rw[zp (ρ1:=[AA (.loc u),p1,AA (.tp AB [.int I]),AA v]) rfl,e1];exact e2
   .rw[<-BK,<-EH,show q+((x.rnd w n+yan w n y:Nat):Int)=q+(x.rnd w n:Nat)+(yan w n y:Nat)by lia];exact H2
  .cases hp
def zeJ(k:Nat)(w0:0<=w)(w1:w<=16)(n0:0<=n)(n1:n<=8){d:Bool}{vs:List PV}{ps:List T2}(hv:nLs vs=AC)(hp:yah vs=AA ps)(I:Nat)(hrow:∀x∈yI w n I ps,ycl x):BodyOk (k+14) u l w n d vs [] (λI=>yI w n I ps) (yan w n ps) (ak2 w n ps) I:=by
 intro st R q a H h1 h2 h3;let⟨s,p3,e,H2⟩:=zjy k w0 w1 n0 n1 I (AA (.tp d vs)) vs ps st R q a AD hv hp H h1 h2 h3 hrow;exact⟨s,zes (k+13) e,H2⟩
def T1.ak(w n:Int):T1->Nat
 |.row _=>0
 |.rounds c m t ps=>cnt c m t w n*(1+ak2 w n ps)+1
def ak1(w n:Int)(ps:List T1):Nat:=(ps.map (T1.ak w n)).sum
def zgC(k:Nat)(w0:0<=w)(w1:w<=16)(n0:0<=n)(n1:n<=8)(p1:Option PV){v:PV}{p:T1}(hv:nL v=AC)(hp:part1 v=AA p)(H:US st u l w n R q a)(hR:R.length+(p.rows w n).length<=4000)(hq:q+(p.rnd w n:Nat)<=4000)(ha:a+p.ak w n<=500000)(hrow:∀x∈p.rows w n,ycl x):
  ∃s,exs (yc T (k+15)) [AA (.loc u),p1,AA (.tp AB []),AA v] st gpB=.nx [AA (.loc u),p1,AA (.tp AB []),AA v] s/\US s u l w n (R++p.rows w n) (q+(p.rnd w n:Nat)) (a+p.ak w n):=by
 rcases zc2 hp with⟨r,rfl,h1⟩|⟨a1,b,sn,d,vs,c,m,t,ps,rfl,rfl,hd,hc,hm,ht⟩
 .let⟨s,e,H2⟩:=zeG (k+12) H (by simpa [T1.rows] using hR) ∅ h1 [] (by simp) (λs=>by
   have:=hrow (r.pv 0 0 n) (by simp[T1.rows]) (k+4) s;rw[show 10+(k+4)=k+12+2 by lia]at this;exact this) p1
  exact⟨s,e,by simpa [T1.rows,T1.rnd,T1.ak] using H2⟩
 .have hN:cnt c m t w n<1000000:=by
   have:=zaH hc hm ht w0 w1 n0 n1;erw[cnt];lia
  erw[T1.rows,T1.rnd,T1.ak]at hR hq ha hrow ⊢;let⟨s,e,H2⟩:=zdy (k+12) (a1:=a1) (b:=b) (d:=d) (s0:=.str "rounds") (sn:=sn) (zhK hv) (vs:=vs) (G:=[]) (by simp) (f:=λI=>yI w n I ps) (qn:=yan w n ps) (an:=ak2 w n ps) rfl hm ht n0 n1 hN
   (λJ hJ=>zeJ k w0 w1 n0 n1 (zj7 hv) hd J (λz hz=>hrow z (zcr hJ hz))) hR hq ∅ H
  have e:yc T (k+15) yz [.loc u,.tp a1 [.str "rounds",.tp b [.int c,.int m,.int t],sn,.tp d vs],.tp AB []] st=.ok .non s:=e;exact⟨s,zi2 (k+15) H e,by rw[<-EH];exact H2⟩
def zjq(k:Nat)(w0:0<=w)(w1:w<=16)(n0:0<=n)(n1:n<=8)(p1:Option PV):∀(vs:List PV) (ps:List T1) (st:SO) (R:List PV) (q:Int) (a:Nat) (p3:Option PV),nLs vs=AC->yaj vs=AA ps->US st u l w n R q a->R.length+(yE w n ps).length<=4000->q+(yaJ w n ps:Nat)<=4000->a+ak1 w n ps<=500000->(∀x∈yE w n ps,ycl x) ->
  ∃s p3',yar (yc T (k+15)) (.n 3) gpB vs [AA (.loc u),p1,AA (.tp AB []),p3] st=.nx [AA (.loc u),p1,AA (.tp AB []),p3'] s/\US s u l w n (R++yE w n ps) (q+(yaJ w n ps:Nat)) (a+ak1 w n ps)
 |[],ps,st,R,q,a,p3,_,hp,H,_,_,_,_=>by
  cases hp
  exact⟨st,p3,zI,by simpa [yE,yaJ,ak1] using H⟩
 |v::vs,ps,st,R,q,a,p3,hv,hp,H,hR,hq,ha,hrow=>by
  unfold yaj at hp;split at hp
  .rename_i x y hx hy
   cases hp
   have r1:yE w n (x::y)=x.rows w n++yE w n y:=by simp[yE]
   have r2:yaJ w n (x::y)=x.rnd w n+yaJ w n y:=by simp[yaJ]
   have r3:ak1 w n (x::y)=x.ak w n+ak1 w n y:=by simp[ak1]
   rw[r1,AM]at hR;rw[r2]at hq;rw[r3]at ha;rw[r1]at hrow;rw[r1,r2,r3];let⟨s1,e1,H1⟩:=zgC k w0 w1 n0 n1 p1 (zae hv).1 hx H ∅ ∅ ∅ (λz hz=>hrow z (by simp[hz]));let⟨s2,p3',e2,H2⟩:=zjq k w0 w1 n0 n1 p1 vs y s1 _ _ _ (AA v) (zae hv).2 hy H1 (by rw[AM];lia) ∅ ∅ (λz hz=>hrow z (by simp[hz]));refine⟨s2,p3',?_,?_⟩
   .rw[zp (ρ1:=[AA (.loc u),p1,AA (.tp AB []),AA v]) rfl,e1];exact e2
   .rw[<-BK,<-EH,show q+((x.rnd w n+yaJ w n y:Nat):Int)=q+(x.rnd w n:Nat)+(yaJ w n y:Nat)by lia];exact H2
  .cases hp
end
def zoj(k:Nat)(w n:Int):yc T (k+1) yiM [.loc 0,.int w,.int n] [.ins cU []]=.ok .non [uob w n 1 0 0,.lst []]:=by
 have hT:T yiM=AA yih:=rfl;rw[zq hT rfl rfl];ac_rfl
def zeH(w n:Int):US [uob w n 1 0 0,.lst []] 0 1 w n [] 0 0:=⟨[],⟨rfl,rfl,by decide⟩,.nil,by simp⟩
theorem StR.nl{xs rs:List PV}(h:StR xs rs):nLs xs=true:=by
 have ap:∀(a b:List PV),nLs a=AC->nLs b=AC->nLs (a++b)=true:=by
  intro a
  induction a with
  |nil=>intro b _ h;exact h
  |cons x a ih=>
   intro b h1 h2;let⟨p,q⟩:=zae h1;rw[BA,nLs,p,ih b q h2];rfl
 induction h with
 |nil=>rfl
 |row hv _ ih=>exact ap _ _ ih (by simp[nLs,nL,hv])
 |ask hv _ ih=>exact ap _ _ ih (by erw[nLs,nL,Bool.and_true,A8]at hv ⊢;simpa using hv)
def zfA:yD .eq (.str "asked") (.str "row")=AA (.bl AB):=by ac_rfl
def zhW(k:Nat){b:Bool}{vs:List PV}{ps:List T1}{w n:Int}(hv:nLs vs=AC)(hp:yaj vs=AA ps)(w0:0<=w)(w1:w<=16)(n0:0<=n)(n1:n<=8)(hR:(yE w n ps).length<=4000)(hq:yaJ w n ps<=4000)(ha:ak1 w n ps<=500000)(hrow:∀x∈yE w n ps,ycl x)
  (hit:∀s,yc T (k+16) yB [.tp b vs] s=.ok (.bl AC) s) (st:SO):∃xs,yc T (k+17) yh9 [.tp b vs,.int w,.int n] st=.ok (.lst xs) st/\StR xs (yE w n ps):=by
 have hT:T yh9=AA yeK:=rfl;have hnl:nLs [.tp b vs,.int w,.int n]=true:=by simp[nLs,nL,hv]
 let⟨s,p3,e,xs,h,hs,_⟩:=zjq k w0 w1 n0 n1 (AA (.tp b vs)) vs ps [uob w n 1 0 0,.lst []] [] 0 0 AD hv hp (zeH w n) (by simpa using hR) ∅ ∅ hrow;have e:=zes (k+15) e;have i0:=zoj (k+15) w n;have ih:=(zeH w n).ins (AE "go_parts");have f1:=h.fs;have fz:ycx (.loc 1) s=.ok (.lst xs) (s.set 1 .dead):=by simp[ycx,h.d]
 refine⟨xs,?_,by simpa using hs⟩;have nl:=hs.nl;rw[zd hT rfl rfl hnl];generalize PV.tp b vs=tv at *;simp! [yeK,hit,i0,ih,e,f1,fz,IC.ve32,IC.ve33,IC.ve37,ybm,newV];simp[yde,nL,nl]
def unT:Ce:=.cmp .eq (.idx (.var 0) (.cst (.int 0))) (.cst (.str "row"))
def unE:Ce:=.idx (.var 0) (.cst (.int 1))
def zhH(k:Nat){st:SO}{xs rs:List PV}(h:StR xs rs):∀(ys b:List PV),yV (yc T k) [AD] (.n 0) unT unE ys st=.ok b st->yV (yc T k) [AD] (.n 0) unT unE (xs++ys) st=.ok (rs++b) st:=by
 induction h with
 |nil=>intro ys b e;exact e
 |@row xs rs v hv _ ih=>
  intro ys b e;have one:yaA (yc T k) [AD] (.n 0) unT unE (.tp AB [.str "row",v]) st=.ok (AA v) st:=by
   simp! [yaA,unT,unE,ix0,ix1,zaF]
  have:=ih (.tp AB [.str "row",v]::ys) (v::b) (by rw[zH,one,bd_ok,e,bd_ok];rfl);rw[BK,BK];exact this
 |@ask xs rs x y z hv _ ih=>
  intro ys b e;have one:yaA (yc T k) [AD] (.n 0) unT unE (.tp AB [.str "asked",x,y,z]) st=.ok AD st:=by
   simp! [yaA,unT,unE,ix0,ix1,zfA]
  have:=ih (.tp AB [.str "asked",x,y,z]::ys) b (by rw[zH,one,bd_ok,e,bd_ok];rfl);rw[BK];exact this
theorem StR.nl2{xs rs:List PV}(h:StR xs rs):nLs rs=true:=by
 have ap:∀(a b:List PV),nLs a=AC->nLs b=AC->nLs (a++b)=true:=by
  intro a
  induction a with
  |nil=>intro b _ h;exact h
  |cons x a ih=>
   intro b h1 h2;let⟨p,q⟩:=zae h1;rw[BA,nLs,p,ih b q h2];rfl
 induction h with
 |nil=>rfl
 |row hv _ ih=>exact ap _ _ ih (by simp[nLs,hv])
 |ask _ _ ih=>exact ih
theorem unrolled(k:Nat){b:Bool}{vs:List PV}{ps:List T1}{w n:Int}(hv:nLs vs=AC)(hp:yaj vs=AA ps)(w0:0<=w)(w1:w<=16)(n0:0<=n)(n1:n<=8)(hR:(yE w n ps).length<=4000)(hq:yaJ w n ps<=4000)(ha:ak1 w n ps<=500000)(hrow:∀x∈yE w n ps,ycl x)
  (hit:∀s,yc T (k+16) yB [.tp b vs] s=.ok (.bl AC) s) (st:SO):yc T (k+18) yfT [.tp b vs,.int w,.int n] st=.ok (.tp AB (yE w n ps)) st:=by
 have hT:T yfT=AA yeA:=rfl;have hnl:nLs [.tp b vs,.int w,.int n]=true:=by simp[nLs,nL,hv]
 let⟨xs,e,hs⟩:=zhW k hv hp w0 w1 n0 n1 hR hq ha hrow hit [];have ec:=zhH (k+17) (st:=[]) hs [] [] zag;rw[BS,BS]at ec;have ec:yV (yc T (k+17)) [AD] (.n 0) (.cmp .eq (.idx (.var 0) (.cst (.int 0))) (.cst (.str "row"))) (.idx (.var 0) (.cst (.int 1))) xs []=_:=ec;have nl:=hs.nl2;have lr:=λst=>z7 (yE w n ps) ∅ st;have ht:∀st,yZ .tuple st [.lst (yE w n ps)]=AA (.tp AB (yE w n ps)):=λ_=>rfl;rw[zd hT rfl rfl hnl];generalize PV.tp b vs=tv,yE w n ps=rows at *;simp! [yeA,e,ec,lr,ht];simp[yde,nL,nl]
def zfu(w n:Int):∀ps:List T1,nLs (yE w n ps)=true:=by
 have ap:∀(a b:List PV),nLs a=AC->nLs b=AC->nLs (a++b)=true:=by
  intro a
  induction a with
  |nil=>intro b _ h;exact h
  |cons x a ih=>
   intro b h1 h2;let⟨p,q⟩:=zae h1;rw[BA,nLs,p,ih b q h2];rfl
 have up:∀(f:Nat->List PV) (N:Nat),(∀i,nLs (f i)=AC)->nLs (upTo f N)=true:=by
  intro f N h
  induction N with
  |zero=>rfl
  |succ N ih=>exact ap _ _ ih (h N)
 have mp:∀(rs:List Rs) (I J:Int),nLs (rs.map λr=>r.pv I J n)=true:=by
  intro rs I J
  induction rs with
  |nil=>rfl
  |cons r rs ih=>rw[AX,nLs,zbt,ih];rfl
 have two:∀(I:Nat) (ps:List T2),nLs (yI w n I ps)=true:=by
  intro I ps
  induction ps with
  |nil=>rfl
  |cons p ps ih=>
   rw[yI,CJ];refine ap _ _ ?_ ih
   cases p with
   |row r=>simp[T2.rows,nLs,zbt]
   |rounds c m t rs=>exact up _ _ λJ=>mp rs _ _
 intro ps
 induction ps with
 |nil=>rfl
 |cons p ps ih=>
  rw[yE,CJ];refine ap _ _ ?_ ih
  cases p with
  |row r=>simp[T1.rows,nLs,zbt]
  |rounds c m t ps=>exact up _ _ λI=>two I ps
def zms(k:Nat){b:Bool}{c i j m I J n:Int}(hi:i.natAbs<=200)(hj:j.natAbs<=200)(hm:m.natAbs<=200)(st:SO):yc T (k+1) yiP [.tp b [.int c,.int i,.int j,.int m],.int I,.int J,.int n] st=.ok (.int (c+i*I+j*J+m*n)) st:=by
 have hT:T yiP=AA yh3:=rfl;have h1:i.natAbs<18446744073709551616:=by lia
 have h2:j.natAbs<18446744073709551616:=by lia
 have h3:m.natAbs<18446744073709551616:=by lia
 rw[yc,hT];erw[yh3,AW,Av,BV,C0,if_true,nLs,nL,Bg,AX,BM,Bu,Aj,BS,BA,BD,xs_cons,xs_nil,x_ret,IC.ve1,IC.ve2,IC.ve3,IC.ve16,AQ,AN,bd_ok,fl_ok,toR_some,ix0,ix1,ix2,ix3,zaz h1,zaz h2,zaz h3,b_add,th_rt]
def plB:Css:=match yQ.body with
 |.cons _ (.cons (.for _ _ b) _)=>b
 |_=>.nil
def zcM(k:Nat){p0:Option PV}{I J n:Int}:∀(vs:List PV) (ops:List Op) (acc:List PV) (u:Option PV),yaK vs=AA ops->acc.length+vs.length<1000000 ->
  ∃u',yar (yc T (k+1)) (.n 5) plB vs [p0,AA (.int I),AA (.int J),AA (.int n),AA (.loc 0),u] [.lst acc]=.nx [p0,AA (.int I),AA (.int J),AA (.int n),AA (.loc 0),u'] [.lst (acc++ops.map (Op.pv I J n))]
 |[],ops,acc,u,h,_=>by
  cases h
  exact⟨u,by rw[zI];simp⟩
 |v::vs,ops,acc,u,h,hl=>by
  rw[AW]at hl;unfold yaK at h;split at h
  .rename_i a b ha hb
   cases h
   let⟨u',e⟩:=zcM k (p0:=p0) (I:=I) (J:=J) (n:=n) vs b (acc++[Op.pv I J n a]) (AA v) hb (by simp;lia);refine⟨u',?_⟩;have hal:acc.length<1000000:=by lia
   have hm:yao .append [Ob.lst acc] (.loc 0)=AA true:=rfl;have hap:∀x:PV,ya4 .append [Ob.lst acc] (.loc 0) [x]=.ok .non [.lst (acc++[x])]:=λx=>by simp[ya4,ydf,hal]
   have hs:exs (yc T (k+1)) [p0,AA (.int I),AA (.int J),AA (.int n),AA (.loc 0),AA v] [.lst acc] plB=.nx [p0,AA (.int I),AA (.int J),AA (.int n),AA (.loc 0),AA v] [.lst (acc++[Op.pv I J n a])]:=by
    rcases zd7 ha with⟨d,rfl,rfl⟩|⟨f1,f2,x,rfl,rfl,q1,q2,q3⟩
    .have hi:yG (.int d) [.tuple]=AA (.bl AB):=rfl;erw[plB,yQ,xs_cons,xs_nil,x_ite,x_expr,IC.ve2,IC.ve20,IC.ve21,evs,AQ,AN,bd_ok,fl_ok,toR_some,hi,t_bl,on_t,cond_false,hm,ono,hap,th_nx,Op.pv]
    .have hi:yG (.tp f1 [.str (chS x.l),.tp f2 [.int x.c,.int x.i,.int x.j,.int x.m]]) [.tuple]=AA (.bl AC):=rfl;have hat:=zms k (b:=f2) (c:=x.c) (I:=I) (J:=J) (n:=n) q1 q2 q3 [.lst acc];erw[plB,yQ,xs_cons,xs_nil,x_ite,x_expr,IC.ve1,IC.ve2,IC.ve11,IC.ve16,IC.ve18,IC.ve20,IC.ve21,evs,AQ,AN,bd_ok,fl_ok,toR_some,hi,t_bl,on_t,cond_true,hm,ono,hap,th_nx,Op.pv,ix0,ix1,hat,AW,Av,BV,C0,sizeMax,ET,if_true,yc1,Cx.at]
   rw[zp (ρ1:=[p0,AA (.int I),AA (.int J),AA (.int n),AA (.loc 0),AA v]) rfl,hs];show yar _ _ _ _ _ _=_;rw[e];simp
  .cases h
def ziB{v:PV}{o:Op}(h:ycO v=AA o):nL v=true:=by
 rcases zd7 h with⟨d,rfl,rfl⟩|⟨f1,f2,x,rfl,rfl,_⟩<;>rfl
def zdG:∀{vs:List PV} {ops:List Op},yaK vs=AA ops->nLs vs=AC
 |[],_,_=>rfl
 |v::vs,ops,h=>by
  unfold yaK at h;split at h
  .rename_i a b ha hb;simp[nLs,ziB ha,zdG hb]
  .cases h
def zgS{v:PV}{r:Rs}(h:rowOf v=AA r):nL v=true:=by
 let⟨a,vs,rfl,h2,_⟩:=zbZ h;simp[nL,nLs,zdG h2]
def zcG(k:Nat){v:PV}{r:Rs}(h:rowOf v=AA r)(I J n:Int)(st:SO):yc T (k+2) yir [v,.int I,.int J,.int n] st=.ok (r.pv I J n) st:=by
 have hnv:=zgS h;let⟨a,vs,rfl,h2,h3⟩:=zbZ h;let⟨u',e⟩:=zcM k (p0:=AA (.tp a (.str r.nm::vs))) (I:=I) (J:=J) (n:=n) vs r.ops [.str r.nm] AD h2 (by simp;lia);have hT:T yir=AA ⟨4,6,AC,yQ.body⟩:=rfl;have hb:yQ.body=.cons (.asg (.n 4) (.newl (.cons (.idx (.var 0) (.cst (.int 0))) .nil))) (.cons (.for (.n 5) (.seq (.slc (.var 0) (.cst (.int 1)) (.cst .non))) plB) (.cons (.ret (.blt .tuple (.cons (.var 4) .nil))) .nil)):=rfl;have hsl:yb6 (.tp a (.str r.nm::vs)) (AA 1) .non=AA (.tup vs):=by
  have h1:yaU (vs.length+1) 1=1:=by simp[yaU]
  simp[yb6,ybB,yb3,ycm,yb5,cut,h1]
 have hnl:nLs [.tp a (.str r.nm::vs),.int I,.int J,.int n]=true:=by simp[nLs,nL]at hnv ⊢;exact hnv
 rw[yc,hT,hb];erw[AW,Av,BV,C0,if_true,hnl,AX,BM,Bu,Aj,BA,BD];rw[xs_cons,x_asg];erw[IC.ve1,IC.ve2,IC.ve13,IC.ve16,evs,AQ,AN,bd_ok,fl_ok,toR_some,ix0,AW,Av,BV,sizeMax,ET,if_true,bT_n,nxO_some,th_nx,BF,BN,BD];rw[xs_cons,x_for];erw[evi,IC.ve1,IC.ve2,IC.ve17,AQ,AN,bd_ok,fl_ok,ybB,onP,hsl,toR_some,e,th_nx];simp[xs_cons,xs_nil,x_ret,IC.ve2,IC.ve19,evs,yZ,ycE,yL,toR,R.fl,R.bind,yaS,nL,nLs,zcd,Rs.pv]
def zap:∀(N:Nat) (a:Int) (j:Nat) (x:PV),(yr N a 1)[j]?=AA x->x=.int (a+j)/\j<N
 |0,a,j,x,h=>by simp[yr]at h
 |N+1,a,0,x,h=>by simp[yr]at h;exact⟨by simp[h],by lia⟩
 |N+1,a,j+1,x,h=>by
  simp[yr]at h;let⟨h1,h2⟩:=zap N (a+1) j x h;exact⟨by rw[h1];congr 1;lia,by lia⟩
def z6:∀(N:Nat) (a:Int),(yr N a 1).length=N
 |0,_=>rfl
 |N+1,a=>by simp[yr,z6 N]
def zdH(k:Nat){b:Bool}{c m t w n:Int}(hm:m.natAbs<=200)(ht:t.natAbs<=200)(n0:0<=n)(n1:n<=8)(st:SO):yc T (k+1) yiQ [.tp b [.int c,.int m,.int t],.int w,.int n] st=.ok (.int (c+m*n+t*w*n)) st:=by
 have hT:T yiQ=AA yh4:=rfl;have h1:m.natAbs<18446744073709551616:=by lia
 have h2:t.natAbs<18446744073709551616:=by lia
 have h3:n.natAbs<18446744073709551616:=by lia
 rw[yc,hT];erw[yh4,AW,Av,BV,C0,if_true,nLs,nL,Bg,AX,BM,Bu,Aj,BS,BA,BD,xs_cons,xs_nil,x_ret,IC.ve1,IC.ve2,IC.ve3,IC.ve16,AQ,AN,bd_ok,fl_ok,toR_some,ix0,ix1,ix2,zaz h1,zaz h2,zbj h3,b_add,th_rt]
def zjl{call:Cl}{ρ:IC.Env}{st:SO}{e:Ce}{R v:Int}(h:ρ[5]?=AA (AA (.int R)))(he:ev call ρ st e=.ok (.int v) st):ex call ρ st (.aug 5 .add e)=.nx (ρ.set 5 (AA (.int (R+v)))) st:=by
 rw[znt h,he];rfl
def yb4:Css:=match yN.body with
 |.cons _ (.cons _ (.cons (.for _ _ b) _))=>b
 |_=>.nil
def ycN:Css:=match yb4 with
 |.cons (.ite _ _ (.cons (.for _ _ b) _)) _=>b
 |_=>.nil
def ycC:Css:=match ycN with
 |.cons _ (.cons (.for _ _ b) _)=>b
 |_=>.nil
def ybX:Css:=match ycC with
 |.cons (.ite _ _ (.cons (.ite _ (.cons _ (.cons _ (.cons (.for _ _ b) _))) _) _)) _=>b
 |_=>.nil
def unC:Ce:=.call yir (.cons (.idx (.var 0) (.cst (.int 1))) (.cons (.var 1) (.cons (.var 2) (.cons (.var 3) .nil))))
def zdC(k:Nat){I J n:Int}{st:SO}:∀(vs:List PV) (rs:List Rs),deepOf vs=AA rs->yV (yc T (k+2)) [AD,AA (.int I),AA (.int J),AA (.int n)] (.n 0) (.cst (.bl AC)) unC vs st=.ok (rs.map λr=>r.pv I J n) st
 |[],rs,h=>by cases h;exact zag
 |v::vs,rs,h=>by
  unfold deepOf at h;split at h
  .rename_i a b ha hb
   cases h
   let⟨f,v1,rfl,h1⟩:=zcC ha;have hp:=zcG k h1 I J n st;have ih:=zdC k (I:=I) (J:=J) (n:=n) (st:=st) vs b hb;have h1:yaA (yc T (k+2)) [AD,AA (.int I),AA (.int J),AA (.int n)] (.n 0) (.cst (.bl AC)) unC (.tp f [.str "row",v1]) st=.ok (AA (a.pv I J n)) st:=by
    erw[yaA,unC,bT_n,BF,IC.ve1,IC.ve2,IC.ve16,IC.ve18,evs,AQ,AN,bd_ok,t_bl,ono,cond_true,toR_some,ix1,hp]
   rw[zH,h1,bd_ok,ih,bd_ok];rfl
  .cases h
def zlv{acc:List PV}:yao .extend [Ob.lst acc] (.loc 0)=AA true:=rfl
def zjj{acc:List PV}:yao .append [Ob.lst acc] (.loc 0)=AA true:=rfl
theorem len0{acc:List PV}:yZ .len [Ob.lst acc] [.loc 0]=AA (.int acc.length):=rfl
def zgi(k:Nat){p0 p6 p9:Option PV}{w n I J R:Int}{f:Bool}{s c sn:PV}{d:Bool}{vs:List PV}{rs:List Rs}(hd:deepOf vs=AA rs){acc:List PV}(hR:R<=4000)(hl:acc.length+rs.length<=4000):
  exs (yc T (k+2)) [p0,AA (.int w),AA (.int n),AA (.int 4000),AA (.loc 0),AA (.int R),p6,AA (.int I),AA (.tp f [s,c,sn,.tp d vs]),p9,AA (.int J)] [.lst acc] ybX=.nx [p0,AA (.int w),AA (.int n),AA (.int 4000),AA (.loc 0),AA (.int R),p6,AA (.int I),AA (.tp f [s,c,sn,.tp d vs]),p9,AA (.int J)] [.lst (acc++rs.map λr=>r.pv I J n)]:=by
 have hc:=zdC k (I:=I) (J:=J) (n:=n) (st:=[.lst acc]) vs rs hd;have h1:(acc.length:Int)<=4000:=by lia
 have h2:rs.length<=1000000:=by lia
 have h3:acc.length+rs.length<=1000000:=by lia
 have hls:ya5 (.ok (rs.map λr=>r.pv I J n) [.lst acc])=.ok (.lst (rs.map λr=>r.pv I J n)) [.lst acc]:=by simp[ya5,h2]
 have hex:ya4 .extend [Ob.lst acc] (.loc 0) [.lst (rs.map λr=>r.pv I J n)]=.ok .non [.lst (acc++rs.map λr=>r.pv I J n)]:=by simp[ya4,yeQ,h3]
 have hb:ybX=.cons (.ite (.and (.cmp .le (.var 5) (.cst (.int 4000))) (.cmp .le (.blt .len (.cons (.var 4) .nil)) (.var 3))) (.cons (.expr (.mth .extend (.var 4) (.cons (.comp [AD,AA 7,AA 10,AA 2] (.n 0) (.seq (.idx (.var 8) (.cst (.int 3)))) (.cst (.bl AC)) unC) .nil))) .nil) .nil) .nil:=rfl;rw[hb];erw[xs_cons,xs_nil,x_ite,x_expr,v_comp,evi,IC.ve1,IC.ve2,IC.ve6,IC.ve8,IC.ve16,IC.ve19,IC.ve20,evs,AQ,AN,bd_ok,fl_ok,toR_some,len0,c_le,hR,h1,decide_true,onBl,cond_true,t_bl,on_t,ono,zlv,AX,BM,Option.bind_none,Az,GH,ix3,hc,hls,hex,th_nx]
def zoV(k:Nat){p0 p6 p9:Option PV}{w n R:Int}{I:Nat}{f:Bool}{s c sn:PV}{d:Bool}{vs:List PV}{rs:List Rs}(hd:deepOf vs=AA rs){acc:List PV}{N:Nat}{u:Option PV}(hR:R<=4000)(hl:acc.length+(upTo (λJ=>rs.map λr=>r.pv I J n) N).length<=4000):
  ∃u',yar (yc T (k+2)) (.n 10) ybX (yr N 0 1) [p0,AA (.int w),AA (.int n),AA (.int 4000),AA (.loc 0),AA (.int R),p6,AA (.int I),AA (.tp f [s,c,sn,.tp d vs]),p9,u] [.lst acc]=.nx [p0,AA (.int w),AA (.int n),AA (.int 4000),AA (.loc 0),AA (.int R),p6,AA (.int I),AA (.tp f [s,c,sn,.tp d vs]),p9,u'] [.lst (acc++upTo (λJ=>rs.map λr=>r.pv I J n) N)]:=by
 let⟨ρ',st',h1,u',rfl,rfl⟩:=zb7 (call:=yc T (k+2)) (t:=.n 10) (b:=ybX) (λi ρ st=>∃u,ρ=[p0,AA (.int w),AA (.int n),AA (.int 4000),AA (.loc 0),AA (.int R),p6,AA (.int I),AA (.tp f [s,c,sn,.tp d vs]),p9,u]/\st=[.lst (acc++upTo (λJ=>rs.map λr=>r.pv I J n) i)]) (yr N 0 1) 0 [p0,AA (.int w),AA (.int n),AA (.int 4000),AA (.loc 0),AA (.int R),p6,AA (.int I),AA (.tp f [s,c,sn,.tp d vs]),p9,u] [.lst acc] ⟨u,rfl,by simp[upTo]⟩ (by
  rintro j x ρ st hx ⟨u,rfl,rfl⟩
  let⟨rfl,hj⟩:=zap N 0 j x hx;rw[BV,Ft];have hle:=zcu (λJ=>rs.map λr=>r.pv I J n) (i:=j+1) N ∅;erw[upTo,AM,Af]at hle hl;refine⟨_,_,_,rfl,zgi k hd hR (by simp;lia),_,rfl,?_⟩;rw[upTo,BK])
 rw[z6,BV]at h1;exact⟨u',h1⟩
def zok{acc:List PV}{x:PV}(h:acc.length<1000000):ya4 .append [Ob.lst acc] (.loc 0) [x]=.ok .non [.lst (acc++[x])]:=by simp[ya4,ydf,h]
def zhe{z:Int}(h:z.natAbs<1000000):ybk (.int z)=AA (yr z.toNat 0 1):=by
 erw[ybk];rw[if_pos ∅]
def zif(k:Nat){p0 p6 u9 u10:Option PV}{w n R:Int}{I:Nat}{v:PV}{p:T2}(hp:part2 v=AA p){acc:List PV}(w0:0<=w)(w1:w<=16)(n0:0<=n)(n1:n<=8)(hR0:0<=R)(hR:R+p.rnd w n<=4000)(hl:acc.length+(p.rows w n I).length<=4000):
  ∃v9 v10,exs (yc T (k+2)) [p0,AA (.int w),AA (.int n),AA (.int 4000),AA (.loc 0),AA (.int R),p6,AA (.int I),AA v,u9,u10] [.lst acc] ycC=.nx [p0,AA (.int w),AA (.int n),AA (.int 4000),AA (.loc 0),AA (.int (R+p.rnd w n)),p6,AA (.int I),AA v,v9,v10] [.lst (acc++p.rows w n I)]:=by
 rcases zde hp with⟨r,rfl,hr⟩|⟨a,b,sn,d,vs,c,m,t,rs,rfl,rfl,hd,hc,hm,ht⟩
 .let⟨f,v1,rfl,h1⟩:=zcC hr;have hpl:=zcG k h1 I 0 n [.lst acc];have hal:acc.length<1000000:=by lia
  refine⟨u9,u10,?_⟩;erw[ycC,ycN,yb4,yN,xs_cons,xs_nil,x_ite,x_expr,IC.ve1,IC.ve2,IC.ve8,IC.ve16,IC.ve18,IC.ve20,evs,AQ,AN,bd_ok,fl_ok,toR_some,ix0,ix1,zaF,t_bl,on_t,cond_true,ono,zjj,hpl,zok hal,th_nx,T2.rnd,T2.rows];simp
 .have hcn:=zdH (k+1) (b:=b) (c:=c) (w:=w) hm ht n0 n1 [.lst acc];have hcb:=zaH hc hm ht w0 w1 n0 n1;erw[T2.rnd,T2.rows]at hR hl ⊢;have hN:((cnt c m t w n:Nat):Int)=if 0<(c+m*n+t*w*n)then(c+m*n+t*w*n)else 0:=by
   unfold cnt;split<;>lia
  have h40:R<=4000:=by lia
  have hal:(acc.length:Int)<=4000:=by lia
  have hmax:yZ .max [Ob.lst acc] [.int 0,.int (c+m*n+t*w*n)]=AA (.int ((cnt c m t w n:Nat):Int)):=by
   erw[yZ,maxV];rw[hN]
  have hmin:yZ .min [Ob.lst acc] [.int ((cnt c m t w n:Nat):Int),.int 4001]=AA (.int ((cnt c m t w n:Nat):Int)):=by
   erw[yZ,yee];rw[if_neg ∅]
  have hrg:ybk (.int ((cnt c m t w n:Nat):Int))=AA (yr (cnt c m t w n) 0 1):=by
   rw[zhe ∅,Dv]
  let⟨u',e⟩:=zoV k (p0:=p0) (p6:=p6) (p9:=AA (.int ((cnt c m t w n:Nat):Int))) (w:=w) (n:=n) (R:=R+(cnt c m t w n:Nat)) (I:=I) (f:=a) (s:=.str "rounds") (c:=.tp b [.int c,.int m,.int t]) (sn:=sn) (d:=d) hd (acc:=acc) (N:=cnt c m t w n) (u:=u10) hR hl;refine⟨AA (.int ((cnt c m t w n:Nat):Int)),u',?_⟩;have hau:∀st,ex (yc T (k+2)) [p0,AA (.int w),AA (.int n),AA (.int 4000),AA (.loc 0),AA (.int R),p6,AA (.int I),AA (.tp a [.str "rounds",.tp b [.int c,.int m,.int t],sn,.tp d vs]),AA (.int ((cnt c m t w n:Nat):Int)),u10] st (.aug 5 .add (.var 9))=.nx [p0,AA (.int w),AA (.int n),AA (.int 4000),AA (.loc 0),AA (.int (R+(cnt c m t w n:Nat))),p6,AA (.int I),AA (.tp a [.str "rounds",.tp b [.int c,.int m,.int t],sn,.tp d vs]),AA (.int ((cnt c m t w n:Nat):Int)),u10] st:=λst=>zjl rfl (by erw[IC.ve2,AQ,AN])
  have hb:ycC=(match ycC with
   |.cons (.ite q1 q2 (.cons (.ite q3 (.cons q4 (.cons q5 (.cons (.for q6 q7 _) q8))) q9) q10)) q11=>.cons (.ite q1 q2 (.cons (.ite q3 (.cons q4 (.cons q5 (.cons (.for q6 q7 ybX) q8))) q9) q10)) q11
   |_=>.nil):=rfl
  rw[hb];erw[ycC,ycN,yb4,yN,xs_cons,xs_nil,x_ite,x_asg,x_for,evi,IC.ve1,IC.ve2,IC.ve6,IC.ve8,IC.ve16,IC.ve18,IC.ve19,evs,AQ,AN,bd_ok,fl_ok,toR_some,ix0,ix1,ix3,zaW,t_bl,on_t,onBl,cond_true,cond_false,c_le,len0,h40,hal,decide_true,hcn,hmax,hmin,bT_n,nxO_some,th_nx,BF,BN,hau,hrg,toL,e]
theorem un8(k:Nat){p0 p6:Option PV}{w n:Int}{I:Nat}(w0:0<=w)(w1:w<=16)(n0:0<=n)(n1:n<=8):∀(vs:List PV) (ps:List T2) (R:Int) (acc:List PV) (u8 u9 u10:Option PV),yah vs=AA ps->0<=R->R+yan w n ps<=4000->acc.length+(yI w n I ps).length<=4000 ->
  ∃v8 v9 v10,yar (yc T (k+2)) (.n 8) ycC vs [p0,AA (.int w),AA (.int n),AA (.int 4000),AA (.loc 0),AA (.int R),p6,AA (.int I),u8,u9,u10] [.lst acc]=.nx [p0,AA (.int w),AA (.int n),AA (.int 4000),AA (.loc 0),AA (.int (R+yan w n ps)),p6,AA (.int I),v8,v9,v10] [.lst (acc++yI w n I ps)]
 |[],ps,R,acc,u8,u9,u10,h,_,_,_=>by
  cases h
  exact⟨u8,u9,u10,by rw[zI];simp[yan,yI]⟩
 |v::vs,ps,R,acc,u8,u9,u10,h,hR0,hR,hl=>by
  unfold yah at h;split at h
  .rename_i a b ha hb
   cases h
   have q1:yan w n (a::b)=a.rnd w n+yan w n b:=by simp[yan]
   have q2:yI w n I (a::b)=a.rows w n I++yI w n I b:=by simp[yI]
   rw[q1]at hR;rw[q2,AM]at hl;let⟨v9,v10,e1⟩:=zif k (p0:=p0) (p6:=p6) (u9:=u9) (u10:=u10) (R:=R) (I:=I) ha (acc:=acc) w0 w1 n0 n1 hR0 ∅ ∅;let⟨x8,x9,x10,e2⟩:=un8 k (p0:=p0) (p6:=p6) (I:=I) w0 w1 n0 n1 vs b (R+a.rnd w n) (acc++a.rows w n I) (AA v) v9 v10 hb ∅ ∅ (by rw[AM];lia);refine⟨x8,x9,x10,?_⟩;rw[zp (ρ1:=[p0,AA (.int w),AA (.int n),AA (.int 4000),AA (.loc 0),AA (.int R),p6,AA (.int I),AA v,u9,u10]) rfl,e1,q1,q2];show yar _ _ _ _ _ _=_;rw[e2,BK,GU,FQ]
  .cases h
def zi0(k:Nat){p0 u8 u9 u10:Option PV}{w n R:Int}{I:Nat}{a b d:Bool}{sn:PV}{vs:List PV}{c m t:Int}{ps:List T2}(hp:yah vs=AA ps){acc:List PV}(w0:0<=w)(w1:w<=16)(n0:0<=n)(n1:n<=8)(hR0:0<=R)(hR:R+1+yan w n ps<=4000)(hl:acc.length+(yI w n I ps).length<=4000):
  ∃v8 v9 v10,exs (yc T (k+2)) [p0,AA (.int w),AA (.int n),AA (.int 4000),AA (.loc 0),AA (.int R),AA (.tp a [.str "rounds",.tp b [.int c,.int m,.int t],sn,.tp d vs]),AA (.int I),u8,u9,u10] [.lst acc] ycN=.nx [p0,AA (.int w),AA (.int n),AA (.int 4000),AA (.loc 0),AA (.int (R+1+yan w n ps)),AA (.tp a [.str "rounds",.tp b [.int c,.int m,.int t],sn,.tp d vs]),AA (.int I),v8,v9,v10] [.lst (acc++yI w n I ps)]:=by
 let⟨v8,v9,v10,e⟩:=un8 k (p0:=p0) (p6:=AA (.tp a [.str "rounds",.tp b [.int c,.int m,.int t],sn,.tp d vs])) (I:=I) w0 w1 n0 n1 vs ps (R+1) acc u8 u9 u10 hp ∅ hR hl;refine⟨v8,v9,v10,?_⟩;have hau:∀st,ex (yc T (k+2)) [p0,AA (.int w),AA (.int n),AA (.int 4000),AA (.loc 0),AA (.int R),AA (.tp a [.str "rounds",.tp b [.int c,.int m,.int t],sn,.tp d vs]),AA (.int I),u8,u9,u10] st (.aug 5 .add (.cst (.int 1)))=.nx [p0,AA (.int w),AA (.int n),AA (.int 4000),AA (.loc 0),AA (.int (R+1)),AA (.tp a [.str "rounds",.tp b [.int c,.int m,.int t],sn,.tp d vs]),AA (.int I),u8,u9,u10] st:=λst=>zjl rfl (by erw[IC.ve1]);have hb:ycN=.cons (.aug 5 .add (.cst (.int 1))) (.cons (.for (.n 8) (.seq (.idx (.var 6) (.cst (.int 3)))) ycC) (.cons (.ite (.or (.cmp .gt (.var 5) (.cst (.int 4000))) (.cmp .gt (.blt .len (.cons (.var 4) .nil)) (.var 3))) (.cons (.ret (.cst .non)) .nil) .nil) .nil)):=rfl;have g1:¬(4000:Int)<R+1+yan w n ps:=by lia
 have g2:¬(4000:Int)<((acc++yI w n I ps).length:Nat):=by rw[AM];lia
 rw[hb];erw[xs_cons,xs_nil,x_ite,x_for,evi,hau,IC.ve1,IC.ve2,IC.ve7,IC.ve8,IC.ve16,IC.ve19,evs,AQ,AN,bd_ok,fl_ok,toR_some,ix3,th_nx,e,c_gt,len0,g1,g2,decide_false,onBl,cond_false,t_bl,on_t]
theorem un7(k:Nat){p0:Option PV}{w n R:Int}{a b d:Bool}{sn:PV}{vs:List PV}{c m t:Int}{ps:List T2}(hp:yah vs=AA ps){acc:List PV}{N:Nat}{u7 u8 u9 u10:Option PV}(w0:0<=w)(w1:w<=16)(n0:0<=n)(n1:n<=8)(hR0:0<=R)(hR:R+(N*(1+yan w n ps):Nat)<=4000)(hl:acc.length+(upTo (λI=>yI w n I ps) N).length<=4000):
  ∃v7 v8 v9 v10,yar (yc T (k+2)) (.n 7) ycN (yr N 0 1) [p0,AA (.int w),AA (.int n),AA (.int 4000),AA (.loc 0),AA (.int R),AA (.tp a [.str "rounds",.tp b [.int c,.int m,.int t],sn,.tp d vs]),u7,u8,u9,u10] [.lst acc]=.nx [p0,AA (.int w),AA (.int n),AA (.int 4000),AA (.loc 0),AA (.int (R+(N*(1+yan w n ps):Nat))),AA (.tp a [.str "rounds",.tp b [.int c,.int m,.int t],sn,.tp d vs]),v7,v8,v9,v10] [.lst (acc++upTo (λI=>yI w n I ps) N)]:=by
 let⟨ρ',st',h1,v7,v8,v9,v10,rfl,rfl⟩:=zb7 (call:=yc T (k+2)) (t:=.n 7) (b:=ycN) (λi ρ st=>∃v7 v8 v9 v10,ρ=[p0,AA (.int w),AA (.int n),AA (.int 4000),AA (.loc 0),AA (.int (R+(i*(1+yan w n ps):Nat))),AA (.tp a [.str "rounds",.tp b [.int c,.int m,.int t],sn,.tp d vs]),v7,v8,v9,v10]/\st=[.lst (acc++upTo (λI=>yI w n I ps) i)]) (yr N 0 1) 0 [p0,AA (.int w),AA (.int n),AA (.int 4000),AA (.loc 0),AA (.int R),AA (.tp a [.str "rounds",.tp b [.int c,.int m,.int t],sn,.tp d vs]),u7,u8,u9,u10] [.lst acc] ⟨u7,u8,u9,u10,by simp,by simp[upTo]⟩ (by
  rintro j x ρ st hx ⟨v7,v8,v9,v10,rfl,rfl⟩
  let⟨rfl,hj⟩:=zap N 0 j x hx;rw[BV,Ft];have hle:=zcu (λI=>yI w n I ps) (i:=j+1) N ∅;have hmu:(j+1)*(1+yan w n ps)<=N*(1+yan w n ps):=CG _ ∅;have hms:(j+1)*(1+yan w n ps)=j*(1+yan w n ps)+(1+yan w n ps):=DA _ _;erw[upTo,AM]at hle hl;let⟨x8,x9,x10,e⟩:=zi0 k (p0:=p0) (u8:=v8) (u9:=v9) (u10:=v10) (R:=R+(j*(1+yan w n ps):Nat)) (I:=j) (a:=a) (b:=b) (d:=d) (sn:=sn) (c:=c) (m:=m) (t:=t) hp (acc:=acc++upTo (λI=>yI w n I ps) j) w0 w1 n0 n1 ∅ ∅ (by erw[AM];lia);refine⟨_,_,_,rfl,e,AA (.int j),x8,x9,x10,?_,?_⟩
  .rw[hms];erw[List.cons.injEq,and_true,true_and,C2,PV.int.injEq];lia
  .rw[upTo,BK])
 rw[z6,BV]at h1;exact⟨v7,v8,v9,v10,h1⟩
def zhR(k:Nat){p0 u7 u8 u9 u10:Option PV}{w n R:Int}{v:PV}{p:T1}(hp:part1 v=AA p){acc:List PV}(w0:0<=w)(w1:w<=16)(n0:0<=n)(n1:n<=8)(hR0:0<=R)(hR:R+p.rnd w n<=4000)(hl:acc.length+(p.rows w n).length<=4000):
  ∃v7 v8 v9 v10,exs (yc T (k+2)) [p0,AA (.int w),AA (.int n),AA (.int 4000),AA (.loc 0),AA (.int R),AA v,u7,u8,u9,u10] [.lst acc] yb4=.nx [p0,AA (.int w),AA (.int n),AA (.int 4000),AA (.loc 0),AA (.int (R+p.rnd w n)),AA v,v7,v8,v9,v10] [.lst (acc++p.rows w n)]:=by
 rcases zc2 hp with⟨r,rfl,hr⟩|⟨a,b,sn,d,vs,c,m,t,ps,rfl,rfl,hd,hc,hm,ht⟩
 .let⟨f,v1,rfl,h1⟩:=zcC hr;have hpl:=zcG k h1 0 0 n [.lst acc];have hal:acc.length<1000000:=by lia
  refine⟨u7,u8,u9,u10,?_⟩;erw[yb4,yN,xs_cons,xs_nil,x_ite,x_expr,IC.ve1,IC.ve2,IC.ve8,IC.ve16,IC.ve18,IC.ve20,evs,AQ,AN,bd_ok,fl_ok,toR_some,ix0,ix1,zaF,t_bl,on_t,cond_true,ono,zjj,hpl,zok hal,th_nx,T1.rnd,T1.rows];simp
 .have hcn:=zdH (k+1) (b:=b) (c:=c) (w:=w) hm ht n0 n1 [.lst acc];have hcb:=zaH hc hm ht w0 w1 n0 n1;erw[T1.rnd,T1.rows]at hR hl ⊢;let⟨v7,v8,v9,v10,e⟩:=un7 k (p0:=p0) (R:=R) (a:=a) (b:=b) (d:=d) (sn:=sn) (c:=c) (m:=m) (t:=t) hd (acc:=acc) (N:=cnt c m t w n) (u7:=u7) (u8:=u8) (u9:=u9) (u10:=u10) w0 w1 n0 n1 hR0 hR hl;have hN1:cnt c m t w n<=cnt c m t w n*(1+yan w n ps):=Nat.le_mul_of_pos_right _ ∅;have hmin:yZ .min [Ob.lst acc] [.int (c+m*n+t*w*n),.int 4001]=AA (.int (c+m*n+t*w*n)):=by
   erw[yZ,yee];rw[if_neg (by unfold cnt at *;lia)]
  have hrg:ybk (.int (c+m*n+t*w*n))=AA (yr (cnt c m t w n) 0 1):=zhe hcb;refine⟨v7,v8,v9,v10,?_⟩
  have hb:yb4=(match yb4 with
   |.cons (.ite q1 q2 (.cons (.for q6 q7 _) q8)) q11=>.cons (.ite q1 q2 (.cons (.for q6 q7 ycN) q8)) q11
   |_=>.nil):=rfl
  rw[hb];erw[yb4,yN,xs_cons,xs_nil,x_ite,x_for,evi,IC.ve1,IC.ve2,IC.ve8,IC.ve16,IC.ve18,IC.ve19,evs,AQ,AN,bd_ok,fl_ok,toR_some,ix0,ix1,zaW,t_bl,on_t,cond_false,hcn,hmin,hrg,toL,e,th_nx]
theorem un6(k:Nat){p0:Option PV}{w n:Int}(w0:0<=w)(w1:w<=16)(n0:0<=n)(n1:n<=8):∀(vs:List PV) (ps:List T1) (R:Int) (acc:List PV) (u6 u7 u8 u9 u10:Option PV),yaj vs=AA ps->0<=R->R+yaJ w n ps<=4000->acc.length+(yE w n ps).length<=4000 ->
  ∃v6 v7 v8 v9 v10,yar (yc T (k+2)) (.n 6) yb4 vs [p0,AA (.int w),AA (.int n),AA (.int 4000),AA (.loc 0),AA (.int R),u6,u7,u8,u9,u10] [.lst acc]=.nx [p0,AA (.int w),AA (.int n),AA (.int 4000),AA (.loc 0),AA (.int (R+yaJ w n ps)),v6,v7,v8,v9,v10] [.lst (acc++yE w n ps)]
 |[],ps,R,acc,u6,u7,u8,u9,u10,h,_,_,_=>by
  cases h
  exact⟨u6,u7,u8,u9,u10,by rw[zI];simp[yaJ,yE]⟩
 |v::vs,ps,R,acc,u6,u7,u8,u9,u10,h,hR0,hR,hl=>by
  unfold yaj at h;split at h
  .rename_i a b ha hb
   cases h
   have q1:yaJ w n (a::b)=a.rnd w n+yaJ w n b:=by simp[yaJ]
   have q2:yE w n (a::b)=a.rows w n++yE w n b:=by simp[yE]
   rw[q1]at hR;rw[q2,AM]at hl;let⟨v7,v8,v9,v10,e1⟩:=zhR k (p0:=p0) (u7:=u7) (u8:=u8) (u9:=u9) (u10:=u10) (R:=R) ha (acc:=acc) w0 w1 n0 n1 hR0 ∅ ∅;let⟨x6,x7,x8,x9,x10,e2⟩:=un6 k (p0:=p0) w0 w1 n0 n1 vs b (R+a.rnd w n) (acc++a.rows w n) (AA v) v7 v8 v9 v10 hb ∅ ∅ (by rw[AM];lia);refine⟨x6,x7,x8,x9,x10,?_⟩;rw[zp (ρ1:=[p0,AA (.int w),AA (.int n),AA (.int 4000),AA (.loc 0),AA (.int R),AA v,u7,u8,u9,u10]) rfl,e1,q1,q2];show yar _ _ _ _ _ _=_;rw[e2,BK,GU,FQ]
  .cases h
def zoW(k:Nat){b:Bool}{vs:List PV}{ps:List T1}{w n:Int}(hv:nLs vs=AC)(hp:yaj vs=AA ps)(w0:0<=w)(w1:w<=16)(n0:0<=n)(n1:n<=8)(hR:yaJ w n ps<=4000)(hl:(yE w n ps).length<=4000)(hno:nLs (yE w n ps)=AC)(st:SO):
  yc T (k+3) yis [.tp b vs,.int w,.int n,.int 4000] st=.ok (.lst (yE w n ps)) st:=by
 let⟨v6,v7,v8,v9,v10,e⟩:=un6 k (p0:=AA (.tp b vs)) w0 w1 n0 n1 vs ps 0 [] AD AD AD AD AD hp ∅ ∅ (by simpa using hl);rw[BD]at e;have hT:T yis=AA ⟨4,11,AC,yN.body⟩:=rfl;have hb:yN.body=.cons (.asg (.n 4) (.newl .nil)) (.cons (.asg (.n 5) (.cst (.int 0))) (.cons (.for (.n 6) (.seq (.var 0)) yb4) (.cons (.ite (.cmp .gt (.blt .len (.cons (.var 4) .nil)) (.var 3)) (.cons (.ret (.cst .non)) .nil) .nil) (.cons (.ret (.frz (.var 4))) .nil)))):=rfl;have hnl:nLs [.tp b vs,.int w,.int n,.int 4000]=true:=by simp[nLs,nL,hv]
 have g:¬(4000:Int)<((yE w n ps).length:Nat):=by lia
 have hf:ycx (.loc 0) [.lst (yE w n ps)]=.ok (.lst (yE w n ps)) [.dead]:=rfl;rw[yc,hT,hb];erw[AW,Av,BV,C0,if_true,hnl,AX,BM,Bu,Aj,BA,BD,xs_cons,xs_nil,x_asg,x_for,x_ite,x_ret,evi,IC.ve1,IC.ve2,IC.ve8,IC.ve13,IC.ve19,IC.ve25,evs,AQ,AN,bd_ok,fl_ok,toR_some,sizeMax,Ab,bT_n,nxO_some,th_nx,th_rt,BF,BN,e,len0,c_gt,g,decide_false,t_bl,on_t,cond_false,hf,nL,hno]
def zmU{l:PV}(h:ltr l=AC):∃c,97<=c/\c<=122/\l=.str (chS c):=by
 cases l with
 |str s=>
  erw[ltr]at h;split at h
  .rename_i c e;erw[AG,decide_eq_true_eq]at h;exact⟨c,h.1,h.2,by rw[zgk s e];rfl⟩
  .cases h
 |_=>cases h
def zdp{lo hi:Int}{v:PV}(h:wh lo hi v=AC):∃i,v=.int i/\lo<=i/\i<=hi:=by
 cases v with
 |int i=>erw[wh,AG,decide_eq_true_eq]at h;exact⟨i,rfl,h⟩
 |_=>cases h
def znC{x:PV}(h:yaw AC x=AC \/ wh 0 1 x=AC):∃o,ycO x=AA o/\∀I J n,tam 3 10 (o.pv I J n)=true:=by
 rcases h with h|h
 .cases x with
  |tp b xs=>
   match xs,h with
   |[l,a],h=>
    erw[yaw,plS,AG]at h;let⟨c,c0,c1,rfl⟩:=zmU h.1
    cases a with
    |tp b2 ys=>
     have h:=h.2;erw[told,AG,decide_eq_true_eq,Ag]at h
     match ys,h with
     |[y1,y2,y3,y4],h=>
      let⟨i1,rfl,p1,q1⟩:=zdp (h.2 y1 (by simp));let⟨i2,rfl,p2,q2⟩:=zdp (h.2 y2 (by simp));let⟨i3,rfl,p3,q3⟩:=zdp (h.2 y3 (by simp));let⟨i4,rfl,p4,q4⟩:=zdp (h.2 y4 (by simp));have s1:sm i1=true:=decide_eq_true ∅;have s2:sm i2=true:=decide_eq_true ∅;have s3:sm i3=true:=decide_eq_true ∅;have s4:sm i4=true:=decide_eq_true ∅;refine⟨.cel ⟨c,i1,i2,i3,i4⟩,?_,λI J n=>?_⟩
      .have e:(chS c).cps.getD 0 0=c:=rfl;erw[ycO,intOf,ycJ,yeU,opC,strOf,ydS,ydq,Az,e,s1,s2,s3,s4,Bg,and_self,if_true]
      .show tam 3 10 (.tp AB [.str ⟨#[c]⟩,.int _])=AC;refine zD.2 ⟨by lia,by simp,λx hx=>?_⟩;erw[AL,AZ,or_false]at hx;rcases hx with rfl|rfl
       .exact zgF ∅ ∅
       .rfl
    |_=>cases h.2
   |[],h=>cases h
   |[_],h=>cases h
   |_::_::_::_,h=>cases h
  |_=>cases h
 .let⟨i,rfl,_⟩:=zdp h;exact⟨.fig i,rfl,λ_ _ _=>rfl⟩
def zi3:∀vs:List PV,(∀x∈vs,yaw AC x=AC \/ wh 0 1 x=AC)->∃ops,yaK vs=AA ops/\∀I J n,∀y∈ops.map (Op.pv I J n),tam 3 10 y=AC
 |[],_=>⟨[],rfl,by simp⟩
 |v::vs,h=>by
  let⟨o,e1,t1⟩:=znC (h v (by simp));let⟨os,e2,t2⟩:=zi3 vs λx hx=>h x (by simp[hx]);refine⟨o::os,by erw[yaK,e1,e2],λI J n y hy=>?_⟩;rw[AX]at hy;rcases AL.1 hy with rfl|hy
  .exact t1 I J n
  .exact t2 I J n y hy
def zgY:∀(ks vs:List PV),vs.length=ks.length->(yac ks vs).all (prS AC)=AC->∀x∈vs,yaw AC x=AC \/ wh 0 1 x=AC
 |[],[],_,_,x,hx=>by simp at hx
 |k::ks,v::vs,hl,h,x,hx=>by
  rw[yac,Ay,AG]at h;rcases AL.1 hx with rfl|hx
  .have h1:opS AC k x=true:=h.1;unfold opS at h1;split at h1
   .exact .inr h1
   .exact .inl h1
  .exact zgY ks vs (by simpa using hl) h.2 x hx
 |[],_::_,hl,_,_,_=>by simp at hl
 |_::_,[],hl,_,x,hx=>by simp at hx
def zfK{v:PV}(h:isR v):∃r,rowOf v=AA r/\∀I J n,tam 4 10 (r.pv I J n)=true:=by
 let⟨h1,h2⟩:=h
 cases v with
 |tp b xs=>
  match xs,h1,h2 with
  |.str s::vs,h1,h2=>
   let⟨_,hl,ht⟩:=zD.1 h2;erw[yae]at h1;split at h1
   .rename_i kb ks e;erw[AG,decide_eq_true_eq]at h1;let⟨ops,e1,t1⟩:=zi3 vs (zgY ks vs h1.1 h1.2.1);have hl2:vs.length<100:=by erw[AW]at hl;lia
    refine⟨⟨s,ops⟩,by erw[rowOf,e1,if_pos hl2],λI J n=>?_⟩;have ol:=zc3 e1;refine zD.2 ⟨by lia,by erw[AW,Af]at hl ⊢;lia,λx hx=>?_⟩;rcases AL.1 hx with rfl|hx
    .exact ht _ (by simp)
    .exact t1 I J n x hx
   .cases h1
 |_=>cases h1
def zhL{ok:Bool}{f:PV->Bool}{r:PV}(h:yae AC r=AC):prt ok f (.tp AB [.str ya0,r])=true:=by
 have h1:peq (.str ya0) (.str ya0)=true:=by ac_rfl
 erw[prt,h1,if_true,in1,h]
def zhS{f:PV->Bool}{c s:PV}{ps:List PV}(hc:told 3 c=AC)(hs:sen s=AC)(hp:∀p∈ps,f p=AC):prt AC f (.tp AB [.str ybb,c,s,.tp AB ps])=true:=by
 have h1:peq (.str ybb) (.str ya0)=false:=by ac_rfl
 have h2:peq (.str ybb) (.str ybb)=true:=by ac_rfl
 erw[prt,h1,h2,Ap,if_false,in3,hc,hs,yaO,Ag.2 hp,Bg]
def isQ(f:PV->Bool)(d:Nat)(v:PV):Prop:=f v=AC/\tam d 10 v=AC
def zkN{ok:Bool}{f:PV->Bool}{r:PV}{d:Nat}(hd:5<=d)(h:isR r):isQ (prt ok f) d (.tp AB [.str ya0,r]):=by
 refine⟨zhL h.1,zD.2 ⟨by lia,by simp,λx hx=>?_⟩⟩;erw[AL,AZ,or_false]at hx;rcases hx with rfl|rfl
 .exact za6 (d:=0) (m:=10) ∅ ∅ _ (by decide +kernel)
 .exact za6 ∅ ∅ _ h.2
def zmv{f:PV->Bool}{c s:PV}{ps:List PV}{d:Nat}(hd:5<=d){w n:Int}(hc:yc5 w n c)(hs:isS s)(hl:ps.length<=10)(hp:∀p∈ps,isQ f d p):isQ (prt AC f) (d+2) (.tp AB [.str ybb,c,s,.tp AB ps]):=by
 refine⟨zhS (zka hc) hs.1 λp h=>(hp p h).1,zD.2 ⟨by lia,by simp,λx hx=>?_⟩⟩;erw[AL,AZ,or_false]at hx;rcases hx with rfl|rfl|rfl|rfl
 .exact za6 (d:=0) (m:=10) ∅ ∅ _ (by decide +kernel)
 .exact za6 ∅ ∅ _ (zmh hc)
 .exact za6 ∅ ∅ _ hs.2
 .exact zD.2 ⟨by lia,by lia,λx hx=>za6 ∅ ∅ _ (hp x hx).2⟩
def P2(w n:Int)(v:PV):Prop:=isQ yds 7 v/\∃p,part2 v=AA p/\∀w',Wd w n w'->p.rnd w' n<=12/\p.ak w' n<=13/\∀I,(p.rows w' n I).length<=24/\∀x∈p.rows w' n I,tam 4 10 x=AC
def P1(w n:Int)(v:PV):Prop:=isQ ydz 9 v/\∃p,part1 v=AA p/\∀w',Wd w n w'->p.rnd w' n<=300/\p.ak w' n<=400/\(p.rows w' n).length<=600/\∀x∈p.rows w' n,tam 4 10 x=AC
def zey{r:PV}{q:Rs}(h:rowOf r=AA q):ybK (.tp AB [.str ya0,r])=AA q:=by
 have e:ycU ya0=true:=decide_eq_true rfl;erw[ybK,e,if_true,h]
def zeS(r:PV):ycy (.tp AB [.str ya0,r])=none:=rfl
def zhp{a b c:Int}{s:PV}{ys:List PV}(h:-200<=a/\a<=200/\-200<=b/\b<=200/\-200<=c/\c<=200):ycy (.tp AB [.str ybb,.tp AB [.int a,.int b,.int c],s,.tp AB ys])=AA (a,b,c,ys):=by
 have e:yb8 ybb=true:=decide_eq_true rfl;have s1:sm a=true:=decide_eq_true ∅;have s2:sm b=true:=decide_eq_true ∅;have s3:sm c=true:=decide_eq_true ∅;erw[ycy,ycJ,ydq,strOf,ye3,ydS,intOf,Az,BA,BD,e,s1,s2,s3,Bg,if_true]
def zlL{w n:Int}{r:PV}(h:isR r):P2 w n (.tp AB [.str ya0,r]):=by
 let⟨q,e,t⟩:=zfK h;refine⟨zkN ∅ h,.row q,by erw[part2,zeS,zey e,Bd],λw' _=>⟨Ab _,Ab _,λI=>⟨by simp[T2.rows],λx hx=>?_⟩⟩⟩;erw[T2.rows,AL,AZ,or_false]at hx;rw[hx];exact t _ _ _
def zm2{w n:Int}{r:PV}(h:isR r):P1 w n (.tp AB [.str ya0,r]):=by
 let⟨q,e,t⟩:=zfK h;refine⟨zkN ∅ h,.row q,by erw[part1,zeS,zey e,Bd],λw' _=>⟨Ab _,Ab _,by simp[T1.rows],λx hx=>?_⟩⟩;erw[T1.rows,AL,AZ,or_false]at hx;rw[hx];exact t _ _ _
def zhd:∀ys:List PV,(∀y∈ys,∃r,isR r/\y=.tp AB [.str ya0,r])->∃rs,deepOf ys=AA rs/\rs.length=ys.length/\∀r∈rs,∀I J n,tam 4 10 (r.pv I J n)=AC
 |[],_=>⟨[],rfl,rfl,by simp⟩
 |y::ys,h=>by
  let⟨r,hr,rfl⟩:=h y (by simp);let⟨q,e,t⟩:=zfK hr;let⟨rs,e2,l2,t2⟩:=zhd ys λx hx=>h x (by simp[hx]);refine⟨q::rs,by erw[deepOf,zey e,e2],by simp[l2],λx hx=>?_⟩;rcases AL.1 hx with rfl|hx
  .exact t
  .exact t2 x hx
def zgh{α:Type}{f:Nat->List α}{m:Nat}(h:∀J,(f J).length<=m):∀N,(upTo f N).length<=N*m
 |0=>by simp[upTo]
 |N+1=>by
  have:=zgh h N;have:=h N;rw[upTo,AM,DA];lia
def zee{α:Type}{f:Nat->List α}{x:α}:∀{N:Nat},x∈upTo f N->∃J,x∈f J
 |0,h=>by simp[upTo]at h
 |N+1,h=>by
  rcases Ak.1 h with h|h
  .exact zee h
  .exact⟨N,h⟩
def zmJ{w n:Int}{c s:PV}{ys:List PV}(hc:yc5 w n c)(hs:isS s)(hl:ys.length<=2)(hd:∀y∈ys,∃r,isR r/\y=.tp AB [.str ya0,r]):P2 w n (.tp AB [.str ybb,c,s,.tp AB ys]):=by
 let⟨rs,e,l,t⟩:=zhd ys hd;refine⟨zmv (d:=5) ∅ hc hs ∅ λy hy=>(by let⟨r,hr,rfl⟩:=hd y hy;exact zkN ∅ hr),?_⟩;let⟨a,b,c,rfl,h⟩:=hc;refine⟨.rounds a b c rs,by erw[part2,zhp ⟨h.1,h.2.1,h.2.2.1,h.2.2.2.1,h.2.2.2.2.1,h.2.2.2.2.2.1⟩,e,Bd],λw' hw=>?_⟩;have hN:cnt a b c w' n<=12:=by have:=h.2.2.2.2.2.2 w' hw;unfold cnt;lia
 refine⟨hN,Nat.succ_le_succ hN,λI=>⟨?_,λx hx=>?_⟩⟩
 .have:=zgh (f:=λJ=>rs.map λr=>r.pv I J n) (m:=2) (λJ=>by rw[Af];lia) (cnt a b c w' n);erw[T2.rows];lia
 .let⟨J,hx⟩:=zee hx;let⟨r,hr,rfl⟩:=D5.1 hx;exact t r hr _ _ _
def zd6{w n:Int}:∀ys:List PV,(∀y∈ys,P2 w n y)->∃ps,yah ys=AA ps/\∀w',Wd w n w'->yan w' n ps<=ys.length*12/\ak2 w' n ps<=ys.length*13/\∀I,(yI w' n I ps).length<=ys.length*24/\∀x∈yI w' n I ps,tam 4 10 x=AC
 |[],_=>⟨[],rfl,λ_ _=>⟨by simp[yan],by simp[ak2],λI=>by simp[yI]⟩⟩
 |y::ys,h=>by
  let⟨_,p,e,f⟩:=h y (by simp);let⟨ps,e2,f2⟩:=zd6 ys λx hx=>h x (by simp[hx]);refine⟨p::ps,by erw[yah,e,e2],λw' hw=>?_⟩;let⟨a1,a2,a3⟩:=f w' hw;let⟨b1,b2,b3⟩:=f2 w' hw;rw[AW];refine⟨?_,?_,λI=>⟨?_,λx hx=>?_⟩⟩
  .rw[yan,AX,EI,<-yan];lia
  .rw[ak2,AX,EI,<-ak2];lia
  .have:=(a3 I).1;have:=(b3 I).1
   rw[yI,CJ,AM,<-yI];lia
  .rw[yI,CJ]at hx;rcases Ak.1 hx with hx|hx
   .exact(a3 I).2 x hx
   .exact(b3 I).2 x hx
def zlW{w n:Int}{c s:PV}{ys:List PV}(hc:yc5 w n c)(hs:isS s)(hl:ys.length<=2)(hd:∀y∈ys,P2 w n y):P1 w n (.tp AB [.str ybb,c,s,.tp AB ys]):=by
 let⟨ps,e,f⟩:=zd6 ys hd;refine⟨zmv (d:=7) ∅ hc hs ∅ λy hy=>(hd y hy).1,?_⟩;let⟨a,b,c,rfl,h⟩:=hc;refine⟨.rounds a b c ps,by erw[part1,zhp ⟨h.1,h.2.1,h.2.2.1,h.2.2.2.1,h.2.2.2.2.1,h.2.2.2.2.2.1⟩,e,Bd],λw' hw=>?_⟩;have hN:cnt a b c w' n<=12:=by have:=h.2.2.2.2.2.2 w' hw;unfold cnt;lia
 let⟨f1,f2,f3⟩:=f w' hw;refine⟨?_,?_,?_,λx hx=>?_⟩
 .have:=DB hN (show 1+yan w' n ps<=25 by lia);erw[T1.rnd];lia
 .have:=DB hN (show 1+ak2 w' n ps<=27 by lia);erw[T1.ak];lia
 .have:=zgh (f:=λI=>yI w' n I ps) (m:=48) (λI=>by have:=(f3 I).1;lia) (cnt a b c w' n);erw[T1.rows];lia
 .let⟨I,hx⟩:=zee hx;exact(f3 I).2 x hx
def deE:Ce:=.tup (.cons (.cst (.str ya0)) (.cons (.call yiw (.cons (.var 1) .nil)) .nil))
def zol{ns:List Int}(hns:ns.length<=1000)(k:Nat){B:SO}:∀(N:Nat) (a:Int) (st:SO),Frm ns B st->∃ys st',ys.length=N/\(∀y∈ys,∃r,isR r/\y=.tp AB [.str ya0,r])/\Frm ns B st' /\
  yV (yc T (k+5)) [AD,AA (.loc 0)] (.n 0) (.cst (.bl AC)) deE (yr N a 1) st=.ok ys st'
 |0,a,st,h=>⟨[],st,rfl,by simp,h,by rw[yr,zag]⟩
 |N+1,a,st,h=>by
  let⟨r,s1,hr,g1,e1⟩:=zdK hns k h;let⟨ys,s3,l,t,g3,e3⟩:=zol hns k N (a+1) s1 g1;refine⟨.tp AB [.str ya0,r]::ys,s3,by simp[l],λy hy=>?_,g3,?_⟩
  .rcases AL.1 hy with rfl|hy
   .exact⟨r,hr,rfl⟩
   .exact t y hy
  .have one:yaA (yc T (k+5)) [AD,AA (.loc 0)] (.n 0) (.cst (.bl AC)) deE (.int a) st=.ok (AA (.tp AB [.str ya0,r])) s1:=by
    simp! [yaA,deE,e1,Ab]
   rw[yr,zH,one,bd_ok,e3,bd_ok];rfl
def teB:Css:=match yq.body with
 |.cons _ (.cons (.for _ _ b) _)=>b
 |_=>.nil
def inB:Css:=match teB with
 |.cons (.ite _ _ (.cons _ (.cons (.for _ _ b) _))) _=>b
 |_=>.nil
def inT:Css:=match inB with
 |.cons _ r=>r
 |x=>x
theorem inE:inB=(match yq.body with
 |.cons _ (.cons (.for _ _ (.cons (.ite _ _ (.cons _ (.cons (.for _ _ (.cons (.asg t (.comp sl tg it c _)) _)) _))) _)) _)=>.cons (.asg t (.comp sl tg it c deE)) inT
 |x=>x):=rfl
def zf2{ns:List Int}(hns:ns.length<=1000)(k:Nat){w n:Int}(w0:0<=w)(w1:w<=1000)(n0:0<=n)(n4:n<=4){B st:SO}(h:Frm ns B st){L:Nat}(hL:L≠0)(hB:B.length<=L){acc:List PV}(hs:st[L]?=AA (.lst acc))(hl:acc.length<9)(ha:∀y∈acc,P2 w n y){p3 p4 p6 p7:Option PV}:
  ∃L' acc' q7 st',L'≠0/\B.length<=L'/\acc'.length<=acc.length+1/\(∀y∈acc',P2 w n y)/\Frm ns B st'/\st'[L']?=AA (.lst acc') /\
   exs (yc T (k+5)) [AA (.loc 0),AA (.int w),AA (.int n),p3,p4,AA (.loc L),p6,p7] st inB=.nx [AA (.loc 0),AA (.int w),AA (.int n),p3,p4,AA (.loc L'),p6,q7] st':=by
 have hL1:L<st.length:=(A2.1 hs).1;let⟨m,s1,m0,m1,o1,e1⟩:=zbU (k+2) hns (m:=3) ∅ ∅ (Frm.refl h.dr);have e1:yc T (k+5) ya [.loc 0,.int 3] st=_:=e1;let⟨m,rfl⟩:=zbJ m0;let⟨ys,s2,l2,t2,f2,e2⟩:=zol hns k (B:=st) m 0 s1 (o1.frm (Frm.refl h.dr));let⟨u,s3,u0,u1,o3,e3⟩:=zbU (k+2) hns (m:=2) ∅ ∅ f2;have e3:yc T (k+5) ya [.loc 0,.int 2] s2=_:=e3;have f3:=o3.frm f2;have hs3:s3[L]?=AA (.lst acc):=by rw[f3.get L hL hL1];exact hs
 have g3:=h.trans f3;have hr:=zaY m ∅;have hE:ya5 (.ok ys s2)=.ok (.lst ys) s2:=z7 _ ∅ _;have hd:∀y∈ys,P2 w n y:=λy hy=>by
  let⟨r,hr,rfl⟩:=t2 y hy;exact zlL hr
 have go:exs (yc T (k+5)) [AA (.loc 0),AA (.int w),AA (.int n),p3,p4,AA (.loc L),p6,p7] st inB=exs (yc T (k+5)) [AA (.loc 0),AA (.int w),AA (.int n),p3,p4,AA (.loc L),p6,AA (.lst ys)] s2 inT:=by
  rw[inE];simp! [yq,e1,hr,e2,hE]
 rw[go]
 cases hq:(u==0)with
 |true=>
  have cl:=zj1 ys AD (AA 1);have hf:ycx (.loc L) s3=.ok (.lst acc) (s3.set L .dead):=by erw[ycx,hs3]
  have hsl:yb3 (.lst ys) AD (AA 1)=AA (.lst (cut ys AD (AA 1))):=rfl;have c1:(cut ys AD (AA 1)).length<=1:=by
   unfold cut;rw[CO];have:yb5 ys.length (AA 1)<=1:=by simp[yb5,yaU];lia
   lia
  have had:yP .add (.lst acc) (.lst (cut ys AD (AA 1)))=AA (.lst (acc++cut ys AD (AA 1))):=by
   erw[yP];rw[if_pos (by erw[sizeMax];lia)]
  refine⟨(s3.set L .dead).length,acc++cut ys AD (AA 1),AA (.lst ys),(s3.set L .dead)++[.lst (acc++cut ys AD (AA 1))],?_,?_,by rw[AM];lia,λy hy=>?_,(g3.put hL hB _).app _,by simp,?_⟩
  .rw[BB];have:=g3.pos;lia
  .rw[BB];exact g3.len
  .rcases Ak.1 hy with hy|hy
   .exact ha y hy
   .exact hd y (zkS hy)
  .have hth:∀v s,ycK (.lst v) s=.ok (.loc s.length) (s++[.lst v]):=λ_ _=>rfl;simp! [inT,inB,teB,yq,e3,hq,IC.ve30,hf,zkx,zbK,zlo,hsl,had,hth]
 |false=>
  let⟨c,s4,hc,g4,e4⟩:=zcL (n:=n) hns (k+1) (Frm.refl f3.dr) w0 w1 n0 n4;let⟨s,s5,hss,g5,e5⟩:=zbm hns k (Frm.refl g4.dr);have e4:yc T (k+5) yib [.loc 0,.int w,.int n] s3=_:=e4;have ln3:=f3.len;have ln4:=g4.len;have hs5:s5[L]?=AA (.lst acc):=by rw[g5.get L hL ∅,g4.get L hL ∅];exact hs3
  have tu:∀s,yZ .tuple s [.lst ys]=AA (.tp AB ys):=λs=>rfl;let⟨m1',m2'⟩:=za7 (v:=.tp AB [.str ybb,c,s,.tp AB ys]) hs5 ∅;have hmk:yao .append s3 (.loc L)=AA true:=(za7 (v:=.non) hs3 ∅).1;refine⟨L,acc++[.tp AB [.str ybb,c,s,.tp AB ys]],AA (.lst ys),s5.set L (.lst (acc++[.tp AB [.str ybb,c,s,.tp AB ys]])),hL,hB,by simp,λy hy=>?_,((g3.trans g4).trans g5).put hL hB _,rdS hs5,?_⟩
  .rcases Ak.1 hy with hy|hy
   .exact ha y hy
   .simp only[AL,AZ,or_false]at hy;rw[hy];exact zmJ hc hss ∅ t2
  .simp! [inT,inB,teB,yq,e3,hq,hmk,e4,e5,tu,m2',Ab]
def zom{ns:List Int}(hns:ns.length<=1000)(k:Nat){w n:Int}(w0:0<=w)(w1:w<=1000)(n0:0<=n)(n4:n<=4){B:SO}{p3 p4:Option PV}:∀(N:Nat) (a:Int) (acc:List PV) (L:Nat) (p6 p7:Option PV) (st:SO),Frm ns B st->L≠0->B.length<=L->st[L]?=AA (.lst acc)->acc.length+N<=9->(∀y∈acc,P2 w n y) ->
  ∃L' acc' q6 q7 st',L'≠0/\acc'.length<=acc.length+N/\(∀y∈acc',P2 w n y)/\Frm ns B st'/\st'[L']?=AA (.lst acc') /\
   yar (yc T (k+5)) (.n 6) inB (yr N a 1) [AA (.loc 0),AA (.int w),AA (.int n),p3,p4,AA (.loc L),p6,p7] st=.nx [AA (.loc 0),AA (.int w),AA (.int n),p3,p4,AA (.loc L'),q6,q7] st'
 |0,a,acc,L,p6,p7,st,h,h0,hB,hs,hl,ha=>⟨L,acc,p6,p7,st,h0,AS _,ha,h,hs,by rw[yr,zI]⟩
 |N+1,a,acc,L,p6,p7,st,h,h0,hB,hs,hl,ha=>by
  let⟨L1,acc1,q7,s1,a1,a2,a3,a4,a5,a6,e1⟩:=zf2 (n:=n) hns k w0 w1 n0 n4 h h0 hB hs ∅ ha (p3:=p3) (p4:=p4) (p6:=AA (.int a)) (p7:=p7);let⟨L',acc',q6,q7,st',b1,b2,b3,b4,b5,b6⟩:=zom (n:=n) hns k w0 w1 n0 n4 (p3:=p3) (p4:=p4) N (a+1) acc1 L1 (AA (.int a)) q7 s1 a5 a1 a2 a6 ∅ a4;refine⟨L',acc',q6,q7,st',b1,by lia,b3,b4,b5,?_⟩;rw[yr,zp (ρ1:=[AA (.loc 0),AA (.int w),AA (.int n),p3,p4,AA (.loc L),AA (.int a),p7]) rfl,e1];exact b6
def teT:Css:=match teB with
 |.cons (.ite _ _ b) _=>b
 |_=>.nil
def yfS:Css:=match teT with
 |.cons _ (.cons _ r)=>r
 |_=>.nil
theorem teE:teB=(match yq.body with
 |.cons _ (.cons (.for _ _ (.cons (.ite c a _) r)) _)=>.cons (.ite c a teT) r
 |x=>x):=rfl
def zoX:teT=(match yq.body with
 |.cons _ (.cons (.for _ _ (.cons (.ite _ _ (.cons a (.cons (.for t i _) _))) _)) _)=>.cons a (.cons (.for t i inB) yfS)
 |x=>x):=rfl
def zhN{ns:List Int}(hns:ns.length<=1000)(k:Nat){w n:Int}(w0:0<=w)(w1:w<=1000)(n0:0<=n)(n4:n<=4){B st:SO}(h:Frm ns B st){L:Nat}(hL:L≠0)(hB:B.length<=L){acc:List PV}(hs:st[L]?=AA (.lst acc))(hl:acc.length<9)(ha:∀y∈acc,P1 w n y){p4 p5 p6 p7:Option PV}:
  ∃v q5 q6 q7 st',P1 w n v/\Frm ns B st'/\st'[L]?=AA (.lst (acc++[v])) /\
   exs (yc T (k+5)) [AA (.loc 0),AA (.int w),AA (.int n),AA (.loc L),p4,p5,p6,p7] st teB=.nx [AA (.loc 0),AA (.int w),AA (.int n),AA (.loc L),p4,q5,q6,q7] st':=by
 have hL1:L<st.length:=(A2.1 hs).1;let⟨u,s1,u0,u1,o1,e1⟩:=zbU (k+2) hns (m:=2) ∅ ∅ (Frm.refl h.dr);have e1:yc T (k+5) ya [.loc 0,.int 2] st=_:=e1;have f1:=o1.frm (Frm.refl h.dr);have hs1:s1[L]?=AA (.lst acc):=by rw[f1.get L hL hL1];exact hs
 have ln1:=o1.len
 cases hq:(u==0)with
 |true=>
  let⟨r,s2,hr,f2,e2⟩:=zdK hns k (Frm.refl f1.dr);have hs2:s2[L]?=AA (.lst acc):=by rw[f2.get L hL ∅];exact hs1
  have m1:=(za7 (v:=.non) hs1 ∅).1;have m2:=(za7 (v:=.tp AB [.str ya0,r]) hs2 ∅).2;refine⟨_,p5,p6,p7,s2.set L (.lst (acc++[.tp AB [.str ya0,r]])),zm2 hr,((h.trans f1).trans f2).put hL hB _,rdS hs2,?_⟩;rw[teE];simp! [yq,e1,hq,m1,e2,m2,Ab]
 |false=>
  have pos:=f1.pos;have g0:=f1.app (.lst []);let⟨m,s2,m0,m1,o2,e2⟩:=zbU (k+2) hns (m:=3) ∅ ∅ g0;have e2:yc T (k+5) ya [.loc 0,.int 3] (s1++[.lst []])=_:=e2;let⟨m,rfl⟩:=zbJ m0;have g2:Frm ns s1 s2:=o2.frm ((Frm.refl f1.dr).app (.lst []));have hs2:s2[s1.length]?=AA (.lst []):=by rw[o2.get ∅];simp
  let⟨L',ys,q6,q7,s3,b1,b2,b3,b4,b5,e3⟩:=zom (n:=n) hns k w0 w1 n0 n4 (B:=s1) (p3:=AA (.loc L)) (p4:=p4) m 0 [] s1.length p6 p7 s2 g2 ∅ (AS _) hs2 (by simp;lia) (by simp);have hr:=zaY m ∅;let⟨c,s4,hc,g4,e4⟩:=zcL (n:=n) hns (k+1) (Frm.refl b4.dr) w0 w1 n0 n4;have e4:yc T (k+5) yib [.loc 0,.int w,.int n] s3=_:=e4;let⟨s,s5,hss,g5,e5⟩:=zbm hns k (Frm.refl g4.dr);have ln3:=b4.len;have ln4:=g4.len;have hs3:s3[L]?=AA (.lst acc):=by rw[b4.get L hL ∅];exact hs1
  have hs5:s5[L]?=AA (.lst acc):=by rw[g5.get L hL ∅,g4.get L hL ∅];exact hs3
  have hL':L' < s3.length:=(A2.1 b5).1;have hi5:s5[L']?=AA (.lst ys):=by rw[g5.get L' b1 ∅,g4.get L' b1 ∅];exact b5
  have tu:yZ .tuple s5 [.loc L']=AA (.tp AB ys):=by simp[yZ,ycE,yL,hi5]
  have m1:=(za7 (v:=.non) hs3 ∅).1;have m2:=(za7 (v:=.tp AB [.str ybb,c,s,.tp AB ys]) hs5 ∅).2;refine⟨_,AA (.loc L'),q6,q7,s5.set L (.lst (acc++[.tp AB [.str ybb,c,s,.tp AB ys]])),zlW hc hss (by erw[Av]at b2;lia) b3,((((h.trans f1).trans b4).trans g4).trans g5).put hL hB _,rdS hs5,?_⟩;rw[teE];simp! [yq,e1,hq];rw[zoX];simp! [yq,Ab,e2,hr,e3];simp! [yfS,teT,teB,yq,Ab,m1,e4,e5,tu,m2]
theorem parts{ns:List Int}(hns:ns.length<=1000)(k:Nat){w n:Int}(w0:0<=w)(w1:w<=1000)(n0:0<=n)(n4:n<=4){B:SO}{L:Nat}(hL:L≠0)(hB:B.length<=L):∀(N:Nat) (a:Int) (acc:List PV) (p4 p5 p6 p7:Option PV) (st:SO),Frm ns B st->st[L]?=AA (.lst acc)->acc.length+N<=9->(∀y∈acc,P1 w n y) ->
  ∃acc' ρ st',acc'.length<=acc.length+N/\(∀y∈acc',P1 w n y)/\Frm ns B st'/\st'[L]?=AA (.lst acc') /\
   yar (yc T (k+5)) (.n 4) teB (yr N a 1) [AA (.loc 0),AA (.int w),AA (.int n),AA (.loc L),p4,p5,p6,p7] st=.nx (AA (.loc 0)::AA (.int w)::AA (.int n)::AA (.loc L)::ρ) st'
 |0,a,acc,p4,p5,p6,p7,st,h,hs,hl,ha=>⟨acc,_,st,AS _,ha,h,hs,by rw[yr,zI]⟩
 |N+1,a,acc,p4,p5,p6,p7,st,h,hs,hl,ha=>by
  let⟨v,q5,q6,q7,s1,hv,g1,r1,e1⟩:=zhN (n:=n) hns k w0 w1 n0 n4 h hL hB hs ∅ ha (p4:=AA (.int a)) (p5:=p5) (p6:=p6) (p7:=p7);let⟨acc',ρ,st',b1,b2,b3,b4,b5⟩:=parts (n:=n) hns k w0 w1 n0 n4 hL hB N (a+1) (acc++[v]) (AA (.int a)) q5 q6 q7 s1 g1 r1 (by simp;lia) (λy hy=>by
   rcases Ak.1 hy with hy|hy
   .exact ha y hy
   .simp only[AL,AZ,or_false]at hy;rw[hy];exact hv)
  refine⟨acc',ρ,st',by erw[AM,AW,Av]at b1;lia,b2,b3,b4,?_⟩;rw[yr,zp (ρ1:=[AA (.loc 0),AA (.int w),AA (.int n),AA (.loc L),AA (.int a),p5,p6,p7]) rfl,e1];exact b5
def zbP{ns:List Int}(hns:ns.length<=1000)(k:Nat){w n:Int}(w0:0<=w)(w1:w<=1000)(n0:0<=n)(n4:n<=4){B st:SO}(h:Frm ns B st):∃ps st',ps.length<=3/\(∀y∈ps,P1 w n y)/\Frm ns B st'/\yc T (k+6) yic [.loc 0,.int w,.int n] st=.ok (.tp AB ps) st':=by
 have hT:T yic=AA ⟨3,8,AB,yq.body⟩:=rfl;have pos:=h.pos;have g0:=h.app (.lst []);let⟨m,s1,m0,m1,o1,e1⟩:=zbU (k+2) hns (m:=4) ∅ ∅ g0;have e1:yc T (k+5) ya [.loc 0,.int 4] (st++[.lst []])=_:=e1;have g1:=o1.frm g0;have hs1:s1[st.length]?=AA (.lst []):=by rw[o1.get ∅];simp
 let⟨m,rfl⟩:=zbJ m0;let⟨ps,ρ,s2,l2,t2,g2,r2,e2⟩:=parts (n:=n) hns k w0 w1 n0 n4 (L:=st.length) ∅ h.len m 0 [] AD AD AD AD s1 g1 hs1 (by simp;lia) (by simp);have hr:=zaY m ∅;have tu:yZ .tuple s2 [.loc st.length]=AA (.tp AB ps):=by simp[yZ,ycE,yL,r2]
 refine⟨ps,s2,by erw[Av]at l2;lia,t2,g2,?_⟩
 have hb:yq.body=(match yq.body with
  |.cons a (.cons (.for t i _) r)=>.cons a (.cons (.for t i teB) r)
  |x=>x):=rfl
 rw[zq hT rfl rfl];dsimp only;rw[hb];simp! [yq,z5,Ab,e1,hr,e2,tu]
def ybG(v:PV):Prop:=∀(k:Nat) (s:SO),yc T (10+k) yf [v] s=.ok (.bl AB) s
def RB(v:PV):Prop:=ycl v \/ ybG v
def ze5{L:List PV}(h:∀x∈L,RB x):(∀x∈L,ycl x) \/ ∃x∈L,ybG x:=by
 by_cases c:∃x∈L,ybG x
 .exact .inr c
 .exact .inl λx hx=>(h x hx).resolve_right λf=>c ⟨x,hx,f⟩
section
variable {st:SO}{u l:Nat}{w n r q:Int}{xs:List PV}
def zhi(k:Nat)(h:UM st u l w n r q xs){v:PV}{rs:Rs}(hv:rowOf v=AA rs)(G:List Int)(hG:G.length<=2)
  (hrow:∀s,yc T (k+2) yf [rs.pv (G.headD 0) (G.tail.headD 0) n] s=.ok (.bl AB) s):
  ∃s,yc T (k+3) yh8 [.loc u,v,.tp AB (G.map .int)] st=.exc 5 s:=by
 have hT:T yh8=AA y6:=rfl;let⟨a,vs,rfl,ho,hl⟩:=zbZ hv;have e1:=zcb (k+1) G hG st;generalize G.headD 0=I,G.tail.headD 0=J at *;have hl2:=zc3 ho;have e2:yV (yc T (k+2)) [AD,AA (.int I),AA (.int J),AA (.loc u)] (.n 0) (.cst (.bl AC)) arC (.str rs.nm::vs) st=.ok (.str rs.nm::rs.ops.map (Op.pv I J n)) st:=by
  have hp:=zcY k rs.nm I J n st;have f1:=h.fn;have one:yaA (yc T (k+2)) [AD,AA (.int I),AA (.int J),AA (.loc u)] (.n 0) (.cst (.bl AC)) arC (.str rs.nm) st=.ok (AA (.str rs.nm)) st:=by
   simp! [yaA,arC,f1,hp,IC.ve32]
  rw[zH,one,bd_ok,zdf k h I J vs rs.ops ho,bd_ok];rfl
 have e2:yV (yc T (k+2)) [AD,AA (.int I),AA (.int J),AA (.loc u)] (.n 0) (.cst (.bl AC)) (.call ydI (.cons (.var 0) (.cons (.fld cU (.var 3) sn) (.cons (.var 1) (.cons (.var 2) .nil))))) (.str rs.nm::vs) st=_:=e2;let⟨d,h2⟩:=h.sr (r+1);have ht:∀st,yZ .tuple st [.lst (.str rs.nm::rs.ops.map (Op.pv I J n))]=AA (rs.pv I J n):=λ_=>rfl;have bt:∀(i j:Nat) (a b:PV) (ρ:IC.Env),yU (.t [i,j]) (.tp AB [a,b]) ρ=AA ((ρ.set i (AA a)).set j (AA b)):=λ_ _ _ _ _=>rfl;have f1:=h.fr;have lr:=λst=>z7 (.str rs.nm::rs.ops.map (Op.pv I J n)) (by simp[hl2];lia) st;refine⟨st.set u (uob w n l (r+1) q),?_⟩;rw[zq hT rfl rfl];generalize PV.tp AB (G.map .int)=gv,PV.str rs.nm::rs.ops.map (Op.pv I J n)=row,rs.pv I J n=rowv at *;simp! [y6,e1,bt,e2,lr,ht,f1,zjP,d,zbp,hrow,IC.ve32];rfl
end
def zhh{α:Type}{f:Nat->List α}{x:α}:∀{N:Nat},x∈upTo f N->∃J,J<N/\x∈f J
 |0,h=>by simp[upTo]at h
 |N+1,h=>by
  rcases Ak.1 h with h|h
  .let⟨J,a,b⟩:=zhh h;exact⟨J,by lia,b⟩
  .exact⟨N,by lia,h⟩
section
variable {st:SO}{u l:Nat}{w n q:Int}{R:List PV}{a:Nat}
def zc1(k:Nat)(H:US st u l w n R q a){v:PV}{r:Rs}(hv:ybK v=AA r)(G:List Int)(hG:G.length<=2)
  (hrow:∀s,yc T (k+2) yf [r.pv (G.headD 0) (G.tail.headD 0) n] s=.ok (.bl AB) s) (p1:Option PV):
  ∃ρ s,exs (yc T (k+3)) [AA (.loc u),p1,AA (.tp AB (G.map .int)),AA v] st gpB=.exc 5 ρ s:=by
 let⟨xs,h,hs,hx⟩:=H;let⟨b,v1,rfl,h1⟩:=zcC hv;let⟨s,e⟩:=zhi k h h1 G hG hrow;have ih:=h.ins (AE "add_row");refine⟨[AA (.loc u),p1,AA (.tp AB (G.map .int)),AA (.tp b [.str "row",v1])],s,?_⟩;generalize PV.tp AB (G.map .int)=gv at *;simp! [gpB,ye,ix0,ix1,zaF,ih,e,IC.ve37]
def zdQ(k:Nat)(I J:Int)(p1:Option PV)(ha:a<=500000):∀(vs:List PV) (rs:List Rs) (st:SO) (R:List PV) (p3:Option PV),deepOf vs=AA rs->US st u l w n R q a->R.length+rs.length<=4000 ->
  (∀r∈rs,(∀s,yc T (k+2) yf [r.pv I J n] s=.ok (.bl AC) s) \/ ∀s,yc T (k+2) yf [r.pv I J n] s=.ok (.bl AB) s)->(∃r∈rs,∀s,yc T (k+2) yf [r.pv I J n] s=.ok (.bl AB) s) ->
  ∃ρ s,yar (yc T (k+3)) (.n 3) gpB vs [AA (.loc u),p1,AA (.tp AB [.int I,.int J]),p3] st=.exc 5 ρ s
 |[],rs,st,R,p3,hd,H,_,_,⟨r,hr,_⟩=>by
  cases hd
  simp at hr
 |v::vs,rs,st,R,p3,hd,H,hl,hrow,⟨r,hr,hf⟩=>by
  unfold deepOf at hd;split at hd
  .rename_i x y hx hy
   cases hd
   erw[AW]at hl;have no:(∀s,yc T (k+2) yf [x.pv I J n] s=.ok (.bl AB) s)->∃ρ s,yar (yc T (k+3)) (.n 3) gpB (v::vs) [AA (.loc u),p1,AA (.tp AB [.int I,.int J]),p3] st=.exc 5 ρ s:=λhf=>by
    let⟨ρ,s1,e1⟩:=zc1 k H hx [I,J] (by simp) hf p1;have e1:exs (yc T (k+3)) [AA (.loc u),p1,AA (.tp AB [.int I,.int J]),AA v] st gpB=.exc 5 ρ s1:=e1;exact⟨ρ,s1,by rw[zp (ρ1:=[AA (.loc u),p1,AA (.tp AB [.int I,.int J]),AA v]) rfl,e1];rfl⟩
   rcases AL.1 hr with rfl|hr
   .exact no hf
   rcases hrow x (by simp)with h1|h1
   .let⟨s1,e1,H1⟩:=zeG k H ∅ ha hx [I,J] (by simp) h1 p1;have e1:exs (yc T (k+3)) [AA (.loc u),p1,AA (.tp AB [.int I,.int J]),AA v] st gpB=.nx [AA (.loc u),p1,AA (.tp AB [.int I,.int J]),AA v] s1:=e1;let⟨ρ,s2,e2⟩:=zdQ k I J p1 ha vs y s1 _ (AA v) hy H1 (by simp;lia) (λr hr=>hrow r (by simp[hr])) ⟨r,hr,hf⟩;exact⟨ρ,s2,by rw[zp (ρ1:=[AA (.loc u),p1,AA (.tp AB [.int I,.int J]),AA v]) rfl,e1];exact e2⟩
   .exact no h1
  .cases hd
def ybn(k u l:Nat)(w n:Int)(d:Bool)(vs:List PV)(G:List Int)(f:Nat->List PV)(qn an J:Nat):Prop:=
 ∀(st:SO) (R:List PV) (q:Int) (a:Nat),US st u l w n R q a->R.length+(f J).length<=4000->q+qn<=4000->a+an<=500000 ->
  ∃s,yc T k y8 [.loc u,.tp d vs,.tp AB ((G++[(J:Int)]).map .int)] st=.exc 5 s
def zdq(k:Nat){a1 d:Bool}{s0 cn sn:PV}(hsn:nL sn=AC){vs:List PV}{G:List Int}(hG:G.length<=1){f:Nat->List PV}{qn an N:Nat}(hb:∀J<N,BodyOk (k+2) u l w n d vs G f qn an J \/ ybn (k+2) u l w n d vs G f qn an J)
  (hR:R.length+(upTo f N).length<=4000) (hq:q+(N*(1+qn):Nat)<=4000) (ha:a+N*(1+an)<=500000):∀(M j:Nat) (st:SO) (p4:Option PV),j+M=N->US st u l w n (R++upTo f j) (q+(j*(1+qn):Nat)) (a+j*(1+an))->(∃J,j<=J/\J<N/\ybn (k+2) u l w n d vs G f qn an J) ->
  ∃ρ s,yar (yc T (k+2)) (.n 4) grB (yr M (j:Int) 1) [AA (.loc u),AA (.tp a1 [s0,cn,sn,.tp d vs]),AA (.tp AB (G.map .int)),AA (.int N),p4] st=.exc 5 ρ s
 |0,j,st,p4,hj,H,⟨J,h1,h2,_⟩=>by lia
 |M+1,j,st,p4,hj,H,⟨J,g1,g2,hX⟩=>by
  have l1:(upTo f (j+1)).length<=(upTo f N).length:=zcu f N ∅;rw[upTo,AM]at l1;have m1:(j+1)*(1+qn)<=N*(1+qn):=CG _ ∅;have m2:(j+1)*(1+an)<=N*(1+an):=CG _ ∅;have n1:(j+1)*(1+qn)=j*(1+qn)+(1+qn):=DA _ _;have n2:(j+1)*(1+an)=j*(1+an)+(1+an):=DA _ _;let⟨s1,e1,H1⟩:=H.ask k ∅ (by rw[AM];lia) sn hsn (G++[(j:Int)]) (by simp;lia);let⟨s2,e2,H2⟩:=H1.rnd (k+1) ∅;have i1:=H.ins (AE "add_asked");have i2:=H1.ins (AE "add_round");have i3:=H2.ins (AE "go_parts");have c1:=znq G hG (j:Int);have no:ybn (k+2) u l w n d vs G f qn an j->∃ρ s,yar (yc T (k+2)) (.n 4) grB (yr (M+1) (j:Int) 1) [AA (.loc u),AA (.tp a1 [s0,cn,sn,.tp d vs]),AA (.tp AB (G.map .int)),AA (.int N),p4] st=.exc 5 ρ s:=λhX=>by
   let⟨s3,e3⟩:=hX s2 _ _ _ H2 (by rw[AM];lia) ∅ ∅;refine⟨[AA (.loc u),AA (.tp a1 [s0,cn,sn,.tp d vs]),AA (.tp AB (G.map .int)),AA (.int N),AA (.int (j:Int))],s3,?_⟩;have one:exs (yc T (k+2)) [AA (.loc u),AA (.tp a1 [s0,cn,sn,.tp d vs]),AA (.tp AB (G.map .int)),AA (.int N),AA (.int (j:Int))] st grB=.exc 5 [AA (.loc u),AA (.tp a1 [s0,cn,sn,.tp d vs]),AA (.tp AB (G.map .int)),AA (.int N),AA (.int (j:Int))] s3:=by
    generalize PV.tp AB (G.map .int)=gv,PV.tp AB ((G++[(j:Int)]).map .int)=gw,PV.tp d vs=pv at *;simp! [grB,yg,ix0,ix1,ix2,ix3,c1,i1,i2,i3,e1,e2,e3,IC.ve37]
   rw[yr,zp (ρ1:=[AA (.loc u),AA (.tp a1 [s0,cn,sn,.tp d vs]),AA (.tp AB (G.map .int)),AA (.int N),AA (.int (j:Int))]) rfl,one];rfl
  by_cases hJ:J=j
  .exact no (hJ ▸ hX)
  rcases hb j ∅with hB|hB
  .let⟨s3,e3,H3⟩:=hB s2 _ _ _ H2 (by rw[AM];lia) ∅ ∅;have H3:US s3 u l w n (R++upTo f (j+1)) (q+((j+1)*(1+qn):Nat)) (a+(j+1)*(1+an)):=by
    rw[upTo,<-BK,n1,n2];have x1:q+((j*(1+qn)+(1+qn):Nat):Int)=q+((j*(1+qn):Nat):Int)+1+(qn:Int):=by lia
    have x2:a+(j*(1+an)+(1+an))=a+j*(1+an)+1+an:=by lia
    rw[x1,x2];exact H3
   let⟨ρ,s4,e4⟩:=zdq k (a1:=a1) (s0:=s0) (cn:=cn) (sn:=sn) hsn hG hb hR hq ha M (j+1) s3 (AA (.int j)) ∅ H3 ⟨J,by lia,g2,hX⟩;refine⟨ρ,s4,?_⟩;have one:exs (yc T (k+2)) [AA (.loc u),AA (.tp a1 [s0,cn,sn,.tp d vs]),AA (.tp AB (G.map .int)),AA (.int N),AA (.int (j:Int))] st grB=.nx [AA (.loc u),AA (.tp a1 [s0,cn,sn,.tp d vs]),AA (.tp AB (G.map .int)),AA (.int N),AA (.int (j:Int))] s3:=by
    generalize PV.tp AB (G.map .int)=gv,PV.tp AB ((G++[(j:Int)]).map .int)=gw,PV.tp d vs=pv at *;simp! [grB,yg,ix0,ix1,ix2,ix3,c1,i1,i2,i3,e1,e2,e3,IC.ve37]
   rw[yr,zp (ρ1:=[AA (.loc u),AA (.tp a1 [s0,cn,sn,.tp d vs]),AA (.tp AB (G.map .int)),AA (.int N),AA (.int (j:Int))]) rfl,one];exact e4
  .exact no hB
def zcq(k:Nat){a1 b d:Bool}{s0 sn:PV}(hsn:nL sn=AC){vs:List PV}{c m t:Int}{G:List Int}(hG:G.length<=1){f:Nat->List PV}{qn an N:Nat}(hN:N=cnt c m t w n)(hm:m.natAbs<=200)(ht:t.natAbs<=200)(n0:0<=n)(n1:n<=8)(hN2:N<1000000)
  (hb:∀J<N,BodyOk (k+2) u l w n d vs G f qn an J \/ ybn (k+2) u l w n d vs G f qn an J) (hR:R.length+(upTo f N).length<=4000) (hq:q+(N*(1+qn):Nat)<=4000) (ha:a+N*(1+an)+1<=500000) (H:US st u l w n R q a) (hX:∃J,J<N/\ybn (k+2) u l w n d vs G f qn an J):
  ∃s,yc T (k+3) yz [.loc u,.tp a1 [s0,.tp b [.int c,.int m,.int t],sn,.tp d vs],.tp AB (G.map .int)] st=.exc 5 s:=by
 have hT:T yz=AA ⟨3,5,AB,yg.body⟩:=rfl;have e1:=H.cnt (k+1) b (c:=c) hm ht n0 n1;have i1:=H.ins (AE "count_of");let⟨J,g1,g2⟩:=hX;let⟨ρ,s1,e2⟩:=zdq k (a1:=a1) (s0:=s0) (cn:=.tp b [.int c,.int m,.int t]) (sn:=sn) (a:=a) (q:=q) (R:=R) hsn hG hb hR hq ∅ N 0 st AD ∅ (by simpa [upTo] using H) ⟨J,Ab _,g1,g2⟩;have hx:=zg0 (c+m*n+t*w*n) st;have hz:((c+m*n+t*w*n).toNat:Int)=(N:Int):=by rw[hN];rfl
 rw[hz]at hx;have hr:ybk (.int (N:Int))=AA (yr N 0 1):=by
  erw[ybk];rw[if_pos ∅];rfl
 have hbd:yg.body=(match yg.body with
  |.cons x (.cons (.for t i _) r)=>.cons x (.cons (.for t i grB) r)
  |x=>x):=rfl
 refine⟨s1,?_⟩;rw[zq hT rfl rfl];dsimp only;rw[hbd];have e2:yar (yc T (k+2)) (.n 4) grB (yr N 0 1) _ st=_:=e2;generalize PV.tp AB (G.map .int)=gv,PV.tp d vs=pv,PV.tp b [.int c,.int m,.int t]=cv,c+m*n+t*w*n=z at *;simp! [yg,ix0,ix1,ix2,ix3,i1,e1,hx,hr,e2,IC.ve37];rfl
def zck(k:Nat){b:Bool}{vs:List PV}{gv:PV}{s:SO}{ρ:IC.Env}(e:yar (yc T k) (.n 3) gpB vs [AA (.loc u),AA (.tp b vs),AA gv,AD] st=.exc 5 ρ s):
  yc T (k+1) y8 [.loc u,.tp b vs,gv] st=.exc 5 s:=by
 have hT:T y8=AA ⟨3,4,AB,ye.body⟩:=rfl
 have hbd:ye.body=(match ye.body with
  |.cons (.for t i _) r=>.cons (.for t i gpB) r
  |x=>x):=rfl
 rw[zq hT rfl rfl];dsimp only;rw[hbd];simp! [ye,e];rfl
def zeB(k:Nat)(H:US st u l w n R q a){a1:Bool}{r:List PV}{gv:PV}{p1:Option PV}{s:SO}(e:yc T k yz [.loc u,.tp a1 (.str "rounds" :: r),gv] st=.exc 5 s):
  ∃ρ s,exs (yc T k) [AA (.loc u),p1,AA gv,AA (.tp a1 (.str "rounds" :: r))] st gpB=.exc 5 ρ s:=by
 have ih:=H.ins (AE "go_rounds");refine⟨[AA (.loc u),p1,AA gv,AA (.tp a1 (.str "rounds" :: r))],s,?_⟩;simp! [gpB,ye,ix0,zaW,ih,e,IC.ve37]
def zgQ(k:Nat)(w0:0<=w)(w1:w<=16)(n0:0<=n)(n1:n<=8)(I:Nat)(p1:Option PV){v:PV}{p:T2}(hv:nL v=AC)(hp:part2 v=AA p)(H:US st u l w n R q a)(hR:R.length+(p.rows w n I).length<=4000)(hq:q+(p.rnd w n:Nat)<=4000)(ha:a+p.ak w n<=500000)(hrow:∀x∈p.rows w n I,RB x)(hX:∃x∈p.rows w n I,ybG x):
  ∃ρ s,exs (yc T (k+13)) [AA (.loc u),p1,AA (.tp AB [.int I]),AA v] st gpB=.exc 5 ρ s:=by
 rcases zde hp with⟨r,rfl,h1⟩|⟨a1,b,sn,d,vs,c,m,t,rs,rfl,rfl,hd,hc,hm,ht⟩
 .let⟨x,hx,hf⟩:=hX;erw[T2.rows,AL,AZ,or_false]at hx;subst hx;exact zc1 (k+10) H h1 [(I:Int)] (by simp) (λs=>by
   have:=hf (k+2) s;rw[show 10+(k+2)=k+10+2 by lia]at this;exact this) p1
 .have hN:cnt c m t w n<1000000:=by
   have:=zaH hc hm ht w0 w1 n0 n1;erw[cnt];lia
  erw[T2.rows,T2.rnd,T2.ak]at hR hq ha hrow hX ⊢;have cv:∀{x:PV} {B:Bool},(∀(k:Nat) (s:SO),yc T (10+k) yf [x] s=.ok (.bl B) s)->∀s,yc T (k+8+2) yf [x] s=.ok (.bl B) s:=λh s=>by
   rw[show k+8+2=10+k by lia];exact h k s
  have bX:∀J<cnt c m t w n,(∃x∈rs.map λr=>r.pv I J n,ybG x)->ybn (k+10+2) u l w n d vs [(I:Int)] (λJ=>rs.map λr=>r.pv I J n) 0 0 J:=λJ hJ hx st R q a H h1 h2 h3=>by
   let⟨x,hx,hf⟩:=hx;let⟨r,hr,rfl⟩:=D5.1 hx;let⟨ρ,s,e⟩:=zdQ (k+8) (a:=a) (q:=q) I J (AA (.tp d vs)) ∅ vs rs st R AD hd H (by simpa using h1) (λr hr=>(hrow _ (zcr hJ (D5.2 ⟨r,hr,rfl⟩))).imp cv cv) ⟨r,hr,cv hf⟩;exact⟨s,zck (k+11) e⟩
  let⟨s,e⟩:=zcq (k+10) (a1:=a1) (b:=b) (d:=d) (s0:=.str "rounds") (sn:=sn) (zhK hv) (vs:=vs) (G:=[(I:Int)]) (by simp) (f:=λJ=>rs.map λr=>r.pv I J n) (qn:=0) (an:=0) rfl hm ht n0 n1 hN
   (λJ hJ=>by
    rcases ze5 λx hx=>hrow x (zcr hJ hx)with g|g
    .exact .inl (zdr (k+8) hd I J λr hr=>cv (g _ (D5.2 ⟨r,hr,rfl⟩)))
    .exact .inr (bX J hJ g)) hR (by simpa using hq) ∅ H (by
    let⟨x,hx,hf⟩:=hX;let⟨J,hJ,hx⟩:=zhh hx;exact⟨J,hJ,bX J hJ ⟨x,hx,hf⟩⟩)
  have e:yc T (k+13) yz [.loc u,.tp a1 [.str "rounds",.tp b [.int c,.int m,.int t],sn,.tp d vs],.tp AB [.int I]] st=.exc 5 s:=e;exact zeB (k+13) H e
def zeN(k:Nat)(w0:0<=w)(w1:w<=16)(n0:0<=n)(n1:n<=8)(I:Nat)(p1:Option PV):∀(vs:List PV) (ps:List T2) (st:SO) (R:List PV) (q:Int) (a:Nat) (p3:Option PV),nLs vs=AC->yah vs=AA ps->US st u l w n R q a->R.length+(yI w n I ps).length<=4000->q+(yan w n ps:Nat)<=4000->a+ak2 w n ps<=500000->(∀x∈yI w n I ps,RB x)->(∃x∈yI w n I ps,ybG x) ->
  ∃ρ s,yar (yc T (k+13)) (.n 3) gpB vs [AA (.loc u),p1,AA (.tp AB [.int I]),p3] st=.exc 5 ρ s
 |[],ps,st,R,q,a,p3,_,hp,H,_,_,_,_,⟨x,hx,_⟩=>by
  cases hp
  simp[yI]at hx
 |v::vs,ps,st,R,q,a,p3,hv,hp,H,hR,hq,ha,hrow,⟨z,hz,hf⟩=>by
  unfold yah at hp;split at hp
  .rename_i x y hx hy
   cases hp
   have r1:yI w n I (x::y)=x.rows w n I++yI w n I y:=by simp[yI]
   have r2:yan w n (x::y)=x.rnd w n+yan w n y:=by simp[yan]
   have r3:ak2 w n (x::y)=x.ak w n+ak2 w n y:=by simp[ak2]
   rw[r1,AM]at hR;rw[r2]at hq;rw[r3]at ha;rw[r1]at hrow hz;have no:(∃z∈x.rows w n I,ybG z)->∃ρ s,yar (yc T (k+13)) (.n 3) gpB (v::vs) [AA (.loc u),p1,AA (.tp AB [.int I]),p3] st=.exc 5 ρ s:=λg=>by
    let⟨ρ,s,e⟩:=zgQ k w0 w1 n0 n1 I p1 (zae hv).1 hx H ∅ ∅ ∅ (λz hz=>hrow z (by simp[hz])) g;exact⟨ρ,s,by rw[zp (ρ1:=[AA (.loc u),p1,AA (.tp AB [.int I]),AA v]) rfl,e];rfl⟩
   rcases ze5 (L:=x.rows w n I) λz hz=>hrow z (by simp[hz])with g|g
   .rcases Ak.1 hz with hz|hz
    .exact no ⟨z,hz,hf⟩
    let⟨s1,e1,H1⟩:=zgp k w0 w1 n0 n1 I p1 (zae hv).1 hx H ∅ ∅ ∅ g;let⟨ρ,s2,e2⟩:=zeN k w0 w1 n0 n1 I p1 vs y s1 _ _ _ (AA v) (zae hv).2 hy H1 (by rw[AM];lia) ∅ ∅ (λz hz=>hrow z (by simp[hz])) ⟨z,hz,hf⟩;exact⟨ρ,s2,by rw[zp (ρ1:=[AA (.loc u),p1,AA (.tp AB [.int I]),AA v]) rfl,e1];exact e2⟩
   .exact no g
  .cases hp
def zgf(k:Nat)(w0:0<=w)(w1:w<=16)(n0:0<=n)(n1:n<=8)(p1:Option PV){v:PV}{p:T1}(hv:nL v=AC)(hp:part1 v=AA p)(H:US st u l w n R q a)(hR:R.length+(p.rows w n).length<=4000)(hq:q+(p.rnd w n:Nat)<=4000)(ha:a+p.ak w n<=500000)(hrow:∀x∈p.rows w n,RB x)(hX:∃x∈p.rows w n,ybG x):
  ∃ρ s,exs (yc T (k+15)) [AA (.loc u),p1,AA (.tp AB []),AA v] st gpB=.exc 5 ρ s:=by
 rcases zc2 hp with⟨r,rfl,h1⟩|⟨a1,b,sn,d,vs,c,m,t,ps,rfl,rfl,hd,hc,hm,ht⟩
 .let⟨x,hx,hf⟩:=hX;erw[T1.rows,AL,AZ,or_false]at hx;subst hx;exact zc1 (k+12) H h1 [] (by simp) (λs=>by
   have:=hf (k+4) s;rw[show 10+(k+4)=k+12+2 by lia]at this;exact this) p1
 .have hN:cnt c m t w n<1000000:=by
   have:=zaH hc hm ht w0 w1 n0 n1;erw[cnt];lia
  erw[T1.rows,T1.rnd,T1.ak]at hR hq ha hrow hX ⊢;have bX:∀J<cnt c m t w n,(∃x∈yI w n J ps,ybG x)->ybn (k+12+2) u l w n d vs [] (λI=>yI w n I ps) (yan w n ps) (ak2 w n ps) J:=λJ hJ hx st R q a H h1 h2 h3=>by
   let⟨ρ,s,e⟩:=zeN k w0 w1 n0 n1 J (AA (.tp d vs)) vs ps st R q a AD (zj7 hv) hd H h1 h2 h3 (λz hz=>hrow z (zcr hJ hz)) hx;exact⟨s,zck (k+13) e⟩
  let⟨s,e⟩:=zcq (k+12) (a1:=a1) (b:=b) (d:=d) (s0:=.str "rounds") (sn:=sn) (zhK hv) (vs:=vs) (G:=[]) (by simp) (f:=λI=>yI w n I ps) (qn:=yan w n ps) (an:=ak2 w n ps) rfl hm ht n0 n1 hN
   (λJ hJ=>by
    rcases ze5 (L:=yI w n J ps) λx hx=>hrow x (zcr hJ hx)with g|g
    .exact .inl (zeJ k w0 w1 n0 n1 (zj7 hv) hd J g)
    .exact .inr (bX J hJ g)) hR hq ∅ H (by
    let⟨x,hx,hf⟩:=hX;let⟨J,hJ,hx⟩:=zhh hx;exact⟨J,hJ,bX J hJ ⟨x,hx,hf⟩⟩)
  have e:yc T (k+15) yz [.loc u,.tp a1 [.str "rounds",.tp b [.int c,.int m,.int t],sn,.tp d vs],.tp AB []] st=.exc 5 s:=e;exact zeB (k+15) H e
def zfd(k:Nat)(w0:0<=w)(w1:w<=16)(n0:0<=n)(n1:n<=8)(p1:Option PV):∀(vs:List PV) (ps:List T1) (st:SO) (R:List PV) (q:Int) (a:Nat) (p3:Option PV),nLs vs=AC->yaj vs=AA ps->US st u l w n R q a->R.length+(yE w n ps).length<=4000->q+(yaJ w n ps:Nat)<=4000->a+ak1 w n ps<=500000->(∀x∈yE w n ps,RB x)->(∃x∈yE w n ps,ybG x) ->
  ∃ρ s,yar (yc T (k+15)) (.n 3) gpB vs [AA (.loc u),p1,AA (.tp AB []),p3] st=.exc 5 ρ s
 |[],ps,st,R,q,a,p3,_,hp,H,_,_,_,_,⟨x,hx,_⟩=>by
  cases hp
  simp[yE]at hx
 |v::vs,ps,st,R,q,a,p3,hv,hp,H,hR,hq,ha,hrow,⟨z,hz,hf⟩=>by
  unfold yaj at hp;split at hp
  .rename_i x y hx hy
   cases hp
   have r1:yE w n (x::y)=x.rows w n++yE w n y:=by simp[yE]
   have r2:yaJ w n (x::y)=x.rnd w n+yaJ w n y:=by simp[yaJ]
   have r3:ak1 w n (x::y)=x.ak w n+ak1 w n y:=by simp[ak1]
   rw[r1,AM]at hR;rw[r2]at hq;rw[r3]at ha;rw[r1]at hrow hz;have no:(∃z∈x.rows w n,ybG z)->∃ρ s,yar (yc T (k+15)) (.n 3) gpB (v::vs) [AA (.loc u),p1,AA (.tp AB []),p3] st=.exc 5 ρ s:=λg=>by
    let⟨ρ,s,e⟩:=zgf k w0 w1 n0 n1 p1 (zae hv).1 hx H ∅ ∅ ∅ (λz hz=>hrow z (by simp[hz])) g;exact⟨ρ,s,by rw[zp (ρ1:=[AA (.loc u),p1,AA (.tp AB []),AA v]) rfl,e];rfl⟩
   rcases ze5 (L:=x.rows w n) λz hz=>hrow z (by simp[hz])with g|g
   .rcases Ak.1 hz with hz|hz
    .exact no ⟨z,hz,hf⟩
    let⟨s1,e1,H1⟩:=zgC k w0 w1 n0 n1 p1 (zae hv).1 hx H ∅ ∅ ∅ g;let⟨ρ,s2,e2⟩:=zfd k w0 w1 n0 n1 p1 vs y s1 _ _ _ (AA v) (zae hv).2 hy H1 (by rw[AM];lia) ∅ ∅ (λz hz=>hrow z (by simp[hz])) ⟨z,hz,hf⟩;exact⟨ρ,s2,by rw[zp (ρ1:=[AA (.loc u),p1,AA (.tp AB []),AA v]) rfl,e1];exact e2⟩
   .exact no g
  .cases hp
end
def zfB(k:Nat){b:Bool}{vs:List PV}{ps:List T1}{w n:Int}(hv:nLs vs=AC)(hp:yaj vs=AA ps)(w0:0<=w)(w1:w<=16)(n0:0<=n)(n1:n<=8)(hR:(yE w n ps).length<=4000)(hq:yaJ w n ps<=4000)(ha:ak1 w n ps<=500000)(hrow:∀x∈yE w n ps,RB x)(hX:∃x∈yE w n ps,ybG x)
  (hit:∀s,yc T (k+16) yB [.tp b vs] s=.ok (.bl AC) s) (st:SO):yc T (k+17) yh9 [.tp b vs,.int w,.int n] st=.exc 5 st:=by
 have hT:T yh9=AA yeK:=rfl;have hnl:nLs [.tp b vs,.int w,.int n]=true:=by simp[nLs,nL,hv]
 let⟨ρ,s,e⟩:=zfd k w0 w1 n0 n1 (AA (.tp b vs)) vs ps [uob w n 1 0 0,.lst []] [] 0 0 AD hv hp (zeH w n) (by simpa using hR) ∅ ∅ hrow hX;have e:=zck (k+15) e;have i0:=zoj (k+15) w n;have ih:=(zeH w n).ins (AE "go_parts");rw[zd hT rfl rfl hnl];generalize PV.tp b vs=tv at *;simp! [yeK,hit,i0,ih,e,IC.ve32,IC.ve33,IC.ve37,ybm,newV];rfl
def zfx(k:Nat){b:Bool}{vs:List PV}{ps:List T1}{w n:Int}(hv:nLs vs=AC)(hp:yaj vs=AA ps)(w0:0<=w)(w1:w<=16)(n0:0<=n)(n1:n<=8)(hR:(yE w n ps).length<=4000)(hq:yaJ w n ps<=4000)(ha:ak1 w n ps<=500000)(hrow:∀x∈yE w n ps,RB x)(hX:∃x∈yE w n ps,ybG x)
  (hit:∀s,yc T (k+16) yB [.tp b vs] s=.ok (.bl AC) s) (st:SO):yc T (k+18) yfT [.tp b vs,.int w,.int n] st=.exc 5 st:=by
 have hT:T yfT=AA yeA:=rfl;have hnl:nLs [.tp b vs,.int w,.int n]=true:=by simp[nLs,nL,hv]
 have e:=zfB k hv hp w0 w1 n0 n1 hR hq ha hrow hX hit [];rw[zd hT rfl rfl hnl];generalize PV.tp b vs=tv at *;simp! [yeA,e];rfl
mutual
theorem zon:∀(v:PV) (n:Nat),shd n v=AC->peq v v=AC
 |.non,n,h=>rfl
 |.bl b,n,h=>by simp[peq]
 |.int i,n,h=>by simp[peq]
 |.str s,n,h=>by simp[peq]
 |.tp k xs,n,h=>by
  erw[shd,AG]at h;erw[peq];exact znP xs (n-1) h.2
 |.lst xs,n,h=>by
  erw[shd,AG]at h;erw[peq];exact znP xs (n-1) h.2
 |.loc _,n,h=>by simp[shd]at h
 |.exn _,n,h=>by simp[shd]at h
 |.scr _,n,h=>by simp[shd]at h
 |.fnc _,n,h=>by simp[shd]at h
theorem znP:∀(v:List PV) (n:Nat),yaZ n v=AC->ybi v v=AC
 |[],n,h=>rfl
 |x::xs,n,h=>by
  erw[yaZ,AG]at h;erw[ybi,zon x n h.1,znP xs n h.2,Bg]
end
def zdX{w n:Int}:∀vs:List PV,(∀y∈vs,P1 w n y)->∃ps,yaj vs=AA ps/\∀w',Wd w n w'->yaJ w' n ps<=vs.length*300/\ak1 w' n ps<=vs.length*400/\(yE w' n ps).length<=vs.length*600/\∀x∈yE w' n ps,tam 4 10 x=AC
 |[],_=>⟨[],rfl,λ_ _=>⟨by simp[yaJ],by simp[ak1],by simp[yE],by simp[yE]⟩⟩
 |y::vs,h=>by
  let⟨_,p,e,f⟩:=h y (by simp);let⟨ps,e2,f2⟩:=zdX vs λx hx=>h x (by simp[hx]);refine⟨p::ps,by erw[yaj,e,e2],λw' hw=>?_⟩;let⟨a1,a2,a3,a4⟩:=f w' hw;let⟨b1,b2,b3,b4⟩:=f2 w' hw;rw[AW];refine⟨?_,?_,?_,λx hx=>?_⟩
  .rw[yaJ,AX,EI,<-yaJ];lia
  .rw[ak1,AX,EI,<-ak1];lia
  .rw[yE,CJ,AM,<-yE];lia
  .rw[yE,CJ]at hx;rcases Ak.1 hx with hx|hx
   .exact a4 x hx
   .exact b4 x hx
def zbW{x:PV}(ht:tam 4 10 x=AC)(k:Nat)(s:SO):yc T (10+k) yf [x] s=.ok (.bl (yae AB x)) s:=by
 rw[show 10+k=(4+k)+6 by lia];exact zgb (4+k) ht ∅ ∅ s
def zn5{x:PV}(ht:tam 4 10 x=AC):RB x:=by
 cases h:yae AB x with
 |true=>exact .inl λk s=>h ▸ zbW ht k s
 |false=>exact .inr λk s=>h ▸ zbW ht k s
def ycj(L:List PV):PV:=bif L.all (yae AB)then .tp AB L else .non
def zgr{L:List PV}(h:nLs L=AC):nL (ycj L)=true:=by
 unfold ycj
 cases L.all (yae AB)with
 |true=>exact h
 |false=>rfl
def zdR(k:Nat){L:List PV}(ht:∀x∈L,tam 4 10 x=AC)(st:SO):yV (yc T (k+4)) [AD] (.n 0) (.cst (.bl AC)) (.call yiv (.cons (.var 0) .nil)) L st=.ok (L.map λy=>.bl (yae AB y)) st:=by
 refine zav _ λp hp=>?_;have:=zfw k (ht p hp) ∅ ∅ st;simp! [yaA,this]
def zjZ(k:Nat){d w n:PV}{L:List PV}(hl:nLs [d,w,n]=AC)(hn:nLs L=AC)(E:∀st,yc T (k+4) yis [d,w,n,.int 4000] st=.ok (.lst L) st)(h4:L.length<=4000)(ht:∀x∈L,tam 4 10 x=AC)(st:SO):yc T (k+5) yid [d,w,n] st=.ok (ycj L) st:=by
 have hT:T yid=AA yhg:=rfl;have hc:=zdR k ht [];have lr:ya5 (.ok (L.map λy=>PV.bl (yae AB y)) [])=.ok (.lst (L.map λy=>.bl (yae AB y))) []:=z7 _ (by rw[Af];lia) _;have al:=zbf (yae AB) L [];have ci:yD .is (.lst L) .non=AA (.bl AB):=rfl;have tu:yZ .tuple [] [.lst L]=AA (.tp AB L):=rfl;rw[zd hT rfl rfl hl];unfold ycj
 cases q:L.all (yae AB)with
 |true=>
  rw[q]at al;simp! [yhg,E,ci,hc,lr,al,tu];erw[yde,nL,hn,if_true]
 |false=>
  rw[q]at al;simp! [yhg,E,ci,hc,lr,al];rfl
def zhy(k:Nat){d w n:PV}{L:List PV}(hl:nLs [d,w,n]=AC)(hn:nLs L=AC)(E:∀st,yc T k yfT [d,w,n] st=.ok (.tp AB L) st)(st:SO):yc T (k+1) ygf [d,w,n] st=.ok (.tp AB L) st:=by
 have hT:T ygf=AA yfF:=rfl;have ci:yD .is (.tp AB L) .non=AA (.bl AB):=rfl;rw[zd hT rfl rfl hl];simp! [yfF,E,yeL,ci];erw[yde,nL,hn,if_true]
def zhc(k:Nat){d w n:PV}(hl:nLs [d,w,n]=AC)(E:∀st,yc T k yfT [d,w,n] st=.exc 5 st)(st:SO):yc T (k+1) ygf [d,w,n] st=.ok .non st:=by
 have hT:T ygf=AA yfF:=rfl;have c5:([5]:List Nat).contains 5=true:=rfl;have x1:yb9 [5] (.exn 5) [.cls 5]=AA (.bl AC):=rfl;have x2:yb9 [5] (.exn 5) [.val]=AA (.bl AC):=rfl;have x3:yb9 [5] (.exn 5) [.cls 4,.cls 2,.cls 3,.cls 0]=AA (.bl AB):=rfl;have ci:yD .is .non .non=AA (.bl AC):=rfl;rw[zd hT rfl rfl hl];simp! [yfF,E,yeL,c5,x1,x2,x3,yfU,ci];rfl
def zin(k:Nat){L:List PV}(hn:nLs L=AC)(h4:L.length<=4000)(ht:∀x∈L,tam 4 10 x=AC)(st:SO):yc T (k+5) yie [ycj L,ycj L] st=.ok (.bl AC) st:=by
 have hT:T yie=AA yhm:=rfl;have hnl:=zgr hn;rw[zd hT rfl rfl (by simp[nLs,hnl])];unfold ycj
 cases q:L.all (yae AB)with
 |false=>
  have ci:yD .is .non .non=AA (.bl AC):=rfl;simp! [yhm,ci,zc]
 |true=>
  have hc:=zdR k ht [];have lr:ya5 (.ok (L.map λy=>PV.bl (yae AB y)) [])=.ok (.lst (L.map λy=>.bl (yae AB y))) []:=z7 _ (by rw[Af];lia) _;have al:=zbf (yae AB) L [];rw[q]at al;have ci:yD .is (.tp AB L) .non=AA (.bl AB):=rfl;have hi:yG (.tp AB L) [.tuple]=AA (.bl AC):=rfl;have sh:yaZ 59 L=true:=zbw 4 10 L 59 ((zb3 4 10 L).2 ht) ∅;have sp:shp (.tp AB L)=true:=by erw[shp,shd,Bu,sh];rfl
  have pe:peq (.tp AB L) (.tp AB L)=true:=zon _ 60 sp;have ce:yD .eq (.tp AB L) (.tp AB L)=AA (.bl AC):=by
   erw[yD];rw[if_pos (by rw[sp];rfl),pe]
  simp! [yhm,ci,hi,ce,hc,lr,al,zc]
def zen{w n w':Int}{vs:List PV}(hl:vs.length<=3)(hP:∀y∈vs,P1 w n y)(hw:Wd w n w')(w0:0<=w')(w1:w'<=16)(n0:0<=n)(n1:n<=4):∃d,nL d=AC/\(∀st,yc T 24 yid [.tp AB vs,.int w',.int n] st=.ok d st)/\(∀st,yc T 24 ygf [.tp AB vs,.int w',.int n] st=.ok d st)/\∀st,yc T 24 yie [d,d] st=.ok (.bl AC) st:=by
 let⟨ps,hp,f⟩:=zdX vs hP;let⟨f1,f2,f3,f4⟩:=f w' hw;have tx:tam 10 10 (.tp AB vs)=true:=zD.2 ⟨by lia,by lia,λx hx=>(hP x hx).1.2⟩;have hq:yaO ydz (.tp AB vs)=true:=Ag.2 λx hx=>(hP x hx).1.1;have hA:∀st,yc T (5+16) yB [.tp AB vs] st=.ok (.bl AC) st:=λst=>hq ▸ zc5 8 tx ∅ ∅ st;have nv:nLs vs=true:=zo 10 10 _ tx;have nr:=zfu w' n ps;have hd:nLs [.tp AB vs,.int w',.int n]=true:=by simp[nLs,nL,nv]
 have hR:(yE w' n ps).length<=4000:=by lia
 refine⟨ycj (yE w' n ps),zgr nr,zjZ 19 hd nr (λst=>zoW 20 nv hp w0 w1 n0 ∅ ∅ hR nr st) hR f4,?_,zin 19 nr hR f4⟩;have hB:∀x∈yE w' n ps,RB x:=λx hx=>zn5 (f4 x hx);unfold ycj
 cases q:(yE w' n ps).all (yae AB)with
 |true=>
  exact zhy 23 hd nr λst=>unrolled 5 nv hp w0 w1 n0 ∅ hR ∅ ∅ (λx hx k s=>(Ag.1 q x hx) ▸ zbW (f4 x hx) k s) hA st
 |false=>
  obtain⟨x,hx,hf⟩:∃x∈yE w' n ps,yae AB x=false:=by
   have:=(List.all_eq_false.1 q);let⟨x,hx,hf⟩:=this;exact⟨x,hx,by simpa using hf⟩
  exact zhc 23 hd λst=>zfx 5 nv hp w0 w1 n0 ∅ hR ∅ ∅ hB ⟨x,hx,λk s=>hf ▸ zbW (f4 x hx) k s⟩ hA st
theorem sizes(k:Nat){ns:List Int}(hns:ns.length<=1000){st:SO}(h:Drw ns 0 st):∃w z st',4<=w/\w<=16/\1<=z/\z<=4/\Onl ns 0 st st'/\yc T (k+4) yip [.loc 0,.int 4] st=.ok (.tup [.int w,.int z]) st':=by
 have hT:T yip=AA yh1:=rfl;let⟨d,s1,d1,d2,o1,e1⟩:=zgG k hns (m:=13) ∅ ∅ h;let⟨e,s2,d3,d4,o2,e2⟩:=zgG k hns (m:=4) ∅ ∅ (o1.drw h);refine⟨4+d,1+e,s2,by lia,by lia,by lia,by lia,o1.trans o2,?_⟩;rw[zq hT rfl rfl];simp! [yh1,e1,e2,z5,Ab]
def ziI(ns:List Int)(hn:ns.length<=63):yc T 25 yif [.scr (ns.map .int)] []=.ok (.bl AC) []:=by
 let⟨o,e1,ho⟩:=fresh 23 ns hn [];have h0:Drw ns 0 [o]:=⟨0,0,AB,by lia,by rw[ho];rfl⟩;have hns:ns.length<=1000:=by lia
 have hT:T yif=AA yfK:=rfl;have e1:yc T 24 yin [.scr (ns.map .int)] []=.ok (.loc 0) [o]:=e1;let⟨w,z,s1,w0,w1,z0,z1,o1,e2⟩:=sizes 20 hns h0;have e2:yc T 24 yip [.loc 0,.int 4] [o]=.ok (.tp AB [.int w,.int z]) s1:=e2;have d1:=o1.drw h0;let⟨xs,s2,l2,t2,g2,e3⟩:=zbP (n:=z) hns 18 (w:=w) ∅ ∅ ∅ z1 (Frm.refl d1);let⟨ys,s3,l3,t3,g3,e4⟩:=zbP (n:=z) hns 18 (w:=w) ∅ ∅ ∅ z1 (Frm.refl g2.dr);have e3:yc T 24 yic [.loc 0,.int w,.int z] s1=.ok (.tp AB xs) s2:=e3;have e4:yc T 24 yic [.loc 0,.int w,.int z] s2=.ok (.tp AB ys) s3:=e4;let⟨c,s4,c0,c1,o5,e5⟩:=zgG 21 hns (m:=3) ∅ ∅ g3.dr;have e5:yc T 24 ya [.loc 0,.int 3] s3=_:=e5;let⟨dx,nx,ux,ax,sx⟩:=zen l2 t2 (.inl rfl) ∅ w1 ∅ z1;let⟨dy,ny,uy,ay,sy⟩:=zen l3 t3 (.inl rfl) ∅ w1 ∅ z1;have hbt:∀(ρ:IC.Env),yU (.t [2,3]) (.tp AB [.int w,.int z]) ρ=AA ((ρ.set 2 (AA (.int w))).set 3 (AA (.int z))):=λρ=>rfl;rw[zd hT rfl rfl (zfj ns)];have third:(z==2)=AC->decide (w<7)=AC->∃d,(∀st,yc T 24 yid [.tp AB xs,.int (4+c),.int z] st=.ok d st)/\(∀st,yc T 24 ygf [.tp AB xs,.int (4+c),.int z] st=.ok d st)/\∀st,yc T 24 yie [d,d] st=.ok (.bl AC) st:=λh1 h2=>by
  let⟨d,_,a,b,c⟩:=zen (w':=4+c) l2 t2 (.inr ⟨by simpa using h1,of_decide_eq_true h2,by lia,by lia⟩) ∅ ∅ ∅ z1;exact⟨d,a,b,c⟩
 generalize PV.tp AB xs=tx,PV.tp AB ys=ty at *
 cases q1:(z==2)with
 |false=>simp! [yfK,e1,e2,hbt,e3,e4,ux,ax,sx,uy,ay,sy,e5,q1,zc]
 |true=>
  cases q2:decide (w<7)with
  |false=>simp! [yfK,e1,e2,hbt,e3,e4,ux,ax,sx,uy,ay,sy,e5,q1,q2,zc]
  |true=>
   let⟨dz,uz,az,sz⟩:=third q1 q2;simp! [yfK,e1,e2,hbt,e3,e4,ux,ax,sx,uy,ay,sy,e5,q1,q2,uz,az,sz,zc]
end WK
namespace WK
open PySem L2 IC
theorem walk{l:EU}{q:Aa}{loose:List AO}{XP:(AO->Option AH)->Aw->Prop}{YP:Am->Aw->Prop}{d:DefRec}{K:Params->AF}(hn:l.most=AA 63)(hdf:d.params.defaults=[])
  (hY:∀(w:Am) (h:Aw),YP w h->(K w.params).In h)
  (F:∀(w:Am) (mg:AO->Option AH) (fa:AJ) (h:Aw),(K w.params).In h->h.Ns mainGlobals mg->mg d.name=AA (.ref fa) ->
   ∃fd:Ax,(∀(s:AK) (u:AH),EZ s fd ⟨[u],[]⟩ [("_law_script",u)])/\∀base:Aw,(K w.params).In base->base.Ns mainGlobals mg->yaM l.prog w (K w.params) mg base (CX1 l.prog w) (2*25) fa fd ["_law_script"] (spX (K w.params) (yc T 25) yif)):
  GW q loose XP YP l.row.toRowW d [] (λf vs=>G6 f vs):=
 L2.walk_of (n:=63) (k:=2*25) (x:="_law_script") (CX:=λw=>CX1 l.prog w) (sp:=λw=>spX (K w.params) (yc T 25) yif) hn ⋯ hdf ⟨rfl,by decide,by decide⟩ hY F (λw H a ns hl _ hS=>zgt ziI hl hS) λ_ _ _ _ _ z=>zmV z
end WK
end
open PySem PySem.W PyProof.Rows
theorem PySem.Challenge.cw_widewords_k10_whole_tellings_unrolled_holds : PySem.Challenge.rw_widewords_k10_whole_tellings_unrolled.Holds := by
 refine hh.hd (by rfl) (by rfl) (by rfl) ?_
 k_fill
 refine WK.walk (l:=PySem.Challenge.rw_widewords_k10_whole_tellings_unrolled) rfl rfl (λw h Y=>Y) ?F
 case F =>
  intro w mg fa h KX G hmg
  refine' L2.all_mk2 (t:=WK.tbQ) KX G hmg ?R ?B ?D WK.kb_all ?Ml WK.ok_all WK.T_ok (L:=53) rfl 25
  case R =>
   repeat' (first|exact trivial|apply And.intro|(refine' L2.rowFn ?a9 ?l9 ?c9 ?p9 ?b9;(case a9|l9|c9|p9=>k_is);(case b9=>((repeat intro _);first|rfl|kernel_rfl)))|(refine' L2.rowMe ?z9 ?a9 ?i9 ?l9 ?c9 ?p9 ?b9;(case z9=>((first|rw[WK.cn_20]);k_is));(case a9|i9|l9|c9|p9=>k_is);(case b9=>((repeat intro _);first|rfl|kernel_rfl)))|(refine' L2.rowIni ?z9 ?a9 ?i9 ?l9 ?c9 ?p9 ?b9 ?m9 ?k9;(case z9=>((first|rw[WK.cn_20]);k_is));(case a9|i9|l9|c9|p9=>k_is);(case b9=>((repeat intro _);first|rfl|kernel_rfl));(case m9|k9=>k_is))|(refine' L2.rowFd ?a9 ?l9 ?c9 ?p9 ?d9 ?e9 ?v9;(case a9|l9|c9|p9|d9=>k_is);(case e9=>rfl);(case v9=>(repeat first|exact .nil|refine .cons ⟨_,rfl⟩ ?_))))
  case B=>kernel_rfl
  case D =>
   repeat' (first|exact trivial|apply And.intro|intro _|(refine' L2.gd_mk KX G ?a9 ?l9 ?s9 ?r9 ?n9;(case a9|l9=>k_is);(case s9=>rfl);(case r9=>(repeat first|exact .nil|refine L2.con_row (by kernel_rfl) ?_));(case n9=>decide +kernel)))
  case Ml =>
   repeat' (first|exact trivial|apply And.intro|(refine' L2.gdf_mk KX G ?a9 ?l9 ?r9 ?n9;(case a9|l9=>k_is);(case r9=>(repeat first|exact .nil|refine L2.frow_cons (by kernel_rfl) ?_));(case n9=>decide +kernel)))
