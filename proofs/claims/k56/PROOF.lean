import PyProof.Rows.All
import OpenK.KLine
import Open.Tops
import Wide.FinOn
import KE.KRevSl
import KE.KItem
import KE.KxWritten
import KE.KFromBytes
import KE.LcSums
import KE.KBits
import KE.KTryMore
import KE.KDictOf
import PyProof.AttrMissHeap
import KE.KEqDict
import KE.KSortTup
import PyProof.DictItems
import PyProof.DictItemsLoops
import KE.KPairComp
import KE.KDictList
import PyProof.DictTruth
import PySem.Challenge.RW_widewords_k56_sentences_hold
set_option Elab.async false
set_option linter.all false
set_option maxRecDepth 100000
set_option maxHeartbeats 0
local macro_rules
 | `(#print $s:str)=>do
  let n:=fun (x:Lean.Name)=>Lean.mkIdent (.mkSimple s!"tw{x.hash}")
  let mut a:=#[n `PySem.Challenge.pw_widewords_k56_sentences_hold]
  for e in s.getString.splitOn "|" do
   let f:=e.splitOn " "
   let mut p:=0
   for r in f.tail! do
    let g:=(r.splitOn ".").map String.toNat!
    p:=p+g[0]!
    for j in [0:g.getD 1 0+1] do a:=a.push (n (.mkStr2 "sh" (f[0]!++toString (p+j))))
    p:=p+g.getD 1 0
  `(structure $(Lean.mkIdent `PySem.W.Fast):declId:Prop where ($a*:True))
set_option genSizeOf false
set_option genInjectivity false
#print "o_ 3 2 4 3.1 3 2.5 7 2.2 3.2 3 2.2 3.2 2 4 2.2 3.2 5.2 3 2.2 3 2.2 3 2.2 3 2.2 3 2.2 3 2.2 3 2.2 3 2.2 3.2 2 4 2.2 3 2.2 3 2.2 3.2 3.2 3.2 3 2.2 3 2.2 3.2 3 2.2 3.2|sts_ 4 49 83|tree_ 51 83 70"
set_option genSizeOf true
set_option genInjectivity true
open_shared sh for PySem.Challenge.pw_widewords_k56_sentences_hold leaving 0
namespace hh
open PySem PySem.W PySem.Calls PyProof.Rows
noncomputable abbrev p:=PySem.Challenge.pw_widewords_k56_sentences_hold
abbrev z:Pos:=⟨0,0,0,0⟩
abbrev an:Option Value:=some (.ref 6)
noncomputable abbrev bE:=behindTheImports p
noncomputable abbrev cE:Code:=.body bE sh.env_1
noncomputable abbrev H1(P:Params):Heap:=absHeap (sh.tree_204 P) 207 {}
noncomputable abbrev S0(w:World)(os:OsState):Shared:=⟨boot_heap w.params,⟨[]⟩,boot_drawn,boot_toks,os⟩
noncomputable abbrev Sb(w:World)(os:OsState):Shared:=SharedT.abs ⟨sh.tree_4 w.params,15,{},⟨[]⟩,{},187,os⟩
noncomputable abbrev Sk(w:World)(os:OsState):Shared:=SharedT.abs ⟨sh.tree_204 w.params,207,{},⟨[]⟩,{},497,os⟩
theorem pre(w os):topGo treeTable p w 11 an 12 (S0 w os) (topStub p)=some (Sb w os,⟨denote treeTable cE,cE,z,[topFrame z]⟩):=by kernel_rfl
theorem blk(w os):segRun treeTable p w 11 an 1 1 (Sb w os) (blockOf bE sh.env_1 cE z [topFrame z])=some (.next,Sb w os,cE,z):=by kernel_rfl
theorem fin(w os):topRun treeTable p w 11 an 2 (Sk w os) (restOf [] sh.env_1 cE ⟨176,0,205,84⟩ [topFrame z])=some (Sk w os):=by kernel_rfl
theorem bod:bE=sh.sts_4++(sh.sts_53++(sh.sts_136++[])):=by kernel_rfl
theorem run(w os):topRun treeTable p w 11 an (12+(1+(379+(387+(344+2))))) (S0 w os) (topStub p)=some (Sk w os):=by
 refine go_top (pre w os) (piece_block (blk w os) ?_)
 have h:=sh.chain p bE w os [] 2 (Sk w os) (fin w os)
 rw[<-bod] at h
 exact h
noncomputable def q:Program:=view p [31]
noncomputable abbrev lo:List Str:=p.boundNames
theorem look(w:World):(fun os=>((staticsOk (importedModules p.main.body) (boot_heap w.params) (H1 w.params) && namesBound p (H1 w.params) && gensDone (Sk w os) && laidKept (boot_heap w.params) (H1 w.params)),openSeen q lo (importedModules p.main.body) (fun _=>true) true (Sk w os),(Sk w os).heap))=fun _=>(true,openGood q lo,H1 w.params):=by kernel_rfl
theorem left:LeftO p q lo (fun _=>true) Shared.heap (fun w=>H1 w.params) 2340:=.of_pieces (boot_open (by kernel_rfl) (by kernel_rfl) fun s=>by kernel_rfl) (fun w=>by kernel_rfl) run (by kernel_rfl) look
theorem inA{t:BT}{n:Nat}{f:Life}{K:Frag}(h1:K.all (fun x=>Nat.blt x.1 n)=true)(h2:K.map (fun x=>t.get x.1)=K.map fun x=>some x.2)(h3:K.map (fun x=>alive x.2)=K.map fun x=>some x.2):K.In (absHeap t n f):=by
 intro a o e
 induction K with
 | nil=>cases e
 | cons x r ih=>
  obtain ⟨b,y⟩:=x
  simp only[List.map_cons,List.cons.injEq,List.all_cons,Bool.and_eq_true] at h1 h2 h3
  by_cases hb:(a==b)=true
  · rw[List.lookup_cons,hb] at e
    cases e
    have:=beq_iff_eq.mp hb
    subst this
    rw[abs_get (Nat.le_of_ble_eq_true h1.1) h2.1]
    exact h3.1
  · rw[List.lookup_cons,eq_false_of_ne_true hb] at e
    exact ih h1.2 h2.2 h3.2 e
local macro_rules
 | `(panic! $s:str)=>do
  let mut v:=#[]
  let mut p:=0
  let mut q:=0
  for r in s.getString.splitOn " " do
   if let g::l::m:=(r.splitOn ",").map String.toNat! then
    let i:=m.headD (q+g)
    p:=p+g
    for j in [0:l] do v:=v.push (p+j,if i==0 then .str `PySem.W s!"boot_o_{p+j}" else .str `sh s!"o_{i+j}")
    p:=p+l
    q:=i+l
  let mut a ← `(List.nil)
  for (x,o) in v.reverse do a ← `(List.cons (nat_lit $(Lean.Syntax.mkNumLit (toString x)),$(Lean.mkIdent o) P) $a)
  `(fun P=>$a)
noncomputable def KK:Params->Frag:=panic! "2,1,0 0,1,136 18,1,14 1,2 1,7 2,1 1,2 1,3 2,3 1,2 1,3 2,2 0,1,55 1,2 1,3 2,3 1,2 1,3 1,2 1,3 1,2 1,3 1,2 1,3 1,2 1,3 1,2 1,3 1,2 1,3 1,2 1,3 1,2 1,3 2,2 0,1,138 1,2 1,3 1,2 1,3 1,2 1,3 2,3 2,3 2,3 1,2 1,3 1,2 1,3 2,3 1,2 1,3 2,2"
theorem inK(w:World):InK KK w (H1 w.params):=inA (K:=KK w.params) (by kernel_rfl) (by kernel_rfl) (by kernel_rfl)
theorem hd{d:DefRec}{k:List (Str×Expr)}(a:defOf q "law"=some (d,k))(b:p.theDef "law"=some (d.params,d.body,d.scope))(c:kwWritten? d.params.kwonlyargs d.params.kw_defaults=some k)(h:WalkO q lo (fun _ _=>True) (InK KK) PySem.Challenge.rw_widewords_k56_sentences_hold.row.toRowW d k fun f vs=>PySem.call f vs):PySem.Challenge.rw_widewords_k56_sentences_hold.Holds:=by
 w_on;o_law
 refine holds_open left (YP:=InK KK) (XP:=fun _ _=>True) (fun w s e=>e ▸ inK w) InK.keeps (fun _ _=>trivial) (fun _ _ _ _ _=>trivial) a b c (fun s _=>recFacts_nil rfl) (by rfl) (by assumption) (by decide +kernel) ⟨rfl,rfl,rfl,rfl,rfl,by decide +kernel⟩ ?hw h
 w_witness2
end hh
local macro_rules|`(⋯)=>`((by decide))
local macro_rules|`(∅)=>`((by lia))
set_option compiler.extract_closed false
set_option bootstrap.genMatcherCode false
set_option genSizeOf false
open Option renaming some->AA,none->AC,isSome_iff_exists->Af,map_some->BD,bind_some->BY,getD_some->Bb,any_eq_true_iff_get->Co,get_some->FJ,getD_none->Gd
open PySem renaming wpAny_bind->AB,Value->AF,Shared->AI,wpAny_pure->AJ,Addr->AK,wpAny->AV,Str->AW,Expr->AY,Program->A4,Around->A9,World->Aa,wpAny_newObj_type->Ag,wpAny_callSpecial?_slot->As,Heap->Aw,FuncData->Ax,wpAny_call_entry->BC,DictEntry->BL,Env->BP,Scope->BR,wpAny_field->BS,wpAny_truthy_bool->B1,wpAny_holding->Bd,Obj->Bm,Stmt->Bo,wpAny_Call_Name_kw->Bp,wpAny_typeNameOfWhole_itemiter->Bq,sizeLine_eq->Bs,wpAny_typeNameOfWhole_keyiter->Bu,wpAny_dictEntries->Bz,Pos->CG,wpAny_typeNameOf_itemiter->CU,wpAny_passesOwn->CV,wpAny_typeNameOf_keyiter->C4,mem_of_lookup->C5,Keyword->C9,wpAny_pyIter_tuple->Ca,wpAny_setField_rec->Cc,wpAny_dictEpoch->Ch,wpAny_mono->Cm,wpAny_setField->Cn,IsItemIter->DC,Operator->DG,NameKind->DL,wpAny_typeOf->DO,wpAny_isOneOf_itemiter->DV,wpAny_notOrdered_dict->D0,wpAny_standAt->D9,codeAny_mono->Dp,wpAny_seqItems->Dt,wpAny_newFunctionEnv_cells->Dz,wpAny_fieldsOf->EI,wpAny_sequenceKey->EW,slot_list_getitem->EX,wpAny_pyIter_slot->E1,wpAny_getItem_list_slice->E4,wpAny_comprehension_free->E5,wpAny_attempt->E8,wpAny_isInstance->Ec,HeapKind->Ed,PassesOwn->Ee,wpAny_pyNext_tuple_item->Ef,noFill_tuple_add->Eh,wpAny_pyNext_tuple_end->En,wpAny_pyNext_range_end->Eo,wpAny_pyIter_rangeiter->Ep,BindsTo->Es,IsPart->Eu,Builtin->Ey,wpAny_execs_nil->FG,codeAny_call_function->FM,wpAny_isOneOf_keyiter->FQ,wpAny_loadName_local->FV,IsRangeIter->FW,wpAny_loadName_cell->Fh,CmpOp->Fj,seq_tuple_add->Fk,evalPart_none->Fm,wpAny_handled->Fp,IsItemIterOut->Fv,wpAny_rule->GB,wpAny_pyIter_range->GE,Result->GF,strKind_is->GI,Within->GM,wpAny_assign_Name->GO,concat_meets->GU,wpAny_pyIter_enum->GY,wpAny_pyIter_list->GZ,call_meetsIn->G0,seqIndex_of->Gi,wpAny_of_eq->Gk,wpAny_throw->Gm,codeAny_builtin->Gu,Paired->HA,wpAny_Name->HB,wpAny_call->HD,typeIs_str->HG,call->HH,BoolOp->Hj,Tok->Hr,Model->Hu,Sem->IL
open Bool renaming true->AD,false->AG,and_eq_true->AH,false_ne_true->AU,true_and->Be,false_eq_true->Bn,and_eq_true_iff->Bt,not_eq_true'->By,false_and->CM,or_eq_true->CW,not_true->E3,and_self->E7,eq_iff_iff->FI,or_false->HQ,false_or->HV,true_or->Hg
open PySem.W renaming Frag->AE,findIn->Ai,keepIn->An,nsIn->BE,kitOne->BI,emptyDict->B3,fnOf->Bg,instObj->CA,codeIn->CN,kia_one->Cg,hideAll->DA,hasDictIn->DH,isFn->DI,cellsFrom_some->DM,plainGet->D2,makesIn->Dg,methodObj->ET,plainOver->EU,mg_of->E9,OpenLaw->Em,takerIn->FH,lookIn->FY,hideAll_get->Fg,excIn->Fu,of_hideAll->GA,callWith_K->GG,codeRec_of->GH,handedIn->G9,WalkO->Gx,exmOne->HJ,subIn->HR,mroIn->HS,clsIn->HU,Rel2->Hh
open PySem.Heap renaming get?_push_of_some->AL,get?_push_size->AT,lt_size->AX,SameBut->BW,size_push->DJ,get?_update_other->DP,get?_update_self->DY,ExtBut->Gj,MadeExcOf->HI,FlyingW->Hf
open List renaming map_cons->AM,mem_cons_of_mem->AN,length_cons->AO,length_map->AQ,size_toArray->AZ,mem_cons_self->A0,mem_of_getElem?->A5,getElem?_cons_succ->A6,getElem?_cons_zero->A7,mem_cons->Ac,getElem?_append_left->Ae,length_append->Aj,length_nil->Ak,mem_append_right->Am,getElem?_append_right->Ao,getElem?_set_ne->Aq,getElem?_eq_some_iff->Ar,all_cons->Au,mem_append->Av,replicate->Ay,length_set->Az,map_nil->BA,set_cons_zero->BG,set_cons_succ->BH,getElem?_map->BJ,getElem?_set_self->BM,getElem?_eq_getElem->BO,getElem?_eq_none->BQ,mem_singleton->BU,length_take->BX,map_append->B8,length_drop->B9,lookup_cons->Ba,filterMap_cons->Bi,length->Bk,find?_cons->CC,nil_append->CD,any_cons->CF,all_eq_true->CJ,lookup->C0,length_reverse->C7,take_of_length_le->Cb,append_nil->Cd,foldl_cons->Cf,any_eq_true->Cp,cons_append->Cq,length_eq_zero_iff->DF,reverse_cons->DR,filterMap->DS,range->D1,not_mem_nil->D5,mem_reverse->D7,nodup_cons->Dh,of_mem_zip->Di,take_succ_cons->Dn,mem_filterMap->Dx,zip_cons_cons->EF,getD_eq_getElem?_getD->EH,drop_eq_getElem_cons->EQ,pairwise_iff_getElem->ER,getElem?_set->EY,ext_getElem?->EZ,getElem?_replicate->Eg,take_length->Ej,map_reverse->El,set_set->FD,mem_map->FE,forIn_cons->FF,length_singleton->FO,contains_iff_mem->FR,mem_range->FT,mem_append_left->FU,pairwise_append->Fb,mem_of_mem_take->Fc,mem_of_mem_drop->Fd,length_pos_iff->Fi,pairwise_cons->GJ,isEmpty_cons->G1,append_assoc->G2,map_map->G7,isEmpty_nil->Ge,drop_length->Gf,mem_filter->Gp,take_zero->HK,map_take->Ha,map_drop->Hb
open Nat renaming le_refl->AR,lt_of_lt_of_le->A8,ne_of_lt->Al,le_trans->BV,zero_le->Bj,ne_of_gt->CZ,lt_irrefl->C3,reduceSub->Da,le_succ->EV,zero_add->FB,pow_le_pow_right->F8,le_of_lt->GN,le_of_eq->GQ,lt_or_ge->G4,lt_succ_self->Gb,log2_lt->IB
open PySem.Str renaming ofString->AS,empty->Ga
open Option.some renaming inj->A3
open PySem.Value renaming ref->Ab,none->BB,bool->C8,int->Ea,type->Fz,str->G8,isStrOf->HP,isInt->Hq,bytes->Hs,float->Ht
open PyProof.Rows renaming slot_tuple_getitem->Ah,callWith_type1->Bc,AllBare->D8,entry_tuple_getitem->Dm,assignInOrder_cons->Dw,slicePart_none->EA,args_tuple_getitem->EB,tupleItemsOf_->EO,subscriptTail_builtinR->Ew,IntsAre->Ff,assignInOrder_nil->GP,callWith_builtin1->Gc,boot_isinstance->Gr,iadd_int->Gw,boot_range->HC,Subscript_->HE,tail_any->HF,IsTup->Hw
open PySem.Builtin.Tuple renaming tupleExact->BF,tupleItemsOf->CK,tupleHashOf->EM
open PySem.Builtin.Slice renaming slicePlaces->BK,sliceApplied->CO,sliceAdjust->Cr,sliceFields->EN,slicePartIndex->Gq
open PySem.F renaming slot_dict_keyiterator_next->BN,slot_dict_itemiterator_next->B4,slot_tuple_iterator_next->CP,slot_tuple_getattribute->Ct,args_tuple_add_2->Cw,entry_tuple_add->DE,slot_tuple_add->DN,args_dict_itemiterator_next_1->DX,slot_dict_get->DZ,args_dict_keyiterator_next_1->D3,entry_dict_itemiterator_next->D4,entry_dict_keyiterator_next->Db,args_tuple_iterator_next_1->Dj,slot_dict_keyiterator_iter->Dl,entry_tuple_iterator_next->Dq,args_dict_get_3->Ei,entry_dict_get->Ez,slot_dict_items_iter->FA,slot_list_append->FN,plainAttrs_dict->F3,slot_dict_items->G3,slot_dict_iter->Gg,slot_dict_len->Gv
open False renaming elim->BZ
open Ne renaming symm->B0
open PySem.Value.type renaming inj->B5
open PySem.PyData renaming depthAll->B6,depth->Bf,canLay0->Br,eqv->CL,canLayAll0->CY,eqvAll->Ci,keyHash->EG
open PySem.Builtin.Dict_items renaming ownsTuple->B7,ownedTupleFields->Cy,ownedTupleIsFree->Cz,pairFromOwner->DW,newIterator->Gh,dictOf->HM
open Array renaming getElem?_eq_getElem->Bl,getElem?_toList->CS,length_toList->Cu,getElem?_eq_none->DU,append_assoc->Du,getElem?_eq_some_iff->ED,forIn_toList->Fy,toList->GL
open PySem.Builtin.Range renaming rangeSize->Bv,rangeFitsLong->Gz,small->IG
open Int renaming toNat_natCast->Bw,mul_le_mul_of_nonneg_right->D6,mul_le_mul_of_nonneg_left->Dc,toNat_of_nonneg->Do,emod_lt_of_pos->EK,mul_nonneg->EL,ediv_one->Et,emod_nonneg->FK,natCast_pow->FL,mul_one->FX,pow_pos->Fa,mul_comm->G5,le_of_lt->G6,le_refl->Gn,mul_add->Go,add_assoc->HW,add_comm->Hk,ofNat_le->Hm,add_zero->Hn,le_trans->Ho,one_mul->IE,pow_add->IF
open True renaming intro->CB
open PySem.Heap.FunFrames renaming mem->CQ
open PySem.Builtin.SmallTypes renaming nextOf->CT
open PySem.Challenge renaming rw_widewords_k56_sentences_hold->C1,pw_widewords_k56_sentences_hold->E2
open PySem.Paired renaming length->C2,snoc->ID
open PySem.Heap.SameBut renaming update->C6,refl->IN
open PySem.NameKind renaming free->Cj,cell->Fq
open PySem.Builtin.Dict renaming showsAll->Ck,updateFrom->Ek,dictSlotNone->HL,pendingCount->HN,addKeywords->HX,selfAndRest->HY,pairItems->Hl,noArgs->IH
open PySem.Builtin.Int renaming intBits->Cv
open PySem.Obj renaming data_mapFields->DB,mapSeq->Ex,isFreed_of_fields->FP,mapFields->Ft,cls_mapFields->GW
open PySem.Builtin.Str renaming occurrences->DD,strSliceIndices->Dr
open PySem.Calls renaming callWith_builtin->DQ,Name_function_global->Dv,spliced_cons->Dy,evalArgs_plain->FZ,spliced_nil->GT
open ForInStep renaming yield->De
open PUnit renaming unit->Ds
open PySem.Heap.IsSliceOf renaming new->EC
open PySem.ScopeKind renaming function->EJ
open Sum renaming inr->ES,inl->Fe
open PySem.Around renaming in1_units->Eb,under_plainId->F6,under->GR
open PySem.SeqAt.EqAt renaming int_str->Fw,str_int->Fx
open PySem.Code renaming isFrame->GS,frames->IA
open List.Pairwise renaming nil->GV
open PySem.WalksT renaming enumerateD->GX
open Eq renaming refl->Gy
open PySem.Shared renaming TypeIs->HZ
open PySem.Flow renaming next->Hc
open PySem.Heap.UpToSlots renaming of_keeps->Hd
open And renaming intro->He
open PySem.SeqAt renaming shaped->Hi,EqAt->IJ
open PySem.Data renaming fields->Hx
open PySem.Walks renaming range->Hy
open PySem.IsRange renaming new->Hz
open PySem.W.Looks renaming here->II
open PySem.W.WShape renaming has->IK
open PySem.Within renaming cons->IM
open PySem.W.WData renaming int->IP
open PySem.Heap.DictOfH renaming new->IQ
noncomputable section
open Lean in
def cnvP:Nat->Syntax->MacroM (TSyntax `rcasesPat)
 |0,_=>Macro.throwUnsupported
 |n+1,s=>do
  if s.isOfKind ``Lean.Parser.Term.anonymousCtor then `(rcasesPat| ⟨$[$(← s[1].getSepArgs.mapM (cnvP n)):rcasesPat],*⟩)
  else if s.isIdent then `(rcasesPat| $(⟨s⟩):ident)
  else if s.isOfKind ``Lean.Parser.Term.hole then `(rcasesPat| _)
  else Macro.throwUnsupported
local macro_rules | `(tactic| let $p:term := $e)=>do `(tactic| obtain $(← cnvP 9 p):rcasesPat := $e)
local macro_rules | `(tactic| erw [$rs,*] $(l)?)=>do
 let t<-rs.getElems.mapM λ|`(Lean.Parser.Tactic.rwRule| $t:term)=>`(Lean.Parser.Tactic.simpLemma| $t:term)|_=>Lean.Macro.throwUnsupported
 `(tactic| simp only[$t,*] $(l)?)
local macro_rules | `(fun $bs* => $b)=>do
 if !(bs.any λx=>x.raw.isOfKind ``Lean.Parser.Term.anonymousCtor)||(b.raw.find? λx=>x.isOfKind ``Lean.Parser.Term.syntheticHole).isSome then Lean.Macro.throwUnsupported
 `(by rintro $[$(← bs.mapM λx=>cnvP 9 x.raw):rcasesPat]*;exact $b)
set_option backward.eqns.nonrecursive false
local macro_rules (kind:=Lean.Parser.Command.declaration)
 |s=>do
  let k:=s[1].getKind
  unless (k==``Lean.Parser.Command.definition||k==``Lean.Parser.Command.abbrev)&&s[0].getArgs.all (·.isNone) do Lean.Macro.throwUnsupported
  if k==``Lean.Parser.Command.definition&&(toString s[1][1][0].getId).startsWith "z" then
   let m←`(theorem x:True:=trivial)
   return s.setArg 1 (((m.raw[1].setArg 1 s[1][1]).setArg 2 (Lean.mkNode ``Lean.Parser.Command.declSig #[s[1][2][0],s[1][2][1][0]])).setArg 3 s[1][3])
  let m←`(noncomputable def x:=0)
  return s.setArg 0 m.raw[0]
namespace L2
open PySem PySem.Spec PyProof.Rows
abbrev Key:=Sum Int AW
def ybb:Key->AF->Bool
 |.inl k,v=>Hq k v
 |.inr x,v=>HP x v
def yeM(w:Aa):Key->Int
 |.inl k=>hashInt k
 |.inr x=>hashStr w x
def zd:∀{k:Key} {v:AF},ybb k v=AD->(∃i t,k=Fe i/\v=Ea i t) \/ (∃x t,k=ES x/\v=G8 x t)
 |.inl i,v,h=>by
  let⟨t,e⟩:=Value.isInt_shape (k:=i) (v:=v) h;exact .inl ⟨i,t,rfl,e⟩
 |.inr x,v,h=>by
  let⟨t,e⟩:=Value.isStrOf_shape (x:=x) (v:=v) h;exact .inr ⟨x,t,rfl,e⟩
def zeF(i:Int)(t:Hr):ybb (.inl i) (.int i t)=true:=by simp[ybb,Hq]
def zen(x:AW)(t:Hr):ybb (.inr x) (.str x t)=true:=by simp[ybb,HP]
def ziR(a b:Int):decide ((Fe a:Key)=Fe b)=(a==b):=by
 by_cases e:a=b
 .subst e;simp
 .have h:¬(Fe a:Key)=Fe b:=λq=>e (Sum.inl.inj q);rw[decide_eq_false h];exact(beq_eq_false_iff_ne.mpr e).symm
def zi8(a b:AW):decide ((ES a:Key)=ES b)=decide (a=b):=by
 by_cases e:a=b
 .subst e;simp
 .have h:¬(ES a:Key)=ES b:=λq=>e (Sum.inr.inj q);rw[decide_eq_false h,decide_eq_false e]
def ziK(a:Int)(b:AW):decide ((Fe a:Key)=ES b)=false:=decide_eq_false (λq=>nomatch q)
def zh4(a:AW)(b:Int):decide ((ES a:Key)=Fe b)=false:=decide_eq_false (λq=>nomatch q)
def yO(prog:A4)(w:Aa):PySem.KeyKind prog w Key where
 is:=ybb
 hash:=yeM w
 inj:=λv a b ha hb=>by
  rcases zd ha with⟨i,t,rfl,rfl⟩|⟨x,t,rfl,rfl⟩
  .rcases zd hb with⟨j,u,rfl,e⟩|⟨y,u,rfl,e⟩
   .injection e with e1 _;rw[e1]
   .exact nomatch e
  .rcases zd hb with⟨j,u,rfl,e⟩|⟨y,u,rfl,e⟩
   .exact nomatch e
   .injection e with e1 _;rw[e1]
 byValue:=λk v h=>by
  rcases zd h with⟨i,t,rfl,rfl⟩|⟨x,t,rfl,rfl⟩<;>rfl
 pyHash:=λhv h=>by
  rcases zd hv with⟨i,t,rfl,rfl⟩|⟨x,t,rfl,rfl⟩
  .exact wpAny_pyHash_int h
  .exact wpAny_pyHash_str h
 eqBool:=λhu hv h=>by
  rcases zd hu with⟨i,t,rfl,rfl⟩|⟨x,t,rfl,rfl⟩
  .rcases zd hv with⟨j,u,rfl,rfl⟩|⟨y,u,rfl,rfl⟩
   .rw[ziR]at h;exact wpAny_eqBool_int h
   .rw[ziK]at h;exact Fw i t y u _ _ _ _ h
  .rcases zd hv with⟨j,u,rfl,rfl⟩|⟨y,u,rfl,rfl⟩
   .rw[zh4]at h;exact Fx x t j u _ _ _ _ h
   .rw[zi8]at h;exact wpAny_eqBool_str h
 «strs»:=λk x t v h=>by
  rcases zd h with⟨i,u,rfl,e⟩|⟨y,u,rfl,e⟩
  .exact nomatch e
  .injection e with e1 _;subst e1
   cases v<;>rfl
def zca(prog:A4)(w:Aa)(i:Int)(t:Hr):(yO prog w).is (.inl i) (.int i t)=true:=zeF i t
def zbX(prog:A4)(w:Aa)(x:AW)(t:Hr):(yO prog w).is (.inr x) (.str x t)=true:=zen x t
end L2
namespace L2
open PySem
inductive NK where
 |a (k:Key)
 |t (l:List NK)
noncomputable instance:DecidableEq NK:=λ_ _=>Classical.propDecidable _
mutual
def NI(h:Aw):NK->AF->Prop
 |.a k,v=>ybb k v=AD
 |.t l,v=>∃(b:AK) (its:List AF),v=.ref b/\h.get? b=AA {cls:=.type "tuple",data:=.seq its.toArray}/\NIs h l its
def NIs(h:Aw):List NK->List AF->Prop
 |[],vs=>vs=[]
 |k::l,vs=>∃v r,vs=v::r/\NI h k v/\NIs h l r
end
mutual
def nkH(w:Aa):NK->Int
 |.a k=>yeM w k
 |.t l=>reduceHash (EM (ycS w l))
def ycS(w:Aa):List NK->List Int
 |[]=>[]
 |k::l=>nkH w k::ycS w l
end
mutual
def nkN:NK->Nat
 |.a _=>1
 |.t l=>yde l+1
def yde:List NK->Nat
 |[]=>0
 |k::l=>nkN k+yde l
end
mutual
def nkD:NK->PyData
 |.a (.inl i)=>.int i
 |.a (.inr x)=>.str x
 |.t l=>.tuple (yaR l)
def yaR:List NK->List PyData
 |[]=>[]
 |k::l=>nkD k::yaR l
end
section
variable {prog:A4}{w:Aa}{E:AF->AI->Prop}
mutual
theorem zeg:∀(k:NK) (v:AF) (A:A9) (s:AI) (Q:Int->AI->Prop),NI s.heap k v->A.units+(nkD k).depth<cLine->Q (nkH w k) {s with toks:=s.toks+nkN k}->AV (model prog w) A (pyHash v) Q E s
 |.a k,v,A,s,Q,hi,_,h=>(yO prog w).pyHash (k:=k) hi h
 |.t l,v,A,s,Q,hi,hu,h=>by
  let⟨b,its,rfl,g,hs⟩:=hi;erw[nkD,Bf]at hu;refine PySem.W.pyHash_slot (T:="tuple") ⟨_,g,rfl⟩ F.slot_tuple_hash F.entry_tuple_hash (F.args_tuple_hash_1 _) (beq_builtin_none _) (.inr ∅) ?_;show AV _ _ (CK (.ref b) >>= _) _ _ s;refine AB (wpAny_tupleItemsOf g rfl ?_);refine AB ?_;rw[<-Fy];refine zdk l its A.in1 s #[] _ hs (by erw[Eb];lia) λb' hb=>?_;show AV _ _ (retInt (EM b'.toList)) _ _ _;rw[hb];exact AB (wpAny_mkInt (AJ ⟨_,_,rfl,h⟩))
theorem zdk:∀(l:List NK) (vs:List AF) (A:A9) (s:AI) (b:Array Int) (Q:Array Int->AI->Prop),NIs s.heap l vs->A.units+B6 (yaR l)<cLine ->
  (∀b',b'.toList=b.toList++ycS w l->Q b' {s with toks:=s.toks+yde l}) ->
  AV (model prog w) A (forIn vs b λx r=>do let h <-pyHash x;pure Ds;pure (De (r.push h))) Q E s
 |[],vs,A,s,b,Q,hi,_,h=>by
  cases (show vs=[]from hi)
  exact AJ (h b (by simp[ycS]))
 |k::l,vs,A,s,b,Q,hi,hu,h=>by
  let⟨v,r,rfl,h1,h2⟩:=hi;erw[yaR,B6]at hu;rw[FF];refine AB (AB (zeg k v A s _ h1 ∅ ?_));refine AB (AJ (AJ ?_));refine zdk l r A _ _ Q h2 ∅ λb' hb=>?_;have:=h b' (by simp[hb,ycS]);simpa [yde,Nat.add_assoc] using this
end
mutual
theorem za5{h:Aw}:∀(k:NK) (v:AF),NI h k v->∃as,Reads h v (nkD k) as
 |.a (.inl i),v,hi=>by
  rcases zd hi with⟨j,t,e,rfl⟩|⟨x,t,e,rfl⟩
  .cases e;exact⟨_,.int _ _⟩
  .cases e
 |.a (.inr x),v,hi=>by
  rcases zd hi with⟨j,t,e,rfl⟩|⟨y,t,e,rfl⟩
  .cases e
  .cases e;exact⟨_,.str _ _⟩
 |.t l,v,hi=>by
  let⟨b,its,rfl,g,hs⟩:=hi;let⟨as,r⟩:=zbJ l its hs;exact⟨as,.tuple g rfl rfl (by simpa using r)⟩
theorem zbJ{h:Aw}:∀(l:List NK) (vs:List AF),NIs h l vs->∃as,ReadsAll h vs (yaR l) as
 |[],vs,hi=>by cases (show vs=[]from hi);exact⟨_,.nil⟩
 |k::l,vs,hi=>by
  let⟨v,r,rfl,h1,h2⟩:=hi;let⟨a1,r1⟩:=za5 k v h1;let⟨a2,r2⟩:=zbJ l r h2;exact⟨_,.cons r1 r2⟩
end
mutual
theorem zgf:∀a b:NK,CL (nkD a) (nkD b)=decide (a=b)
 |.a (.inl i),.a (.inl j)=>by erw[nkD,CL];by_cases e:i=j<;>simp[e]
 |.a (.inl i),.a (.inr j)=>by simp[nkD,CL]
 |.a (.inr i),.a (.inl j)=>by simp[nkD,CL]
 |.a (.inr i),.a (.inr j)=>by erw[nkD,CL];by_cases e:i=j<;>simp[e]
 |.a (.inl i),.t l=>by simp[nkD,CL]
 |.a (.inr i),.t l=>by simp[nkD,CL]
 |.t l,.a (.inl i)=>by simp[nkD,CL]
 |.t l,.a (.inr i)=>by simp[nkD,CL]
 |.t l,.t m=>by erw[nkD,CL,zdG l m];by_cases e:l=m<;>simp[e]
theorem zdG:∀a b:List NK,Ci (yaR a) (yaR b)=decide (a=b)
 |[],[]=>by simp[yaR,Ci]
 |[],_::_=>by simp[yaR,Ci]
 |_::_,[]=>by simp[yaR,Ci]
 |a::l,b::m=>by
  erw[yaR,Ci,zgf a b,zdG l m]
  by_cases e:a=b<;>by_cases f:l=m<;>simp[e,f]
end
mutual
theorem zcl:∀(k:NK) (v:AF) (n:Nat) (A:A9) (s:AI) (Q:Bool->AI->Prop),NI s.heap k v->(nkD k).depth<=n->Q AD s->AV (model prog w) A (eqIsQuiet n v) Q E s
 |.a k,v,n,A,s,Q,hi,_,h=>by
  rw[eqIsQuiet_byValue n ((yO prog w).byValue k v hi)];exact AJ h
 |.t l,v,n,A,s,Q,hi,hd,h=>by
  let⟨b,its,rfl,g,hs⟩:=hi;erw[nkD,Bf]at hd;obtain⟨m,rfl⟩:∃m,n=m+1:=⟨n-1,by lia⟩;unfold eqIsQuiet;refine AB (wpAny_specialOf (T:="tuple") ⟨_,g,rfl⟩ F.slot_tuple_eq.lookup ?_);show AV _ _ (isInstance (.ref b) (.type "tuple") >>= _) _ _ s;refine AB (Ec (T:="tuple") ⟨_,g,rfl⟩ isSubtype_tuple_tuple ?_);erw[E3,Bn,if_false];refine AB (Dt g rfl ?_);refine AB ?_;show AV _ _ (forIn its.toArray _ _) _ _ s;rw[<-Fy];refine zbA l its m A s _ hs ∅ ?_;exact AJ h
theorem zbA:∀(l:List NK) (vs:List AF) (n:Nat) (A:A9) (s:AI) (Q:Option Bool×PUnit->AI->Prop),NIs s.heap l vs->B6 (yaR l)<=n->Q (AC,Ds) s ->
  AV (model prog w) A (forIn vs (AC,Ds) λy r=>do
   let b <-eqIsQuiet n y
   if (!b)=AD then pure (ForInStep.done (AA AG,Ds))else do
    pure Ds
    pure (De (AC,Ds))) Q E s
 |[],vs,n,A,s,Q,hi,_,h=>by
  cases (show vs=[]from hi)
  exact AJ h
 |k::l,vs,n,A,s,Q,hi,hd,h=>by
  let⟨v,r,rfl,h1,h2⟩:=hi;erw[yaR,B6]at hd;rw[FF];refine AB (AB (zcl k v n A s _ h1 ∅ ?_));erw[E3,Bn,if_false];refine AB (AJ (AJ ?_));exact zbA l r n A s Q h2 ∅ h
end
mutual
theorem zgn{h:Aw}:∀(a b:NK) (v:AF),NI h a v->NI h b v->a=b
 |.a k,.a j,v,x,y=>by
  rcases zd x with⟨_,_,rfl,rfl⟩|⟨_,_,rfl,rfl⟩<;>rcases zd y with⟨_,_,rfl,e⟩|⟨_,_,rfl,e⟩<;>cases e<;>rfl
 |.a k,.t l,v,x,y=>by
  let⟨b,its,rfl,_⟩:=y;rcases zd x with⟨_,_,_,e⟩|⟨_,_,_,e⟩<;>cases e
 |.t l,.a k,v,x,y=>by
  let⟨b,its,rfl,_⟩:=x;rcases zd y with⟨_,_,_,e⟩|⟨_,_,_,e⟩<;>cases e
 |.t l,.t m,v,x,y=>by
  let⟨b,its,rfl,g,hs⟩:=x;let⟨b',its',e,g',hs'⟩:=y
  cases e
  rw[g]at g';injection g' with g';injection g' with _ _ g' _;injection g' with g' _;have e2:its=its':=by simpa using congrArg GL g'
  subst e2;rw[zd2 l m its hs hs']
theorem zd2{h:Aw}:∀(a b:List NK) (vs:List AF),NIs h a vs->NIs h b vs->a=b
 |[],[],_,_,_=>rfl
 |[],_::_,vs,x,y=>by
  cases (show vs=[]from x)
  let⟨_,_,e,_⟩:=y;cases e
 |_::_,[],vs,x,y=>by
  cases (show vs=[]from y)
  let⟨_,_,e,_⟩:=x;cases e
 |a::l,b::m,vs,x,y=>by
  let⟨v,r,rfl,h1,h2⟩:=x;let⟨_,_,e,h3,h4⟩:=y
  cases e
  rw[zgn a b v h1 h3,zd2 l m r h2 h4]
end
end
mutual
theorem NI.stay{h h':Aw}(k:∀b its,h.get? b=AA {cls:=.type "tuple",data:=.seq its}->h'.get? b=AA {cls:=.type "tuple",data:=.seq its}):∀(a:NK) (v:AF),NI h a v->NI h' a v
 |.a _,_,x=>x
 |.t l,v,x=>by
  let⟨b,its,e,g,hs⟩:=x;exact⟨b,its,e,k _ _ g,NIs.stay k l its hs⟩
theorem NIs.stay{h h':Aw}(k:∀b its,h.get? b=AA {cls:=.type "tuple",data:=.seq its}->h'.get? b=AA {cls:=.type "tuple",data:=.seq its}):∀(a:List NK) (vs:List AF),NIs h a vs->NIs h' a vs
 |[],_,x=>x
 |a::l,vs,x=>by
  let⟨v,r,e,h1,h2⟩:=x;exact⟨v,r,e,NI.stay k a v h1,NIs.stay k l r h2⟩
end
def ydb(l:List NK):Prop:=CY (yaR l)=AD/\B6 (yaR l)<=6
def yam(P:A4)(w:Aa):Ed P w (List NK) where
 is:=λh l a=>NI h (.t l) (.ref a)/\ydb l
 hash:=λl=>nkH w (.t l)
 draws:=λl=>nkN (.t l)
 room:=λA=>A.units+8<cLine
 inj:=λx y=>by have e:=zgn _ _ _ x.1 y.1;injection e
 keeps:=λx ho hd hs=>⟨NI.stay (λb its g=>(hs.2 b (λe=>by subst e;rw[ho]at g;cases g;cases hd)).trans g) _ _ x.1,x.2⟩
 pyHash:=λhu x h=>zeg _ _ _ _ _ x.1 (by have:=x.2.2;erw[nkD,Bf];lia) h
 eqBool:=λ{A E s x y a b Q} hu hx hy h=>by
  let⟨as,ra⟩:=za5 _ _ hx.1;let⟨bs,rb⟩:=za5 _ _ hy.1;refine SeqAt.eqBoolOverData P w A E s _ _ _ _ as bs Q ra rb (by erw[nkD,Br];exact hx.2.1) (by erw[nkD,Br];exact hy.2.1) (by have:=hx.2.2;erw[nkD,Bf];lia) ?_;rw[zgf];have:decide (NK.t x=NK.t y)=decide (x=y):=by by_cases e:x=y<;>simp[e]
  rw[this];exact h
 quiet:=λx h=>zcl _ _ _ _ _ _ x.1 (by have:=x.2.2;erw[nkD,Bf];lia) h
end L2
namespace L2
open PySem PySem.Spec PyProof.Rows
inductive V where
 |non|bl (b:Bool)|int (i:Int)|str (x:AW)|byt (b:Array UInt8)|flt (b:UInt64)|ref (a:AK)|ty (n:String)
 deriving DecidableEq
def RelV:V->AF->Prop
 |.non,u=>u=BB
 |.bl b,u=>u=C8 b
 |.int i,u=>∃t,u=Ea i t
 |.str x,u=>∃t,u=G8 x t
 |.byt b,u=>∃t,u=Hs b t
 |.flt b,u=>∃t,u=Ht b t
 |.ref a,u=>u=Ab a
 |.ty n,u=>u=Fz n
abbrev Vals:List V->List AF->Prop:=HA RelV
theorem Vals.length{xs:List V}{us:List AF}(r:Vals xs us):xs.length=us.length:=C2 r
theorem Vals.get:∀{xs:List V} {us:List AF} {i:Nat} {x:V},Vals xs us->xs[i]?=AA x->∃u,us[i]?=AA u/\RelV x u
 |_,_,_,_,.nil,e=>by simp at e
 |_,_,0,_,.cons r _,e=>by simp at e;subst e;exact⟨_,rfl,r⟩
 |_,_,i+1,x,.cons _ t,e=>by
  let⟨u,h1,h2⟩:=Vals.get (i:=i) (x:=x) t (by simpa using e);exact⟨u,by simpa using h1,h2⟩
theorem Vals.set{x:V}{u:AF}(r:RelV x u):∀{xs:List V} {us:List AF} (i:Nat),Vals xs us->Vals (xs.set i x) (us.set i u)
 |_,_,_,.nil=>.nil
 |_,_,0,.cons _ t=>.cons r t
 |_,_,i+1,.cons q t=>.cons q (Vals.set r i t)
theorem Vals.append:∀{xs ys:List V} {us ws:List AF},Vals xs us->Vals ys ws->Vals (xs++ys) (us++ws)
 |_,_,_,_,.nil,s=>s
 |_,_,_,_,.cons r t,s=>.cons r (Vals.append t s)
theorem Vals.take:∀{xs:List V} {us:List AF} (n:Nat),Vals xs us->Vals (xs.take n) (us.take n)
 |_,_,0,_=>.nil
 |_,_,_+1,.nil=>.nil
 |_,_,n+1,.cons r t=>.cons r (Vals.take n t)
theorem Vals.drop:∀{xs:List V} {us:List AF} (n:Nat),Vals xs us->Vals (xs.drop n) (us.drop n)
 |_,_,0,r=>r
 |_,_,_+1,.nil=>.nil
 |_,_,n+1,.cons _ t=>Vals.drop n t
def ybk:Option V->Option AF->Prop
 |some v,AA u=>RelV v u
 |none,AC=>True
 |_,_=>False
def KV{κ:Type}:List (κ×V)->List (κ×AF)->Prop:=HA λ(p:κ×V) (q:κ×AF)=>p.1=q.1/\RelV p.2 q.2
def kV:Key->V
 |.inl i=>.int i
 |.inr x=>.str x
inductive HO where
 |lst (xs:List V)
 |tup (xs:List V)
 |dK (kvs:List (Key×V))|dT (kvs:List (List NK×V))
 |set (S:Int->Bool) (n:Nat)
 |ins (C dx:AK) (fs:List (AW×V))
 |own (x:AK)
 |xd (fs:List (AW×V))
 |met (f x:AK)
 |rng (lo hi:Int)
 |frz (o:Bm) (u:HO)
 |tbl (ps:Array AF)
 |ext (φ:Aw->Prop)
abbrev Hp:=AK->Option HO
def upd(H:Hp)(a:AK)(o:HO):Hp:=λb=>if b=a then AA o else H b
def zb{H:Hp}{a:AK}{o:HO}:upd H a o a=AA o:=by unfold upd;rw[if_pos rfl]
def za{H:Hp}{a b:AK}{o:HO}(h:b≠a):upd H a o b=H b:=by unfold upd;rw[if_neg h]
def zkA{H:Hp}{a b:AK}{o u:HO}(h:H a=AA o)(h':H b=AA u)(d:o≠u):a≠b:=by
 intro e;subst e;rw[h]at h';exact d (A3 h')
def zc{H:Hp}{a b:AK}{o:HO}(h:H a=AA o)(h':H b=AC):a≠b:=by
 intro e;subst e;rw[h]at h';cases h'
mutual
def NKr(H:Hp):NK->V->Prop
 |.a k,v=>v=kV k
 |.t l,v=>∃(b:AK) (xs:List V),v=.ref b/\H b=AA (.tup xs)/\NKs H l xs
def NKs(H:Hp):List NK->List V->Prop
 |[],xs=>xs=[]
 |k::l,xs=>∃y ys,xs=y::ys/\NKr H k y/\NKs H l ys
end
def KyR(H:Hp)(l:List NK)(b:AK):Prop:=NKr H (.t l) (.ref b)/\ydb l
mutual
theorem NKr.stay{H H':Hp}(k:∀b xs,H b=AA (.tup xs)->H' b=AA (.tup xs)):∀(a:NK) (v:V),NKr H a v->NKr H' a v
 |.a _,_,x=>x
 |.t l,v,x=>by
  let⟨b,xs,e,g,hs⟩:=x;exact⟨b,xs,e,k _ _ g,NKs.stay k l xs hs⟩
theorem NKs.stay{H H':Hp}(k:∀b xs,H b=AA (.tup xs)->H' b=AA (.tup xs)):∀(a:List NK) (xs:List V),NKs H a xs->NKs H' a xs
 |[],_,x=>x
 |a::l,xs,x=>by
  let⟨y,ys,e,h1,h2⟩:=x;exact⟨y,ys,e,NKr.stay k a y h1,NKs.stay k l ys h2⟩
end
theorem KyR.stay{H H':Hp}{l:List NK}{b:AK}(x:KyR H l b)(k:∀b xs,H b=AA (.tup xs)->H' b=AA (.tup xs)):KyR H' l b:=⟨NKr.stay k _ _ x.1,x.2⟩
section
variable (P:A4)(w:Aa)
def yt(H:Hp)(h:Aw)(a:AK):HO->Prop
 |.lst xs=>xs.length<=sizeLine/\∃(its:List AF) (n:Nat),Vals xs its/\h.get? a=AA {cls:=.type "list",data:=.seq its.toArray n}
 |.tup xs=>xs.length<=sizeLine/\∃its:List AF,Vals xs its/\h.get? a=AA {cls:=.type "tuple",data:=.seq its.toArray}
 |.dK kvs=>kvs.length<=sizeLine/\(a==sysModules)=AG/\∃vs,KV kvs vs/\h.DictOf (yO P w) a vs
 |.dT kvs=>kvs.length<=sizeLine/\(a==sysModules)=AG/\∃xs:List (List NK×AK×AF),
   HA (λ(p:List NK×V) (q:List NK×AK×AF)=>p.1=q.1/\KyR H p.1 q.2.1/\RelV p.2 q.2.2) kvs xs /\
   ∃o es ep,h.get? a=AA o/\o.ExactDict/\o.data=.dict es ep/\es.toList=xs.map (entryOfKey (yam P w))/\(xs.map (·.1)).Nodup
 |.set S n=>h.SetOf (intKind P w) a S n
 |.ins C dx fs=>H dx=AA (.own a)/\fs.length<=1000/\dx≠a/\h.get? a=AA (CA C dx) /\
   ∃mA,h.Ns1 dx mA/\(∀f,ybk (fs.lookup f) (mA f))/\GM mA (fs.map (·.1))
 |.own _=>∃o,h.get? a=AA o
 |.xd fs=>∃mA,h.Ns1 a mA/\∀f,ybk (fs.lookup f) (mA f)
 |.rng lo hi=>∃t u v,h.get? a=AA {cls:=.type "range",data:=.fields #[.int lo t,.int hi u,.int 1 v]}
 |.frz o u=>h.get? a=AA o/\yt H h a u
 |.tbl ps=>h.get? a=AA {cls:=.none,data:=.fields ps}
 |.met f x=>h.get? a=AA (ET (.ref f) (.ref x))
 |.ext φ=>φ h/\(∃o,h.get? a=AA o)/\∀h1 h2:Aw,φ h1->(∀o,h1.get? a=AA o->h2.get? a=AA o)->φ h2
def HOk(H:Hp)(h:Aw):Prop:=∀a o,H a=AA o->yt P w H h a o
end
section
variable {P:A4}{w:Aa}{H H':Hp}{h h':Aw}{a:AK}{o:HO}
theorem yt.lt(x:yt P w H h a o):a<h.objs.size:=by
 cases o with
 |lst xs=>let⟨_,_,_,_,e⟩:=x;exact AX e
 |tup xs=>let⟨_,_,_,p⟩:=x;exact AX p
 |dK kvs=>let⟨_,_,_,_,o,_,_,e,_⟩:=x;exact AX e
 |dT kvs=>let⟨_,_,_,_,o,_,_,e,_⟩:=x;exact AX e
 |set S n=>let⟨o,_,_,_,e,_⟩:=x;exact AX e
 |ins C dx fs=>let⟨_,_,_,e,_⟩:=x;exact AX e
 |own y=>let⟨_,e⟩:=x;exact AX e
 |xd fs=>let⟨_,⟨_,_,_,e,_⟩,_⟩:=x;exact AX e
 |rng lo hi=>let⟨_,_,_,e⟩:=x;exact AX e
 |frz ob u=>let⟨e,_⟩:=x;exact AX e
 |tbl ps=>exact AX (show h.get? a=AA _ from x)
 |met f y=>exact AX (show h.get? a=AA _ from x)
 |ext φ=>let⟨_,⟨_,e⟩,_⟩:=x;exact AX e
theorem Paired.mapP{α β:Type}{F G:α->β->Prop}:∀{l₁:List α} {l₂:List β},HA F l₁ l₂->(∀a b,F a b->G a b)->HA G l₁ l₂
 |_,_,.nil,_=>.nil
 |_,_,.cons r t,f=>.cons (f _ _ r) (Paired.mapP t f)
theorem yt.stay(x:yt P w H h a o)(k:∀b u,(b=a \/ H b=AA (.own a))->h.get? b=AA u->h'.get? b=AA u)
  (ho:∀b,H b=AA (.own a)->H' b=AA (.own a)) (ht:∀b xs,H b=AA (.tup xs)->H' b=AA (.tup xs)):yt P w H' h' a o:=by
 induction o with
 |lst xs=>let⟨z,its,n,r,e⟩:=x;exact⟨z,its,n,r,k _ _ (.inl rfl) e⟩
 |tup xs=>let⟨z,its,r,e⟩:=x;exact⟨z,its,r,k _ _ (.inl rfl) e⟩
 |dK kvs=>let⟨z,y,vs,r,ob,es,ep,e,c⟩:=x;exact⟨z,y,vs,r,ob,es,ep,k _ _ (.inl rfl) e,c⟩
 |dT kvs=>
  let⟨z,y,xs,r,ob,es,ep,e,c⟩:=x;exact⟨z,y,xs,Paired.mapP r λp q z=>⟨z.1,z.2.1.stay ht,z.2.2⟩,ob,es,ep,k _ _ (.inl rfl) e,c⟩
 |set S n=>let⟨ob,es,ep,t,e,c⟩:=x;exact⟨ob,es,ep,t,k _ _ (.inl rfl) e,c⟩
 |ins C dx fs=>
  let⟨d,z,ne,e,mA,⟨od,es,ep,e2,c⟩,r⟩:=x;exact⟨ho _ d,z,ne,k _ _ (.inl rfl) e,mA,⟨od,es,ep,k _ _ (.inr d) e2,c⟩,r⟩
 |own y=>let⟨ob,e⟩:=x;exact⟨ob,k _ _ (.inl rfl) e⟩
 |xd fs=>let⟨mA,⟨od,es,ep,e,c⟩,r⟩:=x;exact⟨mA,⟨od,es,ep,k _ _ (.inl rfl) e,c⟩,r⟩
 |rng lo hi=>let⟨t,u,v,e⟩:=x;exact⟨t,u,v,k _ _ (.inl rfl) e⟩
 |frz ob u ih=>let⟨e,q⟩:=x;exact⟨k _ _ (.inl rfl) e,ih q⟩
 |tbl ps=>
  have e:h.get? a=AA {cls:=.none,data:=.fields ps}:=x;show h'.get? a=AA {cls:=.none,data:=.fields ps};exact k a _ (.inl rfl) e
 |met f y=>
  have e:h.get? a=AA (ET (.ref f) (.ref y)):=x;show h'.get? a=AA (ET (.ref f) (.ref y));exact k a _ (.inl rfl) e
 |ext φ=>let⟨p,⟨o,e⟩,st⟩:=x;exact⟨st _ _ p λo q=>k _ _ (.inl rfl) q,⟨o,k _ _ (.inl rfl) e⟩,st⟩
theorem HOk.lt(x:HOk P w H h)(e:H a=AA o):a<h.objs.size:=(x a o e).lt
theorem HOk.fresh(x:HOk P w H h)(e:h.objs.size<=a):H a=none:=by
 cases q:H a with
 |none=>rfl
 |some u=>exact absurd (A8 (x.lt q) e) (C3 _)
theorem HOk.kept(x:HOk P w H h)(k:∀b u,h.get? b=AA u->h'.get? b=AA u):HOk P w H h':=λa o e=>
 (x a o e).stay (λb u _ q=>k b u q) (λ_ q=>q) λ_ _ q=>q
theorem HOk.laid(x:HOk P w H h)(k:∀b u,h.get? b=AA u->h'.get? b=AA u)(hp:h.objs.size<=a)(new:yt P w (upd H a o) h' a o):HOk P w (upd H a o) h':=λb u e=>by
 have hn:=x.fresh hp
 by_cases hb:b=a
 .subst hb;rw[zb]at e;cases e;exact new
 .rw[za hb]at e;exact(x b u e).stay (λc v _ q=>k c v q) (λc q=>by rw[za (zc q hn)];exact q) λc xs q=>by rw[za (zc q hn)];exact q
end
def Rd(H:Hp)(a:AK)(u:HO):Prop:=H a=AA u \/ ∃o,H a=AA (.frz o u)
theorem Rd.of{H:Hp}{a:AK}{u:HO}(h:H a=AA u):Rd H a u:=.inl h
theorem Rd.ok{P:A4}{w:Aa}{H:Hp}{h:Aw}{a:AK}{u:HO}(r:Rd H a u)(x:HOk P w H h):yt P w H h a u:=by
 rcases r with r|⟨o,r⟩
 .exact x a u r
 .let⟨_,q⟩:=x a _ r;exact q
def Mut:Option HO->Prop
 |some (.lst _)=>True
 |some (.dK _)=>True
 |some (.dT _)=>True
 |some (.set _ _)=>True
 |some (.ins _ _ _)=>True
 |some (.ext _)=>True
 |_=>False
section
variable {P:A4}{w:Aa}{H:Hp}{h h':Aw}{x e:AK}{o':HO}
theorem HOk.write(ok:HOk P w H h)(mu:Mut (H x))(he:e=x \/ H e=AA (.own x))(k:∀b u,b≠e->h.get? b=AA u->h'.get? b=AA u)(heo:∃u,h'.get? e=AA u)
  (new:yt P w (upd H x o') h' x o'):HOk P w (upd H x o') h':=λb u q=>by
 have nown:∀c y,H c=AA (.own y)->c≠x:=λc y r z=>by subst z;rw[r]at mu;exact mu
 have ntup:∀c xs,H c=AA (.tup xs)->c≠x:=λc xs r z=>by subst z;rw[r]at mu;exact mu
 by_cases hb:b=x
 .subst hb;rw[zb]at q;cases q;exact new
 .rw[za hb]at q
  by_cases hbe:b=e
  .have q':H b=AA (.own x):=by
    rcases he with z|z
    .exact absurd (hbe.trans z) hb
    .rw[hbe];exact z
   rw[q]at q';cases q';let⟨v,hv⟩:=heo;exact⟨v,by rw[hbe];exact hv⟩
  .refine(ok b u q).stay (λc v hc r=>k c v ?_ r) (λc r=>by rw[za (nown c b r)];exact r) λc xs r=>by rw[za (ntup c xs r)];exact r
   rcases hc with rfl|hc
   .exact hbe
   .rintro rfl
    rcases he with z|z
    .exact nown c b hc z
    .rw[hc]at z;cases z;exact hb rfl
end
structure Un(fs ex:List AK)(H H':Hp)(h h':Aw):Prop where
 keep:∀b o,h.get? b=AA o->H b=AC->b∉fs->b∉ex->h'.get? b=AA o
 slot:∀b o,h.get? b=AA o->H b=AC->b∈fs->b∉ex->∃sl,h'.get? b=AA {o with slots:=sl}
 free:∀b o,h.get? b=AA o->H b=AC->b∉ex->H' b=AC
 there:∀b o,h.get? b=AA o->b∉ex->∃o',h'.get? b=AA o'
 tups:∀b xs,H b=AA (.tup xs)->H' b=AA (.tup xs)
 frzs:∀b o u,H b=AA (.frz o u)->H' b=AA (.frz o u)
 tbls:∀b ps,H b=AA (.tbl ps)->∃more,H' b=AA (.tbl (ps++more))
section
variable {fs fs' ex ex':List AK}{H H1 H2:Hp}{h h1 h2 h':Aw}{a x e:AK}{o:HO}
theorem Un.any(u:Un fs ex H H1 h h1){b:AK}{ob:Bm}(q:h.get? b=AA ob)(n:H b=AC)(hx:b∉ex):∃sl,h1.get? b=AA {ob with slots:=sl}:=by
 by_cases hb:b∈fs
 .exact u.slot b ob q n hb hx
 .exact⟨ob.slots,u.keep b ob q n hb hx⟩
theorem Un.kept(k:∀b u,h.get? b=AA u->h'.get? b=AA u):Un fs ex H H h h':=
 ⟨λb ob q _ _ _=>k b ob q,λb ob q _ _ _=>⟨ob.slots,k b ob q⟩,λ_ _ _ n _=>n,λb ob q _=>⟨ob,k b ob q⟩,λ_ _ q=>q,λ_ _ _ q=>q,λ_ ps q=>⟨#[],by rw[q];simp⟩⟩
theorem Un.refl:Un fs ex H H h h:=Un.kept λ_ _ q=>q
theorem Un.laid(k:∀b u,h.get? b=AA u->h'.get? b=AA u)(hp:h.objs.size<=a)(hn:H a=AC):Un fs ex H (upd H a o) h h' where
 keep:=λb u q _ _ _=>k b u q
 slot:=λb u q _ _ _=>⟨u.slots,k b u q⟩
 free:=λb u q n _=>by rw[za (Al (A8 (AX q) hp))];exact n
 there:=λb u q _=>⟨u,k b u q⟩
 tups:=λb xs q=>by rw[za (zc q hn)];exact q
 frzs:=λb u xs q=>by rw[za (zc q hn)];exact q
 tbls:=λb ps q=>⟨#[],by rw[za (zc q hn),q];simp⟩
theorem Un.write(mu:Mut (H x))(he:e=x \/ H e=AA (.own x))(k:∀b u,b≠e->h.get? b=AA u->h'.get? b=AA u)(heo:∃u,h'.get? e=AA u):Un fs ex H (upd H x o) h h':=by
 have hx:∀b,H b=AC->b≠x:=λb n z=>by subst z;rw[n]at mu;exact mu
 have hb:∀b,H b=AC->b≠e:=λb n z=>by
  subst z;rcases he with r|r
  .exact hx b n r
  .rw[n]at r;cases r
 have hm:∀b u,H b=AA u->¬Mut (AA u)->b≠x:=λb u q nm z=>by subst z;rw[q]at mu;exact nm mu
 refine⟨λb u q n _ _=>k b u (hb b n) q,λb u q n _ _=>⟨u.slots,k b u (hb b n) q⟩,λb u q n _=>by rw[za (hx b n)];exact n,λb u q _=>?_,
  λb xs q=>by rw[za (hm b _ q λz=>z)];exact q,λb u xs q=>by rw[za (hm b _ q λz=>z)];exact q,λb ps q=>⟨#[],by rw[za (hm b _ q λz=>z),q];simp⟩⟩
 by_cases hbe:b=e
 .subst hbe;exact heo
 .exact⟨u,k b u hbe q⟩
end
def trk(h:Aw)(H:Hp):List Addr:=(D1 h.objs.size).filter λa=>(H a).isSome
def ybM(h:Aw)(H:Hp):Heap:=DA h (trk h H)
def zdR(h:Aw)(H:Hp):(ybM h H).objs.size=h.objs.size:=PySem.W.hideAll_size _ _
def zfB{h:Aw}{H:Hp}{b:AK}{o:Bm}(e:h.get? b=AA o)(n:H b=AC):(ybM h H).get? b=AA o:=
 Fg _ e λhm=>by
  have q:(H b).isSome=true:=(Gp.mp hm).2;rw[n]at q;simp at q
def zgz{h:Aw}{H:Hp}{b:AK}{o:Bm}(e:(ybM h H).get? b=AA o):h.get? b=AA o/\H b=none:=by
 have e':h.get? b=AA o:=GA (trk h H) e;refine⟨e',?_⟩
 cases q:H b with
 |none=>rfl
 |some x=>
  have hm:b∈trk h H:=Gp.mpr ⟨FT.mpr (AX e'),by simp[q]⟩;have z:(ybM h H).get? b=none:=PySem.W.hideAll_none (trk h H) hm;rw[z]at e;cases e
structure Mod(K:AE)(mg:AW->Option AF)(base:Aw):Prop where
 kin:K.In base
 glob:base.Ns mainGlobals mg
 blt:∃mb,base.Ns builtinsNs mb/\∀x:AW,x ≠ "__name__"->mb x=bootBuiltins x
 nolimit:base.NoLimit
structure Cx where
 prog:A4
 w:Aa
 K:AE
 mg:AW->Option AF
 base:Aw
 A:A9
 N:List AW
 s₀:AI
 H₀:Hp
 env:Env
 outer:List Env
 stack:List Env
 ex:List AK
 fn:AW->Bool
 calm:Bool
 pn:List (AK×Bm)
 xe:AF->AI->Prop
def frs(l:List Env):List Addr:=l.filterMap (·.frame)
abbrev Cx.fs(X:Cx):List Addr:=frs X.outer
def Vis(sc:BR)(x:AW):Prop:=sc.names.lookup x=AA .local \/ sc.names.lookup x=AA .cell \/ sc.names.lookup x=AA .free
def Loc(sc:BR)(x:AW):Prop:=sc.names.lookup x=AA .local \/ sc.names.lookup x=AA .cell
def Look(env:Env)(h:Aw)(m:AW->Option AF)(x:AW)(u:AF):Prop:=
 (env.kindOf x=AA .local/\m x=AA u) \/ ((env.kindOf x=AA .cell \/ env.kindOf x=AA .free)/\∃c,env.cells.lookup x=AA c/\h.IsCell c (AA u))
structure Cx.Ok(X:Cx):Prop where
 mod:Mod X.K X.mg X.base
 kind:X.env.scope.kind=.function
 glob:X.env.globals=mainGlobals
 blt:X.env.builtins=builtinsNs
 above:X.s₀.heap.objs.size<=X.env.locals
 inj:∀x y c,X.env.cells.lookup x=AA c->X.env.cells.lookup y=AA c->x=y
 has:∀x,(X.env.kindOf x=AA .cell \/ X.env.kindOf x=AA .free)->∃c,X.env.cells.lookup x=AA c
 cab:∀x c,X.fn x=AD->X.env.cells.lookup x=AA c->X.s₀.heap.objs.size<=c
 hd:X.calm=AD->X.A.handled=AC
 frames:X.A.frames=AA X.stack
 stk:X.stack=X.outer \/ (X.stack=X.env::X.outer/\X.env.frame=AA X.env.locals)
 exf:∀b∈X.ex,b≠X.env.locals/\∀x c,X.env.cells.lookup x=AA c->c≠b
 bs:∀b o,X.base.get? b=AA o->X.s₀.heap.get? b=AA o/\X.H₀ b=AC
 bsz:X.base.objs.size<=X.s₀.heap.objs.size
 noex:∀b o,X.base.get? b=AA o->b∉X.ex
 exfs:∀b∈X.ex,b∉X.fs
 funs:X.s₀.heap.FunFrames X.base X.outer
 frf:∀b∈X.fs,X.H₀ b=AC
structure Inv(X:Cx)(π:List (AK×Bm))(σ:List (Option V))(H:Hp)(s:AI):Prop where
 ok:X.Ok
 os:s.os=X.s₀.os
 bare:D8 s.gens
 base:Un X.fs X.ex X.H₀ H X.s₀.heap s.heap
 loc:∃m,s.heap.Ns X.env.locals m/\∀(i:Nat) (x:AW) (v:V),X.N[i]?=AA x->σ[i]?=AA (AA v)->Vis X.env.scope x->∃u,RelV v u/\Look X.env s.heap m x u
 cell:∀x c,X.env.cells.lookup x=AA c->∃v,s.heap.IsCell c v
 free:H X.env.locals=AC
 freeC:∀x c,X.env.cells.lookup x=AA c->H c=AC
 pin:∀p∈X.pn++π,s.heap.get? p.1=AA p.2/\H p.1=AC/\p.1≠X.env.locals/\p.1∉X.fs/\∀v,p.2.data ≠ .cell v
 hok:HOk X.prog X.w H s.heap
 len:σ.length=X.N.length
section
variable {X:Cx}{π:List (AK×Bm)}{σ:List (Option V)}{H H':Hp}{s:AI}{h':Aw}
theorem Cx.Ok.nofr(ok:X.Ok){b:AK}{o:Bm}(e:X.base.get? b=AA o):b∉X.fs:=λhb=>by
 have:=(ok.funs.mem hb).1;rw[e]at this;cases this
theorem Inv.bs(I:Inv X π σ H s):∀b o,X.base.get? b=AA o->s.heap.get? b=AA o/\H b=none:=λb o e=>
 ⟨I.base.keep b o (I.ok.bs b o e).1 (I.ok.bs b o e).2 (I.ok.nofr e) (I.ok.noex b o e),I.base.free b o (I.ok.bs b o e).1 (I.ok.bs b o e).2 (I.ok.noex b o e)⟩
theorem Inv.bk(I:Inv X π σ H s):∀b o,X.base.get? b=AA o->s.heap.get? b=AA o:=λb o e=>(I.bs b o e).1
theorem Inv.mod(I:Inv X π σ H s):Mod X.K X.mg X.base:=I.ok.mod
theorem Inv.kIn(I:Inv X π σ H s):X.K.In s.heap:=I.ok.mod.kin.keeps I.bk
theorem Inv.lt(I:Inv X π σ H s):X.env.locals<s.heap.objs.size:=let ⟨_,hn,_⟩:=I.loc;hn.lt
theorem Inv.sz(I:Inv X π σ H s):X.s₀.heap.objs.size<=s.heap.objs.size:=BV I.ok.above (GN I.lt)
theorem Inv.nofs(I:Inv X π σ H s){a:AK}(h:s.heap.objs.size<=a):a∉X.fs:=λhb=>by
 let⟨_,o,ho,_⟩:=I.ok.funs.mem hb;exact absurd (A8 (AX ho) (BV I.sz h)) (C3 _)
theorem Inv.cne(I:Inv X π σ H s):∀x c,X.env.cells.lookup x=AA c->c≠X.env.locals:=λx c e z=>by
 let⟨v,o,ho,hd⟩:=I.cell x c e;let⟨m,⟨o',es,ep,ho',hd',_⟩,_⟩:=I.loc;rw[z,ho']at ho;cases ho;rw[hd']at hd;cases hd
theorem Inv.funs(I:Inv X π σ H s):s.heap.FunFrames X.base X.outer:=by
 have all:∀(l:List Env),(∀b∈frs l,b∈X.fs)->X.s₀.heap.FunFrames X.base l->s.heap.FunFrames X.base l:=by
  intro l
  induction l with
  |nil=>intro _ _;trivial
  |cons env r ih=>
   intro hs hl;let⟨hk,⟨L,o,hf,hn,ho,hd⟩,hr⟩:=hl;have hL:L∈X.fs:=hs L (by unfold frs;rw[Bi,hf];exact A0);let⟨sl,e⟩:=I.base.slot L o ho (I.ok.frf L hL) hL λz=>I.ok.exfs L z hL;exact⟨hk,⟨L,_,hf,hn,e,hd⟩,ih (λb hb=>hs b (by unfold frs;rw[Bi,hf];exact AN _ hb)) hr⟩
 exact all X.outer (λ_ hb=>hb) I.ok.funs
theorem Inv.stack(I:Inv X π σ H s):s.heap.FunFrames X.base X.stack:=by
 rcases I.ok.stk with e|⟨e,hf⟩
 .rw[e];exact I.funs
 .rw[e];let⟨m,hn,_⟩:=I.loc;refine .cons (by rw[I.ok.kind];decide) hf hn ?_ I.funs;exact Heap.get?_none_of_le (BV I.ok.bsz I.ok.above)
theorem Inv.stkSub(I:Inv X π σ H s):∀b∈frs X.stack,b∈X.env.locals::X.fs:=λb hb=>by
 rcases I.ok.stk with e|⟨e,hf⟩
 .rw[e]at hb;exact AN _ hb
 .rw[e]at hb;unfold frs at hb;rw[Bi,hf]at hb;exact hb
theorem Inv.stkFree(I:Inv X π σ H s):∀b∈frs X.stack,H b=none:=λb hb=>by
 rcases Ac.mp (I.stkSub b hb)with e|hb
 .rw[e];exact I.free
 .let⟨_,o,ho,_⟩:=I.ok.funs.mem hb;exact I.base.free b o ho (I.ok.frf b hb) λz=>I.ok.exfs b z hb
theorem Inv.step{g':Array GenState}{t':Nat}{d':Drawn}{ch:List AK}(I:Inv X π σ H s)
  (hch:∀b∈ch,(b∈X.ex \/ X.s₀.heap.objs.size<=b)/\b≠X.env.locals/\(∀x c,X.env.cells.lookup x=AA c->c≠b)/\∀p∈X.pn++π,p.1≠b)
  (keep:∀b o,b≠X.env.locals->b∉X.fs->b∉ch->s.heap.get? b=AA o->H b=AC->h'.get? b=AA o)
  (slot:∀b o,b≠X.env.locals->b∈X.fs->b∉ch->s.heap.get? b=AA o->H b=AC->∃sl,h'.get? b=AA {o with slots:=sl}) (free:∀b o,b∉ch->s.heap.get? b=AA o->H b=AC->H' b=AC)
  (there:∀b o,b∉ch->s.heap.get? b=AA o->∃o',h'.get? b=AA o')
  (tups:∀b xs,H b=AA (.tup xs)->H' b=AA (.tup xs)) (frzs:∀b o u,H b=AA (.frz o u)->H' b=AA (.frz o u)) (tbls:∀b ps,H b=AA (.tbl ps)->∃more,H' b=AA (.tbl (ps++more)))
  (ns:∀m,s.heap.Ns X.env.locals m->h'.Ns X.env.locals m) (hok:HOk X.prog X.w H' h') (hg:D8 g'):
  Inv X π σ H' {s with heap:=h',gens:=g',drawn:=d',toks:=t'}:=by
 have neL:∀b o,X.s₀.heap.get? b=AA o->b≠X.env.locals:=λb o e=>Al (A8 (AX e) I.ok.above);have neC:∀b o,X.s₀.heap.get? b=AA o->b∉X.ex->b∉ch:=λb o e hx hb=>by
  rcases (hch b hb).1 with z|z
  .exact hx z
  .exact absurd (A8 (AX e) z) (C3 _)
 have cellK:∀x c,X.env.cells.lookup x=AA c->∀v,s.heap.IsCell c v->h'.IsCell c v:=λx c e v ⟨o,ho,hd⟩=>by
  have nch:c∉ch:=λz=>(hch c z).2.2.1 x c e rfl
  by_cases hc:c∈X.fs
  .let⟨sl,q⟩:=slot c o (I.cne x c e) hc nch ho (I.freeC x c e);exact⟨_,q,hd⟩
  .exact⟨o,keep c o (I.cne x c e) hc nch ho (I.freeC x c e),hd⟩
 refine⟨I.ok,I.os,hg,⟨λb o e n hb hx=>?_,λb o e n hb hx=>?_,λb o e n hx=>?_,λb o e hx=>?_,λb xs e=>tups b xs (I.base.tups b xs e),λb o xs e=>frzs b o xs (I.base.frzs b o xs e),λb ps e=>?_⟩,?_,λx c e=>?_,?_,λx c e=>?_,λp hp=>?_,hok,I.len⟩
 .exact keep b o (neL b o e) hb (neC b o e hx) (I.base.keep b o e n hb hx) (I.base.free b o e n hx)
 .let⟨sl,e1⟩:=I.base.slot b o e n hb hx;let⟨sl',e2⟩:=slot b _ (neL b o e) hb (neC b o e hx) e1 (I.base.free b o e n hx);exact⟨sl',e2⟩
 .let⟨o',e1⟩:=I.base.there b o e hx;exact free b o' (neC b o e hx) e1 (I.base.free b o e n hx)
 .let⟨o',e1⟩:=I.base.there b o e hx;exact there b o' (neC b o e hx) e1
 .let⟨m1,e1⟩:=I.base.tbls b ps e;let⟨m2,e2⟩:=tbls b _ e1;exact⟨m1++m2,by rw[e2,Du]⟩
 .let⟨m,hn,hl⟩:=I.loc;refine⟨m,ns m hn,λi x v e1 e2 e3=>?_⟩;let⟨u,r,l⟩:=hl i x v e1 e2 e3;refine⟨u,r,?_⟩;rcases l with l|⟨k,c,e,z⟩
  .exact .inl l
  .exact .inr ⟨k,c,e,cellK x c e _ z⟩
 .let⟨v,z⟩:=I.cell x c e;exact⟨v,cellK x c e v z⟩
 .let⟨m,⟨o,_,_,ho,_⟩,_⟩:=I.loc;exact free _ o (λz=>(hch _ z).2.1 rfl) ho I.free
 .let⟨v,o,ho,hd⟩:=I.cell x c e;exact free c o (λz=>(hch c z).2.2.1 x c e rfl) ho (I.freeC x c e)
 .let⟨e,n,ne,nf,d⟩:=I.pin p hp;have nch:p.1∉ch:=λz=>(hch p.1 z).2.2.2 p hp rfl;exact⟨keep p.1 p.2 ne nf nch e n,free p.1 p.2 nch e n,ne,nf,d⟩
theorem Inv.un{t':Nat}(I:Inv X π σ H s)(u:Un X.fs [] H H' s.heap h')(hok:HOk X.prog X.w H' h'):Inv X π σ H' {s with heap:=h',toks:=t'}:=by
 let⟨m,⟨o,es,ep,ho,r⟩,_⟩:=id I.loc;let⟨sl,hL⟩:=u.any ho I.free (by simp);exact I.step (g':=s.gens) (d':=s.drawn) (ch:=[]) (λ_ z=>nomatch z) (λb o _ hb _ e n=>u.keep b o e n hb (by simp)) (λb o _ hb _ e n=>u.slot b o e n hb (by simp)) (λb o _ e n=>u.free b o e n (by simp)) (λb o _ e=>u.there b o e (by simp)) u.tups u.frzs u.tbls (λm' hm=>by
  let⟨o',es',ep',ho',r'⟩:=hm;rw[ho]at ho';cases ho';exact⟨_,es',ep',hL,r'⟩) hok I.bare
theorem Inv.call{g':Array GenState}{t':Nat}{d':Drawn}{ch:List AK}(I:Inv X π σ H s)(u:Un (frs X.stack) ch H H' s.heap h')(hok:HOk X.prog X.w H' h')(hg:D8 g')
  (hch:∀b∈ch,(b∈X.ex \/ X.s₀.heap.objs.size<=b)/\b≠X.env.locals/\(∀x c,X.env.cells.lookup x=AA c->c≠b)/\∀p∈X.pn++π,p.1≠b):
  Inv X π σ H' {s with heap:=h',gens:=g',drawn:=d',toks:=t'}:=by
 let⟨m,⟨o,es,ep,ho,r⟩,_⟩:=id I.loc;let⟨sl,hL⟩:=u.any ho I.free λz=>(hch _ z).2.1 rfl;exact I.step (ch:=ch) hch (λb o hL hb hc e n=>u.keep b o e n (λz=>(Ac.mp (I.stkSub b z)).elim hL hb) hc) (λb o _ _ hc e n=>u.any e n hc) (λb o hc e n=>u.free b o e n hc) (λb o hc e=>u.there b o e hc) u.tups u.frzs u.tbls (λm' hm=>by
  let⟨o',es',ep',ho',r'⟩:=hm;rw[ho]at ho';cases ho';exact⟨_,es',ep',hL,r'⟩) hok hg
theorem Inv.turned{t':Nat}{it:AK}(I:Inv X π σ H s)(k:∀b o,b≠it->s.heap.get? b=AA o->h'.get? b=AA o)(hn:H it=AC)(hL:it≠X.env.locals)
  (h1:it∈X.ex \/ X.s₀.heap.objs.size<=it) (h2:∀x c,X.env.cells.lookup x=AA c->c≠it) (h3:∀p∈X.pn++π,p.1≠it):Inv X π σ H {s with heap:=h',toks:=t'}:=by
 have nit:∀b u,H b=AA u->b≠it:=λb u e z=>by rw[z,hn]at e;cases e
 refine I.step (g':=s.gens) (d':=s.drawn) (ch:=[it]) (λb hb=>?_) (λb o _ _ hc e _=>k b o (λz=>hc (by simp[z])) e) (λb o _ _ hc e _=>⟨o.slots,k b o (λz=>hc (by simp[z])) e⟩) (λ_ _ _ _ n=>n)
  (λb o hc e=>⟨o,k b o (λz=>hc (by simp[z])) e⟩) (λ_ _ e=>e) (λ_ _ _ e=>e) (λb ps e=>⟨#[],by rw[e];simp⟩) (λm hm=>?_) (λb u e=>?_) I.bare
 .have e:b=it:=by simpa using hb
  subst e;exact⟨h1,hL,h2,h3⟩
 .let⟨o,es,ep,ho,r⟩:=hm;exact⟨o,es,ep,k _ o (B0 hL) ho,r⟩
 .refine(I.hok b u e).stay (λc v hc q=>k c v ?_ q) (λ_ q=>q) λ_ _ q=>q;rcases hc with z|z
  .rw[z];exact nit b u e
  .exact nit c _ z
theorem Inv.tok(I:Inv X π σ H s)(t:Nat):Inv X π σ H {s with toks:=t}:=I.un (h':=s.heap) (t':=t) Un.refl I.hok
theorem Inv.kept{t':Nat}(I:Inv X π σ H s)(k:∀b u,s.heap.get? b=AA u->h'.get? b=AA u):Inv X π σ H {s with heap:=h',toks:=t'}:=I.un (Un.kept k) (I.hok.kept k)
theorem Inv.laid{a:AK}{o:HO}{t':Nat}(I:Inv X π σ H s)(k:∀b u,s.heap.get? b=AA u->h'.get? b=AA u)(hp:s.heap.objs.size<=a)(new:yt X.prog X.w (upd H a o) h' a o):
  Inv X π σ (upd H a o) {s with heap:=h',toks:=t'}:=I.un (Un.laid k hp (I.hok.fresh hp)) (I.hok.laid k hp new)
theorem Inv.write{x e:AK}{o:HO}{t':Nat}(I:Inv X π σ H s)(mu:Mut (H x))(he:e=x \/ H e=AA (.own x))(k:∀b u,b≠e->s.heap.get? b=AA u->h'.get? b=AA u)(heo:∃u,h'.get? e=AA u)
  (new:yt X.prog X.w (upd H x o) h' x o):Inv X π σ (upd H x o) {s with heap:=h',toks:=t'}:=I.un (Un.write mu he k heo) (I.hok.write mu he k heo new)
theorem Inv.pins_of{pins':List (AK×Bm)}(I:Inv X π σ H s)(h:∀p∈pins',s.heap.get? p.1=AA p.2/\H p.1=AC/\p.1≠X.env.locals/\p.1∉X.fs/\∀v,p.2.data ≠ .cell v):Inv X pins' σ H s:=
 ⟨I.ok,I.os,I.bare,I.base,I.loc,I.cell,I.free,I.freeC,λp hp=>(Av.mp hp).elim (λz=>I.pin p (FU _ z)) (h p),I.hok,I.len⟩
def zcC{N:List AW}(hN:N.Nodup){i j:Nat}{x:AW}(a:N[i]?=AA x)(b:N[j]?=AA x):i=j:=by
 let⟨h1,e1⟩:=Ar.mp a;let⟨h2,e2⟩:=Ar.mp b;exact(List.getElem_inj hN).mp (e1.trans e2.symm)
def zem{M:Hu}{A:A9}{E:AF->AI->Prop}{i:Nat}{x:AW}{v:V}{u:AF}{Q:Unit->AI->Prop}(I:Inv X π σ H s)(hN:X.N.Nodup)(hi:X.N[i]?=AA x)(hx:Loc X.env.scope x)(r:RelV v u)
  (h:∀s',Inv X π (σ.set i (AA v)) H s'->(∃a,BW a s.heap s'.heap/\(a=X.env.locals \/ X.env.cells.lookup x=AA a))->Q () s') (hf:X.fn x=AD \/ X.env.scope.names.lookup x=AA .local:=by first|exact .inl rfl|exact .inr rfl|assumption):AV M A (storeName X.env x u) Q E s:=by
 let⟨m,hn,hl⟩:=id I.loc;have hcls:(X.env.scope.kind==.class || (X.env.scope.kind==.module&&X.env.locals != X.env.globals))=false:=by rw[I.ok.kind];rfl
 have hiσ:i<σ.length:=by rw[I.len];exact(Ar.mp hi).1
 have cne:=I.cne;have tracked:∀{a:AK} {h':Aw},(∃o,s.heap.get? a=AA o/\H a=AC)->BW a s.heap h'->HOk X.prog X.w H h':=λ{a h'} ha hs b ob e=>by
  let⟨_,_,hfree⟩:=ha;refine(I.hok b ob e).stay (λc w' hc q=>(hs.2 c ?_).trans q) (λ_ q=>q) λ_ _ q=>q
  rintro rfl
  rcases hc with rfl|hc
  .rw[hfree]at e;cases e
  .rw[hfree]at hc;cases hc
 rcases hx with hk|hk
 .refine wpAny_storeName_local hk hn (λh' hn' hs=>?_) hcls;let⟨oL,_,_,hoL,_⟩:=id hn;refine h _ ⟨I.ok,I.os,I.bare,⟨λb o e n hb hx=>?_,λb o e n hb hx=>?_,I.base.free,λb o e hx=>?_,I.base.tups,I.base.frzs,I.base.tbls⟩,⟨_,hn',λj y v' e1 e2 e3=>?_⟩,λy c e=>?_,I.free,I.freeC,λp hp=>?_,tracked ⟨oL,hoL,I.free⟩ hs,by simpa using I.len⟩ ⟨_,hs,.inl rfl⟩
  .exact(hs.2 b (Al (A8 (AX e) I.ok.above))).trans (I.base.keep b o e n hb hx)
  .let⟨sl,e1⟩:=I.base.slot b o e n hb hx;exact⟨sl,(hs.2 b (Al (A8 (AX e) I.ok.above))).trans e1⟩
  .let⟨o',e1⟩:=I.base.there b o e hx;exact⟨o',(hs.2 b (Al (A8 (AX e) I.ok.above))).trans e1⟩
  .by_cases hj:j=i
   .subst hj;rw[hi]at e1;cases e1;rw[BM hiσ]at e2
    cases e2
    exact⟨u,r,.inl ⟨hk,by simp⟩⟩
   .rw[Aq (B0 hj)]at e2;let⟨u',r',q⟩:=hl j y v' e1 e2 e3;refine⟨u',r',?_⟩;rcases q with⟨k,e⟩|⟨k,c,e,z⟩
    .refine .inl ⟨k,?_⟩;have:y≠x:=λe=>hj (zcC hN e1 (e ▸ hi));simp[this,e]
    .exact .inr ⟨k,c,e,z.sameBut hs (cne y c e)⟩
  .let⟨w',z⟩:=I.cell y c e;exact⟨w',z.sameBut hs (cne y c e)⟩
  .let⟨e,n,ne,nf,d⟩:=I.pin p hp;exact⟨(hs.2 p.1 ne).trans e,n,ne,nf,d⟩
 .have hfn:X.fn x=true:=by
   rcases hf with z|z
   .exact z
   .rw[z]at hk;cases hk
  let⟨c,hc⟩:=I.ok.has x (.inl hk);let⟨w',z⟩:=I.cell x c hc;refine wpAny_storeName_cell I.ok.kind hk hc z (λh' hc' hs=>?_);let⟨oc,hoc,hocd⟩:=id z;refine h {s with heap:=h'} ⟨I.ok,I.os,I.bare,⟨λb o e n hb hx=>?_,λb o e n hb hx=>?_,I.base.free,λb o e hx=>?_,I.base.tups,I.base.frzs,I.base.tbls⟩,⟨m,hn.sameBut hs (B0 (cne x c hc)),λj y v' e1 e2 e3=>?_⟩,λy c' e=>?_,I.free,I.freeC,λp hp=>?_,tracked ⟨oc,hoc,I.freeC x c hc⟩ hs,by simpa using I.len⟩ ⟨c,hs,.inr hc⟩
  .exact(hs.2 b (Al (A8 (AX e) (I.ok.cab x c hfn hc)))).trans (I.base.keep b o e n hb hx)
  .let⟨sl,e1⟩:=I.base.slot b o e n hb hx;exact⟨sl,(hs.2 b (Al (A8 (AX e) (I.ok.cab x c hfn hc)))).trans e1⟩
  .let⟨o',e1⟩:=I.base.there b o e hx;exact⟨o',(hs.2 b (Al (A8 (AX e) (I.ok.cab x c hfn hc)))).trans e1⟩
  .by_cases hj:j=i
   .subst hj;rw[hi]at e1;cases e1;rw[BM hiσ]at e2
    cases e2
    exact⟨u,r,.inr ⟨.inl hk,c,hc,hc'⟩⟩
   .rw[Aq (B0 hj)]at e2;let⟨u',r',q⟩:=hl j y v' e1 e2 e3;refine⟨u',r',?_⟩;rcases q with q|⟨k,c',e,z'⟩
    .exact .inl q
    .refine .inr ⟨k,c',e,z'.sameBut hs ?_⟩
     rintro rfl
     exact hj (zcC hN e1 (I.ok.inj _ _ _ e hc ▸ hi))
  .by_cases hcc:c'=c
   .subst hcc;exact⟨_,hc'⟩
   .let⟨w2,z2⟩:=I.cell y c' e;exact⟨w2,z2.sameBut hs hcc⟩
  .let⟨e,n,ne,nf,d⟩:=I.pin p hp;refine⟨(hs.2 p.1 ?_).trans e,n,ne,nf,d⟩;intro q;rw[q,hoc]at e;have q':oc=p.2:=A3 e;exact d w' (by rw[<-q'];exact hocd)
def zL{M:Hu}{A:A9}{E:AF->AI->Prop}{i:Nat}{x:AW}{v:V}{u:AF}{Q:Unit->AI->Prop}(I:Inv X π σ H s)(hN:X.N.Nodup)(hi:X.N[i]?=AA x)(hx:Loc X.env.scope x)(r:RelV v u)
  (h:∀s',Inv X π (σ.set i (AA v)) H s'->Q () s') (hf:X.fn x=AD \/ X.env.scope.names.lookup x=AA .local:=by first|exact .inl rfl|exact .inr rfl|assumption):AV M A (storeName X.env x u) Q E s:=
 zem I hN hi hx r (λs' I' _=>h s' I') hf
theorem Inv.call'{s':AI}{ch:List AK}(I:Inv X π σ H s)(ho:s'.os=s.os)(u:Un (frs X.stack) ch H H' s.heap s'.heap)(hok:HOk X.prog X.w H' s'.heap)(hg:D8 s'.gens)
  (hch:∀b∈ch,(b∈X.ex \/ X.s₀.heap.objs.size<=b)/\b≠X.env.locals/\(∀x c,X.env.cells.lookup x=AA c->c≠b)/\∀p∈X.pn++π,p.1≠b):Inv X π σ H' s':=by
 let⟨h',g',d',t',o'⟩:=s';have e:o'=s.os:=ho;subst e;exact I.call (g':=g') (t':=t') (d':=d') u hok hg hch
end
abbrev XK:=AF->Option AK->Hp->Prop
abbrev St:=List (Option V)
abbrev VK:=V->Hp->Prop
abbrev TE:=St->Hp->VK->Prop
abbrev TT:=St->Hp->(Bool->Hp->Prop)->Prop
abbrev TA:=St->Hp->(List V->Hp->Prop)->Prop
structure Ends where
 nx:St->Hp->Prop
 rt:VK
 bk:St->Hp->Prop:=λ_ _=>False
 ct:St->Hp->Prop:=λ_ _=>False
abbrev TS:=Ends->St->Hp->Prop
def EP(X:Cx)(π:List (AK×Bm))(σ:St)(Q:VK)(u:AF)(s':AI):Prop:=∃v H',Inv X π σ H' s'/\RelV v u/\Q v H'
def TP(X:Cx)(π:List (AK×Bm))(σ:St)(Q:Bool->Hp->Prop)(b:Bool)(s':AI):Prop:=∃H',Inv X π σ H' s'/\Q b H'
def AP(X:Cx)(π:List (AK×Bm))(σ:St)(Q:List V->Hp->Prop)(us:List AF)(s':AI):Prop:=∃vs H',Inv X π σ H' s'/\Vals vs us/\Q vs H'
def SP(X:Cx)(π:List (AK×Bm))(D:Ends)(f:Flow)(s':AI):Prop:=
 match f with
 |.next=>∃σ' H',Inv X π σ' H' s'/\D.nx σ' H'
 |.brk=>∃σ' H',Inv X π σ' H' s'/\D.bk σ' H'
 |.cont=>∃σ' H',Inv X π σ' H' s'/\D.ct σ' H'
 |.ret u=>∃v σ' H',Inv X π σ' H' s'/\RelV v u/\D.rt v H'
def PE(X:Cx)(e:AY)(t:TE):Prop:=
 ∀(π:List (AK×Bm)) (s:AI) (σ:St) (H:Hp) (Q:VK),Inv X π σ H s->t σ H Q->AV (model X.prog X.w) X.A (eval e X.env) (EP X π σ Q) X.xe s
def PT(X:Cx)(e:AY)(t:TT):Prop:=
 ∀(π:List (AK×Bm)) (s:AI) (σ:St) (H:Hp) (Q:Bool->Hp->Prop),Inv X π σ H s->t σ H Q->AV (model X.prog X.w) X.A (isTrue e X.env (eval e X.env)) (TP X π σ Q) X.xe s
def PW(X:Cx)(e:AY)(t:TT):Prop:=
 ∀(whole:IL AF) (π:List (AK×Bm)) (s:AI) (σ:St) (H:Hp) (Q:Bool->Hp->Prop),Inv X π σ H s->t σ H Q->AV (model X.prog X.w) X.A (isTrue e X.env whole) (TP X π σ Q) X.xe s
theorem PW.pt{X:Cx}{e:AY}{t:TT}(h:PW X e t):PT X e t:=h _
def PA(X:Cx)(es:List AY)(t:TA):Prop:=
 ∀(pos:CG) (π:List (AK×Bm)) (s:AI) (σ:St) (H:Hp) (Q:List V->Hp->Prop),Inv X π σ H s->t σ H Q->AV (model X.prog X.w) X.A (spliced (backTo pos (starEach es X.env))) (AP X π σ Q) X.xe s
def PS(X:Cx)(st:Bo)(t:TS):Prop:=
 ∀(π:List (AK×Bm)) (s:AI) (σ:St) (H:Hp) (D:Ends),Inv X π σ H s->t D σ H->AV (model X.prog X.w) X.A (exec st X.env) (SP X π D) X.xe s
def PSs(X:Cx)(st:List Bo)(t:TS):Prop:=
 ∀(π:List (AK×Bm)) (s:AI) (σ:St) (H:Hp) (D:Ends),Inv X π σ H s->t D σ H->AV (model X.prog X.w) X.A (execs st X.env) (SP X π D) X.xe s
theorem thn{α:Type}{t:IL α}{Q Q':α->AI->Prop}{M:Hu}{A:A9}{E:AF->AI->Prop}{s:AI}(h:AV M A t Q E s)(hQ:∀a s,Q a s->Q' a s):AV M A t Q' E s:=Cm h hQ λ_ _ x=>x
section
variable {X:Cx}
def yb3(i:Nat):TE:=λσ H Q=>∃v,σ[i]?=AA (AA v)/\Q v H
def tC(v:V):TE:=λ_ H Q=>Q v H
def zcw{i:Nat}{x:AW}{pos:CG}(hN:X.N[i]?=AA x)(hv:Vis X.env.scope x)(hd:(x==("__debug__":AW))=false:=by decide)(hcd:(x==("__classdict__":AW))=false:=by decide):PE X (.Name x pos) (yb3 i):=by
 intro π s σ H Q I h;let⟨v,e,h⟩:=h;let⟨m,hn,hl⟩:=I.loc;let⟨u,r,l⟩:=hl i x v hN e hv;have fin:EP X π σ Q u s:=⟨v,H,I,r,h⟩;rcases l with⟨hk,hm⟩|⟨hk,c,hc,hcell⟩
 .exact HB (FV I.ok.kind hk hn hm fin) hd
 .rcases hk with hk|hk
  .exact HB (Fh I.ok.kind hk hc hcell fin) hd
  .exact HB (wpAny_loadName_free I.ok.kind hk hc hcell fin hcd) hd
def zk4{i j pos}:PE X (.Constant (.int i) j pos) (tC (.int i)):=λ_ _ _ H _ I h=>wpAny_Constant_int ⟨.int i,H,I.tok _,⟨_,rfl⟩,h⟩
def zlf{b j pos}:PE X (.Constant (.bool b) j pos) (tC (.bl b)):=λ_ _ _ H _ I h=>Constant_bool ⟨.bl b,H,I,rfl,h⟩
def zlg{j pos}:PE X (.Constant .none j pos) (tC .non):=λ_ _ _ H _ I h=>Constant_none ⟨.non,H,I,rfl,h⟩
def zlh{x j pos}:PE X (.Constant (.str x) j pos) (tC (.str x)):=λ_ _ _ H _ I h=>Calls.Constant_str ⟨.str x,H,I.tok _,⟨_,rfl⟩,h⟩
def Gl(X:Cx)(x:AW):Prop:=X.env.kindOf x=AA .globalImplicit
def zan{E:AF->AI->Prop}{π:List (AK×Bm)}{s:AI}{σ:St}{H:Hp}{x:AW}{u:AF}{pos:CG}{Q:AF->AI->Prop}(I:Inv X π σ H s)(hg:Gl X x)(hm:X.mg x=AA u)(h:Q u s)
  (hd:(x==("__debug__":AW))=false:=by decide):AV (model X.prog X.w) X.A (eval (.Name x pos) X.env) Q E s:=
 Dv I.ok.kind hg (Calls.loadGlobal_global (by rw[I.ok.glob];exact I.mod.glob.keeps I.bk) hm h) hd
def zaA{E:AF->AI->Prop}{π:List (AK×Bm)}{s:AI}{σ:St}{H:Hp}{x:AW}{u:AF}{pos:CG}{Q:AF->AI->Prop}(I:Inv X π σ H s)(hg:Gl X x)(hm:X.mg x=AC)(hv:bootBuiltins x=AA u)(h:Q u s)
  (hn:x ≠ "__name__":=by decide) (hd:(x==("__debug__":AW))=false:=by decide):AV (model X.prog X.w) X.A (eval (.Name x pos) X.env) Q E s:=by
 let⟨mb,h1,h2⟩:=I.mod.blt;exact Dv I.ok.kind hg (Calls.loadGlobal_builtin (by rw[I.ok.glob];exact I.mod.glob.keeps I.bk) hm (by rw[I.ok.blt];exact h1.keeps I.bk) ((h2 x hn).trans hv) h) hd
def zdQ{x:AW}{v:V}{u:AF}{pos:CG}(hg:Gl X x)(hm:X.mg x=AA u)(r:RelV v u)(hd:(x==("__debug__":AW))=false:=by decide):PE X (.Name x pos) (tC v):=
 λ_ _ _ H _ I h=>zan I hg hm ⟨v,H,I,r,h⟩ hd
def zhy{x:AW}{v:V}{u:AF}{pos:CG}(hg:Gl X x)(hm:X.mg x=AC)(hv:bootBuiltins x=AA u)(r:RelV v u)(hn:x ≠ "__name__":=by decide)(hd:(x==("__debug__":AW))=false:=by decide):PE X (.Name x pos) (tC v):=
 λ_ _ _ H _ I h=>zaA I hg hm hv ⟨v,H,I,r,h⟩ hn hd
variable {a b:AY}{ta tb:TE}{pos:CG}
variable {tA tB':TT}{rest:List AY}
def yeY(t u:TT):TT:=λσ H Q=>t σ H λc H1=>if c=AD then u σ H1 Q else Q AG H1
def tOr(t u:TT):TT:=λσ H Q=>t σ H λc H1=>if c=AD then Q AD H1 else u σ H1 Q
def ygw(t:TT):TT:=λσ H Q=>t σ H λc H1=>Q (!c) H1
def zgw(ha:PT X a tA):PW X (.BoolOp .And [a] pos) tA:=by
 intro wh π s σ H Q I h;refine isTrue_and (thn (ha π s σ H Q I h) λc s1 e=>?_)
 cases c with
 |true=>exact isTrue_and_nil e
 |false=>exact e
def ziz(ha:PT X a tA):PW X (.BoolOp .Or [a] pos) tA:=by
 intro wh π s σ H Q I h;refine isTrue_or (thn (ha π s σ H Q I h) λc s1 e=>?_)
 cases c with
 |false=>exact isTrue_or_nil e
 |true=>exact e
def ziT(ha:PT X a tA)(hb:PW X (.BoolOp .And (b::rest) pos) tB'):PW X (.BoolOp .And (a::b::rest) pos) (yeY tA tB'):=by
 intro wh π s σ H Q I h;refine isTrue_and (thn (ha π s σ H _ I h) λc s1 kq=>?_);let⟨H1,I1,q1⟩:=kq
 cases c with
 |true=>exact hb wh π s1 σ H1 Q I1 q1
 |false=>exact⟨H1,I1,q1⟩
def zkN(ha:PT X a tA)(hb:PW X (.BoolOp .Or (b::rest) pos) tB'):PW X (.BoolOp .Or (a::b::rest) pos) (tOr tA tB'):=by
 intro wh π s σ H Q I h;refine isTrue_or (thn (ha π s σ H _ I h) λc s1 kq=>?_);let⟨H1,I1,q1⟩:=kq
 cases c with
 |true=>exact⟨H1,I1,q1⟩
 |false=>exact hb wh π s1 σ H1 Q I1 q1
def ziN(ha:PT X a tA):PT X (.UnaryOp .Not a pos) (ygw tA):=by
 intro π s σ H Q I h;exact isTrue_not (ha π s σ H (λc H1=>Q (!c) H1) I h)
def yd7(ta tb:TE):TE:=λσ H Q=>ta σ H λx H1=>∃c,x=.bl c/\if c=AD then tb σ H1 Q else Q (.bl AG) H1
def ygl(ta tb:TE):TE:=λσ H Q=>ta σ H λx H1=>∃c,x=.bl c/\if c=AD then Q (.bl AD) H1 else tb σ H1 Q
def ydu(ta:TE):TE:=λσ H Q=>ta σ H λx H1=>∃c,x=.bl c/\Q (.bl (!c)) H1
def zjo{op}{t:TE}(h:PE X a t):PE X (.BoolOp op [a] pos) t:=λπ s σ H Q I hw=>BoolOp_one (h π s σ H Q I hw)
def zjD(ha:PE X a ta)(hb:PE X (.BoolOp .And (b::rest) pos) tb):PE X (.BoolOp .And (a::b::rest) pos) (yd7 ta tb):=by
 intro π s σ H Q I h;refine BoolOp_and (thn (ha π s σ H _ I h) λv s1 kq=>?_);let⟨x,H1,I1,r1,q1⟩:=kq;let⟨c,rfl,q1⟩:=q1
 cases r1
 refine B1 ?_
 cases c with
 |true=>exact hb π s1 σ H1 Q I1 q1
 |false=>exact⟨.bl AG,H1,I1,rfl,q1⟩
def zko(ha:PE X a ta)(hb:PE X (.BoolOp .Or (b::rest) pos) tb):PE X (.BoolOp .Or (a::b::rest) pos) (ygl ta tb):=by
 intro π s σ H Q I h;refine BoolOp_or (thn (ha π s σ H _ I h) λv s1 kq=>?_);let⟨x,H1,I1,r1,q1⟩:=kq;let⟨c,rfl,q1⟩:=q1
 cases r1
 refine B1 ?_
 cases c with
 |false=>exact hb π s1 σ H1 Q I1 q1
 |true=>exact⟨.bl AD,H1,I1,rfl,q1⟩
def zjC(ha:PE X a ta):PE X (.UnaryOp .Not a pos) (ydu ta):=by
 intro π s σ H Q I h;refine UnaryOp_ (thn (ha π s σ H _ I h) λv s1 kq=>?_);let⟨x,H1,I1,r1,q1⟩:=kq;let⟨c,rfl,q1⟩:=q1
 cases r1
 exact not_of (B1 ⟨.bl (!c),H1,I1,rfl,q1⟩)
def tIf(t:TT)(ta tb:TE):TE:=λσ H Q=>t σ H λc H1=>if c=AD then ta σ H1 Q else tb σ H1 Q
def zfR{c:AY}(hc:PT X c tA)(ha:PE X a ta)(hb:PE X b tb):PE X (.IfExp c a b pos) (tIf tA ta tb):=by
 intro π s σ H Q I h;refine wpAny_IfExp (thn (hc π s σ H _ I h) λd s1 kq=>?_);let⟨H1,I1,q1⟩:=kq
 cases d with
 |true=>exact ha π s1 σ H1 Q I1 q1
 |false=>exact hb π s1 σ H1 Q I1 q1
end
def SqL(K:AE)(H:Hp)(a:AK)(xs:List V):Prop:=
 Rd H a (.lst xs) \/
  ∃(o:Bm) (its:Array AF) (n:Nat),K.lookup a=AA o/\o.cls=.type "list"/\o.dict=AC/\o.data=.seq its n/\its.size<=sizeLine/\Vals xs its.toList
def SqT(K:AE)(H:Hp)(a:AK)(xs:List V):Prop:=
 Rd H a (.tup xs) \/
  ∃(o:Bm) (its:Array AF) (n:Nat),K.lookup a=AA o/\o.cls=.type "tuple"/\o.data=.seq its n/\its.size<=sizeLine/\Vals xs its.toList
def yf3:AF->Option V
 |.none=>AA .non
 |.bool b=>AA (.bl b)
 |.int i _=>AA (.int i)
 |.str x _=>AA (.str x)
 |.bytes b _=>AA (.byt b)
 |.float b _=>AA (.flt b)
 |.ref a=>AA (.ref a)
 |.type n=>AA (.ty n)
 |_=>AC
theorem RelV.abs{x:V}{u:AF}(r:RelV x u):yf3 u=AA x:=by
 cases x with
 |non=>cases r;rfl
 |bl _=>cases r;rfl
 |int _=>let⟨t,rfl⟩:=r;rfl
 |str _=>let⟨t,rfl⟩:=r;rfl
 |byt _=>let⟨t,rfl⟩:=r;rfl
 |flt _=>let⟨t,rfl⟩:=r;rfl
 |ref _=>cases r;rfl
 |ty _=>cases r;rfl
theorem RelV.inj{x y:V}{u:AF}(r:RelV x u)(q:RelV y u):x=y:=A3 (r.abs.symm.trans q.abs)
theorem Vals.inj:∀{xs ys:List V} {us:List AF},Vals xs us->Vals ys us->xs=ys
 |_,_,_,.nil,.nil=>rfl
 |_,_,_,.cons r t,.cons r' t'=>by rw[r.inj r',Vals.inj t t']
section
variable {X:Cx}{π:List (AK×Bm)}{σ:St}{H:Hp}{s:AI}{a:AK}{xs ys:List V}
theorem SqL.of{K:AE}(h:H a=AA (.lst xs)):SqL K H a xs:=.inl (.inl h)
theorem Inv.list(I:Inv X π σ H s)(h:SqL X.K H a xs):∃its:List AF,Vals xs its/\PlainL s.heap a its.toArray/\xs.length<=sizeLine:=by
 rcases h with h|⟨o,its,n,hk,hc,hd,hs,hz,r⟩
 .let⟨z,its,n,r,e⟩:=h.ok I.hok;exact⟨its,r,⟨_,n,e,rfl,rfl,rfl⟩,z⟩
 .refine⟨its.toList,r,⟨o,n,I.kIn a o hk,hc,hd,by simpa using hs⟩,?_⟩;have e:=r.length;erw[Cu]at e;lia
theorem Inv.tuple(I:Inv X π σ H s)(h:SqT X.K H a xs):∃its:List AF,Vals xs its/\Hw s.heap a its.toArray/\xs.length<=sizeLine:=by
 rcases h with h|⟨o,its,n,hk,hc,hs,hz,r⟩
 .let⟨z,its,r,p⟩:=h.ok I.hok;exact⟨its,r,⟨_,p,rfl,_,rfl⟩,z⟩
 .refine⟨its.toList,r,⟨o,I.kIn a o hk,hc,n,by simpa using hs⟩,?_⟩;have e:=r.length;erw[Cu]at e;lia
theorem Inv.list_inj(I:Inv X π σ H s)(h:SqL X.K H a xs)(h':SqL X.K H a ys):xs=ys:=by
 let⟨its,r,⟨o,n,e,_,_,d⟩,_⟩:=I.list h;let⟨its',r',⟨o',n',e',_,_,d'⟩,_⟩:=I.list h';rw[e]at e';cases e';rw[d]at d';injection d' with d1 _;have:its=its':=by simpa using congrArg GL d1
 subst this;exact r.inj r'
theorem Inv.tuple_inj(I:Inv X π σ H s)(h:SqT X.K H a xs)(h':SqT X.K H a ys):xs=ys:=by
 let⟨its,r,⟨o,e,_,n,d⟩,_⟩:=I.tuple h;let⟨its',r',⟨o',e',_,n',d'⟩,_⟩:=I.tuple h';rw[e]at e';cases e';rw[d]at d';injection d' with d1 _;have:its=its':=by simpa using congrArg GL d1
 subst this;exact r.inj r'
end
section
variable {X:Cx}{π:List (AK×Bm)}{σ:St}{H:Hp}{s:AI}{E:AF->AI->Prop}
end
section
variable {X:Cx}{st:Bo}{rest:List Bo}{t u:TS}{e:AY}{te:TE}{pos:CG}
def ydo:TS:=λD σ H=>D.nx σ H
def ygs(t u:TS):TS:=λD σ H=>t {D with nx:=u D} σ H
def zli:PSs X [] ydo:=λ_ _ σ H _ I h=>FG ⟨σ,H,I,h⟩
def zfs(h1:PS X st t)(h2:PSs X rest u):PSs X (st::rest) (ygs t u):=by
 intro π s σ H D I h;refine wpAny_execs_cons (thn (h1 π s σ H {D with nx:=u D} I h) λf s1 q=>?_)
 cases f with
 |next=>
  let⟨σ',H',I',q⟩:=q;exact h2 π s1 σ' H' D I' q
 |ret v=>exact q
 |brk=>exact q
 |cont=>exact q
theorem Inv.quiet{π:List (AK×Bm)}{σ:St}{H:Hp}{s:AI}(I:Inv X π σ H s):interactive X.env=false:=by simp[interactive,I.ok.kind]
def ydf(te:TE):TS:=λD σ H=>te σ H λ_ H1=>D.nx σ H1
def zha(he:PE X e te)(hs:swapsWith e AC pos.line X.env=pure false:=by rfl):PS X (.Expr e pos) (ydf te):=by
 intro π s σ H D I h;exact wpAny_Expr_any (thn (he π s σ H _ I h) λv s1 ⟨x,H1,I1,r1,q1⟩=>⟨σ,H1,I1,q1⟩) I.quiet hs
def yfa(te:TE):TS:=λD σ H=>te σ H D.rt
def ziF(he:PE X e te):PS X (.Return (AA e) pos) (yfa te):=by
 intro π s σ H D I h;exact wpAny_Return_some (thn (he π s σ H _ I h) λv s1 ⟨x,H1,I1,r1,q1⟩=>⟨x,σ,H1,I1,r1,q1⟩)
def ydl:TS:=λD _ H=>D.rt .non H
def zlj:PS X (.Return AC pos) ydl:=λ_ _ σ H _ I h=>wpAny_Return_none ⟨.non,σ,H,I,rfl,h⟩
def yf9(c:TT)(t u:TS):TS:=λD σ H=>c σ H λb H1=>if b=AD then t D σ H1 else u D σ H1
def zkn{c:AY}{a b:List Bo}{tc:TT}(hc:PT X c tc)(ha:PSs X a t)(hb:PSs X b u):PS X (.If c a b pos) (yf9 tc t u):=by
 intro π s σ H D I h;refine wpAny_If (thn (hc π s σ H _ I h) λd s1 kq=>?_);let⟨H1,I1,q1⟩:=kq
 cases d with
 |true=>exact ha π s1 σ H1 D I1 q1
 |false=>exact hb π s1 σ H1 D I1 q1
end
abbrev TG:=V->St->Hp->(St->Hp->Prop)->Prop
abbrev TGs:=List V->St->Hp->(St->Hp->Prop)->Prop
def PG(X:Cx)(target:AY)(t:TG):Prop:=
 ∀(π:List (AK×Bm)) (s:AI) (σ:St) (H:Hp) (v:V) (u:AF) (Q:St->Hp->Prop),Inv X π σ H s->RelV v u->t v σ H Q ->
  AV (model X.prog X.w) X.A (assign target X.env u) (λ_ s'=>∃σ' H',Inv X π σ' H' s'/\Q σ' H') X.xe s
def PGs(X:Cx)(ts:List AY)(t:TGs):Prop:=
 ∀(π:List (AK×Bm)) (s:AI) (σ:St) (H:Hp) (vs:List V) (us:List AF) (Q:St->Hp->Prop),Inv X π σ H s->Vals vs us->t vs σ H Q ->
  AV (model X.prog X.w) X.A (assignInOrder ((assignEach ts X.env).map (·.2)) us) (λ_ s'=>∃σ' H',Inv X π σ' H' s'/\Q σ' H') X.xe s
abbrev ydh:=V->V->V->Hp->(Hp->Prop)->Prop
def yeb(X:Cx)(t:ydh):Prop:=
 ∀(π:List (AK×Bm)) (s:AI) (σ:St) (H:Hp) (o i v:V) (ov iv u:AF) (Q:Hp->Prop),Inv X π σ H s->RelV o ov->RelV i iv->RelV v u->t o i v H Q ->
  AV (model X.prog X.w) X.A (setItem ov iv u) (λ_ s'=>∃H',Inv X π σ H' s'/\Q H') X.xe s
abbrev TIp:=V->V->Hp->VK->Prop
def PIp(X:Cx)(op:DG)(t:TIp):Prop:=
 ∀(π:List (AK×Bm)) (s:AI) (σ:St) (H:Hp) (x y:V) (v u:AF) (Q:VK),Inv X π σ H s->RelV x v->RelV y u->t x y H Q ->
  AV (model X.prog X.w) X.A (inplaceOp op v u) (EP X π σ Q) X.xe s
section
variable {X:Cx}{pos:CG}
def yaY(i:Nat):TG:=λv σ H Q=>Q (σ.set i (AA v)) H
def zbe{i:Nat}{x:AW}(hN:X.N.Nodup)(hi:X.N[i]?=AA x)(hx:Loc X.env.scope x)(hf:X.fn x=AD \/ X.env.scope.names.lookup x=AA .local:=by first|exact .inl rfl|exact .inr rfl|assumption):PG X (.Name x pos) (yaY i):=by
 intro π s σ H v u Q I r h;exact GO (zL I hN hi hx r (λs' I'=>⟨_,H,I',h⟩) hf)
def yeF:TGs:=λvs σ H Q=>vs=[]/\Q σ H
def yb6(t:TG)(u:TGs):TGs:=λvs σ H Q=>∃v r,vs=v::r/\t v σ H λσ' H'=>u r σ' H' Q
def zk5:PGs X [] yeF:=by
 intro π s σ H vs us Q I r h;let⟨e,h⟩:=h;subst e
 cases r
 exact GP ⟨σ,H,I,h⟩
def zbf{e:AY}{es:List AY}{t:TG}{u:TGs}(h1:PG X e t)(h2:PGs X es u)
  (hs:(assignEach (e::es) X.env).map (·.2)=assign e X.env::(assignEach es X.env).map (·.2):=by rfl):PGs X (e::es) (yb6 t u):=by
 intro π s σ H vs us Q I r h;let⟨v,vr,e1,h⟩:=h;subst e1
 cases r with
 |cons r rr=>
  rw[hs];refine Dw (thn (h1 π s σ H _ _ _ I r h) λ_ s1 kq=>?_);let⟨σ1,H1,I1,q1⟩:=kq;exact h2 π s1 σ1 H1 _ _ Q I1 rr q1
def yek(K:AE)(n:Nat)(t:TGs):TG:=λv σ H Q=>∃a xs,v=.ref a/\SqT K H a xs/\xs.length=n/\t xs σ H Q
def zgs{es:List AY}{k:Nat}{t:TGs}{n:Nat}(hc:X.calm=AD)(h:PGs X es t)
  (hn:(assignEach es X.env).length=n:=by rfl) (hst:(assignEach es X.env).findIdx? (·.1)=none:=by rfl):PG X (.Tuple es k pos) (yek X.K n t):=by
 intro π s σ H v u Q I r hw;let⟨a,xs,e1,hq,hl,hw⟩:=hw;subst e1
 cases r
 let⟨its,rv,ht,hz⟩:=I.tuple hq;refine assign_Tuple_tuple (I.ok.hd hc) ht (by simp[hn,<-hl,rv.length]) hst λh' hx=>?_;have I1:Inv X π σ H {s with heap:=h'}:=I.kept (t':=s.toks) λb o e=>hx b o (Al (AX e)) e;exact h π _ σ H xs _ Q I1 (by simpa using rv) hw
def yeB(to ti:TE)(t:ydh):TG:=λv σ H Q=>to σ H λo H1=>ti σ H1 λi H2=>t o i v H2 λH3=>Q σ H3
def zgl{o i:AY}{to ti:TE}{t:ydh}(ho:PE X o to)(hi:PE X i ti)(hs:yeb X t)
  (ha:∀v,assign (.Subscript o i pos) X.env v=(do
   let ov <-holding [v] (eval o X.env)
   let iv <-holding [v,ov] (eval i X.env)
   standAt pos
   holding [v,ov,iv] (setItem ov iv v)
   release [v,ov,iv] []):=by intro _;rfl):PG X (.Subscript o i pos) (yeB to ti t):=by
 intro π s σ H v u Q I r h;rw[ha];refine AB (Bd (thn (ho π s σ H _ I h) λov s1 kq=>?_));let⟨x,H1,I1,r1,q1⟩:=kq;refine AB (Bd (thn (hi π s1 σ H1 _ I1 q1) λiv s2 kq=>?_));let⟨y,H2,I2,r2,q2⟩:=kq;refine AB (D9 (AB (Bd (thn (hs π s2 σ H2 x y v ov iv u _ I2 r1 r2 r q2) λ_ s3 kq=>?_))));let⟨H3,I3,q3⟩:=kq;exact wpAny_release ⟨σ,H3,I3,q3⟩
def ydL(te:TE)(g:TG):TS:=λD σ H=>te σ H λx H1=>g x σ H1 D.nx
def zgp{tg e:AY}{te:TE}{g:TG}(he:PE X e te)(hg:PG X tg g)(hs:swapsWithSole [tg] e pos.line X.env=pure false:=by rfl)(hw:swappedStores [tg] e X.env=pure none:=by rfl)
  (h1:(assignEach [tg] X.env).map (·.2)=[assign tg X.env]:=by rfl):PS X (.Assign [tg] e pos) (ydL te g):=by
 intro π s σ H D I h;refine wpAny_Assign_stores (thn (he π s σ H _ I h) λv s1 kq=>?_) hs hw;let⟨x,H1,I1,r1,q1⟩:=kq;rw[h1];exact thn (hg π s1 σ H1 x v _ I1 r1 q1) λ_ s2 q=>q
def zjv{i:Nat}{x:AW}{e:AY}{te:TE}{pos':CG}(hN:X.N.Nodup)(hi:X.N[i]?=AA x)(hx:Loc X.env.scope x)(he:PE X e te)(hs:swapsWith e (AA (.Name x pos')) pos.line X.env=pure false:=by rfl)(hf:X.fn x=AD \/ X.env.scope.names.lookup x=AA .local:=by first|exact .inl rfl|exact .inr rfl|assumption):
  PS X (.Assign [.Name x pos'] e pos) (ydL te (yaY i)):=by
 intro π s σ H D I h;refine wpAny_Assign_Name (thn (he π s σ H _ I h) λv s1 kq=>?_) hs;let⟨y,H1,I1,r1,q1⟩:=kq;exact zL I1 hN hi hx r1 (λs2 I2=>⟨_,H1,I2,q1⟩) hf
def yeg(i j:Nat)(ta:TA):TS:=λD σ H=>ta σ H λvs H1=>∃v w,vs=[v,w]/\D.nx ((σ.set i (AA v)).set j (AA w)) H1
def zij{i j:Nat}{x y:AW}{a b:AY}{ta:TA}{px py pt:CG}{kt k2 pt2}(hc:X.calm=AD)(hN:X.N.Nodup)(hi:X.N[i]?=AA x)(hj:X.N[j]?=AA y)(hij:i≠j)
  (hx:X.env.scope.names.lookup x=AA .local) (hy:X.env.scope.names.lookup y=AA .local) (ha:PA X [a,b] ta)
  (hw:swappedStores [.Tuple [.Name x px,.Name y py] kt pt] (.Tuple [a,b] k2 pt2) X.env=pure (AA [x,y]))
  (hs:swapsWithSole [.Tuple [.Name x px,.Name y py] kt pt] (.Tuple [a,b] k2 pt2) pos.line X.env=pure false:=by rfl):
  PS X (.Assign [.Tuple [.Name x px,.Name y py] kt pt] (.Tuple [a,b] k2 pt2) pos) (yeg i j ta):=by
 intro π s σ H D I h;rw[exec_Assign_arm];refine AB (D9 ?_);rw[hs];refine AB (AJ ?_);rw[if_neg ⋯];refine AB (Tuple_ (thn (ha _ π s σ H _ I h) λus s1 kq=>?_));let⟨vs,H1,I1,r1,q1⟩:=kq;let⟨v,w,e1,q1⟩:=q1;subst e1;obtain⟨u1,u2,rfl,rv,rw'⟩:∃u1 u2,us=[u1,u2]/\RelV v u1/\RelV w u2:=by
  cases r1 with
  |cons p q=>
   cases q with
   |cons p' q'=>
    cases q'
    exact⟨_,_,rfl,p,p'⟩
 refine Ag ?_ (by show 2<=sizeLine;decide);have I2:Inv X π σ H1 {s1 with heap:=s1.heap.push {cls:=.type "tuple",data:=.seq [u1,u2].toArray} }:=I1.kept (t':=s1.toks) λb o e=>AL _ e;rw[hw];refine AB (AJ ?_);show AV (model X.prog X.w) X.A (do rule "assign.swapped-stores";let items <-unpackItems (.ref s1.heap.objs.size) 2 AC;assignInOrder [λv=>bindName X.env y v,λv=>bindName X.env x v] items.reverse;pure Hc) _ _ _;refine AB (GB (AB (unpackItems_tuple (items:=#[u1,u2]) (I.ok.hd hc) (IsTup.new s1.heap _) λh' hx'=>?_)));have I3:=I2.kept (h':=h') (t':=s1.toks) λb o e=>hx' b o (Al (AX e)) e;show AV _ _ (assignInOrder [λv=>bindName X.env y v,λv=>bindName X.env x v] [u2,u1] >>= λ_=>pure Hc) _ _ _;refine AB (Dw (wpAny_bindName (zL I3 hN hj (.inl hy) rw' (λs2 I4=>?_) (.inr hy))));refine Dw (wpAny_bindName (zL I4 hN hi (.inl hx) rv (λs3 I5=>GP (AJ ?_)) (.inr hx)));rw[List.set_comm _ _ (B0 hij)]at I5;exact⟨_,H1,I5,q1⟩
def ygq(i:Nat)(te:TE)(ti:TIp):TS:=λD σ H=>∃x,σ[i]?=AA (AA x)/\te σ H λy H1=>ti x y H1 λz H2=>D.nx (σ.set i (AA z)) H2
def ziY{i:Nat}{x:AW}{e:AY}{te:TE}{op:DG}{ti:TIp}{pos':CG}(hN:X.N.Nodup)(hi:X.N[i]?=AA x)(hx:Loc X.env.scope x)(he:PE X e te)(ho:PIp X op ti)(hf:X.fn x=AD \/ X.env.scope.names.lookup x=AA .local:=by first|exact .inl rfl|exact .inr rfl|assumption):
  PS X (.AugAssign (.Name x pos') op e pos) (ygq i te ti):=by
 intro π s σ H D I h;let⟨v,e1,h⟩:=h;let⟨m,hn,hl⟩:=I.loc;have vis:Vis X.env.scope x:=by rcases hx with k|k;exact .inl k;exact .inr (.inl k)
 let⟨u,r,l⟩:=hl i x v hi e1 vis;refine wpAny_AugAssign_Name ?_;have go:AV (model X.prog X.w) X.A (eval e X.env) (λw s₂=>AV (model X.prog X.w) X.A (inplaceOp op u w) (λr s₃=>AV (model X.prog X.w) X.A (storeName X.env x r) (λ_=>SP X π D .next) X.xe s₃) X.xe s₂) X.xe s:=by
  refine thn (he π s σ H _ I h) λw s1 kq=>?_;let⟨y,H1,I1,r1,q1⟩:=kq;refine thn (ho π s1 σ H1 v y u w _ I1 r r1 q1) λz s2 kq=>?_;let⟨zv,H2,I2,r2,q2⟩:=kq;exact zL I2 hN hi hx r2 (λs3 I3=>⟨_,H2,I3,q2⟩) hf
 rcases l with⟨hk,hm⟩|⟨hk,c,hc,hcell⟩
 .exact FV I.ok.kind hk hn hm go
 .rcases hk with hk|hk
  .exact Fh I.ok.kind hk hc hcell go
  .rcases hx with k|k
   .have:X.env.scope.names.lookup x=AA .free:=hk;rw[k]at this;cases this
   .have:X.env.scope.names.lookup x=AA .free:=hk;rw[k]at this;cases this
def ipI(f:Int->Int->Int):TIp:=λx y H Q=>∃i j,x=.int i/\y=.int j/\Q (.int (f i j)) H
def zin:PIp X .Add (ipI λi j=>i+j):=by
 intro π s σ H x y v u Q I r1 r2 h;let⟨i,j,e1,e2,q⟩:=h;subst e1;subst e2;let⟨t,rfl⟩:=r1;let⟨t',rfl⟩:=r2;exact Gw ⟨.int _,H,I.tok _,⟨_,rfl⟩,q⟩
end
section
variable {X:Cx}{pos:CG}
def ycC(c:TT)(tb:TS):TS:=λD σ H=>∃W:Nat->St->Hp->Prop,(∃m,W m σ H)/\∀m σ H,W m σ H ->
 c σ H λb H1=>if b=AD then ∃N:St->Hp->Prop,(∀σ' H',N σ' H'->∃m',m' < m/\W m' σ' H')/\tb {D with nx:=N,ct:=N,bk:=D.nx} σ H1 else D.nx σ H1
def ze7{c:AY}{body:List Bo}{tc:TT}{tb:TS}(hp:Ee (model X.prog X.w) X.A X.env X.xe)(hc:PT X c tc)(hb:PSs X body tb):PS X (.While c body [] pos) (ycC tc tb):=by
 intro π s σ H D I h;let⟨W,⟨m0,w0⟩,turn⟩:=h;refine wpAny_While (codeAny_whileLoop (λn s'=>∃σ' H',Inv X π σ' H' s'/\W n σ' H') ?_ m0 ⟨σ,H,I,w0⟩)
 rintro n s1 ⟨σ1,H1,I1,w1⟩
 refine CV hp (thn (hc π s1 σ1 H1 _ I1 (turn n σ1 H1 w1)) λb s2 kq=>?_);let⟨H2,I2,q2⟩:=kq
 cases b with
 |true=>
  let⟨N,hN,q2⟩:=q2;rw[if_pos rfl];refine CV hp (thn (hb π s2 σ1 H2 _ I2 q2) λf s3 q3=>?_)
  cases f with
  |next=>
   let⟨σ3,H3,I3,n3⟩:=q3;let⟨m',hm,w3⟩:=hN σ3 H3 n3;exact⟨m',hm,σ3,H3,I3,w3⟩
  |cont=>
   let⟨σ3,H3,I3,n3⟩:=q3;let⟨m',hm,w3⟩:=hN σ3 H3 n3;exact⟨m',hm,σ3,H3,I3,w3⟩
  |brk=>exact q3
  |ret v=>exact q3
 |false=>
  rw[if_neg AU];exact FG ⟨σ1,H2,I2,q2⟩
end
structure It where
 go:Nat->Hp->Prop
 yld:Nat->Hp->V->Hp->Prop
 stop:Nat->Hp->Prop
def ya2(X:Cx)(π:List (AK×Bm))(H:Hp)(b:AK):Prop:=
 H b=AC/\b≠X.env.locals/\b∉X.fs/\(b∈X.ex \/ X.s₀.heap.objs.size<=b)/\(∀x c,X.env.cells.lookup x=AA c->c≠b)/\∀p∈X.pn++π,p.1≠b
theorem Inv.fpOk{X:Cx}{π:List (AK×Bm)}{σ:St}{H H':Hp}{s:AI}{b:AK}(I:Inv X π σ H s)(hb:s.heap.objs.size<=b)(hn:H' b=AC):ya2 X π H' b:=by
 refine⟨hn,CZ (A8 I.lt hb),I.nofs hb,.inr (BV I.sz hb),λx c e z=>?_,λp hp z=>?_⟩
 .let⟨v,q⟩:=I.cell x c e;exact absurd (A8 q.lt (by rw[z];exact hb)) (C3 _)
 .exact absurd (A8 (AX (I.pin p hp).1) (by rw[z];exact hb)) (C3 _)
structure Turn(P:A4)(w:Aa)(K:AE)(tg:AY)(J:It)(fp:List AK)(it:AK)(tn:Nat->Aw->Prop):Prop where
 mem:it∈fp
 obj:∀i h,tn i h->∀b∈fp,∃o,h.get? b=AA o/\∀v,o.data ≠ .cell v
 keep:∀i h h',tn i h->(∀b∈fp,∀o,h.get? b=AA o->h'.get? b=AA o)->tn i h'
 item:∀(X:Cx),X.prog=P->X.w=w->X.K=K->X.calm=AD->∀(i:Nat) (π:List (AK×Bm)) (s:AI) (σ:St) (H:Hp) (E:AF->AI->Prop),Inv X π σ H s->(∀b∈fp,ya2 X π H b)->tn i s.heap->J.go i H ->
  AV (model P w) X.A (pyNext (.ref it)) (λr s1=>∃u,r=AA u /\
   AV (model P w) X.A (letOwnedTupleGo tg (.ref it) u) (λ_ s2=>∃x H',Inv X π σ H' s2/\RelV x u/\J.yld i H x H'/\tn (i+1) s2.heap/\∀b∈fp,H' b=AC) E s1) E s
 done:∀(X:Cx),X.prog=P->X.w=w->X.K=K->X.calm=AD->∀(i:Nat) (π:List (AK×Bm)) (s:AI) (σ:St) (H:Hp) (E:AF->AI->Prop),Inv X π σ H s->(∀b∈fp,ya2 X π H b)->tn i s.heap->J.stop i H ->
  AV (model P w) X.A (pyNext (.ref it)) (λr s1=>r=AC/\Inv X π σ H s1) E s
 self:∀(A:A9) (i:Nat) (s:AI) (Q:AF->AI->Prop) (E:AF->AI->Prop),tn i s.heap->Q (.ref it) s->AV (model P w) A (pyIter (.ref it)) Q E s
abbrev TI:=St->Hp->(It->Hp->Prop)->Prop
def PIE(X:Cx)(π:List (AK×Bm))(σ:St)(tg:AY)(R:It->Hp->Prop)(itv:AF)(s2:AI):Prop:=
 ∃(it:AK) (fp:List AK) (tn:Nat->Aw->Prop) (J:It) (H':Hp),itv=.ref it/\Inv X π σ H' s2/\Turn X.prog X.w X.K tg J fp it tn/\tn 0 s2.heap/\(∀b∈fp,ya2 X π H' b)/\R J H'
def PI(X:Cx)(tg iter:AY)(wi:TI):Prop:=
 ∀(π:List (AK×Bm)) (s:AI) (σ:St) (H:Hp) (R:It->Hp->Prop),Inv X π σ H s->wi σ H R ->
  AV (model X.prog X.w) X.A (eval iter X.env) (λv s1=>AV (model X.prog X.w) X.A (pyIter v) (PIE X π σ tg R) X.xe s1) X.xe s
def zew{M:Hu}{A:A9}{E:AF->AI->Prop}{s:AI}{tg:AY}{it:AK}{u:AF}{o:Bm}{n:String}{vs:Array AF}{Q:Unit->AI->Prop}(ho:s.heap.get? it=AA o)(hc:o.cls=.type n)(hd:o.data=.fields vs)
  (hn:["enumerate","zip","dict_itemiterator","dict_reverseitemiterator","odict_iterator","itertools.zip_longest","itertools.pairwise"].contains n=AG) (hQ:Q () s):AV M A (letOwnedTupleGo tg (.ref it) u) Q E s:=by
 unfold letOwnedTupleGo
 cases tg<;>first
  |exact AJ hQ
  | (cases u<;>first
    |exact AJ hQ
    | (refine AB (wpAny_load ho ?_)
       rw[hc,hd];show AV M A (if (["enumerate","zip","dict_itemiterator","dict_reverseitemiterator","odict_iterator","itertools.zip_longest","itertools.pairwise"].contains n&&vs[0]? == AA (rawInt _))=AD then _ else _) Q E s;rw[if_neg (by intro h;rw[hn,CM]at h;cases h)];exact AJ hQ))
def Itl(K:AE)(a:AK):It:=
 ⟨λi H=>∃xs x,SqL K H a xs/\xs[i]?=AA x,λi H x H'=>H'=H/\∀xs,SqL K H a xs->xs[i]?=AA x,λi H=>∃xs,SqL K H a xs/\xs.length<=i⟩
def Itt(K:AE)(a:AK):It:=
 ⟨λi H=>∃xs x,SqT K H a xs/\xs[i]?=AA x,λi H x H'=>H'=H/\∀xs,SqT K H a xs->xs[i]?=AA x,λi H=>∃xs,SqT K H a xs/\xs.length<=i⟩
def Itr(lo:Int)(n:Nat):It:=⟨λi _=>i<n,λi H x H'=>H'=H/\x=.int (lo+i),λi _=>n<=i⟩
def zee{P:A4}{w:Aa}{K:AE}{tg:AY}(a it:AK):Turn P w K tg (Itl K a) [it] it (λi h=>h.IsListIter it a i) where
 mem:=by simp
 obj:=λi h st b hb=>by
  have e:b=it:=by simpa using hb
  subst e;let⟨o,e,c,d⟩:=st;exact⟨o,e,λv z=>by rw[d]at z;cases z⟩
 keep:=λi h h' st k=>st.at λo e=>k it (by simp) o e
 item:=by
  intro X hP hw hK hc i π s σ H E I hf st hg;subst hP hw hK;let⟨xs,x,hq,hx⟩:=hg;let⟨its,rv,p,hz⟩:=I.list hq;let⟨u,hu,ru⟩:=rv.get hx;let⟨f0,f1,f2,f3,f4,f5⟩:=hf it (by simp);refine wpAny_pyNext_list_item st p.isList (x:=u) (by simpa using hu) λh' st' sb=>?_;have I1:Inv X π σ H {s with heap:=h'}:=I.turned (t':=s.toks) (λb o hb e=>(sb.2 b hb).trans e) f0 f1 f3 f4 f5;let⟨o,e,c,d⟩:=id st';exact⟨u,rfl,zew (s:={s with heap:=h'}) e c d ⋯ ⟨x,H,I1,ru,⟨rfl,λys hy=>by rw[I.list_inj hy hq];exact hx⟩,st',λb hb=>(hf b hb).1⟩⟩
 done:=by
  intro X hP hw hK hc i π s σ H E I hf st hg;subst hP hw hK;let⟨xs,hq,hx⟩:=hg;let⟨its,rv,p,hz⟩:=I.list hq;let⟨f0,f1,f2,f3,f4,f5⟩:=hf it (by simp);have hl:=rv.length;exact wpAny_pyNext_list_end (I.ok.hd hc) st p.isList (by simp;lia) λh' eb=>⟨rfl,I.turned (t':=s.toks) (λb o hb e=>eb b o hb e) f0 f1 f3 f4 f5⟩
 self:=λ_ _ _ _ _ st h=>wpAny_pyIter_listiter st h
def zdc{P:A4}{w:Aa}{K:AE}{tg:AY}(a it:AK):Turn P w K tg (Itt K a) [it] it (λi h=>h.IsTupleIter it a i) where
 mem:=by simp
 obj:=λi h st b hb=>by
  have e:b=it:=by simpa using hb
  subst e;let⟨o,e,c,d⟩:=st;exact⟨o,e,λv z=>by rw[d]at z;cases z⟩
 keep:=λi h h' st k=>st.at λo e=>k it (by simp) o e
 item:=by
  intro X hP hw hK hc i π s σ H E I hf st hg;subst hP hw hK;let⟨xs,x,hq,hx⟩:=hg;let⟨its,rv,p,hz⟩:=I.tuple hq;let⟨u,hu,ru⟩:=rv.get hx;let⟨f0,f1,f2,f3,f4,f5⟩:=hf it (by simp);refine Ef st (show s.heap.IsTuple a its.toArray from p) (x:=u) (by simpa using hu) λh' st' sb=>?_;have I1:Inv X π σ H {s with heap:=h'}:=I.turned (t':=s.toks) (λb o hb e=>(sb.2 b hb).trans e) f0 f1 f3 f4 f5;let⟨o,e,c,d⟩:=id st';exact⟨u,rfl,zew (s:={s with heap:=h'}) e c d ⋯ ⟨x,H,I1,ru,⟨rfl,λys hy=>by rw[I.tuple_inj hy hq];exact hx⟩,st',λb hb=>(hf b hb).1⟩⟩
 done:=by
  intro X hP hw hK hc i π s σ H E I hf st hg;subst hP hw hK;let⟨xs,hq,hx⟩:=hg;let⟨its,rv,p,hz⟩:=I.tuple hq;let⟨f0,f1,f2,f3,f4,f5⟩:=hf it (by simp);have hl:=rv.length;exact En (I.ok.hd hc) st (show s.heap.IsTuple a its.toArray from p) (by simp;lia) λh' eb=>⟨rfl,I.turned (t':=s.toks) (λb o hb e=>eb b o hb e) f0 f1 f3 f4 f5⟩
 self:=λ_ _ _ _ _ st h=>wpAny_pyIter_tupleiter st h
def zdd{P:A4}{w:Aa}{K:AE}{tg:AY}(it:AK)(lo:Int)(n:Nat):Turn P w K tg (Itr lo n) [it] it (λi h=>FW h it (lo+(i:Nat)*1) ((n:Int)-(i:Nat)) 1) where
 mem:=by simp
 obj:=λi h st b hb=>by
  have e:b=it:=by simpa using hb
  subst e;exact⟨_,st,λv z=>by
   have z':Hx _=Data.cell v:=z
   cases z'⟩
 keep:=λi h h' st k=>k it (by simp) _ st
 item:=by
  intro X hP hw hK hc i π s σ H E I hf st hg;subst hP hw hK;let⟨f0,f1,f2,f3,f4,f5⟩:=hf it (by simp);have W:=Hy (prog:=X.prog) (w:=X.w) (I.ok.hd hc) it lo 1 n;refine W.item i s _ _ hg st λv h' tk hv st' kk=>?_;let⟨t,rfl⟩:=hv;have I1:Inv X π σ H {s with heap:=h',toks:=tk}:=I.turned (λb o hb e=>kk b o (by simpa using hb) e) f0 f1 f3 f4 f5;refine⟨_,rfl,zew (s:={s with heap:=h',toks:=tk}) (n:="range_iterator") st' rfl rfl ⋯ ⟨.int (lo+i),H,I1,⟨t,?_⟩,⟨rfl,rfl⟩,st',λb hb=>(hf b hb).1⟩⟩;rw[FX]
 done:=by
  intro X hP hw hK hc i π s σ H E I hf st hg;subst hP hw hK;let⟨f0,f1,f2,f3,f4,f5⟩:=hf it (by simp);exact Eo (I.ok.hd hc) st (by have:n<=i:=hg;lia) λh' eb=>⟨rfl,I.turned (t':=s.toks) (λb o hb e=>eb b o hb e) f0 f1 f3 f4 f5⟩
 self:=λ_ _ _ _ _ st h=>Ep st h
section
variable {X:Cx}{tg:AY}
def zcD{π:List (AK×Bm)}{σ:St}{H:Hp}{s:AI}{R:It->Hp->Prop}{E:AF->AI->Prop}{lo hi:Int}{t u v:Hr}{tk:Nat}(I:Inv X π σ H s)(h1:-(2^62)<=lo)(h2:lo<2^62)(h3:-(2^62)<=hi)(h4:hi<2^62)
  (q:R (Itr lo (hi-lo).toNat) H):AV (model X.prog X.w) X.A (pyIter (.ref s.heap.objs.size)) (PIE X π σ tg R) E {s with heap:=s.heap.push {cls:=.type "range",data:=.fields #[.int lo t,.int hi u,.int 1 v]},toks:=tk}:=by
 refine GE (Hz ..) (small_one h1 h2 h3 h4) ?_;have I1:Inv X π σ H {s with heap:=s.heap.push {cls:=.type "range",data:=.fields #[.int lo t,.int hi u,.int 1 v]},toks:=tk}:=I.kept λb o e=>AL _ e;refine⟨(s.heap.push {cls:=.type "range",data:=.fields #[.int lo t,.int hi u,.int 1 v]}).objs.size,[(s.heap.push {cls:=.type "range",data:=.fields #[.int lo t,.int hi u,.int 1 v]}).objs.size],_,_,H,rfl,
  I1.kept (t':=tk) λb o e=>AL _ e,zdd _ lo (hi-lo).toNat,?_,λb hb=>?_,q⟩
 .have e1:lo+((0:Nat):Int)*1=lo:=by simp
  have e2:(((hi-lo).toNat:Nat):Int)-((0:Nat):Int)=Bv lo hi 1:=by rw[rangeSize_one];split<;>lia
  show FW _ _ (lo+((0:Nat):Int)*1) ((((hi-lo).toNat:Nat):Int)-((0:Nat):Int)) 1;rw[e1,e2];exact AT _ rfl
 .have e:b=(s.heap.push {cls:=.type "range",data:=.fields #[.int lo t,.int hi u,.int 1 v]}).objs.size:=by simpa using hb
  subst e;exact I1.fpOk (AR _) (I1.hok.fresh (AR _))
def yd6(ta:TA):TI:=λσ H R=>ta σ H λvs H1=>∃j:Int,vs=[.int j]/\-(2^62)<=j/\j<2^62/\R (Itr 0 j.toNat) H1
def ydO(ta:TA):TI:=λσ H R=>ta σ H λvs H1=>∃i j:Int,vs=[.int i,.int j]/\(-(2^62)<=i/\i<2^62/\-(2^62)<=j/\j<2^62)/\R (Itr i (j-i).toNat) H1
def zdE{a:AY}{ta:TA}{p pos:CG}(hg:Gl X "range")(hm:X.mg "range"=AC)(ha:PA X [a] ta)(hs:starEach [a] X.env=[(AG,eval a X.env)]:=by rfl):PI X tg (.Call (.Name "range" p) [a] [] pos) (yd6 ta):=by
 intro π s σ H R I h;refine Call_ (zaA I hg hm HC (Bc (thn (ha pos π s σ H _ I h) λus s1 kq=>?_) hs rfl));let⟨vs,H1,I1,r1,q1⟩:=kq;let⟨j,e,q1,q2,q⟩:=q1;subst e
 cases r1 with
 |cons r rr=>
  cases rr
  let⟨t,rfl⟩:=r;exact call_range_1 (zcD I1 ∅ ∅ q1 q2 (by simpa using q))
def zd9{a b:AY}{ta:TA}{p pos:CG}(hg:Gl X "range")(hm:X.mg "range"=AC)(ha:PA X [a,b] ta)(hs:starEach [a,b] X.env=[(AG,eval a X.env),(AG,eval b X.env)]:=by rfl)(hs2:starEach [b] X.env=[(AG,eval b X.env)]:=by rfl):
  PI X tg (.Call (.Name "range" p) [a,b] [] pos) (ydO ta):=by
 intro π s σ H R I h;refine Call_ (zaA I hg hm HC (Bc (thn (ha pos π s σ H _ I h) λus s1 kq=>?_) (by rw[hs,hs2]) (by rw[hs2];rfl)));let⟨vs,H1,I1,r1,q1⟩:=kq;let⟨i,j,e,⟨q1,q2,q3,q4⟩,q⟩:=q1;subst e
 cases r1 with
 |cons r rr=>
  cases rr with
  |cons r' rr=>
   cases rr
   let⟨t,rfl⟩:=r;let⟨t',rfl⟩:=r';exact call_range_2 (zcD I1 q1 q2 q3 q4 q)
def ygc(wi:TI)(g:TG)(tb:TS):TS:=λD σ H=>wi σ H λJ H1=>∃W:Nat->Nat->St->Hp->Prop,(∃m,W 0 m σ H1)/\∀i m σ H,W i m σ H ->
 (J.stop i H/\D.nx σ H) \/ (J.go i H/\∃N:St->Hp->Prop,(∀σ' H',N σ' H'->∃m',m' < m/\W (i+1) m' σ' H')/\∀x H',J.yld i H x H'->g x σ H' λσ2 H2=>tb {D with nx:=N,ct:=N,bk:=D.nx} σ2 H2)
def ya0(fp:List AK)(h:Aw):List (AK×Bm):=fp.filterMap λb=>(h.get? b).map λo=>(b,o)
def zK{fp:List AK}{h:Aw}{b:AK}{o:Bm}(hb:b∈fp)(e:h.get? b=AA o):(b,o)∈ya0 fp h:=Dx.mpr ⟨b,hb,by rw[e];rfl⟩
def zdu{fp:List AK}{h:Aw}{p:AK×Bm}(hp:p∈ya0 fp h):p.1∈fp/\h.get? p.1=AA p.2:=by
 let⟨b,hb,e⟩:=Dx.mp hp
 cases q:h.get? b with
 |none=>rw[q]at e;cases e
 |some o=>
  rw[q]at e;have e':(b,o)=p:=A3 e;subst e';exact⟨hb,q⟩
theorem Inv.pinned{π:List (AK×Bm)}{σ:St}{H:Hp}{s:AI}{fp:List AK}(I:Inv X π σ H s)(hf:∀b∈fp,ya2 X π H b)(ho:∀b∈fp,∃o,s.heap.get? b=AA o/\∀v,o.data ≠ .cell v):Inv X (π++ya0 fp s.heap) σ H s:=
 I.pins_of λp hp=>(Av.mp hp).elim (λz=>I.pin p (Am _ z)) λz=>by
  let⟨hb,e⟩:=zdu z;let⟨f0,f1,f2,_⟩:=hf p.1 hb;let⟨o,e',d⟩:=ho p.1 hb;rw[e]at e';cases e';exact⟨e,f0,f1,f2,d⟩
theorem Inv.unpinned{π pl:List (AK×Bm)}{σ:St}{H:Hp}{s:AI}(I:Inv X (π++pl) σ H s):Inv X π σ H s:=I.pins_of λp hp=>I.pin p (Am _ (FU _ hp))
def zjA{iter:AY}{body:List Bo}{wi:TI}{g:TG}{tb:TS}{pos:CG}(hp:Ee (model X.prog X.w) X.A X.env X.xe)(hc:X.calm=AD)(hi:PI X tg iter wi)(hg:PG X tg g)(hb:PSs X body tb)
  (hs:∀x,foldedSetIterable iter X.env x=pure x:=by intro _;rfl):PS X (.For tg iter body [] pos) (ygc wi g tb):=by
 intro π s σ H D I h;refine wpAny_For (thn (hi π s σ H _ I h) λv s1 h1=>thn h1 λitv s2 h2=>?_) hs;let⟨it,fp,tn,J,H2,e,I2,T,st2,f2,W,⟨m0,w0⟩,turn⟩:=h2;subst e;have stat:∀{H':Hp},(∀b∈fp,H' b=AC)->∀b∈fp,ya2 X π H' b:=λhn b hb=>⟨hn b hb,(f2 b hb).2⟩;refine codeAny_forLoop_any (λn s'=>∃i σ' H',Inv X π σ' H' s'/\tn i s'.heap/\(∀b∈fp,H' b=AC)/\W i n σ' H') ?_ m0 ⟨0,σ,H2,I2,st2,λb hb=>(f2 b hb).1,w0⟩
 rintro n s3 ⟨i,σ3,H3,I3,st3,fr3,w3⟩
 rcases turn i n σ3 H3 w3 with⟨stop,qn⟩|⟨go,N,hN,step⟩
 .refine CV hp (thn (T.done X rfl rfl rfl hc i π s3 σ3 H3 X.xe I3 (stat fr3) st3 stop) λr s4 kq=>?_);let⟨hr,I4⟩:=kq;subst hr;exact FG ⟨σ3,H3,I4,qn⟩
 .refine CV hp (thn (T.item X rfl rfl rfl hc i π s3 σ3 H3 X.xe I3 (stat fr3) st3 go) λr s4 kq=>?_);let⟨u,hr,h4⟩:=kq;subst hr;refine CV hp (thn h4 λ_ s5 kq=>?_);let⟨x,H5,I5,r5,y5,st5,fr5⟩:=kq;have I5':=I5.pinned (stat fr5) (T.obj _ _ st5);refine CV hp (thn (hg _ s5 σ3 H5 x u _ I5' r5 (step x H5 y5)) λ_ s6 kq=>?_);let⟨σ6,H6,I6,q6⟩:=kq;refine CV hp (thn (hb _ s6 σ6 H6 _ I6 q6) λf s7 q7=>?_);have again:∀{σ7:St} {H7:Hp},Inv X (π++ya0 fp s5.heap) σ7 H7 s7->N σ7 H7->∃m,m<n/\∃i σ' H',Inv X π σ' H' s7/\tn i s7.heap/\(∀b∈fp,H' b=AC)/\W i m σ' H':=λ{σ7 H7} I7 n7=>by
   let⟨m',hm,w7⟩:=hN σ7 H7 n7;refine⟨m',hm,i+1,σ7,H7,I7.unpinned,T.keep _ _ _ st5 λb hb o e=>(I7.pin (b,o) (Am _ (Am _ (zK hb e)))).1,λb hb=>?_,w7⟩;let⟨o,e,d⟩:=T.obj _ _ st5 b hb;exact(I7.pin (b,o) (Am _ (Am _ (zK hb e)))).2.1
  cases f with
  |next=>let⟨σ7,H7,I7,n7⟩:=q7;exact again I7 n7
  |cont=>let⟨σ7,H7,I7,n7⟩:=q7;exact again I7 n7
  |brk=>let⟨σ7,H7,I7,q7⟩:=q7;exact⟨σ7,H7,I7.unpinned,q7⟩
  |ret v=>let⟨x7,σ7,H7,I7,r7,q7⟩:=q7;exact⟨x7,σ7,H7,I7.unpinned,r7,q7⟩
end
abbrev R2:=V->V->Hp->VK->Prop
def OpR(X:Cx)(f:AF->AF->IL AF)(r:R2):Prop:=
 ∀(π:List (AK×Bm)) (s:AI) (σ:St) (H:Hp) (x y:V) (v u:AF) (Q:VK),Inv X π σ H s->RelV x v->RelV y u->r x y H Q ->
  AV (model X.prog X.w) X.A (f v u) (EP X π σ Q) X.xe s
def UnR(X:Cx)(f:AF->IL AF)(r:V->Hp->VK->Prop):Prop:=
 ∀(π:List (AK×Bm)) (s:AI) (σ:St) (H:Hp) (x:V) (v:AF) (Q:VK),Inv X π σ H s->RelV x v->r x H Q ->
  AV (model X.prog X.w) X.A (f v) (EP X π σ Q) X.xe s
def yQ(X:Cx)(f:AF)(r:List V->Hp->VK->Prop):Prop:=
 ∀(π:List (AK×Bm)) (s:AI) (σ:St) (H:Hp) (xs:List V) (us:List AF) (Q:VK),Inv X π σ H s->Vals xs us->r xs H Q ->
  AV (model X.prog X.w) X.A (call f us) (EP X π σ Q) X.xe s
def yfF(X:Cx)(r:V->Hp->(Bool->Hp->Prop)->Prop):Prop:=
 ∀(π:List (AK×Bm)) (s:AI) (σ:St) (H:Hp) (x:V) (v:AF) (Q:Bool->Hp->Prop),Inv X π σ H s->RelV x v->r x H Q ->
  AV (model X.prog X.w) X.A (truthy v) (TP X π σ Q) X.xe s
def tOp(r:R2)(ta tb:TE):TE:=λσ H Q=>ta σ H λx H1=>tb σ H1 λy H2=>r x y H2 Q
def tUn(r:V->Hp->VK->Prop)(ta:TE):TE:=λσ H Q=>ta σ H λx H1=>r x H1 Q
def rI(C:Int->Int->Prop)(g:Int->Int->V):R2:=λx y H Q=>∃i j,x=.int i/\y=.int j/\C i j/\Q (g i j) H
def rI0(g:Int->Int->V):R2:=λx y H Q=>∃i j,x=.int i/\y=.int j/\Q (g i j) H
def rU(g:Int->V):V->Hp->VK->Prop:=λx H Q=>∃i,x=.int i/\Q (g i) H
section
variable {X:Cx}{a b c:AY}{ta tb tc:TE}{pos:CG}
def zkZ(ha:PE X a ta)(hb:PE X b tb){π:List (AK×Bm)}{s:AI}{σ:St}{H:Hp}{R:V->V->Hp->Prop}(I:Inv X π σ H s)
  (h:ta σ H λx H1=>tb σ H1 λy H2=>R x y H2) {Q:AF->AI->Prop} {f:AF->AF->IL AF}
  (hf:∀v u s2 x y H2,Inv X π σ H2 s2->RelV x v->RelV y u->R x y H2->AV (model X.prog X.w) X.A (f v u) Q X.xe s2):
  AV (model X.prog X.w) X.A (eval a X.env) (λv s₁=>AV (model X.prog X.w) X.A (eval b X.env) (λu s₂=>AV (model X.prog X.w) X.A (f v u) Q X.xe s₂) X.xe s₁) X.xe s:=by
 refine thn (ha π s σ H _ I h) λv s1 kq=>?_;let⟨x,H1,I1,r1,q1⟩:=kq;refine thn (hb π s1 σ H1 _ I1 q1) λu s2 kq=>?_;let⟨y,H2,I2,r2,q2⟩:=kq;exact hf v u s2 x y H2 I2 r1 r2 q2
def zkG{op:DG}{r:R2}(ho:OpR X (binaryOp op) r)(ha:PE X a ta)(hb:PE X b tb):PE X (.BinOp a op b pos) (tOp r ta tb):=by
 intro π s σ H Q I h;exact wpAny_BinOp (zkZ ha hb I h λv u s2 x y H2 I2 rx ry q=>ho π s2 σ H2 x y v u Q I2 rx ry q)
def zif{op:UnaryOp}{r:V->Hp->VK->Prop}(ho:UnR X (unaryOp op) r)(ha:PE X a ta):PE X (.UnaryOp op a pos) (tUn r ta):=by
 intro π s σ H Q I h;exact UnaryOp_ (thn (ha π s σ H _ I h) λv s1 ⟨x,H1,I1,r1,q1⟩=>ho π s1 σ H1 x v Q I1 r1 q1)
theorem opI{f:AF->AF->IL AF}{C:Int->Int->Prop}{g:Int->Int->Int}
  (rule:∀(i j:Int) (t u:Hr) (s:AI) (Q:AF->AI->Prop) (E:AF->AI->Prop),C i j->Q (.int (g i j) s.toks) {s with toks:=s.toks+1}->AV (model X.prog X.w) X.A (f (.int i t) (.int j u)) Q E s):
  OpR X f (rI C λi j=>.int (g i j)):=by
 intro π s σ H x y v u Q I rx ry h;let⟨i,j,rfl,rfl,hc,q⟩:=h;let⟨t,rfl⟩:=rx;let⟨t',rfl⟩:=ry;exact rule i j t t' s _ _ hc ⟨.int (g i j),H,I.tok _,⟨_,rfl⟩,q⟩
def zk6{f:AF->AF->IL AF}{g:Int->Int->Int}
  (rule:∀(i j:Int) (t u:Hr) (s:AI) (Q:AF->AI->Prop) (E:AF->AI->Prop),Q (.int (g i j) s.toks) {s with toks:=s.toks+1}->AV (model X.prog X.w) X.A (f (.int i t) (.int j u)) Q E s):
  OpR X f (rI0 λi j=>.int (g i j)):=by
 intro π s σ H x y v u Q I rx ry h;let⟨i,j,rfl,rfl,q⟩:=h;let⟨t,rfl⟩:=rx;let⟨t',rfl⟩:=ry;exact rule i j t t' s _ _ ⟨.int (g i j),H,I.tok _,⟨_,rfl⟩,q⟩
def zkX{f:AF->AF->IL AF}{g:Int->Int->Bool}
  (rule:∀(i j:Int) (t u:Hr) (s:AI) (Q:AF->AI->Prop) (E:AF->AI->Prop),Q (.bool (g i j)) s->AV (model X.prog X.w) X.A (f (.int i t) (.int j u)) Q E s):
  OpR X f (rI0 λi j=>.bl (g i j)):=by
 intro π s σ H x y v u Q I rx ry h;let⟨i,j,rfl,rfl,q⟩:=h;let⟨t,rfl⟩:=rx;let⟨t',rfl⟩:=ry;exact rule i j t t' s _ _ ⟨.bl (g i j),H,I,rfl,q⟩
def yeu(i j:Int):Prop:=0<=j/\j<=1000000/\i.natAbs<2^64
def ych(i j:Int):Prop:=(-(2^64)<i/\i<2^64) \/ (-(2^64)<j/\j<2^64)
theorem ych.ok{i j:Int}(h:ych i j):IntMulOk i j:=by
 rcases h with⟨h1,h2⟩|⟨h1,h2⟩
 .exact .of_left (intBits_le_64 h1 h2)
 .exact .of_right (intBits_le_64 h1 h2)
def zio:OpR X (binaryOp .Add) (rI0 λi j=>.int (i+j)):=zk6 λ_ _ _ _ _ _ _ q=>add_int q
def zjj:OpR X (binaryOp .Sub) (rI0 λi j=>.int (i-j)):=zk6 λ_ _ _ _ _ _ _ q=>sub_int q
def zid:OpR X (binaryOp .Mult) (rI ych λi j=>.int (i*j)):=opI λ_ _ _ _ _ _ _ hc q=>mul_int q hc.ok
def zj8:OpR X (binaryOp .Mod) (rI (λ_ j=>0<j) λi j=>.int (i%j)):=opI λi j _ _ _ _ _ hc q=>by
 have h1:(0:Int)<j:=hc;exact mod_int' ∅ (by rw[Int.fmod_eq_emod_of_nonneg i ∅];exact q)
def zjM:OpR X (binaryOp .Pow) (rI yeu λi j=>.int (i^j.toNat)):=opI λ_ _ _ _ _ _ _ hc q=>pow_int_small hc.1 hc.2.1 hc.2.2 q
def zh1:OpR X (inplaceOp .Mult) (rI ych λi j=>.int (i*j)):=opI λ_ _ _ _ _ _ _ hc q=>imul_int q hc.ok
theorem unI{f:AF->IL AF}{g:Int->Int}
  (rule:∀(i:Int) (t:Hr) (s:AI) (Q:AF->AI->Prop) (E:AF->AI->Prop),Q (.int (g i) s.toks) {s with toks:=s.toks+1}->AV (model X.prog X.w) X.A (f (.int i t)) Q E s):
  UnR X f (rU λi=>.int (g i)):=by
 intro π s σ H x v Q I rx h;let⟨i,rfl,q⟩:=h;let⟨t,rfl⟩:=rx;exact rule i t s _ _ ⟨.int (g i),H,I.tok _,⟨_,rfl⟩,q⟩
def zgd:UnR X (unaryOp .USub) (rU λi=>.int (-i)):=unI λ_ _ _ _ _ q=>neg_int q
def zep:OpR X (binaryOp .Add) (λx y H Q=>∃i k,x=.int i/\y=.bl k/\Q (.int (i+b2i k)) H):=by
 intro π s σ H x y v u Q I rx ry h;let⟨i,k,rfl,rfl,q⟩:=h;let⟨t,rfl⟩:=rx
 cases ry
 exact add_int_bool ⟨.int (i+b2i k),H,I.tok _,⟨_,rfl⟩,q⟩
end
section
variable {X:Cx}{a b c:AY}{ta tb tc:TE}{pos:CG}
def zaZ{π:List (AK×Bm)}{σ:St}{H:Hp}{s:AI}{Q:VK}{k k':Bool}(I:Inv X π σ H s)(q:Q (.bl k) H)(e:k=k'):EP X π σ Q (.bool k') s:=by
 subst e;exact⟨.bl k,H,I,rfl,q⟩
def zkD:OpR X (compareOp .Lt) (rI0 λi j=>.bl (decide (i<j))):=zkX λ_ _ _ _ _ _ _ q=>lt_int q
def zkx:OpR X (compareOp .LtE) (rI0 λi j=>.bl (decide (i<=j))):=zkX λ_ _ _ _ _ _ _ q=>le_int q
def zkg:OpR X (compareOp .Gt) (rI0 λi j=>.bl (decide (j<i))):=zkX λ_ _ _ _ _ _ _ q=>gt_int q
def zkk:OpR X (compareOp .GtE) (rI0 λi j=>.bl (decide (j<=i))):=zkX λ_ _ _ _ _ _ _ q=>ge_int q
def zdn:OpR X (compareOp .Lt) (λx y H Q=>∃i j,x=.str i/\y=.str j/\Q (.bl (decide (i.cps.toList<j.cps.toList))) H):=by
 intro π s σ H x y v u Q I rx ry h;let⟨i,j,rfl,rfl,q⟩:=h;let⟨t,rfl⟩:=rx;let⟨t',rfl⟩:=ry;exact lt_str (zaZ I q rfl)
def zeo:OpR X (compareOp .In) (λx y H Q=>∃i j,x=.str i/\y=.str j/\Q (.bl (!(DD j i 0 j.length 1).isEmpty)) H):=by
 intro π s σ H x y v u Q I rx ry h;let⟨i,j,rfl,rfl,q⟩:=h;let⟨t,rfl⟩:=rx;let⟨t',rfl⟩:=ry;exact in_str (zaZ I q rfl)
def zjx:OpR X (compareOp .Is) (λx y H Q=>y=.non/\Q (.bl (decide (x=.non))) H):=by
 intro π s σ H x y v u Q I rx ry h;let⟨rfl,q⟩:=h
 cases ry
 refine is_none_gen (zaZ I q ?_)
 cases x<;>first
  |(cases rx;rfl)
  |(let⟨t,rfl⟩:=rx;rfl)
def zbG:OpR X (compareOp .NotIn) (λx y H Q=>∃i j,x=.str i/\y=.str j/\Q (.bl (!(!(DD j i 0 j.length 1).isEmpty))) H):=by
 intro π s σ H x y v u Q I rx ry h;let⟨i,j,rfl,rfl,q⟩:=h;let⟨t,rfl⟩:=rx;let⟨t',rfl⟩:=ry;exact notIn_str (zaZ I q rfl)
def zhD{op:Fj}{r:R2}(ho:OpR X (compareOp op) r)(ha:PE X a ta)(hb:PE X b tb)(hm:behindInMarks op b=AG):PE X (.Compare a [op] [b] pos) (tOp r ta tb):=by
 intro π s σ H Q I h;exact wpAny_Compare1 (zkZ ha hb I h λv u s2 x y H2 I2 rx ry q=>ho π s2 σ H2 x y v u Q I2 rx ry q) hm
def yc0(t:TE):TT:=λσ H Q=>t σ H λx H'=>∃k,x=.bl k/\Q k H'
def zgF{op:Fj}{r:R2}(ho:OpR X (compareOp op) r)(ha:PE X a ta)(hb:PE X b tb)(hm:behindInMarks op b=AG):PT X (.Compare a [op] [b] pos) (yc0 (tOp r ta tb)):=by
 intro π s σ H Q I h;refine wpAny_isTrue_Compare1 (thn (ha π s σ H _ I h) λv s1 ⟨x,H1,I1,r1,q1⟩=>thn (hb π s1 σ H1 _ I1 q1) λu s2 ⟨y,H2,I2,r2,q2⟩=>
  thn (ho π s2 σ H2 x y v u _ I2 r1 r2 q2) λc s3 ⟨z,H3,I3,r3,k,e,q3⟩=>?_) hm
 subst e
 cases r3
 exact B1 ⟨H3,I3,q3⟩
def yb1(r r':R2)(ta tb tc:TE):TE:=λσ H Q=>ta σ H λx H1=>tb σ H1 λy H2=>r x y H2 λz H3=>∃k,z=.bl k /\
 (if k=AD then tc σ H3 λw' H4=>r' y w' H4 Q else Q (.bl AG) H3)
def zfD{op op':Fj}{r r':R2}(ho:OpR X (compareOp op) r)(ho':OpR X (compareOp op') r')(ha:PE X a ta)(hb:PE X b tb)(hc:PE X c tc)
  (hm:lastMarks [op,op'] [b,c]=false:=by with_unfolding_all rfl):PE X (.Compare a [op,op'] [b,c] pos) (yb1 r r' ta tb tc):=by
 intro π s σ H Q I h;refine Compare_chain (thn (ha π s σ H _ I h) λv s1 ⟨x,H1,I1,r1,q1⟩=>chain_link (thn (hb π s1 σ H1 _ I1 q1) λu s2 ⟨y,H2,I2,r2,q2⟩=>
  thn (ho π s2 σ H2 x y v u _ I2 r1 r2 q2) λd s3 ⟨z,H3,I3,r3,k,e,q3⟩=>?_)) hm
 subst e
 cases r3
 refine B1 ?_
 cases k with
 |false=>exact ite_ff ⟨.bl AG,H3,I3,rfl,q3⟩
 |true=>exact ite_tt (chain_last (thn (hc π s3 σ H3 _ I3 q3) λw' s4 ⟨z',H4,I4,r4,q4⟩=>ho' π s4 σ H4 y z' u w' Q I4 r2 r4 q4))
def zfW{op op':Fj}{r r':R2}(ho:OpR X (compareOp op) r)(ho':OpR X (compareOp op') r')(ha:PE X a ta)(hb:PE X b tb)(hc:PE X c tc)
  (hm:lastMarks [op,op'] [b,c]=false:=by with_unfolding_all rfl):PT X (.Compare a [op,op'] [b,c] pos) (yc0 (yb1 r r' ta tb tc)):=by
 intro π s σ H Q I h;refine isTrue_chain (thn (ha π s σ H _ I h) λv s1 ⟨x,H1,I1,r1,q1⟩=>test_link (thn (hb π s1 σ H1 _ I1 q1) λu s2 ⟨y,H2,I2,r2,q2⟩=>
  thn (ho π s2 σ H2 x y v u _ I2 r1 r2 q2) λd s3 ⟨z,H3,I3,r3,k,e,q3⟩=>?_)) hm
 subst e
 cases r3
 refine B1 ?_
 cases k with
 |false=>
  let⟨k',e',q'⟩:=q3
  cases e'
  exact ite_ff ⟨H3,I3,q'⟩
 |true=>
  refine ite_tt (test_last (thn (hc π s3 σ H3 _ I3 q3) λw' s4 kq=>?_));let⟨z',H4,I4,r4,q4⟩:=kq;refine thn (ho' π s4 σ H4 y z' u w' _ I4 r2 r4 q4) λd' s5 kq=>?_;let⟨z2,H5,I5,r5,k2,e2,q5⟩:=kq;subst e2
  cases r5
  exact B1 ⟨H5,I5,q5⟩
def ydU(K:AE)(x:V)(H:Hp)(k:Bool):Prop:=
 match x with
 |.non=>k=AG
 |.bl b=>k=b
 |.int i=>k=(i != 0)
 |.str y=>y.length<=sizeLine/\k=((y.length:Int) != 0)
 |.byt y=>y.size<=sizeLine/\k=((y.size:Int) != 0)
 |.ref p=>(∃xs,SqL K H p xs/\k=!xs.isEmpty) \/ (∃xs,SqT K H p xs/\k=!xs.isEmpty) \/ ∃kvs,H p=AA (.dK kvs)/\k=!kvs.isEmpty
 |_=>False
def zdb{κ:Type}{kvs:List (κ×V)}{vs:List (κ×AF)}(r:KV kvs vs):(!vs.isEmpty)=!kvs.isEmpty:=by
 cases r<;>rfl
def za0{xs:List V}{its:List AF}(r:Vals xs its):(!its.toArray.isEmpty)=!xs.isEmpty:=by
 cases r<;>simp
def zkV:(sizeLine:Nat)<2^63:=by rw[Bs];decide
def zj5:yfF X (λx H Q=>∃k,ydU X.K x H k/\Q k H):=by
 intro π s σ H x v Q I rx h;let⟨k,e,q⟩:=h;have hl:=zkV;have hs:sizeLine=16777216:=Bs
 cases x with
 |non=>
  cases rx
  have e':k=false:=e;subst e';exact truthy_none ⟨H,I,q⟩
 |bl b=>
  cases rx
  have e':k=b:=e;subst e';exact B1 ⟨H,I,q⟩
 |int i=>
  let⟨t,rfl⟩:=rx;have e':k=(i != 0):=e;subst e';exact PySem.P.truthy_int ⟨H,I,q⟩
 |str y=>
  let⟨t,rfl⟩:=rx;obtain⟨hy,e'⟩:y.length<=sizeLine/\k=((y.length:Int) != 0):=e;subst e';exact PySem.P.truthy_str ∅ ⟨H,I.tok _,q⟩
 |byt y=>
  let⟨t,rfl⟩:=rx;obtain⟨hy,e'⟩:y.size<=sizeLine/\k=((y.size:Int) != 0):=e;subst e';exact PySem.W.truthy_bytes ∅ ⟨H,I.tok _,q⟩
 |ref p=>
  cases rx
  have e':(∃xs,SqL X.K H p xs/\k=!xs.isEmpty) \/ (∃xs,SqT X.K H p xs/\k=!xs.isEmpty) \/ ∃kvs,H p=AA (.dK kvs)/\k=!kvs.isEmpty:=e;rcases e' with⟨xs,hx,e'⟩|⟨xs,hx,e'⟩|⟨kvs,hx,e'⟩
  .subst e';let⟨its,r,pl,hz⟩:=I.list hx;have hlen:=r.length;exact wpAny_truthy_list pl.isList (by erw[AZ];lia) ⟨H,I.tok _,by rw[za0 r];exact q⟩
  .subst e';let⟨its,r,pl,hz⟩:=I.tuple hx;have hlen:=r.length;exact truthy_tuple pl (by erw[AZ];lia) ⟨H,I.tok _,by rw[za0 r];exact q⟩
  .subst e';obtain⟨hz,hS,vs,r,m⟩:kvs.length<=sizeLine/\(p==sysModules)=AG/\∃vs,KV kvs vs/\s.heap.DictOf (yO X.prog X.w) p vs:=I.hok p _ hx;have hlen:kvs.length=vs.length:=C2 r;exact wpAny_truthy_dict hS m ∅ ⟨H,I.tok _,by rw[zdb r];exact q⟩
 |_=>exact(show False from e).elim
def zfN(ha:PE X a ta)(he:∀whole,isTrue a X.env whole=(do let v <-whole;standAt a.pos;holding [v] (truthy v))):
  PT X a (λσ H Q=>ta σ H λx H'=>∃k,ydU X.K x H' k/\Q k H'):=by
 intro π s σ H Q I h;exact isTrue_plain (thn (ha π s σ H _ I h) λv s1 ⟨x,H1,I1,r1,q1⟩=>zj5 π s1 σ H1 x v Q I1 r1 q1) (he _)
def zc4:OpR X (binaryOp .Add) (λx y H Q=>∃i j,x=.str i/\y=.str j/\i.length+j.length<=sizeLine/\Q (.str (i++j)) H):=by
 intro π s σ H x y v u Q I rx ry h;let⟨i,j,rfl,rfl,hz,q⟩:=h;let⟨t,rfl⟩:=rx;let⟨t',rfl⟩:=ry;exact add_str (λt' tk=>⟨.str (i++j),H,I.tok _,⟨_,rfl⟩,q⟩) hz
theorem vals1{x:V}{us:List AF}(r:Vals [x] us):∃u,us=[u]/\RelV x u:=by
 cases r with
 |cons r1 r2=>cases r2;exact⟨_,rfl,r1⟩
theorem vals2{x y:V}{us:List AF}(r:Vals [x,y] us):∃u w',us=[u,w']/\RelV x u/\RelV y w':=by
 cases r with
 |cons r1 r2=>
  cases r2 with
  |cons r3 r4=>cases r4;exact⟨_,_,rfl,r1,r3⟩
def zeS:yQ X (.builtin "abs") (λxs H Q=>∃i,xs=[.int i]/\Q (.int (if i<0 then -i else i)) H):=by
 intro π s σ H xs us Q I r h;let⟨i,rfl,q⟩:=h;let⟨u,rfl,t,rfl⟩:=vals1 r;exact call_abs_int λu tk=>⟨.int (if i<0 then -i else i),H,I.tok _,⟨_,rfl⟩,q⟩
def zbv:yQ X (.type "int") (λxs H Q=>(∃i,xs=[.int i]/\Q (.int i) H) \/ ∃k,xs=[.bl k]/\Q (.int (if k then 1 else 0)) H):=by
 intro π s σ H xs us Q I r h;rcases h with⟨i,rfl,q⟩|⟨k,rfl,q⟩
 .let⟨u,rfl,t,rfl⟩:=vals1 r;exact call_int_int ⟨.int i,H,I,⟨_,rfl⟩,q⟩
 .let⟨u,rfl,r1⟩:=vals1 r
  cases r1
  exact call_int_bool ⟨.int (if k then 1 else 0),H,I.tok _,⟨_,rfl⟩,q⟩
end
structure ycs(h:Aw)(x dx C:AK)(mA:AW->Option AF):Prop where
 obj:h.get? x=AA (CA C dx)
 ns:h.Ns1 dx mA
 ne:dx≠x
def zdU{h:Aw}{dx:AK}{mA:AW->Option AF}(n:h.Ns1 dx mA):∃od,h.get? dx=AA od/\∀name,FY name od=AA (mA name):=by
 let⟨o,es,ep,ho,hd,hk,_,hm⟩:=n;refine⟨o,ho,λname=>?_⟩;have e:=hm name;unfold nsFind findBy at e;rw[<-Array.find?_toList]at e;unfold FY;rw[hd];dsimp only;split
 .rename_i y q;rw[q]at e;exact congrArg AA e
 .rename_i q;rw[q]at e;have a:es.toList.any (·.refKey)=false:=by
   rw[List.any_eq_false];intro y hy;let⟨z,t,hkey⟩:=hk y (Array.mem_toList_iff.mp hy);simp[DictEntry.refKey,hkey]
  have a':¬es.toList.any (·.refKey)=true:=by rw[a];exact AU
  rw[if_neg a'];exact congrArg AA e
theorem ycs.look{h:Aw}{x dx C:AK}{mA:AW->Option AF}(I:ycs h x dx C mA):∃od,PySem.W.InstAt h x (CA C dx) C (AA od)/\∀name,FY name od=AA (mA name):=
 let ⟨od,ho,hl⟩:=zdU I.ns
 ⟨od,⟨I.obj,rfl,rfl,ho⟩,hl⟩
section
variable {prog:A4}{w:Aa}{A:A9}{E:AF->AI->Prop}{s:AI}{K:AE}{x dx C f:AK}{mA:AW->Option AF}{name:AW}{v:AF}
def zhj{expr:Bool}{Q:AF->AI->Prop}(X:K.In s.heap)(I:ycs s.heap x dx C mA)(hg:D2 K C name=AD)(hh:DH K C=AD)
  (ha:Ai K (.ref C) name=AA AC) (hv:mA name=AA v) (hv':G9 v=AD) (h:Q v {s with toks:=s.toks+1}):
  AV (model prog w) A (getAttr (.ref x) name expr) Q E s:=by
 let⟨od,J,hl⟩:=I.look;exact PySem.W.get_value X J (PySem.W.plainGet_of hg).1 (PySem.W.findObj_own hh ha rfl (by rw[hl,hv])) hv' h
def zhO{ns:List AW}{Q:Unit->AI->Prop}(X:K.In s.heap)(I:ycs s.heap x dx C mA)
  (hs:Ai K (.ref C) "__setattr__"=AA (AA (.builtin "object.__setattr__"))) (hp:EU K C=AD) (ht:FH K C name=AA AC) (hh:DH K C=AD)
  (hw:GM mA ns) (hsz:ns.length<=sizeLine)
  (h:∀h',ycs h' x dx C (λy=>if y=name then AA v else mA y)->BW dx s.heap h'->Q () {s with heap:=h',toks:=s.toks+2}):
  AV (model prog w) A (setAttr (.ref x) name v) Q E s:=by
 let⟨od,J,hl⟩:=I.look;refine PySem.W.set_plain X J hs (PySem.W.osa_open (s:={s with toks:=s.toks+1}) (r:=AC) X J hp ht λb=>?_);let⟨cd,hc,hd'⟩:=PySem.W.any_some hh;have hx:s.heap.get? x=AA ⟨.ref C,AA dx,.plain,#[]⟩:=I.obj;refine AB (AJ (AB (AB (wpAny_loadPart hx (AB (II (s:={s with toks:=s.toks+1}) (PySem.W.looks_clsIn X hc) ?_))))));rw[hd'];refine AJ (a:=AA dx) (AB (AJ (AB ?_)));refine wpAny_nsSet1 (s:={s with toks:=s.toks+1}) I.ns λh' hn2 hs2=>?_;let⟨oD,esD,epD,hoD,hdD,hcD⟩:=hn2.count (IM name v hw);refine AB (wpAny_lookBehind hoD (by rw[hdD];exact pastItsLine_dict (BV hcD (by rw[AO];lia))) ?_);exact AJ (h _ ⟨(hs2.2 _ (B0 I.ne)).trans I.obj,hn2,I.ne⟩ hs2)
def zfO{R:GF->AI->Prop}{vs:List AF}{kw:List (AW×AF)}(X:K.In s.heap)(hm:Dg K C=AD)
  (hi:Ai K (.ref C) "__init__"=AA (AA (.ref f))) (hf:PySem.W.typeIn K (.ref f)=AA (.type "function"))
  (h:codeAny (model prog w) (A.under (.builtin "type.__call__" ⟨.ref C::vs,kw⟩)) (.call (.ref f) ⟨.ref (s.heap.objs.size+1)::vs,kw⟩) (PySem.W.InitBack (s.heap.objs.size+1) R)
   {s with heap:=(s.heap.push B3).push (CA C s.heap.objs.size)}):
  codeAny (model prog w) A (.call (.ref C) ⟨vs,kw⟩) R s:=by
 let⟨hh,g,d,t,os⟩:=s;exact PySem.W.make_core (PySem.W.makes_of X hm) (PySem.W.looks_findIn X hi) (λself=>PySem.W.bind_fn X self hf) (.inl rfl) h
end
def yaM(f:AW)(v:V):List (AW×V)->List (AW×V)
 |[]=>[(f,v)]
 |(g,x)::r=>if g=f then(g,v)::r else(g,x)::yaM f v r
def zaD(f g:AW)(v:V):∀fs:List (AW×V),(yaM f v fs).lookup g=if g=f then AA v else fs.lookup g
 |[]=>by
  show C0 g [(f,v)]=_
  by_cases h:g=f
  .have hb:(g==f)=true:=beq_iff_eq.mpr h;erw[C0,hb,if_pos h]
  .have hb:(g==f)=false:=beq_eq_false_iff_ne.mpr h;erw[C0,hb,if_neg h]
 |(k,x)::r=>by
  have ih:=zaD f g v r;rw[show yaM f v ((k,x)::r)=(if k=f then(k,v)::r else(k,x)::yaM f v r)from rfl]
  by_cases hk:k=f
  .rw[if_pos hk]
   by_cases h:g=k
   .have hb:(g==k)=true:=beq_iff_eq.mpr h;erw[C0,hb,if_pos (h.trans hk)]
   .have hb:(g==k)=false:=beq_eq_false_iff_ne.mpr h;erw[C0,hb,if_neg (λe:g=f=>h (e.trans hk.symm))]
  .rw[if_neg hk]
   by_cases h:g=k
   .have hb:(g==k)=true:=beq_iff_eq.mpr h;erw[C0,hb,if_neg (λe:g=f=>hk (h.symm.trans e))]
   .have hb:(g==k)=false:=beq_eq_false_iff_ne.mpr h;erw[C0,hb];exact ih
def zat(f:AW)(v:V):∀fs:List (AW×V),f∈(yaM f v fs).map (·.1)/\∀g,g∈fs.map (·.1)->g∈(yaM f v fs).map (·.1)
 |[]=>⟨by simp[yaM],λg h=>by simp at h⟩
 |(k,x)::r=>by
  let⟨i1,i2⟩:=zat f v r;rw[show yaM f v ((k,x)::r)=(if k=f then(k,v)::r else(k,x)::yaM f v r)from rfl]
  by_cases hk:k=f
  .rw[if_pos hk];subst hk;exact⟨by simp,λg h=>by simpa using h⟩
  .rw[if_neg hk];refine⟨?_,λg h=>?_⟩
   .rw[AM];exact AN _ i1
   .rw[AM]at h ⊢;rcases Ac.mp h with e|e
    .exact Ac.mpr (.inl e)
    .exact AN _ (i2 g e)
def zar(f:AW)(v:V):∀fs:List (AW×V),(yaM f v fs).length<=fs.length+1
 |[]=>by simp[yaM]
 |(k,x)::r=>by
  have ih:=zar f v r;rw[show yaM f v ((k,x)::r)=(if k=f then(k,v)::r else(k,x)::yaM f v r)from rfl]
  by_cases hk:k=f
  .rw[if_pos hk,AO,AO];lia
  .rw[if_neg hk,AO,AO];lia
theorem ybk.some_of{v:V}{o:Option AF}(r:ybk (AA v) o):∃u,o=AA u/\RelV v u:=by
 cases o with
 |none=>exact(show False from r).elim
 |some u=>exact⟨u,rfl,r⟩
def zex{v:V}{u:AF}(r:RelV v u):G9 u=true:=by
 cases v with
 |non=>cases (show u=BB from r);rfl
 |bl b=>cases (show u=C8 b from r);rfl
 |int i=>let⟨t,e⟩:=(show ∃t,u=Ea i t from r);cases e;rfl
 |str x=>let⟨t,e⟩:=(show ∃t,u=G8 x t from r);cases e;rfl
 |byt b=>let⟨t,e⟩:=(show ∃t,u=Hs b t from r);cases e;rfl
 |flt b=>let⟨t,e⟩:=(show ∃t,u=Ht b t from r);cases e;rfl
 |ref a=>cases (show u=Ab a from r);rfl
 |ty n=>cases (show u=Fz n from r);rfl
section
variable {P:A4}{w:Aa}{H H':Hp}{h h':Aw}{a C dx:AK}{fs fs':List (AW×V)}
def zeI(hok:HOk P w H h)(e:H a=AA (.ins C dx fs)):∃mA,ycs h a dx C mA/\(∀f,ybk (fs.lookup f) (mA f))/\GM mA (fs.map (·.1))/\fs.length<=1000/\H dx=AA (.own a):=by
 let⟨d,z,ne,ob,mA,n,r,q⟩:=(show yt P w H h a (.ins C dx fs)from hok a _ e);exact⟨mA,⟨ob,n,ne⟩,r,q,z,d⟩
end
structure Cls(K:AE)(C:AK):Prop where
 pg:D2 K C Ga=AD
 hd:DH K C=AD
 po:EU K C=AD
 sa:Ai K (.ref C) "__setattr__"=AA (AA (.builtin "object.__setattr__"))
theorem Cls.get{K:AE}{C:AK}(c:Cls K C)(f:AW):D2 K C f=true:=c.pg
def yag(K:AE)(C:AK)(f:AW):Prop:=Ai K (.ref C) f=AA AC
theorem yag.taker{K:AE}{C:AK}{f:AW}(n:yag K C f):FH K C f=AA none:=by
 unfold FH;rw[show Ai K (.ref C) f=AA AC from n];rfl
structure Con(K:AE)(C:AK)(f:AW)(v:V)(u:AF):Prop where
 at_:Ai K (.ref C) f=AA (AA u)
 rel:RelV v u
 get:PySem.W.specialIn K u "__get__"=AA AC
 cp:PySem.W.copiedNames.contains f=AG
structure Meth(K:AE)(C:AK)(m:AW)(f:AK):Prop where
 at_:Ai K (.ref C) m=AA (AA (.ref f))
 fn:DI K (.ref f)=AD
 kp:An K (.ref f)=AD
section
variable {X:Cx}{π:List (AK×Bm)}{σ:St}{H:Hp}{s:AI}{a C dx:AK}{fs:List (AW×V)}{f:AW}{v:V}{A:A9}{E:AF->AI->Prop}
def zaV{b:Bool}{Q:AF->AI->Prop}(I:Inv X π σ H s)(e:H a=AA (.ins C dx fs))(c:Cls X.K C)(n:yag X.K C f)(l:fs.lookup f=AA v)
  (h:∀u s',Inv X π σ H s'->RelV v u->Q u s'):AV (model X.prog X.w) A (getAttr (.ref a) f b) Q E s:=by
 let⟨mA,O,r,_,_,_⟩:=zeI I.hok e;let⟨u,hu,ru⟩:=ybk.some_of (v:=v) (o:=mA f) (by rw[<-l];exact r f);exact zhj I.kIn O (c.get f) c.hd n hu (zex ru) (h u _ (I.tok _) ru)
def zaS{y:V}{u:AF}{Q:Unit->AI->Prop}(I:Inv X π σ H s)(e:H a=AA (.ins C dx fs))(c:Cls X.K C)(n:yag X.K C f)(hl:fs.length<1000)(ry:RelV y u)
  (h:∀s',Inv X π σ (upd H a (.ins C dx (yaM f y fs))) s'->Q () s'):AV (model X.prog X.w) A (setAttr (.ref a) f u) Q E s:=by
 let⟨mA,O,r,wi,_,ho⟩:=zeI I.hok e;have hz:(fs.map (·.1)).length<=sizeLine:=by rw[AQ,Bs];lia
 refine zhO I.kIn O c.sa c.po n.taker c.hd wi hz λh' O' sb=>h _ ?_;have hd:∃o,h'.get? dx=AA o:=let ⟨o,_,_,e',_⟩:=O'.ns;⟨o,e'⟩
 refine I.write (x:=a) (e:=dx) (by rw[e];exact CB) (.inr ho) (λb q hb z=>(sb.2 b hb).trans z) hd ?_;refine⟨by rw[za O.ne];exact ho,?_,O.ne,O'.obj,_,O'.ns,λg=>?_,λg hg=>?_⟩
 .have:=zar f y fs;lia
 .show ybk ((yaM f y fs).lookup g) (if g=f then AA u else mA g);rw[zaD]
  by_cases q:g=f
  .rw[if_pos q,if_pos q];exact ry
  .rw[if_neg q,if_neg q];exact r g
 .by_cases q:g=f
  .rw[q];exact(zat f y fs).1
  .refine(zat f y fs).2 g (wi g λz=>hg ?_);show (if g=f then AA u else mA g)=AC;rw[if_neg q];exact z
theorem Inv.made(I:Inv X π σ H s):Inv X π σ (upd (upd H s.heap.objs.size (.own (s.heap.objs.size+1))) (s.heap.objs.size+1) (.ins C s.heap.objs.size []))
  {s with heap:=(s.heap.push B3).push (CA C s.heap.objs.size)}:=by
 have e1:(s.heap.push B3).get? s.heap.objs.size=AA B3:=AT s.heap rfl;have e2:((s.heap.push B3).push (CA C s.heap.objs.size)).get? (s.heap.objs.size+1)=AA (CA C s.heap.objs.size):=by
  have:=AT (s.heap.push B3) (o:=CA C s.heap.objs.size) rfl
  rwa [DJ]at this
 have e3:(s.heap.push B3).Ns s.heap.objs.size (λ_=>AC):=⟨B3,#[],_,e1,rfl,(λe he=>absurd he (by simp)),λ_=>rfl⟩;have I1:=I.laid (a:=s.heap.objs.size) (o:=.own (s.heap.objs.size+1)) (h':=s.heap.push B3) (t':=s.toks) (λb u q=>AL _ q) (AR _) ⟨_,e1⟩;refine I1.laid (a:=s.heap.objs.size+1) (o:=.ins C s.heap.objs.size []) (t':=s.toks) (λb u q=>AL _ q) (GQ (DJ _ _)) ?_;have ne:s.heap.objs.size≠s.heap.objs.size+1:=Al (Gb _);refine⟨by rw[za ne,zb],Bj _,ne,e2,λ_=>AC,(Heap.Ns1.of_empty e3).at λo q=>AL _ q,λ_=>CB,λy hy=>absurd rfl hy⟩
def zhH{prog:A4}{w:Aa}{env:Env}{e:AY}{f:AW}{pos:CG}{s:AI}{Q:AF->AI->Prop}(hb:attributeBase e f env (eval e env)=eval e env)
  (h:AV (model prog w) A (eval e env) (λo s₁=>AV (model prog w) A (getAttr o f AD) Q E s₁) E s):AV (model prog w) A (eval (.Attribute e f pos) env) Q E s:=
 Attribute_any_ h (by rw[arm_eval_Attribute,hb])
end
def yfM(K:AE)(ta:TE)(f:AW):TE:=λσ H Q=>ta σ H λx H1=>∃a C dx fs v,x=.ref a/\H1 a=AA (.ins C dx fs)/\Cls K C/\yag K C f/\fs.lookup f=AA v/\Q v H1
def yfJ(K:AE)(ta tv:TE)(f:AW):TS:=λD σ H=>tv σ H λy H1=>ta σ H1 λx H2=>∃a C dx fs,x=.ref a/\H2 a=AA (.ins C dx fs)/\Cls K C/\yag K C f/\fs.length<1000 /\
 D.nx σ (upd H2 a (.ins C dx (yaM f y fs)))
def yeN(X:Cx)(op:DG)(rd:V->V->Hp->VK->Prop):Prop:=
 ∀(π:List (AK×Bm)) (s:AI) (σ:St) (H:Hp) (x y:V) (u v:AF) (Q:VK),Inv X π σ H s->RelV x u->RelV y v->rd x y H Q->AV (model X.prog X.w) X.A (inplaceOp op u v) (EP X π σ Q) X.xe s
def yci(K:AE)(ta tv:TE)(rd:V->V->Hp->VK->Prop)(f:AW):TS:=λD σ H=>ta σ H λx H1=>∃a C dx fs v,x=.ref a/\H1 a=AA (.ins C dx fs)/\Cls K C/\yag K C f/\fs.lookup f=AA v /\
 tv σ H1 λy H2=>rd v y H2 λz H3=>∃dx' fs',H3 a=AA (.ins C dx' fs')/\fs'.length<1000/\D.nx σ (upd H3 a (.ins C dx' (yaM f z fs')))
section
variable {X:Cx}{o e value:AY}{f:AW}{pos pos' tpos:CG}{ta tv:TE}
def zjh(he:PE X e ta)(hb:attributeBase e f X.env (eval e X.env)=eval e X.env):PE X (.Attribute e f pos) (yfM X.K ta f):=by
 intro π s σ H Q I h;refine zhH hb (thn (he π s σ H _ I h) λu s1 kq=>?_);let⟨x,H1,I1,rx,a,C,dx,fs,v,ex,ea,c,n,l,q⟩:=kq;subst ex;obtain rfl:u=Ab a:=rx;exact zaV I1 ea c n l λu' s2 I2 ru=>⟨v,H1,I2,ru,q⟩
def zi5(ha:PE X o ta)(hv:PE X value tv)(hs:swapsWith value (AA (.Attribute o f pos')) pos.line X.env=pure AG):PS X (.Assign [.Attribute o f pos'] value pos) (yfJ X.K ta tv f):=by
 intro π s σ H D I h;refine plainObj_wpAny_Assign_Attribute (thn (hv π s σ H _ I h) λu s1 kq=>?_) hs;let⟨y,H1,I1,ry,q⟩:=kq;refine thn (ha π s1 σ H1 _ I1 q) λov s2 kq=>?_;let⟨x,H2,I2,rx,a,C,dx,fs,ex,ea,c,n,l,q2⟩:=kq;subst ex;obtain rfl:ov=Ab a:=rx;exact zaS I2 ea c n l ry λs3 I3=>⟨σ,_,I3,q2⟩
def zef{op:DG}{rd:V->V->Hp->VK->Prop}(ha:PE X o ta)(hv:PE X value tv)(hop:yeN X op rd):PS X (.AugAssign (.Attribute o f tpos) op value pos) (yci X.K ta tv rd f):=by
 intro π s σ H D I h;refine wpAny_AugAssign_AttributeAny (thn (ha π s σ H _ I h) λov s1 kq=>?_);let⟨x,H1,I1,rx,a,C,dx,fs,v,ex,ea,c,n,l,q⟩:=kq;subst ex;obtain rfl:ov=Ab a:=rx;refine zaV I1 ea c n l λu s2 I2 ru=>thn (hv π s2 σ H1 _ I2 q) λw3 s3 kq=>?_;let⟨y,H2,I3,ry,q3⟩:=kq;refine thn (hop π s3 σ H2 v y u w3 _ I3 ru ry q3) λw4 s4 kq=>?_;let⟨z,H3,I4,rz,dx',fs',ea',l',q4⟩:=kq;exact zaS I4 ea' c n l' rz λs5 I5=>⟨σ,_,I5,q4⟩
def ye5:V->V->Hp->VK->Prop:=λx y H Q=>∃i j,x=.int i/\y=.int j/\Q (.int (i+j)) H
def ziJ:yeN X .Add ye5:=by
 rintro π s σ H x y u v Q I rx ry ⟨i,j,rfl,rfl,q⟩
 let⟨t,rfl⟩:=(show ∃t,u=Ea i t from rx);let⟨t',rfl⟩:=(show ∃t',v=Ea j t' from ry);exact Gw ⟨.int (i+j),H,I.tok _,⟨_,rfl⟩,q⟩
end
section
variable {X:Cx}{π:List (AK×Bm)}{σ:St}{H:Hp}{s:AI}{A:A9}{E:AF->AI->Prop}{Q:AF->AI->Prop}{c:AF}{b:Bool}
end
structure yav(k:Nat)(A:A9):Prop where
 hd:A.handled=AC
 dp:A.depth+3*k+5<recursionLimit
 un:A.units+16*k+200<cLine
theorem yav.mono{j k:Nat}{A:A9}(r:yav k A)(h:j<=k):yav j A:=⟨r.hd,by have:=r.dp;lia,by have:=r.un;lia⟩
theorem yav.deeper{k:Nat}{A:A9}(r:yav (k+1) A)(env:Env):yav k (A.deeper env):=
 ⟨r.hd,by have:=r.dp;show A.depth+1+3*k+5<_;lia,by have:=r.un;show A.units+3+16*k+200<_;lia⟩
def zc0{A:A9}{C:AK}{us:List AF}{kw:List (AW×AF)}:(A.under (.builtin "type.__call__" ⟨.ref C::us,kw⟩)).depth=A.depth+1:=by
 first|rfl|simp[GR,Code.weight,Code.isCreation,Code.isGuard,Code.isCaller,IA,GS,guardIds]
def zcV{A:A9}{C:AK}{us:List AF}{kw:List (AW×AF)}:(A.under (.builtin "type.__call__" ⟨.ref C::us,kw⟩)).units=A.units+1:=by
 first|rfl|simp[GR,Code.cUnits,IA,GS]
theorem yav.make{k:Nat}{A:A9}(r:yav (k+1) A)(C:AK)(us:List AF)(kw:List (AW×AF)):yav k (A.under (.builtin "type.__call__" ⟨.ref C::us,kw⟩)):=
 ⟨r.hd,by have:=r.dp;rw[zc0];lia,by have:=r.un;rw[zcV];lia⟩
theorem yav.depth{k:Nat}{A:A9}(r:yav k A):A.depth<recursionLimit:=by have:=r.dp;lia
def ycE:TA:=λ_ H Q=>Q [] H
def ya5(ta:TE)(tr:TA):TA:=λσ H Q=>ta σ H λx H1=>tr σ H1 λxs H2=>Q (x::xs) H2
section
variable {X:Cx}{e:AY}{es:List AY}{te:TE}{t:TA}{pos:CG}
def zkU:PA X [] ycE:=λ_ _ _ _ H Q I h=>GT ⟨[],H,I,.nil,h⟩
def zl(ha:PE X e te)(hr:PA X es t)(hs:starEach (e::es) X.env=(AG,eval e X.env)::starEach es X.env:=by rfl):PA X (e::es) (ya5 te t):=by
 intro pos π s σ H Q I h;rw[hs];show AV _ _ (spliced ((AG,eval e X.env)::backTo pos (starEach es X.env))) _ _ s;refine Dy (thn (ha π s σ H _ I h) λu s1 kq=>?_);let⟨x,H1,I1,r1,q1⟩:=kq;exact thn (hr pos π s1 σ H1 _ I1 q1) λus s2 ⟨xs,H2,I2,r2,q2⟩=>⟨x::xs,H2,I2,.cons r1 r2,q2⟩
def yev(t:TA):TE:=λσ H Q=>t σ H λxs H1=>xs.length<=sizeLine/\∀p,H1 p=AC->Q (.ref p) (upd H1 p (.tup xs))
def ygo(t:TA):TE:=λσ H Q=>t σ H λxs H1=>xs.length<=sizeLine/\∀p,H1 p=AC->Q (.ref p) (upd H1 p (.lst xs))
def zf6{x1}(h:PA X es t):PE X (.Tuple es x1 pos) (yev t):=by
 intro π s σ H Q I hq;refine wpAny_Tuple_spliced (thn (h pos π s σ H _ I hq) λus s1 kq=>?_);let⟨xs,H1,I1,r,z,q⟩:=kq;refine ⟨by rw[<-r.length];exact z,?_⟩;have hf:H1 s1.heap.objs.size=none:=I1.hok.fresh (AR _);refine⟨.ref s1.heap.objs.size,upd H1 s1.heap.objs.size (.tup xs),I1.laid (t':=s1.toks) (λb u e=>AL _ e) (AR _) ?_,rfl,q _ hf⟩;exact⟨z,us,r,AT _ rfl⟩
def zgg(h:PA X es t):PE X (.List es pos) (ygo t):=by
 intro π s σ H Q I hq;refine wpAny_List_spliced (thn (h pos π s σ H _ I hq) λus s1 kq=>?_);let⟨xs,H1,I1,r,z,q⟩:=kq;refine ⟨by rw[<-r.length];exact z,?_⟩;have hf:H1 s1.heap.objs.size=none:=I1.hok.fresh (AR _);refine⟨.ref s1.heap.objs.size,upd H1 s1.heap.objs.size (.lst xs),I1.laid (t':=s1.toks) (λb u e=>AL _ e) (AR _) ?_,rfl,q _ hf⟩;exact⟨z,us,0,r,AT _ rfl⟩
end
abbrev Sp:=List V->Hp->VK->XK->Prop
abbrev CXT:=List Env->Hp->AI->XK->AF->AI->Prop
structure ybR(P:A4)(w:Aa)(K:AE)(mg:AW->Option AF)(base:Aw)(A:A9)(outer:List Env)(s:AI)(H:Hp):Prop where
 frames:A.frames=AA outer
 mod:Mod K mg base
 bs:∀b o,base.get? b=AA o->s.heap.get? b=AA o/\H b=AC
 bsz:base.objs.size<=s.heap.objs.size
 funs:s.heap.FunFrames base outer
 frf:∀b∈frs outer,H b=AC
 hok:HOk P w H s.heap
 bare:D8 s.gens
def CE(outer:List Env)(P:A4)(w:Aa)(H:Hp)(s:AI)(Q:VK)(u:AF)(s':AI):Prop:=
 ∃v H',s'.os=s.os/\D8 s'.gens/\Un (frs outer) [] H H' s.heap s'.heap/\HOk P w H' s'.heap/\RelV v u/\Q v H'
def CR(CX:CXT)(outer:List Env)(P:A4)(w:Aa)(H:Hp)(s:AI)(Q:VK)(E:XK)(r:GF)(s':AI):Prop:=
 match r with
 |.ok (.ret u)=>CE outer P w H s Q u s'
 |.ok _=>False
 |.error e=>CX outer H s E e s'
structure yaK(P:A4)(w:Aa)(K:AE)(mg:AW->Option AF)(base:Aw)(CX:CXT)(k:Nat)(f:AK)(fd:Ax)(ps:List AW)(sp:Sp):Prop where
 len:∀vs H Q E,sp vs H Q E->vs.length=ps.length
 run:∀(A:A9) (outer:List Env) (s:AI) (H:Hp) (args:Args) (us:List AF) (vs:List V) (Q:VK) (E:XK),yav k A->ybR P w K mg base A outer s H->Es s fd args (ps.zip us)->Vals vs us->sp vs H Q E ->
  codeAny (model P w) A (.call (.ref f) args) (CR CX outer P w H s Q E) s
theorem yaK.imp{P:A4}{w:Aa}{K:AE}{mg:AW->Option AF}{base:Aw}{CX:CXT}{k:Nat}{f:AK}{fd:Ax}{ps:List AW}{sp sp':Sp}(F:yaK P w K mg base CX k f fd ps sp)
  (h:∀vs H Q E,sp' vs H Q E->sp vs H Q E):yaK P w K mg base CX k f fd ps sp':=
 ⟨λvs H Q E q=>F.len vs H Q E (h _ _ _ _ q),λA outer s H args us vs Q E hr he hb hv hs=>F.run A outer s H args us vs Q E hr he hb hv (h _ _ _ _ hs)⟩
theorem ybR.make{P:A4}{w:Aa}{K:AE}{mg:AW->Option AF}{base:Aw}{A:A9}{outer:List Env}{s:AI}{H:Hp}(e:ybR P w K mg base A outer s H)(C:AK)(us:List AF)(kw:List (AW×AF)):
  ybR P w K mg base (A.under (.builtin "type.__call__" ⟨.ref C::us,kw⟩)) outer s H:=⟨by first|exact e.frames|(simpa [GR,Code.envs,GS,pushEnvs] using e.frames),e.mod,e.bs,e.bsz,e.funs,e.frf,e.hok,e.bare⟩
section
variable {X:Cx}{π:List (AK×Bm)}{σ:St}{H:Hp}{s s':AI}
theorem Inv.env0(I:Inv X π σ H s):ybR X.prog X.w X.K X.mg X.base X.A X.stack s H:=
 ⟨I.ok.frames,I.ok.mod,I.bs,BV I.ok.bsz I.sz,I.stack,I.stkFree,I.hok,I.bare⟩
theorem Inv.after{Q:VK}{u:AF}(I:Inv X π σ H s)(h:CE X.stack X.prog X.w H s Q u s'):EP X π σ Q u s':=by
 let⟨v,H',os,bare,un,hok,r,q⟩:=h;let⟨hh,g,d,t,os'⟩:=s';obtain rfl:os'=s.os:=os;exact⟨v,H',I.call (h':=hh) (g':=g) (d':=d) (t':=t) (ch:=[]) un hok bare (λb z=>absurd z (by simp)),r,q⟩
end
def ydQ(C:AK)(sp:Sp)(dvs:List V)(E:XK)(t:TA):TE:=λσ H Q=>t σ H λvs H1=>∀x dx,H1 x=AC->H1 dx=AC->dx≠x ->
 sp (.ref x::(vs++dvs)) (upd (upd H1 dx (.own x)) x (.ins C dx [])) (λv H2=>v=.non/\Q (.ref x) H2) E
def Binds(K:AE)(fd:Ax)(ps:List AW)(ds:List AF):Prop:=
 ∀(s:AI) (us:List AF),K.In s.heap->(us++ds).length=ps.length->Es s fd ⟨us,[]⟩ (ps.zip (us++ds))
theorem Binds.all{K:AE}{fd:Ax}{ps:List AW}(h:∀us:List AF,us.length=ps.length->bindArgs fd ⟨us,[]⟩=pure (ps.zip us)):Binds K fd ps []:=λs us _ hl=>by
 rw[Cd]at hl ⊢;exact .of_eq (h us hl)
def ybe(CX:CXT)(X:Cx)(E:XK):Prop:=∀(π:List (AK×Bm)) (σ:St) (H:Hp) (s:AI) (e:AF) (s':AI),Inv X π σ H s->CX X.stack H s E e s'->X.xe e s'
section
variable {X:Cx}{CX:CXT}{k:Nat}{f C:AK}{fd:Ax}{ps:List AW}{sp:Sp}{dvs:List V}{ds:List AF}{E:XK}{x m:AW}{p pos apos:CG}{e o:AY}{es:List AY}{ta:TE}{t:TA}
structure Mk(K:AE)(C f:AK):Prop where
 makes:Dg K C=AD
 init:Ai K (.ref C) "__init__"=AA (AA (.ref f))
 fn:DI K (.ref f)=AD
 kp:An K (.ref C)=AD
def zfz{π:List (AK×Bm)}{σ:St}{H:Hp}{s:AI}{Q:VK}{us:List AF}{vs:List V}(M:Mk X.K C f)(F:yaK X.prog X.w X.K X.mg X.base CX k f fd ps sp)(hr:yav (k+1) X.A)(hb:Binds X.K fd ps ds)(hd:Vals dvs ds)
  (hx:ybe CX X E) (I:Inv X π σ H s) (r:Vals vs us)
  (h:∀x dx,H x=AC->H dx=AC->dx≠x->sp (.ref x::(vs++dvs)) (upd (upd H dx (.own x)) x (.ins C dx [])) (λv H2=>v=.non/\Q (.ref x) H2) E):
  AV (model X.prog X.w) X.A (call (.ref C) us) (EP X π σ Q) X.xe s:=by
 have hq:=h (s.heap.objs.size+1) s.heap.objs.size (I.hok.fresh (EV _)) (I.hok.fresh (AR _)) (Al (Gb _));have I2:=Inv.made (C:=C) I;have r2:Vals (V.ref (s.heap.objs.size+1)::(vs++dvs)) (Ab (s.heap.objs.size+1)::(us++ds)):=.cons rfl (r.append hd);have hl:(Ab (s.heap.objs.size+1)::us++ds).length=ps.length:=by
  have e:=r2.length;rw[F.len _ _ _ _ hq]at e;exact e.symm
 refine HD (zfO (f:=f) I.kIn M.makes M.init (beq_iff_eq.mp M.fn) (Dp (F.run _ X.stack _ _ ⟨Ab (s.heap.objs.size+1)::us,[]⟩ (Ab (s.heap.objs.size+1)::(us++ds)) _ _ E (hr.make C us [])
  (I2.env0.make C us []) (hb _ (Ab (s.heap.objs.size+1)::us) I2.kIn hl) r2 hq) λr s' hq'=>?_))
 cases r with
 |error e=>exact hx π σ _ _ e s' I2 hq'
 |ok fl=>
  cases fl with
  |ret u=>
   let⟨v,H',I3,rv,ev,q3⟩:=I2.after hq';subst ev;exact⟨rv,⟨V.ref (s.heap.objs.size+1),H',I3,rfl,q3⟩⟩
  |next=>exact BZ hq'
  |brk=>exact BZ hq'
  |cont=>exact BZ hq'
def zgY(M:Mk X.K C f)(F:yaK X.prog X.w X.K X.mg X.base CX k f fd ps sp)(hr:yav (k+1) X.A)(hg:Gl X x)(hm:X.mg x=AA (.ref C))(hb:Binds X.K fd ps ds)(hd:Vals dvs ds)(hx:ybe CX X E)
  (ha:PA X (e::es) t) (hdb:(x==("__debug__":AW))=false:=by decide) (he:starEach (e::es) X.env=(AG,eval e X.env)::starEach es X.env:=by rfl) (hpl:(backTo pos (starEach es X.env)).any (·.1)=false:=by rfl):
  PE X (.Call (.Name x p) (e::es) [] pos) (ydQ C sp dvs E t):=by
 intro π s σ H Q I h;refine Bp (zan I hg hm ?_ hdb);refine GG (h₀:=X.base) I.ok.mod.kin M.kp (thn (ha pos π s σ H _ I h) λus s1 kq=>?_) he hpl;let⟨vs,H1,I1,r,q⟩:=kq;refine ⟨I1.kIn,?_⟩;exact zfz M F hr hb hd hx I1 r q
end
def PK(X:Cx)(kws:List C9)(t:TA):Prop:=
 ∀(pos:CG) (π:List (AK×Bm)) (s:AI) (σ:St) (H:Hp) (Q:List V->Hp->Prop),Inv X π σ H s->t σ H Q->AV (model X.prog X.w) X.A (evalAll ((backToKw pos (keywordEach kws X.env)).map (·.2))) (AP X π σ Q) X.xe s
section
variable {X:Cx}{CX:CXT}{k:Nat}{f C:AK}{fd:Ax}{ps ks:List AW}{sp:Sp}{E:XK}{x m:AW}{p pos apos kpos:CG}{e o:AY}{es:List AY}{kws:List C9}{te ta:TE}{t tk:TA}{nm:Option AW}
def zlk:PK X [] ycE:=λ_ _ _ _ H Q I h=>wpAny_evalAll_nil ⟨[],H,I,.nil,h⟩
def zg2(ha:PE X e te)(hr:PK X kws t):PK X (⟨nm,e,kpos⟩ :: kws) (ya5 te t):=by
 intro pos π s σ H Q I h;show AV _ _ (evalAll ((do let v <-eval e X.env;standAt pos;pure v)::(backToKw pos (keywordEach kws X.env)).map (·.2))) _ _ s;refine wpAny_evalAll_cons (AB (thn (ha π s σ H _ I h) λu s1 kq=>?_));let⟨x,H1,I1,r1,q1⟩:=kq;refine AB (D9 (AJ ?_));exact thn (hr pos π s1 σ H1 _ I1 q1) λus s2 ⟨xs,H2,I2,r2,q2⟩=>⟨x::xs,H2,I2,.cons r1 r2,q2⟩
structure ybC(K:AE)(fd:Ax)(ps ks:List AW)(g:List AF->List AF->List AF)(gV:List V->List V->List V):Prop where
 to:∀(s:AI) (us ws:List AF),K.In s.heap->(g us ws).length=ps.length->Es s fd ⟨us,ks.zip ws⟩ (ps.zip (g us ws))
 rel:∀{vs:List V} {us:List AF} {zs:List V} {ws:List AF},Vals vs us->Vals zs ws->Vals (gV vs zs) (g us ws)
variable {g:List AF->List AF->List AF}{gV:List V->List V->List V}
end
structure yaw(N P:List AW)(sc:BR):Prop where
 kind:sc.kind=.function
 co:sc.isCoroutine=AG
 gen:sc.isGenerator=AG
 nd:N.Nodup
 pre:N.take P.length=P
 par:∀x∈P,sc.names.lookup x=AA .local \/ sc.names.lookup x=AA .cell
 nofree:∀y∈sc.names,y.2 ≠ .free
def zbu{kindOf:AW->Option DL}{x:AW}:∀{binds:List (AW×AF)} {m:AW->Option AF},(∀v,(x,v)∉binds)->bindL kindOf binds m x=m x
 |[],_,_=>rfl
 |(n,v)::r,m,h=>by
  unfold bindL;rw[zbu λw hw=>h w (AN _ hw)];split
  .have:x≠n:=by rintro rfl;exact h v A0
   simp[this]
  .rfl
def zbH{kindOf:AW->Option DL}{x:AW}:∀{binds:List (AW×AF)} {m:AW->Option AF},(∀v,(x,v)∉binds)->bindC kindOf binds m x=m x
 |[],_,_=>rfl
 |(n,v)::r,m,h=>by
  unfold bindC;rw[zbH λw hw=>h w (AN _ hw)];split
  .rfl
  .have:x≠n:=by rintro rfl;exact h v A0
   simp[this]
def zbs{kindOf:AW->Option DL}{x:AW}{v:AF}:∀{P:List AW} {vs:List AF} {i:Nat} {m:AW->Option AF},P.Nodup->P[i]?=AA x->vs[i]?=AA v->kindOf x=AA .local ->
  bindL kindOf (P.zip vs) m x=AA v
 |[],_,_,_,_,h,_,_=>by simp at h
 |_::_,[],_,_,_,_,h,_=>by simp at h
 |p::P,w::vs,0,m,nd,h1,h2,hk=>by
  simp at h1 h2;subst h1;subst h2;show bindL kindOf ((p,w)::P.zip vs) m p=_;unfold bindL;rw[zbu λv hv=>(Dh.mp nd).1 (Di hv).1,if_pos hk];simp
 |p::P,w::vs,i+1,m,nd,h1,h2,hk=>by
  show bindL kindOf ((p,w)::P.zip vs) m x=_;unfold bindL;exact zbs (i:=i) (Dh.mp nd).2 (by simpa using h1) (by simpa using h2) hk
def zbR{kindOf:AW->Option DL}{x:AW}{v:AF}:∀{P:List AW} {vs:List AF} {i:Nat} {m:AW->Option AF},P.Nodup->P[i]?=AA x->vs[i]?=AA v->kindOf x≠AA .local ->
  bindC kindOf (P.zip vs) m x=AA v
 |[],_,_,_,_,h,_,_=>by simp at h
 |_::_,[],_,_,_,_,h,_=>by simp at h
 |p::P,w::vs,0,m,nd,h1,h2,hk=>by
  simp at h1 h2;subst h1;subst h2;show bindC kindOf ((p,w)::P.zip vs) m p=_;unfold bindC;rw[zbH λv hv=>(Dh.mp nd).1 (Di hv).1,if_neg hk];simp
 |p::P,w::vs,i+1,m,nd,h1,h2,hk=>by
  show bindC kindOf ((p,w)::P.zip vs) m x=_;unfold bindC;exact zbR (i:=i) (Dh.mp nd).2 (by simpa using h1) (by simpa using h2) hk
def start(N:List AW)(vs:List V):St:=vs.map AA++Ay (N.length-vs.length) AC
def yaB(CX:CXT)(P:A4)(w:Aa)(K:AE)(mg:AW->Option AF)(base:Aw)(N:List AW)(qual:AW)(scope:BR)(f:AK)(cd:AF)(A:A9)(outer:List Env)(s:AI)(H:Hp)(E:XK):Cx where
 prog:=P
 w:=w
 K:=K
 mg:=mg
 base:=base
 A:=A.deeper (envOfC qual scope s.heap.objs.size f cd)
 N:=N
 s₀:=s
 H₀:=H
 env:=envOfC qual scope s.heap.objs.size f cd
 outer:=outer
 stack:=envOfC qual scope s.heap.objs.size f cd::outer
 ex:=[]
 calm:=AD
 fn:=λ_=>AD
 pn:=[]
 xe:=λe s'=>AV (model P w) (A.deeper (envOfC qual scope s.heap.objs.size f cd)) («leaving» (envOfC qual scope s.heap.objs.size f cd) e) (λ_ s''=>CX outer H s E e s'') (λe' s''=>CX outer H s E e' s'') s'
def zcL{sc:BR}{n:Nat}{x:AW}(h:sc.names.lookup x=AA .cell):∃c,(cellsFrom n sc.names []).lookup x=AA c:=by
 have q:=DM sc.names n [] (.inl h);exact Af.mp q
def zbr{CX:CXT}{P:A4}{w:Aa}{K:AE}{mg:AW->Option AF}{base:Aw}{N ps:List AW}{qual:AW}{scope:BR}{f:AK}{cd:AF}{A:A9}{outer:List Env}{s s1:AI}{H:Hp}{E:XK}{us:List AF}{vs:List V}
  (S:yaw N ps scope) (hd:A.handled=AC) (e0:ybR P w K mg base A outer s H) (hl:vs.length=ps.length) (r:Vals vs us)
  (x:InCallC s s.heap.objs.size (bindL (envOfC qual scope s.heap.objs.size f cd).kindOf (ps.zip us) λ_=>AC) (cellsFrom (s.heap.objs.size+1) scope.names []) (bindC (envOfC qual scope s.heap.objs.size f cd).kindOf (ps.zip us) λ_=>AC) s1):
  Inv (yaB CX P w K mg base N qual scope f cd A outer s H E) [] (start N vs) H s1:=by
 have hpl:ps.length<=N.length:=by have:=congrArg Bk S.pre;rw[BX]at this;lia
 let⟨h1,tk,rfl,hk⟩:=x.done;have noA:∀b:AK,b∉(yaB CX P w K mg base N qual scope f cd A outer s H E).ex:=λb z=>absurd (show b∈([]:List AK)from z) (by simp);refine⟨⟨e0.mod,S.kind,rfl,rfl,AR _,λy z c h1 h2=>?_,λy hy=>?_,λy c _ h=>?_,λ_=>hd,Around.frames_deeper e0.frames,.inr ⟨rfl,rfl⟩,λb z=>absurd z (noA b),e0.bs,e0.bsz,λb _ _=>noA b,λb z=>absurd z (noA b),e0.funs,e0.frf⟩,
  rfl,e0.bare,Un.kept hk,⟨_,x.toInCall.ns,λi y v h1 h2 h3=>?_⟩,λy c h=>⟨_,x.cell y c h⟩,e0.hok.fresh (AR _),λy c h=>?_,λp hp=>absurd (show p∈([]:List (AK×Bm))from hp) (by simp),e0.hok.kept hk,?_⟩
 .exact name_of_addr x.apart (C5 h1) (C5 h2)
 .have hy:scope.names.lookup y=AA .cell \/ scope.names.lookup y=AA .free:=hy;rcases hy with hy|hy
  .exact zcL hy
  .exact absurd rfl (S.nofree _ (C5 hy))
 .exact GN (x.above y c (C5 h))
 .have hi:i<vs.length:=by
   unfold start at h2
   by_cases hi:i<vs.length
   .exact hi
   .rw[Ao (by simpa using hi)]at h2;rw[Eg]at h2;split at h2<;>cases h2
  have ha:vs[i]?=AA v:=by
   unfold start at h2;rw[Ae (by simpa using hi),BJ]at h2
   cases e:vs[i]? with
   |none=>rw[e]at h2;cases h2
   |some a=>rw[e]at h2;cases h2;rfl
  let⟨u,hu,rv⟩:=r.get ha;have hp:ps[i]?=AA y:=by
   rw[<-S.pre,List.getElem?_take_of_lt ∅];exact h1
  have ndP:ps.Nodup:=by rw[<-S.pre];exact S.nd.sublist (List.take_sublist _ _)
  refine⟨u,rv,?_⟩;rcases S.par y (A5 hp)with k|k
  .exact .inl ⟨k,zbs ndP hp hu k⟩
  .let⟨c,e⟩:=zcL (n:=s.heap.objs.size+1) k;refine .inr ⟨.inl k,c,e,?_⟩;have q:=x.cell y c e;rw[zbR ndP hp hu (by show scope.names.lookup y≠_;rw[k];decide)]at q;exact q
 .exact e0.hok.fresh (GN (x.above y c (C5 h)))
 .unfold start;show _=N.length;rw[Aj,AQ,List.length_replicate];lia
def zkt{CX:CXT}{P:A4}{w:Aa}{K:AE}{mg:AW->Option AF}{base:Aw}{k:Nat}{f:AK}{name qual:AW}{params:Arguments}{body:List Bo}{scope:BR}{dV kV doc pm cdv ct oc:AF}{an od:Option AK}
  {osl:Array (Option AF)} {N ps:List AW} {sp:Sp} (lk:K.lookup f=AA ⟨oc,od,.func (Bg name qual params body scope dV kV doc pm an cdv ct),osl⟩) (hcd:CN K cdv qual=AD) (S:yaw N ps scope)
  (len:∀vs H Q E,sp vs H Q E->vs.length=ps.length)
  (hbody:∀(A:A9) (outer:List Env) (s:AI) (H:Hp) (vs:List V) (Q:VK) (E:XK),yav k (A.deeper (envOfC qual scope s.heap.objs.size f cdv))->sp vs H Q E ->
   ∃t,PSs (yaB CX P w K mg base N qual scope f cdv A outer s H E) body t/\t {nx:=λ_ H'=>Q .non H',rt:=Q} (start N vs) H):
  yaK P w K mg base CX (k+1) f (Bg name qual params body scope dV kV doc pm an cdv ct) ps sp:=by
 refine⟨len,λA outer s H args us vs Q E hr e0 hb r hsp=>?_⟩;have hl:=len _ _ _ _ hsp;have KX:K.In s.heap:=e0.mod.kin.keeps λb o e=>(e0.bs b o e).1;have lim:s.heap.NoLimit:=e0.mod.nolimit.keeps λb o e=>(e0.bs b o e).1;have hkind:∀y∈ps.zip us,scope.names.lookup y.1=AA .local \/ (scope.names.lookup y.1=AA .cell/\((cellsFrom (s.heap.objs.size+1) scope.names []).lookup y.1).isSome=AD):=λ⟨n,v⟩ hy=>by
  rcases S.par n (Di hy).1 with q|q
  .exact .inl q
  .exact .inr ⟨q,DM _ _ _ (.inl q)⟩
 refine FM hr.depth (KX _ _ lk) rfl S.co S.gen rfl (GH KX hcd) (hb _ _ _ _ ?_);refine Dz S.kind hkind λenv he s1 x=>?_;subst he;refine⟨lim.keeps x.toInCall.keep,codeAny_func ?_⟩;let⟨t,ht,hq⟩:=hbody A outer s H vs Q E (hr.deeper _) hsp;have I:Inv (yaB CX P w K mg base N qual scope f cdv A outer s H E) [] (start N vs) H s1:=zbr S hr.hd e0 hl r x;refine Cm (ht [] s1 (start N vs) H _ I hq) (λfl s' hs=>?_) λe s' hs=>hs;have fin:∀{σ':St} {H':Hp} {v:V} {u:AF},Inv (yaB CX P w K mg base N qual scope f cdv A outer s H E) [] σ' H' s'->RelV v u->Q v H'->CE outer P w H s Q u s':=
  λ{σ' H' v u} J rv q=>⟨v,H',J.os,J.bare,J.base,J.hok,rv,q⟩
 cases fl with
 |ret u=>
  let⟨v,σ',H',J,rv,q⟩:=hs;exact fin J rv q
 |next=>
  let⟨σ',H',J,q⟩:=hs;exact fin (v:=V.non) (u:=BB) J rfl q
 |brk=>
  let⟨_,_,_,q⟩:=hs;exact BZ q
 |cont=>
  let⟨_,_,_,q⟩:=hs;exact BZ q
section
variable {X:Cx}{x:AW}{p pos:CG}{e:AY}{es:List AY}{t:TA}{id T:String}{r:List V->Hp->VK->Prop}
def tCB(r:List V->Hp->VK->Prop)(t:TA):TE:=λσ H Q=>t σ H λvs H1=>r vs H1 Q
def zbn(hc:yQ X (.builtin id) r)(hg:Gl X x)(hm:X.mg x=AC)(hv:bootBuiltins x=AA (.builtin id))(ha:PA X (e::es) t)(hn:x ≠ "__name__":=by decide)(hdb:(x==("__debug__":AW))=false:=by decide)
  (he:starEach (e::es) X.env=(AG,eval e X.env)::starEach es X.env:=by rfl) (hpl:(backTo pos (starEach es X.env)).any (·.1)=false:=by rfl):PE X (.Call (.Name x p) (e::es) [] pos) (tCB r t):=by
 intro π s σ H Q I h;refine Bp (zaA I hg hm hv ?_ hn hdb);exact Gc (thn (ha pos π s σ H _ I h) λus s1 ⟨vs,H1,I1,r1,q1⟩=>hc π s1 σ H1 vs us Q I1 r1 q1) he hpl
def zaC(hc:yQ X (.type T) r)(hg:Gl X x)(hm:X.mg x=AC)(hv:bootBuiltins x=AA (.type T))(ha:PA X (e::es) t)(hn:x ≠ "__name__":=by decide)(hdb:(x==("__debug__":AW))=false:=by decide)
  (he:starEach (e::es) X.env=(AG,eval e X.env)::starEach es X.env:=by rfl) (hpl:(backTo pos (starEach es X.env)).any (·.1)=false:=by rfl):PE X (.Call (.Name x p) (e::es) [] pos) (tCB r t):=by
 intro π s σ H Q I h;refine Bp (zaA I hg hm hv ?_ hn hdb);exact Bc (thn (ha pos π s σ H _ I h) λus s1 ⟨vs,H1,I1,r1,q1⟩=>hc π s1 σ H1 vs us Q I1 r1 q1) he hpl
end
end L2
namespace HT
open PySem PyProof.Rows
section
open PySem.SeqAt
open PySem.AutoSeq1 (wpAny_loadPart')
open PySem.MeetsSeq PySem.MeetsSeq2 PySem.MeetsSeq3
end
section
variable {prog:A4}{w:Aa}{A:A9}{E:AF->AI->Prop}{s:AI}
theorem cat_tup{t b:AK}{vs ws:List AF}{Q:AF->AI->Prop}(ht:Hw s.heap t vs.toArray)(hb:Hw s.heap b ws.toArray)(hv:vs≠[])
  (h1:ws=[]->Q (.ref t) s) (h2:ws≠[]->Q (.ref s.heap.objs.size) {s with heap:=s.heap.push {cls:=.type "tuple",data:=.seq (vs++ws).toArray} })
  (hsz:vs.length+ws.length<=sizeLine):AV (model prog w) A (binaryOp .Add (.ref t) (.ref b)) Q E s:=by
 let⟨⟨cls,dd,data,sl⟩,ho,hc,n,hd⟩:=id ht;let⟨⟨cls2,dd2,data2,sl2⟩,ho2,hc2,n2,hd2⟩:=id hb;simp only at hc hd hc2 hd2;subst hc hd hc2 hd2;have e:vs.toArray++ws.toArray=(vs++ws).toArray:=by simp
 by_cases hw:ws=[]
 .exact GU ⟨_,ho,rfl⟩ ⟨_,ho2,rfl⟩ Eh Fk DN DE (Cw _ _)
   (tuple_addW1 t b vs.toArray ws.toArray n n2 dd dd2 sl sl2 (by simpa using hv) (by simp[hw])) ⟨ho,ho2,h1 hw⟩
 .refine GU ⟨_,ho,rfl⟩ ⟨_,ho2,rfl⟩ Eh Fk DN DE (Cw _ _)
   (tuple_addW2 t b vs.toArray ws.toArray n n2 dd dd2 sl sl2 (by simpa using hv) (by simpa using hw) (by rw[AZ,AZ];exact hsz)) ⟨ho,ho2,?_⟩
  rw[e];exact h2 hw
def sIx(n d:Nat):Option Int->Nat
 |none=>d
 |some v=>if v<0 then(v+(n:Int)).toNat else min v.toNat n
theorem sIx_le(n d:Nat)(hd:d<=n)(o:Option Int):sIx n d o<=n:=by
 cases o with
 |none=>exact hd
 |some v=>
  show (if v<0 then(v+(n:Int)).toNat else min v.toNat n)<=n
  by_cases hv:v<0
  .rw[if_pos hv];lia
  .rw[if_neg hv];exact Nat.min_le_right _ _
def zdy(v:Int)(n d:Nat):(if v<0 then max (v+(n:Int)) 0 else min v (n:Int))=((sIx n d (AA v):Nat):Int):=by
 show (if v<0 then max (v+(n:Int)) 0 else min v (n:Int))=(((if v<0 then(v+(n:Int)).toNat else min v.toNat n):Nat):Int)
 by_cases hv:v<0
 .simp only[if_pos hv];lia
 .simp only[if_neg hv];lia
def zc7(lo hi:Option Int)(n:Nat):Cr lo hi 1 (n:Int)=(((sIx n 0 lo:Nat):Int),((sIx n n hi:Nat):Int)):=by
 have h1:¬((1:Int)<0):=by lia
 unfold Cr;erw[h1,if_false];refine Prod.ext ?_ ?_
 .cases lo with
  |none=>rfl
  |some v=>exact zdy v n 0
 .cases hi with
  |none=>rfl
  |some v=>exact zdy v n n
def zc1(i j:Nat):BK (i:Int) (j:Int) 1=j-i:=by
 unfold BK;have h1:(1:Int) > 0:=by lia
 erw[h1,if_true,Et];split<;>lia
def zaO{v:AF}{o:Option Int}{Q:Option Int->AI->Prop}(p:Eu v o)(h:Q o s):AV (model prog w) A (Gq v) Q E s:=by
 cases p with
 |none=>exact EA h
 |int i t=>exact slicePart_int h
theorem sliceApplied_gen{sl:AK}{vl vu:AF}{lo hi:Option Int}{n:Nat}{Q:Int×Int×Nat->AI->Prop}(hs:s.heap.IsSliceOf sl vl vu .none)(pl:Eu vl lo)(pu:Eu vu hi)
  (h:Q (((sIx n 0 lo:Nat):Int),1,sIx n n hi-sIx n 0 lo) s):AV (model prog w) A (CO (.ref sl) (pure (n:Int))) Q E s:=by
 let⟨os,hos,hcs,hds⟩:=id hs;unfold CO EN;refine AB (AB (BS hos hds (x:=vl) rfl (AB (BS hos hds (x:=vu) rfl (AB (BS hos hds (x:=.none) rfl (AJ ?_)))))));refine AB (EA ?_);show AV _ _ (if ((1:Int)==0)=AD then _ else _) _ _ s;rw[if_neg ⋯];refine AB (zaO pl (AB (zaO pu (AB (AJ ?_)))));show AV _ _ (match Cr lo hi 1 (n:Int)with|(lo,hi)=>pure (lo,(1:Int),BK lo hi 1)) _ _ s;rw[zc7 lo hi n];show AV _ _ (pure (((sIx n 0 lo:Nat):Int),(1:Int),BK ((sIx n 0 lo:Nat):Int) ((sIx n n hi:Nat):Int) 1)) _ _ s;rw[zc1];exact AJ h
def zfS(xs:Array AF)(i k:Nat):((D1 k).filterMap λ(m:Nat)=>xs[((i:Int)+(m:Int)*1).toNat]?).toArray=((xs.toList.drop i).take k).toArray:=by
 have e:(λ(m:Nat)=>xs[((i:Int)+(m:Int)*1).toNat]?)=λm=>xs[i+m]?:=by
  funext m
  have:((i:Int)+(m:Int)*1).toNat=i+m:=by lia
  rw[this]
 rw[e];have:=pick_run xs i k;rw[List.filterMap_map]at this;have e2:((λx=>xs[x]?) ∘ λx=>i+x)=λm=>xs[i+m]?:=rfl;rw[e2]at this;rw[this]
theorem getItem_tuple_cut{t sl:AK}{items:Array AF}{vl vu:AF}{lo hi:Option Int}{Q:AF->AI->Prop}(ht:Hw s.heap t items)(hs:s.heap.IsSliceOf sl vl vu .none)(pl:Eu vl lo)(pu:Eu vu hi)
  (hw:¬(sIx items.size 0 lo=0/\sIx items.size items.size hi=items.size))
  (h:Q (.ref s.heap.objs.size) {s with heap:=s.heap.push {cls:=.type "tuple",data:=.seq ((items.toList.drop (sIx items.size 0 lo)).take (sIx items.size items.size hi-sIx items.size 0 lo)).toArray} })
  (hsz:items.size<=sizeLine):AV (model prog w) A (getItem (.ref t) (.ref sl)) Q E s:=by
 have htake:sizeOk (.seq ((items.toList.drop (sIx items.size 0 lo)).take (sIx items.size items.size hi-sIx items.size 0 lo)).toArray):=by
  show ((items.toList.drop (sIx items.size 0 lo)).take (sIx items.size items.size hi-sIx items.size 0 lo)).toArray.size<=sizeLine;rw[AZ,BX,B9,Cu];lia
 have hj:sIx items.size items.size hi<=items.size:=sIx_le _ _ (AR _) hi;let⟨os,hos,hcs,hds⟩:=id hs;have hTs:s.TypeIs (.ref sl) "slice":=⟨os,hos,hcs⟩;unfold getItem
 try with_reducible refine Bd ?_
 first|refine AB (AJ ?_)|skip
 refine AB (EW ht.typeIs ⋯ ?_);refine AB (As (name:=AS "__getitem__") ht.typeIs Ah
  (BC Ah ht.typeIs Dm ?_ (EB _ _)))
 show AV _ _ (CK (.ref t) >>= _) _ _ s;refine AB (EO ht ?_);refine AB (DO hTs ?_);rw[if_pos ⋯];refine AB (sliceApplied_gen hs pl pu ?_);have hno:¬((((sIx items.size 0 lo:Nat):Int)==0&&(1:Int)==1&&(sIx items.size items.size hi-sIx items.size 0 lo)==items.size)=AD):=by
  intro q;rw[AH,AH]at q;have q1:((sIx items.size 0 lo:Nat):Int)=0:=eq_of_beq q.1.1;have q2:sIx items.size items.size hi-sIx items.size 0 lo=items.size:=eq_of_beq q.2;exact hw ⟨by lia,by lia⟩
 show AV _ _ (if (((sIx items.size 0 lo:Nat):Int)==0&&(1:Int)==1&&(sIx items.size items.size hi-sIx items.size 0 lo)==items.size)=AD then _ else _) _ _ s;rw[if_neg hno,zfS]
 first
  |exact AB (m:=BF _) (Ag (AJ ⟨_,rfl,AJ h⟩) htake)
  |exact AB (m:=BF _) (Ag (AB (AJ (AJ ⟨_,rfl,AJ h⟩))) htake)
  |exact AB (AB (m:=BF _) (Ag (AJ (AJ ⟨_,rfl,AJ h⟩)) htake))
  |exact AB (AB (m:=BF _) (Ag (AJ ⟨_,rfl,AJ h⟩) htake))
end
end HT
namespace L2
open PySem PySem.Spec PyProof.Rows
abbrev TO:=St->Hp->(Option Int->Hp->Prop)->Prop
def PO(X:Cx)(e:Option AY)(t:TO):Prop:=
 ∀(π:List (AK×Bm)) (s:AI) (σ:St) (H:Hp) (Q:Option Int->Hp->Prop),Inv X π σ H s->t σ H Q ->
  AV (model X.prog X.w) X.A (evalPart e X.env) (λu s'=>∃o H',Inv X π σ H' s'/\Eu u o/\Q o H') X.xe s
def yce:TO:=λ_ H Q=>Q AC H
def zc2{ns:List Int}:∀{us:List AF},Vals (ns.map V.int) us->Ff us ns:=by
 induction ns with
 |nil=>intro us r;rw[BA]at r;cases r;exact .nil
 |cons n ns ih=>
  intro us r;rw[AM]at r
  cases r with
  |cons r1 r2=>
   let⟨t,e⟩:=r1;subst e;exact .cons n t (ih r2)
section
variable {X:Cx}{e:AY}{te:TE}{lo hi:Option AY}{tl th:TO}{pos p2:CG}
def zgV:PO X AC yce:=by
 intro π s σ H Q I h;rw[Fm];exact AJ ⟨AC,H,I,.none,h⟩
def SlR(X:Cx)(r:V->Option Int->Option Int->Hp->VK->Prop):Prop:=
 ∀(π:List (AK×Bm)) (s:AI) (σ:St) (H:Hp) (x:V) (v vl vu:AF) (lo hi:Option Int) (sl:AK) (Q:VK),Inv X π σ H s->RelV x v->s.heap.IsSliceOf sl vl vu .none->Eu vl lo->Eu vu hi->r x lo hi H Q ->
  ∃T id,typeLookup (.type T) "__getitem__"=pure (AA (.builtin id))/\s.TypeIs v T/\AV (model X.prog X.w) X.A (getItem v (.ref sl)) (EP X π σ Q) X.xe s
def tSl(r:V->Option Int->Option Int->Hp->VK->Prop)(te:TE)(tl th:TO):TE:=λσ H Q=>te σ H λx H1=>tl σ H1 λl H2=>th σ H2 λu H3=>r x l u H3 Q
def zfd{r:V->Option Int->Option Int->Hp->VK->Prop}(hr:SlR X r)(he:PE X e te)(hl:PO X lo tl)(hu:PO X hi th):PE X (.Subscript e (.Slice lo hi AC p2) pos) (tSl r te tl th):=by
 intro π s σ H Q I h;refine HE (thn (he π s σ H _ I h) λv s1 kq=>?_);let⟨x,H1,I1,r1,q1⟩:=kq;refine wpAny_Slice (thn (hl π s1 σ H1 _ I1 q1) λvl s2 kq=>?_);let⟨l,H2,I2,pl,q2⟩:=kq;refine thn (hu π s2 σ H2 _ I2 q2) λvu s3 kq=>?_;let⟨u,H3,I3,pu,q3⟩:=kq;rw[Fm];refine AJ ?_;have I4:Inv X π σ H3 {s3 with heap:=s3.heap.push {cls:=.type "slice",data:=.fields #[vl,vu,.none]} }:=I3.kept (t':=s3.toks) λb ob q=>AL _ q;let⟨T,id,hT,ht,hg⟩:=hr π {s3 with heap:=s3.heap.push {cls:=.type "slice",data:=.fields #[vl,vu,.none]} } σ H3 x v vl vu l u s3.heap.objs.size Q I4 r1 (EC ..) pl pu q3;show AV (model X.prog X.w) X.A (subscriptTail e (.Slice lo hi AC p2) v (.ref s3.heap.objs.size)) (EP X π σ Q) X.xe {s3 with heap:=s3.heap.push {cls:=.type "slice",data:=.fields #[vl,vu,.none]} };exact HF (ops:=[.ref s3.heap.objs.size,v]) ht hT hg (by with_unfolding_all rfl)
def ybZ(xs:List V)(lo hi:Option Int):List V:=(xs.drop (HT.sIx xs.length 0 lo)).take (HT.sIx xs.length xs.length hi-HT.sIx xs.length 0 lo)
def zaJ(xs:List V)(lo hi:Option Int):(ybZ xs lo hi).length<=xs.length:=by
 unfold ybZ;rw[BX,B9];lia
def yfj(K:AE):V->Option Int->Option Int->Hp->VK->Prop:=λx lo hi H Q=>∃a xs,x=.ref a/\SqT K H a xs /\
 ¬(HT.sIx xs.length 0 lo=0/\HT.sIx xs.length xs.length hi=xs.length)/\∀p,H p=AC->Q (.ref p) (upd H p (.tup (ybZ xs lo hi)))
def ziU:SlR X (yfj X.K):=by
 intro π s σ H x v vl vu lo hi sl Q I rx hs pl pu h;let⟨a,xs,rfl,hx,hw,q⟩:=h
 cases rx
 let⟨its,r,ht,hz⟩:=I.tuple hx;have hlen:its.toArray.size=xs.length:=by rw[AZ];exact r.length.symm
 refine⟨"tuple",_,Ah.lookup,ht.typeIs,?_⟩;refine HT.getItem_tuple_cut ht hs pl pu (by rw[hlen];exact hw) ?_ (by rw[hlen];exact hz);rw[hlen];refine⟨.ref s.heap.objs.size,_,I.laid (t':=s.toks) (o:=.tup (ybZ xs lo hi)) (λb ob q=>AL _ q) (AR _) ?_,rfl,q _ (I.hok.fresh (AR _))⟩;exact⟨BV (zaJ xs lo hi) hz,_,(r.drop (HT.sIx xs.length 0 lo)).take (HT.sIx xs.length xs.length hi-HT.sIx xs.length 0 lo),AT _ rfl⟩
def ydw(K:AE):R2:=λx y H Q=>∃a b xs ys,x=.ref a/\y=.ref b/\SqT K H a xs/\SqT K H b ys/\xs≠[]/\xs.length+ys.length<=sizeLine /\
 (ys=[]->Q (.ref a) H)/\(ys≠[]->∀p,H p=AC->Q (.ref p) (upd H p (.tup (xs++ys))))
theorem Vals.nil_iff{xs:List V}{us:List AF}(r:Vals xs us):us=[] ↔ xs=[]:=by
 cases r with
 |nil=>simp
 |cons _ _=>simp
def zht:OpR X (binaryOp .Add) (ydw X.K):=by
 intro π s σ H x y v u Q I rx ry h;let⟨a,b,xs,ys,rfl,rfl,ha,hb,hx,hz,q1,q2⟩:=h
 cases rx
 cases ry
 let⟨its,r1,p1,_⟩:=I.tuple ha;let⟨its2,r2,p2,_⟩:=I.tuple hb;refine HT.cat_tup p1 p2 (λz=>hx (r1.nil_iff.mp z)) (λz=>⟨.ref a,H,I,rfl,q1 (r2.nil_iff.mp z)⟩) (λz=>?_) (by rw[<-r1.length,<-r2.length];exact hz);refine⟨.ref s.heap.objs.size,_,I.laid (t':=s.toks) (o:=.tup (xs++ys)) (λb ob q=>AL _ q) (AR _) ?_,rfl,q2 (λw=>z (r2.nil_iff.mpr w)) _ (I.hok.fresh (AR _))⟩;exact⟨by rw[Aj];exact hz,_,r1.append r2,AT _ rfl⟩
end
def ixN(n:Nat)(i:Int):Option Nat:=if 0<=i then(if i<n then AA i.toNat else AC)else if -(n:Int)<=i then AA (i+n).toNat else AC
def atI{α:Type}(xs:List α)(i:Int):Option α:=(ixN xs.length i).bind λj=>xs[j]?
def zeh{n:Nat}{i:Int}{j:Nat}(h:ixN n i=AA j):seqIndex? i n=AA j/\j<n/\-(n:Int)<=i/\i<n:=by
 unfold ixN at h
 by_cases h0:0<=i
 .rw[if_pos h0]at h
  by_cases h1:i<n
  .rw[if_pos h1]at h;have e:i.toNat=j:=A3 h;exact⟨by rw[Gi h0 h1,e],by lia,by lia,h1⟩
  .rw[if_neg h1]at h;cases h
 .rw[if_neg h0]at h
  by_cases h1:-(n:Int)<=i
  .rw[if_pos h1]at h;have e:(i+n).toNat=j:=A3 h;exact⟨by rw[seqIndex_neg ∅ h1,e],by lia,h1,by lia⟩
  .rw[if_neg h1]at h;cases h
def zb4{α:Type}{xs:List α}{i:Int}{v:α}(h:atI xs i=AA v):∃j,seqIndex? i xs.length=AA j/\xs[j]?=AA v/\j<xs.length/\-(xs.length:Int)<=i/\i<xs.length:=by
 unfold atI at h
 cases e:ixN xs.length i with
 |none=>rw[e]at h;cases h
 |some j=>
  rw[e]at h;let⟨h1,h2,h3,h4⟩:=zeh e;exact⟨j,h1,h,h2,h3,h4⟩
def ya9(b:AY):Prop:=∀o i,subscripted b AG o i=operate [o,i] (getItem o i)
def IxR(X:Cx)(r:R2):Prop:=
 ∀(value slice:AY) (π:List (AK×Bm)) (s:AI) (σ:St) (H:Hp) (x y:V) (v u:AF) (Q:VK),Inv X π σ H s->RelV x v->RelV y u->r x y H Q ->
  subscripted slice AG v u=operate [v,u] (getItem v u)->AV (model X.prog X.w) X.A (subscriptTail value slice v u) (EP X π σ Q) X.xe s
def MtR(X:Cx)(id:String)(r:V->List V->Hp->VK->Prop):Prop:=
 ∀(π:List (AK×Bm)) (s:AI) (σ:St) (H:Hp) (x:V) (xs:List V) (v:AF) (us:List AF) (Q:VK),Inv X π σ H s->RelV x v->Vals xs us->r x xs H Q ->
  AV (model X.prog X.w) X.A (call (.builtin id) (v::us)) (EP X π σ Q) X.xe s
section
variable {X:Cx}{a b:AY}{ta tb:TE}{pos:CG}
theorem IxR.or{r r':R2}(h:IxR X r)(h':IxR X r'):IxR X (λx y H Q=>r x y H Q \/ r' x y H Q):=by
 intro value slice π s σ H x y v u Q I rx ry q hs;rcases q with q|q
 .exact h value slice π s σ H x y v u Q I rx ry q hs
 .exact h' value slice π s σ H x y v u Q I rx ry q hs
def zky{r:R2}(hr:IxR X r)(ha:PE X a ta)(hb:PE X b tb)(hs:ya9 b):PE X (.Subscript a b pos) (tOp r ta tb):=by
 intro π s σ H Q I h;exact HE (zkZ ha hb I h λv u s2 x y H2 I2 rx ry q=>hr a b π s2 σ H2 x y v u Q I2 rx ry q (hs _ _))
def yem(K:AE):R2:=λx y H Q=>∃p xs i v,x=.ref p/\y=.int i/\SqL K H p xs/\atI xs i=AA v/\Q v H
def yeo(K:AE):R2:=λx y H Q=>∃p xs i v,x=.ref p/\y=.int i/\SqT K H p xs/\atI xs i=AA v/\Q v H
def yec:R2:=λx y H Q=>∃z i c,x=.str z/\y=.int i/\z.length<=sizeLine/\atI z.cps.toList i=AA c/\Q (.str ⟨#[c]⟩) H
def zll:IxR X (yem X.K):=by
 intro value slice π s σ H x y v u Q I rx ry h hs;let⟨p,xs,i,z,rfl,rfl,hq,he,q⟩:=h
 cases rx
 let⟨t,rfl⟩:=ry;let⟨its,r,pl,hz⟩:=I.list hq;let⟨j,h1,h2,h3,h4,h5⟩:=zb4 he;let⟨w,ew,rw'⟩:=r.get h2;have hl:=r.length;have hn:=zkV;have fin:EP X π σ Q w s:=⟨z,H,I,rw',q⟩
 by_cases h0:0<=i
 .have hj:i.toNat=j:=by
   rw[Gi h0 h5]at h1;exact A3 h1
  exact item_listR pl.isList h0 ∅ (by rw[hj];simpa using ew) fin hs
 .have hj:(i+(its.toArray.size:Int)).toNat=j:=by
   rw[seqIndex_neg ∅ h4]at h1;rw[AZ,<-hl];exact A3 h1
  exact Ew (x:=w) pl.isList.typeIs EX.lookup
   (wpAny_getItem_list_neg (Q:=λr s'=>r=w/\EP X π σ Q r s') pl.isList ∅ (by rw[AZ]<;>lia) ∅ (by rw[hj];simpa using ew) ⟨rfl,fin⟩) hs
def zlm:IxR X (yeo X.K):=by
 intro value slice π s σ H x y v u Q I rx ry h hs;let⟨p,xs,i,z,rfl,rfl,hq,he,q⟩:=h
 cases rx
 let⟨t,rfl⟩:=ry;let⟨its,r,pl,hz⟩:=I.tuple hq;let⟨j,h1,h2,h3,h4,h5⟩:=zb4 he;let⟨w,ew,rw'⟩:=r.get h2;have hl:=r.length;have hn:=zkV;have fin:EP X π σ Q w s:=⟨z,H,I,rw',q⟩;exact Ew (x:=w) pl.typeIs Ah.lookup
  (getItem_tuple (j:=j) (Q:=λr s'=>r=w/\EP X π σ Q r s') pl ∅ ∅ (by rw[AZ,<-hl];exact h1) (by simpa using ew) ⟨rfl,fin⟩) hs
def zj7:IxR X yec:=by
 intro value slice π s σ H x y v u Q I rx ry h hs;let⟨z,i,c,rfl,rfl,hz,he,q⟩:=h;let⟨t,rfl⟩:=rx;let⟨t',rfl⟩:=ry;let⟨j,h1,h2,h3,h4,h5⟩:=zb4 he;have hl:z.cps.toList.length=z.length:=by simp[Str.length]
 rw[hl]at h1 h4 h5;have hn:=zkV;exact HF (HG s z t) slot_str_getitem.lookup (getItem_str (c:=c) (by
  have e1:decide (i < -(2^63:Int))=false:=decide_eq_false ∅;have e2:decide (i ≥ 2^63)=false:=decide_eq_false ∅;rw[e1,e2,HQ]) (by rw[h1];simpa using h2) ⟨.str ⟨#[c]⟩,H,I.tok _,⟨_,rfl⟩,q⟩) hs
def rIx(K:AE):R2:=λx y H Q=>yem K x y H Q \/ yeo K x y H Q \/ yec x y H Q
def zcK:IxR X (rIx X.K):=zll.or (zlm.or zj7)
def zc6(its:List AF)(n j:Nat)(u:AF):Ex (·.setIfInBounds j u) {cls:=.type "list",data:=.seq its.toArray n}={cls:=.type "list",data:=.seq (its.set j u).toArray n}:=by
 simp[Ex]
theorem Inv.lst{π:List (AK×Bm)}{σ:St}{H:Hp}{s:AI}{p:AK}{xs:List V}(I:Inv X π σ H s)(h:H p=AA (.lst xs)):
  ∃(its:List AF) (n:Nat),Vals xs its/\s.heap.get? p=AA {cls:=.type "list",data:=.seq its.toArray n}/\xs.length<=sizeLine:=by
 let⟨z,its,n,r,e⟩:=I.hok p _ h;exact⟨its,n,r,e,z⟩
theorem Inv.lstUpd{π:List (AK×Bm)}{σ:St}{H:Hp}{s:AI}{p:AK}{xs ys:List V}{its its':List AF}{n n':Nat}{f:Bm->Bm}(I:Inv X π σ H s)(h:H p=AA (.lst xs))
  (ho:s.heap.get? p=AA {cls:=.type "list",data:=.seq its.toArray n}) (hf:f {cls:=.type "list",data:=.seq its.toArray n}={cls:=.type "list",data:=.seq its'.toArray n'}) (r:Vals ys its') (hz:ys.length<=sizeLine) (t:Nat):
  Inv X π σ (upd H p (.lst ys)) {s with heap:=s.heap.update p f,toks:=t}:=by
 have e:(s.heap.update p f).get? p=AA {cls:=.type "list",data:=.seq its'.toArray n'}:=by
  rw[DY f ho (by rw[hf]<;>rfl),hf]
 refine I.write (x:=p) (e:=p) (by rw[h];trivial) (.inl rfl) (λb u hb q=>(DP _ _ (B0 hb)).trans q) ⟨_,e⟩ ?_;exact⟨hz,its',n',r,e⟩
def ycZ:V->V->V->Hp->(Hp->Prop)->Prop:=λo i v H Q=>∃p xs k j,o=.ref p/\i=.int k/\H p=AA (.lst xs)/\ixN xs.length k=AA j/\Q (upd H p (.lst (xs.set j v)))
def zcS:yeb X ycZ:=by
 intro π s σ H o i v ov iv u Q I ro ri rv h;let⟨p,xs,k,j,rfl,rfl,hp,hj,q⟩:=h
 cases ro
 let⟨t,rfl⟩:=ri;let⟨its,n,r,ho,hz⟩:=I.lst hp;let⟨h1,h2,h3,h4⟩:=zeh hj;have hl:=r.length;have hn:=zkV;have I':Inv X π σ (upd H p (.lst (xs.set j v))) {s with heap:=s.heap.update p (Ex (·.setIfInBounds j u))}:=
  I.lstUpd hp ho (zc6 its n j u) (r.set rv j) (by rw[Az];exact hz) s.toks
 by_cases h0:0<=k
 .have hk:k.toNat=j:=by
   rw[Gi h0 h4]at h1;exact A3 h1
  exact PySem.W.ki_setAt ho h0 ∅ (by rw[AZ,<-hl];exact h4) (by rw[hk];exact⟨_,I',q⟩)
 .have hk:(k+(its.toArray.size:Int)).toNat=j:=by
   rw[seqIndex_neg ∅ h3]at h1;rw[AZ,<-hl];exact A3 h1
  exact PySem.W.ki_setBack ho ∅ (by rw[AZ,<-hl];exact h3) ∅ (by rw[hk];exact⟨_,I',q⟩)
def zbt(lo hi:Option Int)(n:Nat):(sliceBounds lo hi AC n).1=((HT.sIx n 0 lo:Nat):Int)/\(sliceBounds lo hi AC n).2.1=((HT.sIx n n hi:Nat):Int)/\(sliceBounds lo hi AC n).2.2=1:=by
 refine⟨?_,?_,rfl⟩
 .cases lo with
  |none=>simp[sliceBounds,HT.sIx]
  |some i=>
   erw[sliceBounds,HT.sIx,Gd,show (1:Int) > 0 by decide,if_true]
   by_cases h:i<0
   .simp only[h,if_true]<;>lia
   .simp only[h,if_false]<;>lia
 .cases hi with
  |none=>simp[sliceBounds,HT.sIx]
  |some i=>
   erw[sliceBounds,HT.sIx,Gd,show (1:Int) > 0 by decide,if_true]
   by_cases h:i<0
   .simp only[h,if_true]<;>lia
   .simp only[h,if_false]<;>lia
def za7(its:List AF)(lo hi:Option Int):slicePick its.toArray lo hi AC=((its.drop (HT.sIx its.length 0 lo)).take (HT.sIx its.length its.length hi-HT.sIx its.length 0 lo)).toArray:=by
 let⟨h1,h2,h3⟩:=zbt lo hi its.toArray.size;unfold slicePick;rw[h1,h2,h3];erw[sliceRange_one,pick_run,AZ]<;>rfl
def ygC(K:AE):V->Option Int->Option Int->Hp->VK->Prop:=λx lo hi H Q=>∃a xs,x=.ref a/\SqL K H a xs/\∀p,H p=AC->Q (.ref p) (upd H p (.lst (ybZ xs lo hi)))
def zdF:SlR X (ygC X.K):=by
 intro π s σ H x v vl vu lo hi sl Q I rx hs pl pu h;let⟨a,xs,rfl,hx,q⟩:=h
 cases rx
 let⟨its,r,ht,hz⟩:=I.list hx;have hlen:=r.length;refine⟨"list",_,EX.lookup,ht.isList.typeIs,?_⟩;refine E4 ht.isList hs pl pu .none (by simp) ?_ (by rw[AZ]<;>lia);rw[za7,<-hlen];refine⟨.ref s.heap.objs.size,_,I.laid (t':=s.toks) (o:=.lst (ybZ xs lo hi)) (λb ob q=>AL _ q) (AR _) ?_,rfl,q _ (I.hok.fresh (AR _))⟩;exact⟨BV (zaJ xs lo hi) hz,_,0,(r.drop (HT.sIx xs.length 0 lo)).take (HT.sIx xs.length xs.length hi-HT.sIx xs.length 0 lo),AT _ rfl⟩
def yaN:V->Bool
 |.non=>AD
 |.bl _=>AD
 |.int _=>AD
 |.str _=>AD
 |_=>AG
def eqV:V->V->Bool
 |.non,.non=>AD
 |.bl a,.bl b=>a==b
 |.bl a,.int b=>(if a then 1 else 0)==b
 |.int a,.bl b=>a==(if b then 1 else 0)
 |.int a,.int b=>a==b
 |.str a,.str b=>a==b
 |_,_=>AG
def zjn{A:A9}{s:AI}{y x:V}{u v:AF}(ry:RelV y u)(rx:RelV x v)(fy:yaN y=AD)(fx:yaN x=AD):IJ A s u v (eqV y x):=by
 cases y with
 |non=>
  cases ry
  cases x with
  |non=>cases rx;exact SeqAt.EqAt.same _
  |bl b=>cases rx;exact SeqAt.EqAt.none_bool b
  |int b=>let⟨t,rfl⟩:=rx;exact SeqAt.EqAt.none_int b t
  |str b=>let⟨t,rfl⟩:=rx;exact SeqAt.EqAt.none_str b t
  |_=>exact absurd (show AG=AD from fx) AU
 |bl a=>
  cases ry
  cases x with
  |non=>cases rx;exact SeqAt.EqAt.bool_none a
  |bl b=>cases rx;exact SeqAt.EqAt.bool_bool a b
  |int b=>let⟨t,rfl⟩:=rx;exact SeqAt.EqAt.bool_int a b t
  |str b=>let⟨t,rfl⟩:=rx;exact SeqAt.EqAt.bool_str a b t
  |_=>exact absurd (show AG=AD from fx) AU
 |int a=>
  let⟨t',rfl⟩:=ry
  cases x with
  |non=>cases rx;exact SeqAt.EqAt.int_none a t'
  |bl b=>cases rx;exact SeqAt.EqAt.int_bool a t' b
  |int b=>let⟨t,rfl⟩:=rx;exact SeqAt.EqAt.int_int a t' b t
  |str b=>let⟨t,rfl⟩:=rx;exact Fw a t' b t
  |_=>exact absurd (show AG=AD from fx) AU
 |str a=>
  let⟨t',rfl⟩:=ry
  cases x with
  |non=>cases rx;exact SeqAt.EqAt.str_none a t'
  |bl b=>cases rx;exact SeqAt.EqAt.str_bool a t' b
  |int b=>let⟨t,rfl⟩:=rx;exact Fx a t' b t
  |str b=>let⟨t,rfl⟩:=rx;exact SeqAt.EqAt.str_str a t' b t
  |_=>exact absurd (show AG=AD from fx) AU
 |_=>exact absurd (show AG=AD from fy) AU
def eqU(x:V)(u:AF):Bool:=match u with
 |.none=>eqV .non x
 |.bool b=>eqV (.bl b) x
 |.int i _=>eqV (.int i) x
 |.str z _=>eqV (.str z) x
 |_=>AG
def zge{x y:V}{u:AF}(r:RelV y u)(f:yaN y=AD):eqU x u=eqV y x:=by
 cases y with
 |non=>cases r;rfl
 |bl b=>cases r;rfl
 |int i=>let⟨t,rfl⟩:=r;rfl
 |str z=>let⟨t,rfl⟩:=r;rfl
 |_=>exact absurd (show AG=AD from f) AU
def zaw{x:V}:∀{xs:List V} {us:List AF},Vals xs us->xs.all yaN=AD->us.any (eqU x)=xs.any λy=>eqV y x
 |_,_,.nil,_=>rfl
 |y::xs,u::us,.cons r t,f=>by
  rw[Au,AH]at f;rw[CF,CF,zge r f.1,zaw t f.2]
def zV{A:A9}{s:AI}{x:V}{v:AF}(rx:RelV x v)(fx:yaN x=AD):∀{xs:List V} {us:List AF},Vals xs us->xs.all yaN=AD->∀u∈us,IJ A s u v (eqU x u)
 |_,_,.nil,_=>λu hu=>by cases hu
 |y::xs,u::us,.cons r t,f=>λu' hu=>by
  rw[Au,AH]at f;rcases Ac.mp hu with rfl|hu
  .rw[zge r f.1];exact zjn r rx f.1 fx
  .exact zV rx fx t f.2 u' hu
def inV(x:V)(xs:List V):Bool:=xs.any λy=>eqV y x
def rIn(K:AE)(neg:Bool):R2:=λx y H Q=>∃p xs,y=.ref p/\(SqL K H p xs \/ SqT K H p xs)/\yaN x=AD/\xs.all yaN=AD/\Q (.bl (if neg then !inV x xs else inV x xs)) H
def zbw:OpR X (compareOp .In) (rIn X.K AG):=by
 intro π s σ H x y v u Q I rx ry h;let⟨p,xs,rfl,hq,fx,fs,q⟩:=h
 cases ry
 rcases hq with hq|hq
 .let⟨its,r,pl,hz⟩:=I.list hq;refine SeqAt.in_listAt (eqU x) pl.isList (λw hw=>zV rx fx r fs w (by simpa using hw)) ⟨.bl _,H,I,rfl,?_⟩;rw[show its.toArray.any (eqU x)=its.any (eqU x)by simp,zaw r fs];exact q
 .let⟨its,r,pl,hz⟩:=I.tuple hq;refine SeqAt.in_tupleAt (eqU x) pl (λw hw=>zV rx fx r fs w (by simpa using hw)) ⟨.bl _,H,I,rfl,?_⟩;rw[show its.toArray.any (eqU x)=its.any (eqU x)by simp,zaw r fs];exact q
def zaf:OpR X (compareOp .NotIn) (rIn X.K AD):=by
 intro π s σ H x y v u Q I rx ry h;let⟨p,xs,rfl,hq,fx,fs,q⟩:=h
 cases ry
 rcases hq with hq|hq
 .let⟨its,r,pl,hz⟩:=I.list hq;refine SeqAt.notIn_listAt (eqU x) pl.isList (λw hw=>zV rx fx r fs w (by simpa using hw)) ⟨.bl _,H,I,rfl,?_⟩;rw[show its.toArray.any (eqU x)=its.any (eqU x)by simp,zaw r fs];exact q
 .let⟨its,r,pl,hz⟩:=I.tuple hq;refine SeqAt.notIn_tupleAt (eqU x) pl (λw hw=>zV rx fx r fs w (by simpa using hw)) ⟨.bl _,H,I,rfl,?_⟩;rw[show its.toArray.any (eqU x)=its.any (eqU x)by simp,zaw r fs];exact q
def zbI:yQ X (.builtin "len") (λxs H Q=>∃p ys,xs=[.ref p]/\(SqL X.K H p ys \/ SqT X.K H p ys)/\Q (.int ys.length) H):=by
 intro π s σ H xs us Q I r h;let⟨p,ys,rfl,hq,q⟩:=h;let⟨u,rfl,rx⟩:=vals1 r
 cases rx
 have hn:=zkV;rcases hq with hq|hq
 .let⟨its,r',pl,hz⟩:=I.list hq;have hlen:=r'.length;exact Calls.call_len_list pl.isList (by erw[AZ]<;>lia) ⟨.int ys.length,H,I.tok _,⟨s.toks+1,by rw[AZ,hlen]⟩,q⟩
 .let⟨its,r',pl,hz⟩:=I.tuple hq;have hlen:=r'.length;exact len_tuple pl (by erw[AZ]<;>lia) ⟨.int ys.length,H,I.tok _,⟨s.toks+1,by rw[AZ,hlen]⟩,q⟩
def zbP:yQ X (.builtin "len") (λxs H Q=>∃z,xs=[.str z]/\z.length<=sizeLine/\Q (.int z.length) H):=by
 intro π s σ H xs us Q I r h;let⟨z,rfl,hz,q⟩:=h;let⟨u,rfl,t,rfl⟩:=vals1 r;have hn:=zkV;exact len_str ∅ ⟨.int z.length,H,I.tok _,⟨_,rfl⟩,q⟩
def zX:yQ X (.type "tuple") (λxs H Q=>∃p ys,xs=[.ref p]/\((SqL X.K H p ys/\∀l,H l=AC->Q (.ref l) (upd H l (.tup ys))) \/ (SqT X.K H p ys/\Q (.ref p) H))):=by
 intro π s σ H xs us Q I r h;let⟨p,ys,rfl,h⟩:=h;let⟨u,rfl,rx⟩:=vals1 r
 cases rx
 rcases h with⟨hq,q⟩|⟨hq,q⟩
 .let⟨its,r',pl,hz⟩:=I.list hq;have hlen:=r'.length;refine call_tuple_list pl.isList (λh' kp=>?_) (by erw[AZ]<;>lia);have I1:Inv X π σ H {s with heap:=h'}:=I.kept (t':=s.toks) kp;have I2:Inv X π σ (upd H h'.objs.size (.tup ys)) {s with heap:=h'.push {cls:=.type "tuple",data:=.seq its.toArray} }:=
   I1.laid (t':=s.toks) (λb o e=>AL _ e) (AR _) (show yt X.prog X.w _ _ _ (.tup ys)from ⟨hz,its,r',AT _ rfl⟩)
  exact⟨.ref h'.objs.size,_,I2,rfl,q _ (I1.hok.fresh (AR _))⟩
 .let⟨its,r',pl,hz⟩:=I.tuple hq;exact call_tuple_same pl ⟨.ref p,H,I,rfl,q⟩
def tyV(K:AE)(T:String)(x:V)(H:Hp):Prop:=match x with
 |.str _=>T="str"
 |.int _=>T="int"
 |.ref p=>(T="list"/\∃xs,SqL K H p xs) \/ (T="tuple"/\∃o,K.lookup p=AA o/\o.cls=.type "tuple"/\o.dict=AC) \/
   (T="dict"/\((∃kvs,H p=AA (.dK kvs)) \/ ∃kvs,H p=AA (.dT kvs))) \/ (T="set"/\∃S n,H p=AA (.set S n))
 |_=>False
def zjU{π:List (AK×Bm)}{σ:St}{H:Hp}{s:AI}{T:String}{x:V}{v:AF}(I:Inv X π σ H s)(r:RelV x v)(ty:tyV X.K T x H):
  s.TypeIs v T/\∀a,v=.ref a->∃ob,s.heap.get? a=AA ob/\ob.dict=none:=by
 cases x with
 |str z=>
  let⟨t,rfl⟩:=r
  cases (show T="str" from ty)
  exact⟨HG s z t,λ_ e=>nomatch e⟩
 |int i=>
  let⟨t,rfl⟩:=r
  cases (show T="int" from ty)
  exact⟨typeIs_int s i t,λ_ e=>nomatch e⟩
 |ref p=>
  cases r
  rcases ty with⟨rfl,xs,hq⟩|⟨rfl,o,hk,hc,hd⟩|⟨rfl,hk⟩|⟨rfl,S,n,hk⟩
  .let⟨its,_,pl,_⟩:=I.list hq;refine⟨pl.isList.typeIs,λa e=>?_⟩
   cases e
   let⟨o,n,e,c,hd,_⟩:=pl;exact⟨o,e,hd⟩
  .refine⟨⟨o,I.kIn p o hk,hc⟩,λa e=>?_⟩
   cases e
   exact⟨o,I.kIn _ o hk,hd⟩
  .have z:∃o,s.heap.get? p=AA o/\o.ExactDict:=by
    rcases hk with⟨kvs,hk⟩|⟨kvs,hk⟩
    .let⟨_,_,_,_,o,_,_,e,ex,_⟩:=I.hok p _ hk;exact⟨o,e,ex⟩
    .let⟨_,_,_,_,o,_,_,e,ex,_⟩:=I.hok p _ hk;exact⟨o,e,ex⟩
   let⟨o,e,ex⟩:=z;refine⟨⟨o,e,ex.1⟩,λa e2=>?_⟩
   cases e2
   exact⟨o,e,ex.2.1⟩
  .let⟨o,_,_,_,e,ex,_⟩:=I.hok p _ hk;refine⟨⟨o,e,ex.1⟩,λa e2=>?_⟩
   cases e2
   exact⟨o,e,ex.2.1⟩
 |_=>exact BZ ty
def tBM(K:AE)(T:String)(r:V->List V->Hp->VK->Prop)(to:TE)(t:TA):TE:=λσ H Q=>to σ H λx H1=>tyV K T x H1/\t σ H1 λxs H2=>r x xs H2 Q
variable {o e:AY}{es:List AY}{to:TE}{t:TA}{name:AW}{apos cpos:CG}{T id:String}{r:V->List V->Hp->VK->Prop}
def zkI(pa:PlainAttrs T)(slot:Slot T name id)(hty:typeOf (.builtin id)=pure (.type "method_descriptor"))(hm:MtR X id r)(ho:PE X o to)(ha:PA X (e::es) t)
  (hbase:attributeBase o name X.env (eval o X.env)=eval o X.env:=by rfl)
  (hfew:((backTo cpos (starEach (e::es) X.env)).all (λx=>!x.1)&&(backToKw cpos (keywordEach [] X.env)).all (λx=>x.1.isSome)
   && decide ((e::es).length+([]:List C9).length+(if ([]:List C9).isEmpty then 0 else 1)<30))=true:=by rfl)
  (hline:(apos.endLine==cpos.line)=true:=by rfl) (hs:starEach (e::es) X.env=(AG,eval e X.env)::starEach es X.env:=by rfl) (hplain:(backTo cpos (starEach es X.env)).any (·.1)=false:=by rfl):
  PE X (.Call (.Attribute o name apos) (e::es) [] cpos) (tBM X.K T r to t):=by
 intro π s σ H Q I h;refine wpAny_Call_method_late hbase hfew hline rfl (thn (ho π s σ H _ I h) λv s1 kq=>?_);let⟨x,H1,I1,r1,ty,q1⟩:=kq;let⟨h1,h2⟩:=zjU I1 r1 ty;refine⟨T,id,pa,slot,hty,h1,h2,?_⟩;have hA:=ha cpos π s1 σ H1 _ I1 q1;rw[hs]at hA ⊢;refine DQ (by show (AG || (backTo cpos (starEach es X.env)).any (·.1))=AG;rw[hplain]<;>rfl) (FZ ?_);exact thn hA λus s2 ⟨vs,H2,I2,r2,q2⟩=>hm π s2 σ H2 x vs v us Q I2 r1 r2 q2
/- xs.append(e),list.index on a module's tuple .. are MtR facts of 06m -/
end
def MtM(X:Cx)(id:String)(r:V->List V->Hp->VK->Prop):Prop:=
 ∀(π:List (AK×Bm)) (s:AI) (σ:St) (H:Hp) (x:V) (xs:List V) (v:AF) (us:List AF) (Q:VK),Inv X π σ H s->RelV x v->Vals xs us->r x xs H Q ->
  AV (model X.prog X.w) X.A (call (.builtin id) (v::us)) (EP X π σ Q) X.xe s
theorem Vals.one:∀{x:V} {us:List AF},Vals [x] us->∃u,us=[u]/\RelV x u
 |_,_,.cons r .nil=>⟨_,rfl,r⟩
theorem Vals.reverse{xs:List V}{us:List AF}(h:Vals xs us):Vals xs.reverse us.reverse:=by
 induction h with
 |nil=>exact .nil
 |cons r t ih=>rw[DR,DR];exact Vals.append ih (.cons r .nil)
section
variable {X:Cx}{π:List (AK×Bm)}{σ:St}{H:Hp}{s:AI}{l b:AK}{xs ys zs:List V}
theorem Inv.lset{its its':List AF}{n:Nat}{f:Array AF->Array AF}{t':Nat}(I:Inv X π σ H s)(hH:H l=AA (.lst xs))
  (e:s.heap.get? l=AA {cls:=.type "list",data:=.seq its.toArray n}) (hf:f its.toArray=its'.toArray) (hv:Vals ys its') (hz:ys.length<=sizeLine):
  Inv X π σ (upd H l (.lst ys)) {s with heap:=s.heap.update l (Ex f),toks:=t'}:=by
 have q:=PySem.IsL.update e f;rw[hf]at q;refine I.write (x:=l) (e:=l) (by rw[hH];exact trivial) (.inl rfl) (λb' u hb hu=>(DP s.heap (Ex f) (B0 hb)).trans hu) ⟨_,q⟩ ?_;exact⟨hz,its',_,hv,q⟩
theorem Inv.lnew{its:List AF}{t':Nat}(I:Inv X π σ H s)(hv:Vals ys its)(hz:ys.length<=sizeLine):
  Inv X π σ (upd H s.heap.objs.size (.lst ys)) {s with heap:=s.heap.push {cls:=.type "list",data:=.seq its.toArray},toks:=t'}:=
 I.laid (λ_ _ q=>AL _ q) (AR _) ⟨hz,its,0,hv,AT _ rfl⟩
theorem Inv.fresh(I:Inv X π σ H s):H s.heap.objs.size=none:=I.hok.fresh (AR _)
theorem Inv.lstM(I:Inv X π σ H s)(hH:H l=AA (.lst xs)):xs.length<=sizeLine/\∃(its:List AF) (n:Nat),Vals xs its/\xs.length=its.length/\s.heap.get? l=AA {cls:=.type "list",data:=.seq its.toArray n}:=by
 let⟨z,its,n,r,e⟩:=I.hok l _ hH;exact⟨z,its,n,r,r.length,e⟩
end
section
variable {X:Cx}
def ycf:V->List V->Hp->VK->Prop:=λx vs H Q=>∃l xs y,x=.ref l/\vs=[y]/\H l=AA (.lst xs)/\xs.length<sizeLine/\Q .non (upd H l (.lst (xs++[y])))
def zbC:MtM X "list.append" ycf:=by
 intro π s σ H x vs v us Q I rx rv h;let⟨l,xs,y,rfl,rfl,hH,hz,q⟩:=h
 cases rx
 let⟨u,rfl,ru⟩:=rv.one;let⟨z,its,n,r,hl,e⟩:=I.lstM hH;refine call_meets FN ⟨_,e,rfl⟩ F.entry_list_append (F.args_list_append_2 _ _) (PySem.list_append l its.toArray n u (by rw[AZ];lia)) ⟨e,?_⟩;refine⟨.non,_,I.lset (its':=its++[u]) hH e (by simp) (r.append (.cons ru .nil)) ?_,rfl,q⟩;rw[Aj,FO];lia
def ygu:R2:=λx y H Q=>∃l b xs zs,x=.ref l/\y=.ref b/\H l=AA (.lst xs)/\H b=AA (.lst zs)/\xs.length+zs.length<=sizeLine/\∀p,H p=AC->Q (.ref p) (upd H p (.lst (xs++zs)))
def zjt:OpR X (binaryOp .Add) ygu:=by
 intro π s σ H x y v u Q I rx ry h;let⟨l,b,xs,zs,rfl,rfl,hH,hB,hz,q⟩:=h
 cases rx
 cases ry
 let⟨z,its,n,r,hl,e⟩:=I.lstM hH;let⟨z2,its2,n2,r2,hl2,e2⟩:=I.lstM hB;refine PySem.P.add_list e e2 ?_ (by rw[AZ,AZ];lia);have ea:its.toArray++its2.toArray=(its++its2).toArray:=by simp
 rw[ea];exact⟨.ref _,_,I.lnew (t':=s.toks) (r.append r2) (by rw[Aj];lia),rfl,q _ I.fresh⟩
end
section
variable {prog:A4}{w:Aa}{A:A9}{E:AF->AI->Prop}{s:AI}
end
section
variable {X:Cx}
end
end L2
namespace Att
open PySem PySem.W PySem.Calls PyProof.Rows
def zaB{P:Params}{h:Aw}:∀(ns:List Int) (vs:List AF),WellAll P h vs (ns.map IP)->Ff vs ns:=by
 intro ns
 induction ns with
 |nil=>
  intro vs w;rw[BA]at w
  cases w
  exact .nil
 |cons n ns ih=>
  intro vs w;rw[AM]at w
  cases w with
  |cons a b=>
   cases a
   exact .cons _ _ (ih _ b)
def zeC{l:Em}{n:Nat}(hn:l.most=AA n){P:Params}{h:Aw}{args:List WData}{vals:List AF}
  (hpre:l.row.toRowW.claim.pre args=AD) (hwl:WellAll P h vals args):
  ∃a vs ns,vals=[Ab a]/\args=[WData.list (ns.map IP)]/\h.get? a=AA {cls:=.type "list",data:=.seq vs.toArray}/\Ff vs ns/\ns.length<=n:=by
 have hsh:WShape.hasAll [] args [.list .int]=true:=(pre_splitW hpre).1;have hc:l.pre.holds [] {args:=args}=true:=(pre_splitW hpre).2;let⟨d,r,rfl,h1,h2⟩:=hasAllW_cons hsh;obtain rfl:=hasAllW_nil h2;let⟨xs,rfl,h3⟩:=hasW_list h1;let⟨ns,rfl⟩:=items_int h3;have hlen:ns.length<=n:=by
  unfold OpenLaw.pre at hc;have h4:(WTm.not (.lt (.lit (.int (n:Int))) (.len (.arg 0)))).holds [] {args:=[.list (ns.map .int)]}=true:=by
   have h4:=(holds_andW hc).1;rw[hn]at h4;exact h4
  have h5:=condW_of h4 (w_not (w_lt w_lit (w_len_list (w_arg rfl))));rw[AQ]at h5;refine Nat.le_of_not_lt λq=>?_;have q':(n:Int)<((ns.length:Nat):Int):=by lia
  first
   |(rw[decide_eq_true q']at h5;exact absurd h5 ⋯)
   |(simp at h5;lia)
 cases hwl with
 |cons w1 w2=>
  cases w2
  cases w1 with
  |list ho hall=>exact⟨_,_,ns,rfl,rfl,ho,zaB ns _ hall,hlen⟩
def zdK(l:Em)(args:List WData):l.row.toRowW.claim.post args (.bool AD) args=true:=
 postW_of (r:=l.row.toRowW) (X:=(AD==AD))
  (show IK [] (.bool AD) .bool=AD by first|rfl|decide|simp[IK,WShape.arms,WShape.armsAll])
  (show (WTm.eq .res (.lit (.bool AD))).value [] {args:=args,res:=AA (.bool AD),after:=args}=AA (.bool (AD==AD))from w_eq_bool (w_res rfl) w_lit) rfl
theorem attach_call{l:Em}{n:Nat}{q:A4}{loose:List AW}{XP:(AW->Option AF)->Aw->Prop}{YP:Aa->Aw->Prop}{d:DefRec}
  (hn:l.most=AA n) (hdf:d.params.defaults=[])
  (call:∀(w:Aa) (s₀ s₁:AI) (mg mb:AW->Option AF) (fa:AK) (o:Bm) (pm cd doc:AF) (a:AK) (vs:List AF) (ns:List Int),
   Ground q loose [] XP w s₀ mg mb s₁.heap->YP w s₁.heap ->
   s₁.heap.get? fa=AA o->o.data=.func (docDef d.name d.params d.body d.scope pm cd doc)->s₁.heap.CodeRec cd d.name->mg d.name=AA (.ref fa) ->
   s₁.heap.get? a=AA {cls:=.type "list",data:=.seq vs.toArray}->Ff vs ns->ns.length<=n->s₁.gens=#[] ->
   codeAny (model l.prog w) callerA (.call (.ref fa) ⟨[.ref a],[]⟩) (λr s'=>r=.ok (.ret (.bool AD))/\OldK s₁.heap s'.heap/\s'.os=s₁.os/\D8 s'.gens) s₁):
  Gx q loose XP YP l.row.toRowW d [] (λf vs=>HH f vs):=by
 intro w s₀ s₁ mg mb G Y fa o pm cd doc dV kV ho hd hcd hD hmg hg args vals as hpre hlay hrd hwl hlo;obtain rfl:dV=.none:=Dflts.none hD hdf;obtain rfl:kV=.none:=Dflts.noKw hD;let⟨a,vs,ns,rfl,rfl,hobj,hints,hlen⟩:=zeC hn hpre hwl;refine enter_call (Dp (call w s₀ s₁ mg mb fa o pm cd doc a vs ns G Y ho (fd_plain hd) hcd hmg hobj hints hlen hg) λr s' hq=>?_);let⟨rfl,h2,h3,h4⟩:=hq;exact⟨.inl ⟨.bool AD,.bool AD,[],rfl,λ_=>rfl,.bool AD,zdK l _,λ_=>⟨GV,λ_ hm=>(nomatch hm)⟩⟩,h2,h3,h4⟩
section
variable {prog:A4}{w:Aa}{A:A9}{E:AF->AI->Prop}{s:AI}{K:AE}
end
end Att
namespace L2
open PySem PySem.Spec PyProof.Rows
def zbD:∀{vs:List AF} {ns:List Int},Ff vs ns->Vals (ns.map V.int) vs
 |_,_,.nil=>.nil
 |_,_,.cons n t h=>.cons ⟨t,rfl⟩ (zbD h)
def Only(H:Hp):Prop:=∀b,H b=AC \/ ∃o xs,H b=AA (.frz o (.lst xs))
def zfi{P:A4}{w:Aa}{K:AE}{mg mb:AW->Option AF}{CX:CXT}{k:Nat}{fa a:AK}{fd:Ax}{x:AW}{sp:Sp}{s₁:AI}{vs:List AF}{ns:List Int}
  (KX:K.In s₁.heap) (hns:s₁.heap.Ns mainGlobals mg) (hb:s₁.heap.Ns builtinsNs mb) (hbb:∀x:AW,x ≠ "__name__"->mb x=bootBuiltins x) (hlim:s₁.heap.NoLimit) (hg:s₁.gens=#[])
  (ha:s₁.heap.get? a=AA {cls:=.type "list",data:=.seq vs.toArray}) (hi:Ff vs ns) (hl:ns.length<=sizeLine) (hr:yav k callerA)
  (F:∀base:Aw,K.In base->base.Ns mainGlobals mg->yaK P w K mg base CX k fa fd [x] sp) (hbind:∀(s:AI) (u:AF),Es s fd ⟨[u],[]⟩ [(x,u)])
  (hsp:∀H:Hp,Only H->SqL K H a (ns.map V.int)->sp [.ref a] H (λv _=>v=.bl AD) λ_ _ _=>False)
  (hCX:∀H e s',CX [] H s₁ (λ_ _ _=>False) e s'->False):
  codeAny (model P w) callerA (.call (.ref fa) ⟨[.ref a],[]⟩) (λr s'=>r=.ok (.ret (.bool AD))/\OldK s₁.heap s'.heap/\s'.os=s₁.os/\D8 s'.gens) s₁:=by
 have rv:=zbD hi;have lenV:=hi.length;have core:∀H:Hp,Only H->SqL K H a (ns.map V.int)->HOk P w H s₁.heap->(∀b,H b≠AC->b=a)->(H a≠AC->K.lookup a=AC) ->
   codeAny (model P w) callerA (.call (.ref fa) ⟨[.ref a],[]⟩) (λr s'=>r=.ok (.ret (.bool AD))/\OldK s₁.heap s'.heap/\s'.os=s₁.os/\D8 s'.gens) s₁:=by
  intro H hO hS hok hA hK;have base_of:∀{b:AK} {o:Bm},s₁.heap.get? b=AA o->H b=AC->(ybM s₁.heap H).get? b=AA o:=λe n=>zfB e n;have noA:∀{b:AK} {o:Bm} {es:Array BL} {ep:Nat},s₁.heap.get? b=AA o->o.data=.dict es ep->H b=none:=λ{b o es ep} e d=>by
   cases q:H b with
   |none=>rfl
   |some u=>
    have e':b=a:=hA b (by rw[q];simp);subst e';rw[ha]at e;cases e;have d':Data.seq vs.toArray _=Data.dict es ep:=d
    cases d'
  have nsK:∀{b:AK} {m:AW->Option AF},s₁.heap.Ns b m->(ybM s₁.heap H).Ns b m:=λ{b m} ⟨o,es,ep,e,d,r⟩=>⟨o,es,ep,base_of e (noA e d),d,r⟩;have hKb:K.In (ybM s₁.heap H):=λb o e=>base_of (KX b o e) (by
   cases q:H b with
   |none=>rfl
   |some u=>
    have e':b=a:=hA b (by rw[q];simp);subst e';rw[hK (by rw[q];simp)]at e;cases e)
  have hM:Mod K mg (ybM s₁.heap H):=⟨hKb,nsK hns,⟨mb,nsK hb,hbb⟩,let ⟨mc,h1,h2⟩:=hlim;⟨mc,nsK h1,h2⟩⟩;have e0:ybR P w K mg (ybM s₁.heap H) callerA [] s₁ H:=⟨rfl,hM,λb o e=>zgz e,GQ (zdR _ _),trivial,λb hb=>absurd (show b∈([]:List AK)from hb) (by simp),hok,.of_eq hg⟩;refine Dp ((F _ hKb (nsK hns)).run callerA [] s₁ H ⟨[.ref a],[]⟩ [.ref a] [.ref a] _ _ hr e0 (hbind s₁ (.ref a)) (.cons rfl .nil) (hsp H hO hS)) λr s' h=>?_
  cases r with
  |error e=>exact(hCX H e s' h).elim
  |ok fl=>
   cases fl with
   |next=>exact BZ h
   |brk=>exact BZ h
   |cont=>exact BZ h
   |ret u=>
    let⟨v,H',os,bare,un,hok',r',q⟩:=h;have q':v=.bl true:=q;subst q';obtain rfl:u=C8 true:=r';refine⟨rfl,OldK.of_keep λb o e=>?_,os,bare⟩
    cases q:H b with
    |none=>exact un.keep b o e q (by intro z;exact absurd (show b∈([]:List AK)from z) (by simp)) (by simp)
    |some u=>
     rcases hO b with z|⟨ob,xs,z⟩
     .rw[q]at z;cases z
     .have z2:=un.frzs b ob _ z;let⟨e1,_⟩:=hok b _ z;let⟨e2,_⟩:=hok' b _ z2;rw[e]at e1;cases e1;exact e2
 cases hk:K.lookup a with
 |some o=>
  have e:=KX a o hk;rw[ha]at e
  cases e
  refine core (λ_=>AC) (λ_=>.inl rfl) (.inr ⟨_,vs.toArray,_,hk,rfl,rfl,rfl,by rw[AZ,lenV];exact hl,by simpa using rv⟩) (λb u z=>by have z':(AC:Option HO)=AA u:=z;cases z') (λb z=>absurd rfl z) λz=>absurd rfl z
 |none=>
  refine core (λb=>if b=a then AA (.frz {cls:=.type "list",data:=.seq vs.toArray} (.lst (ns.map V.int)))else AC) (λb=>?_) (.inl (.inr ⟨{cls:=.type "list",data:=.seq vs.toArray},if_pos rfl⟩)) (λb u z=>?_) (λb z=>?_) λ_=>hk
  .by_cases hb:b=a
   .exact .inr ⟨_,_,if_pos hb⟩
   .exact .inl (if_neg hb)
  .by_cases hb:b=a
   .have z':=(if_pos hb).symm.trans z
    cases z'
    subst hb;exact⟨ha,by rw[AQ];exact hl,vs,_,rv,ha⟩
   .have z':=(if_neg hb).symm.trans z
    cases z'
  .by_cases hb:b=a
   .exact hb
   .exact absurd (if_neg hb) z
theorem walk_of{l:Em}{n k:Nat}{q:A4}{loose:List AW}{XP:(AW->Option AF)->Aw->Prop}{YP:Aa->Aw->Prop}{d:DefRec}{K:Params->AE}{CX:Aa->CXT}{sp:Aa->Sp}{x:AW}
  (hn:l.most=AA n) (hn2:n<=sizeLine) (hdf:d.params.defaults=[]) (hr:yav k callerA)
  (hY:∀(w:Aa) (h:Aw),YP w h->(K w.params).In h)
  (F:∀(w:Aa) (mg:AW->Option AF) (fa:AK) (h:Aw),(K w.params).In h->h.Ns mainGlobals mg->mg d.name=AA (.ref fa) ->
   ∃fd:Ax,(∀(s:AI) (u:AF),Es s fd ⟨[u],[]⟩ [(x,u)]) /\
    ∀base:Aw,(K w.params).In base->base.Ns mainGlobals mg->yaK l.prog w (K w.params) mg base (CX w) k fa fd [x] (sp w))
  (hsp:∀(w:Aa) (H:Hp) (a:AK) (ns:List Int),ns.length<=n->Only H->SqL (K w.params) H a (ns.map V.int)->sp w [.ref a] H (λv _=>v=.bl AD) λ_ _ _=>False)
  (hCX:∀(w:Aa) (H:Hp) (s:AI) (e:AF) (s':AI),CX w [] H s (λ_ _ _=>False) e s'->False):
  Gx q loose XP YP l.row.toRowW d [] (λf vs=>HH f vs):=by
 refine Att.attach_call hn hdf λw s₀ s₁ mg mb fa o pm cd doc a vs ns G Y ho hd hcd hmg hobj hints hlen hg=>?_;have KX:=hY w _ Y;let⟨fd,hb,hF⟩:=F w mg fa _ KX G.T.g hmg;exact zfi KX G.T.g G.T.b G.T.builtins G.T.nolimit hg hobj hints (BV hlen hn2) hr hF hb (λH hO hS=>hsp w H a ns hlen hO hS) λH e s'=>hCX w H s₁ e s'
def inClass(s:Bo)(j:Nat):Stmt:=match s with
 |.ClassDef _ _ _ body _ _ _ _ _ _ _=>body.getD j (.Pass ⟨0,0,0,0⟩)
 |_=>.Pass ⟨0,0,0,0⟩
def yX(s:Bo):Arguments:=match s with
 |.FunctionDef _ a _ _ _ _ _ _ _ _=>a
 |_=>{posonlyargs:=[],args:=[],vararg:=AC,kwonlyargs:=[],kw_defaults:=[],kwarg:=AC,defaults:=[]}
def yE(s:Bo):List Stmt:=match s with
 |.FunctionDef _ _ b _ _ _ _ _ _ _=>b
 |_=>[]
def yg(s:Bo):Scope:=match s with
 |.FunctionDef _ _ _ _ _ _ sc _ _ _=>sc
 |_=>{kind:=.function,names:=[],isGenerator:=AG,isCoroutine:=AG}
abbrev CX0:CXT:=λ_ _ _ _ _ _=>False
abbrev E0:XK:=λ_ _ _=>False
structure Fun(K:AE)(x qual:AW)(st:Bo)(f:AK)(fd:Ax):Prop where
 ex:∃(oc:AF) (od:Option AK) (kV doc pm:AF) (an:Option AK) (cdv ct:AF) (osl:Array (Option AF)),
  fd=Bg x qual (yX st) (yE st) (yg st) .none kV doc pm an cdv ct/\K.lookup f=AA ⟨oc,od,.func fd,osl⟩/\CN K cdv qual=AD
 kp:An K (.ref f)=AD
section
variable {P:A4}{w:Aa}{K:AE}{mg:AW->Option AF}{base:Aw}
theorem Fun.binds{x qual:AW}{st:Bo}{f:AK}{fd:Ax}{ps:List AW}(F:Fun K x qual st f fd)
  (h:∀(kV doc pm:AF) (an:Option AK) (cdv ct:AF) (us:List AF),us.length=ps.length->bindArgs (Bg x qual (yX st) (yE st) (yg st) .none kV doc pm an cdv ct) ⟨us,[]⟩=pure (ps.zip us)):Binds K fd ps []:=by
 let⟨oc,od,kV,doc,pm,an,cdv,ct,osl,rfl,lk,hcd⟩:=F.ex;exact .all (h kV doc pm an cdv ct)
end
section
variable {X:Cx}
end
def yeE(i j:Int):Prop:=0<=j/\j<=1000000/\i.natAbs<2^200
def zfx{a n:Int}(ha:a.natAbs<2^200)(hn:n<=1000000):(Cv a:Int)+n<=2^27:=by
 have hb:Cv a<=200:=by
  unfold Cv;split
  .exact Bj _
  .rename_i h;have h0:a.natAbs≠0:=λz=>h (by simpa using Int.natAbs_eq_zero.1 z);exact(IB h0).2 ha
 lia
section
variable {X:Cx}
def zhM:OpR X (binaryOp .LShift) (rI yeE λi j=>.int (i*2^j.toNat)):=opI λ_ _ _ _ _ _ _ hc q=>lshift_int hc.1 (zfx hc.2.2 hc.2.1) q
end
end L2
namespace WE
open PySem PySem.Spec PyProof.Rows
open AutoSeq1 (wpAny_loadPart')
section
variable {pg:A4}{wd:Aa}{A:A9}{Er:AF->AI->Prop}{s:AI}
def zc3{it t:AK}{i:Nat}{xs:Array AF}{x:AF}{Q:AF->AI->Prop}(hi:s.heap.IsTupleIter it t i)(ht:s.heap.IsTuple t xs)(hx:xs[i]?=AA x)
  (k:∀h',h'.IsTupleIter it t (i+1)->BW it s.heap h'->Q x {s with heap:=h'}):AV (model pg wd) A (CT (.ref it)) Q Er s:=by
 let⟨oi,gi,ci,di⟩:=id hi;let⟨ot,gt,_,nt,dt⟩:=ht;unfold CT;refine AB (As (name:=AS "__next__") hi.typeIs CP (BC CP hi.typeIs Dq ?_ (Dj _)));show AV _ _ (field (.ref it) 0 >>= _) _ _ _;refine AB (BS gi di (x:=.ref t) rfl ?_);show AV _ _ (if (Ab t==BB)=AD then _ else _) _ _ _;rw[if_neg (show ¬((Ab t==BB)=AD)from λz=>AU z)];show AV _ _ (field (.ref it) 1 >>= _) _ _ _;refine AB (BS gi di (x:=.int i 0) rfl ?_);show AV _ _ (seqItems? (.ref t) >>= _) _ _ _;refine AB (Dt gt dt ?_);erw[Bw,hx];refine AB (Cn gi di (by simp) (AJ ⟨x,rfl,AJ (k _ ?_ (C6 ..))⟩));refine⟨_,DY _ gi (FP (DB di _)),(GW ..).trans ci,?_⟩;rw[DB di];simp[rawInt]
def zdY{it t:AK}{i:Nat}{xs:Array AF}{Q:AF->AI->Prop}(hh:A.handled=AC)(hi:s.heap.IsTupleIter it t i)(ht:s.heap.IsTuple t xs)(hx:xs[i]?=AC)
  (k:∀h' e,Gj it s.heap h'->(∃o,h'.get? e=AA o/\o.cls=.type "StopIteration")->Er (.ref e) {s with heap:=h'}):AV (model pg wd) A (CT (.ref it)) Q Er s:=by
 let⟨oi,gi,ci,di⟩:=id hi;let⟨ot,gt,_,nt,dt⟩:=ht;unfold CT;refine AB (As (name:=AS "__next__") hi.typeIs CP (BC CP hi.typeIs Dq ?_ (Dj _)));show AV _ _ (field (.ref it) 0 >>= _) _ _ _;refine AB (BS gi di (x:=.ref t) rfl ?_);show AV _ _ (if (Ab t==BB)=AD then _ else _) _ _ _;rw[if_neg (show ¬((Ab t==BB)=AD)from λz=>AU z)];show AV _ _ (field (.ref it) 1 >>= _) _ _ _;refine AB (BS gi di (x:=.int i 0) rfl ?_);show AV _ _ (seqItems? (.ref t) >>= _) _ _ _;refine AB (Dt gt dt ?_);erw[Bw,hx];refine AB (GB (AB (Cn gi di (by simp) ?_)));show AV _ _ (newExc (.type "StopIteration") [] >>= _) _ _ _;refine AB ?_;erw[newExc,newTuple];refine AB (Ag ?_ (by size_fits));refine AB (m:=firstArgMember _ _) (Gk (a:=BB) (by first|rfl|(erw[firstArgMember];rfl)) ?_);refine Ag ?_ (by size_fits);erw[raiseNew];refine AB (Fp ?_);first|rw[show A.in1.handled=AC from hh]|rw[hh]
 refine AB (AJ (Gm ?_));exact k _ _ (((C6 ..).extBut.push _).push _) ⟨_,AT _ rfl,rfl⟩
end
theorem draws_tuple{pg:A4}{wd:Aa}{A:A9}(hh:A.handled=AC)(it t:AK)(hne:t≠it)(xs:Array AF):
  Draws pg wd A it [it,t] xs.size (λi v=>xs[i]?=AA v) (λi h=>h.IsTupleIter it t i/\h.IsTuple t xs) where
 live:=λ_ _ st=>let ⟨o,g,_⟩:=st.1;⟨o,g⟩
 frame:=λ_ _ _ st kp=>⟨let ⟨o,g,r⟩:=st.1;⟨o,kp it (by simp) o g,r⟩,let ⟨o,g,r⟩:=st.2;⟨o,kp t (by simp) o g,r⟩⟩
 item:=λi s Q E hi st hQ=>zc3 st.1 st.2 (x:=xs[i]) (by simp[hi]) λh' hit' hs'=>hQ _ h' s.toks (by simp[hi]) ⟨hit',st.2.extBut hs'.extBut hne⟩ hs'
 done:=λs Q E st hE=>zdY hh st.1 st.2 (by simp) hE
def zbT(l:AK)(xs:Array AF)(n:Nat)(dc:Option AK)(sl:Array (Option AF)):
  Meets (Ey.«enumerate.__new__» ⟨[.type "enumerate",.ref l],[]⟩) (λ_ R s=>s.heap.get? l=AA {cls:=.type "tuple",dict:=dc,data:=.seq xs n,slots:=sl} /\
   R (.ok (.ret (.ref (s.heap.push {cls:=.type "tuple_iterator",data:=.fields #[.ref l,.int 0 0]}).objs.size)))
    {s with heap:=(s.heap.push {cls:=.type "tuple_iterator",data:=.fields #[.ref l,.int 0 0]}).push {cls:=.type "enumerate",data:=.fields #[.none,.bool AG,.ref s.heap.objs.size,rawInt 0,.none,.none]} }):=
 .of_wp λprog w A R s h=>by
  let⟨hp,g,d,tk,os⟩:=s;let⟨gl,h⟩:=h;have hsub:=sub_enumerate;have hT:Heap.IsTuple (Shared.heap ⟨hp,g,d,tk,os⟩) l xs:=⟨_,gl,rfl,n,rfl⟩
  wp_walk using wpAny_loadPart' gl
  refine wpAny_stack_any λst=>AJ ?_;split
  .rename_i c _ _ _ _ _
   cases (c==Fz "enumerate")
   .wp_walk using wpAny_loadPart' gl,Ca hT
    exact⟨_,rfl,h⟩
   .wp_walk using wpAny_loadPart' gl,Ca hT
    exact⟨_,rfl,h⟩
  .wp_walk using wpAny_loadPart' gl,Ca hT
   exact⟨_,rfl,h⟩
theorem call_enumT{pg:A4}{wd:Aa}{A:A9}{Er:AF->AI->Prop}{s:AI}{l:AK}{xs:Array AF}{Q:AF->AI->Prop}(hT:s.heap.IsTuple l xs)
  (k:∀h',IsEnum h' (s.heap.objs.size+1) s.heap.objs.size 0 .none->h'.IsTupleIter s.heap.objs.size l 0->h'.objs.size=s.heap.objs.size+2 ->
   (∀b o,s.heap.get? b=AA o->h'.get? b=AA o)->Q (.ref (s.heap.objs.size+1)) {s with heap:=h'}):AV (model pg wd) A (call (.type "enumerate") [.ref l]) Q Er s:=by
 let⟨⟨c,dct,dt,sl⟩,gl,hc,n,hd⟩:=hT
 cases (show c=.type "tuple" from hc)
 cases (show dt=.seq xs n from hd)
 refine callType_new F.called_enumerate ⋯ (F.typeCall_enumerate_1 _) (F.newCall_enumerate_1 _) (λobj=>F.args_object_init_2 obj _) F.entry_enumerate_new (zbT l xs n dct sl) ⟨gl,?_⟩;have hz:(s.heap.push {cls:=.type "tuple_iterator",data:=.fields #[.ref l,.int 0 0]}).objs.size=s.heap.objs.size+1:=DJ ..;show _/\_;rw[hz];have he:IsEnum ((s.heap.push {cls:=.type "tuple_iterator",data:=.fields #[.ref l,.int 0 0]}).push {cls:=.type "enumerate",data:=.fields #[.none,.bool AG,.ref s.heap.objs.size,rawInt 0,.none,.none]}) (s.heap.objs.size+1) s.heap.objs.size 0 .none:=by
  have q:=AT (s.heap.push {cls:=.type "tuple_iterator",data:=.fields #[.ref l,.int 0 0]}) (o:={cls:=.type "enumerate",data:=.fields #[.none,.bool AG,.ref s.heap.objs.size,rawInt 0,.none,.none]}) rfl;rw[hz]at q;exact q
 exact⟨⟨_,he,rfl⟩,k _ he ⟨_,AL _ (AT _ rfl),rfl,rfl⟩ (by rw[DJ,hz]) λb o y=>AL _ (AL _ y)⟩
end WE
namespace L2
open PySem PySem.Spec PyProof.Rows
section
variable {X:Cx}
def ycz(i j:Int):Prop:=0<j/\j<10000000000000000000000000000000000000000000000000000000000000000000000
def zfv:OpR X (binaryOp .FloorDiv) (rI ycz λi j=>.int (i/j)):=opI λi j _ _ _ _ _ hc q=>by
 let⟨h1,h2⟩:=hc;refine floordiv_int ∅ (by rw[Int.fdiv_eq_ediv_of_nonneg i ∅];exact q) (.inl (PyProof.noPylong_of_log2 ?_));have h0:j.natAbs≠0:=by lia
 refine A8 ((IB h0).mpr (?_:j.natAbs<2^250)) ⋯;have e:(10000000000000000000000000000000000000000000000000000000000000000000000:Nat)<2^250:=by decide
 lia
end
section
variable {X:Cx}{π:List (AK×Bm)}{σ:St}{H:Hp}{s:AI}{h':Aw}
theorem Inv.turnLaid{t':Nat}{ch:List AK}{T:AK}{o:HO}(I:Inv X π σ H s)(hf:∀b∈ch,ya2 X π H b)(k:∀b u,b∉ch->s.heap.get? b=AA u->h'.get? b=AA u)
  (hp:s.heap.objs.size<=T) (new:yt X.prog X.w (upd H T o) h' T o):Inv X π σ (upd H T o) {s with heap:=h',toks:=t'}:=by
 have hn:H T=none:=I.hok.fresh hp;have nch:∀b u,H b=AA u->b∉ch:=λb u e z=>by
  have q:=(hf b z).1;rw[e]at q
  cases q
 refine I.step (g':=s.gens) (d':=s.drawn) (ch:=ch) (λb hb=>?_) (λb u _ _ hc e _=>k b u hc e) (λb u _ _ hc e _=>⟨u.slots,k b u hc e⟩) (λb u _ e n=>?_) (λb u hc e=>⟨u,k b u hc e⟩) (λb xs e=>?_) (λb u v e=>?_) (λb ps e=>⟨#[],?_⟩) (λm hm=>?_) (λb u e=>?_) I.bare
 .let⟨f0,f1,f2,f3,f4,f5⟩:=hf b hb;exact⟨f3,f1,f4,f5⟩
 .rw[za (Al (A8 (AX e) hp))];exact n
 .rw[za (zc e hn)];exact e
 .rw[za (zc e hn)];exact e
 .rw[za (zc e hn),e];simp
 .let⟨ob,es,ep,ho,r⟩:=hm;exact⟨ob,es,ep,k _ ob (λz=>(hf _ z).2.1 rfl) ho,r⟩
 .by_cases hb:b=T
  .subst hb;rw[zb]at e
   cases e
   exact new
  .rw[za hb]at e;refine(I.hok b u e).stay (λc v hc q=>k c v ?_ q) (λc q=>by rw[za (zc q hn)];exact q) λc xs q=>by rw[za (zc q hn)];exact q
   rcases hc with z|z
   .rw[z];exact nch b u e
   .exact nch c _ z
theorem Inv.turnedL{t':Nat}{ch:List AK}(I:Inv X π σ H s)(hf:∀b∈ch,ya2 X π H b)(k:∀b u,b∉ch->s.heap.get? b=AA u->h'.get? b=AA u):Inv X π σ H {s with heap:=h',toks:=t'}:=by
 have nch:∀b u,H b=AA u->b∉ch:=λb u e z=>by
  have q:=(hf b z).1;rw[e]at q
  cases q
 refine I.step (g':=s.gens) (d':=s.drawn) (ch:=ch) (λb hb=>?_) (λb u _ _ hc e _=>k b u hc e) (λb u _ _ hc e _=>⟨u.slots,k b u hc e⟩) (λ_ _ _ _ n=>n) (λb u hc e=>⟨u,k b u hc e⟩) (λ_ _ e=>e) (λ_ _ _ e=>e) (λb ps e=>⟨#[],by rw[e];simp⟩) (λm hm=>?_) (λb u e=>?_) I.bare
 .let⟨f0,f1,f2,f3,f4,f5⟩:=hf b hb;exact⟨f3,f1,f4,f5⟩
 .let⟨ob,es,ep,ho,r⟩:=hm;exact⟨ob,es,ep,k _ ob (λz=>(hf _ z).2.1 rfl) ho,r⟩
 .refine(I.hok b u e).stay (λc v hc q=>k c v ?_ q) (λ_ q=>q) λ_ _ q=>q;rcases hc with z|z
  .rw[z];exact nch b u e
  .exact nch c _ z
end
def Ite(K:AE)(a:AK):It:=
 ⟨λi H=>∃xs x,SqT K H a xs/\xs[i]?=AA x,λi H x H'=>∃T,H T=AC/\x=.ref T/\∀xs y,SqT K H a xs->xs[i]?=AA y->H'=upd H T (.tup [.int i,y]),λi H=>∃xs,SqT K H a xs/\xs.length=i⟩
def zaN{h:Aw}{a b:AK}{o u:Bm}(x:h.get? a=AA o)(y:h.get? b=AA u)(z:o.cls≠u.cls):a≠b:=λe=>by
 subst e;rw[x]at y
 cases y
 exact z rfl
def zcZ{P:A4}{w:Aa}{K:AE}{es:List AY}{kk:Nat}{pos:CG}(a e it:AK):
  Turn P w K (.Tuple es kk pos) (Ite K a) [e,it] e (λi h=>(∃old,IsEnum h e it i old)/\h.IsTupleIter it a i) where
 mem:=by simp
 obj:=λi h st b hb=>by
  let⟨⟨old,he⟩,oi,gi,ci,di⟩:=st;rcases Ac.mp hb with z|z
  .subst z;exact⟨_,he,λv y=>nomatch y⟩
  .have z:b=it:=by simpa using z
   subst z;exact⟨oi,gi,λv y=>by rw[di]at y;cases y⟩
 keep:=λi h h' st k=>by
  let⟨⟨old,he⟩,oi,gi,r⟩:=st;exact⟨⟨old,k e (by simp) _ he⟩,oi,k it (by simp) _ gi,r⟩
 item:=by
  intro X hP hw hK hc i π s σ H E I hf st hg;subst hP hw hK;let⟨xs,x,hq,hx⟩:=hg;let⟨its,rv,p,hz⟩:=I.tuple hq;let⟨⟨old,he⟩,hi⟩:=st;let⟨oi,gi,ci,di⟩:=id hi;let⟨oa,ga,ca,na,da⟩:=id p;have nai:a≠it:=zaN ga gi (by rw[ca,ci];exact λz=>absurd (B5 z) ⋯);have nei:e≠it:=zaN he gi (by rw[ci];exact λz=>absurd (B5 z) ⋯);have nea:e≠a:=zaN he ga (by rw[ca];exact λz=>absurd (B5 z) ⋯);have hl:=rv.length;have hil:i<its.toArray.size:=by
   have:=(Ar.mp hx).1;simpa using (by lia:i<its.length)
  have W:=GX (prog:=X.prog) (w:=X.w) (A:=X.A) (WE.draws_tuple (pg:=X.prog) (wd:=X.w) (A:=X.A.in1) (I.ok.hd hc) it a nai its.toArray) e nei (by simp[nei,nea]) (by simp);refine wpAny_pyNext_enum_itemD (WE.draws_tuple (pg:=X.prog) (wd:=X.w) (A:=X.A.in1) (I.ok.hd hc) it a nai its.toArray) he ⟨hi,p⟩ hil nei (by simp[nei,nea]) λy h1 tk hy ho hs' hT hsz' kp'=>⟨_,rfl,?_⟩;obtain⟨T,eT⟩:∃T,s.heap.objs.size=T:=⟨_,rfl⟩;have hsz:s.heap.objs.size<=T:=GQ eT;have kp:∀b o,b∉[e,it]->s.heap.get? b=AA o->h1.get? b=AA o:=λb o hb y=>kp' b o (λe'=>hb (by simp[e'])) (λe'=>hb (by simp[e'])) y;have mid:(∃x,IsEnumOut h1 e it ((i:Int)+1) x s.heap.objs.size)/\(h1.IsTupleIter it a (i+1)/\h1.IsTuple a its.toArray)/\s.heap.objs.size≠e/\s.heap.objs.size≠it:=⟨⟨_,ho⟩,hs',CZ (AX he),CZ (AX gi)⟩;rw[eT]at mid hT ⊢;refine W.go es kk pos i T _ _ E mid λh2 st2 kp2=>?_;let⟨u,hu,ru⟩:=rv.get hx;have ey:y=u:=A3 (hy.symm.trans (by simpa using hu));subst ey;have hch:∀b o,b∉[e,it]->s.heap.get? b=AA o->h2.get? b=AA o:=λb o hb q=>kp2 b o hb (kp b o hb q);have hTw:=W.apart i T h1 mid;have new:yt X.prog X.w (upd H T (.tup [.int i,x])) h2 T (.tup [.int i,x]):=by
   exact⟨by show 2<=sizeLine;decide,[.int i tk,y],.cons ⟨tk,rfl⟩ (.cons ru .nil),kp2 T _ hTw hT⟩
  have I2:=I.turnLaid (t':=tk+1) hf hch hsz new;refine⟨.ref T,_,I2,rfl,⟨T,I.hok.fresh hsz,rfl,λys z hy' hz'=>?_⟩,⟨st2.1,st2.2.1⟩,λb hb=>?_⟩
  .rw[I.tuple_inj hy' hq]at hz';rw[hx]at hz'
   cases hz'
   rfl
  .rw[za (λz:b=T=>hTw (z ▸ hb))];exact(hf b hb).1
 done:=by
  intro X hP hw hK hc i π s σ H E I hf st hg;subst hP hw hK;let⟨xs,hq,hx⟩:=hg;let⟨its,rv,p,hz⟩:=I.tuple hq;let⟨⟨old,he⟩,hi⟩:=st;let⟨oi,gi,ci,di⟩:=id hi;let⟨oa,ga,ca,na,da⟩:=id p;have nai:a≠it:=zaN ga gi (by rw[ca,ci];exact λz=>absurd (B5 z) ⋯);have nei:e≠it:=zaN he gi (by rw[ci];exact λz=>absurd (B5 z) ⋯);have nea:e≠a:=zaN he ga (by rw[ca];exact λz=>absurd (B5 z) ⋯);have hl:=rv.length;have W:=GX (prog:=X.prog) (w:=X.w) (A:=X.A) (WE.draws_tuple (pg:=X.prog) (wd:=X.w) (A:=X.A.in1) (I.ok.hd hc) it a nai its.toArray) e nei (by simp[nei,nea]) (by simp);have en:its.toArray.size=i:=by simp;lia
  refine W.done s _ E (by rw[en];exact⟨⟨old,he⟩,hi,p⟩) λh2 tk kp=>⟨rfl,I.turnedL (t':=tk) hf kp⟩
 self:=λ_ _ _ _ _ st q=>by
  let⟨⟨old,he⟩,_⟩:=st;exact GY he q
def yfm(K:AE)(ta:TA):TI:=λσ H R=>ta σ H λvs H1=>∃a,vs=[.ref a]/\(∃xs,SqT K H1 a xs)/\R (Ite K a) H1
def ze2{X:Cx}{a:AY}{es:List AY}{kk:Nat}{tp:CG}{ta:TA}{p pos:CG}(hg:Gl X "enumerate")(hm:X.mg "enumerate"=AC)(ha:PA X [a] ta)(hs:starEach [a] X.env=[(AG,eval a X.env)]:=by rfl):
  PI X (.Tuple es kk tp) (.Call (.Name "enumerate" p) [a] [] pos) (yfm X.K ta):=by
 intro π s σ H R I h;refine Bp (zaA I hg hm boot_enumerate ?_);refine Bc (thn (ha pos π s σ H _ I h) λus s1 kq=>?_) hs rfl;let⟨vs,H1,I1,r1,q1⟩:=kq;let⟨l,rfl,⟨xs,hq⟩,q⟩:=q1;let⟨u,rfl,ru⟩:=Vals.one r1
 cases (show u=Ab l from ru)
 let⟨its,rv,pt,hz⟩:=I1.tuple hq;refine WE.call_enumT (show s1.heap.IsTuple l its.toArray from pt) λh1 he hi hsz kp=>?_;refine GY he ?_;refine⟨_,[s1.heap.objs.size+1,s1.heap.objs.size],_,_,H1,rfl,I1.kept (t':=s1.toks) kp,zcZ l _ s1.heap.objs.size,⟨⟨_,he⟩,hi⟩,λb hb=>?_,q⟩;have hb2:s1.heap.objs.size<=b:=by
  rcases Ac.mp hb with z|z
  .subst z;exact EV _
  .have z:b=s1.heap.objs.size:=by simpa using z
   subst z;exact AR _
 exact I1.fpOk hb2 (I1.hok.fresh hb2)
abbrev No:AF->AI->Prop:=λ_ _=>False
abbrev ycK(ifs:List AY)(env:Env):IL Bool:=forIn ifs AD λc r=>if r=AD then do let ok <-isTrue c env (eval c env);pure (De ok)else pure (De r)
section
variable {pg:A4}{wd:Aa}{A:A9}{R:GF->AI->Prop}{s:AI}
def zdV{elt tg iter:AY}{ifs:List AY}{sc:BR}{pos:CG}{it acc:AF}{env:Env}(I:Nat->AI->Prop)
  (turn:∀n s,I n s->AV (model pg wd) A (pyNext it) (λr s1=>match r with
   |none=>R (.ok .next) s1
   |some v=>AV (model pg wd) A (letOwnedTupleGo tg it v) (λ_ s2=>AV (model pg wd) A (assign tg env v) (λ_ s3=>AV (model pg wd) A (ycK ifs env) (λok s4=>
     if ok=AD then AV (model pg wd) A (eval elt env) (λx s5=>AV (model pg wd) A (call (.builtin "list.append") [acc,x]) (λ_ s6=>∃m,m<n/\I m s6) No s5) No s4
     else ∃m,m<n/\I m s4) No s3) No s2) No s1) No s)
  (n:Nat) (h:I n s):codeAny (model pg wd) A (.compLoop (.ListComp elt [⟨tg,iter,ifs,0⟩] sc pos) 0 it acc env) R s:=by
 refine codeAny_loop rfl I (λn s hI=>?_) n h;show AV _ A ((compTurn (.ListComp elt [⟨tg,iter,ifs,0⟩] sc pos) 0 it acc env).onRaise (λx=>do noteFrame x env;theTreesLotGoes x)) _ _ s;refine wpAny_noted ?_;rw[compTurn_list];refine AB (D9 (AB (Cm (turn n s hI) (λr s1 h1=>?_) λ_ _ f=>f.elim)))
 cases r with
 |none=>exact AJ h1
 |some v=>
  refine AB (Cm h1 (λ_ s2 h2=>AB (Cm h2 (λ_ s3 h3=>AB (Cm h3 (λok s4 h4=>?_) λ_ _ f=>f.elim)) λ_ _ f=>f.elim)) λ_ _ f=>f.elim)
  cases ok with
  |false=>exact AJ ⟨rfl,h4⟩
  |true=>exact AB (AB (Cm h4 (λx s5 h5=>AB (Cm h5 (λ_ s6 h6=>AJ (AJ ⟨rfl,h6⟩)) λ_ _ f=>f.elim)) λ_ _ f=>f.elim))
end
def yV(env:Env)(r:List (AW×AK))(x:AW×DL):List (AW×AK):=if x.2=.free then(x.1,(env.cells.lookup x.1).getD 0)::r else r
def ycy(sc:BR)(env:Env):List (AW×AK):=sc.names.foldl (yV env) []
def zc8{α β:Type}{l:List α}{f:α->β->IL (ForInStep β)}{g:β->α->β}(h:∀x∈l,∀c,f x c=pure (.yield (g c x))):∀c:β,forIn l c f=pure (l.foldl g c):=by
 induction l with
 |nil=>exact λ_=>rfl
 |cons x l ih=>
  intro c;rw[FF,h x A0,pure_bind,Cf];exact ih (λy hy=>h y (AN _ hy)) (g c x)
def zG{sc:BR}{env:Env}(hf:∀y∈sc.names,y.2=.free->∃c,env.cells.lookup y.1=AA c):closureFor sc env=pure (ycy sc env):=by
 erw[closureFor];rw[zc8 (g:=yV env) (λx hx c=>?_)]
 .rfl
 .let⟨n,k⟩:=x
  by_cases hk:k=.free
  .subst hk;let⟨a,ha⟩:=hf _ hx rfl;have ha':env.cells.lookup n=AA a:=ha;simp[yV,cellOf,ha']
  .have hb:(k==Cj)=false:=by simpa using hk
   simp[yV,hk,hb]
def zaU{env:Env}:∀(l:List (AW×DL)) (r:List (AW×AK)),(∀y∈l,y.2=.free->∃c,env.cells.lookup y.1=AA c)->(∀x c,r.lookup x=AA c->env.cells.lookup x=AA c) ->
  ∀x c,(l.foldl (yV env) r).lookup x=AA c->env.cells.lookup x=AA c
 |[],r,_,h=>h
 |y::l,r,hf,h=>by
  refine zaU l (yV env r y) (λz hz=>hf z (AN _ hz)) λx c e=>?_;unfold yV at e
  by_cases hk:y.2=.free
  .let⟨a,ha⟩:=hf y A0 hk;rw[if_pos hk,Ba]at e
   cases hx:x==y.1 with
   |true=>
    rw[hx,ha]at e;rw[eq_of_beq hx,ha];exact e
   |false=>
    rw[hx]at e;exact h x c e
  .rw[if_neg hk]at e;exact h x c e
def zaF{env:Env}{x:AW}:∀(l:List (AW×DL)) (r:List (AW×AK)),(∃c,r.lookup x=AA c)->∃c,(l.foldl (yV env) r).lookup x=AA c
 |[],r,h=>h
 |y::l,r,h=>by
  refine zaF l (yV env r y) ?_;unfold yV
  by_cases hk:y.2=.free
  .rw[if_pos hk,Ba]
   cases hx:x==y.1 with
   |true=>exact⟨_,rfl⟩
   |false=>exact h
  .rw[if_neg hk];exact h
def zaa{env:Env}:∀(l:List (AW×DL)) (r:List (AW×AK)),∀y∈l,y.2=.free->∃c,(l.foldl (yV env) r).lookup y.1=AA c
 |[],_,y,hy,_=>nomatch hy
 |z::l,r,y,hy,hk=>by
  rcases Ac.mp hy with e|e
  .subst e;refine zaF l (yV env r y) ?_;unfold yV;rw[if_pos hk,Ba,beq_self_eq_true];exact⟨_,rfl⟩
  .exact zaa l (yV env r z) y e hk
theorem mem_of_lookup{β:Type}{x:AW}{k:β}:∀{l:List (AW×β)},l.lookup x=AA k->(x,k)∈l
 |[],h=>nomatch h
 |y::l,h=>by
  rw[Ba]at h
  cases hx:x==y.1 with
  |true=>
   rw[hx]at h
   cases h
   rw[eq_of_beq hx];exact A0
  |false=>
   rw[hx]at h;exact AN _ (mem_of_lookup h)
def ycp(env:Env)(x:AW)(k:DL):NameKind:=if (k==.free&&env.scope.kind==.function&&env.kindOf x==AA .cell)=AD then .cell else k
def zaT{sc:BR}{env:Env}(x:AW):(relabel sc env).names.lookup x=(sc.names.lookup x).map (ycp env x):=by
 unfold relabel;show (sc.names.map λ(n,k)=>if (k==Cj&&env.scope.kind==.function&&env.kindOf n==AA .cell)then(n,Fq)else(n,k)).lookup x=_
 induction sc.names with
 |nil=>rfl
 |cons y l ih=>
  let⟨n,k⟩:=y;rw[AM];show C0 x ((if (k==Cj&&env.scope.kind==.function&&env.kindOf n==AA .cell)=AD then(n,Fq)else(n,k))::_)=_
  cases hx:x==n with
  |true=>
   have e:=eq_of_beq hx;subst e
   by_cases hc:(k==Cj&&env.scope.kind==.function&&env.kindOf x==AA .cell)=AD
   .rw[if_pos hc,Ba,beq_self_eq_true];simp[ycp,hc]
   .rw[if_neg hc,Ba,beq_self_eq_true];simp[ycp,hc]
  |false=>
   by_cases hc:(k==Cj&&env.scope.kind==.function&&env.kindOf n==AA .cell)=AD
   .rw[if_pos hc];erw[Ba,hx];exact ih
   .rw[if_neg hc];erw[Ba,hx];exact ih
structure CI where
 C:AK
 s:AI
 H:Hp
 fp:List AK
def cxC(X:Cx)(sc:BR)(NC:List AW)(j:CI):Cx where
 prog:=X.prog
 w:=X.w
 K:=X.K
 mg:=X.mg
 base:=X.base
 A:=X.A
 N:=NC
 s₀:=j.s
 H₀:=j.H
 env:=compEnvC sc (ycy sc X.env) j.C X.env
 outer:=X.stack
 stack:=X.stack
 ex:=j.fp
 fn:=λ_=>AG
 calm:=X.calm
 pn:=[]
 xe:=No
def inn(slots:List (Option Nat))(σ:St):St:=slots.map λo=>o.bind λj=>(σ[j]?).join
structure yJ(X:Cx)(sc:BR)(NC:List AW)(slots:List (Option Nat)):Prop where
 kind:sc.kind=.function
 names:∀y∈sc.names,y.2=.local->sc.names.lookup y.1=AA .local
 nocell:∀y∈sc.names,y.2 ≠ .cell
 free:∀y∈sc.names,y.2=.free->X.env.scope.names.lookup y.1=AA .cell
 slot:∀(i:Nat) (x:AW) (j:Nat),NC[i]?=AA x->slots[i]?=AA (AA j)->X.N[j]?=AA x/\sc.names.lookup x=AA .free
 len:slots.length=NC.length
def zln{X:Cx}{sc:BR}{NC:List AW}{slots:List (Option Nat)}(N:List AW)(so:BR)(hN:X.N=N)(hs:X.env.scope=so)(kind:sc.kind=.function)
  (names:∀y∈sc.names,y.2=.local->sc.names.lookup y.1=AA .local) (nocell:∀y∈sc.names,y.2 ≠ .cell) (free:∀y∈sc.names,y.2=.free->so.names.lookup y.1=AA .cell)
  (slot:∀p∈NC.zip slots,(p.2.all λj=>decide (N[j]?=AA p.1/\sc.names.lookup p.1=AA .free))=AD) (len:slots.length=NC.length):yJ X sc NC slots:=by
 subst hN hs;refine⟨kind,names,nocell,free,λi x j e1 e2=>?_,len⟩;have hm:(x,AA j)∈NC.zip slots:=A5 (i:=i) (by rw[List.getElem?_zip_eq_some];exact⟨e1,e2⟩);have:=slot _ hm;simpa using this
section
variable {X:Cx}{sc:BR}{NC:List AW}{slots:List (Option Nat)}{π:List (AK×Bm)}{σ:St}{H:Hp}{s:AI}
theorem yJ.cells(O:yJ X sc NC slots)(ok:X.Ok):∀y∈sc.names,y.2=.free->∃c,X.env.cells.lookup y.1=AA c:=λy hy hk=>ok.has y.1 (.inl (O.free y hy hk))
theorem yJ.sub(O:yJ X sc NC slots)(ok:X.Ok):∀x c,(ycy sc X.env).lookup x=AA c->X.env.cells.lookup x=AA c:=zaU sc.names [] (O.cells ok) λ_ _ e=>nomatch e
theorem yJ.rel(O:yJ X sc NC slots)(ok:X.Ok){x:AW}(h:sc.names.lookup x=AA .free):(relabel sc X.env).names.lookup x=AA .cell:=by
 rw[zaT,h];have e:X.env.kindOf x=AA .cell:=O.free _ (mem_of_lookup h) rfl;simp[ycp,ok.kind,e]
def zda(I:Inv X π σ H s)(O:yJ X sc NC slots){fp:List AK}(hf:∀b∈fp,ya2 X π H b)(hob:∀b∈fp,∃o,s.heap.get? b=AA o){h1:Aw}{t':Nat}{m:AW->Option AF}(hns:h1.Ns s.heap.objs.size m)
  (hk:∀b o,s.heap.get? b=AA o->h1.get? b=AA o):Inv (cxC X sc NC ⟨s.heap.objs.size,s,H,fp⟩) [] (inn slots σ) H {s with heap:=h1,toks:=t'}:=by
 have sub:=O.sub I.ok;have fss:∀b,b≠X.env.locals->b∉X.fs->b∉frs X.stack:=λb h1 h2 hb=>(Ac.mp (I.stkSub b hb)).elim h1 h2;have ltC:∀x c,(ycy sc X.env).lookup x=AA c->c<s.heap.objs.size:=λx c e=>by
  let⟨v,q⟩:=I.cell x c (sub x c e);exact q.lt
 refine⟨⟨I.ok.mod,O.kind,I.ok.glob,I.ok.blt,AR _,λx y c e1 e2=>I.ok.inj x y c (sub x c e1) (sub y c e2),λx hx=>?_,λ_ _ z=>(nomatch z),I.ok.hd,I.ok.frames,.inl rfl,λb hb=>⟨?_,λx c e=>(hf b hb).2.2.2.2.1 x c (sub x c e)⟩,I.bs,BV I.ok.bsz I.sz,λb o e hb=>?_,λb hb=>fss b (hf b hb).2.1 (hf b hb).2.2.1,I.stack,I.stkFree⟩,
  rfl,I.bare,Un.kept hk,⟨m,hns,λi x v e1 e2 e3=>?_⟩,λx c e=>?_,I.hok.fresh (AR _),λx c e=>I.freeC x c (sub x c e),λp hp=>(nomatch hp),I.hok.kept hk,?_⟩
 .have hx':(relabel sc X.env).names.lookup x=AA .cell \/ (relabel sc X.env).names.lookup x=AA .free:=hx;rw[zaT]at hx'
  cases q:sc.names.lookup x with
  |none=>
   rw[q]at hx';rcases hx' with z|z<;>cases z
  |some k=>
   have hm:=mem_of_lookup q;have hkf:k=.free:=by
    rw[q]at hx';have nc:=O.nocell _ hm
    by_cases hk:k=.free
    .exact hk
    .exfalso;have hb:(k==Cj)=false:=by simpa using hk
     rcases hx' with z|z
     .simp[ycp,hb]at z;exact nc z
     .simp[ycp,hb]at z;exact hk z
   subst hkf;exact zaa sc.names [] _ hm rfl
 .let⟨o,e⟩:=hob b hb;exact Al (AX e)
 .rcases (hf b hb).2.2.2.1 with z|z
  .exact I.ok.noex b o e z
  .exact absurd (A8 (AX e) (BV I.ok.bsz z)) (C3 _)
 .obtain⟨j,e4,e5⟩:∃j,slots[i]?=AA (AA j)/\σ[j]?=AA (AA v):=by
   have e2':(slots.map λo=>o.bind λj=>(σ[j]?).join)[i]?=AA (AA v):=e2;rw[BJ]at e2'
   cases q:slots[i]? with
   |none=>
    rw[q]at e2'
    cases e2'
   |some o=>
    rw[q]at e2'
    cases o with
    |none=>cases e2'
    |some j=>
     refine⟨j,rfl,?_⟩;have e6:(σ[j]?).join=AA v:=A3 e2'
     cases q2:σ[j]? with
     |none=>
      rw[q2]at e6
      cases e6
     |some w=>
      rw[q2]at e6;have e7:w=AA v:=e6;rw[e7]
  let⟨e6,e7⟩:=O.slot i x j e1 e4;have kc:X.env.scope.names.lookup x=AA .cell:=O.free _ (mem_of_lookup e7) rfl;let⟨m0,hn0,hl⟩:=I.loc;let⟨u,r,lk⟩:=hl j x v e6 e5 (.inr (.inl kc));refine⟨u,r,.inr ⟨.inl (O.rel I.ok e7),?_⟩⟩;rcases lk with⟨z,_⟩|⟨_,c,hc,o,ho,hd⟩
  .rw[show X.env.kindOf x=AA .cell from kc]at z
   cases z
  .let⟨c',hc'⟩:=zaa (env:=X.env) sc.names [] _ (mem_of_lookup e7) rfl;have e8:c'=c:=A3 ((sub x c' hc').symm.trans hc);subst e8;exact⟨c',hc',o,hk _ _ ho,hd⟩
 .let⟨v,o,ho,hd⟩:=I.cell x c (sub x c e);exact⟨v,o,hk _ _ ho,hd⟩
 .show (slots.map λo=>o.bind λj=>(σ[j]?).join).length=NC.length;rw[AQ,O.len]
def zcW(I:Inv X π σ H s){fp:List AK}(hf:∀b∈fp,ya2 X π H b){C:AK}(hC:s.heap.objs.size<=C){pl:List (AK×Bm)}{σ':St}{H':Hp}{s':AI}(J:Inv (cxC X sc NC ⟨C,s,H,fp⟩) pl σ' H' s')
  {h2:Aw} (hb:BW C s'.heap h2):Inv X π σ H' {s' with heap:=h2}:=by
 have nC:∀b o,s.heap.get? b=AA o->b≠C:=λb o e=>Al (A8 (AX e) hC);have B:Un (frs X.stack) fp H H' s.heap s'.heap:=J.base;have fC:H' C=none:=J.free;refine I.call' (ch:=fp) J.os ⟨λb o e n h3 h4=>(hb.2 b (nC b o e)).trans (B.keep b o e n h3 h4),λb o e n h3 h4=>?_,B.free,λb o e h4=>?_,B.tups,B.frzs,B.tbls⟩ (λb u e=>?_) J.bare λb h3=>⟨(hf b h3).2.2.2.1,(hf b h3).2.1,(hf b h3).2.2.2.2.1,(hf b h3).2.2.2.2.2⟩
 .let⟨sl,q⟩:=B.slot b o e n h3 h4;exact⟨sl,(hb.2 b (nC b o e)).trans q⟩
 .let⟨o',q⟩:=B.there b o e h4;exact⟨o',(hb.2 b (nC b o e)).trans q⟩
 .refine(J.hok b u e).stay (λc v hc q=>(hb.2 c λz=>?_).trans q) (λ_ q=>q) λ_ _ q=>q;subst z;rcases hc with z|z
  .rw[z,e]at fC
   cases fC
  .rw[z]at fC
   cases fC
end
def PTs(X:Cx)(ifs:List AY)(t:TT):Prop:=
 ∀(π:List (AK×Bm)) (s:AI) (σ:St) (H:Hp) (Q:Bool->Hp->Prop),Inv X π σ H s->t σ H Q->AV (model X.prog X.w) X.A (ycK ifs X.env) (TP X π σ Q) X.xe s
def ydz:TT:=λ_ H Q=>Q AD H
def zds{X:Cx}:PTs X [] ydz:=λ_ _ _ H _ I h=>wpAny_tests_nil ⟨H,I,h⟩
def zgx{X:Cx}{c:AY}{t:TT}(h:PT X c t):PTs X [c] t:=λπ s σ H Q I q=>wpAny_tests_one (h π s σ H Q I q)
def ybG(J:It)(D:AK)(g:TG)(ti:TT)(te:TE)(W:Nat->Nat->St->List V->Hp->Prop)(Q:Hp->Prop):Prop:=
 ∀i m σc ys H2,W i m σc ys H2->H2 D=AA (.lst ys)/\((J.stop i H2/\Q H2) \/ (J.go i H2/\ys.length<sizeLine/\∃N:St->List V->Hp->Prop,(∀σ' ys' H',N σ' ys' H'->∃m',m' < m/\W (i+1) m' σ' ys' H') /\
  ∀x H3,J.yld i H2 x H3->g x σc H3 λσ4 H4=>ti σ4 H4 λb H5=>if b=AD then te σ4 H5 λy H6=>H6 D=AA (.lst ys)/\N σ4 (ys++[y]) (upd H6 D (.lst (ys++[y])))else N σ4 ys H5))
def ybI(slots:List (Option Nat))(wi:TI)(g:TG)(ti:TT)(te:TE):TE:=λσ H Q=>wi σ H λJ H1=>∀D,H1 D=AC->∃W:Nat->Nat->St->List V->Hp->Prop,(∃m,W 0 m (inn slots σ) [] (upd H1 D (.lst [])))/\ybG J D g ti te W (Q (.ref D))
section
variable {X:Cx}{sc:BR}{NC:List AW}{slots:List (Option Nat)}{elt tg iter:AY}{ifs:List AY}{pos:CG}{g:TG}{ti:TT}{te:TE}
def zfb(hc:X.calm=AD)(hg:∀j,PG (cxC X sc NC j) tg g)(ht:∀j,PTs (cxC X sc NC j) ifs ti)(he:∀j,PE (cxC X sc NC j) elt te){cj:CI}{it D:AK}{tn:Nat->Aw->Prop}{J:It}
  {W:Nat->Nat->St->List V->Hp->Prop} {Q:Hp->Prop} {R:GF->AI->Prop} {s:AI} {σc:St} {ys:List V} {H:Hp} (T:Turn X.prog X.w X.K tg J cj.fp it tn)
  (I:Inv (cxC X sc NC cj) [] σc H s) (hf:∀b∈cj.fp,ya2 (cxC X sc NC cj) [] H b) (st:tn 0 s.heap) {m:Nat} (w0:W 0 m σc ys H) (step:ybG J D g ti te W Q)
  (fin:∀σ' H' s',Inv (cxC X sc NC cj) [] σ' H' s'->Q H'->R (.ok .next) s'):
  codeAny (model X.prog X.w) X.A (.compLoop (.ListComp elt [⟨tg,iter,ifs,0⟩] sc pos) 0 (.ref it) (.ref D) (cxC X sc NC cj).env) R s:=by
 have stat:∀{H':Hp},(∀b∈cj.fp,H' b=AC)->∀b∈cj.fp,ya2 (cxC X sc NC cj) [] H' b:=λhn b hb=>⟨hn b hb,(hf b hb).2⟩;refine zdV (λn s'=>∃i σ' ys' H',Inv (cxC X sc NC cj) [] σ' H' s'/\tn i s'.heap/\(∀b∈cj.fp,H' b=AC)/\W i n σ' ys' H') ?_ m ⟨0,σc,ys,H,I,st,λb hb=>(hf b hb).1,w0⟩
 rintro n s3 ⟨i,σ3,ys3,H3,I3,st3,fr3,w3⟩
 let⟨hD,q⟩:=step i n σ3 ys3 H3 w3;rcases q with⟨stop,qn⟩|⟨go,hz,N,hN,turn⟩
 .refine thn (T.done (cxC X sc NC cj) rfl rfl rfl hc i [] s3 σ3 H3 No I3 (stat fr3) st3 stop) λr s4 kq=>?_;let⟨hr,I4⟩:=kq;subst hr;exact fin σ3 H3 s4 I4 qn
 .refine thn (T.item (cxC X sc NC cj) rfl rfl rfl hc i [] s3 σ3 H3 No I3 (stat fr3) st3 go) λr s4 kq=>?_;let⟨u,hr,h4⟩:=kq;subst hr;refine thn h4 λ_ s5 kq=>?_;let⟨x,H5,I5,r5,y5,st5,fr5⟩:=kq;have I5':=I5.pinned (stat fr5) (T.obj _ _ st5);refine thn (hg cj _ s5 σ3 H5 x u _ I5' r5 (turn x H5 y5)) λ_ s6 kq=>?_;let⟨σ6,H6,I6,q6⟩:=kq;refine thn (ht cj _ s6 σ6 H6 _ I6 q6) λok s7 kq=>?_;let⟨H7,I7,q7⟩:=kq;have again:∀{σ8:St} {ys8:List V} {H8:Hp} {s8:AI},Inv (cxC X sc NC cj) ([]++ya0 cj.fp s5.heap) σ8 H8 s8->N σ8 ys8 H8->∃m,m<n/\∃i σ' ys' H',Inv (cxC X sc NC cj) [] σ' H' s8/\tn i s8.heap/\(∀b∈cj.fp,H' b=AC)/\W i m σ' ys' H':=λ{σ8 ys8 H8 s8} I8 n8=>by
   let⟨m',hm,w8⟩:=hN σ8 ys8 H8 n8;refine⟨m',hm,i+1,σ8,ys8,H8,I8.unpinned,T.keep _ _ _ st5 λb hb o e=>(I8.pin (b,o) (Am _ (Am _ (zK hb e)))).1,λb hb=>?_,w8⟩;let⟨o,e,d⟩:=T.obj _ _ st5 b hb;exact(I8.pin (b,o) (Am _ (Am _ (zK hb e)))).2.1
  cases ok with
  |false=>
   rw[if_neg AU]at q7 ⊢;exact again I7 q7
  |true=>
   rw[if_pos rfl]at q7 ⊢;refine thn (he cj _ s7 σ6 H7 _ I7 q7) λy s8 kq=>?_;let⟨v,H8,I8,r8,hD8,q8⟩:=kq;refine thn (zbC (X:=cxC X sc NC cj) _ s8 σ6 H8 (.ref D) [v] (.ref D) [y] (λz H'=>z=.non/\H'=upd H8 D (.lst (ys3++[v]))) I8 rfl (.cons r8 .nil) ⟨D,ys3,v,rfl,rfl,hD8,hz,rfl,rfl⟩) λz s9 kq=>?_;let⟨zv,H9,I9,r9,e1,e2⟩:=kq;subst e2;exact again I9 q8
def zaY(hc:X.calm=AD)(O:yJ X sc NC slots)(hg:∀j,PG (cxC X sc NC j) tg g)(ht:∀j,PTs (cxC X sc NC j) ifs ti)(he:∀j,PE (cxC X sc NC j) elt te){π:List (AK×Bm)}{s:AI}{σ:St}{H:Hp}(I:Inv X π σ H s)
  {it:AK} {fp:List AK} {tn:Nat->Aw->Prop} {J:It} (T:Turn X.prog X.w X.K tg J fp it tn) (st:tn 0 s.heap) (hf:∀b∈fp,ya2 X π H b) {Q:VK}
  (h:∀D,H D=AC->∃W:Nat->Nat->St->List V->Hp->Prop,(∃m,W 0 m (inn slots σ) [] (upd H D (.lst [])))/\ybG J D g ti te W (Q (.ref D))) {RR:AF->AK->GF->AI->Prop}
  (fin:∀D C s' H',Q (.ref D) H'->(∃o m,s'.heap.get? C=AA o/\s'.heap.Ns C m/\∀v,o.data ≠ .cell v)->ya2 X π H' C->(∀h2,BW C s'.heap h2->Inv X π σ H' {s' with heap:=h2})->RR (.ref D) C (.ok .next) s'):
  AV (model X.prog X.w) X.A (newList []) (λacc s3=>AV (model X.prog X.w) X.A (newFunctionEnv sc X.env.globals (ycy sc X.env) [] X.env.qual AC .none (AA X.env)) (λcenv s4=>
   codeAny (model X.prog X.w) X.A (.compStart (.ListComp elt [⟨tg,iter,ifs,0⟩] sc pos) 0 (.ref it) acc {cenv with scope:=relabel sc X.env}) (RR acc cenv.locals) s4) X.xe s3) X.xe s:=by
 refine Ag (wpAny_newFunctionEnv O.nocell (by intro y hy;simp at hy) (λh1 hns1 hsb1=>?_) O.kind);dsimp only at hns1 hsb1 ⊢;have hDn:H s.heap.objs.size=none:=I.hok.fresh (AR _);let⟨W,⟨m,w0⟩,step⟩:=h s.heap.objs.size hDn;obtain⟨s3,hs3⟩:∃x:AI,x=({s with heap:=s.heap.push {cls:=.type "list",dict:=AC,data:=.seq ([]:List AF).toArray} }:AI):=⟨_,rfl⟩;have e3:s3.heap=s.heap.push {cls:=.type "list",dict:=AC,data:=.seq ([]:List AF).toArray}:=by rw[hs3]
 rw[<-e3]at hns1 hsb1;have hp3:∀b o,s.heap.get? b=AA o->s3.heap.get? b=AA o:=λb o e=>by
  rw[e3];exact AL _ e
 have I3:Inv X π σ (upd H s.heap.objs.size (.lst [])) s3:=by
  have q:=I.laid (a:=s.heap.objs.size) (o:=.lst []) (h':=s3.heap) (t':=s.toks) hp3 (AR _) ⟨Bj _,[],_,.nil,by rw[e3];exact AT _ rfl⟩;rw[hs3]at q ⊢;exact q
 have hf3:∀b∈fp,ya2 X π (upd H s.heap.objs.size (.lst [])) b:=λb hb=>by
  let⟨o,e,_⟩:=T.obj _ _ st b hb;refine⟨?_,(hf b hb).2⟩;rw[za (Al (AX e))];exact(hf b hb).1
 have st3:tn 0 s3.heap:=T.keep _ _ _ st λb _ o e=>hp3 b o e;have hob:∀b∈fp,∃o,s3.heap.get? b=AA o:=λb hb=>by
  let⟨o,e,_⟩:=T.obj _ _ st3 b hb;exact⟨o,e⟩
 have hk1:∀b o,s3.heap.get? b=AA o->h1.get? b=AA o:=λb o e=>hsb1.extBut b o (Al (AX e)) (AL _ e);have J1:=zda (t':=s3.toks+([]:List (AW×AF)).length) I3 O hf3 hob hns1 hk1;have hfc:∀b∈fp,ya2 (cxC X sc NC ⟨s3.heap.objs.size,s3,upd H s.heap.objs.size (.lst []),fp⟩) [] (upd H s.heap.objs.size (.lst [])) b:=λb hb=>
  ⟨(hf3 b hb).1,(J1.ok.exf b hb).1,J1.ok.exfs b hb,.inl hb,(J1.ok.exf b hb).2,λp hp=>nomatch hp⟩
 have loop:codeAny (model X.prog X.w) X.A (.compLoop (.ListComp elt [⟨tg,iter,ifs,0⟩] sc pos) 0 (.ref it) (.ref s.heap.objs.size) (cxC X sc NC ⟨s3.heap.objs.size,s3,upd H s.heap.objs.size (.lst []),fp⟩).env) (RR (.ref s.heap.objs.size) s3.heap.objs.size)
   {s3 with heap:=h1,toks:=s3.toks+([]:List (AW×AF)).length}:=by
  refine zfb (D:=s.heap.objs.size) (Q:=Q (.ref s.heap.objs.size)) hc hg ht he T J1 hfc (T.keep _ _ _ st3 λb _ o e=>hk1 b o e) w0 step λσ' H' s' J' q'=>?_;have fC:H' s3.heap.objs.size=none:=J'.free;refine fin _ _ s' H' q' ?_ (I3.fpOk (AR _) fC) λh2 hb=>zcW I3 hf3 (AR _) J' hb;let⟨m',hn',_⟩:=J'.loc;let⟨o,es,ep,ho,hd,r⟩:=id hn';exact⟨o,m',ho,hn',λv z=>by rw[hd]at z;cases z⟩
 have self:=λ(RQ:AF->AI->Prop) (EE:AF->AI->Prop)=>T.self X.A 0 {s3 with heap:=h1,toks:=s3.toks+([]:List (AW×AF)).length} RQ EE (T.keep _ _ _ st3 λb _ o e=>hk1 b o e);subst hs3;exact codeAny_compStart_list loop (self _ _ loop)
variable {wi:TI}
def zhq(hc:X.calm=AD)(O:yJ X sc NC slots)(hi:PI X tg iter wi)(hg:∀j,PG (cxC X sc NC j) tg g)(ht:∀j,PTs (cxC X sc NC j) ifs ti)(he:∀j,PE (cxC X sc NC j) elt te)
  (hs:∀x,foldedSetIterable iter X.env x=pure x:=by intro _;rfl):PE X (.ListComp elt [⟨tg,iter,ifs,0⟩] sc pos) (ybI slots wi g ti te):=by
 intro π s σ H Q I h;rw[eval_ListComp];refine E5 (use:=AC) rfl hs (zG (O.cells I.ok)) O.kind O.names (thn (hi π s σ H _ I h) λv s1 h1=>thn h1 λitv s2 h2=>?_);let⟨it,fp,tn,J,H2,rfl,I2,T,st2,f2,q2⟩:=h2;refine zaY hc O hg ht he I2 T st2 f2 q2 λD C s' H' q' ⟨o,m,ho,hn,_⟩ _ out=>⟨m,hn,λh2 hb=>⟨.ref D,H',out h2 hb,rfl,q'⟩⟩
def zed{i:Nat}{x:AW}{px spos:CG}(hN:X.N.Nodup)(hix:X.N[i]?=AA x)(hx:Loc X.env.scope x)(hc:X.calm=AD)(O:yJ X sc NC slots)(hi:PI X tg iter wi)(hg:∀j,PG (cxC X sc NC j) tg g)(ht:∀j,PTs (cxC X sc NC j) ifs ti)(he:∀j,PE (cxC X sc NC j) elt te)
  (hsw:swapsWith (.ListComp elt [⟨tg,iter,ifs,0⟩] sc pos) (AA (.Name x px)) spos.line X.env=pure true:=by rfl) (hs:∀x,foldedSetIterable iter X.env x=pure x:=by intro _;rfl)
  (hf:X.fn x=AD \/ X.env.scope.names.lookup x=AA .local:=by first|exact .inl rfl|exact .inr rfl|assumption):PS X (.Assign [.Name x px] (.ListComp elt [⟨tg,iter,ifs,0⟩] sc pos) spos) (ydL (ybI slots wi g ti te) (yaY i)):=by
 intro π s σ H Dd I h;rw[exec_Assign_Name_used _ _ _ _ hsw,arm_evalThenUse_ListComp];refine AB (D9 (AB (AB ?_)));refine E5 (Q:=λ_ s'=>AV (model X.prog X.w) X.A (pure ()) (λ_ s''=>AV (model X.prog X.w) X.A (pure Hc) (SP X π Dd) X.xe s'') X.xe s') rfl hs (zG (O.cells I.ok)) O.kind O.names (thn (hi π s σ H _ I h) λv s1 h1=>thn h1 λitv s2 h2=>?_);let⟨it,fp,tn,J,H2,rfl,I2,T,st2,f2,q2⟩:=h2;refine zaY (Q:=λx H1=>yaY i x σ H1 Dd.nx) hc O hg ht he I2 T st2 f2 q2 λD C s' H' q' ⟨o,m,ho,hn,hd⟩ FC out=>?_;have I':Inv X π σ H' s':=out s'.heap (IN ..);have Ip:Inv X (π++[(C,o)]) σ H' s':=I'.pins_of λp hp=>(Av.mp hp).elim (λz=>I'.pin p (Am _ z)) λz=>by
  have e:p=(C,o):=by simpa using z
  subst e;exact⟨ho,FC.1,FC.2.1,FC.2.2.1,hd⟩
 show AV (model X.prog X.w) X.A (assign (.Name x px) X.env (.ref D)) _ _ s';refine GO (zL Ip hN hix hx (show RelV (.ref D) (.ref D)from rfl) (λs6 I6=>?_) hf);have g6:=(I6.pin (C,o) (Am _ (Am _ A0))).1;let⟨o',es,ep,ho',r⟩:=hn;rw[ho]at ho'
 cases ho'
 refine⟨m,⟨o,es,ep,g6,r⟩,λh2 hb=>AJ (AJ ?_)⟩;exact⟨_,H',I6.unpinned.turned (t':=s6.toks) (λb u hb' e=>(hb.2 b hb').trans e) FC.1 FC.2.1 FC.2.2.2.1 FC.2.2.2.2.1 FC.2.2.2.2.2,q'⟩
end
def zcb:∀{bs:List Bool} {us:List AF},Vals (bs.map V.bl) us->LSm.BoolsAre us bs
 |[],_,.nil=>.nil
 |b::bs,_,.cons r q=>by
  cases (show _=C8 b from r)
  exact .cons b (zcb q)
section
variable {X:Cx}
def ygh(K:AE):List V->Hp->VK->Prop:=λxs H Q=>∃(l:AK) (bs:List Bool),xs=[.ref l]/\SqL K H l (bs.map V.bl)/\Q (.bl (bs.all id)) H
def zfh(hc:X.calm=AD):yQ X (.builtin "all") (ygh X.K):=by
 intro π s σ H xs us Q I r h;let⟨l,bs,rfl,hq,q⟩:=h;let⟨u,rfl,ru⟩:=Vals.one r
 cases (show u=Ab l from ru)
 let⟨its,rv,pl,hz⟩:=I.list hq;have hb:=zcb rv;have hl:=pl.isList;have hlt:l<s.heap.objs.size:=by
  let⟨_,e,_⟩:=hl;exact AX e
 refine call_all_walk (GZ hl ?_);refine⟨s.heap.objs.size,[s.heap.objs.size,l],[s.heap.objs.size],its.toArray.size,_,_,λi=>(bs[i]?).getD AD,rfl,Walks.list (A:=X.A.in1) (I.ok.hd hc) _ l (Al hlt) its.toArray,⟨⟨_,AT _ rfl,rfl,rfl⟩,hl.push _⟩,λi v s' Q' E' hP hQ=>?_,λh' tk hk=>?_⟩
 .let⟨b,e,rfl⟩:=hb.get i v (by simpa using hP);erw[e,Bb]at hQ;exact B1 hQ
 .have e:((D1 its.toArray.size).all λi=>(bs[i]?).getD AD)=bs.all id:=by
   rw[AZ,hb.length];exact LSm.range_all bs
  rw[e];exact⟨.bl _,H,I.kept (t':=tk) (LSm.kept_iter hk),rfl,q⟩
end
section
variable {X:Cx}{π:List (AK×Bm)}{σ:St}{H:Hp}{s:AI}
end
section
variable {X:Cx}{a:AY}{ta:TE}{K:AE}
end
end L2
namespace L2
end L2
namespace L2
open PySem PySem.Spec PyProof.Rows
def CX1(P:A4)(w:Aa):CXT:=λouter H s E e s'=>∃(a:AK) (cls a0:AF) (H':Hp) (B:Aw),e=.ref a/\s'.os=s.os/\D8 s'.gens/\Hf B outer a cls a0 s'.heap/\HOk P w H' s'.heap/\Un (frs outer) [] H H' s.heap s'.heap /\
 (∀b o,s.heap.get? b=AA o->H b=AC->b∉frs outer->B.get? b=AA o)/\(∀b u,H' b=AA u->∃o,B.get? b=AA o)/\(∀b o,s.heap.get? b=AA o->b∉frs outer->∃o',B.get? b=AA o')/\E cls AC H'
theorem yt.there{P:A4}{w:Aa}{H:Hp}{h:Aw}{a:AK}{o:HO}(x:yt P w H h a o):∃ob,h.get? a=AA ob:=by
 induction o with
 |lst xs=>let⟨_,_,_,_,e⟩:=x;exact⟨_,e⟩
 |tup xs=>let⟨_,_,_,e⟩:=x;exact⟨_,e⟩
 |dK kvs=>let⟨_,_,_,_,ob,_,_,e,_⟩:=x;exact⟨ob,e⟩
 |dT kvs=>let⟨_,_,_,_,ob,_,_,e,_⟩:=x;exact⟨ob,e⟩
 |set S n=>let⟨ob,_,_,_,e,_⟩:=x;exact⟨ob,e⟩
 |ins C dx fs=>let⟨_,_,_,e,_⟩:=x;exact⟨_,e⟩
 |own y=>exact x
 |xd fs=>let⟨_,⟨ob,_,_,e,_⟩,_⟩:=x;exact⟨ob,e⟩
 |rng lo hi=>let⟨_,_,_,e⟩:=x;exact⟨_,e⟩
 |frz ob u ih=>exact⟨ob,x.1⟩
 |tbl ps=>exact⟨_,x⟩
 |met f y=>exact⟨_,x⟩
 |ext φ=>exact x.2.1
theorem HOk.inB{P:A4}{w:Aa}{H:Hp}{h h' B:Aw}(ok:HOk P w H h)(hB:B.StaysIn h)(hB':B.StaysIn h')(tr:∀b u,H b=AA u->∃o,B.get? b=AA o):HOk P w H h':=λa o e=>
 (ok a o e).stay (λb u hb q=>by
  have hb':∃o,B.get? b=AA o:=by
   rcases hb with z|z
   .rw[z];exact tr a o e
   .exact tr b _ z
  let⟨o',q'⟩:=hb';have:=hB b o' q';rw[q]at this
  cases this
  exact hB' b u q') (λ_ q=>q) λ_ _ q=>q
section
variable {P:A4}{w:Aa}{K:AE}{mg:AW->Option AF}{base:Aw}{N:List AW}{qual:AW}{scope:BR}{f:AK}{cd:AF}{A:A9}{outer:List Env}{s₀:AI}{H₀:Hp}{E:XK}
 {π:List (AK×Bm)} {σ:St} {H:Hp} {s:AI}
def zdl{h':Aw}{e:AK}{cls:AF}{vs:List AF}(I:Inv (yaB (CX1 P w) P w K mg base N qual scope f cd A outer s₀ H₀ E) π σ H s)(hx:HI s.heap h' e cls vs)(hE:E cls AC H):
  (yaB (CX1 P w) P w K mg base N qual scope f cd A outer s₀ H₀ E).xe (.ref e) {s with heap:=h'}:=by
 have stk:s.heap.FunFrames base (envOfC qual scope s₀.heap.objs.size f cd::outer):=I.stack;have hst:∀b,b∈frs (envOfC qual scope s₀.heap.objs.size f cd::outer)->b=s₀.heap.objs.size \/ b∈frs outer:=λb hb=>by
  have hb':b∈s₀.heap.objs.size::frs outer:=hb;exact Ac.mp hb'
 have inB:∀b o,s.heap.get? b=AA o->b∉frs (envOfC qual scope s₀.heap.objs.size f cd::outer)->(DA s.heap (frs (envOfC qual scope s₀.heap.objs.size f cd::outer))).get? b=AA o:=λb o q n=>Fg _ q n;have hB:(DA s.heap (frs (envOfC qual scope s₀.heap.objs.size f cd::outer))).StaysIn s.heap:=λb o q=>GA _ q;have bse:Un (frs outer) [] H₀ H s₀.heap s.heap:=I.base;have lt:∀b o,s₀.heap.get? b=AA o->b≠s₀.heap.objs.size:=λb o q=>Al (AX q);have tr:∀b u,H b=AA u->∃o,(DA s.heap (frs (envOfC qual scope s₀.heap.objs.size f cd::outer))).get? b=AA o:=λb u q=>by
  let⟨o,ho⟩:=yt.there (I.hok b u q);exact⟨o,inB b o ho λhb=>by
   have:=I.stkFree b hb;rw[q]at this
   cases this⟩
 refine wpAny_leaves_madeW (base:=DA s.heap (frs (envOfC qual scope s₀.heap.objs.size f cd::outer))) (h:=s.heap) I.ok.frames rfl hB (PySem.W.funFrames_hide stk λenv he a ha=>Dx.mpr ⟨env,he,ha⟩) hx λh'' t fl tu tn up=>?_;have up':s.heap.UpToSlots h'':=(Hd hx.keeps).trans up;refine⟨e,cls,_,H,_,rfl,I.os,I.bare,fl,HOk.inB I.hok hB fl.1 tr,⟨λb o q n hb _=>?_,λb o q n hb _=>?_,bse.free,λb o q _=>?_,bse.tups,bse.frzs,bse.tbls⟩,λb o q n hb=>?_,tr,λb o q hb=>?_,hE⟩
 .refine fl.1 b o (inB b o (bse.keep b o q n hb (by simp)) λz=>?_);rcases hst b z with z|z
  .exact lt b o q z
  .exact hb z
 .let⟨sl,q1⟩:=bse.slot b o q n hb (by simp);let⟨_,o',ho',hd⟩:=CQ stk (show b∈DS (λ(z:Env)=>z.frame) _ from AN _ hb);let⟨sl',q2⟩:=up' b _ q1 (by rw[ho']at q1;cases q1;exact hd);exact⟨sl',q2⟩
 .let⟨o',q1⟩:=bse.there b o q (by simp)
  by_cases hb:b∈frs (envOfC qual scope s₀.heap.objs.size f cd::outer)
  .let⟨_,o2,ho',hd⟩:=CQ stk hb;let⟨sl',q2⟩:=up' b _ ho' hd;exact⟨_,q2⟩
  .exact⟨o',fl.1 b o' (inB b o' q1 hb)⟩
 .refine inB b o (bse.keep b o q n hb (by simp)) λz=>?_;rcases hst b z with z|z
  .exact lt b o q z
  .exact hb z
 .let⟨o',q1⟩:=bse.there b o q (by simp);refine⟨o',inB b o' q1 λz=>?_⟩;rcases hst b z with z|z
  .exact lt b o q z
  .exact hb z
def zlo:ybe (CX1 P w) (yaB (CX1 P w) P w K mg base N qual scope f cd A outer s₀ H₀ E) E:=by
 intro π σ H s e s' I h;let⟨a,cls,a0,H',B,rfl,os,bare,fl,hok,un,hB,tr,hT,hE⟩:=h;have bse:Un (frs outer) [] H₀ H s₀.heap s.heap:=I.base;have lt:∀b o,s₀.heap.get? b=AA o->b≠s₀.heap.objs.size:=λb o q=>Al (AX q);have hst:∀b,b∈frs (envOfC qual scope s₀.heap.objs.size f cd::outer)->b=s₀.heap.objs.size \/ b∈frs outer:=λb hb=>by
  have hb':b∈s₀.heap.objs.size::frs outer:=hb;exact Ac.mp hb'
 have un':Un (frs (envOfC qual scope s₀.heap.objs.size f cd::outer)) [] H H' s.heap s'.heap:=un;have kB:∀b o,s₀.heap.get? b=AA o->H₀ b=AC->b∉frs outer->B.get? b=AA o:=λb o q n hb=>hB b o (bse.keep b o q n hb (by simp)) (bse.free b o q n (by simp)) λz=>by
  rcases hst b z with z|z
  .exact lt b o q z
  .exact hb z
 have kT:∀b o,s₀.heap.get? b=AA o->b∉frs outer->∃o',B.get? b=AA o':=λb o q hb=>by
  let⟨o',q1⟩:=bse.there b o q (by simp);refine hT b o' q1 λz=>?_;rcases hst b z with z|z
  .exact lt b o q z
  .exact hb z
 refine wpAny_leaves_onW I.ok.frames rfl fl λh'' fl' up=>?_;refine⟨a,cls,a0,H',B,rfl,os.trans I.os,bare,fl',HOk.inB hok fl.1 fl'.1 tr,⟨λb o q n hb _=>fl'.1 b o (kB b o q n hb),λb o q n hb _=>?_,λb o q n _=>?_,λb o q _=>?_,λb xs q=>un'.tups b xs (bse.tups b xs q),λb o u q=>un'.frzs b o u (bse.frzs b o u q),λb ps q=>?_⟩,kB,tr,kT,hE⟩
 .let⟨sl,q1⟩:=bse.slot b o q n hb (by simp);have n1:=bse.free b o q n (by simp);let⟨sl1,q2⟩:=un'.slot b _ q1 n1 (AN _ hb) (by simp);let⟨_,o',ho',hd⟩:=CQ fl.2.2.1 (show b∈DS (λ(z:Env)=>z.frame) _ from AN _ hb);let⟨sl',q3⟩:=up b _ q2 (by rw[ho']at q2;cases q2;exact hd);exact⟨sl',q3⟩
 .let⟨o',q1⟩:=bse.there b o q (by simp);exact un'.free b o' q1 (bse.free b o q n (by simp)) (by simp)
 .let⟨o',q1⟩:=bse.there b o q (by simp);let⟨o2,q2⟩:=un'.there b o' q1 (by simp)
  by_cases hb:b∈frs outer
  .let⟨_,o3,ho3,hd⟩:=CQ fl.2.2.1 (show b∈DS (λ(z:Env)=>z.frame) _ from AN _ hb);let⟨sl',q3⟩:=up b _ ho3 hd;exact⟨_,q3⟩
  .let⟨o4,q4⟩:=kT b o q hb;exact⟨o4,fl'.1 b o4 q4⟩
 .let⟨m1,e1⟩:=bse.tbls b ps q;let⟨m2,e2⟩:=un'.tbls b _ e1;exact⟨m1++m2,by rw[e2,Du]⟩
end
section
variable {X:Cx}{e:AY}{es:List AY}{te:TE}
end
section
variable {X:Cx}{e:AY}{es:List AY}{t:TA}{E:XK}
end
structure yeJ(K:AE)(C:AK):Prop where
 ga:Ai K (.ref C) "__getattribute__"=AA (AA (.builtin "BaseException.__getattribute__"))
 gh:Ai K (.ref C) "__getattr__"=AA AC
 cl:Ai K (.ref C) "__class__"=AA (AA (.builtin "object.__class__"))
 sb:HR K (.ref C) (.type "BaseException")=AA AD
 mo:HS K C (.type "object")=AA AD
 ct:∃cd,HU K C=AA cd
section
variable {pg:A4}{wd:Aa}{A:A9}{E:AF->AI->Prop}{h:Aw}{g:Array GenState}{d:Drawn}{t:Nat}{os:OsState}{a C:AK}{o:Bm}{K:AE}
end
def yeW(a C:AK):Aw->Prop:=λh=>∃o,h.get? a=AA o/\o.cls=.ref C
section
variable {X:Cx}
end
section
variable {X:Cx}{π:List (AK×Bm)}{σ:St}{H:Hp}{s:AI}
end
section
variable {X:Cx}{π:List (AK×Bm)}{σ:St}{H:Hp}{s:AI}
end
section
variable {X:Cx}{body suite:List Bo}{b₀:Bo}{x n:AW}{np hpos pos:CG}{tb:XK->TS}{ts:TS}{W:AK}{i:Nat}
end
structure yax(k:Nat)(A:A9):Prop where
 dp:A.depth+3*k+5<recursionLimit
 un:A.units+16*k+200<cLine
theorem yav.h{k:Nat}{A:A9}(r:yav k A):yax k A:=⟨r.dp,r.un⟩
theorem yax.deeper{k:Nat}{A:A9}(r:yax (k+1) A)(env:Env):yax k (A.deeper env):=⟨by have:=r.dp;show A.depth+1+3*k+5<_;lia,by have:=r.un;show A.units+3+16*k+200<_;lia⟩
structure ybu(P:A4)(w:Aa)(K:AE)(mg:AW->Option AF)(base:Aw)(k:Nat)(f:AK)(fd:Ax)(ps:List AW)(sp:Sp):Prop where
 len:∀vs H Q E,sp vs H Q E->vs.length=ps.length
 run:∀(A:A9) (outer:List Env) (s:AI) (H:Hp) (args:Args) (us:List AF) (vs:List V) (Q:VK),yax k A->ybR P w K mg base A outer s H->Es s fd args (ps.zip us)->Vals vs us->sp vs H Q E0 ->
  codeAny (model P w) A (.call (.ref f) args) (CR CX0 outer P w H s Q E0) s
abbrev ybi(P:A4)(w:Aa)(K:AE)(mg:AW->Option AF)(base:Aw)(N:List AW)(qual:AW)(scope:BR)(f:AK)(cd:AF)(A:A9)(outer:List Env)(s:AI)(H:Hp):Cx:=
 {yaB CX0 P w K mg base N qual scope f cd A outer s H E0 with calm:=AG,xe:=No}
theorem Inv.calmless{X:Cx}{π:List (AK×Bm)}{σ:St}{H:Hp}{s:AI}(I:Inv X π σ H s)(A:A9)(E:AF->AI->Prop)(hf:A.frames=X.A.frames):Inv {X with A:=A,calm:=AG,xe:=E} π σ H s:=
 ⟨⟨I.ok.mod,I.ok.kind,I.ok.glob,I.ok.blt,I.ok.above,I.ok.inj,I.ok.has,I.ok.cab,(λz=>nomatch z),hf.trans I.ok.frames,I.ok.stk,I.ok.exf,I.ok.bs,I.ok.bsz,I.ok.noex,I.ok.exfs,I.ok.funs,I.ok.frf⟩,I.os,I.bare,I.base,I.loc,I.cell,I.free,I.freeC,I.pin,I.hok,I.len⟩
section
variable {P:A4}{w:Aa}{K:AE}{mg:AW->Option AF}{base:Aw}
theorem Fun.okH{x qual:AW}{st:Bo}{f:AK}{fd:Ax}{N ps:List AW}{k:Nat}{sp:Sp}(F:Fun K x qual st f fd)(S:yaw N ps (yg st))(len:∀vs H Q E,sp vs H Q E->vs.length=ps.length)
  (hbody:∀(cdv:AF) (A:A9) (outer:List Env) (s:AI) (H:Hp) (vs:List V) (Q:VK),yax k (A.deeper (envOfC qual (yg st) s.heap.objs.size f cdv))->sp vs H Q E0 ->
   ∃t,PSs (ybi P w K mg base N qual (yg st) f cdv A outer s H) (yE st) t/\t {nx:=λ_ H'=>Q .non H',rt:=Q} (start N vs) H):ybu P w K mg base (k+1) f fd ps sp:=by
 let⟨oc,od,kV,doc,pm,an,cdv,ct,osl,rfl,lk,hcd⟩:=F.ex;refine⟨len,λA outer s H args us vs Q hr e0 hb r hsp=>?_⟩;have hl:=len _ _ _ _ hsp;have KX:K.In s.heap:=e0.mod.kin.keeps λb o e=>(e0.bs b o e).1;have lim:s.heap.NoLimit:=e0.mod.nolimit.keeps λb o e=>(e0.bs b o e).1;have hkind:∀y∈ps.zip us,(yg st).names.lookup y.1=AA .local \/ ((yg st).names.lookup y.1=AA .cell/\((cellsFrom (s.heap.objs.size+1) (yg st).names []).lookup y.1).isSome=AD):=λ⟨n,v⟩ hy=>by
  rcases S.par n (Di hy).1 with q|q
  .exact .inl q
  .exact .inr ⟨q,DM _ _ _ (.inl q)⟩
 refine FM (by have:=hr.dp;lia) (KX _ _ lk) rfl S.co S.gen rfl (GH KX hcd) (hb _ _ _ _ ?_);refine Dz S.kind hkind λenv he s1 x=>?_;subst he;refine⟨lim.keeps x.toInCall.keep,codeAny_func ?_⟩;let⟨t,ht,hq⟩:=hbody cdv A outer s H vs Q (hr.deeper _) hsp;have e0':ybR P w K mg base {A with handled:=AC} outer s H:=⟨e0.frames,e0.mod,e0.bs,e0.bsz,e0.funs,e0.frf,e0.hok,e0.bare⟩;have I0:Inv (yaB CX0 P w K mg base N qual (yg st) f cdv {A with handled:=AC} outer s H E0) [] (start N vs) H s1:=zbr S rfl e0' hl r x;have I:Inv (ybi P w K mg base N qual (yg st) f cdv A outer s H) [] (start N vs) H s1:=I0.calmless (A.deeper (envOfC qual (yg st) s.heap.objs.size f cdv)) No rfl;refine Cm (ht [] s1 (start N vs) H _ I hq) (λfl s' hs=>?_) λe s' z=>z.elim;have fin:∀{σ':St} {H':Hp} {v:V} {u:AF},Inv (ybi P w K mg base N qual (yg st) f cdv A outer s H) [] σ' H' s'->RelV v u->Q v H'->CE outer P w H s Q u s':=
  λ{σ' H' v u} J rv q=>⟨v,H',J.os,J.bare,J.base,J.hok,rv,q⟩
 cases fl with
 |ret u=>
  let⟨v,σ',H',J,rv,q⟩:=hs;exact fin J rv q
 |next=>
  let⟨σ',H',J,q⟩:=hs;exact fin (v:=V.non) (u:=BB) J rfl q
 |brk=>
  let⟨_,_,_,q⟩:=hs;exact BZ q
 |cont=>
  let⟨_,_,_,q⟩:=hs;exact BZ q
end
section
variable {X:Cx}{k:Nat}{f:AK}{fd:Ax}{ps:List AW}{sp:Sp}{x:AW}{p pos:CG}{e:AY}{es:List AY}{t:TA}
end
section
variable {P:A4}{w:Aa}{K:AE}{mg:AW->Option AF}{base:Aw}
theorem own1{N:List AW}{qual:AW}{scope:BR}{f:AK}{cd:AF}{A:A9}{outer:List Env}{s:AI}{H:Hp}{E:XK}{CX:CXT}:
  Ee (model (yaB CX P w K mg base N qual scope f cd A outer s H E).prog (yaB CX P w K mg base N qual scope f cd A outer s H E).w) (yaB CX P w K mg base N qual scope f cd A outer s H E).A (yaB CX P w K mg base N qual scope f cd A outer s H E).env (yaB CX P w K mg base N qual scope f cd A outer s H E).xe:=
 PassesOwn.leaving
end
section
variable {X:Cx}
end
section
variable {X:Cx}
def yfz(K:AE):List V->Hp->VK->Prop:=λxs H Q=>∃(l:AK) (ns:List Int),xs=[.ref l]/\SqL K H l (ns.map V.int)/\Q (.int ns.sum) H
def zfn(hc:X.calm=AD):yQ X (.builtin "sum") (yfz X.K):=by
 intro π s σ H xs us Q I r h;let⟨l,ns,rfl,hq,q⟩:=h;let⟨u,rfl,ru⟩:=Vals.one r
 cases (show u=Ab l from ru)
 let⟨its,rv,pl,hz⟩:=I.list hq;have hi:Ff its ns:=zc2 rv;let⟨ys,e⟩:=hi.allInts.items;have hns:ns=ys.toList.map (·.1):=by rw[<-hi.numsOf,<-nums_intItems,<-e]
 have hl:=pl.isList;rw[e]at hl;refine sum_intListG (I.ok.hd hc) hl λh' tk t' hk=>⟨.int ns.sum,H,I.kept (t':=tk) hk,⟨t',?_⟩,q⟩;rw[preSum_eq,Cb (by simp),<-hns]
end
section
variable {κ:Type}[DecidableEq κ]
def yaS(kvs:List (κ×V))(k:κ):Option V:=(kvs.find? λkv=>decide (kv.1=k)).map (·.2)
def putK(kvs:List (κ×V))(k:κ)(v:V):List (κ×V):=
 if (kvs.any λkv=>decide (kv.1=k))=AD then kvs.map (λkv=>if kv.1=k then(kv.1,v)else kv)else kvs++[(k,v)]
def zO{p:κ×V}{r:List (κ×V)}{k:κ}(e:p.1=k):yaS (p::r) k=AA p.2:=by simp[yaS,CC,e]
def zM{p:κ×V}{r:List (κ×V)}{k:κ}(e:¬p.1=k):yaS (p::r) k=yaS r k:=by simp[yaS,CC,e]
def zcz(k:κ):∀kvs:List (κ×V),(kvs.any λkv=>decide (kv.1=k))=(yaS kvs k).isSome
 |[]=>rfl
 |p::r=>by
  rw[CF]
  by_cases e:p.1=k
  .simp only[zO e,decide_eq_true e,Hg,Option.isSome_some]
  .rw[zM e,decide_eq_false e,HV];exact zcz k r
def zU(kvs:List (κ×V))(k:κ)(v:V):(putK kvs k v).length<=kvs.length+1:=by
 unfold putK;split
 .rw[AQ];lia
 .rw[Aj,AO,Ak];lia
theorem ybk.isSome_eq{o:Option V}{u:Option AF}(r:ybk o u):o.isSome=u.isSome:=by
 cases o with
 |none=>cases u with
  |none=>rfl
  |some _=>exact(show False from r).elim
 |some _=>cases u with
  |none=>exact(show False from r).elim
  |some _=>rfl
theorem ybk.getD{o:Option V}{u:Option AF}{d:V}{d':AF}(r:ybk o u)(rd:RelV d d'):RelV (o.getD d) (u.getD d'):=by
 cases o with
 |none=>cases u with
  |none=>exact rd
  |some _=>exact(show False from r).elim
 |some _=>cases u with
  |none=>exact(show False from r).elim
  |some _=>exact r
theorem KV.val{kvs:List (κ×V)}{vs:List (κ×AF)}(r:KV kvs vs)(k:κ):ybk (yaS kvs k) (valueAt vs k):=by
 unfold KV at r
 induction r with
 |nil=>exact CB
 |@cons p q ps qs h t ih=>
  let⟨h1,h2⟩:=h
  by_cases e:p.1=k
  .have e':q.1=k:=h1.symm.trans e;have b:valueAt (q::qs) k=AA q.2:=by simp[valueAt,CC,e']
   rw[zO e,b];exact h2
  .have e':¬q.1=k:=λz=>e (h1.trans z);have b:valueAt (q::qs) k=valueAt qs k:=by simp[valueAt,CC,e']
   rw[zM e,b];exact ih
theorem KV.any{kvs:List (κ×V)}{vs:List (κ×AF)}(r:KV kvs vs)(k:κ):(kvs.any λkv=>decide (kv.1=k))=vs.any λkv=>decide (kv.1=k):=by
 unfold KV at r
 induction r with
 |nil=>rfl
 |cons h t ih=>rw[CF,CF,ih,h.1]
theorem KV.repl{kvs:List (κ×V)}{vs:List (κ×AF)}(r:KV kvs vs)(k:κ){y:V}{u:AF}(ry:RelV y u):
  KV (kvs.map λkv=>if kv.1=k then(kv.1,y)else kv) (vs.map λkv=>if kv.1=k then(kv.1,u)else kv):=by
 unfold KV at r ⊢
 induction r with
 |nil=>exact .nil
 |@cons p q ps qs h t ih=>
  rw[AM,AM];refine .cons ?_ ih;let⟨h1,h2⟩:=h
  by_cases e:p.1=k
  .rw[if_pos e,if_pos (h1.symm.trans e)];exact⟨h1,ry⟩
  .rw[if_neg e,if_neg (λz=>e (h1.trans z))];exact⟨h1,h2⟩
theorem KV.put{kvs:List (κ×V)}{vs:List (κ×AF)}(r:KV kvs vs)(k:κ){y:V}{u:AF}(ry:RelV y u):KV (putK kvs k y) (stored vs k u):=by
 unfold putK stored;rw[r.any k]
 by_cases e:(vs.any λkv=>decide (kv.1=k))=AD
 .rw[if_pos e,if_pos e];exact r.repl k ry
 .rw[if_neg e,if_neg e];exact ID r ⟨rfl,ry⟩
theorem KV.length{kvs:List (κ×V)}{vs:List (κ×AF)}(r:KV kvs vs):kvs.length=vs.length:=C2 r
end
def zgN{P:A4}{w:Aa}{k:Key}{u:AF}(r:RelV (kV k) u):(yO P w).is k u=true:=by
 cases k with
 |inl i=>let⟨t,e⟩:=(show ∃t,u=Ea i t from r);subst e;exact zca P w i t
 |inr x=>let⟨t,e⟩:=(show ∃t,u=G8 x t from r);subst e;exact zbX P w x t
abbrev KT(H:Hp):List (List NK×V)->List (List NK×AK×AF)->Prop:=HA λp q=>p.1=q.1/\KyR H p.1 q.2.1/\RelV p.2 q.2.2
theorem KT.val{H:Hp}{kvs:List (List NK×V)}{xs:List (List NK×AK×AF)}(r:KT H kvs xs)(k:List NK):ybk (yaS kvs k) ((atKey xs k).map (·.2)):=by
 induction r with
 |nil=>exact CB
 |@cons p q ps qs h t ih=>
  let⟨h1,_,h2⟩:=h
  by_cases e:p.1=k
  .have e':q.1=k:=h1.symm.trans e;have b:atKey (q::qs) k=AA q.2:=by simp[atKey,CC,e']
   rw[zO e,b];exact h2
  .have e':¬q.1=k:=λz=>e (h1.trans z);have b:atKey (q::qs) k=atKey qs k:=by simp[atKey,CC,e']
   rw[zM e,b];exact ih
theorem KT.repl{H:Hp}{kvs:List (List NK×V)}{xs:List (List NK×AK×AF)}(r:KT H kvs xs)(k:List NK){y:V}{u:AF}(ry:RelV y u):
  KT H (kvs.map λkv=>if kv.1=k then(kv.1,y)else kv) (xs.map (putAt k u)):=by
 induction r with
 |nil=>exact .nil
 |@cons p q ps qs h t ih=>
  rw[AM,AM];refine .cons ?_ ih;let⟨h1,h2,h3⟩:=h;unfold putAt
  by_cases e:p.1=k
  .rw[if_pos e,if_pos (h1.symm.trans e)];exact⟨h1,h2,ry⟩
  .rw[if_neg e,if_neg (λz=>e (h1.trans z))];exact⟨h1,h2,h3⟩
theorem KT.put{H:Hp}{kvs:List (List NK×V)}{xs:List (List NK×AK×AF)}(r:KT H kvs xs)(k:List NK){b:AK}{y:V}{u:AF}(hb:KyR H k b)(ry:RelV y u):
  KT H (putK kvs k y) (storedH xs k b u):=by
 have e:(kvs.any λkv=>decide (kv.1=k))=(atKey xs k).isSome:=by
  rw[zcz,(r.val k).isSome_eq,Option.isSome_map]
 unfold putK storedH;rw[e]
 by_cases q:(atKey xs k).isSome=AD
 .rw[if_pos q,if_pos q];exact r.repl k ry
 .rw[if_neg q,if_neg q];exact ID r ⟨rfl,hb,ry⟩
theorem KT.keeps{H H':Hp}{kvs:List (List NK×V)}{xs:List (List NK×AK×AF)}(r:KT H kvs xs)(ht:∀b ys,H b=AA (.tup ys)->H' b=AA (.tup ys)):KT H' kvs xs:=
 Paired.mapP r λ_ _ z=>⟨z.1,z.2.1.stay ht,z.2.2⟩
section
variable {P:A4}{w:Aa}{H:Hp}{h:Aw}{a:AK}
def zjy{u:HO}(ok:HOk P w H h)(e:Rd H a u):yt P w H h a u:=e.ok ok
def zgu{kvs:List (Key×V)}(ok:HOk P w H h)(e:Rd H a (.dK kvs)):kvs.length<=sizeLine/\(a==sysModules)=AG/\∃vs,KV kvs vs/\h.DictOf (yO P w) a vs:=
 show yt P w H h a (.dK kvs)from zjy ok e
def zkw{kvs:List (Key×V)}(ok:HOk P w H h)(e:H a=AA (.dK kvs)):kvs.length<=sizeLine/\(a==sysModules)=AG/\∃vs,KV kvs vs/\h.DictOf (yO P w) a vs:=zgu ok (.inl e)
mutual
theorem zih(ok:HOk P w H h):∀(k:NK) (v:V) (u:AF),NKr H k v->RelV v u->NI h k u
 |.a k,v,u,x,r=>by cases (show v=kV k from x);exact zgN (P:=P) (w:=w) r
 |.t l,v,u,x,r=>by
  let⟨b,xs,rfl,g,hs⟩:=x
  cases (show u=Ab b from r)
  let⟨_,its,rv,h1⟩:=(show yt P w H h b (.tup xs)from ok b _ g);exact⟨b,its,rfl,h1,zgo ok l xs its hs rv⟩
theorem zgo(ok:HOk P w H h):∀(l:List NK) (xs:List V) (us:List AF),NKs H l xs->Vals xs us->NIs h l us
 |[],xs,us,x,r=>by cases (show xs=[]from x);cases r;rfl
 |k::l,xs,us,x,r=>by
  let⟨y,ys,rfl,h1,h2⟩:=x
  cases r with
  |cons r t=>exact⟨_,_,rfl,zih ok k y _ h1 r,zgo ok l ys _ h2 t⟩
end
def zcu{ks:List NK}(ok:HOk P w H h)(e:KyR H ks a):(yam P w).is h ks a:=⟨zih ok _ _ _ e.1 rfl,e.2⟩
def zgM{kvs:List (List NK×V)}(ok:HOk P w H h)(e:Rd H a (.dT kvs)):kvs.length<=sizeLine/\(a==sysModules)=AG /\
  ∃xs,KT H kvs xs/\h.DictOfH (yam P w) a xs:=by
 let⟨z,y,xs,r,o,es,ep,h1,h2,h3,h4,h5⟩:=(show yt P w H h a (.dT kvs)from zjy ok e);refine⟨z,y,xs,r,o,es,ep,h1,h2,h3,h4,λx hx=>?_,h5⟩;have all:∀{l:List (List NK×V)} {m:List (List NK×AK×AF)},KT H l m->∀x∈m,(yam P w).is h x.1 x.2.1:=by
  intro l m q
  induction q with
  |nil=>intro x hx;exact nomatch hx
  |@cons p q ps qs hq t ih=>
   intro x hx;rcases Ac.mp hx with e|hx
   .subst e;exact zcu ok (by rw[<-hq.1];exact hq.2.1)
   .exact ih x hx
 exact all r x hx
def zkb{kvs:List (List NK×V)}(ok:HOk P w H h)(e:H a=AA (.dT kvs)):kvs.length<=sizeLine/\(a==sysModules)=AG /\
  ∃xs,KT H kvs xs/\h.DictOfH (yam P w) a xs:=zgM ok (.inl e)
end
def yez(H:Hp)(a:AK)(y:V)(r:Option V):Prop:=
 (∃kvs k,Rd H a (.dK kvs)/\y=kV k/\r=yaS kvs k) \/ ∃kvs k b,Rd H a (.dT kvs)/\y=.ref b/\KyR H k b/\r=yaS kvs k
def yeP(H:Hp)(a:AK)(y v:V)(H':Hp):Prop:=
 (∃kvs k,H a=AA (.dK kvs)/\y=kV k/\kvs.length<sizeLine/\H'=upd H a (.dK (putK kvs k v))) \/
 ∃kvs k b,H a=AA (.dT kvs)/\y=.ref b/\KyR H k b/\kvs.length<sizeLine/\H'=upd H a (.dT (putK kvs k v))
section
variable {X:Cx}{π:List (AK×Bm)}{σ:St}{H:Hp}{s:AI}{a:AK}{y v:V}{u r:AF}{o:Option V}{A:A9}{E:AF->AI->Prop}
theorem Inv.big(I:Inv X π σ H s):sysModules<s.heap.objs.size:=by
 have h:mainGlobals<s.heap.objs.size:=(I.mod.glob.keeps I.bk).lt;exact Nat.lt_trans ⋯ h
def zec{h':Aw}{t':Nat}{ob:HO}(I:Inv X π σ H s)(mu:Mut (H a))(hs:BW a s.heap h')(he:∃q,h'.get? a=AA q)(new:yt X.prog X.w (upd H a ob) h' a ob):
  Inv X π σ (upd H a ob) {s with heap:=h',toks:=t'}:=
 I.write (x:=a) (e:=a) mu (.inl rfl) (λb q hb z=>(hs.2 b hb).trans z) he new
def zj6{P:A4}{w:Aa}{H':Hp}{h':Aw}{kvs:List (Key×V)}{vs:List (Key×AF)}(z:kvs.length<=sizeLine)(hd:(a==sysModules)=AG)(rel:KV kvs vs)(dd:h'.DictOf (yO P w) a vs):
  yt P w H' h' a (.dK kvs):=⟨z,hd,vs,rel,dd⟩
def zd1{H':Hp}{Q:Unit->AI->Prop}(hu:A.units+16<cLine)(I:Inv X π σ H s)(g:yeP H a y v H')(ry:RelV y u)(rv:RelV v r)(h:∀s',Inv X π σ H' s'->Q () s'):
  AV (model X.prog X.w) A (setItem (.ref a) u r) Q E s:=by
 rcases g with⟨kvs,k,e,ey,l,eH⟩|⟨kvs,k,b,e,ey,eb,l,eH⟩
 .subst ey eH;let⟨z,hd,vs,rel,dd⟩:=zkw I.hok e;have hz:vs.length<=sizeLine:=by rw[<-rel.length];exact z
  have hl:(putK kvs k v).length<=sizeLine:=by have:=zU kvs k v;lia
  refine wpAny_setItem_pairs (hsz:=hz) (zgN ry) dd λh' dd' hs=>h _ ?_;have he:∃q,h'.get? a=AA q:=let ⟨q,_,_,hq,_⟩:=dd';⟨q,hq⟩
  exact zec I (by rw[e];exact CB) hs he (zj6 hl hd (rel.put k rv) dd')
 .subst ey eH
  cases (show u=Ab b from ry)
  let⟨z,hd,xs,rel,dd⟩:=zkb I.hok e;have hz:xs.length<=sizeLine:=by rw[<-C2 rel];exact z
  have hl:(putK kvs k v).length<=sizeLine:=by have:=zU kvs k v;lia
  refine wpAny_setItem_heap (hsz:=hz) ((show A.in1.units+8<cLine by erw[Eb];lia)) (zcu I.hok eb) dd λh' dd' hs=>h _ ?_;let⟨q,es,ep,hq,h2,h3,h4,_,h5⟩:=dd';refine zec I (by rw[e];exact CB) hs ⟨q,hq⟩ ⟨hl,hd,_,(rel.put k eb rv).keeps λc ys ec=>?_,q,es,ep,hq,h2,h3,h4,h5⟩;rw[za (zkA ec e (λz=>nomatch z))];exact ec
end
section
variable {X:Cx}{π:List (AK×Bm)}{σ:St}{H:Hp}{s:AI}{a:AK}{kvs:List (Key×V)}{k:Key}{u:AF}{A:A9}{E:AF->AI->Prop}
end
def ydC(td ty tv:TE):TS:=λD σ H=>tv σ H λv H1=>td σ H1 λx H2=>ty σ H2 λy H3=>∃a H4,x=.ref a/\yeP H3 a y v H4/\D.nx σ H4
section
variable {X:Cx}{o i e value:AY}{pos pos' tpos:CG}{td ty tv:TE}
def zhe(hu:X.A.units+16<cLine)(ho:PE X o td)(hi:PE X i ty)(hv:PE X value tv)(hs:swapsWith value (AA (.Subscript o i pos')) pos.line X.env=pure AG):
  PS X (.Assign [.Subscript o i pos'] value pos) (ydC td ty tv):=by
 intro π s σ H D I h;refine wpAny_Assign_Subscript (thn (hv π s σ H _ I h) λr s1 kq=>?_) hs;let⟨v,H1,I1,rv,q1⟩:=kq;refine thn (ho π s1 σ H1 _ I1 q1) λu s2 kq=>?_;let⟨x,H2,I2,rx,q2⟩:=kq;refine thn (hi π s2 σ H2 _ I2 q2) λiv s3 kq=>?_;let⟨y,H3,I3,ry,a,H4,ex,g,q3⟩:=kq;subst ex;obtain rfl:u=Ab a:=rx;exact zd1 hu I3 g ry rv λs4 I4=>⟨σ,H4,I4,q3⟩
end
def zff{P:A4}{w:Aa}{H:Hp}(h:Aw)(hb:sysModules<h.objs.size):yt P w H (h.push {cls:=.type "dict",data:=.dict #[]}) h.objs.size (.dT []):=
 ⟨Bj _,beq_eq_false_iff_ne.mpr (B0 (Al hb)),[],.nil,_,#[],0,AT _ rfl,⟨rfl,rfl,rfl⟩,rfl,rfl,List.nodup_nil⟩
def ycV:TE:=λ_ H Q=>∀p,H p=AC->Q (.ref p) (upd H p (.dT []))
section
variable {X:Cx}{pos:CG}
def zlp:PE X (.Dict [] [] pos) ycV:=λπ s σ H Q I h=>
 wpAny_Dict_empty ⟨.ref s.heap.objs.size,_,I.laid (a:=s.heap.objs.size) (o:=.dT []) (t':=s.toks) (λ_ _ q=>AL _ q) (AR _) (zff s.heap I.big),rfl,h _ (I.hok.fresh (AR _))⟩
end
def yb2(kvs more:List (Key×V)):List (Key×V):=more.foldl (λacc kv=>putK acc kv.1 kv.2) kvs
structure M2(X:Cx)(o:AY)(m:AW)(apos:CG)(e f:AY)(cpos:CG):Prop where
 base:attributeBase o m X.env (eval o X.env)=eval o X.env
 few:((backTo cpos (starEach [e,f] X.env)).all (λx=>!x.1)&&(backToKw cpos (keywordEach [] X.env)).all (λx=>x.1.isSome)
  && decide (([e,f]:List AY).length+([]:List C9).length+(if ([]:List C9).isEmpty then 0 else 1)<30))=AD
 line:(apos.endLine==cpos.line)=AD
 trees:backTo cpos (starEach [e,f] X.env)=[(AG,eval e X.env),(AG,eval f X.env)]
def IsD(H:Hp)(a:AK):Prop:=(∃kvs,Rd H a (.dK kvs)) \/ ∃kvs,Rd H a (.dT kvs)
def ziH{X:Cx}{π:List (AK×Bm)}{σ:St}{H:Hp}{s:AI}{a:AK}(I:Inv X π σ H s)(d:IsD H a):
  s.TypeIs (.ref a) "dict"/\(∀b,Ab a=.ref b->∃ob,s.heap.get? b=AA ob/\ob.dict=AC)/\(a==sysModules)=false:=by
 rcases d with⟨kvs,e⟩|⟨kvs,e⟩
 .let⟨_,hd,vs,_,dd⟩:=zgu I.hok e;refine⟨dd.typeIs,λb q=>?_,hd⟩
  cases q
  let⟨ob,_,_,h1,h2,_⟩:=dd;exact⟨ob,h1,h2.2.1⟩
 .let⟨_,hd,xs,_,dd⟩:=zgM I.hok e;refine⟨dd.typeIs,λb q=>?_,hd⟩
  cases q
  let⟨ob,_,_,h1,h2,_⟩:=dd;exact⟨ob,h1,h2.2.1⟩
section
variable {X:Cx}{π:List (AK×Bm)}{σ:St}{H:Hp}{s:AI}{a:AK}{y d:V}{u r:AF}{o:Option V}{A:A9}{E:AF->AI->Prop}
def zjr{Q:AF->AI->Prop}(hu:A.units+16<cLine)(I:Inv X π σ H s)(g:yez H a y o)(ry:RelV y u)(rd:RelV d r)(h:∀w' s',Inv X π σ H s'->RelV (o.getD d) w'->Q w' s'):
  AV (model X.prog X.w) A (call (.builtin "dict.get") [.ref a,u,r]) Q E s:=by
 rcases g with⟨kvs,k,e,ey,l⟩|⟨kvs,k,b,e,ey,eb,l⟩
 .subst ey;let⟨z,hd,vs,rel,dd⟩:=zgu I.hok e;refine G0 DZ dd.typeIs Ez (Ei _ _ _) (meets_dict_get_default (yO X.prog X.w) a (zgN ry) hd r) ⟨_,dd.mapOf,h _ _ (I.tok _) ?_⟩;rw[l];exact(rel.val k).getD rd
 .subst ey
  cases (show u=Ab b from ry)
  let⟨z,hd,xs,rel,dd⟩:=zgM I.hok e;refine G0 DZ dd.typeIs Ez (Ei _ _ _) (meetsH_dict_get_default (yam X.prog X.w) a b hd r) ⟨(show A.in1.units+8<cLine by erw[Eb];lia),k,xs,zcu I.hok eb,dd,h _ _ (I.tok _) ?_⟩;rw[l];exact(rel.val k).getD rd
end
def ycw(td ty tx:TE):TE:=λσ H Q=>td σ H λx H1=>∃a,x=.ref a/\IsD H1 a/\ty σ H1 λy H2=>tx σ H2 λz H3=>∃o,yez H3 a y o/\Q (o.getD z) H3
section
variable {X:Cx}{o e f:AY}{apos cpos:CG}{td ty tx:TE}
def ze3(hu:X.A.units+16<cLine)(ho:PE X o td)(he:PE X e ty)(hf:PE X f tx)(m:M2 X o "get" apos e f cpos):PE X (.Call (.Attribute o "get" apos) [e,f] [] cpos) (ycw td ty tx):=by
 intro π s σ H Q I h;refine wpAny_Call_method m.base m.few m.line F3 DZ PySem.F.type_dict_get (thn (ho π s σ H _ I h) λu s1 kq=>?_);let⟨x,H1,I1,rx,a,ex,d,q1⟩:=kq;subst ex;obtain rfl:u=Ab a:=rx;let⟨t1,t2,_⟩:=ziH I1 d;refine⟨t1,t2,?_⟩;rw[m.trees];refine DQ rfl (FZ (Dy (thn (he π s1 σ H1 _ I1 q1) λiv s2 ⟨y,H2,I2,ry,q2⟩=>
  Dy (thn (hf π s2 σ H2 _ I2 q2) λfv s3 ⟨z,H3,I3,rz,ov,g,q3⟩=>GT ?_))))
 exact zjr hu I3 g ry rz λw' s4 I4 rw'=>⟨_,H3,I4,rw',q3⟩
end
section
variable {X:Cx}{π:List (AK×Bm)}{σ:St}{H:Hp}{s:AI}{a:AK}{kvs:List (Key×V)}{A:A9}{E:AF->AI->Prop}
end
section
variable {X:Cx}{π:List (AK×Bm)}{σ:St}{H:Hp}{s:AI}{a:AK}{y:V}{u:AF}{A:A9}{E:AF->AI->Prop}
end
end L2
namespace IC
open PySem
inductive PV where
 |non|bl (b:Bool)|int (i:Int)|str (x:AW)|tp (k:Bool) (xs:List PV)|lst (xs:List PV)|loc (n:Nat)|exn (c:Nat)|scr (xs:List PV)|fnc (j:Nat)
deriving Inhabited
abbrev PV.tup(xs:List PV):PV:=.tp AG xs
mutual
noncomputable def nL:PV->Bool
 |.loc _=>AG
 |.exn _=>AG
 |.fnc _=>AD
 |.tp _ xs=>nLs xs
 |.lst xs=>nLs xs
 |.scr xs=>nLs xs
 |_=>AD
noncomputable def nLs:List PV->Bool
 |[]=>AD
 |x::xs=>nL x&&nLs xs
end
mutual
noncomputable def shd(n:Nat):PV->Bool
 |.non=>AD
 |.bl _=>AD
 |.int _=>AD
 |.str x=>x.cps.all (· < 0x110000)
 |.tp _ xs=>decide (0<n)&&ybz (n-1) xs
 |.lst xs=>decide (0<n)&&ybz (n-1) xs
 |_=>AG
noncomputable def ybz(n:Nat):List PV->Bool
 |[]=>AD
 |x::xs=>shd n x&&ybz n xs
end
abbrev shp(v:PV):Bool:=shd 60 v
def flat:PV->Bool
 |.non=>AD
 |.bl _=>AD
 |.int _=>AD
 |.str _=>AD
 |_=>AG
def bi(b:Bool):Int:=if b then 1 else 0
mutual
noncomputable def peq:PV->PV->Bool
 |.non,.non=>AD
 |.bl a,.bl b=>a==b
 |.bl a,.int j=>bi a==j
 |.int i,.bl b=>i==bi b
 |.int i,.int j=>i==j
 |.str x,.str y=>x==y
 |.tp _ xs,.tp _ ys=>ybA xs ys
 |.lst xs,.lst ys=>ybA xs ys
 |_,_=>AG
noncomputable def ybA:List PV->List PV->Bool
 |[],[]=>AD
 |x::xs,y::ys=>peq x y&&ybA xs ys
 |_,_=>AG
end
inductive Ob where
 |lst (xs:List PV)|dct (t:Bool) (kvs:List (PV×PV))|dead|ins (c:Nat) (fs:List (AW×PV))
abbrev Env:=List (Option PV)
abbrev SO:=List Ob
inductive R(α:Type) where
 |ok (a:α) (st:SO)|exc (c:Nat) (st:SO)|bad
def R.bind{α β:Type}(r:R α)(k:α->SO->R β):R β:=
 match r with
 |.ok a st=>k a st
 |.exc c st=>.exc c st
 |.bad=>.bad
inductive BOp where
 |add|sub|mul|fdiv|mod|pow|shl|shr|band|bor|bxor
inductive COp where
 |eq|ne|lt|le|gt|ge|is|isnot|isin|notin
inductive Ty where
 |int|bool|str|tuple|list|cls (c:Nat)|val
inductive Blt where
 |len|int|abs|min|max|tuple|list|all|sum|dict|rev|str|any
inductive Mth where
 |append|extend|get|bits|upper|insert|count|index|join|split|sidx|clear
inductive Tg where
 |n (i:Nat)|t (l:List Nat)
set_option genInjectivity false
mutual
inductive Ce where
 |cst (v:PV)
 |var (i:Nat)
 |bin (o:BOp) (a b:Ce)
 |neg (a:Ce)
 |not (a:Ce)
 |and (a b:Ce)
 |or (a b:Ce)
 |cmp (o:COp) (a b:Ce)
 |chain (o p:COp) (a b c:Ce)
 |ite (c a b:Ce)
 |tup (es:Ces)
 |lst (es:Ces)
 |newl (es:Ces)
 |dict0 (t:Bool)
 |idx (a i:Ce)
 |slc (a:Ce) (lo hi:Ce)
 |call (f:Nat) (args:Ces)
 |blt (b:Blt) (args:Ces)
 |mth (m:Mth) (o:Ce) (args:Ces)
 |isi (a:Ce) (t:List Ty)
 |comp (sl:List (Option Nat)) (tg:Tg) (it:Cit) (c:Ce) (e:Ce)
 |nope
 |fld (c:Nat) (a:Ce) (f:AW)
 |new (c i:Nat) (es:Ces)
 |dof (a:Ce)
 |itm (i:Nat)
 |lsk (a:Ce)
 |lnd (a:Ce)
inductive Ces where
 |nil
 |cons (e:Ce) (es:Ces)
inductive Cit where
 |seq (e:Ce)
 |range1 (a:Ce)
 |range2 (a b:Ce)
 |rangeD (a b:Ce)
 |enum (e:Ce)
 |zip (a b:Ce)
 |revl (e:Ce)
 |revr (a:Ce)
 |chars (e:Ce)
end
set_option genInjectivity true
abbrev Ce.i(n:Int):Ce:=.cst (.int n)
abbrev Ce.s(x:AW):Ce:=.cst (.str x)
abbrev Ce.v:=Ce.var
abbrev Ces.k:=Ces.cons
abbrev Ces.e:=Ces.nil
mutual
inductive Cs where
 |expr (e:Ce)
 |asg (t:Tg) (e:Ce)
 |six (o i e:Ce)
 |dput (o i e:Ce)
 |aug (i:Nat) (o:BOp) (e:Ce)
 |ret (e:Ce)
 |ite (c:Ce) (a b:Css)
 |for (t:Tg) (it:Cit) (b:Css)
 |while (c:Ce) (b:Css)
 |nope
 |sfl (c:Nat) (o:Ce) (f:AW) (e:Ce)
inductive Css where
 |nil
 |cons (s:Cs) (ss:Css)
end
abbrev Css.k:=Css.cons
abbrev Css.e:=Css.nil
def yap(i j:Int):Bool:=(decide (i.natAbs<18446744073709551616)) || (decide (j.natAbs<18446744073709551616))
def binI(o:BOp)(i j:Int):Option PV:=
 match o with
 |.add=>AA (.int (i+j))
 |.sub=>AA (.int (i-j))
 |.mul=>if yap i j then AA (.int (i*j))else AC
 |.fdiv=>if 0<j/\j<10000000000000000000000000000000000000000000000000000000000000000000000 then AA (.int (i/j))else AC
 |.mod=>if 0<j then AA (.int (i%j))else AC
 |.pow=>if 0<=j/\j<=1000000/\i.natAbs<18446744073709551616 then AA (.int (i^j.toNat))else AC
 |.shl=>if 0<=j/\j<=1000000/\i.natAbs<1606938044258990275541962092341162602522202993782792835301376 then AA (.int (i*2^j.toNat))else AC
 |.shr=>if 0<=j then AA (.int (i/2^j.toNat))else AC
 |.band=>AA (.int (Builtin.bitAnd i j))
 |.bor=>AA (.int (Builtin.bitOr i j))
 |.bxor=>AA (.int (Builtin.bitXor i j))
def sizeMax:Nat:=16777216
def yeR(k:Bool)(a:List PV)(j:Bool)(b:List PV):PV:=if a.isEmpty then .tp j b else if b.isEmpty then .tp k a else .tup (a++b)
def yr(o:BOp)(x y:PV):Option PV:=
 match x,y with
 |.int i,.int j=>binI o i j
 |.int i,.bl b=>match o with
  |.add=>AA (.int (i+bi b))
  |_=>AC
 |.str a,.str b=>match o with
  |.add=>if a.length+b.length<=sizeMax then AA (.str (a++b))else AC
  |_=>AC
 |.tp k a,.tp j b=>match o with
  |.add=>if a.length+b.length<=sizeMax then AA (yeR k a j b)else AC
  |_=>AC
 |.lst a,.lst b=>match o with
  |.add=>if a.length+b.length<=sizeMax then AA (.lst (a++b))else AC
  |_=>AC
 |_,_=>AC
def yaW(o:BOp)(x y:PV):Option PV:=
 match x,y with
 |.int i,.int j=>binI o i j
 |_,_=>AC
def isNon:PV->Bool
 |.non=>AD
 |_=>AG
def inL(x:PV):List PV->Bool
 |[]=>AG
 |y::ys=>peq y x || inL x ys
def inS(a b:AW):Bool:=(D1 (b.length+1)).any λi=>decide (i+a.length<=b.length)&&(b.cps.extract i (i+a.length)==a.cps)
def ybq(o:COp)(i j:Int):Option PV:=
 match o with
 |.lt=>AA (.bl (decide (i<j)))
 |.le=>AA (.bl (decide (i<=j)))
 |.gt=>AA (.bl (decide (j<i)))
 |.ge=>AA (.bl (decide (j<=i)))
 |_=>AC
def ydk(o:COp)(a b:AW):Option PV:=
 match o with
 |.lt=>AA (.bl (decide (a.cps.toList<b.cps.toList)))
 |.le=>AA (.bl (!decide (b.cps.toList<a.cps.toList)))
 |_=>AC
def yw(o:COp)(x y:PV):Option PV:=
 match o with
 |.eq=>if shp x&&shp y then AA (.bl (peq x y))else AC
 |.ne=>if shp x&&shp y then AA (.bl (!peq x y))else AC
 |.is=>match y with
  |.non=>AA (.bl (isNon x))
  |.bl b=>match x with
   |.bl a=>AA (.bl (a==b))
   |_=>AC
  |_=>AC
 |.isnot=>match y with
  |.non=>AA (.bl (!isNon x))
  |.bl b=>match x with
   |.bl a=>AA (.bl (!(a==b)))
   |_=>AC
  |_=>AC
 |.isin=>match x,y with
  |.str a,.str b=>AA (.bl (inS a b))
  |x,.tp _ l=>if flat x&&l.all flat then AA (.bl (inL x l))else AC
  |x,.lst l=>if flat x&&l.all flat then AA (.bl (inL x l))else AC
  |_,_=>AC
 |.notin=>match x,y with
  |.str a,.str b=>AA (.bl (!inS a b))
  |x,.tp _ l=>if flat x&&l.all flat then AA (.bl (!inL x l))else AC
  |x,.lst l=>if flat x&&l.all flat then AA (.bl (!inL x l))else AC
  |_,_=>AC
 |o=>match x,y with
  |.int i,.int j=>ybq o i j
  |.str a,.str b=>ydk o a b
  |_,_=>AC
def yaC(st:SO)(x:PV):Option Bool:=
 match x with
 |.non=>AA AG
 |.bl b=>AA b
 |.int i=>AA (i != 0)
 |.str y=>if y.length<=sizeMax then AA ((y.length:Int) != 0)else AC
 |.tp _ xs=>AA (!xs.isEmpty)
 |.lst xs=>AA (!xs.isEmpty)
 |.loc n=>match st[n]? with
  |some (.lst xs)=>AA (!xs.isEmpty)
  |_=>AC
 |_=>AC
def ixI(n:Nat)(i:Int):Option Nat:=if 0<=i then(if i<n then AA i.toNat else AC)else if -(n:Int)<=i then AA (i+n).toNat else AC
def at?{α:Type}(xs:List α)(i:Int):Option α:=(ixI xs.length i).bind λj=>xs[j]?
def look(k:PV):List (PV×PV)->Option PV
 |[]=>AC
 |(a,b)::r=>if peq a k then AA b else look k r
def put(k v:PV)(kvs:List (PV×PV)):List (PV×PV):=
 if (kvs.any λp=>peq p.1 k)=AD then kvs.map (λp=>if peq p.1 k=AD then(p.1,v)else p)else kvs++[(k,v)]
def yb0:PV->Bool
 |.int _=>AD
 |.str _=>AD
 |_=>AG
mutual
noncomputable def yd3(n:Nat):PV->Bool
 |.int _=>AD
 |.str x=>x.cps.all (· < 0x110000)
 |.tp k xs=>!k&&decide (0<n)&&ybt (n-1) xs
 |_=>AG
noncomputable def ybt(n:Nat):List PV->Bool
 |[]=>AD
 |x::xs=>yd3 n x&&ybt n xs
end
def isKey(t:Bool)(k:PV):Bool:=
 match t with
 |false=>yb0 k
 |true=>match k with
  |.tp AG xs=>ybt 5 xs
  |_=>AG
def yaE{α:Type}(xs:List α)(i:PV):Option α:=
 match i with
 |.int k=>at? xs k
 |_=>AC
def idxV(st:SO)(x i:PV):Option PV:=
 match x with
 |.tp _ xs=>yaE xs i
 |.lst xs=>yaE xs i
 |.str s=>if s.length<=sizeMax then(yaE s.cps.toList i).map λc=>.str ⟨#[c]⟩else AC
 |.loc n=>match st[n]? with
  |some (.lst xs)=>yaE xs i
  |_=>AC
 |_=>AC
def yak(n:Nat)(v:Int):Nat:=if v<0 then(v+(n:Int)).toNat else min v.toNat n
def ybg(n:Nat)(lo:Option Int):Nat:=
 match lo with
 |none=>0
 |some i=>yak n i
def ybj(n:Nat)(hi:Option Int):Nat:=
 match hi with
 |none=>n
 |some i=>yak n i
def cut{α:Type}(xs:List α)(lo hi:Option Int):List α:=(xs.drop (ybg xs.length lo)).take (ybj xs.length hi-ybg xs.length lo)
def yaV:PV->Option (Option Int)
 |.non=>AA AC
 |.int i=>AA (AA i)
 |_=>AC
def yaO(x:PV)(a b:Option Int):Option PV:=
 match x with
 |.tp k xs=>if ybg xs.length a=0/\ybj xs.length b=xs.length then AA (.tp k xs)else AA (.tup (cut xs a b))
 |.str s=>if s.length<=sizeMax then AA (.str ⟨(cut s.cps.toList a b).toArray⟩)else AC
 |.lst xs=>AA (.lst (cut xs a b))
 |.scr xs=>AA (.lst (cut xs a b))
 |_=>AC
def ya7(x:PV)(a:Option Int)(hi:PV):Option PV:=
 match yaV hi with
 |some b=>yaO x a b
 |none=>AC
def yaZ(x:PV)(t:Ty):Bool:=
 match x,t with
 |.int _,.int=>AD
 |.bl _,.int=>AD
 |.bl _,.bool=>AD
 |.str _,.str=>AD
 |.tp _ _,.tuple=>AD
 |.lst _,.list=>AD
 |.exn c,.cls d=>c==d
 |.exn _,.val=>AD
 |_,_=>AG
def ycM:Ty->Bool
 |.cls _=>AG
 |.val=>AG
 |_=>AD
def ybs(x:PV)(ts:List Ty):Option PV:=
 match x with
 |.loc _=>AC
 |.scr _=>AC
 |.fnc _=>AC
 |.exn c=>if ts.all ycM then AC else AA (.bl (ts.any (yaZ (.exn c))))
 |x=>match ts with
  |[t]=>if ycM t then AA (.bl (yaZ x t))else AC
  |_=>AC
def allB:List PV->Option Bool
 |[]=>AA AD
 |.bl b::r=>match allB r with
  |some c=>AA (b&&c)
  |none=>AC
 |_::_=>AC
def ybE:List PV->Option Int
 |[]=>AA 0
 |.int i::r=>match ybE r with
  |some c=>AA (i+c)
  |none=>AC
 |_::_=>AC
def yen:List PV->Option Int
 |[]=>AC
 |[.int i]=>AA i
 |.int i::r=>match yen r with
  |some c=>AA (if i<c then c else i)
  |none=>AC
 |_::_=>AC
def seqOf(st:SO):PV->Option (List PV)
 |.tp _ xs=>AA xs
 |.lst xs=>AA xs
 |.loc n=>match st[n]? with
  |some (.lst xs)=>AA xs
  |_=>AC
 |_=>AC
def yF(st:SO):PV->Option (List PV)
 |.lst xs=>AA xs
 |.loc n=>match st[n]? with
  |some (.lst xs)=>AA xs
  |_=>AC
 |_=>AC
def lenV(st:SO)(x:PV):Option PV:=
 match x with
 |.str s=>if s.length<=sizeMax then AA (.int s.length)else AC
 |x=>(seqOf st x).map λxs=>.int xs.length
def yfk(x:PV):Option PV:=
 match x with
 |.int i=>AA (.int i)
 |.bl k=>AA (.int (bi k))
 |_=>AC
def ycD(x:PV):Option PV:=
 match x with
 |.int i=>AA (.int (if i<0 then -i else i))
 |_=>AC
def yfE(x y:PV):Option PV:=
 match x,y with
 |.int i,.int j=>AA (.int (if j<i then j else i))
 |_,_=>AC
def maxV(x y:PV):Option PV:=
 match x,y with
 |.int i,.int j=>AA (.int (if i<j then j else i))
 |_,_=>AC
def ydd(st:SO)(x:PV):Option PV:=
 match x with
 |.tp k xs=>AA (.tp k xs)
 |x=>(yF st x).map .tup
def ydn:PV->Option PV
 |.tp _ xs=>AA (.tup xs.reverse)
 |.lst xs=>AA (.lst xs.reverse)
 |_=>AC
def anyB:List PV->Option Bool
 |[]=>AA AG
 |.bl b::r=>match anyB r with
  |some c=>AA (b || c)
  |none=>AC
 |_=>AC
def anyI:List PV->Option Bool
 |[]=>AA AG
 |.int i::r=>match anyI r with
  |some c=>AA ((i != 0) || c)
  |none=>AC
 |_=>AC
def yfG:PV->Option PV
 |.int i=>if i=0 then AA (.str "0")else if i=1 then AA (.str "1")else AC
 |_=>AC
def yaa(b:Blt)(st:SO)(vs:List PV):Option PV:=
 match vs with
 |[x]=>match b with
  |.len=>lenV st x
  |.int=>yfk x
  |.abs=>ycD x
  |.max=>(yF st x).bind λxs=>(yen xs).map .int
  |.tuple=>ydd st x
  |.list=>(seqOf st x).map .lst
  |.all=>(yF st x).bind λxs=>(allB xs).map .bl
  |.sum=>(yF st x).bind λxs=>(ybE xs).map .int
  |.rev=>ydn x
  |.str=>yfG x
  |.any=>match x with
   |.tp _ xs=>(anyI xs).map .bl
   |x=>(yF st x).bind λxs=>(anyB xs).map .bl
  |_=>AC
 |[x,y]=>match b with
  |.min=>yfE x y
  |.max=>maxV x y
  |_=>AC
 |_=>AC
def yR(st:SO):PV->Option (Bool×List (PV×PV))
 |.loc n=>match st[n]? with
  |some (.dct t xs)=>AA (t,xs)
  |_=>AC
 |_=>AC
def yaA(m:Mth)(st:SO)(x:PV):Option Bool:=
 match m with
 |.append=>(yF st x).map λ_=>AD
 |.extend=>(yF st x).map λ_=>AD
 |.insert=>(yF st x).map λ_=>AD
 |.count=>(yF st x).map λ_=>AD
 |.index=>(yF st x).map λ_=>AD
 |.get=>(yR st x).map λ_=>AD
 |.bits=>match x with
  |.int _=>AA AD
  |_=>AC
 |.upper=>match x with
  |.str _=>AA AD
  |_=>AC
 |.join=>match x with
  |.str _=>AA AD
  |_=>AC
 |.split=>match x with
  |.str _=>AA AD
  |_=>AC
 |.sidx=>match x with
  |.str _=>AA AD
  |_=>AC
 |.clear=>match x with
  |.loc n=>(yF st (.loc n)).map λ_=>AD
  |_=>AC
def ydG(st:SO)(o v:PV):R PV:=
 match o with
 |.loc n=>match st[n]? with
  |some (.lst xs)=>if xs.length<1000000 then .ok .non (st.set n (.lst (xs++[v])))else .bad
  |_=>.bad
 |_=>.bad
def yfb(st:SO)(o v:PV):R PV:=
 match o with
 |.loc n=>match st[n]? with
  |some (.lst xs)=>match v with
   |.lst ys=>if xs.length+ys.length<=1000000 then .ok .non (st.set n (.lst (xs++ys)))else .bad
   |_=>.bad
  |_=>.bad
 |_=>.bad
def yf6(st:SO)(o i v:PV):R PV:=
 match o with
 |.loc n=>match st[n]? with
  |some (.lst xs)=>match i with
   |.int k=>if 0<=k/\k<=xs.length/\xs.length<1000000 then .ok .non (st.set n (.lst (xs.take k.toNat++v::xs.drop k.toNat)))else .bad
   |_=>.bad
  |_=>.bad
 |_=>.bad
def yc7(st:SO)(o k d:PV):R PV:=
 match yR st o with
 |some (t,kvs)=>if isKey t k then .ok ((look k kvs).getD d) st else .bad
 |none=>.bad
def yfi(st:SO)(o v:PV):R PV:=
 match yF st o with
 |some xs=>if flat v&&xs.all flat then .ok (.int (xs.countP λy=>peq y v)) st else .bad
 |none=>.bad
def ycH(v:PV):List PV->Option Nat
 |[]=>AC
 |y::ys=>if peq y v then AA 0 else(ycH v ys).map (·+1)
def ye3(st:SO)(o v:PV):R PV:=
 match yF st o with
 |some xs=>if flat v&&xs.all flat then(match ycH v xs with
  |some j=>.ok (.int j) st
  |none=>.bad)else .bad
 |none=>.bad
def upC(c:Nat):Nat:=if 97<=c/\c<=122 then c-32 else c
def upS(s:AW):Str:=⟨(s.cps.toList.map upC).toArray⟩
def ybw(c:Nat):List Nat->List (List Nat)
 |[]=>[[]]
 |x::xs=>if x=c then []::ybw c xs else match ybw c xs with
  |[]=>[[x]]
  |p::ps=>(x::p)::ps
def strsOf:List PV->Option (List AW)
 |[]=>AA []
 |.str s::r=>(strsOf r).map (s :: ·)
 |_=>AC
def ydD(st:SO)(o v:PV):R PV:=
 match o,yF st v with
 |.str s,AA xs=>match strsOf xs with
  |some ys=>if s.length<=10/\xs.length<=1000/\(ys.all λy=>decide (y.length<=1000))=AD then .ok (.str (Str.join s ys)) st else .bad
  |none=>.bad
 |_,_=>.bad
def yfV(st:SO)(o:PV):R PV:=
 match o with
 |.loc n=>match st[n]? with
  |some (.lst _)=>.ok .non (st.set n (.lst []))
  |_=>.bad
 |_=>.bad
def ydq(st:SO)(o v:PV):R PV:=
 match o,v with
 |.str s,.str y=>if s=AS "01" then(if y=AS "0" then .ok (.int 0) st else if y=AS "1" then .ok (.int 1) st else .bad)else .bad
 |_,_=>.bad
def ycR(st:SO)(o v:PV):R PV:=
 match o,v with
 |.str s,.str y=>match y.cps.toList with
  |[c]=>if s.length<=100000 then .ok (.lst ((ybw c s.cps.toList).map λl=>.str ⟨l.toArray⟩)) st else .bad
  |_=>.bad
 |_,_=>.bad
def ybK(m:Mth)(st:SO)(o:PV)(vs:List PV):R PV:=
 match m,vs with
 |.append,[v]=>ydG st o v
 |.extend,[v]=>yfb st o v
 |.insert,[i,v]=>yf6 st o i v
 |.get,[k,d]=>yc7 st o k d
 |.count,[v]=>yfi st o v
 |.index,[v]=>ye3 st o v
 |.join,[v]=>ydD st o v
 |.split,[v]=>ycR st o v
 |.sidx,[v]=>ydq st o v
 |.clear,[]=>yfV st o
 |.bits,[]=>match o with
  |.int i=>.ok (.int (Cv i)) st
  |_=>.bad
 |.upper,[]=>match o with
  |.str s=>if s.cps.toList.all (· < 128)/\s.length<=1000000 then .ok (.str (upS s)) st else .bad
  |_=>.bad
 |_,_=>.bad
def toR(o:Option PV)(st:SO):R PV:=
 match o with
 |some v=>.ok v st
 |none=>.bad
def yC(t:Tg)(v:PV)(ρ:Env):Option Env:=
 match t,v with
 |.n i,v=>AA (ρ.set i (AA v))
 |.t l,.tp _ xs=>if l.length=xs.length then AA ((l.zip xs).foldl (λρ p=>ρ.set p.1 (AA p.2)) ρ)else AC
 |_,_=>AC
def yZ:Nat->List PV->List PV
 |_,[]=>[]
 |k,x::xs=>.tup [.int k,x]::yZ (k+1) xs
def ycv:List PV->List PV->List PV
 |x::xs,y::ys=>.tup [x,y]::ycv xs ys
 |_,_=>[]
def yf7:PV->Option (List PV)
 |.tp _ xs=>AA xs.reverse
 |.lst xs=>AA xs.reverse
 |_=>AC
def ybx:PV->Option (List PV)
 |.str s=>if s.length<=1000000 then AA (s.cps.toList.map λc=>.str ⟨#[c]⟩)else AC
 |_=>AC
def yf0(x y:PV):Option (List PV):=
 match x,y with
 |.tp _ xs,.tp _ ys=>if xs.length<=ys.length then AA (ycv xs ys)else AC
 |_,_=>AC
def yba(s:AW):List (AW×PV)->Option PV
 |[]=>AC
 |(a,b)::r=>if decide (a=s)then AA b else yba s r
def yh:Nat->Int->Int->List PV
 |0,_,_=>[]
 |n+1,a,d=>.int a::yh n (a+d) d
def ybJ(x:PV):Option (List PV):=
 match x with
 |.int j=>if j.natAbs<1000000000 then AA (yh j.toNat 0 1)else AC
 |_=>AC
def yfH(x:PV):Option (List PV):=
 match x with
 |.int j=>if 0<=j/\j<1000000000 then AA (yh j.toNat (j-1) (-1))else AC
 |_=>AC
def yc2(x y:PV):Option (List PV):=
 match x,y with
 |.int i,.int j=>if i.natAbs<1000000000/\j.natAbs<1000000000 then AA (yh (j-i).toNat i 1)else AC
 |_,_=>AC
def ycX(x y:PV):Option (List PV):=
 match x,y with
 |.int i,.int j=>if i.natAbs<1000000000/\j.natAbs<1000000000 then AA (yh (i-j).toNat i (-1))else AC
 |_,_=>AC
def toL(o:Option (List PV))(st:SO):R (List PV):=
 match o with
 |some v=>.ok v st
 |none=>.bad
def ya3(c:Nat)(st:SO)(x:PV)(f:AW):Option PV:=
 match x with
 |.loc n=>match st[n]? with
  |some (.ins d fs)=>if d=c then fs.lookup f else AC
  |_=>AC
 |_=>AC
def ybP(f:AW)(v:PV):List (AW×PV)->List (AW×PV)
 |[]=>[(f,v)]
 |(g,x)::r=>if g=f then(g,v)::r else(g,x)::ybP f v r
def ybQ(c:Nat)(st:SO)(x:PV)(f:AW)(v:PV):Option SO:=
 match x with
 |.loc n=>match st[n]? with
  |some (.ins d fs)=>if d=c/\fs.length<1000 then AA (st.set n (.ins c (ybP f v fs)))else AC
  |_=>AC
 |_=>AC
def newV(n:Nat)(v:PV)(st:SO):R PV:=
 match v with
 |.non=>.ok (.loc n) st
 |_=>.bad
def ybh(r:R PV):R PV:=
 match r with
 |.ok v st=>.ok v st
 |_=>.bad
inductive Fl where
 |nx (ρ:Env) (st:SO)|rt (v:PV) (st:SO)|bk (ρ:Env) (st:SO)|ct (ρ:Env) (st:SO)|exc (c:Nat) (ρ:Env) (st:SO)|bad
def onBl{α:Type}(x:PV)(k:Bool->R α):R α:=
 match x with
 |.bl b=>k b
 |_=>.bad
def onO{α:Type}(o:Option Bool)(k:Bool->R α):R α:=
 match o with
 |some b=>k b
 |none=>.bad
def onF(o:Option Bool)(k:Bool->Fl):Fl:=
 match o with
 |some b=>k b
 |none=>.bad
def onP{α:Type}(o:Option (Option Int))(k:Option Int->R α):R α:=
 match o with
 |some b=>k b
 |none=>.bad
def blO(o:Option PV):Option Bool:=
 match o with
 |some (.bl b)=>AA b
 |_=>AC
def yck(o:Option PV)(ys:List PV):List PV:=
 match o with
 |some y=>y::ys
 |none=>ys
def ybO(one:PV->SO->R (Option PV)):List PV->SO->R (List PV)
 |[],st=>.ok [] st
 |x::xs,st=>(one x st).bind λo st1=>(ybO one xs st1).bind λys st2=>.ok (yck o ys) st2
def ybD(r:R (List PV)):R PV:=
 match r with
 |.ok ys st=>if ys.length<=1000000 then .ok (.lst ys) st else .bad
 |_=>.bad
def ydF:PV->Option (PV×PV)
 |.tp AG [k,v]=>if isKey AD k then AA (k,v)else AC
 |_=>AC
def ycn:List PV->Option (List (PV×PV))
 |[]=>AA []
 |x::r=>(ydF x).bind λp=>(ycn r).map (p :: ·)
def ybp:PV×PV->Bool
 |(_,.int _)=>AD
 |_=>AG
def ivP:PV->Int
 |.int i=>i
 |_=>0
def ycU(st:SO)(o:Option (Option PV)):R PV:=
 match o with
 |some (AA v)=>match yR st v with
  |some (AD,kvs)=>if kvs.length<=1000 then .ok (.lst (kvs.map λp=>.tup [p.1,p.2])) st else .bad
  |_=>.bad
 |_=>.bad
def ycI(st:SO)(x:PV):Option PV:=
 match yR st x with
 |some (AD,kvs)=>if kvs.length<=1000 then AA (.lst (kvs.map λp=>p.1))else AC
 |_=>AC
def ycx(st:SO)(x:PV):Option PV:=
 match yR st x with
 |some (AD,kvs)=>AA (.int kvs.length)
 |_=>AC
def ycb(ka kb:List (PV×PV)):Bool:=ka.length==kb.length&&ka.all λp=>match look p.1 kb with
 |some v=>ivP p.2==ivP v
 |none=>AG
def ycm(st:SO)(x:PV):R PV:=
 match x with
 |.tp AG xs=>match ycn xs with
  |some kvs=>if kvs.length<=1000 then .ok (.loc st.length) (st++[.dct AD (kvs.foldl (λacc kv=>put kv.1 kv.2 acc) [])])else .bad
  |none=>.bad
 |_=>.bad
mutual
noncomputable def ev(call:Nat->List PV->SO->R PV)(ρ:Env)(st:SO):Ce->R PV
 |.cst v=>.ok v st
 |.var i=>match ρ[i]? with
  |some (AA v)=>.ok v st
  |_=>.bad
 |.bin o a b=>(ev call ρ st a).bind λx st1=>(ev call ρ st1 b).bind λy st2=>toR (yr o x y) st2
 |.neg a=>(ev call ρ st a).bind λx st1=>match x with
  |.int i=>.ok (.int (-i)) st1
  |_=>.bad
 |.not a=>(ev call ρ st a).bind λx st1=>onBl x λk=>.ok (.bl (!k)) st1
 |.and a b=>(ev call ρ st a).bind λx st1=>onBl x λk=>cond k (ev call ρ st1 b) (.ok (.bl AG) st1)
 |.or a b=>(ev call ρ st a).bind λx st1=>onBl x λk=>cond k (.ok (.bl AD) st1) (ev call ρ st1 b)
 |.cmp o a b=>(ev call ρ st a).bind λx st1=>(ev call ρ st1 b).bind λy st2=>toR (yw o x y) st2
 |.chain o p a b c=>(ev call ρ st a).bind λx st1=>(ev call ρ st1 b).bind λy st2=>onO (blO (yw o x y)) λk=>cond k ((ev call ρ st2 c).bind λz st3=>toR (yw p y z) st3) (.ok (.bl AG) st2)
 |.ite c a b=>(ev call ρ st c).bind λx st1=>onO (yaC st1 x) λk=>cond k (ev call ρ st1 a) (ev call ρ st1 b)
 |.tup es=>(evs call ρ st es).bind λvs st1=>if vs.length<=sizeMax then .ok (.tup vs) st1 else .bad
 |.lst es=>(evs call ρ st es).bind λvs st1=>if vs.length<=sizeMax then .ok (.lst vs) st1 else .bad
 |.newl es=>(evs call ρ st es).bind λvs st1=>if vs.length<=sizeMax then .ok (.loc st1.length) (st1++[.lst vs])else .bad
 |.dict0 t=>.ok (.loc st.length) (st++[.dct t []])
 |.idx a i=>(ev call ρ st a).bind λx st1=>(ev call ρ st1 i).bind λy st2=>toR (idxV st2 x y) st2
 |.slc a l h=>(ev call ρ st a).bind λx st1=>(ev call ρ st1 l).bind λy st2=>onP (yaV y) λo=>(ev call ρ st2 h).bind λz st3=>toR (ya7 x o z) st3
 |.call f es=>(evs call ρ st es).bind λvs st1=>call f vs st1
 |.blt b es=>(evs call ρ st es).bind λvs st1=>toR (yaa b st1 vs) st1
 |.mth m o es=>(ev call ρ st o).bind λx st1=>onO (yaA m st1 x) λ_=>(evs call ρ st1 es).bind λvs st2=>ybK m st2 x vs
 |.isi a ts=>(ev call ρ st a).bind λx st1=>toR (ybs x ts) st1
 |.comp sl tg it c e=>(evi call ρ st it).bind λxs st1=>
  let ρ0:Env:=sl.map λo=>o.bind λj=>(ρ[j]?).join
  ybD (ybO (λx st2=>match yC tg x ρ0 with
   |none=>.bad
   |some ρ1=>(ev call ρ1 st2 c).bind λb st3=>onO (yaC st3 b) λk=>cond k ((ev call ρ1 st3 e).bind λy st4=>.ok (AA y) st4) (.ok AC st3)) xs st1)
 |.nope=>.bad
 |.fld c a f=>(ev call ρ st a).bind λx st1=>toR (ya3 c st1 x f) st1
 |.new c i es=>(evs call ρ st es).bind λvs st1=>(ybh (call i (.loc st1.length::vs) (st1++[.ins c []]))).bind λv st2=>newV st1.length v st2
 |.dof a=>(ev call ρ st a).bind λx st1=>ycm st1 x
 |.itm i=>ycU st ρ[i]?
 |.lsk a=>(ev call ρ st a).bind λx st1=>toR (ycI st1 x) st1
 |.lnd a=>(ev call ρ st a).bind λx st1=>toR (ycx st1 x) st1
noncomputable def evs(call:Nat->List PV->SO->R PV)(ρ:Env)(st:SO):Ces->R (List PV)
 |.nil=>.ok [] st
 |.cons e es=>(ev call ρ st e).bind λv st1=>(evs call ρ st1 es).bind λvs st2=>.ok (v::vs) st2
noncomputable def evi(call:Nat->List PV->SO->R PV)(ρ:Env)(st:SO):Cit->R (List PV)
 |.seq e=>(ev call ρ st e).bind λv st1=>match v with
  |.tp _ xs=>.ok xs st1
  |.lst xs=>.ok xs st1
  |_=>.bad
 |.range1 a=>(ev call ρ st a).bind λx st1=>toL (ybJ x) st1
 |.range2 a b=>(ev call ρ st a).bind λx st1=>(ev call ρ st1 b).bind λy st2=>toL (yc2 x y) st2
 |.rangeD a b=>(ev call ρ st a).bind λx st1=>(ev call ρ st1 b).bind λy st2=>toL (ycX x y) st2
 |.enum e=>(ev call ρ st e).bind λv st1=>match v with
  |.tp _ xs=>.ok (yZ 0 xs) st1
  |_=>.bad
 |.zip a b=>(ev call ρ st a).bind λx st1=>(ev call ρ st1 b).bind λy st2=>toL (yf0 x y) st2
 |.revl e=>(ev call ρ st e).bind λv st1=>toL (yf7 v) st1
 |.revr a=>(ev call ρ st a).bind λx st1=>toL (yfH x) st1
 |.chars e=>(ev call ρ st e).bind λv st1=>toL (ybx v) st1
end
def R.fl{α:Type}(r:R α)(ρ:Env)(k:α->SO->Fl):Fl:=
 match r with
 |.ok a st=>k a st
 |.exc c st=>.exc c ρ st
 |.bad=>.bad
def yah(f:Fl)(k:Env->SO->Fl):Fl:=
 match f with
 |.nx ρ st=>k ρ st
 |.ct ρ st=>k ρ st
 |.bk ρ st=>.nx ρ st
 |f=>f
def forL(t:Tg)(body:Env->SO->Fl):List PV->Env->SO->Fl
 |[],ρ,st=>.nx ρ st
 |x::xs,ρ,st=>match yC t x ρ with
  |none=>.bad
  |some ρ1=>yah (body ρ1 st) λρ2 st2=>forL t body xs ρ2 st2
def yar(test:Env->SO->R PV)(body:Env->SO->Fl):Nat->Env->SO->Fl
 |0,_,_=>.bad
 |n+1,ρ,st=>(test ρ st).fl ρ λx st1=>onF (yaC st1 x) λk=>cond k (yah (body ρ st1) λρ2 st2=>yar test body n ρ2 st2) (.nx ρ st1)
def ybd(st:SO)(o i v:PV):Option SO:=
 match o with
 |.loc n=>match st[n]? with
  |some (.lst xs)=>match i with
   |.int k=>match ixI xs.length k with
    |some j=>AA (st.set n (.lst (xs.set j v)))
    |none=>AC
   |_=>AC
  |_=>AC
 |_=>AC
def ya8(st:SO)(o i v:PV):Option SO:=
 match o with
 |.loc n=>match st[n]? with
  |some (.dct t kvs)=>if isKey t i/\kvs.length<1000000 then AA (st.set n (.dct t (put i v kvs)))else AC
  |_=>AC
 |_=>AC
mutual
noncomputable def ex(call:Nat->List PV->SO->R PV)(ρ:Env)(st:SO):Cs->Fl
 |.expr e=>(ev call ρ st e).fl ρ λ_ st1=>.nx ρ st1
 |.asg t e=>(ev call ρ st e).fl ρ λv st1=>match yC t v ρ with
  |some ρ1=>.nx ρ1 st1
  |none=>.bad
 |.six o i e=>(ev call ρ st e).fl ρ λv st1=>(ev call ρ st1 o).fl ρ λx st2=>(ev call ρ st2 i).fl ρ λy st3=>match ybd st3 x y v with
  |some st4=>.nx ρ st4
  |none=>.bad
 |.dput o i e=>(ev call ρ st e).fl ρ λv st1=>(ev call ρ st1 o).fl ρ λx st2=>(ev call ρ st2 i).fl ρ λy st3=>match ya8 st3 x y v with
  |some st4=>.nx ρ st4
  |none=>.bad
 |.aug i o e=>match ρ[i]? with
  |some (AA x)=>(ev call ρ st e).fl ρ λy st1=>match yaW o x y with
   |some z=>.nx (ρ.set i (AA z)) st1
   |none=>.bad
  |_=>.bad
 |.ret e=>(ev call ρ st e).fl ρ λv st1=>.rt v st1
 |.ite c a b=>(ev call ρ st c).fl ρ λx st1=>onF (yaC st1 x) λk=>cond k (exs call ρ st1 a) (exs call ρ st1 b)
 |.for t it b=>(evi call ρ st it).fl ρ λxs st1=>forL t (λρ2 st2=>exs call ρ2 st2 b) xs ρ st1
 |.while c b=>yar (λρ2 st2=>ev call ρ2 st2 c) (λρ2 st2=>exs call ρ2 st2 b) 100000 ρ st
 |.nope=>.bad
 |.sfl c o f e=>(ev call ρ st e).fl ρ λv st1=>(ev call ρ st1 o).fl ρ λx st2=>match ybQ c st2 x f v with
  |some st3=>.nx ρ st3
  |none=>.bad
noncomputable def exs(call:Nat->List PV->SO->R PV)(ρ:Env)(st:SO):Css->Fl
 |.nil=>.nx ρ st
 |.cons s ss=>match ex call ρ st s with
  |.nx ρ1 st1=>exs call ρ1 st1 ss
  |f=>f
end
structure Fn where
 np:Nat
 ns:Nat
 pure:Bool
 body:Css
def yd(T:Nat->Option Fn):Nat->Nat->List PV->SO->R PV
 |0,_,_,_=>.bad
 |k+1,f,args,st=>match T f with
  |none=>.bad
  |some fn=>if args.length=fn.np then
    if fn.pure then
     if nLs args then match exs (yd T k) (args.map AA++Ay (fn.ns-fn.np) AC) [] fn.body with
      |.rt v _=>if nL v then .ok v st else .bad
      |.nx _ _=>.ok .non st
      |.exc c _ _=>.exc c st
      |_=>.bad
     else .bad
    else match exs (yd T k) (args.map AA++Ay (fn.ns-fn.np) AC) st fn.body with
     |.rt v st1=>.ok v st1
     |.nx _ st1=>.ok .non st1
     |.exc c _ st1=>.exc c st1
     |_=>.bad
   else .bad
def yai:List (Sum Ce Int)->Ces
 |[]=>.nil
 |.inl c::r=>.cons c (yai r)
 |.inr i::r=>.cons (.cst (.int i)) (yai r)
def ycj:Ces->Ces->Ces
 |.nil,b=>b
 |.cons e r,b=>.cons e (ycj r b)
end IC
namespace L2
open PySem PySem.Spec PyProof.Rows IC
abbrev Ph:=List (Option AK)
section
variable (K:AE)(cl:Nat->AK)(B:AK->Prop)(φ:Ph)(H:Hp)
def yby(k:Bool)(a:AK)(xs:List V):Prop:=(H a=AA (.tup xs)/\¬B a/\AA a∉φ) \/
 k=AD/\∃(o:Bm) (its:Array AF) (n:Nat),K.lookup a=AA o/\o.cls=.type "tuple"/\o.data=.seq its n/\its.size<=sizeLine/\Vals xs its.toList
def yb5(a:AK)(xs:List V):Prop:=H a=AA (.lst xs)/\¬B a/\AA a∉φ
def yc9(a:AK)(xs:List V):Prop:=(Rd H a (.lst xs)/\¬B a/\AA a∉φ) \/
 ∃(o:Bm) (its:Array AF) (n:Nat),K.lookup a=AA o/\o.cls=.type "list"/\o.dict=AC/\o.data=.seq its n/\its.size<=sizeLine/\Vals xs its.toList
mutual
noncomputable def yc:PV->V->Prop
 |.non,x=>x=.non
 |.bl b,x=>x=.bl b
 |.int i,x=>x=.int i
 |.str s,x=>x=.str s
 |.tp k vs,x=>∃a xs,x=.ref a/\yby K B φ H k a xs/\ye vs xs
 |.lst vs,x=>∃a xs,x=.ref a/\yb5 B φ H a xs/\ye vs xs
 |.loc n,x=>n<φ.length/\∃a,x=.ref a/\∀b,φ[n]?=AA (AA b)->b=a
 |.exn c,x=>∃a,x=.ref a/\H a=AA (.ext (yeW a (cl c)))/\¬B a/\AA a∉φ
 |.scr vs,x=>∃a xs,x=.ref a/\yc9 K B φ H a xs/\ye vs xs
 |.fnc j,x=>x=.ref (cl (1000+j))
noncomputable def ye:List PV->List V->Prop
 |[],xs=>xs=[]
 |v::vs,xs=>∃y ys,xs=y::ys/\yc v y/\ye vs ys
end
def yaf:Key->PV
 |.inl i=>.int i
 |.inr y=>.str y
mutual
noncomputable def nkP:NK->PV
 |.a k=>yaf k
 |.t l=>.tup (yat l)
noncomputable def yat:List NK->List PV
 |[]=>[]
 |k::l=>nkP k::yat l
end
def DK:List (PV×PV)->List (Key×V)->Prop
 |[],ks=>ks=[]
 |(k,v)::r,ks=>∃q x s,ks=(q,x)::s/\k=yaf q/\yc K cl B φ H v x/\DK r s
def DT:List (PV×PV)->List (List NK×V)->Prop
 |[],ks=>ks=[]
 |(k,v)::r,ks=>∃q x s,ks=(q,x)::s/\k=.tup (yat q)/\yc K cl B φ H v x/\DT r s
def FS:List (AW×PV)->List (AW×V)->Prop
 |[],ks=>ks=[]
 |(k,v)::r,ks=>∃x s,ks=(k,x)::s/\yc K cl B φ H v x/\FS r s
def ybH:Ob->AK->Prop
 |.lst vs,a=>∃xs,H a=AA (.lst xs)/\ye K cl B φ H vs xs
 |.dct AG kvs,a=>∃ks,H a=AA (.dK ks)/\DK K cl B φ H kvs ks
 |.dct AD kvs,a=>∃ks,H a=AA (.dT ks)/\DT K cl B φ H kvs ks
 |.dead,_=>False
 |.ins c fs,a=>∃ks,(∃dx,H a=AA (.ins (cl c) dx ks))/\FS K cl B φ H fs ks
structure yp(st:SO):Prop where
 len:φ.length=st.length
 inj:∀(m n:Nat) (a:AK),φ[m]?=AA (AA a)->φ[n]?=AA (AA a)->m=n
 obj:∀(n:Nat) (a:AK),φ[n]?=AA (AA a)->∃o,st[n]?=AA o/\ybH K cl B φ H o a
 liv:∀(n:Nat) (o:Ob),st[n]?=AA o->o ≠ .dead->∃a,φ[n]?=AA (AA a)
 nb:∀a,AA a∈φ->¬B a
 dom:∀a,B a->∃o,H a=AA o
 nt:∀a,B a->∀xs,H a≠AA (.tup xs)
structure yu(ρ:IC.Env)(σ:St):Prop where
 len:ρ.length=σ.length
 get:∀(i:Nat) (v:PV),ρ[i]?=AA (AA v)->∃x,σ[i]?=AA (AA x)/\yc K cl B φ H v x
end
structure Step(φ:Ph)(H:Hp)(φ':Ph)(H':Hp):Prop where
 keep:∀b o,AA b∉φ->H b=AA o->H' b=AA o
 len:φ.length<=φ'.length
 pre:∀(n:Nat) (a:AK),n<φ.length->φ'[n]?=AA (AA a)->φ[n]?=AA (AA a)
 new:∀b,AA b∈φ'->AA b∈φ \/ H b=AC
theorem Step.rfl{φ:Ph}{H:Hp}:Step φ H φ H:=⟨λ_ _ _ e=>e,AR _,λ_ _ _ e=>e,λ_ h=>.inl h⟩
theorem Step.trans{φ φ1 φ2:Ph}{H H1 H2:Hp}(s:Step φ H φ1 H1)(t:Step φ1 H1 φ2 H2):Step φ H φ2 H2:=by
 refine⟨λb o n e=>?_,BV s.len t.len,λn a hn e=>s.pre n a hn (t.pre n a (A8 hn s.len) e),λb hb=>?_⟩
 .refine t.keep b o (λh=>?_) (s.keep b o n e);rcases s.new b h with q|q
  .exact n q
  .rw[e]at q;cases q
 .rcases t.new b hb with q|q
  .exact s.new b q
  .by_cases h:AA b∈φ
   .exact .inl h
   .refine .inr ?_
    cases e:H b with
    |none=>exact Gy _
    |some o=>rw[s.keep b o h e]at q;cases q
section
variable {K:AE}{cl:Nat->AK}{B:AK->Prop}{φ φ':Ph}{H H':Hp}{st:SO}{ρ:IC.Env}{σ:St}
theorem Rd.step(s:Step φ H φ' H'){a:AK}{u:HO}(n:AA a∉φ)(r:Rd H a u):Rd H' a u/\AA a∉φ':=by
 have h:∃o,H a=AA o:=by
  rcases r with r|⟨o,r⟩<;>exact⟨_,r⟩
 refine⟨?_,λz=>?_⟩
 .rcases r with r|⟨o,r⟩
  .exact .inl (s.keep _ _ n r)
  .exact .inr ⟨o,s.keep _ _ n r⟩
 .let⟨o,e⟩:=h;rcases s.new a z with q|q
  .exact n q
  .rw[e]at q;cases q
theorem yby.step(s:Step φ H φ' H'){k:Bool}{a:AK}{xs:List V}(r:yby K B φ H k a xs):yby K B φ' H' k a xs:=by
 rcases r with⟨r,b,n⟩|r
 .let⟨_,n'⟩:=(Rd.of r).step s n;exact .inl ⟨s.keep _ _ n r,b,n'⟩
 .exact .inr r
theorem yb5.step(s:Step φ H φ' H'){a:AK}{xs:List V}(r:yb5 B φ H a xs):yb5 B φ' H' a xs:=by
 let⟨r,b,n⟩:=r;let⟨_,n'⟩:=(Rd.of r).step s n;exact⟨s.keep _ _ n r,b,n'⟩
theorem yc9.step(s:Step φ H φ' H'){a:AK}{xs:List V}(r:yc9 K B φ H a xs):yc9 K B φ' H' a xs:=by
 rcases r with⟨r,b,n⟩|r
 .let⟨r',n'⟩:=r.step s n;exact .inl ⟨r',b,n'⟩
 .exact .inr r
mutual
theorem yc.step(s:Step φ H φ' H'):∀(v:PV) (x:V),yc K cl B φ H v x->yc K cl B φ' H' v x
 |.non,x,h=>by erw[yc]at h ⊢;exact h
 |.bl b,x,h=>by erw[yc]at h ⊢;exact h
 |.int i,x,h=>by erw[yc]at h ⊢;exact h
 |.str y,x,h=>by erw[yc]at h ⊢;exact h
 |.tp k vs,x,h=>by
  erw[yc]at h ⊢;let⟨a,xs,e,r,l⟩:=h;exact⟨a,xs,e,r.step s,ye.step s vs xs l⟩
 |.lst vs,x,h=>by
  erw[yc]at h ⊢;let⟨a,xs,e,r,l⟩:=h;exact⟨a,xs,e,r.step s,ye.step s vs xs l⟩
 |.loc n,x,h=>by
  erw[yc]at h ⊢;let⟨h1,a,e,h2⟩:=h;exact⟨A8 h1 s.len,a,e,λb q=>h2 b (s.pre n b h1 q)⟩
 |.fnc j,x,h=>by erw[yc]at h ⊢;exact h
 |.exn c,x,h=>by
  erw[yc]at h ⊢;let⟨a,e,r,b,n⟩:=h;let⟨_,n'⟩:=(Rd.of r).step s n;exact⟨a,e,s.keep _ _ n r,b,n'⟩
 |.scr vs,x,h=>by
  erw[yc]at h ⊢;let⟨a,xs,e,r,l⟩:=h;exact⟨a,xs,e,r.step s,ye.step s vs xs l⟩
theorem ye.step(s:Step φ H φ' H'):∀(v:List PV) (x:List V),ye K cl B φ H v x->ye K cl B φ' H' v x
 |[],x,h=>by erw[ye]at h ⊢;exact h
 |v::vs,x,h=>by
  erw[ye]at h ⊢;let⟨y,ys,e,r,l⟩:=h;exact⟨y,ys,e,yc.step s v y r,ye.step s vs ys l⟩
end
theorem yu.step(s:Step φ H φ' H')(r:yu K cl B φ H ρ σ):yu K cl B φ' H' ρ σ:=⟨r.len,λi v e=>by
 let⟨x,h,q⟩:=r.get i v e;exact⟨x,h,q.step s⟩⟩
mutual
theorem yc.inn(hn:∀a,AA a∈φ->¬B a):∀(v:PV) (x:V),nL v=AD->yc K cl B φ H v x->yc K cl (λa=>B a \/ AA a∈φ) [] H v x
 |.non,x,_,h=>by erw[yc]at h ⊢;exact h
 |.bl b,x,_,h=>by erw[yc]at h ⊢;exact h
 |.int i,x,_,h=>by erw[yc]at h ⊢;exact h
 |.str y,x,_,h=>by erw[yc]at h ⊢;exact h
 |.tp k vs,x,q,h=>by
  erw[yc]at h ⊢;let⟨a,xs,e,r,l⟩:=h;refine⟨a,xs,e,?_,ye.inn hn vs xs (by simpa only[nL] using q) l⟩;rcases r with⟨r,b,n⟩|r
  .exact .inl ⟨r,λz=>z.elim b n,by simp⟩
  .exact .inr r
 |.lst vs,x,q,h=>by
  erw[yc]at h ⊢;let⟨a,xs,e,⟨r,b,n⟩,l⟩:=h;exact⟨a,xs,e,⟨r,λz=>z.elim b n,by simp⟩,ye.inn hn vs xs (by simpa only[nL] using q) l⟩
 |.loc n,x,q,h=>by simp[nL]at q
 |.fnc j,x,q,h=>by erw[yc]at h ⊢;exact h
 |.exn c,x,q,h=>by simp[nL]at q
 |.scr vs,x,q,h=>by
  erw[yc]at h ⊢;let⟨a,xs,e,r,l⟩:=h;refine⟨a,xs,e,?_,ye.inn hn vs xs (by simpa only[nL] using q) l⟩;rcases r with⟨r,b,n⟩|r
  .exact .inl ⟨r,λz=>z.elim b n,by simp⟩
  .exact .inr r
theorem ye.inn(hn:∀a,AA a∈φ->¬B a):∀(v:List PV) (x:List V),nLs v=AD->ye K cl B φ H v x->ye K cl (λa=>B a \/ AA a∈φ) [] H v x
 |[],x,_,h=>by erw[ye]at h ⊢;exact h
 |v::vs,x,q,h=>by
  erw[ye]at h ⊢;erw[nLs,AH]at q;let⟨y,ys,e,r,l⟩:=h;exact⟨y,ys,e,yc.inn hn v y q.1 r,ye.inn hn vs ys q.2 l⟩
end
mutual
theorem yc.out{ψ:Ph}:∀(v:PV) (x:V),nL v=AD->yc K cl (λa=>B a \/ AA a∈φ) ψ H v x->yc K cl B φ H v x
 |.non,x,_,h=>by erw[yc]at h ⊢;exact h
 |.bl b,x,_,h=>by erw[yc]at h ⊢;exact h
 |.int i,x,_,h=>by erw[yc]at h ⊢;exact h
 |.str y,x,_,h=>by erw[yc]at h ⊢;exact h
 |.tp k vs,x,q,h=>by
  erw[yc]at h ⊢;let⟨a,xs,e,r,l⟩:=h;refine⟨a,xs,e,?_,ye.out vs xs (by simpa only[nL] using q) l⟩;rcases r with⟨r,b,n⟩|r
  .exact .inl ⟨r,λz=>b (.inl z),λz=>b (.inr z)⟩
  .exact .inr r
 |.lst vs,x,q,h=>by
  erw[yc]at h ⊢;let⟨a,xs,e,⟨r,b,n⟩,l⟩:=h;exact⟨a,xs,e,⟨r,λz=>b (.inl z),λz=>b (.inr z)⟩,ye.out vs xs (by simpa only[nL] using q) l⟩
 |.loc n,x,q,h=>by simp[nL]at q
 |.fnc j,x,q,h=>by erw[yc]at h ⊢;exact h
 |.exn c,x,q,h=>by simp[nL]at q
 |.scr vs,x,q,h=>by
  erw[yc]at h ⊢;let⟨a,xs,e,r,l⟩:=h;refine⟨a,xs,e,?_,ye.out vs xs (by simpa only[nL] using q) l⟩;rcases r with⟨r,b,n⟩|r
  .exact .inl ⟨r,λz=>b (.inl z),λz=>b (.inr z)⟩
  .exact .inr r
theorem ye.out{ψ:Ph}:∀(v:List PV) (x:List V),nLs v=AD->ye K cl (λa=>B a \/ AA a∈φ) ψ H v x->ye K cl B φ H v x
 |[],x,_,h=>by erw[ye]at h ⊢;exact h
 |v::vs,x,q,h=>by
  erw[ye]at h ⊢;erw[nLs,AH]at q;let⟨y,ys,e,r,l⟩:=h;exact⟨y,ys,e,yc.out v y q.1 r,ye.out vs ys q.2 l⟩
end
theorem ye.length:∀{v:List PV} {x:List V},ye K cl B φ H v x->v.length=x.length
 |[],x,h=>by erw[ye]at h;subst h;rfl
 |v::vs,x,h=>by
  erw[ye]at h;let⟨y,ys,rfl,_,l⟩:=h;simp[ye.length l]
theorem DK.step(s:Step φ H φ' H'):∀{kvs:List (PV×PV)} {ks:List (Key×V)},DK K cl B φ H kvs ks->DK K cl B φ' H' kvs ks
 |[],ks,h=>h
 |(k,v)::r,ks,h=>by
  let⟨q,x,t,e,m,rv,l⟩:=h;exact⟨q,x,t,e,m,rv.step s,DK.step s l⟩
theorem DT.step(s:Step φ H φ' H'):∀{kvs:List (PV×PV)} {ks:List (List NK×V)},DT K cl B φ H kvs ks->DT K cl B φ' H' kvs ks
 |[],ks,h=>h
 |(k,v)::r,ks,h=>by
  let⟨q,x,t,e,m,rv,l⟩:=h;exact⟨q,x,t,e,m,rv.step s,DT.step s l⟩
theorem FS.step(s:Step φ H φ' H'):∀{kvs:List (AW×PV)} {ks:List (AW×V)},FS K cl B φ H kvs ks->FS K cl B φ' H' kvs ks
 |[],ks,h=>h
 |(k,v)::r,ks,h=>by
  let⟨x,t,e,rv,l⟩:=h;exact⟨x,t,e,rv.step s,FS.step s l⟩
theorem ybH.step(s:Step φ H φ' H'){o:Ob}{a:AK}(e:H' a=H a)(r:ybH K cl B φ H o a):ybH K cl B φ' H' o a:=by
 cases o with
 |lst vs=>
  let⟨xs,q,l⟩:=r;exact⟨xs,e.trans q,l.step s⟩
 |dct t kvs=>
  cases t with
  |false=>let⟨ks,q,l⟩:=r;exact⟨ks,e.trans q,l.step s⟩
  |true=>let⟨ks,q,l⟩:=r;exact⟨ks,e.trans q,l.step s⟩
 |dead=>exact r
 |ins c fs=>let⟨ks,⟨dx,q⟩,l⟩:=r;exact⟨ks,⟨dx,e.trans q⟩,l.step s⟩
theorem ybH.there{o:Ob}{a:AK}(r:ybH K cl B φ H o a):∃u,H a=AA u:=by
 cases o with
 |lst vs=>let⟨xs,q,l⟩:=r;exact⟨_,q⟩
 |dct t kvs=>cases t<;>(let⟨ks,q,l⟩:=r;exact⟨_,q⟩)
 |dead=>exact r.elim
 |ins c fs=>let⟨ks,⟨dx,q⟩,l⟩:=r;exact⟨_,q⟩
theorem yp.there(S:yp K cl B φ H st){a:AK}(h:AA a∈φ):∃u,H a=AA u:=by
 let⟨n,e⟩:=List.mem_iff_getElem?.mp h;let⟨o,_,r⟩:=S.obj n a e;exact r.there
theorem Step.upd{p:AK}{o:HO}(hp:H p=AC):Step φ H φ (upd H p o):=
 ⟨λb u n e=>by rw[za (zc e hp)];exact e,AR _,λ_ _ _ e=>e,λ_ h=>.inl h⟩
theorem yp.same(S:yp K cl B φ H st)(k:∀b o,H b=AA o->H' b=AA o):yp K cl B φ H' st:=by
 have s:Step φ H φ H':=⟨λb o _ e=>k b o e,AR _,λ_ _ _ e=>e,λ_ h=>.inl h⟩;refine⟨S.len,S.inj,λn a e=>?_,S.liv,S.nb,λa h=>?_,λa h xs e=>?_⟩
 .let⟨o,q,r⟩:=S.obj n a e;let⟨u,z⟩:=r.there;exact⟨o,q,r.step s ((k a u z).trans z.symm)⟩
 .let⟨o,q⟩:=S.dom a h;exact⟨o,k a o q⟩
 .let⟨o,q⟩:=S.dom a h;have z:=k a o q;rw[e]at z
  cases z
  exact S.nt a h xs q
theorem yp.upd{p:AK}{o:HO}(S:yp K cl B φ H st)(hp:H p=AC):yp K cl B φ (upd H p o) st:=S.same λb u e=>by rw[za (zc e hp)];exact e
mutual
theorem yc.moreB{B':AK->Prop}(hn:∀y,B' y->B y \/ H y=AC):∀(v:PV) (x:V),yc K cl B φ H v x->yc K cl B' φ H v x
 |.non,x,h=>by erw[yc]at h ⊢;exact h
 |.bl b,x,h=>by erw[yc]at h ⊢;exact h
 |.int i,x,h=>by erw[yc]at h ⊢;exact h
 |.str y,x,h=>by erw[yc]at h ⊢;exact h
 |.tp k vs,x,h=>by
  erw[yc]at h ⊢;let⟨y,xs,e,r,l⟩:=h;refine⟨y,xs,e,?_,ye.moreB hn vs xs l⟩;rcases r with⟨r,b,n⟩|r
  .exact .inl ⟨r,λz=>(hn y z).elim b λq=>(by rw[q]at r;cases r),n⟩
  .exact .inr r
 |.lst vs,x,h=>by
  erw[yc]at h ⊢;let⟨y,xs,e,⟨r,b,n⟩,l⟩:=h;exact⟨y,xs,e,⟨r,λz=>(hn y z).elim b λq=>(by rw[q]at r;cases r),n⟩,ye.moreB hn vs xs l⟩
 |.loc n,x,h=>by erw[yc]at h ⊢;exact h
 |.fnc j,x,h=>by erw[yc]at h ⊢;exact h
 |.exn c,x,h=>by
  erw[yc]at h ⊢;let⟨y,e,r,b,n⟩:=h;exact⟨y,e,r,λz=>(hn y z).elim b λq=>(by rw[q]at r;cases r),n⟩
 |.scr vs,x,h=>by
  erw[yc]at h ⊢;let⟨y,xs,e,r,l⟩:=h;refine⟨y,xs,e,?_,ye.moreB hn vs xs l⟩;rcases r with⟨r,b,n⟩|r
  .refine .inl ⟨r,λz=>(hn y z).elim b λq=>?_,n⟩;rcases r with r|⟨o,r⟩<;>(rw[q]at r;cases r)
  .exact .inr r
theorem ye.moreB{B':AK->Prop}(hn:∀y,B' y->B y \/ H y=AC):∀(v:List PV) (x:List V),ye K cl B φ H v x->ye K cl B' φ H v x
 |[],x,h=>by erw[ye]at h ⊢;exact h
 |v::vs,x,h=>by
  erw[ye]at h ⊢;let⟨y,ys,e,r,l⟩:=h;exact⟨y,ys,e,yc.moreB hn v y r,ye.moreB hn vs ys l⟩
end
end
end L2
namespace L2
open PySem PySem.Spec PyProof.Rows
def CXH(X:Cx)(H:Hp)(s:AI)(E:XK)(e:AF)(s':AI):Prop:=
 ∃(C a:AK) (cls a0 fl:AF) (H':Hp) (B:Aw),X.s₀.heap.objs.size<=C/\e=.ref a/\s'.os=s.os/\D8 s'.gens /\
  (B.StaysIn s'.heap/\B.get? a=AC/\s'.heap.FunFrames B X.stack/\s'.heap.TracedAtW B a cls a0 fl)/\HOk X.prog X.w H' s'.heap/\Un (frs X.stack) [C] H H' s.heap s'.heap /\
  (∀b o,s.heap.get? b=AA o->H b=AC->b∉frs X.stack->b≠C->B.get? b=AA o)/\(∀b u,H' b=AA u->∃o,B.get? b=AA o)/\(∀b o,s.heap.get? b=AA o->b∉frs X.stack->b≠C->∃o',B.get? b=AA o')/\E cls AC H'
theorem CXH.mono{X:Cx}{H:Hp}{s:AI}{E E':XK}{e:AF}{s':AI}(h:CXH X H s E e s')(n:∀cls H',E cls AC H'->E' cls AC H'):CXH X H s E' e s':=by
 let⟨C,a,cls,a0,fl,H',B,r1,r2,r3,r4,r5,r6,r7,r8,r9,r10,r11⟩:=h;exact⟨C,a,cls,a0,fl,H',B,r1,r2,r3,r4,r5,r6,r7,r8,r9,r10,n _ _ r11⟩
section
variable {M:Hu}{A:A9}{E:AF->AI->Prop}{s:AI}
def zb6{base:Aw}{env:Env}{outer:List Env}{L e:AK}{cls a0 fl:AF}{Q:Unit->AI->Prop}
  (hfr:A.frames=AA (env::outer)) (hf:env.frame=AA L) (f1:base.StaysIn s.heap) (f2:base.get? e=AC) (f3:s.heap.FunFrames base (env::outer)) (f4:s.heap.TracedAtW base e cls a0 fl)
  (hQ:∀h',Hf base outer e cls a0 h'->s.heap.UpToSlots h'->Q () {s with heap:=h'}):AV M A («leaving» env (.ref e)) Q E s:=by
 by_cases hfl:fl=rawInt L
 .subst hfl;unfold «leaving»;refine AB (wpAny_noteFrame_againW hf f4 ?_);refine wpAny_landsW ⟨f1,f2,f3,f4⟩ λh' hfl up=>?_;let⟨k1,k2,⟨_,_,k3⟩,k4⟩:=hfl;exact hQ h' ⟨k1,k2,k3,k4⟩ up
 .let⟨oe,vs,T,oT,ts,he,⟨hcls,h0⟩,hd,h1,hnT,hTe,hT,hdT,h3⟩:=f4;subst hcls;unfold «leaving» noteFrame;erw[hf];refine AB (AB (BS he hd h1 ?_));rw[if_pos (show (Ab T != BB)=AD from by simp)];refine AB (BS hT hdT h3 ?_);rw[if_neg (show ¬((fl==rawInt L)=AD)from λz=>hfl (eq_of_beq z))];refine AB (Cn hT hdT (ED.mp h3).1 ?_);have other:∀b,b≠T->(s.heap.update T (Ft (·.setIfInBounds 3 BB))).get? b=s.heap.get? b:=λb hb=>DP _ _ (B0 hb);have noRecord:∀b o,s.heap.get? b=AA o->(∀vs,o.data ≠ .fields vs)->b≠T:=λb o hb hnf q=>by
   rw[q,hT]at hb;injection hb with hb;subst hb;exact hnf ts hdT
  refine wpAny_newEntryW hfr (f3.of_keeps λb o hb hnf=>⟨o,(other b (noRecord b o hb hnf)).trans hb,rfl⟩) hf ((other e (B0 hTe)).trans he)
   (λb o hbo=>(other b λq=>by rw[q,hnT]at hbo;cases hbo).trans (f1 b o hbo)) f2 hd (ED.mp h1).1 h0
   λh' ⟨x1,⟨_,_,x2⟩,x3,x4⟩=>hQ h' ⟨x1,f2,x2,x3⟩ λb o hb hnf=>x4 b o ((other b (noRecord b o hb hnf)).trans hb) hnf
end
section
variable {P:A4}{w:Aa}{K:AE}{mg:AW->Option AF}{base:Aw}{N:List AW}{qual:AW}{scope:BR}{f:AK}{cd:AF}{A:A9}{outer:List Env}{s₀:AI}{H₀:Hp}{E:XK}
def zlq{π:List (AK×Bm)}{σ:St}{H:Hp}{s:AI}{e:AF}{s':AI}(I:Inv (yaB (CX1 P w) P w K mg base N qual scope f cd A outer s₀ H₀ E) π σ H s)(h:CXH (yaB (CX1 P w) P w K mg base N qual scope f cd A outer s₀ H₀ E) H s E e s'):
  (yaB (CX1 P w) P w K mg base N qual scope f cd A outer s₀ H₀ E).xe e s':=by
 let⟨C,a,cls,a0,fl,H',B,hC,rfl,os,bare,⟨f1,f2,f3,f4⟩,hok,un,hB,tr,hT,hE⟩:=h;have bse:Un (frs outer) [] H₀ H s₀.heap s.heap:=I.base;have lt:∀b o,s₀.heap.get? b=AA o->b≠s₀.heap.objs.size:=λb o q=>Al (AX q);have neC:∀b o,s₀.heap.get? b=AA o->b≠C:=λb o q=>Al (A8 (AX q) hC);have niC:∀b o,s₀.heap.get? b=AA o->b∉[C]:=λb o q z=>neC b o q (by simpa using z);have hst:∀b,b∈frs (envOfC qual scope s₀.heap.objs.size f cd::outer)->b=s₀.heap.objs.size \/ b∈frs outer:=λb hb=>by
  have hb':b∈s₀.heap.objs.size::frs outer:=hb;exact Ac.mp hb'
 have un':Un (frs (envOfC qual scope s₀.heap.objs.size f cd::outer)) [C] H H' s.heap s'.heap:=un;have kB:∀b o,s₀.heap.get? b=AA o->H₀ b=AC->b∉frs outer->B.get? b=AA o:=λb o q n hb=>hB b o (bse.keep b o q n hb (by simp)) (bse.free b o q n (by simp)) (λz=>by
  rcases hst b z with z|z
  .exact lt b o q z
  .exact hb z) (neC b o q)
 have kT:∀b o,s₀.heap.get? b=AA o->b∉frs outer->∃o',B.get? b=AA o':=λb o q hb=>by
  let⟨o',q1⟩:=bse.there b o q (by simp);refine hT b o' q1 (λz=>?_) (neC b o q);rcases hst b z with z|z
  .exact lt b o q z
  .exact hb z
 refine zb6 I.ok.frames rfl f1 f2 f3 f4 λh'' fl' up=>?_;refine⟨a,cls,a0,H',B,rfl,os.trans I.os,bare,fl',HOk.inB hok f1 fl'.1 tr,⟨λb o q n hb _=>fl'.1 b o (kB b o q n hb),λb o q n hb _=>?_,λb o q n _=>?_,λb o q _=>?_,λb xs q=>un'.tups b xs (bse.tups b xs q),λb o u q=>un'.frzs b o u (bse.frzs b o u q),λb ps q=>?_⟩,kB,tr,kT,hE⟩
 .let⟨sl,q1⟩:=bse.slot b o q n hb (by simp);have n1:=bse.free b o q n (by simp);let⟨sl1,q2⟩:=un'.slot b _ q1 n1 (AN _ hb) (niC b o q);let⟨_,o',ho',hd⟩:=CQ f3 (show b∈DS (λ(z:Env)=>z.frame) _ from AN _ hb);let⟨sl',q3⟩:=up b _ q2 (by rw[ho']at q2;cases q2;exact hd);exact⟨sl',q3⟩
 .let⟨o',q1⟩:=bse.there b o q (by simp);exact un'.free b o' q1 (bse.free b o q n (by simp)) (niC b o q)
 .let⟨o',q1⟩:=bse.there b o q (by simp);let⟨o2,q2⟩:=un'.there b o' q1 (niC b o q)
  by_cases hb:b∈frs outer
  .let⟨_,o3,ho3,hd⟩:=CQ f3 (show b∈DS (λ(z:Env)=>z.frame) _ from AN _ hb);let⟨sl',q3⟩:=up b _ ho3 hd;exact⟨_,q3⟩
  .let⟨o4,q4⟩:=kT b o q hb;exact⟨o4,fl'.1 b o4 q4⟩
 .let⟨m1,e1⟩:=bse.tbls b ps q;let⟨m2,e2⟩:=un'.tbls b _ e1;exact⟨m1++m2,by rw[e2,Du]⟩
end
section
variable {pg:A4}{wd:Aa}{A:A9}{R:GF->AI->Prop}{s:AI}
end
section
variable {X:Cx}{sc:BR}{NC:List AW}{slots:List (Option Nat)}{elt tg iter:AY}{ifs:List AY}{pos:CG}{g:TG}{ti:TT}{te:CI->TE}{E:XK}
end
end L2
namespace L2
open PySem PySem.Spec PyProof.Rows IC
structure Se where
 cl:Nat->AK
 call:Nat->List PV->SO->R PV
 may:Bool
section
variable (S:Se)(X:Cx)
def ExcAt(σ:St)(B:AK->Prop)(φ:Ph)(H:Hp)(k:Nat)(st':SO)(e:AF)(s':AI):Prop:=
 (∃π H1 s φ1,Inv X π σ H1 s/\Step φ H φ1 H1/\CX1 X.prog X.w X.stack H1 s (λcls _ H'=>cls=.ref (S.cl k)/\∃φ',Step φ1 H1 φ' H'/\yp X.K S.cl B φ' H' st') e s') \/
 (S.may=AD/\∃π H1 s φ1 h' e0 vs,Inv X π σ H1 s/\Step φ H φ1 H1/\yp X.K S.cl B φ1 H1 st'/\HI s.heap h' e0 (.ref (S.cl k)) vs/\e=.ref e0/\s'={s with heap:=h'}) \/
 (S.may=AD/\∃π H1 s,Inv X π σ H1 s/\CXH X H1 s (λcls _ H'=>cls=.ref (S.cl k)/\∃φ',Step φ H φ' H'/\yp X.K S.cl B φ' H' st') e s')
def Run{α β:Type}(σ:St)(B:AK->Prop)(φ:Ph)(H:Hp)(Rel:Ph->Hp->α->β->Prop)(r:R α)(Q:β->Hp->Prop):Prop:=
 match r with
 |.ok v st'=>∀x H' φ',Step φ H φ' H'->yp X.K S.cl B φ' H' st'->Rel φ' H' v x->Q x H'
 |.exc k st'=>∀e s',ExcAt S X σ B φ H k st' e s'->X.xe e s'
 |.bad=>False
abbrev RV(B:AK->Prop):Ph->Hp->PV->V->Prop:=λφ H=>yc X.K S.cl B φ H
abbrev RL(B:AK->Prop):Ph->Hp->List PV->List V->Prop:=λφ H=>ye X.K S.cl B φ H
abbrev RB:Ph->Hp->Bool->Bool->Prop:=λ_ _ b c=>b=c
def tE(c:Ce):TE:=λσ H Q=>∃B φ st ρ,yp X.K S.cl B φ H st/\yu X.K S.cl B φ H ρ σ/\Run S X σ B φ H (RV S X B) (ev S.call ρ st c) Q
def tAs(c:Ces):TA:=λσ H Q=>∃B φ st ρ,yp X.K S.cl B φ H st/\yu X.K S.cl B φ H ρ σ/\Run S X σ B φ H (RL S X B) (evs S.call ρ st c) Q
def yaP(r:R PV):R Bool:=r.bind λx st=>onO (yaC st x) λb=>.ok b st
def tTs(c:Ce):TT:=λσ H Q=>∃B φ st ρ,yp X.K S.cl B φ H st/\yu X.K S.cl B φ H ρ σ/\Run S X σ B φ H RB (yaP (ev S.call ρ st c)) Q
end
section
variable {S:Se}{X:Cx}{σ:St}{B:AK->Prop}{φ φ1:Ph}{H H1:Hp}
theorem ExcAt.back{k:Nat}{st':SO}{e:AF}{s':AI}(s:Step φ H φ1 H1)(h:ExcAt S X σ B φ1 H1 k st' e s'):ExcAt S X σ B φ H k st' e s':=by
 rcases h with⟨π,H2,t,φ2,I,q,c⟩|⟨m,π,H2,t,φ2,h',e0,vs,I,q,c⟩|⟨m,π,H2,t,I,c⟩
 .exact .inl ⟨π,H2,t,φ2,I,s.trans q,c⟩
 .exact .inr (.inl ⟨m,π,H2,t,φ2,h',e0,vs,I,s.trans q,c⟩)
 .exact .inr (.inr ⟨m,π,H2,t,I,c.mono λcls H' ⟨e1,φ',s2,r⟩=>⟨e1,φ',s.trans s2,r⟩⟩)
variable {α β γ δ:Type}{Rel:Ph->Hp->α->β->Prop}{Hh:Ph->Hp->γ->δ->Prop}
theorem Run.on{r:R α}{Q:β->Hp->Prop}(s:Step φ H φ1 H1)(h:Run S X σ B φ H Rel r Q):Run S X σ B φ1 H1 Rel r Q:=by
 cases r with
 |ok v st'=>exact λx H' φ' t=>h x H' φ' (s.trans t)
 |exc k st'=>exact λe s' x=>h e s' (x.back s)
 |bad=>exact h
theorem Run.mono{r:R α}{Q Q':β->Hp->Prop}(h:Run S X σ B φ H Rel r Q)(k:∀x H',Q x H'->Q' x H'):Run S X σ B φ H Rel r Q':=by
 cases r with
 |ok v st'=>exact λx H' φ' t rs rv=>k x H' (h x H' φ' t rs rv)
 |exc c st'=>exact h
 |bad=>exact h
theorem Run.bind{r:R α}{k:α->SO->R γ}{Q:δ->Hp->Prop}(h:Run S X σ B φ H Hh (r.bind k) Q):
  Run S X σ B φ H Rel r λx H1=>∃v st1 φ1,Step φ H φ1 H1/\yp X.K S.cl B φ1 H1 st1/\Rel φ1 H1 v x/\Run S X σ B φ1 H1 Hh (k v st1) Q:=by
 cases r with
 |ok v st'=>exact λx H' φ' t rs rv=>⟨v,st',φ',t,rs,rv,Run.on t h⟩
 |exc c st'=>exact h
 |bad=>exact h
theorem Run.ok{v:α}{st:SO}{Q:β->Hp->Prop}(h:Run S X σ B φ H Rel (.ok v st) Q)(rs:yp X.K S.cl B φ H st){x:β}(rv:Rel φ H v x):Q x H:=h x H φ .rfl rs rv
theorem PE.imp{e:AY}{t t':TE}(h:PE X e t')(k:∀σ H Q,t σ H Q->t' σ H Q):PE X e t:=λπ s σ H Q I q=>h π s σ H Q I (k σ H Q q)
theorem PT.imp{e:AY}{t t':TT}(h:PT X e t')(k:∀σ H Q,t σ H Q->t' σ H Q):PT X e t:=λπ s σ H Q I q=>h π s σ H Q I (k σ H Q q)
theorem PW.imp{e:AY}{t t':TT}(h:PW X e t')(k:∀σ H Q,t σ H Q->t' σ H Q):PW X e t:=λwh π s σ H Q I q=>h wh π s σ H Q I (k σ H Q q)
theorem PA.imp{e:List AY}{t t':TA}(h:PA X e t')(k:∀σ H Q,t σ H Q->t' σ H Q):PA X e t:=λpos π s σ H Q I q=>h pos π s σ H Q I (k σ H Q q)
theorem tE.bind{c:Ce}{ρ:IC.Env}{st:SO}{k:PV->SO->R γ}{Q:δ->Hp->Prop}{P:V->Hp->Prop}(rs:yp X.K S.cl B φ H st)(re:yu X.K S.cl B φ H ρ σ)(h:Run S X σ B φ H Hh ((ev S.call ρ st c).bind k) Q)
  (n:∀x H1 v st1 φ1,Step φ H φ1 H1->yp X.K S.cl B φ1 H1 st1->yu X.K S.cl B φ1 H1 ρ σ->yc X.K S.cl B φ1 H1 v x->Run S X σ B φ1 H1 Hh (k v st1) Q->P x H1):tE S X c σ H P:=
 ⟨B,φ,st,ρ,rs,re,(Run.bind h).mono λx H1 ⟨v,st1,φ1,s,rs1,rv,h1⟩=>n x H1 v st1 φ1 s rs1 (re.step s) rv h1⟩
theorem tAs.bind{c:Ces}{ρ:IC.Env}{st:SO}{k:List PV->SO->R γ}{Q:δ->Hp->Prop}{P:List V->Hp->Prop}(rs:yp X.K S.cl B φ H st)(re:yu X.K S.cl B φ H ρ σ)(h:Run S X σ B φ H Hh ((evs S.call ρ st c).bind k) Q)
  (n:∀x H1 v st1 φ1,Step φ H φ1 H1->yp X.K S.cl B φ1 H1 st1->yu X.K S.cl B φ1 H1 ρ σ->ye X.K S.cl B φ1 H1 v x->Run S X σ B φ1 H1 Hh (k v st1) Q->P x H1):tAs S X c σ H P:=
 ⟨B,φ,st,ρ,rs,re,(Run.bind h).mono λx H1 ⟨v,st1,φ1,s,rs1,rv,h1⟩=>n x H1 v st1 φ1 s rs1 (re.step s) rv h1⟩
variable {i:Int}{b:Bool}{x:AW}{j:Nat}{pos:CG}{e a a':AY}{c ca cb cc:Ce}
def zga:PE X (.Constant (.int i) j pos) (tE S X (.cst (.int i))):=zk4.imp λσ H Q ⟨B,φ,st,ρ,rs,re,h⟩=>by
 erw[ev]at h;exact h.ok rs (by erw[yc])
def zka:PE X (.Constant (.bool b) j pos) (tE S X (.cst (.bl b))):=zlf.imp λσ H Q ⟨B,φ,st,ρ,rs,re,h⟩=>by
 erw[ev]at h;exact h.ok rs (by erw[yc])
def ziV:PE X (.Constant .none j pos) (tE S X (.cst .non)):=zlg.imp λσ H Q ⟨B,φ,st,ρ,rs,re,h⟩=>by
 erw[ev]at h;exact h.ok rs (by erw[yc])
def zi0:PE X (.Constant (.str x) j pos) (tE S X (.cst (.str x))):=zlh.imp λσ H Q ⟨B,φ,st,ρ,rs,re,h⟩=>by
 erw[ev]at h;exact h.ok rs (by erw[yc])
def zjI{i:Nat}(hN:X.N[i]?=AA x)(hv:Vis X.env.scope x)(hd:(x==("__debug__":AW))=false:=by decide)(hcd:(x==("__classdict__":AW))=false:=by decide):PE X (.Name x pos) (tE S X (.var i)):=
 (zcw hN hv hd hcd).imp λσ H Q ⟨B,φ,st,ρ,rs,re,h⟩=>by
  erw[ev]at h
  cases q:ρ[i]? with
  |none=>rw[q]at h;exact h.elim
  |some o=>
   cases o with
   |none=>rw[q]at h;exact h.elim
   |some v=>
    rw[q]at h;let⟨y,hy,rv⟩:=re.get i v q;exact⟨y,hy,h.ok rs rv⟩
def zdT{v:PV}{y:AK}(hg:Gl X x)(hm:X.mg x=AA (.ref y))(hk:∀B φ H,yc X.K S.cl B φ H v (.ref y))(hd:(x==("__debug__":AW))=false:=by decide):PE X (.Name x pos) (tE S X (.cst v)):=
 (zdQ hg hm (show RelV (.ref y) (.ref y)from rfl) hd).imp λσ H Q ⟨B,φ,st,ρ,rs,re,h⟩=>by
  erw[ev]at h;exact h.ok rs (hk B φ H)
def zz{o:Option PV}{st:SO}{Q:VK}(h:Run S X σ B φ H (RV S X B) (toR o st) Q)(rs:yp X.K S.cl B φ H st):∃z,o=AA z/\∀z' H' φ',Step φ H φ' H'->yp X.K S.cl B φ' H' st->yc X.K S.cl B φ' H' z z'->Q z' H':=by
 cases o with
 |none=>exact h.elim
 |some z=>exact⟨z,rfl,h⟩
def rT2(S:Se)(X:Cx)(f:PV->PV->Option PV):R2:=λx y H Q=>∃B φ st v w z,yp X.K S.cl B φ H st/\yc X.K S.cl B φ H v x/\yc X.K S.cl B φ H w y/\f v w=AA z /\
 ∀z' H' φ',Step φ H φ' H'->yp X.K S.cl B φ' H' st->yc X.K S.cl B φ' H' z z'->Q z' H'
def zi9{op:DG}{o:BOp}(ho:OpR X (binaryOp op) (rT2 S X (yr o)))(ha:PE X a (tE S X ca))(hb:PE X a' (tE S X cb)):PE X (.BinOp a op a' pos) (tE S X (.bin o ca cb)):=
 (zkG ho ha hb).imp λσ H Q ⟨B,φ,st,ρ,rs,re,h⟩=>by
  erw[ev]at h;refine tE.bind rs re h λx H1 v st1 φ1 s1 rs1 re1 rv h1=>tE.bind rs1 re1 h1 λy H2 w st2 φ2 s2 rs2 re2 rw h2=>?_;let⟨z,e,q⟩:=zz h2 rs2;exact⟨B,φ2,st2,v,w,z,rs2,rv.step s2,rw,e,q⟩
def ziu{op:Fj}{o:COp}(ho:OpR X (compareOp op) (rT2 S X (yw o)))(ha:PE X a (tE S X ca))(hb:PE X a' (tE S X cb))(hm:behindInMarks op a'=AG):PE X (.Compare a [op] [a'] pos) (tE S X (.cmp o ca cb)):=
 (zhD ho ha hb hm).imp λσ H Q ⟨B,φ,st,ρ,rs,re,h⟩=>by
  erw[ev]at h;refine tE.bind rs re h λx H1 v st1 φ1 s1 rs1 re1 rv h1=>tE.bind rs1 re1 h1 λy H2 w st2 φ2 s2 rs2 re2 rw h2=>?_;let⟨z,e,q⟩:=zz h2 rs2;exact⟨B,φ2,st2,v,w,z,rs2,rv.step s2,rw,e,q⟩
end
section
variable {S:Se}{X:Cx}{σ:St}{B:AK->Prop}{φ φ1:Ph}{H H1:Hp}{K:AE}{cl:Nat->AK}{st:SO}
theorem yby.sq{k:Bool}{a:AK}{xs:List V}(r:yby K B φ H k a xs):SqT K H a xs:=by
 rcases r with⟨r,_⟩|r
 .exact .inl (.inl r)
 .exact .inr r.2
theorem yb5.sq{a:AK}{xs:List V}(r:yb5 B φ H a xs):SqL K H a xs:=.inl (.inl r.1)
theorem yc.tup_new{vs:List PV}{xs:List V}{p:AK}(hp:H p=AC)(rs:yp K cl B φ H st)(r:ye K cl B φ H vs xs):yc K cl B φ (upd H p (.tup xs)) (.tup vs) (.ref p):=by
 erw[yc];refine⟨p,xs,rfl,.inl ⟨zb,λz=>?_,λz=>?_⟩,r.step (.upd hp)⟩
 .let⟨o,e⟩:=rs.dom p z;rw[hp]at e;cases e
 .let⟨o,e⟩:=rs.there z;rw[hp]at e;cases e
theorem yc.lst_new{vs:List PV}{xs:List V}{p:AK}(hp:H p=AC)(rs:yp K cl B φ H st)(r:ye K cl B φ H vs xs):yc K cl B φ (upd H p (.lst xs)) (.lst vs) (.ref p):=by
 erw[yc];refine⟨p,xs,rfl,⟨zb,λz=>?_,λz=>?_⟩,r.step (.upd hp)⟩
 .let⟨o,e⟩:=rs.dom p z;rw[hp]at e;cases e
 .let⟨o,e⟩:=rs.there z;rw[hp]at e;cases e
theorem ye.append:∀{vs ws:List PV} {xs ys:List V},ye K cl B φ H vs xs->ye K cl B φ H ws ys->ye K cl B φ H (vs++ws) (xs++ys)
 |[],ws,xs,ys,h,q=>by erw[ye]at h;subst h;exact q
 |v::vs,ws,xs,ys,h,q=>by
  erw[ye]at h;let⟨y,zs,rfl,r,l⟩:=h;show ye K cl B φ H (v::(vs++ws)) (y::(zs++ys));erw[ye];exact⟨y,zs++ys,rfl,r,ye.append l q⟩
theorem ye.get:∀{vs:List PV} {xs:List V} (j:Nat) {v:PV},ye K cl B φ H vs xs->vs[j]?=AA v->∃x,xs[j]?=AA x/\yc K cl B φ H v x
 |[],xs,j,v,h,e=>by simp at e
 |w::vs,xs,0,v,h,e=>by
  erw[ye]at h;let⟨y,zs,rfl,r,l⟩:=h;simp at e;subst e;exact⟨y,rfl,r⟩
 |w::vs,xs,j+1,v,h,e=>by
  erw[ye]at h;let⟨y,zs,rfl,r,l⟩:=h;let⟨x,q1,q2⟩:=ye.get j l (by simpa using e);exact⟨x,by simpa using q1,q2⟩
theorem ye.drop:∀{vs:List PV} {xs:List V} (n:Nat),ye K cl B φ H vs xs->ye K cl B φ H (vs.drop n) (xs.drop n)
 |vs,xs,0,h=>by simpa using h
 |[],xs,n+1,h=>by erw[ye]at h;subst h;simp[ye]
 |v::vs,xs,n+1,h=>by
  erw[ye]at h;let⟨y,ys,rfl,_,l⟩:=h;simpa using ye.drop n l
theorem ye.take:∀{vs:List PV} {xs:List V} (n:Nat),ye K cl B φ H vs xs->ye K cl B φ H (vs.take n) (xs.take n)
 |vs,xs,0,h=>by simp[ye]
 |[],xs,n+1,h=>by erw[ye]at h;subst h;simp[ye]
 |v::vs,xs,n+1,h=>by
  erw[ye]at h;let⟨y,ys,rfl,r,l⟩:=h;erw[Dn,ye];exact⟨y,ys.take n,rfl,r,ye.take n l⟩
def zaM{f:AF->AF->IL AF}{o:BOp}{C:Int->Int->Prop}{g:Int->Int->Int}(h:OpR X f (rI C λi j=>.int (g i j)))
  (hb:∀v w z,yr o v w=AA z->∃i j,v=.int i/\w=.int j/\C i j/\z=.int (g i j)):OpR X f (rT2 S X (yr o)):=by
 rintro π s σ H x y v u Q I rx ry ⟨B,φ,st,a,b,z,rs,ra,rb,e,q⟩
 let⟨i,j,rfl,rfl,hc,rfl⟩:=hb a b z e;erw[yc]at ra rb;subst ra rb;exact h π s σ H _ _ v u Q I rx ry ⟨i,j,rfl,rfl,hc,q _ H φ .rfl rs (by erw[yc])⟩
def zfQ{f:AF->AF->IL AF}{o:BOp}{g:Int->Int->Int}(h:OpR X f (rI0 λi j=>.int (g i j)))
  (hb:∀v w z,yr o v w=AA z->∃i j,v=.int i/\w=.int j/\z=.int (g i j)):OpR X f (rT2 S X (yr o)):=by
 rintro π s σ H x y v u Q I rx ry ⟨B,φ,st,a,b,z,rs,ra,rb,e,q⟩
 let⟨i,j,rfl,rfl,rfl⟩:=hb a b z e;erw[yc]at ra rb;subst ra rb;exact h π s σ H _ _ v u Q I rx ry ⟨i,j,rfl,rfl,q _ H φ .rfl rs (by erw[yc])⟩
def zgB(v w z:PV)(h:yr .sub v w=AA z):∃i j,v=.int i/\w=.int j/\z=.int (i-j):=by
 unfold yr at h;split at h<;>first|(cases h;done)|skip
 exact⟨_,_,rfl,rfl,(A3 h).symm⟩
def zhr(v w z:PV)(h:yr .mul v w=AA z):∃i j,v=.int i/\w=.int j/\ych i j/\z=.int (i*j):=by
 unfold yr at h;split at h<;>first|(cases h;done)|skip
 rename_i i j;erw[IC.binI]at h;split at h
 .rename_i c;refine⟨i,j,rfl,rfl,?_,(A3 h).symm⟩;erw[yap,CW,decide_eq_true_eq]at c;unfold ych;rcases c with c|c
  .left;constructor<;>lia
  .right;constructor<;>lia
 .cases h
def zfZ(v w z:PV)(h:yr .fdiv v w=AA z):∃i j,v=.int i/\w=.int j/\ycz i j/\z=.int (i/j):=by
 unfold yr at h;split at h<;>first|(cases h;done)|skip
 rename_i i j;erw[IC.binI]at h;split at h
 .rename_i c;exact⟨i,j,rfl,rfl,c,(A3 h).symm⟩
 .cases h
def zhX(v w z:PV)(h:yr .mod v w=AA z):∃i j,v=.int i/\w=.int j/\0<j/\z=.int (i%j):=by
 unfold yr at h;split at h<;>first|(cases h;done)|skip
 rename_i i j;erw[IC.binI]at h;split at h
 .rename_i c;exact⟨i,j,rfl,rfl,c,(A3 h).symm⟩
 .cases h
def zgX(v w z:PV)(h:yr .pow v w=AA z):∃i j,v=.int i/\w=.int j/\yeu i j/\z=.int (i^j.toNat):=by
 unfold yr at h;split at h<;>first|(cases h;done)|skip
 rename_i i j;erw[IC.binI]at h;split at h
 .rename_i c;exact⟨i,j,rfl,rfl,⟨c.1,c.2.1,by have:=c.2.2;lia⟩,(A3 h).symm⟩
 .cases h
def zhz(v w z:PV)(h:yr .shl v w=AA z):∃i j,v=.int i/\w=.int j/\yeE i j/\z=.int (i*2^j.toNat):=by
 unfold yr at h;split at h<;>first|(cases h;done)|skip
 rename_i i j;erw[IC.binI]at h;split at h
 .rename_i c;exact⟨i,j,rfl,rfl,⟨c.1,c.2.1,by have:=c.2.2;lia⟩,(A3 h).symm⟩
 .cases h
def zjm:OpR X (binaryOp .Sub) (rT2 S X (yr .sub)):=zfQ zjj zgB
def ziX:OpR X (binaryOp .Mult) (rT2 S X (yr .mul)):=zaM zid zhr
def zhE:OpR X (binaryOp .FloorDiv) (rT2 S X (yr .fdiv)):=zaM zfv zfZ
def zjR:OpR X (binaryOp .Mod) (rT2 S X (yr .mod)):=zaM zj8 zhX
def ziQ:OpR X (binaryOp .Pow) (rT2 S X (yr .pow)):=zaM zjM zgX
def zjS:OpR X (binaryOp .LShift) (rT2 S X (yr .shl)):=zaM zhM zhz
def zi:sizeMax=sizeLine:=by rw[Bs];rfl
def zg4:OpR X (binaryOp .Add) (λx y H Q=>∃a b ys,x=.ref a/\y=.ref b/\SqT X.K H a []/\SqT X.K H b ys/\Q (.ref b) H):=by
 intro π s σ H x y v u Q I rx ry h;let⟨a,b,ys,rfl,rfl,ha,hb,q⟩:=h
 cases rx
 cases ry
 let⟨its,r1,p1,_⟩:=I.tuple ha;let⟨its2,r2,p2,_⟩:=I.tuple hb;have:its=[]:=r1.nil_iff.mpr rfl;subst this;let⟨⟨cls,dd,data,sl⟩,ho,hc,n,hd⟩:=id p1;let⟨⟨cls2,dd2,data2,sl2⟩,ho2,hc2,n2,hd2⟩:=id p2;simp only at hc hd hc2 hd2;subst hc hd hc2 hd2;exact GU ⟨_,ho,rfl⟩ ⟨_,ho2,rfl⟩ Eh Fk DN DE (Cw _ _)
   (tuple_addW0 a b [].toArray its2.toArray n n2 dd dd2 sl sl2 (by simp)) ⟨ho,ho2,⟨.ref b,H,I,rfl,q⟩⟩
def zik:OpR X (binaryOp .Add) (rT2 S X (yr .add)):=by
 rintro π s σ H x y v u Q I rx ry ⟨B,φ,st,a,b,z,rs,ra,rb,e,q⟩
 unfold yr at e;split at e
 .rename_i i j;erw[yc]at ra rb;subst ra rb
  cases e
  exact zio π s σ H _ _ v u Q I rx ry ⟨i,j,rfl,rfl,q _ H φ .rfl rs (by erw[yc])⟩
 .rename_i i k;erw[yc]at ra rb;subst ra rb
  cases e
  exact zep π s σ H _ _ v u Q I rx ry ⟨i,k,rfl,rfl,q _ H φ .rfl rs (by erw[yc];cases k<;>rfl)⟩
 .rename_i i j;erw[yc]at ra rb;subst ra rb;dsimp only at e;split at e
  .rename_i c
   cases e
   exact zc4 π s σ H _ _ v u Q I rx ry ⟨i,j,rfl,rfl,by rw[<-zi];exact c,q _ H φ .rfl rs (by erw[yc])⟩
  .cases e
 .rename_i k1 vs k2 ws;erw[yc]at ra rb;let⟨p,xs,rfl,r1,l1⟩:=ra;let⟨p',ys,rfl,r2,l2⟩:=rb;dsimp only at e;split at e
  .rename_i c
   cases e
   have n1:=l1.length;have n2:=l2.length;unfold yeR at q
   cases vs with
   |nil=>
    have:xs=[]:=by cases xs with|nil=>rfl|cons _ _=>simp at n1
    subst this;refine zg4 π s σ H _ _ v u Q I rx ry ⟨p,p',ys,rfl,rfl,r1.sq,r2.sq,q _ H φ .rfl rs ?_⟩;erw[Ge,if_true,yc];exact⟨p',ys,rfl,r2,l2⟩
   |cons v1 vr=>
    erw[G1,Bn,if_false]at q;refine zht π s σ H _ _ v u Q I rx ry ⟨p,p',xs,ys,rfl,rfl,r1.sq,r2.sq,?_,by rw[<-zi];lia,λz=>?_,λz t ht=>?_⟩
    .rintro rfl
     simp at n1
    .subst z;have:ws=[]:=by cases ws with|nil=>rfl|cons _ _=>simp at n2
     subst this;erw[Ge,if_true]at q;refine q _ H φ .rfl rs ?_;erw[yc];exact⟨p,xs,rfl,r1,l1⟩
    .cases ws with
     |nil=>exact absurd (DF.mp n2.symm) z
     |cons w1 wr=>
      erw[G1,Bn,if_false]at q;exact q _ _ φ (.upd ht) (rs.upd ht) (.tup_new ht rs (l1.append l2))
  .cases e
 .rename_i vs ws;erw[yc]at ra rb;let⟨p,xs,rfl,r1,l1⟩:=ra;let⟨p',ys,rfl,r2,l2⟩:=rb;dsimp only at e;split at e
  .rename_i c
   cases e
   have n1:=l1.length;have n2:=l2.length;exact zjt π s σ H _ _ v u Q I rx ry ⟨p,p',xs,ys,rfl,rfl,r1.1,r2.1,by rw[<-zi];lia,λt ht=>q _ _ φ (.upd ht) (rs.upd ht) (.lst_new ht rs (l1.append l2))⟩
  .cases e
 .cases e
end
mutual
noncomputable def toD:PV->PyData
 |.non=>.none
 |.bl b=>.bool b
 |.int i=>.int i
 |.str x=>.str x
 |.tp _ xs=>.tuple (ybo xs)
 |.lst xs=>.list (ybo xs)
 |_=>.none
noncomputable def ybo:List PV->List PyData
 |[]=>[]
 |x::xs=>toD x::ybo xs
end
mutual
theorem zdr:∀(v:PV) (n:Nat),shd n v=AD->(toD v).canLay0=AD/\(toD v).depth<=n
 |.non,n,h=>by simp[toD,Br,Bf]
 |.bl b,n,h=>by simp[toD,Br,Bf]
 |.int i,n,h=>by simp[toD,Br,Bf]
 |.str x,n,h=>by
  erw[shd]at h;erw[toD,Br,Bf,Bj,and_true];exact h
 |.tp _ xs,n,h=>by
  erw[shd,AH,decide_eq_true_eq]at h;let⟨q1,q2⟩:=za8 xs (n-1) h.2;erw[toD,Br,Bf];exact⟨q1,by lia⟩
 |.lst xs,n,h=>by
  erw[shd,AH,decide_eq_true_eq]at h;let⟨q1,q2⟩:=za8 xs (n-1) h.2;erw[toD,Br,Bf];exact⟨q1,by lia⟩
 |.loc k,n,h=>by simp[shd]at h
 |.fnc k,n,h=>by simp[shd]at h
 |.exn k,n,h=>by simp[shd]at h
 |.scr xs,n,h=>by simp[shd]at h
theorem za8:∀(v:List PV) (n:Nat),ybz n v=AD->CY (ybo v)=AD/\B6 (ybo v)<=n
 |[],n,h=>by simp[ybo,CY,B6]
 |v::vs,n,h=>by
  erw[ybz,AH]at h;let⟨q1,q2⟩:=zdr v n h.1;let⟨q3,q4⟩:=za8 vs n h.2;erw[ybo,CY,B6,AH];exact⟨⟨q1,q3⟩,by lia⟩
end
def zJ{v:PV}(h:shp v=AD):Hi (toD v)=true:=by
 let⟨q1,q2⟩:=zdr v 60 h;unfold Hi;rw[q1,Be,decide_eq_true_eq];lia
mutual
theorem zbW:∀(v w:PV) (n m:Nat),shd n v=AD->shd m w=AD->CL (toD v) (toD w)=peq v w
 |.non,w,n,m,h,q=>by cases w<;>first|rfl|exact absurd q AU
 |.bl b,w,n,m,h,q=>by cases w<;>first|rfl|exact absurd q AU
 |.int i,w,n,m,h,q=>by cases w<;>first|rfl|exact absurd q AU
 |.str x,w,n,m,h,q=>by cases w<;>first|rfl|exact absurd q AU
 |.tp _ xs,.tp _ ys,n,m,h,q=>by
  have h:=Bt.1 h;have q:=Bt.1 q;exact zba xs ys (n-1) (m-1) h.2 q.2
 |.lst xs,.lst ys,n,m,h,q=>by
  have h:=Bt.1 h;have q:=Bt.1 q;exact zba xs ys (n-1) (m-1) h.2 q.2
 |.tp _ xs,.non,n,m,h,q=>rfl
 |.tp _ xs,.bl _,n,m,h,q=>rfl
 |.tp _ xs,.int _,n,m,h,q=>rfl
 |.tp _ xs,.str _,n,m,h,q=>rfl
 |.tp _ xs,.lst _,n,m,h,q=>rfl
 |.lst xs,.non,n,m,h,q=>rfl
 |.lst xs,.bl _,n,m,h,q=>rfl
 |.lst xs,.int _,n,m,h,q=>rfl
 |.lst xs,.str _,n,m,h,q=>rfl
 |.lst xs,.tp _ _,n,m,h,q=>rfl
 |.loc k,w,n,m,h,q=>absurd h AU
 |.fnc k,w,n,m,h,q=>absurd h AU
 |.exn k,w,n,m,h,q=>absurd h AU
 |.scr k,w,n,m,h,q=>absurd h AU
 |v,.loc k,n,m,h,q=>absurd q AU
 |v,.fnc k,n,m,h,q=>absurd q AU
 |v,.exn k,n,m,h,q=>absurd q AU
 |v,.scr k,n,m,h,q=>absurd q AU
theorem zba:∀(v w:List PV) (n m:Nat),ybz n v=AD->ybz m w=AD->Ci (ybo v) (ybo w)=ybA v w
 |[],[],n,m,h,q=>rfl
 |[],y::ys,n,m,h,q=>rfl
 |x::xs,[],n,m,h,q=>rfl
 |x::xs,y::ys,n,m,h,q=>by
  have h:=Bt.1 h;have q:=Bt.1 q;show (CL (toD x) (toD y)&&Ci (ybo xs) (ybo ys))=(peq x y&&ybA xs ys);rw[zbW x y n m h.1 q.1,zba xs ys n m h.2 q.2]
end
section
variable {S:Se}{X:Cx}{σ:St}{B:AK->Prop}{φ φ1:Ph}{H H1:Hp}{st:SO}{π:List (AK×Bm)}{s:AI}
mutual
theorem zY(I:Inv X π σ H s):∀(v:PV) (n:Nat) (x:V) (u:AF),shd n v=AD->yc X.K S.cl B φ H v x->RelV x u->∃as,Reads s.heap u (toD v) as
 |.non,n,x,u,h,r,q=>by
  erw[yc]at r;subst r;cases (show u=BB from q);exact⟨_,.none⟩
 |.bl b,n,x,u,h,r,q=>by
  erw[yc]at r;subst r;cases (show u=C8 b from q);exact⟨_,.bool b⟩
 |.int i,n,x,u,h,r,q=>by
  erw[yc]at r;subst r;let⟨t,rfl⟩:=q;exact⟨_,.int i t⟩
 |.str y,n,x,u,h,r,q=>by
  erw[yc]at r;subst r;let⟨t,rfl⟩:=q;exact⟨_,.str y t⟩
 |.tp _ vs,n,x,u,h,r,q=>by
  erw[yc]at r;let⟨a,xs,rfl,rt,l⟩:=r
  cases (show u=Ab a from q)
  erw[shd,AH]at h;let⟨its,rv,⟨o,g,c,k,d⟩,_⟩:=I.tuple rt.sq;let⟨as,z⟩:=zaG I vs (n-1) xs its h.2 l rv;exact⟨as,.tuple g c d (by simpa using z)⟩
 |.lst vs,n,x,u,h,r,q=>by
  erw[yc]at r;let⟨a,xs,rfl,rt,l⟩:=r
  cases (show u=Ab a from q)
  erw[shd,AH]at h;let⟨its,rv,⟨o,k,g,c,_,d⟩,_⟩:=I.list (rt.sq (K:=X.K));let⟨as,z⟩:=zaG I vs (n-1) xs its h.2 l rv;exact⟨_,.list g c d (by simpa using z)⟩
 |.loc k,n,x,u,h,r,q=>by simp[shd]at h
 |.fnc k,n,x,u,h,r,q=>by simp[shd]at h
 |.exn k,n,x,u,h,r,q=>by simp[shd]at h
 |.scr k,n,x,u,h,r,q=>by simp[shd]at h
theorem zaG(I:Inv X π σ H s):∀(v:List PV) (n:Nat) (x:List V) (u:List AF),ybz n v=AD->ye X.K S.cl B φ H v x->Vals x u->∃as,ReadsAll s.heap u (ybo v) as
 |[],n,x,u,h,r,q=>by
  erw[ye]at r;subst r;cases q;exact⟨_,.nil⟩
 |v::vs,n,x,u,h,r,q=>by
  erw[ye]at r;let⟨y,ys,rfl,rv,l⟩:=r;erw[ybz,AH]at h
  cases q with
  |cons q1 q2=>
   let⟨as,z1⟩:=zY I v n y _ h.1 rv q1;let⟨bs,z2⟩:=zaG I vs n ys _ h.2 l q2;exact⟨_,.cons z1 z2⟩
end
def zkP(hu:X.A.units+64<cLine):OpR X (compareOp .Eq) (rT2 S X (yw .eq)):=by
 rintro π s σ H x y v u Q I rx ry ⟨B,φ,st,a,b,z,rs,ra,rb,e,q⟩
 erw[yw]at e;split at e
 .rename_i c;rw[AH]at c
  cases e
  let⟨as,z1⟩:=zY (S:=S) I a 60 x v c.1 ra rx;let⟨bs,z2⟩:=zY (S:=S) I b 60 y u c.2 rb ry;refine eq_dataH z1 z2 (zJ c.1) (zJ c.2) hu ⟨.bl _,H,I,rfl,?_⟩;rw[zbW a b 60 60 c.1 c.2];exact q _ H φ .rfl rs (by erw[yc])
 .cases e
def zkC(hu:X.A.units+64<cLine):OpR X (compareOp .NotEq) (rT2 S X (yw .ne)):=by
 rintro π s σ H x y v u Q I rx ry ⟨B,φ,st,a,b,z,rs,ra,rb,e,q⟩
 erw[yw]at e;split at e
 .rename_i c;rw[AH]at c
  cases e
  let⟨as,z1⟩:=zY (S:=S) I a 60 x v c.1 ra rx;let⟨bs,z2⟩:=zY (S:=S) I b 60 y u c.2 rb ry;refine ne_dataH z1 z2 (zJ c.1) (zJ c.2) hu ⟨.bl _,H,I,rfl,?_⟩;rw[zbW a b 60 60 c.1 c.2];exact q _ H φ .rfl rs (by erw[yc])
 .cases e
def zey{f:AF->AF->IL AF}{o:COp}{g:Int->Int->Bool}(h:OpR X f (rI0 λi j=>.bl (g i j)))
  (hb:∀v w z,yw o v w=AA z->∃i j,v=.int i/\w=.int j/\z=.bl (g i j)):OpR X f (rT2 S X (yw o)):=by
 rintro π s σ H x y v u Q I rx ry ⟨B,φ,st,a,b,z,rs,ra,rb,e,q⟩
 let⟨i,j,rfl,rfl,rfl⟩:=hb a b z e;erw[yc]at ra rb;subst ra rb;exact h π s σ H _ _ v u Q I rx ry ⟨i,j,rfl,rfl,q _ H φ .rfl rs (by erw[yc])⟩
def zeJ:OpR X (compareOp .LtE) (λx y H Q=>∃i j,x=.str i/\y=.str j/\Q (.bl (!decide (j.cps.toList<i.cps.toList))) H):=by
 intro π s σ H x y v u Q I rx ry h;let⟨i,j,rfl,rfl,q⟩:=h;let⟨t,rfl⟩:=rx;let⟨t',rfl⟩:=ry;exact PySem.P.le_str (zaZ I q rfl)
def zkq:OpR X (compareOp .Lt) (rT2 S X (yw .lt)):=by
 rintro π s σ H x y v u Q I rx ry ⟨B,φ,st,a,b,z,rs,ra,rb,e,q⟩
 erw[yw]at e;split at e
 .rename_i i j;erw[yc]at ra rb;subst ra rb
  cases e
  exact zkD π s σ H _ _ v u Q I rx ry ⟨i,j,rfl,rfl,q _ H φ .rfl rs (by erw[yc])⟩
 .rename_i i j;erw[yc]at ra rb;subst ra rb
  cases e
  exact zdn π s σ H _ _ v u Q I rx ry ⟨i,j,rfl,rfl,q _ H φ .rfl rs (by erw[yc])⟩
 .cases e
def zkO:OpR X (compareOp .LtE) (rT2 S X (yw .le)):=by
 rintro π s σ H x y v u Q I rx ry ⟨B,φ,st,a,b,z,rs,ra,rb,e,q⟩
 erw[yw]at e;split at e
 .rename_i i j;erw[yc]at ra rb;subst ra rb
  cases e
  exact zkx π s σ H _ _ v u Q I rx ry ⟨i,j,rfl,rfl,q _ H φ .rfl rs (by erw[yc])⟩
 .rename_i i j;erw[yc]at ra rb;subst ra rb
  cases e
  exact zeJ π s σ H _ _ v u Q I rx ry ⟨i,j,rfl,rfl,q _ H φ .rfl rs (by erw[yc])⟩
 .cases e
def zck{o:COp}{g:Int->Int->Bool}(ho:∀v w,yw o v w=match v,w with
   |.int i,.int j=>ybq o i j
   |.str a,.str b=>ydk o a b
   |_,_=>AC) (hs:∀a b,ydk o a b=AC) (hg:∀i j,ybq o i j=AA (.bl (g i j))) (v w z:PV) (h:yw o v w=AA z):∃i j,v=.int i/\w=.int j/\z=.bl (g i j):=by
 rw[ho]at h;split at h
 .rename_i i j;rw[hg]at h;exact⟨i,j,rfl,rfl,(A3 h).symm⟩
 .rw[hs]at h;cases h
 .cases h
def zkJ:OpR X (compareOp .Gt) (rT2 S X (yw .gt)):=zey zkg (zck (λ_ _=>rfl) (λ_ _=>rfl) λ_ _=>rfl)
def zkv:OpR X (compareOp .GtE) (rT2 S X (yw .ge)):=zey zkk (zck (λ_ _=>rfl) (λ_ _=>rfl) λ_ _=>rfl)
theorem yc.isNon{K:AE}{cl:Nat->AK}{v:PV}{x:V}(r:yc K cl B φ H v x):decide (x=.non)=IC.isNon v:=by
 cases v with
 |loc n=>erw[yc]at r;let⟨_,a,rfl,_⟩:=r;rfl
 |non=>erw[yc]at r;subst r;rfl
 |bl b=>erw[yc]at r;subst r;rfl
 |int b=>erw[yc]at r;subst r;rfl
 |str b=>erw[yc]at r;subst r;rfl
 |tp k vs=>erw[yc]at r;let⟨a,xs,rfl,_⟩:=r;rfl
 |lst vs=>erw[yc]at r;let⟨a,xs,rfl,_⟩:=r;rfl
 |fnc j=>erw[yc]at r;subst r;rfl
 |exn vs=>erw[yc]at r;let⟨a,rfl,_⟩:=r;rfl
 |scr vs=>erw[yc]at r;let⟨a,xs,rfl,_⟩:=r;rfl
def zfM{M:Hu}{A:A9}{E:AF->AI->Prop}{s:AI}{a b:Bool}{Q:AF->AI->Prop}(h:Q (.bool (a==b)) s):AV M A (compareOp .Is (.bool a) (.bool b)) Q E s:=by
 have e:(C8 a==C8 b)=(a==b):=by cases a<;>cases b<;>rfl
 rw[<-e]at h;exact AJ h
def zkj:OpR X (compareOp .Is) (rT2 S X (yw .is)):=by
 rintro π s σ H x y v u Q I rx ry ⟨B,φ,st,a,b,z,rs,ra,rb,e,q⟩
 erw[yw]at e;split at e
 .cases e
  erw[yc]at rb;exact zjx π s σ H _ _ v u Q I rx ry ⟨rb,q _ H φ .rfl rs (by erw[yc];rw[ra.isNon])⟩
 .rename_i k;split at e
  .rename_i j
   cases e
   erw[yc]at ra rb;subst ra rb
   cases (show v=C8 j from rx)
   cases (show u=C8 k from ry)
   exact zfM (zaZ I (q _ H φ .rfl rs (by erw[yc])) rfl)
  .cases e
 .cases e
theorem yc.flat{K:AE}{cl:Nat->AK}{v:PV}{x:V}(r:yc K cl B φ H v x)(h:IC.flat v=AD):yaN x=AD/\∀(w:PV) (y:V),IC.flat w=AD->yc K cl B φ H w y->eqV x y=peq v w:=by
 cases v with
 |non=>
  erw[yc]at r;subst r;refine⟨rfl,λw y hw rw=>?_⟩
  cases w<;>first|(simp[IC.flat]at hw;done)|(erw[yc]at rw;subst rw;rfl)
 |bl b=>
  erw[yc]at r;subst r;refine⟨rfl,λw y hw rw=>?_⟩
  cases w<;>first|(simp[IC.flat]at hw;done)|(erw[yc]at rw;subst rw;rfl)
 |int b=>
  erw[yc]at r;subst r;refine⟨rfl,λw y hw rw=>?_⟩
  cases w<;>first|(simp[IC.flat]at hw;done)|(erw[yc]at rw;subst rw;rfl)
 |str b=>
  erw[yc]at r;subst r;refine⟨rfl,λw y hw rw=>?_⟩
  cases w<;>first|(simp[IC.flat]at hw;done)|(erw[yc]at rw;subst rw;rfl)
 |_=>simp[IC.flat]at h
def zaL{K:AE}{cl:Nat->AK}{v:PV}{x:V}(r:yc K cl B φ H v x)(h:IC.flat v=AD):∀{vs:List PV} {xs:List V},ye K cl B φ H vs xs->vs.all IC.flat=AD->xs.all yaN=AD/\inV x xs=inL v vs
 |[],xs,l,_=>by erw[ye]at l;subst l;exact⟨rfl,rfl⟩
 |w::vs,xs,l,f=>by
  erw[ye]at l;let⟨y,ys,rfl,rw,l⟩:=l;rw[Au,AH]at f;let⟨q1,q2⟩:=zaL r h l f.2;let⟨q3,q4⟩:=rw.flat f.1;refine⟨by rw[Au,q3,q1];rfl,?_⟩;unfold inV at q2 ⊢;rw[CF,q2,q4 v x h r];rfl
end
def zdo(a b:AW):(!(DD b a 0 b.length 1).isEmpty)=inS a b:=by
 rw[FI,StrLaws.found_iff];unfold inS;rw[Cp];constructor
 .rintro⟨i,h1,h2⟩
  exact⟨i,by rw[FT];lia,by rw[AH,decide_eq_true_eq];exact⟨h1,h2⟩⟩
 .rintro⟨i,_,h⟩
  rw[AH,decide_eq_true_eq]at h;exact⟨i,h.1,h.2⟩
section
variable {S:Se}{X:Cx}{σ:St}{B:AK->Prop}{φ φ1:Ph}{H H1:Hp}{st:SO}
def zkl:OpR X (compareOp .In) (rT2 S X (yw .isin)):=by
 rintro π s σ H x y v u Q I rx ry ⟨B,φ,st,a,b,z,rs,ra,rb,e,q⟩
 erw[yw]at e;split at e
 .rename_i i j;erw[yc]at ra rb;subst ra rb
  cases e
  exact zeo π s σ H _ _ v u Q I rx ry ⟨i,j,rfl,rfl,by rw[zdo];exact q _ H φ .rfl rs (by erw[yc])⟩
 .rename_i l;split at e
  .rename_i c;rw[AH]at c
   cases e
   erw[yc]at rb;let⟨p,xs,rfl,r,l'⟩:=rb;let⟨q1,q2⟩:=zaL ra c.1 l' c.2;exact zbw π s σ H _ _ v u Q I rx ry ⟨p,xs,rfl,.inr r.sq,(ra.flat c.1).1,q1,q _ H φ .rfl rs (by erw[yc];rw[<-q2];rfl)⟩
  .cases e
 .rename_i l;split at e
  .rename_i c;rw[AH]at c
   cases e
   erw[yc]at rb;let⟨p,xs,rfl,r,l'⟩:=rb;let⟨q1,q2⟩:=zaL ra c.1 l' c.2;exact zbw π s σ H _ _ v u Q I rx ry ⟨p,xs,rfl,.inl r.sq,(ra.flat c.1).1,q1,q _ H φ .rfl rs (by erw[yc];rw[<-q2];rfl)⟩
  .cases e
 .cases e
def zfq:OpR X (compareOp .NotIn) (rT2 S X (yw .notin)):=by
 rintro π s σ H x y v u Q I rx ry ⟨B,φ,st,a,b,z,rs,ra,rb,e,q⟩
 erw[yw]at e;split at e
 .rename_i i j;erw[yc]at ra rb;subst ra rb
  cases e
  exact zbG π s σ H _ _ v u Q I rx ry ⟨i,j,rfl,rfl,by rw[zdo];exact q _ H φ .rfl rs (by erw[yc])⟩
 .rename_i l;split at e
  .rename_i c;rw[AH]at c
   cases e
   erw[yc]at rb;let⟨p,xs,rfl,r,l'⟩:=rb;let⟨q1,q2⟩:=zaL ra c.1 l' c.2;exact zaf π s σ H _ _ v u Q I rx ry ⟨p,xs,rfl,.inr r.sq,(ra.flat c.1).1,q1,q _ H φ .rfl rs (by erw[yc];rw[<-q2];rfl)⟩
  .cases e
 .rename_i l;split at e
  .rename_i c;rw[AH]at c
   cases e
   erw[yc]at rb;let⟨p,xs,rfl,r,l'⟩:=rb;let⟨q1,q2⟩:=zaL ra c.1 l' c.2;exact zaf π s σ H _ _ v u Q I rx ry ⟨p,xs,rfl,.inl r.sq,(ra.flat c.1).1,q1,q _ H φ .rfl rs (by erw[yc];rw[<-q2];rfl)⟩
  .cases e
 .cases e
theorem ye.empty{K:AE}{cl:Nat->AK}{vs:List PV}{xs:List V}(l:ye K cl B φ H vs xs):vs.isEmpty=xs.isEmpty:=by
 have:=l.length
 cases vs<;>cases xs<;>simp_all
def zhJ{K:AE}{cl:Nat->AK}{v:PV}{x:V}{k:Bool}(rs:yp K cl B φ H st)(r:yc K cl B φ H v x)(h:yaC st v=AA k):ydU K x H k:=by
 cases v with
 |non=>erw[yc]at r;subst r;cases h;rfl
 |bl b=>erw[yc]at r;subst r;cases h;rfl
 |int b=>erw[yc]at r;subst r;cases h;rfl
 |str b=>
  erw[yc]at r;subst r;erw[yaC]at h;split at h
  .rename_i c
   cases h
   exact⟨by rw[<-zi];exact c,rfl⟩
  .cases h
 |tp k vs=>
  erw[yc]at r;let⟨a,xs,rfl,rt,l⟩:=r
  cases h
  exact .inr (.inl ⟨xs,rt.sq,by rw[l.empty]⟩)
 |lst vs=>
  erw[yc]at r;let⟨a,xs,rfl,rt,l⟩:=r
  cases h
  exact .inl ⟨xs,rt.sq,by rw[l.empty]⟩
 |loc n=>
  erw[yc]at r;let⟨hn,a,rfl,ha⟩:=r;erw[yaC]at h;split at h
  .rename_i vs hv
   cases h
   let⟨b,hb⟩:=rs.liv n _ hv (by intro z;cases z);obtain rfl:=ha b hb;let⟨o,ho,ro⟩:=rs.obj n b hb;rw[hv]at ho;cases ho;let⟨xs,hx,l⟩:=ro;exact .inl ⟨xs,.of hx,by rw[l.empty]⟩
  .cases h
 |fnc c=>cases h
 |exn c=>cases h
 |scr c=>cases h
end
theorem R.bind_assoc{α β γ:Type}{r:R α}{k:α->SO->R β}{l:β->SO->R γ}:(r.bind k).bind l=r.bind λa s=>(k a s).bind l:=by
 cases r<;>rfl
section
variable {S:Se}{X:Cx}{σ:St}{B:AK->Prop}{φ φ1:Ph}{H H1:Hp}{st:SO}{ρ:IC.Env}{pos:CG}{a b c d:AY}{ca cb cc:Ce}{es:List AY}{ces:Ces}
def za9{o:COp}{v w z:PV}(h:yw o v w=AA z):∃k,z=.bl k:=by
 cases o<;>erw[yw]at h
 all_goals (repeat' split at h)<;>first|(cases h;done)|(cases h;exact⟨_,rfl⟩)|skip
 all_goals (erw[ybq]at h;cases h;exact⟨_,rfl⟩)
def ziE{op:Fj}{o:COp}(ho:OpR X (compareOp op) (rT2 S X (yw o)))(ha:PE X a (tE S X ca))(hb:PE X b (tE S X cb))(hm:behindInMarks op b=AG):PT X (.Compare a [op] [b] pos) (tTs S X (.cmp o ca cb)):=
 (zgF ho ha hb hm).imp λσ H Q ⟨B,φ,st,ρ,rs,re,h⟩=>by
  erw[ev,yaP,R.bind_assoc]at h;refine tE.bind rs re h λx H1 v st1 φ1 s1 rs1 re1 rv h1=>tE.bind rs1 re1 h1 λy H2 w st2 φ2 s2 rs2 re2 rw h2=>?_
  cases e:yw o v w with
  |none=>rw[e]at h2;exact h2.elim
  |some z=>
   let⟨k,rfl⟩:=za9 e;rw[e]at h2;refine⟨B,φ2,st2,v,w,.bl k,rs2,rv.step s2,rw,e,λz' H' φ' s' rs' rz=>?_⟩;erw[yc]at rz;exact⟨k,rz,h2 k H' φ' s' rs' rfl⟩
def zjp(ha:PE X a (tE S X ca))(he:∀whole,isTrue a X.env whole=(do let v <-whole;standAt a.pos;holding [v] (truthy v)):=by intro _;rfl):PT X a (tTs S X ca):=
 (zfN ha he).imp λσ H Q ⟨B,φ,st,ρ,rs,re,h⟩=>by
  erw[yaP]at h;refine tE.bind rs re h λx H1 v st1 φ1 s1 rs1 re1 rv h1=>?_
  cases e:yaC st1 v with
  |none=>rw[e]at h1;exact h1.elim
  |some k=>
   rw[e]at h1;exact⟨k,zhJ rs1 rv e,h1.ok rs1 rfl⟩
theorem tTs.bind{γ δ:Type}{Hh:Ph->Hp->γ->δ->Prop}{k:Bool->SO->R γ}{Q:δ->Hp->Prop}{P:Bool->Hp->Prop}(rs:yp X.K S.cl B φ H st)(re:yu X.K S.cl B φ H ρ σ)(h:Run S X σ B φ H Hh ((yaP (ev S.call ρ st ca)).bind k) Q)
  (n:∀b H1 st1 φ1,Step φ H φ1 H1->yp X.K S.cl B φ1 H1 st1->yu X.K S.cl B φ1 H1 ρ σ->Run S X σ B φ1 H1 Hh (k b st1) Q->P b H1):tTs S X ca σ H P:=
 ⟨B,φ,st,ρ,rs,re,(Run.bind h).mono λx H1 ⟨v,st1,φ1,s,rs1,rv,h1⟩=>by
  subst rv;exact n v H1 st1 φ1 s rs1 (re.step s) h1⟩
def zb7(r:R PV)(f:Bool->SO->R PV):yaP (r.bind λx st1=>onBl x λb=>f b st1)=r.bind λx st1=>onBl x λb=>yaP (f b st1):=by
 unfold yaP;rw[R.bind_assoc]
 congr 1
 funext x st1
 cases x<;>rfl
theorem Run.bl_tru{r:R PV}{k:Bool->SO->R Bool}{Q:Bool->Hp->Prop}(h:Run S X σ B φ H RB (r.bind λx st1=>onBl x λb=>k b st1) Q):Run S X σ B φ H RB ((yaP r).bind k) Q:=by
 cases r with
 |bad=>exact h
 |exc c s=>exact h
 |ok v s=>
  cases v with
  |bl b=>exact h
  |_=>exact h.elim
def zit(ha:PT X a (tTs S X ca)):PT X (.UnaryOp .Not a pos) (tTs S X (.not ca)):=
 (ziN ha).imp λσ H Q ⟨B,φ,st,ρ,rs,re,h⟩=>by
  erw[ev]at h;rw[zb7 _ λk st1=>.ok (.bl (!k)) st1]at h;exact tTs.bind rs re (Run.bl_tru (k:=λb st1=>.ok (!b) st1) h) λb H1 st1 φ1 s1 rs1 re1 h1=>h1.ok rs1 rfl
variable {rest:List AY}
def zhR(ha:PT X a (tTs S X ca)):PW X (.BoolOp .And [a] pos) (tTs S X ca):=zgw ha
def zj1(ha:PT X a (tTs S X ca)):PW X (.BoolOp .Or [a] pos) (tTs S X ca):=ziz ha
def zh9(ha:PT X a (tTs S X ca))(hb:PW X (.BoolOp .And (b::rest) pos) (tTs S X cb)):PW X (.BoolOp .And (a::b::rest) pos) (tTs S X (.and ca cb)):=
 (ziT ha hb).imp λσ H Q ⟨B,φ,st,ρ,rs,re,h⟩=>by
  erw[ev]at h;rw[zb7 _ λk st1=>cond k (ev S.call ρ st1 cb) (.ok (.bl AG) st1)]at h;refine tTs.bind rs re (Run.bl_tru h) λk H1 st1 φ1 s1 rs1 re1 h1=>?_
  cases k with
  |false=>exact h1.ok rs1 rfl
  |true=>exact⟨B,φ1,st1,ρ,rs1,re1,h1⟩
def zkp(ha:PT X a (tTs S X ca))(hb:PW X (.BoolOp .Or (b::rest) pos) (tTs S X cb)):PW X (.BoolOp .Or (a::b::rest) pos) (tTs S X (.or ca cb)):=
 (zkN ha hb).imp λσ H Q ⟨B,φ,st,ρ,rs,re,h⟩=>by
  erw[ev]at h;rw[zb7 _ λk st1=>cond k (.ok (.bl AD) st1) (ev S.call ρ st1 cb)]at h;refine tTs.bind rs re (Run.bl_tru h) λk H1 st1 φ1 s1 rs1 re1 h1=>?_
  cases k with
  |true=>exact h1.ok rs1 rfl
  |false=>exact⟨B,φ1,st1,ρ,rs1,re1,h1⟩
def zgi{op:Hj}(h:PE X a (tE S X ca)):PE X (.BoolOp op [a] pos) (tE S X ca):=zjo h
def zgm(ha:PE X a (tE S X ca))(hb:PE X (.BoolOp .And (b::rest) pos) (tE S X cb)):PE X (.BoolOp .And (a::b::rest) pos) (tE S X (.and ca cb)):=
 (zjD ha hb).imp λσ H Q ⟨B,φ,st,ρ,rs,re,h⟩=>by
  erw[ev]at h;refine tE.bind rs re h λx H1 v st1 φ1 s1 rs1 re1 rv h1=>?_
  cases v with
  |bl k=>
   erw[yc]at rv;refine⟨k,rv,?_⟩
   cases k with
   |true=>exact⟨B,φ1,st1,ρ,rs1,re1,h1⟩
   |false=>exact h1.ok rs1 (by erw[yc])
  |_=>exact h1.elim
def ziW(ha:PE X a (tE S X ca))(hb:PE X (.BoolOp .Or (b::rest) pos) (tE S X cb)):PE X (.BoolOp .Or (a::b::rest) pos) (tE S X (.or ca cb)):=
 (zko ha hb).imp λσ H Q ⟨B,φ,st,ρ,rs,re,h⟩=>by
  erw[ev]at h;refine tE.bind rs re h λx H1 v st1 φ1 s1 rs1 re1 rv h1=>?_
  cases v with
  |bl k=>
   erw[yc]at rv;refine⟨k,rv,?_⟩
   cases k with
   |false=>exact⟨B,φ1,st1,ρ,rs1,re1,h1⟩
   |true=>exact h1.ok rs1 (by erw[yc])
  |_=>exact h1.elim
def zh8(ha:PE X a (tE S X ca)):PE X (.UnaryOp .Not a pos) (tE S X (.not ca)):=
 (zjC ha).imp λσ H Q ⟨B,φ,st,ρ,rs,re,h⟩=>by
  erw[ev]at h;refine tE.bind rs re h λx H1 v st1 φ1 s1 rs1 re1 rv h1=>?_
  cases v with
  |bl k=>
   erw[yc]at rv;exact⟨k,rv,h1.ok rs1 (by erw[yc])⟩
  |_=>exact h1.elim
def zia(ha:PE X a (tE S X ca)):PE X (.UnaryOp .USub a pos) (tE S X (.neg ca)):=
 (zif zgd ha).imp λσ H Q ⟨B,φ,st,ρ,rs,re,h⟩=>by
  erw[ev]at h;refine tE.bind rs re h λx H1 v st1 φ1 s1 rs1 re1 rv h1=>?_;split at h1
  .simp only[yc]at rv;exact⟨_,rv,h1.ok rs1 (by erw[yc])⟩
  .exact h1.elim
def zjL(hc:PT X c (tTs S X cc))(ha:PE X a (tE S X ca))(hb:PE X b (tE S X cb)):PE X (.IfExp c a b pos) (tE S X (.ite cc ca cb)):=
 (zfR hc ha hb).imp λσ H Q ⟨B,φ,st,ρ,rs,re,h⟩=>by
  erw[ev]at h;have e:((ev S.call ρ st cc).bind λx st1=>onO (yaC st1 x) λk=>cond k (ev S.call ρ st1 ca) (ev S.call ρ st1 cb))=(yaP (ev S.call ρ st cc)).bind λk st1=>cond k (ev S.call ρ st1 ca) (ev S.call ρ st1 cb):=by
   unfold yaP;rw[R.bind_assoc]
   congr 1
   funext x st1
   cases yaC st1 x<;>rfl
  rw[e]at h;refine tTs.bind rs re h λk H1 st1 φ1 s1 rs1 re1 h1=>?_
  cases k with
  |true=>exact⟨B,φ1,st1,ρ,rs1,re1,h1⟩
  |false=>exact⟨B,φ1,st1,ρ,rs1,re1,h1⟩
def zdw:PA X [] (tAs S X .nil):=zkU.imp λσ H Q ⟨B,φ,st,ρ,rs,re,h⟩=>by
 erw[evs]at h;exact h.ok rs (by erw[ye])
def zbd(ha:PE X a (tE S X ca))(hr:PA X es (tAs S X ces))(hs:starEach (a::es) X.env=(AG,eval a X.env)::starEach es X.env:=by rfl):PA X (a::es) (tAs S X (.cons ca ces)):=
 (zl ha hr hs).imp λσ H Q ⟨B,φ,st,ρ,rs,re,h⟩=>by
  erw[evs]at h;refine tE.bind rs re h λx H1 v st1 φ1 s1 rs1 re1 rv h1=>tAs.bind rs1 re1 h1 λxs H2 vs st2 φ2 s2 rs2 re2 rvs h2=>?_;refine h2.ok rs2 ?_;erw[ye];exact⟨x,xs,rfl,rv.step s2,rvs⟩
def ziP{k:Nat}(h:PA X es (tAs S X ces)):PE X (.Tuple es k pos) (tE S X (.tup ces)):=
 (zf6 h).imp λσ H Q ⟨B,φ,st,ρ,rs,re,h⟩=>by
  erw[ev]at h;refine tAs.bind rs re h λxs H1 vs st1 φ1 s1 rs1 re1 rv h1=>?_;split at h1
  .rename_i c;refine⟨by rw[<-zi,<-rv.length];exact c,λp hp=>h1 _ _ φ1 (.upd hp) (rs1.upd hp) (.tup_new hp rs1 rv)⟩
  .exact h1.elim
def zi4(h:PA X es (tAs S X ces)):PE X (.List es pos) (tE S X (.lst ces)):=
 (zgg h).imp λσ H Q ⟨B,φ,st,ρ,rs,re,h⟩=>by
  erw[ev]at h;refine tAs.bind rs re h λxs H1 vs st1 φ1 s1 rs1 re1 rv h1=>?_;split at h1
  .rename_i c;refine⟨by rw[<-zi,<-rv.length];exact c,λp hp=>h1 _ _ φ1 (.upd hp) (rs1.upd hp) (.lst_new hp rs1 rv)⟩
  .exact h1.elim
theorem Step.push{p:AK}{o:HO}(hp:H p=AC):Step φ H (φ++[AA p]) (L2.upd H p o):=by
 refine⟨λb u n e=>by rw[za (zc e hp)];exact e,by simp,λn a hn e=>?_,λb h=>?_⟩
 .rw[Ae hn]at e;exact e
 .rw[Av]at h;rcases h with h|h
  .exact .inl h
  .have:b=p:=by simpa using h
   subst this;exact .inr hp
theorem yp.push{K:AE}{cl:Nat->AK}{p:AK}{u:HO}{o:Ob}(rs:yp K cl B φ H st)(hp:H p=AC)(hb:¬B p)(ho:ybH K cl B (φ++[AA p]) (L2.upd H p u) o p):yp K cl B (φ++[AA p]) (L2.upd H p u) (st++[o]):=by
 have s:Step φ H (φ++[AA p]) (L2.upd H p u):=.push hp;have np:AA p∉φ:=λz=>by
  let⟨w,e⟩:=rs.there z;rw[hp]at e;cases e
 have hl:φ.length=st.length:=rs.len;refine⟨by simp[hl],λm n a e1 e2=>?_,λn a e=>?_,λn o' e ho'=>?_,λa h=>?_,λa h=>?_,λa h xs e=>?_⟩
 .by_cases hm:m<φ.length
  .rw[Ae hm]at e1
   by_cases hn:n<φ.length
   .rw[Ae hn]at e2;exact rs.inj m n a e1 e2
   .rw[Ao ∅]at e2;have:a=p:=by
     cases q:n-φ.length with
     |zero=>rw[q]at e2;simpa using e2.symm
     |succ k=>rw[q]at e2;simp at e2
    subst this;exact absurd (A5 e1) np
  .rw[Ao ∅]at e1;have:m-φ.length=0/\a=p:=by
    cases q:m-φ.length with
    |zero=>rw[q]at e1;exact⟨rfl,by simpa using e1.symm⟩
    |succ k=>rw[q]at e1;simp at e1
   let⟨q1,rfl⟩:=this
   by_cases hn:n<φ.length
   .rw[Ae hn]at e2;exact absurd (A5 e2) np
   .rw[Ao ∅]at e2;have:n-φ.length=0:=by
     cases q:n-φ.length with
     |zero=>rfl
     |succ k=>rw[q]at e2;simp at e2
    lia
 .by_cases hn:n<φ.length
  .rw[Ae hn]at e;let⟨o',q,r⟩:=rs.obj n a e;refine⟨o',by rw[Ae ∅];exact q,r.step s ?_⟩;rw[za]
   rintro rfl
   exact np (A5 e)
  .rw[Ao ∅]at e;have:n-φ.length=0/\a=p:=by
    cases q:n-φ.length with
    |zero=>rw[q]at e;exact⟨rfl,by simpa using e.symm⟩
    |succ k=>rw[q]at e;simp at e
   let⟨q1,rfl⟩:=this;refine⟨o,?_,ho⟩;rw[Ao ∅];have:n-st.length=0:=by lia
   rw[this];rfl
 .by_cases hn:n<φ.length
  .rw[Ae ∅]at e;let⟨a,q⟩:=rs.liv n o' e ho';exact⟨a,by rw[Ae hn];exact q⟩
  .rw[Ao ∅]at e;have:n-st.length=0:=by
    cases q:n-st.length with
    |zero=>rfl
    |succ k=>rw[q]at e;simp at e
   refine⟨p,?_⟩;rw[Ao ∅];have:n-φ.length=0:=by lia
   rw[this];rfl
 .rw[Av]at h;rcases h with h|h
  .exact rs.nb a h
  .have:a=p:=by simpa using h
   subst this;exact hb
 .let⟨w,e⟩:=rs.dom a h;exact⟨w,by rw[za (zc e hp)];exact e⟩
 .let⟨w,q⟩:=rs.dom a h;rw[za (zc q hp)]at e;exact rs.nt a h xs e
theorem yp.untup{K:AE}{cl:Nat->AK}{a:AK}{xs:List V}(rs:yp K cl B φ H st)(h:AA a∈φ)(e:H a=AA (.tup xs)):False:=by
 let⟨n,hn⟩:=List.getElem?_of_mem h;let⟨o,q,r⟩:=rs.obj n a hn
 cases o with
 |lst vs=>let⟨ys,hx,l⟩:=r;rw[e]at hx;cases hx
 |dct t kvs=>cases t<;>(let⟨ys,hx,l⟩:=r;rw[e]at hx;cases hx)
 |ins c fs=>let⟨ks,⟨dx,hx⟩,l⟩:=r;rw[e]at hx;cases hx
 |dead=>exact r.elim
theorem yp.nB{K:AE}{cl:Nat->AK}{p:AK}(rs:yp K cl B φ H st)(hp:H p=AC):¬B p:=λz=>by
 let⟨o,e⟩:=rs.dom p z;rw[hp]at e;cases e
theorem yc.loc_new{K:AE}{cl:Nat->AK}{p:AK}(rs:yp K cl B φ H st):yc K cl B (φ++[AA p]) H1 (.loc st.length) (.ref p):=by
 erw[yc];have hl:=rs.len;refine⟨by simp[hl],p,rfl,λb e=>?_⟩;rw[Ao ∅]at e;have:st.length-φ.length=0:=by lia
 rw[this]at e;simpa using e.symm
def zhl(h:PA X es (tAs S X ces)):PE X (.List es pos) (tE S X (.newl ces)):=
 (zgg h).imp λσ H Q ⟨B,φ,st,ρ,rs,re,h⟩=>by
  erw[ev]at h;refine tAs.bind rs re h λxs H1 vs st1 φ1 s1 rs1 re1 rv h1=>?_;split at h1
  .rename_i c;refine⟨by rw[<-zi,<-rv.length];exact c,λp hp=>h1 _ _ (φ1++[AA p]) (.push hp) (rs1.push hp (rs1.nB hp) ⟨xs,zb,rv.step (.push hp)⟩) (.loc_new rs1)⟩
  .exact h1.elim
end
section
variable {S:Se}{X:Cx}{σ:St}{B:AK->Prop}{φ φ1:Ph}{H H1:Hp}{st:SO}{ρ:IC.Env}{pos p2:CG}{a b c d:AY}{ca cb cc:Ce}{es:List AY}{ces:Ces}{K:AE}{cl:Nat->AK}
def zdt{o:COp}{v w:PV}{α β:Type}{Rel:Ph->Hp->α->β->Prop}{k:Bool->R α}{Q:β->Hp->Prop}(h:Run S X σ B φ H Rel (onO (blO (yw o v w)) k) Q):∃b,yw o v w=AA (.bl b)/\Run S X σ B φ H Rel (k b) Q:=by
 cases e:yw o v w with
 |none=>rw[e]at h;exact h.elim
 |some z=>
  let⟨b,rfl⟩:=za9 e;rw[e]at h;exact⟨b,rfl,h⟩
def zeX{op op':Fj}{o p:COp}(ho:OpR X (compareOp op) (rT2 S X (yw o)))(ho':OpR X (compareOp op') (rT2 S X (yw p)))(ha:PE X a (tE S X ca))(hb:PE X b (tE S X cb))(hc:PE X c (tE S X cc))
  (hm:lastMarks [op,op'] [b,c]=false:=by with_unfolding_all rfl):PE X (.Compare a [op,op'] [b,c] pos) (tE S X (.chain o p ca cb cc)):=
 (zfD ho ho' ha hb hc hm).imp λσ H Q ⟨B,φ,st,ρ,rs,re,h⟩=>by
  erw[ev]at h;refine tE.bind rs re h λx H1 v st1 φ1 s1 rs1 re1 rv h1=>tE.bind rs1 re1 h1 λy H2 w st2 φ2 s2 rs2 re2 rw h2=>?_;let⟨k,e,h2⟩:=zdt h2;refine⟨B,φ2,st2,v,w,.bl k,rs2,rv.step s2,rw,e,λz' H' φ' s' rs' rz=>?_⟩;erw[yc]at rz;refine⟨k,rz,?_⟩
  cases k with
  |false=>exact h2 _ H' φ' s' rs' (by erw[yc])
  |true=>
   refine tE.bind rs' (re2.step s') (Run.on s' h2) λz H3 v3 st3 φ3 s3 rs3 re3 rv3 h3=>?_;let⟨q,eq,hq⟩:=zz h3 rs3;exact⟨B,φ3,st3,w,v3,q,rs3,(rw.step s').step s3,rv3,eq,hq⟩
def zfF{op op':Fj}{o p:COp}(ho:OpR X (compareOp op) (rT2 S X (yw o)))(ho':OpR X (compareOp op') (rT2 S X (yw p)))(ha:PE X a (tE S X ca))(hb:PE X b (tE S X cb))(hc:PE X c (tE S X cc))
  (hm:lastMarks [op,op'] [b,c]=false:=by with_unfolding_all rfl):PT X (.Compare a [op,op'] [b,c] pos) (tTs S X (.chain o p ca cb cc)):=
 (zfW ho ho' ha hb hc hm).imp λσ H Q ⟨B,φ,st,ρ,rs,re,h⟩=>by
  erw[ev,yaP,R.bind_assoc]at h;refine tE.bind rs re h λx H1 v st1 φ1 s1 rs1 re1 rv h1=>tE.bind rs1 re1 h1 λy H2 w st2 φ2 s2 rs2 re2 rw h2=>?_;have h2':Run S X σ B φ2 H2 RB (onO (blO (yw o v w)) λk=>cond k ((ev S.call ρ st2 cc).bind λz st3=>(toR (yw p w z) st3).bind λx st=>onO (yaC st x) λb=>.ok b st) (.ok AG st2)) Q:=by
   cases e:yw o v w with
   |none=>rw[e]at h2;exact h2
   |some z=>
    let⟨b,rfl⟩:=za9 e;rw[e]at h2
    cases b with
    |false=>exact h2
    |true=>
     erw[blO,onO,cond_true,R.bind_assoc]at h2 ⊢;exact h2
  let⟨k,e,h2⟩:=zdt h2';refine⟨B,φ2,st2,v,w,.bl k,rs2,rv.step s2,rw,e,λz' H' φ' s' rs' rz=>?_⟩;erw[yc]at rz;refine⟨k,rz,?_⟩
  cases k with
  |false=>exact⟨AG,rfl,h2 _ H' φ' s' rs' rfl⟩
  |true=>
   refine tE.bind rs' (re2.step s') (Run.on s' h2) λz H3 v3 st3 φ3 s3 rs3 re3 rv3 h3=>?_
   cases eq:yw p w v3 with
   |none=>rw[eq]at h3;exact h3.elim
   |some q=>
    let⟨b,rfl⟩:=za9 eq;rw[eq]at h3;refine⟨B,φ3,st3,w,v3,.bl b,rs3,(rw.step s').step s3,rv3,eq,λz2 H4 φ4 s4 rs4 rz4=>?_⟩;erw[yc]at rz4;exact⟨b,rz4,h3 b H4 φ4 s4 rs4 rfl⟩
theorem ye.at{vs:List PV}{xs:List V}{i:Int}{v:PV}(l:ye K cl B φ H vs xs)(h:at? vs i=AA v):∃x,atI xs i=AA x/\yc K cl B φ H v x:=by
 unfold at? at h;rw[l.length]at h;unfold atI
 cases e:ixI xs.length i with
 |none=>rw[e]at h;cases h
 |some j=>
  rw[e]at h;have e':ixN xs.length i=AA j:=e;rw[e'];exact l.get j h
theorem yp.list{n:Nat}{vs:List PV}{x:V}(rs:yp K cl B φ H st)(r:yc K cl B φ H (.loc n) x)(h:st[n]?=AA (.lst vs)):∃a xs,x=.ref a/\φ[n]?=AA (AA a)/\H a=AA (.lst xs)/\ye K cl B φ H vs xs:=by
 erw[yc]at r;let⟨hn,a,rfl,ha⟩:=r;let⟨b,hb⟩:=rs.liv n _ h (by intro z;cases z);obtain rfl:=ha b hb;let⟨o,ho,ro⟩:=rs.obj n b hb;rw[h]at ho;cases ho;let⟨xs,hx,l⟩:=ro;exact⟨b,xs,rfl,hb,hx,l⟩
def rTS(S:Se)(X:Cx)(f:SO->PV->PV->Option PV):R2:=λx y H Q=>∃B φ st v w z,yp X.K S.cl B φ H st/\yc X.K S.cl B φ H v x/\yc X.K S.cl B φ H w y/\f st v w=AA z /\
 ∀z' H' φ',Step φ H φ' H'->yp X.K S.cl B φ' H' st->yc X.K S.cl B φ' H' z z'->Q z' H'
def zah{α:Type}{xs:List α}{i:PV}{z:α}(h:yaE xs i=AA z):∃k,i=.int k/\at? xs k=AA z:=by
 cases i with
 |int k=>exact⟨k,rfl,h⟩
 |_=>cases h
def zgG:IxR X (rTS S X idxV):=by
 rintro value slice π s σ H x y v u Q I rx ry ⟨B,φ,st,a,i,z,rs,ra,ri,e,q⟩ hs
 cases a with
 |tp k vs=>
  let⟨k,rfl,e⟩:=zah e;erw[yc]at ra ri;subst ri;let⟨p,xs,rfl,rt,l⟩:=ra;let⟨w,e1,rw⟩:=l.at e;exact zcK value slice π s σ H _ _ v u Q I rx ry (.inr (.inl ⟨p,xs,k,w,rfl,rfl,rt.sq,e1,q w H φ .rfl rs rw⟩)) hs
 |lst vs=>
  let⟨k,rfl,e⟩:=zah e;erw[yc]at ra ri;subst ri;let⟨p,xs,rfl,rt,l⟩:=ra;let⟨w,e1,rw⟩:=l.at e;exact zcK value slice π s σ H _ _ v u Q I rx ry (.inl ⟨p,xs,k,w,rfl,rfl,rt.sq,e1,q w H φ .rfl rs rw⟩) hs
 |loc n=>
  erw[idxV]at e;split at e
  .rename_i vs h1;let⟨k,rfl,e⟩:=zah e;erw[yc]at ri;subst ri;let⟨p,xs,rfl,_,hx,l⟩:=rs.list ra h1;let⟨w,e1,rw⟩:=l.at e;exact zcK value slice π s σ H _ _ v u Q I rx ry (.inl ⟨p,xs,k,w,rfl,rfl,.of hx,e1,q w H φ .rfl rs rw⟩) hs
  .cases e
 |str t=>
  erw[idxV]at e;split at e
  .rename_i hl
   cases e1:yaE t.cps.toList i with
   |none=>rw[e1]at e;cases e
   |some c=>
    rw[e1]at e
    cases e
    let⟨k,rfl,e1⟩:=zah e1;erw[yc]at ra ri;subst ra ri;exact zcK value slice π s σ H _ _ v u Q I rx ry (.inr (.inr ⟨t,k,c,rfl,rfl,by rw[<-zi];exact hl,e1,q _ H φ .rfl rs (by erw[yc])⟩)) hs
  .cases e
 |_=>cases e
def zjz(ha:PE X a (tE S X ca))(hb:PE X b (tE S X cb))(hs:ya9 b:=by exact λ_ _=>rfl):PE X (.Subscript a b pos) (tE S X (.idx ca cb)):=
 (zky zgG ha hb hs).imp λσ H Q ⟨B,φ,st,ρ,rs,re,h⟩=>by
  erw[ev]at h;refine tE.bind rs re h λx H1 v st1 φ1 s1 rs1 re1 rv h1=>tE.bind rs1 re1 h1 λy H2 w st2 φ2 s2 rs2 re2 rw h2=>?_;let⟨z,e,q⟩:=zz h2 rs2;exact⟨B,φ2,st2,v,w,z,rs2,rv.step s2,rw,e,q⟩
theorem ye.cut{vs:List PV}{xs:List V}(lo hi:Option Int)(l:ye K cl B φ H vs xs):ye K cl B φ H (IC.cut vs lo hi) (ybZ xs lo hi):=by
 have e1:∀n o,ybg n o=HT.sIx n 0 o:=λn o=>by cases o<;>rfl
 have e2:∀n o,ybj n o=HT.sIx n n o:=λn o=>by cases o<;>rfl
 unfold IC.cut ybZ;rw[l.length,e1,e2];exact(l.drop _).take _
def tO(S:Se)(X:Cx)(c:Ce):TO:=λσ H Q=>tE S X c σ H λx H1=>(x=.non/\Q AC H1) \/ ∃i,x=.int i/\Q (AA i) H1
def zgI:PO X AC (tO S X (.cst .non)):=λπ s σ H Q I h=>by
 refine zgV π s σ H Q I ?_;let⟨B,φ,st,ρ,rs,re,h⟩:=h;erw[ev]at h;rcases h.ok rs (x:=V.non) (by erw[yc])with q|⟨i,z,_⟩
 .exact q.2
 .cases z
def zhb(ha:PE X a (tE S X ca)):PO X (AA a) (tO S X ca):=by
 intro π s σ H Q I hw;rw[evalPart_some];refine thn (ha π s σ H _ I hw) λu s1 kq=>?_;let⟨x,H1,I1,r1,q1⟩:=kq;rcases q1 with⟨rfl,q⟩|⟨i,rfl,q⟩
 .cases r1
  exact⟨AC,H1,I1,.none,q⟩
 .let⟨t,rfl⟩:=r1;exact⟨AA i,H1,I1,.int i t,q⟩
def rSl(S:Se)(X:Cx):V->Option Int->Option Int->Hp->VK->Prop:=λx lo hi H Q=>∃B φ st v z,yp X.K S.cl B φ H st/\yc X.K S.cl B φ H v x/\yaO v lo hi=AA z /\
 ∀z' H' φ',Step φ H φ' H'->yp X.K S.cl B φ' H' st->yc X.K S.cl B φ' H' z z'->Q z' H'
def zS{prog:A4}{w:Aa}{A:A9}{E:AF->AI->Prop}{s:AI}{t sl:AK}{items:Array AF}{vl vu:AF}{lo hi:Option Int}{Q:AF->AI->Prop}(ht:Hw s.heap t items)(hs:s.heap.IsSliceOf sl vl vu .none)(pl:Eu vl lo)(pu:Eu vu hi)
  (hw:HT.sIx items.size 0 lo=0/\HT.sIx items.size items.size hi=items.size)
  (h:Q (.ref t) s):AV (model prog w) A (getItem (.ref t) (.ref sl)) Q E s:=by
 let⟨os,hos,hcs,hds⟩:=id hs;have hTs:s.TypeIs (.ref sl) "slice":=⟨os,hos,hcs⟩;unfold getItem
 try with_reducible refine Bd ?_
 first|refine AB (AJ ?_)|skip
 refine AB (EW ht.typeIs ⋯ ?_);refine AB (As (name:=AS "__getitem__") ht.typeIs Ah
  (BC Ah ht.typeIs Dm ?_ (EB _ _)))
 show AV _ _ (CK (.ref t) >>= _) _ _ s;refine AB (EO ht ?_);refine AB (DO hTs ?_);rw[if_pos ⋯];refine AB (HT.sliceApplied_gen hs pl pu ?_);have hyes:(((HT.sIx items.size 0 lo:Nat):Int)==0&&(1:Int)==1&&(HT.sIx items.size items.size hi-HT.sIx items.size 0 lo)==items.size)=true:=by
  rw[hw.1,hw.2];simp
 show AV _ _ (if (((HT.sIx items.size 0 lo:Nat):Int)==0&&(1:Int)==1&&(HT.sIx items.size items.size hi-HT.sIx items.size 0 lo)==items.size)=AD then _ else _) _ _ s;rw[if_pos hyes];refine AB (AB (DO ht.typeIs (AJ ?_)));rw[if_pos ⋯]
 first
  |exact AB (AJ (AJ ⟨_,rfl,AJ h⟩))
  |exact AB (GB (AJ ⟨_,rfl,AJ h⟩))
  |(wp_step;wp_step;exact⟨_,rfl,AJ h⟩)
def ye6(K:AE):V->Option Int->Option Int->Hp->VK->Prop:=λx lo hi H Q=>∃a xs,x=.ref a/\SqT K H a xs /\
 (HT.sIx xs.length 0 lo=0/\HT.sIx xs.length xs.length hi=xs.length)/\Q (.ref a) H
def zfg:SlR X (ye6 X.K):=by
 intro π s σ H x v vl vu lo hi sl Q I rx hs pl pu h;let⟨a,xs,rfl,hx,hw,q⟩:=h
 cases rx
 let⟨its,r,ht,hz⟩:=I.tuple hx;have hlen:its.toArray.size=xs.length:=by rw[AZ];exact r.length.symm
 refine⟨"tuple",_,Ah.lookup,ht.typeIs,?_⟩;exact zS ht hs pl pu (by rw[hlen];exact hw) ⟨.ref a,H,I,rfl,q⟩
def yfQ:V->Option Int->Option Int->Hp->VK->Prop:=λx lo hi H Q=>∃y:AW,x=.str y/\y.length<=sizeLine/\Q (.str ⟨((y.cps.toList.drop (HT.sIx y.cps.toList.length 0 lo)).take (HT.sIx y.cps.toList.length y.cps.toList.length hi-HT.sIx y.cps.toList.length 0 lo)).toArray⟩) H
def zlr(lo hi:Option Int)(n:Nat):Dr lo hi 1 n=sliceRange ((HT.sIx n 0 lo:Nat):Int) ((HT.sIx n n hi:Nat):Int) 1:=by
 unfold Dr;erw[show (1:Int) > 0 by decide,if_true]
 congr 1
 .cases lo with
  |none=>simp[HT.sIx]
  |some i=>
   erw[HT.sIx]
   by_cases h:i<0
   .simp only[h,if_true]<;>lia
   .simp only[h,if_false]<;>lia
 .cases hi with
  |none=>simp[HT.sIx]
  |some i=>
   erw[HT.sIx]
   by_cases h:i<0
   .simp only[h,if_true]<;>lia
   .simp only[h,if_false]<;>lia
def zet(y:AW)(lo hi:Option Int):Txt.slice y lo hi=⟨((y.cps.toList.drop (HT.sIx y.cps.toList.length 0 lo)).take (HT.sIx y.cps.toList.length y.cps.toList.length hi-HT.sIx y.cps.toList.length 0 lo)).toArray⟩:=by
 have hn:y.length=y.cps.toList.length:=by simp[Str.length]
 unfold Txt.slice;rw[zlr,hn,sliceRange_one];have ha:=HT.sIx_le y.cps.toList.length 0 (Bj _) lo;have hb:=HT.sIx_le y.cps.toList.length y.cps.toList.length (AR _) hi;generalize HT.sIx y.cps.toList.length 0 lo=a,HT.sIx y.cps.toList.length y.cps.toList.length hi=b at *;split
 .rename_i c;erw[AQ,List.length_range,AH,beq_iff_eq]at c;obtain⟨rfl,rfl⟩:a=0/\b=y.cps.toList.length:=by lia
  rw[List.drop_zero,Nat.sub_zero,Ej]
 .rw[pick_run]
def zg0:SlR X yfQ:=by
 intro π s σ H x v vl vu lo hi sl Q I rx hs pl pu h;let⟨y,rfl,hz,q⟩:=h;let⟨t,rfl⟩:=rx;rw[<-zet]at q;refine⟨"str",_,PySem.F.slot_str_getitem.lookup,HG _ _ _,?_⟩;have go:∀l u:Option (Int×Hr),vl=partValue l->vu=partValue u->lo=l.map (·.1)->hi=u.map (·.1)->AV (model X.prog X.w) X.A (getItem (.str y t) (.ref sl)) (EP X π σ Q) X.xe s:=by
  rintro l u rfl rfl rfl rfl
  refine wpAny_getItem_str_slice (l:=l) (u:=u) (st:=AC) hs rfl ?_;exact post_val_or_str ⟨BV (Txt.slice_le y _ _) hz,λt' k=>⟨.str _,H,I.tok k,⟨_,rfl⟩,q⟩⟩
 cases pl with
 |none=>
  cases pu with
  |none=>exact go AC AC rfl rfl rfl rfl
  |int j u=>exact go AC (AA (j,u)) rfl rfl rfl rfl
 |int i t1=>
  cases pu with
  |none=>exact go (AA (i,t1)) AC rfl rfl rfl rfl
  |int j u=>exact go (AA (i,t1)) (AA (j,u)) rfl rfl rfl rfl
def zhA:SlR X (rSl S X):=by
 rintro π s σ H x v vl vu lo hi sl Q I rx hs pl pu ⟨B,φ,st,w,z,rs,rw,e,q⟩
 have e1:∀n o,ybg n o=HT.sIx n 0 o:=λn o=>by cases o<;>rfl
 have e2:∀n o,ybj n o=HT.sIx n n o:=λn o=>by cases o<;>rfl
 cases w with
 |tp k vs=>
  erw[yaO]at e;split at e
  .rename_i c
   cases e
   have rw':=rw;erw[yc]at rw;let⟨p,xs,rfl,rt,l⟩:=rw;refine zfg π s σ H _ v vl vu lo hi sl Q I rx hs pl pu ⟨p,xs,rfl,rt.sq,?_,q _ H φ .rfl rs rw'⟩;rw[l.length,e1,e2]at c;exact c
  .rename_i c
   cases e
   erw[yc]at rw;let⟨p,xs,rfl,rt,l⟩:=rw;refine ziU π s σ H _ v vl vu lo hi sl Q I rx hs pl pu ⟨p,xs,rfl,rt.sq,?_,λt ht=>q _ _ φ (.upd ht) (rs.upd ht) (.tup_new ht rs (l.cut lo hi))⟩;rw[l.length,e1,e2]at c;exact c
 |str y=>
  erw[yaO]at e;split at e
  .rename_i c
   cases e
   erw[yc]at rw;subst rw;refine zg0 π s σ H _ v vl vu lo hi sl Q I rx hs pl pu ⟨y,rfl,by rw[<-zi];exact c,?_⟩;have:=q (.str ⟨(cut y.cps.toList lo hi).toArray⟩) H φ .rfl rs (by erw[yc]);rw[cut,e1,e2]at this;exact this
  .cases e
 |lst vs=>
  erw[yaO]at e
  cases e
  erw[yc]at rw;let⟨p,xs,rfl,rt,l⟩:=rw;exact zdF π s σ H _ v vl vu lo hi sl Q I rx hs pl pu ⟨p,xs,rfl,rt.sq,λt ht=>q _ _ φ (.upd ht) (rs.upd ht) (.lst_new ht rs (l.cut lo hi))⟩
 |scr vs=>
  erw[yaO]at e
  cases e
  erw[yc]at rw;let⟨p,xs,rfl,rt,l⟩:=rw;exact zdF π s σ H _ v vl vu lo hi sl Q I rx hs pl pu ⟨p,xs,rfl,(by rcases rt with rt|rt;exact .inl rt.1;exact .inr rt),λt ht=>q _ _ φ (.upd ht) (rs.upd ht) (.lst_new ht rs (l.cut lo hi))⟩
 |_=>cases e
def zjs{lo hi:Option AY}(ha:PE X a (tE S X ca))(hl:PO X lo (tO S X cb))(hh:PO X hi (tO S X cc)):PE X (.Subscript a (.Slice lo hi AC p2) pos) (tE S X (.slc ca cb cc)):=
 (zfd zhA ha hl hh).imp λσ H Q ⟨B,φ,st,ρ,rs,re,h⟩=>by
  erw[ev]at h;have oi:∀{v:PV} {x:V} {o:Option Int} {B φ H},yc X.K S.cl B φ H v x->yaV v=AA o->(x=.non/\o=AC) \/ ∃i,x=.int i/\o=AA i:=λ{v x o B φ H} r e=>by
   cases v with
   |non=>erw[yc]at r;cases e;exact .inl ⟨r,rfl⟩
   |int i=>erw[yc]at r;cases e;exact .inr ⟨i,r,rfl⟩
   |_=>cases e
  refine tE.bind rs re h λx H1 v st1 φ1 s1 rs1 re1 rv h1=>tE.bind rs1 re1 h1 λy H2 w st2 φ2 s2 rs2 re2 rw h2=>?_
  cases eo:yaV w with
  |none=>rw[eo]at h2;exact h2.elim
  |some o1=>
   rw[eo]at h2;have key:tO S X cc σ H2 λu H3=>rSl S X x o1 u H3 Q:=by
    refine tE.bind rs2 re2 h2 λy' H3 w' st3 φ3 s3 rs3 re3 rw' h3=>?_;let⟨z,e,q⟩:=zz h3 rs3;unfold ya7 at e
    cases eo':yaV w' with
    |none=>rw[eo']at e;cases e
    |some o2=>
     rw[eo']at e;have fin:rSl S X x o1 o2 H3 Q:=⟨B,φ3,st3,v,z,rs3,(rv.step s2).step s3,e,q⟩;rcases oi rw' eo' with⟨rfl,rfl⟩|⟨i,rfl,rfl⟩
     .exact .inl ⟨rfl,fin⟩
     .exact .inr ⟨i,rfl,fin⟩
   rcases oi rw eo with⟨rfl,rfl⟩|⟨i,rfl,rfl⟩
   .exact .inl ⟨rfl,key⟩
   .exact .inr ⟨i,rfl,key⟩
end
section
variable {S:Se}{X:Cx}{σ:St}{B:AK->Prop}{φ φ1:Ph}{H H1:Hp}{st:SO}{ρ:IC.Env}{p pos p2:CG}{a b c d:AY}{ca cb cc:Ce}{es:List AY}{ces:Ces}{K:AE}{cl:Nat->AK}
def rB(S:Se)(X:Cx)(k:Blt):List V->Hp->VK->Prop:=λxs H Q=>∃B φ st vs z,yp X.K S.cl B φ H st/\ye X.K S.cl B φ H vs xs/\yaa k st vs=AA z /\
 ∀z' H' φ',Step φ H φ' H'->yp X.K S.cl B φ' H' st->yc X.K S.cl B φ' H' z z'->Q z' H'
theorem ye.one{v:PV}{xs:List V}(l:ye K cl B φ H [v] xs):∃x,xs=[x]/\yc K cl B φ H v x:=by
 erw[ye]at l;let⟨y,ys,rfl,r,rfl⟩:=l;exact⟨y,rfl,r⟩
theorem ye.two{v w:PV}{xs:List V}(l:ye K cl B φ H [v,w] xs):∃x y,xs=[x,y]/\yc K cl B φ H v x/\yc K cl B φ H w y:=by
 erw[ye]at l;let⟨y,ys,rfl,r,z,zs,rfl,r2,rfl⟩:=l;exact⟨y,z,rfl,r,r2⟩
def z6{k:Blt}{st:SO}{vs:List PV}{z:PV}(h:yaa k st vs=AA z)(h2:∀x y,yaa k st [x,y]=AC):∃x,vs=[x]:=by
 match vs,h with
 |[x],_=>exact⟨x,rfl⟩
 |[x,y],h=>rw[h2]at h;cases h
def zaX{v:PV}{x:V}{vs:List PV}(rs:yp K cl B φ H st)(r:yc K cl B φ H v x)(h:yF st v=AA vs):∃a xs,x=.ref a/\SqL K H a xs/\ye K cl B φ H vs xs:=by
 cases v with
 |lst ws=>
  cases h
  erw[yc]at r;let⟨a,xs,rfl,rt,l⟩:=r;exact⟨a,xs,rfl,rt.sq,l⟩
 |loc n=>
  erw[yF]at h;split at h
  .rename_i ws hw
   cases h
   let⟨a,xs,rfl,_,hx,l⟩:=rs.list r hw;exact⟨a,xs,rfl,.of hx,l⟩
  .cases h
 |_=>cases h
def ziC{v:PV}{x:V}{vs:List PV}(rs:yp K cl B φ H st)(r:yc K cl B φ H v x)(h:seqOf st v=AA vs):∃a xs,x=.ref a/\(SqL K H a xs \/ SqT K H a xs)/\ye K cl B φ H vs xs:=by
 cases v with
 |tp k ws=>
  cases h
  erw[yc]at r;let⟨a,xs,rfl,rt,l⟩:=r;exact⟨a,xs,rfl,.inr rt.sq,l⟩
 |lst ws=>
  let⟨a,xs,e,q,l⟩:=zaX rs r (vs:=vs) h;exact⟨a,xs,e,.inl q,l⟩
 |loc n=>
  let⟨a,xs,e,q,l⟩:=zaX rs r (vs:=vs) h;exact⟨a,xs,e,.inl q,l⟩
 |_=>cases h
def zi1:yQ X (.builtin "len") (rB S X .len):=by
 rintro π s σ H xs us Q I r ⟨B,φ,st,vs,z,rs,l,e,q⟩
 let⟨v,rfl⟩:=z6 e λ_ _=>rfl;let⟨x,rfl,rv⟩:=l.one;erw[yaa,lenV]at e;split at e
 .rename_i t;split at e
  .rename_i c
   cases e
   erw[yc]at rv;subst rv;exact zbP π s σ H _ us Q I r ⟨t,rfl,by rw[<-zi];exact c,q _ H φ .rfl rs (by erw[yc])⟩
  .cases e
 .cases e1:seqOf st v with
  |none=>rw[e1]at e;cases e
  |some ws=>
   rw[e1]at e
   cases e
   let⟨a,ys,rfl,h,l⟩:=ziC rs rv e1;refine zbI π s σ H _ us Q I r ⟨a,ys,rfl,?_,q _ H φ .rfl rs (by erw[yc];rw[l.length])⟩;exact h
def zh2:yQ X (.type "int") (rB S X .int):=by
 rintro π s σ H xs us Q I r ⟨B,φ,st,vs,z,rs,l,e,q⟩
 let⟨v,rfl⟩:=z6 e λ_ _=>rfl;let⟨x,rfl,rv⟩:=l.one;erw[yaa]at e
 cases v with
 |int i=>
  cases e
  erw[yc]at rv;subst rv;exact zbv π s σ H _ us Q I r (.inl ⟨i,rfl,q _ H φ .rfl rs (by erw[yc])⟩)
 |bl k=>
  cases e
  erw[yc]at rv;subst rv;exact zbv π s σ H _ us Q I r (.inr ⟨k,rfl,q _ H φ .rfl rs (by erw[yc,bi])⟩)
 |_=>cases e
def zh6:yQ X (.builtin "abs") (rB S X .abs):=by
 rintro π s σ H xs us Q I r ⟨B,φ,st,vs,z,rs,l,e,q⟩
 let⟨v,rfl⟩:=z6 e λ_ _=>rfl;let⟨x,rfl,rv⟩:=l.one;erw[yaa]at e
 cases v with
 |int i=>
  cases e
  erw[yc]at rv;subst rv;exact zeS π s σ H _ us Q I r ⟨i,rfl,q _ H φ .rfl rs (by erw[yc])⟩
 |_=>cases e
theorem ye.ints:∀{ns:List Int} {xs:List V},ye K cl B φ H (ns.map .int) xs->xs=ns.map V.int
 |[],xs,h=>by simpa only[BA,ye] using h
 |n::ns,xs,h=>by
  erw[AM,ye]at h;let⟨y,ys,rfl,r,l⟩:=h;erw[yc]at r;rw[r,ye.ints l];rfl
theorem ye.bls:∀{ns:List Bool} {xs:List V},ye K cl B φ H (ns.map .bl) xs->xs=ns.map V.bl
 |[],xs,h=>by simpa only[BA,ye] using h
 |n::ns,xs,h=>by
  erw[AM,ye]at h;let⟨y,ys,rfl,r,l⟩:=h;erw[yc]at r;rw[r,ye.bls l];rfl
def zfP:yQ X (.type "tuple") (rB S X .tuple):=by
 rintro π s σ H xs us Q I r ⟨B,φ,st,vs,z,rs,l,e,q⟩
 let⟨v,rfl⟩:=z6 e λ_ _=>rfl;let⟨x,rfl,rv⟩:=l.one;erw[yaa,ydd]at e;split at e
 .cases e
  erw[yc]at rv;let⟨a,ys,rfl,rt,l⟩:=rv;exact zX π s σ H _ us Q I r ⟨a,ys,rfl,.inr ⟨rt.sq,q _ H φ .rfl rs (by erw[yc];exact⟨a,ys,rfl,rt,l⟩)⟩⟩
 .cases e1:yF st v with
  |none=>rw[e1]at e;cases e
  |some ws=>
   rw[e1]at e
   cases e
   let⟨a,ys,rfl,h,l⟩:=zaX rs rv e1;exact zX π s σ H _ us Q I r ⟨a,ys,rfl,.inl ⟨h,λt ht=>q _ _ φ (.upd ht) (rs.upd ht) (.tup_new ht rs l)⟩⟩
def zf3:∀{vs:List PV} {m:Bool},IC.allB vs=AA m->∃ns:List Bool,vs=ns.map .bl/\m=ns.all id
 |[],m,h=>by cases h;exact⟨[],rfl,rfl⟩
 |.bl i::r,m,h=>by
  erw[IC.allB]at h;split at h
  .rename_i c e
   cases h
   let⟨ns,e1,e2⟩:=zf3 e;exact⟨i::ns,by rw[e1];rfl,by rw[e2];rfl⟩
  .cases h
 |.non::r,m,h=>by cases h
 |.int _::r,m,h=>by cases h
 |.str _::r,m,h=>by cases h
 |.tp _ _::r,m,h=>by cases h
 |.lst _::r,m,h=>by cases h
 |.loc _::r,m,h=>by cases h
 |.fnc _::r,m,h=>by cases h
 |.exn _::r,m,h=>by cases h
 |.scr _::r,m,h=>by cases h
def zf7:∀{vs:List PV} {m:Int},ybE vs=AA m->∃ns:List Int,vs=ns.map .int/\m=ns.sum
 |[],m,h=>by cases h;exact⟨[],rfl,rfl⟩
 |.int i::r,m,h=>by
  erw[ybE]at h;split at h
  .rename_i c e
   cases h
   let⟨ns,e1,e2⟩:=zf7 e;exact⟨i::ns,by rw[e1];rfl,by rw[e2,List.sum_cons]⟩
  .cases h
 |.non::r,m,h=>by cases h
 |.bl _::r,m,h=>by cases h
 |.str _::r,m,h=>by cases h
 |.tp _ _::r,m,h=>by cases h
 |.lst _::r,m,h=>by cases h
 |.loc _::r,m,h=>by cases h
 |.fnc _::r,m,h=>by cases h
 |.exn _::r,m,h=>by cases h
 |.scr _::r,m,h=>by cases h
def zjV(hc:X.calm=AD):yQ X (.builtin "all") (rB S X .all):=by
 rintro π s σ H xs us Q I r ⟨B,φ,st,vs,z,rs,l,e,q⟩
 let⟨v,rfl⟩:=z6 e λ_ _=>rfl;let⟨x,rfl,rv⟩:=l.one;erw[yaa]at e
 cases e1:yF st v with
 |none=>rw[e1]at e;cases e
 |some ws=>
  rw[e1]at e;erw[BY]at e
  cases e2:IC.allB ws with
  |none=>rw[e2]at e;cases e
  |some m=>
   rw[e2]at e
   cases e
   let⟨ns,rfl,rfl⟩:=zf3 e2;let⟨a,ys,rfl,h,l⟩:=zaX rs rv e1;rw[l.bls]at h;exact zfh hc π s σ H _ us Q I r ⟨a,ns,rfl,h,q _ H φ .rfl rs (by erw[yc])⟩
def zib(hc:X.calm=AD):yQ X (.builtin "sum") (rB S X .sum):=by
 rintro π s σ H xs us Q I r ⟨B,φ,st,vs,z,rs,l,e,q⟩
 let⟨v,rfl⟩:=z6 e λ_ _=>rfl;let⟨x,rfl,rv⟩:=l.one;erw[yaa]at e
 cases e1:yF st v with
 |none=>rw[e1]at e;cases e
 |some ws=>
  rw[e1]at e;erw[BY]at e
  cases e2:ybE ws with
  |none=>rw[e2]at e;cases e
  |some m=>
   rw[e2]at e
   cases e
   let⟨ns,rfl,rfl⟩:=zf7 e2;let⟨a,ys,rfl,h,l⟩:=zaX rs rv e1;rw[l.ints]at h;exact zfn hc π s σ H _ us Q I r ⟨a,ns,rfl,h,q _ H φ .rfl rs (by erw[yc])⟩
variable {x:AW}{id T:String}{k:Blt}
def zja(hc:yQ X (.builtin id) (rB S X k))(hg:Gl X x)(hm:X.mg x=AC)(hv:bootBuiltins x=AA (.builtin id))(ha:PA X (a::es) (tAs S X ces))(hn:x ≠ "__name__":=by decide)(hdb:(x==("__debug__":AW))=false:=by decide)
  (he:starEach (a::es) X.env=(AG,eval a X.env)::starEach es X.env:=by rfl) (hpl:(backTo pos (starEach es X.env)).any (·.1)=false:=by rfl):PE X (.Call (.Name x p) (a::es) [] pos) (tE S X (.blt k ces)):=
 (zbn hc hg hm hv ha hn hdb he hpl).imp λσ H Q ⟨B,φ,st,ρ,rs,re,h⟩=>by
  erw[ev]at h;refine tAs.bind rs re h λxs H1 vs st1 φ1 s1 rs1 re1 rv h1=>?_;let⟨z,e,q⟩:=zz h1 rs1;exact⟨B,φ1,st1,vs,z,rs1,rv,e,q⟩
def zgS(hc:yQ X (.type T) (rB S X k))(hg:Gl X x)(hm:X.mg x=AC)(hv:bootBuiltins x=AA (.type T))(ha:PA X (a::es) (tAs S X ces))(hn:x ≠ "__name__":=by decide)(hdb:(x==("__debug__":AW))=false:=by decide)
  (he:starEach (a::es) X.env=(AG,eval a X.env)::starEach es X.env:=by rfl) (hpl:(backTo pos (starEach es X.env)).any (·.1)=false:=by rfl):PE X (.Call (.Name x p) (a::es) [] pos) (tE S X (.blt k ces)):=
 (zaC hc hg hm hv ha hn hdb he hpl).imp λσ H Q ⟨B,φ,st,ρ,rs,re,h⟩=>by
  erw[ev]at h;refine tAs.bind rs re h λxs H1 vs st1 φ1 s1 rs1 re1 rv h1=>?_;let⟨z,e,q⟩:=zz h1 rs1;exact⟨B,φ1,st1,vs,z,rs1,rv,e,q⟩
end
section
variable {S:Se}{X:Cx}{σ:St}{B:AK->Prop}{φ φ1:Ph}{H H1:Hp}{st:SO}{ρ:IC.Env}{p pos p2 apos:CG}{a b c d:AY}{ca cb cc:Ce}{es:List AY}{ces:Ces}{K:AE}{cl:Nat->AK}
theorem Step.put{l:AK}{u:HO}(hl:AA l∈φ):Step φ H φ (L2.upd H l u):=
 ⟨λb o n e=>by rw[za (show b≠l from λz=>n (by rw[z];exact hl))];exact e,AR _,λ_ _ _ e=>e,λ_ h=>.inl h⟩
theorem yp.put{n:Nat}{l:AK}{u:HO}{o:Ob}(rs:yp K cl B φ H st)(hn:φ[n]?=AA (AA l))(ho:ybH K cl B φ (L2.upd H l u) o l):yp K cl B φ (L2.upd H l u) (st.set n o):=by
 have hm:AA l∈φ:=A5 hn;have s:Step φ H φ (L2.upd H l u):=.put hm;have hlt:n<st.length:=by rw[<-rs.len];exact(Ar.mp hn).1
 refine⟨by rw[Az];exact rs.len,rs.inj,λm a e=>?_,λm o' e ho'=>?_,rs.nb,λa h=>?_,λa h xs e=>?_⟩
 .by_cases hmn:m=n
  .subst hmn;rw[hn]at e;cases e;exact⟨o,by rw[BM hlt],ho⟩
  .let⟨o',q,r⟩:=rs.obj m a e;refine⟨o',by rw[Aq (B0 hmn)];exact q,r.step s ?_⟩;rw[za]
   rintro rfl
   exact hmn (rs.inj m n a e hn)
 .by_cases hmn:m=n
  .subst hmn;exact⟨l,hn⟩
  .rw[Aq (B0 hmn)]at e;exact rs.liv m o' e ho'
 .let⟨w,e⟩:=rs.dom a h
  by_cases z:a=l
  .subst z;exact⟨u,zb⟩
  .exact⟨w,by rw[za z];exact e⟩
 .have z:a≠l:=λz=>rs.nb l hm (z ▸ h);rw[za z]at e;exact rs.nt a h xs e
def zk7:1000000<=sizeLine:=by rw[Bs];decide
def zeb{m:Mth}{v:PV}{st:SO}{α β:Type}{Rel:Ph->Hp->α->β->Prop}{k:Bool->R α}{Q:β->Hp->Prop}(h:Run S X σ B φ H Rel (onO (yaA m st v) k) Q):∃b,yaA m st v=AA b/\Run S X σ B φ H Rel (k b) Q:=by
 cases e:yaA m st v with
 |none=>rw[e]at h;exact h.elim
 |some z=>rw[e]at h;exact⟨z,rfl,h⟩
def zdA(ha:PE X a (tE S X ca))(hb:PE X b (tE S X cb))(hs:starEach [b] X.env=[(AG,eval b X.env)]:=by rfl)(hbase:attributeBase a "append" X.env (eval a X.env)=eval a X.env:=by rfl)(hline:(apos.endLine==pos.line)=true:=by rfl)
  (hfew:((backTo pos (starEach [b] X.env)).all (λx=>!x.1)&&(backToKw pos (keywordEach [] X.env)).all (λx=>x.1.isSome)&&decide (([b]:List AY).length+([]:List C9).length+(if ([]:List C9).isEmpty then 0 else 1)<30))=true:=by rfl):
  PE X (.Call (.Attribute a "append" apos) [b] [] pos) (tE S X (.mth .append ca (.cons cb .nil))):=
 (zkI PySem.F.plainAttrs_list FN PySem.F.type_list_append zbC ha (zbd (S:=S) hb zdw hs) hbase hfew hline hs rfl).imp λσ H Q ⟨B,φ,st,ρ,rs,re,h⟩=>by
  erw[ev]at h;refine tE.bind rs re h λx H1 v st1 φ1 s1 rs1 re1 rv h1=>?_;let⟨_,e1,h1⟩:=zeb h1;have t1:∃ws,yF st1 v=AA ws:=by
   erw[yaA]at e1
   cases q:yF st1 v with
   |none=>rw[q]at e1;cases e1
   |some ws=>exact⟨ws,rfl⟩
  let⟨ws,t1⟩:=t1;let⟨l,xs,rfl,hl,_⟩:=zaX rs1 rv t1;refine⟨.inl ⟨rfl,xs,hl⟩,tAs.bind rs1 re1 h1 λys H2 vs st2 φ2 s2 rs2 re2 rvs h2=>?_⟩;have rv2:=rv.step s2;rcases vs with _|⟨w,_|⟨w',t⟩⟩
  .exact h2.elim
  .let⟨y,rfl,rw⟩:=rvs.one;unfold ybK at h2;erw[ydG]at h2;split at h2
   .rename_i n;split at h2
    .rename_i zs hz;split at h2
     .rename_i c;let⟨l',xs',e,hn,hx,lr⟩:=rs2.list rv2 hz
      cases e
      refine⟨l,xs',y,rfl,rfl,hx,by have:=zk7;have:=lr.length;lia,?_⟩;exact h2 _ _ φ2 (.put (A5 hn)) (rs2.put hn ⟨_,zb,(lr.append (by erw[ye];exact⟨y,[],rfl,rw,rfl⟩)).step (.put (A5 hn))⟩) (by erw[yc])
     .exact h2.elim
    .exact h2.elim
   .exact h2.elim
  .exact h2.elim
end
section
variable (S:Se)(X:Cx)
def yay(B:AK->Prop)(φ:Ph)(H:Hp)(f:Fl)(D:Ends):Prop:=
 match f with
 |.nx ρ' st'=>∀σ' H' φ',Step φ H φ' H'->yp X.K S.cl B φ' H' st'->yu X.K S.cl B φ' H' ρ' σ'->D.nx σ' H'
 |.rt v st'=>∀x H' φ',Step φ H φ' H'->yp X.K S.cl B φ' H' st'->yc X.K S.cl B φ' H' v x->D.rt x H'
 |.bk ρ' st'=>∀σ' H' φ',Step φ H φ' H'->yp X.K S.cl B φ' H' st'->yu X.K S.cl B φ' H' ρ' σ'->D.bk σ' H'
 |.ct ρ' st'=>∀σ' H' φ',Step φ H φ' H'->yp X.K S.cl B φ' H' st'->yu X.K S.cl B φ' H' ρ' σ'->D.ct σ' H'
 |.exc k ρ' st'=>∀σ' φ1 H1 e s',Step φ H φ1 H1->yu X.K S.cl B φ1 H1 ρ' σ'->ExcAt S X σ' B φ1 H1 k st' e s'->X.xe e s'
 |.bad=>False
def tS(c:Cs):TS:=λD σ H=>∃B φ st ρ,yp X.K S.cl B φ H st/\yu X.K S.cl B φ H ρ σ/\yay S X B φ H (ex S.call ρ st c) D
def tSs(c:Css):TS:=λD σ H=>∃B φ st ρ,yp X.K S.cl B φ H st/\yu X.K S.cl B φ H ρ σ/\yay S X B φ H (exs S.call ρ st c) D
end
section
variable {S:Se}{X:Cx}{σ:St}{B:AK->Prop}{φ φ1:Ph}{H H1:Hp}{st:SO}{ρ:IC.Env}{D:Ends}{pos p2 px:CG}{a b c o:AY}{ca cb cc:Ce}{s1:Bo}{ss ss':List Bo}{c1:Cs}{cs cs':Css}
theorem yay.on{f:Fl}(s:Step φ H φ1 H1)(h:yay S X B φ H f D):yay S X B φ1 H1 f D:=by
 cases f with
 |nx ρ st=>exact λσ' H' φ' t=>h σ' H' φ' (s.trans t)
 |rt ρ st=>exact λσ' H' φ' t=>h σ' H' φ' (s.trans t)
 |bk ρ st=>exact λσ' H' φ' t=>h σ' H' φ' (s.trans t)
 |ct ρ st=>exact λσ' H' φ' t=>h σ' H' φ' (s.trans t)
 |exc k ρ st=>exact λσ' φ2 H2 e s' t=>h σ' φ2 H2 e s' (s.trans t)
 |bad=>exact h
theorem tE.fl{k:PV->SO->Fl}{P:V->Hp->Prop}(rs:yp X.K S.cl B φ H st)(re:yu X.K S.cl B φ H ρ σ)(h:yay S X B φ H ((ev S.call ρ st ca).fl ρ k) D)
  (n:∀x H1 v st1 φ1,Step φ H φ1 H1->yp X.K S.cl B φ1 H1 st1->yu X.K S.cl B φ1 H1 ρ σ->yc X.K S.cl B φ1 H1 v x->yay S X B φ1 H1 (k v st1) D->P x H1):tE S X ca σ H P:=by
 refine⟨B,φ,st,ρ,rs,re,?_⟩
 cases e:ev S.call ρ st ca with
 |ok v st'=>
  rw[e]at h;exact λx H' φ' s rs' rv=>n x H' v st' φ' s rs' (re.step s) rv (h.on s)
 |exc k st'=>
  rw[e]at h;exact λe s' x=>h σ φ H e s' .rfl re x
 |bad=>rw[e]at h;exact h
theorem PS.imp{t t':TS}(h:PS X s1 t')(k:∀D σ H,t D σ H->t' D σ H):PS X s1 t:=λπ s σ H D I q=>h π s σ H D I (k D σ H q)
theorem PSs.imp{t t':TS}(h:PSs X ss t')(k:∀D σ H,t D σ H->t' D σ H):PSs X ss t:=λπ s σ H D I q=>h π s σ H D I (k D σ H q)
theorem yu.set{K:AE}{cl:Nat->AK}(r:yu K cl B φ H ρ σ)(i:Nat){v:PV}{x:V}(rv:yc K cl B φ H v x):yu K cl B φ H (ρ.set i (AA v)) (σ.set i (AA x)):=by
 refine⟨by rw[Az,Az];exact r.len,λj w e=>?_⟩
 by_cases h:j=i
 .subst h
  by_cases hl:j<ρ.length
  .rw[BM hl]at e
   cases e
   exact⟨x,by rw[BM (by rw[<-r.len];exact hl)],rv⟩
  .rw[BQ (by rw[Az];lia)]at e
   cases e
 .rw[Aq (B0 h)]at e ⊢;exact r.get j w e
def ziM:PSs X [] (tSs S X .nil):=zli.imp λD σ H ⟨B,φ,st,ρ,rs,re,h⟩=>by
 erw[exs]at h;exact h σ H φ .rfl rs re
def zhg(h1:PS X s1 (tS S X c1))(h2:PSs X ss (tSs S X cs)):PSs X (s1::ss) (tSs S X (.cons c1 cs)):=
 (zfs h1 h2).imp λD σ H ⟨B,φ,st,ρ,rs,re,h⟩=>by
  erw[exs]at h;refine⟨B,φ,st,ρ,rs,re,?_⟩
  cases e:ex S.call ρ st c1 with
  |nx ρ1 st1=>
   rw[e]at h;exact λσ' H' φ' s rs' re'=>⟨B,φ',st1,ρ1,rs',re',h.on s⟩
  |rt v st1=>rw[e]at h;exact h
  |bk ρ1 st1=>rw[e]at h;exact h
  |ct ρ1 st1=>rw[e]at h;exact h
  |exc k ρ1 st1=>rw[e]at h;exact h
  |bad=>rw[e]at h;exact h
def zhS(he:PE X a (tE S X ca))(hs:swapsWith a AC pos.line X.env=pure false:=by rfl):PS X (.Expr a pos) (tS S X (.expr ca)):=
 (zha he hs).imp λD σ H ⟨B,φ,st,ρ,rs,re,h⟩=>by
  erw[ex]at h;exact tE.fl rs re h λx H1 v st1 φ1 s rs1 re1 rv h1=>h1 σ H1 φ1 .rfl rs1 re1
def zh5(he:PE X a (tE S X ca)):PS X (.Return (AA a) pos) (tS S X (.ret ca)):=
 (ziF he).imp λD σ H ⟨B,φ,st,ρ,rs,re,h⟩=>by
  erw[ex]at h;exact tE.fl rs re h λx H1 v st1 φ1 s rs1 re1 rv h1=>h1 x H1 φ1 .rfl rs1 rv
def zhm:PS X (.Return AC pos) (tS S X (.ret (.cst .non))):=
 zlj.imp λD σ H ⟨B,φ,st,ρ,rs,re,h⟩=>by
  erw[ex,ev,R.fl]at h;exact h .non H φ .rfl rs (by erw[yc])
def zi3{i:Nat}{x:AW}(hN:X.N.Nodup)(hi:X.N[i]?=AA x)(hx:Loc X.env.scope x)(he:PE X a (tE S X ca))(hs:swapsWith a (AA (.Name x px)) pos.line X.env=pure false:=by rfl)
  (hf:X.fn x=AD \/ X.env.scope.names.lookup x=AA .local:=by first|exact .inl rfl|exact .inr rfl|assumption):PS X (.Assign [.Name x px] a pos) (tS S X (.asg (.n i) ca)):=
 (zjv hN hi hx he hs hf).imp λD σ H ⟨B,φ,st,ρ,rs,re,h⟩=>by
  erw[ex]at h;exact tE.fl rs re h λx H1 v st1 φ1 s rs1 re1 rv h1=>h1 _ H1 φ1 .rfl rs1 (re1.set i rv)
theorem flT(r:R PV)(f:Bool->SO->Fl):(r.fl ρ λx st1=>onF (yaC st1 x) λk=>f k st1)=(yaP r).fl ρ f:=by
 cases r with
 |ok v s=>
  erw[R.fl,yaP,R.bind]
  cases yaC s v<;>rfl
 |exc c s=>rfl
 |bad=>rfl
theorem tTs.fl{k:Bool->SO->Fl}{P:Bool->Hp->Prop}(rs:yp X.K S.cl B φ H st)(re:yu X.K S.cl B φ H ρ σ)(h:yay S X B φ H ((yaP (ev S.call ρ st ca)).fl ρ k) D)
  (n:∀b H1 st1 φ1,Step φ H φ1 H1->yp X.K S.cl B φ1 H1 st1->yu X.K S.cl B φ1 H1 ρ σ->yay S X B φ1 H1 (k b st1) D->P b H1):tTs S X ca σ H P:=by
 refine⟨B,φ,st,ρ,rs,re,?_⟩
 cases e:yaP (ev S.call ρ st ca)with
 |ok v st'=>
  rw[e]at h;exact λx H' φ' s rs' rv=>by
   subst rv;exact n v H' st' φ' s rs' (re.step s) (h.on s)
 |exc k st'=>
  rw[e]at h;exact λe s' x=>h σ φ H e s' .rfl re x
 |bad=>rw[e]at h;exact h
def zku(hc:PT X c (tTs S X cc))(ha:PSs X ss (tSs S X cs))(hb:PSs X ss' (tSs S X cs')):PS X (.If c ss ss' pos) (tS S X (.ite cc cs cs')):=
 (zkn hc ha hb).imp λD σ H ⟨B,φ,st,ρ,rs,re,h⟩=>by
  erw[ex]at h;rw[flT _ λk st1=>cond k (exs S.call ρ st1 cs) (exs S.call ρ st1 cs')]at h;refine tTs.fl rs re h λk H1 st1 φ1 s rs1 re1 h1=>?_
  cases k with
  |true=>exact⟨B,φ1,st1,ρ,rs1,re1,h1⟩
  |false=>exact⟨B,φ1,st1,ρ,rs1,re1,h1⟩
def zir{i:Nat}{x:AW}{op:DG}{bo:BOp}(hN:X.N.Nodup)(hi:X.N[i]?=AA x)(hx:Loc X.env.scope x)(he:PE X a (tE S X ca))(ho:PIp X op (rT2 S X (yaW bo)))
  (hf:X.fn x=AD \/ X.env.scope.names.lookup x=AA .local:=by first|exact .inl rfl|exact .inr rfl|assumption) (hd:(x==("__debug__":AW))=false:=by decide) (hcd:(x==("__classdict__":AW))=false:=by decide):PS X (.AugAssign (.Name x px) op a pos) (tS S X (.aug i bo ca)):=
 (ziY hN hi hx he ho hf).imp λD σ H ⟨B,φ,st,ρ,rs,re,h⟩=>by
  erw[ex]at h
  cases q:ρ[i]? with
  |none=>rw[q]at h;exact h.elim
  |some w=>
   cases w with
   |none=>rw[q]at h;exact h.elim
   |some w=>
    rw[q]at h;let⟨y,hy,rw⟩:=re.get i w q;refine⟨y,hy,tE.fl rs re h λz H1 v st1 φ1 s rs1 re1 rv h1=>?_⟩
    cases e:yaW bo w v with
    |none=>rw[e]at h1;exact h1.elim
    |some u=>
     rw[e]at h1;exact⟨B,φ1,st1,w,v,u,rs1,rw.step s,rv,e,λz' H' φ' s' rs' rz=>h1 _ H' φ' s' rs' ((re1.step s').set i rz)⟩
end
section
variable (S:Se)(X:Cx)
structure Drw(B:AK->Prop)(φ0:Ph)(H0:Hp)(xs:List PV)(J:It):Prop where
 stop:∀φ H,Step φ0 H0 φ H->J.stop xs.length H
 go:∀(i:Nat) φ H,Step φ0 H0 φ H->i<xs.length->J.go i H
 yld:∀(i:Nat) φ H st x H' (B':AK->Prop),(∀y,B' y->B y \/ H0 y=AC)->Step φ0 H0 φ H->yp X.K S.cl B' φ H st->i<xs.length->J.yld i H x H'->∃v,xs[i]?=AA v/\yc X.K S.cl B' φ H' v x/\∀b o,H b=AA o->H' b=AA o
abbrev RD(B:AK->Prop):Ph->Hp->List PV->It->Prop:=λφ H=>Drw S X B φ H
def tI(c:Cit):TI:=λσ H R=>∃B φ st ρ,yp X.K S.cl B φ H st/\yu X.K S.cl B φ H ρ σ/\Run S X σ B φ H (RD S X B) (evi S.call ρ st c) R
end
section
variable {S:Se}{X:Cx}{σ:St}{B:AK->Prop}{φ φ1:Ph}{H H1:Hp}{st:SO}{ρ:IC.Env}{D:Ends}{pos p p2 px:CG}{a b c o tg l:AY}{ca cb cc:Ce}{es:List AY}{ces:Ces}{ss:List Bo}{cs:Css}{ci:Cit}{ct:Tg}
def zhc:PE X a (tE S X .nope):=λπ s σ H Q I ⟨B,φ,st,ρ,rs,re,h⟩=>by
 erw[ev]at h;exact h.elim
def zhW{s1:Bo}:PS X s1 (tS S X .nope):=λπ s σ H D I ⟨B,φ,st,ρ,rs,re,h⟩=>by
 erw[ex]at h;exact h.elim
theorem PI.imp{t t':TI}(h:PI X tg l t')(k:∀σ H R,t σ H R->t' σ H R):PI X tg l t:=λπ s σ H R I q=>h π s σ H R I (k σ H R q)
def zjP{tl:TE}(hl:PE X l tl):PI X tg l (λσ H R=>tl σ H λx H1=>∃a,x=.ref a/\(((∃xs,SqL X.K H1 a xs)/\R (Itl X.K a) H1) \/ ((∃xs,SqT X.K H1 a xs)/\R (Itt X.K a) H1))):=by
 intro π s σ H R I h;refine thn (hl π s σ H _ I h) λv s1 kq=>?_;let⟨x,H1,I1,r1,q1⟩:=kq;let⟨a,e,q1⟩:=q1;subst e
 cases r1
 rcases q1 with⟨⟨xs,hq⟩,q⟩|⟨⟨xs,hq⟩,q⟩
 .let⟨its,rv,p,hz⟩:=I1.list hq;refine GZ p.isList ?_;refine⟨s1.heap.objs.size,[s1.heap.objs.size],_,_,H1,rfl,I1.kept (t':=s1.toks) λb o e=>AL _ e,zee a _,⟨_,AT _ rfl,rfl,rfl⟩,λb hb=>?_,q⟩;have e:b=s1.heap.objs.size:=by simpa using hb
  subst e;exact I1.fpOk (AR _) (I1.hok.fresh (AR _))
 .let⟨its,rv,p,hz⟩:=I1.tuple hq;refine Ca (show s1.heap.IsTuple a its.toArray from p) ?_;refine⟨s1.heap.objs.size,[s1.heap.objs.size],_,_,H1,rfl,I1.kept (t':=s1.toks) λb o e=>AL _ e,zdc a _,⟨_,AT _ rfl,rfl,rfl⟩,λb hb=>?_,q⟩;have e:b=s1.heap.objs.size:=by simpa using hb
  subst e;exact I1.fpOk (AR _) (I1.hok.fresh (AR _))
def zhG{k:Bool}{vs:List PV}{xs:List V}{y:AK}(rt:yby X.K B φ H k y xs)(l:ye X.K S.cl B φ H vs xs):Drw S X B φ H vs (Itt X.K y):=by
 have hl:=l.length;refine⟨λφ' H' s=>⟨xs,(rt.step s).sq,by lia⟩,λi φ' H' s hi=>⟨xs,xs[i]'∅,(rt.step s).sq,by simp[show i<xs.length by lia]⟩,λi φ' H' st x H2 B' hB s rs hi q=>?_⟩;let⟨rfl,q⟩:=q;obtain⟨v,hv⟩:∃v,vs[i]?=AA v:=⟨vs[i],by simp[hi]⟩;let⟨x',hx',rv⟩:=l.get i hv;have:=q xs (rt.step s).sq;rw[this]at hx'
 cases hx'
 exact⟨v,hv,(rv.moreB hB).step s,λ_ _ e=>e⟩
def zhh{vs:List PV}{xs:List V}{y:AK}(rt:yb5 B φ H y xs)(l:ye X.K S.cl B φ H vs xs):Drw S X B φ H vs (Itl X.K y):=by
 have hl:=l.length;refine⟨λφ' H' s=>⟨xs,(rt.step s).sq,by lia⟩,λi φ' H' s hi=>⟨xs,xs[i]'∅,(rt.step s).sq,by simp[show i<xs.length by lia]⟩,λi φ' H' st x H2 B' hB s rs hi q=>?_⟩;let⟨rfl,q⟩:=q;obtain⟨v,hv⟩:∃v,vs[i]?=AA v:=⟨vs[i],by simp[hi]⟩;let⟨x',hx',rv⟩:=l.get i hv;have:=q xs (rt.step s).sq;rw[this]at hx'
 cases hx'
 exact⟨v,hv,(rv.moreB hB).step s,λ_ _ e=>e⟩
def zjK(hl:PE X l (tE S X ca)):PI X tg l (tI S X (.seq ca)):=
 (zjP hl).imp λσ H R ⟨B,φ,st,ρ,rs,re,h⟩=>by
  erw[evi]at h;refine tE.bind rs re h λx H1 v st1 φ1 s1 rs1 re1 rv h1=>?_
  cases v with
  |tp k vs=>
   erw[yc]at rv;let⟨y,xs,rfl,rt,l⟩:=rv;exact⟨y,rfl,.inr ⟨⟨xs,rt.sq⟩,h1.ok rs1 (zhG rt l)⟩⟩
  |lst vs=>
   erw[yc]at rv;let⟨y,xs,rfl,rt,l⟩:=rv;exact⟨y,rfl,.inl ⟨⟨xs,rt.sq⟩,h1.ok rs1 (zhh rt l)⟩⟩
  |_=>exact h1.elim
def z5:∀(n:Nat) (lo d:Int) (i:Nat),(yh n lo d)[i]?=if i<n then AA (.int (lo+i*d))else AC
 |0,lo,d,i=>by simp[yh]
 |n+1,lo,d,0=>by simp[yh]
 |n+1,lo,d,i+1=>by
  erw[yh,A6];rw[z5 n (lo+d) d i]
  by_cases h:i<n
  .rw[if_pos h,if_pos ∅,Int.natCast_succ,Int.add_mul,IE,HW,Hk d]
  .rw[if_neg h,if_neg ∅]
def zr:∀(n:Nat) (lo d:Int),(yh n lo d).length=n
 |0,lo,d=>rfl
 |n+1,lo,d=>by simp[yh,zr n]
def zbO{lo:Int}{n:Nat}:Drw S X B φ H (yh n lo 1) (Itr lo n):=by
 refine⟨λφ' H' s=>by rw[zr];exact AR _,λi φ' H' s hi=>by rw[zr]at hi;exact hi,λi φ' H' st x H2 B' hB s rs hi q=>?_⟩;rw[zr]at hi;let⟨rfl,rfl⟩:=q;refine⟨.int (lo+i),?_,by erw[yc],λ_ _ e=>e⟩;rw[z5,if_pos hi,FX]
def zbc{o:Option (List PV)}{st:SO}{Q:It->Hp->Prop}(h:Run S X σ B φ H (RD S X B) (toL o st) Q):∃xs,o=AA xs/\Run S X σ B φ H (RD S X B) (.ok xs st) Q:=by
 cases o with
 |none=>exact h.elim
 |some z=>exact⟨z,rfl,h⟩
def zdv(hg:Gl X "range")(hm:X.mg "range"=AC)(ha:PE X a (tE S X ca))(hs:starEach [a] X.env=[(AG,eval a X.env)]:=by rfl):PI X tg (.Call (.Name "range" p) [a] [] pos) (tI S X (.range1 ca)):=
 (zdE hg hm (zl ha zkU hs) hs).imp λσ H R ⟨B,φ,st,ρ,rs,re,h⟩=>by
  erw[evi]at h;refine tE.bind rs re h λx H1 v st1 φ1 s1 rs1 re1 rv h1=>?_;let⟨xs,e,h1⟩:=zbc h1
  cases v with
  |int j=>
   erw[ybJ]at e;split at e
   .cases e
    erw[yc]at rv;subst rv;exact⟨j,rfl,by lia,by lia,h1.ok rs1 zbO⟩
   .cases e
  |_=>cases e
def ze9{x y:PV}{xs:List PV}(h:yc2 x y=AA xs):∃i j,x=.int i/\y=.int j/\i.natAbs<1000000000/\j.natAbs<1000000000/\xs=yh (j-i).toNat i 1:=by
 unfold yc2 at h;split at h
 .split at h
  .rename_i c;exact⟨_,_,rfl,rfl,c.1,c.2,(A3 h).symm⟩
  .cases h
 .cases h
def zeV{x y:PV}{xs:List PV}(h:ycX x y=AA xs):∃i j,x=.int i/\y=.int j/\i.natAbs<1000000000/\j.natAbs<1000000000/\xs=yh (i-j).toNat i (-1):=by
 unfold ycX at h;split at h
 .split at h
  .rename_i c;exact⟨_,_,rfl,rfl,c.1,c.2,(A3 h).symm⟩
  .cases h
 .cases h
def zeK(hg:Gl X "range")(hm:X.mg "range"=AC)(ha:PE X a (tE S X ca))(hb:PE X b (tE S X cb))(hs:starEach [a,b] X.env=[(AG,eval a X.env),(AG,eval b X.env)]:=by rfl)(hs2:starEach [b] X.env=[(AG,eval b X.env)]:=by rfl):
  PI X tg (.Call (.Name "range" p) [a,b] [] pos) (tI S X (.range2 ca cb)):=
 (zd9 hg hm (zl ha (zl hb zkU hs2) (by rw[hs,hs2])) hs hs2).imp λσ H R ⟨B,φ,st,ρ,rs,re,h⟩=>by
  erw[evi]at h;refine tE.bind rs re h λx H1 v st1 φ1 s1 rs1 re1 rv h1=>tE.bind rs1 re1 h1 λy H2 w st2 φ2 s2 rs2 re2 rw h2=>?_;let⟨xs,e,h2⟩:=zbc h2;let⟨i,j,rfl,rfl,hi,hj,rfl⟩:=ze9 e;erw[yc]at rv rw;subst rv rw;exact⟨i,j,rfl,⟨by lia,by lia,by lia,by lia⟩,h2.ok rs2 zbO⟩
def zav:∀(xs:List PV) (k i:Nat),(yZ k xs)[i]?=(xs[i]?).map λx=>.tup [.int ((k+i:Nat):Int),x]
 |[],k,i=>by simp[yZ]
 |x::xs,k,0=>by simp[yZ]
 |x::xs,k,i+1=>by
  erw[yZ,A6];rw[zav xs (k+1) i];have:k+1+i=k+(i+1):=by lia
  rw[this]
def zap:∀(xs:List PV) (k:Nat),(yZ k xs).length=xs.length
 |[],k=>rfl
 |x::xs,k=>by simp[yZ,zap xs]
def zfC{k:Bool}{vs:List PV}{xs:List V}{y:AK}(rt:yby X.K B φ H k y xs)(l:ye X.K S.cl B φ H vs xs):Drw S X B φ H (yZ 0 vs) (Ite X.K y):=by
 have hl:=l.length;have hp:=zap vs 0;refine⟨λφ' H' s=>⟨xs,(rt.step s).sq,by lia⟩,λi φ' H' s hi=>⟨xs,xs[i]'∅,(rt.step s).sq,by simp[show i<xs.length by lia]⟩,λi φ' H' st x H2 B' hB s rs hi q=>?_⟩;let⟨T,hT,rfl,q⟩:=q;obtain⟨v,hv⟩:∃v,vs[i]?=AA v:=⟨vs[i]'∅,by simp[show i<vs.length by lia]⟩;let⟨x',hx',rv⟩:=l.get i hv;have e:=q xs x' (rt.step s).sq hx';subst e;refine⟨.tup [.int i,v],?_,.tup_new hT rs ?_,λb o e=>by rw[za (zc e hT)];exact e⟩
 .rw[zav,hv];simp
 .simp only[ye,yc];exact⟨_,_,rfl,rfl,x',[],rfl,(rv.moreB hB).step s,rfl⟩
def zg5{es:List AY}{kk:Nat}{tp:CG}(hg:Gl X "enumerate")(hm:X.mg "enumerate"=AC)(ha:PE X a (tE S X ca))(hs:starEach [a] X.env=[(AG,eval a X.env)]:=by rfl):
  PI X (.Tuple es kk tp) (.Call (.Name "enumerate" p) [a] [] pos) (tI S X (.enum ca)):=
 (ze2 hg hm (zl ha zkU hs) hs).imp λσ H R ⟨B,φ,st,ρ,rs,re,h⟩=>by
  erw[evi]at h;refine tE.bind rs re h λx H1 v st1 φ1 s1 rs1 re1 rv h1=>?_
  cases v with
  |tp k vs=>
   erw[yc]at rv;let⟨y,xs,rfl,rt,l⟩:=rv;exact⟨y,rfl,⟨xs,rt.sq⟩,h1.ok rs1 (zfC rt l)⟩
  |_=>exact h1.elim
def tG(S:Se)(X:Cx)(t:Tg):TG:=λv σ H Q=>∃B φ st ρ w ρ',yp X.K S.cl B φ H st/\yu X.K S.cl B φ H ρ σ/\yc X.K S.cl B φ H w v/\yC t w ρ=AA ρ'/\∀σ',yu X.K S.cl B φ H ρ' σ'->Q σ' H
theorem PG.imp{t t':TG}(h:PG X tg t')(k:∀v σ H Q,t v σ H Q->t' v σ H Q):PG X tg t:=λπ s σ H v u Q I rv q=>h π s σ H v u Q I rv (k v σ H Q q)
def zg9{i:Nat}{x:AW}(hN:X.N.Nodup)(hi:X.N[i]?=AA x)(hx:Loc X.env.scope x)(hf:X.fn x=AD \/ X.env.scope.names.lookup x=AA .local:=by first|exact .inl rfl|exact .inr rfl|assumption):PG X (.Name x pos) (tG S X (.n i)):=
 (zbe hN hi hx hf).imp λv σ H Q ⟨B,φ,st,ρ,w,ρ',rs,re,rv,e,q⟩=>by
  cases e
  exact q _ (re.set i rv)
def gNs(l:List Nat):TGs:=λvs σ H Q=>vs.length=l.length/\Q ((l.zip vs).foldl (λσ p=>σ.set p.1 (AA p.2)) σ) H
theorem PGs.imp{es:List AY}{t t':TGs}(h:PGs X es t')(k:∀v σ H Q,t v σ H Q->t' v σ H Q):PGs X es t:=λπ s σ H vs us Q I rv q=>h π s σ H vs us Q I rv (k vs σ H Q q)
def zgL:PGs X [] (gNs []):=zk5.imp λvs σ H Q ⟨h,q⟩=>by
 cases vs with
 |nil=>exact⟨rfl,q⟩
 |cons _ _=>cases h
def zfK{es:List AY}{l:List Nat}{i:Nat}{x:AW}(hN:X.N.Nodup)(hi:X.N[i]?=AA x)(hx:Loc X.env.scope x)(h2:PGs X es (gNs l))(hf:X.fn x=AD \/ X.env.scope.names.lookup x=AA .local:=by first|exact .inl rfl|exact .inr rfl|assumption):PGs X (.Name x pos::es) (gNs (i::l)):=
 (zbf (zbe hN hi hx hf) h2).imp λvs σ H Q ⟨h,q⟩=>by
  cases vs with
  |nil=>cases h
  |cons v vs=>exact⟨v,vs,rfl,by simpa using h,q⟩
theorem yu.sets{K:AE}{cl:Nat->AK}:∀(l:List Nat) {vs:List PV} {xs:List V} {ρ:IC.Env} {σ:St},yu K cl B φ H ρ σ->ye K cl B φ H vs xs ->
  yu K cl B φ H ((l.zip vs).foldl (λρ p=>ρ.set p.1 (AA p.2)) ρ) ((l.zip xs).foldl (λσ p=>σ.set p.1 (AA p.2)) σ)
 |[],vs,xs,ρ,σ,re,l=>by simpa using re
 |i::is,[],xs,ρ,σ,re,l=>by
  erw[ye]at l;subst l;simpa using re
 |i::is,v::vs,xs,ρ,σ,re,l=>by
  erw[ye]at l;let⟨y,ys,rfl,r,l⟩:=l;erw[EF,Cf];exact yu.sets is (re.set i r) l
def ziG{es:List AY}{l:List Nat}{k:Nat}(hc:X.calm=AD)(h:PGs X es (gNs l))(hn:(assignEach es X.env).length=l.length:=by rfl)(hst:(assignEach es X.env).findIdx? (·.1)=none:=by rfl):PG X (.Tuple es k pos) (tG S X (.t l)):=
 (zgs hc h hn hst).imp λv σ H Q ⟨B,φ,st,ρ,w,ρ',rs,re,rv,e,q⟩=>by
  cases w with
  |tp kk vs=>
   erw[yC]at e;split at e
   .rename_i c
    cases e
    erw[yc]at rv;let⟨y,xs,rfl,rt,lr⟩:=rv;have hl:=lr.length;exact⟨y,xs,rfl,rt.sq,by lia,by lia,q _ (yu.sets l re lr)⟩
   .cases e
  |_=>cases e
def zhT{es:List AY}{l:List Nat}{k:Nat}(he:PE X a (tE S X ca))(hg:PG X (.Tuple es k p2) (tG S X (.t l)))(hs:swapsWithSole [.Tuple es k p2] a pos.line X.env=pure false:=by rfl)(hw:swappedStores [.Tuple es k p2] a X.env=pure none:=by rfl):
  PS X (.Assign [.Tuple es k p2] a pos) (tS S X (.asg (.t l) ca)):=
 (zgp he hg hs hw).imp λD σ H ⟨B,φ,st,ρ,rs,re,h⟩=>by
  erw[ex]at h;refine tE.fl rs re h λx H1 v st1 φ1 s rs1 re1 rv h1=>?_
  cases e:yC (.t l) v ρ with
  |none=>rw[e]at h1;exact h1.elim
  |some ρ'=>
   rw[e]at h1;exact⟨B,φ1,st1,ρ,v,ρ',rs1,re1,rv,e,λσ' re'=>h1 σ' H1 φ1 .rfl rs1 re'⟩
theorem tI.fl{k:List PV->SO->Fl}{P:It->Hp->Prop}(rs:yp X.K S.cl B φ H st)(re:yu X.K S.cl B φ H ρ σ)(h:yay S X B φ H ((evi S.call ρ st ci).fl ρ k) D)
  (n:∀x H1 v st1 φ1,Step φ H φ1 H1->yp X.K S.cl B φ1 H1 st1->yu X.K S.cl B φ1 H1 ρ σ->Drw S X B φ1 H1 v x->yay S X B φ1 H1 (k v st1) D->P x H1):tI S X ci σ H P:=by
 refine⟨B,φ,st,ρ,rs,re,?_⟩
 cases e:evi S.call ρ st ci with
 |ok v st'=>
  rw[e]at h;exact λx H' φ' s rs' rv=>n x H' v st' φ' s rs' (re.step s) rv (h.on s)
 |exc k st'=>
  rw[e]at h;exact λe s' x=>h σ φ H e s' .rfl re x
 |bad=>rw[e]at h;exact h
def zjB(hp:Ee (model X.prog X.w) X.A X.env X.xe)(hc:X.calm=AD)(hi:PI X tg l (tI S X ci))(hg:PG X tg (tG S X ct))(hb:PSs X ss (tSs S X cs))(hs:∀x,foldedSetIterable l X.env x=pure x:=by intro _;rfl):
  PS X (.For tg l ss [] pos) (tS S X (.for ct ci cs)):=
 (zjA hp hc hi hg hb hs).imp λD σ H ⟨B,φ,st,ρ,rs,re,h⟩=>by
  erw[ex]at h;refine tI.fl rs re h λJ H1 xs st1 φ1 s1 rs1 re1 dr h1=>?_;refine⟨λi m σ H=>∃φ st ρ,i+m=xs.length/\Step φ1 H1 φ H/\yp X.K S.cl B φ H st/\yu X.K S.cl B φ H ρ σ/\yay S X B φ H (forL ct (λρ2 st2=>exs S.call ρ2 st2 cs) (xs.drop i) ρ st) D,
   ⟨xs.length,φ1,st1,ρ,by lia,.rfl,rs1,re1,by simpa using h1⟩,?_⟩
  rintro i m σ2 H2 ⟨φ2,st2,ρ2,hm,s2,rs2,re2,h2⟩
  by_cases hi:i<xs.length
  .refine .inr ⟨dr.go i φ2 H2 s2 hi,λσ' H'=>∃φ st ρ,Step φ1 H1 φ H'/\yp X.K S.cl B φ H' st/\yu X.K S.cl B φ H' ρ σ'/\yay S X B φ H' (forL ct (λρ2 st2=>exs S.call ρ2 st2 cs) (xs.drop (i+1)) ρ st) D,
    λσ' H' ⟨φ,st,ρ,s,q⟩=>⟨m-1,by lia,φ,st,ρ,by lia,s,q⟩,λx H3 hy=>?_⟩
   let⟨v,hv,rv,kk⟩:=dr.yld i φ2 H2 st2 x H3 B (λ_ z=>.inl z) s2 rs2 hi hy;have e:xs.drop i=v::xs.drop (i+1):=by
    rw[EQ hi];rw[BO hi]at hv;rw[A3 hv]
   have s3:Step φ2 H2 φ2 H3:=⟨λb o _ e=>kk b o e,AR _,λ_ _ _ e=>e,λ_ h=>.inl h⟩;have rs3:yp X.K S.cl B φ2 H3 st2:=rs2.same kk;rw[e,forL]at h2
   cases eb:yC ct v ρ2 with
   |none=>rw[eb]at h2;exact h2.elim
   |some ρ3=>
    rw[eb]at h2;refine⟨B,φ2,st2,ρ2,v,ρ3,rs3,re2.step s3,rv,eb,λσ' re'=>⟨B,φ2,st2,ρ3,rs3,re',?_⟩⟩;have h3:=yay.on s3 h2;dsimp only at h3
    cases ee:exs S.call ρ3 st2 cs with
    |nx ρ4 st4=>
     rw[ee]at h3;exact λσ4 H4 φ4 s4 rs4 re4=>⟨φ4,st4,ρ4,s2.trans (s3.trans s4),rs4,re4,yay.on s4 h3⟩
    |ct ρ4 st4=>
     rw[ee]at h3;exact λσ4 H4 φ4 s4 rs4 re4=>⟨φ4,st4,ρ4,s2.trans (s3.trans s4),rs4,re4,yay.on s4 h3⟩
    |bk ρ4 st4=>rw[ee]at h3;exact h3
    |rt v4 st4=>rw[ee]at h3;exact h3
    |exc k ρ4 st4=>rw[ee]at h3;exact h3
    |bad=>rw[ee]at h3;exact h3
  .have e:i=xs.length:=by lia
   subst e;rw[Gf,forL]at h2;exact .inl ⟨dr.stop φ2 H2 s2,h2 σ2 H2 φ2 .rfl rs2 re2⟩
def zfp(hp:Ee (model X.prog X.w) X.A X.env X.xe)(hc:PT X c (tTs S X cc))(hb:PSs X ss (tSs S X cs)):PS X (.While c ss [] pos) (tS S X (.while cc cs)):=
 (ze7 hp hc hb).imp λD σ H ⟨B,φ,st,ρ,rs,re,h⟩=>by
  erw[ex]at h;refine⟨λm σ H=>∃φ st ρ,yp X.K S.cl B φ H st/\yu X.K S.cl B φ H ρ σ/\yay S X B φ H (yar (λρ2 st2=>ev S.call ρ2 st2 cc) (λρ2 st2=>exs S.call ρ2 st2 cs) m ρ st) D,⟨100000,φ,st,ρ,rs,re,h⟩,?_⟩
  rintro m σ2 H2 ⟨φ2,st2,ρ2,rs2,re2,h2⟩
  cases m with
  |zero=>exact h2.elim
  |succ m=>
   rw[yar]at h2;rw[flT _ λk st1=>cond k (yah (exs S.call ρ2 st1 cs) λρ2 st2=>yar (λρ2 st2=>ev S.call ρ2 st2 cc) (λρ2 st2=>exs S.call ρ2 st2 cs) m ρ2 st2) (.nx ρ2 st1)]at h2;refine tTs.fl rs2 re2 h2 λk H3 st3 φ3 s3 rs3 re3 h3=>?_
   cases k with
   |false=>exact h3 σ2 H3 φ3 .rfl rs3 re3
   |true=>
    refine⟨λσ' H'=>∃φ st ρ,yp X.K S.cl B φ H' st/\yu X.K S.cl B φ H' ρ σ'/\yay S X B φ H' (yar (λρ2 st2=>ev S.call ρ2 st2 cc) (λρ2 st2=>exs S.call ρ2 st2 cs) m ρ st) D,
     λσ' H' q=>⟨m,by lia,q⟩,B,φ3,st3,ρ2,rs3,re3,?_⟩
    erw[cond_true]at h3
    cases ee:exs S.call ρ2 st3 cs with
    |nx ρ4 st4=>
     rw[ee]at h3;exact λσ4 H4 φ4 s4 rs4 re4=>⟨φ4,st4,ρ4,rs4,re4,yay.on s4 h3⟩
    |ct ρ4 st4=>
     rw[ee]at h3;exact λσ4 H4 φ4 s4 rs4 re4=>⟨φ4,st4,ρ4,rs4,re4,yay.on s4 h3⟩
    |bk ρ4 st4=>rw[ee]at h3;exact h3
    |rt v4 st4=>rw[ee]at h3;exact h3
    |exc k ρ4 st4=>rw[ee]at h3;exact h3
    |bad=>rw[ee]at h3;exact h3
end
end L2
namespace IC
open PySem
def RLe{α:Type}(r q:R α):Prop:=r=.bad \/ r=q
def FLe(f g:Fl):Prop:=f=.bad \/ f=g
abbrev Cl:=Nat->List PV->SO->R PV
theorem RLe.rfl{α:Type}{r:R α}:RLe r r:=.inr (Gy _)
theorem FLe.rfl{f:Fl}:FLe f f:=.inr (Gy _)
theorem RLe.bind{α β:Type}{r q:R α}{k l:α->SO->R β}(h:RLe r q)(hk:∀a s,RLe (k a s) (l a s)):RLe (r.bind k) (q.bind l):=by
 rcases h with h|h
 .subst h;exact .inl (Gy _)
 .subst h
  cases r with
  |ok a s=>exact hk a s
  |exc c s=>exact .rfl
  |bad=>exact .rfl
theorem RLe.comp{r q:R (List PV)}(h:RLe r q):RLe (ybD r) (ybD q):=by
 rcases h with h|h
 .subst h;exact .inl (Gy _)
 .subst h;exact .rfl
def ya4(call:Cl)(t:Tg)(b:Css)(xs:List PV)(ρ:Env)(st:SO):Fl:=forL t (λρ2 st2=>exs call ρ2 st2 b) xs ρ st
def yaG(call:Cl)(c:Ce)(b:Css)(n:Nat)(ρ:Env)(st:SO):Fl:=yar (λρ2 st2=>ev call ρ2 st2 c) (λρ2 st2=>exs call ρ2 st2 b) n ρ st
def yaL(call:Cl)(ρ0:Env)(t:Tg)(c e:Ce)(x:PV)(st2:SO):R (Option PV):=match yC t x ρ0 with
 |none=>.bad
 |some ρ1=>(ev call ρ1 st2 c).bind λb st3=>onO (yaC st3 b) λk=>cond k ((ev call ρ1 st3 e).bind λy st4=>.ok (AA y) st4) (.ok AC st3)
def yS(call:Cl)(ρ0:Env)(t:Tg)(c e:Ce)(xs:List PV)(st:SO):R (List PV):=ybO (yaL call ρ0 t c e) xs st
def yaq(f:Fl)(k:Env->SO->Fl):Fl:=
 match f with
 |.nx ρ st=>k ρ st
 |f=>f
def nxO(o:Option Env)(st:SO):Fl:=
 match o with
 |some ρ=>.nx ρ st
 |none=>.bad
def stO(ρ:Env)(o:Option SO):Fl:=
 match o with
 |some st=>.nx ρ st
 |none=>.bad
section
variable {call:Cl}{ρ:Env}{st:SO}
theorem x_for{t:Tg}{it:Cit}{b:Css}:ex call ρ st (.for t it b)=(evi call ρ st it).fl ρ λxs st1=>ya4 call t b xs ρ st1:=rfl
def zgH{c:Ce}{b:Css}:ex call ρ st (.while c b)=yaG call c b 100000 ρ st:=rfl
theorem v_comp{sl:List (Option Nat)}{t:Tg}{it:Cit}{c e:Ce}:ev call ρ st (.comp sl t it c e)=(evi call ρ st it).bind λxs st1=>ybD (yS call (sl.map λo=>o.bind λj=>(ρ[j]?).join) t c e xs st1):=rfl
def zfT{t:Tg}{b:Css}:ya4 call t b [] ρ st=.nx ρ st:=rfl
def zh{t:Tg}{b:Css}{x:PV}{xs:List PV}{ρ1:Env}(h:yC t x ρ=AA ρ1):ya4 call t b (x::xs) ρ st=yah (exs call ρ1 st b) λρ2 st2=>ya4 call t b xs ρ2 st2:=by
 rw[ya4,forL,h];rfl
def zak{t:Tg}{b:Css}(P:Nat->Env->SO->Prop):∀(xs:List PV) (i:Nat) (ρ:Env) (st:SO),P i ρ st ->
  (∀(j:Nat) (x:PV) (ρ:Env) (st:SO),xs[j]?=AA x->P (i+j) ρ st->∃ρ1 ρ2 st2,yC t x ρ=AA ρ1/\exs call ρ1 st b=.nx ρ2 st2/\P (i+j+1) ρ2 st2) ->
  ∃ρ' st',ya4 call t b xs ρ st=.nx ρ' st'/\P (i+xs.length) ρ' st'
 |[],i,ρ,st,h,_=>⟨ρ,st,zfT,h⟩
 |x::xs,i,ρ,st,h,k=>by
  let⟨ρ1,ρ2,st2,e1,e2,h2⟩:=k 0 x ρ st rfl h;let⟨ρ',st',e3,h3⟩:=zak P xs (i+1) ρ2 st2 h2 λj y ρ st hy hp=>by
   have:=k (j+1) y ρ st (by simpa using hy) (by rw[show i+(j+1)=i+1+j by lia];exact hp);rw[show i+(j+1)+1=i+1+j+1 by lia]at this;exact this
  refine⟨ρ',st',?_,by rw[AO,show i+(xs.length+1)=i+1+xs.length by lia];exact h3⟩;rw[zh e1,e2];exact e3
def zdm{c:Ce}{b:Css}{n:Nat}{x:PV}{st1 st2:SO}{ρ2:Env}(h:ev call ρ st c=.ok x st1)(ht:yaC st1 x=AA AD)(hb:exs call ρ st1 b=.nx ρ2 st2):yaG call c b (n+1) ρ st=yaG call c b n ρ2 st2:=by
 rw[yaG,yar,h];erw[R.fl,ht,onF,cond_true,hb,yah];rfl
def zb1{c:Ce}{b:Css}{n:Nat}{x:PV}{st1:SO}(h:ev call ρ st c=.ok x st1)(ht:yaC st1 x=AA AG):yaG call c b (n+1) ρ st=.nx ρ st1:=by
 rw[yaG,yar,h];erw[R.fl,ht,onF,cond_false]
def zbE{ρ0:Env}{t:Tg}{c e:Ce}:yS call ρ0 t c e [] st=.ok [] st:=rfl
def zf{ρ0:Env}{t:Tg}{c e:Ce}{x:PV}{xs:List PV}:yS call ρ0 t c e (x::xs) st=(yaL call ρ0 t c e x st).bind λo st1=>(yS call ρ0 t c e xs st1).bind λys st2=>.ok (yck o ys) st2:=rfl
def zby{ρ0:Env}{t:Tg}{c e:Ce}{f:PV->PV}:∀(xs:List PV),(∀x∈xs,yaL call ρ0 t c e x st=.ok (AA (f x)) st)->yS call ρ0 t c e xs st=.ok (xs.map f) st
 |[],_=>zbE
 |x::xs,h=>by
  rw[zf,h x A0];erw[R.bind];rw[zby xs λy hy=>h y (AN _ hy)];rfl
theorem xs_nil:exs call ρ st .nil=.nx ρ st:=rfl
theorem xs_cons{s:Cs}{ss:Css}:exs call ρ st (.cons s ss)=yaq (ex call ρ st s) λρ1 st1=>exs call ρ1 st1 ss:=rfl
theorem x_asg{t:Tg}{e:Ce}:ex call ρ st (.asg t e)=(ev call ρ st e).fl ρ λv st1=>nxO (yC t v ρ) st1:=rfl
theorem x_expr{e:Ce}:ex call ρ st (.expr e)=(ev call ρ st e).fl ρ λ_ st1=>.nx ρ st1:=rfl
theorem x_ret{e:Ce}:ex call ρ st (.ret e)=(ev call ρ st e).fl ρ λv st1=>.rt v st1:=rfl
theorem x_ite{c:Ce}{a b:Css}:ex call ρ st (.ite c a b)=(ev call ρ st c).fl ρ λx st1=>onF (yaC st1 x) λk=>cond k (exs call ρ st1 a) (exs call ρ st1 b):=rfl
theorem x_six{o i e:Ce}:ex call ρ st (.six o i e)=(ev call ρ st e).fl ρ λv st1=>(ev call ρ st1 o).fl ρ λx st2=>(ev call ρ st2 i).fl ρ λy st3=>stO ρ (ybd st3 x y v):=rfl
def zki{c:Nat}{o e:Ce}{f:AW}:ex call ρ st (.sfl c o f e)=(ev call ρ st e).fl ρ λv st1=>(ev call ρ st1 o).fl ρ λx st2=>stO ρ (ybQ c st2 x f v):=rfl
def zej{o i e:Ce}:ex call ρ st (.dput o i e)=(ev call ρ st e).fl ρ λv st1=>(ev call ρ st1 o).fl ρ λx st2=>(ev call ρ st2 i).fl ρ λy st3=>stO ρ (ya8 st3 x y v):=rfl
def zh0{i:Nat}{o:BOp}{e:Ce}{x:PV}(h:ρ[i]?=AA (AA x)):ex call ρ st (.aug i o e)=(ev call ρ st e).fl ρ λy st1=>nxO ((yaW o x y).map λz=>ρ.set i (AA z)) st1:=by
 rw[ex,h];show (ev call ρ st e).fl ρ _=_;refine congrArg _ (funext λy=>funext λst1=>?_)
 cases yaW o x y<;>rfl
end
theorem ve1(call:Nat->List PV->SO->R PV)(ρ:Env)(st:SO)(v:PV):
  ev call ρ st (Ce.cst v)=R.ok v st:=rfl
theorem ve2(call:Nat->List PV->SO->R PV)(ρ:Env)(st:SO)(i:Nat):
  ev call ρ st (Ce.var i) =
  match ρ[i]? with
  |some (AA v)=>R.ok v st
  |x=>R.bad:=rfl
theorem ve3(call:Nat->List PV->SO->R PV)(ρ:Env)(st:SO)(o:BOp)(a b:Ce):
  ev call ρ st (Ce.bin o a b)=R.bind (ev call ρ st a) λx st1=>R.bind (ev call ρ st1 b) λy st2=>toR (yr o x y) st2:=rfl
theorem ve4(call:Nat->List PV->SO->R PV)(ρ:Env)(st:SO)(a:Ce):
  ev call ρ st (Ce.neg a) =
  R.bind (ev call ρ st a) λx st1=>
   match x with
   |PV.int i=>R.ok (PV.int (-i)) st1
   |x=>R.bad:=rfl
theorem ve5(call:Nat->List PV->SO->R PV)(ρ:Env)(st:SO)(a:Ce):
  ev call ρ st (Ce.not a)=R.bind (ev call ρ st a) λx st1=>onBl x λk=>R.ok (PV.bl !k) st1:=rfl
theorem ve6(call:Nat->List PV->SO->R PV)(ρ:Env)(st:SO)(a b:Ce):
  ev call ρ st (Ce.and a b)=R.bind (ev call ρ st a) λx st1=>onBl x λk=>bif k then ev call ρ st1 b else R.ok (PV.bl AG) st1:=rfl
theorem ve7(call:Nat->List PV->SO->R PV)(ρ:Env)(st:SO)(a b:Ce):
  ev call ρ st (Ce.or a b)=R.bind (ev call ρ st a) λx st1=>onBl x λk=>bif k then R.ok (PV.bl AD) st1 else ev call ρ st1 b:=rfl
theorem ve8(call:Nat->List PV->SO->R PV)(ρ:Env)(st:SO)(o:COp)(a b:Ce):
  ev call ρ st (Ce.cmp o a b)=R.bind (ev call ρ st a) λx st1=>R.bind (ev call ρ st1 b) λy st2=>toR (yw o x y) st2:=rfl
theorem ve9(call:Nat->List PV->SO->R PV)(ρ:Env)(st:SO)(o p:COp)(a b c:Ce):
  ev call ρ st (Ce.chain o p a b c)=R.bind (ev call ρ st a) λx st1=>R.bind (ev call ρ st1 b) λy st2=>onO (blO (yw o x y)) λk=>bif k then R.bind (ev call ρ st2 c) λz st3=>toR (yw p y z) st3 else R.ok (PV.bl AG) st2:=rfl
theorem ve10(call:Nat->List PV->SO->R PV)(ρ:Env)(st:SO)(c a b:Ce):
  ev call ρ st (Ce.ite c a b)=R.bind (ev call ρ st c) λx st1=>onO (yaC st1 x) λk=>bif k then ev call ρ st1 a else ev call ρ st1 b:=rfl
theorem ve11(call:Nat->List PV->SO->R PV)(ρ:Env)(st:SO)(es:Ces):
  ev call ρ st (Ce.tup es)=R.bind (evs call ρ st es) λvs st1=>if Bk vs<=sizeMax then R.ok (PV.tup vs) st1 else R.bad:=rfl
theorem ve12(call:Nat->List PV->SO->R PV)(ρ:Env)(st:SO)(es:Ces):
  ev call ρ st (Ce.lst es)=R.bind (evs call ρ st es) λvs st1=>if Bk vs<=sizeMax then R.ok (PV.lst vs) st1 else R.bad:=rfl
theorem ve13(call:Nat->List PV->SO->R PV)(ρ:Env)(st:SO)(es:Ces):
  ev call ρ st (Ce.newl es)=R.bind (evs call ρ st es) λvs st1=>if Bk vs<=sizeMax then R.ok (PV.loc (Bk st1)) (st1++[Ob.lst vs])else R.bad:=rfl
theorem ve15(call:Nat->List PV->SO->R PV)(ρ:Env)(st:SO)(t:Bool):
  ev call ρ st (Ce.dict0 t)=R.ok (PV.loc (Bk st)) (st++[Ob.dct t []]):=rfl
theorem ve16(call:Nat->List PV->SO->R PV)(ρ:Env)(st:SO)(a i:Ce):
  ev call ρ st (Ce.idx a i)=R.bind (ev call ρ st a) λx st1=>R.bind (ev call ρ st1 i) λy st2=>toR (idxV st2 x y) st2:=rfl
theorem ve17(call:Nat->List PV->SO->R PV)(ρ:Env)(st:SO)(a l h:Ce):
  ev call ρ st (Ce.slc a l h)=R.bind (ev call ρ st a) λx st1=>R.bind (ev call ρ st1 l) λy st2=>onP (yaV y) λo=>R.bind (ev call ρ st2 h) λz st3=>toR (ya7 x o z) st3:=rfl
theorem ve18(call:Nat->List PV->SO->R PV)(ρ:Env)(st:SO)(f:Nat)(es:Ces):
  ev call ρ st (Ce.call f es)=R.bind (evs call ρ st es) λvs st1=>call f vs st1:=rfl
theorem ve19(call:Nat->List PV->SO->R PV)(ρ:Env)(st:SO)(b:Blt)(es:Ces):
  ev call ρ st (Ce.blt b es)=R.bind (evs call ρ st es) λvs st1=>toR (yaa b st1 vs) st1:=rfl
theorem ve20(call:Nat->List PV->SO->R PV)(ρ:Env)(st:SO)(m:Mth)(o:Ce)(es:Ces):
  ev call ρ st (Ce.mth m o es)=R.bind (ev call ρ st o) λx st1=>onO (yaA m st1 x) λx_1=>R.bind (evs call ρ st1 es) λvs st2=>ybK m st2 x vs:=rfl
theorem ve21(call:Nat->List PV->SO->R PV)(ρ:Env)(st:SO)(a:Ce)(ts:List Ty):
  ev call ρ st (Ce.isi a ts)=R.bind (ev call ρ st a) λx st1=>toR (ybs x ts) st1:=rfl
theorem ve24(call:Nat->List PV->SO->R PV)(ρ:Env)(st:SO):
  ev call ρ st Ce.nope=R.bad:=rfl
theorem ve32(call:Nat->List PV->SO->R PV)(ρ:Env)(st:SO)(c:Nat)(a:Ce)(f:AW):
  ev call ρ st (Ce.fld c a f)=R.bind (ev call ρ st a) λx st1=>toR (ya3 c st1 x f) st1:=rfl
theorem ve33(call:Nat->List PV->SO->R PV)(ρ:Env)(st:SO)(c i:Nat)(es:Ces):
  ev call ρ st (Ce.new c i es)=R.bind (evs call ρ st es) λvs st1=>R.bind (ybh (call i (PV.loc (Bk st1)::vs) (st1++[Ob.ins c []]))) λv st2=>newV (Bk st1) v st2:=rfl
theorem ve45(call:Nat->List PV->SO->R PV)(ρ:Env)(st:SO)(a:Ce):
  ev call ρ st (Ce.dof a)=R.bind (ev call ρ st a) λx st1=>ycm st1 x:=rfl
theorem ve49(call:Nat->List PV->SO->R PV)(ρ:Env)(st:SO)(i:Nat):
  ev call ρ st (Ce.itm i)=ycU st ρ[i]?:=rfl
theorem ve50(call:Nat->List PV->SO->R PV)(ρ:Env)(st:SO)(a:Ce):
  ev call ρ st (Ce.lsk a)=R.bind (ev call ρ st a) λx st1=>toR (ycI st1 x) st1:=rfl
theorem ve51(call:Nat->List PV->SO->R PV)(ρ:Env)(st:SO)(a:Ce):
  ev call ρ st (Ce.lnd a)=R.bind (ev call ρ st a) λx st1=>toR (ycx st1 x) st1:=rfl
end IC
namespace L2
open PySem PySem.Spec PyProof.Rows IC
section
variable (S:Se)(K:AE)
def yee{α β:Type}(B:AK->Prop)(φ:Ph)(H:Hp)(Rel:Ph->Hp->α->β->Prop)(r:R α)(Q:β->Hp->Prop):Prop:=
 match r with
 |.ok v st'=>∀x H' φ',Step φ H φ' H'->yp K S.cl B φ' H' st'->Rel φ' H' v x->Q x H'
 |_=>False
def tE0(c:Ce):TE:=λσ H Q=>∃B φ st ρ,yp K S.cl B φ H st/\yu K S.cl B φ H ρ σ/\yee S K B φ H (λφ H=>yc K S.cl B φ H) (ev S.call ρ st c) Q
def tT0(c:Ce):TT:=λσ H Q=>∃B φ st ρ,yp K S.cl B φ H st/\yu K S.cl B φ H ρ σ/\yee S K B φ H RB (yaP (ev S.call ρ st c)) Q
def tG0(t:Tg):TG:=λv σ H Q=>∃B φ st ρ w ρ',yp K S.cl B φ H st/\yu K S.cl B φ H ρ σ/\yc K S.cl B φ H w v/\yC t w ρ=AA ρ'/\∀σ',yu K S.cl B φ H ρ' σ'->Q σ' H
end
section
variable {S:Se}{X:Cx}{K:AE}{cl:Nat->AK}{σ:St}{B:AK->Prop}{φ φ1:Ph}{H H1:Hp}{st:SO}{ρ:IC.Env}{pos p p2 px:CG}{a b c o tg l elt iter:AY}{ca cb cc ce:Ce}{ci:Cit}{ct:Tg}
def zhQ(hK:X.K=K)(h:PE X a (tE S X ca)):PE X a (tE0 S K ca):=by
 subst hK;refine h.imp λσ H Q kq=>?_;let⟨B,φ,st,ρ,rs,re,q⟩:=kq;refine ⟨B,φ,st,ρ,rs,re,?_⟩
 cases e:ev S.call ρ st ca with
 |ok v st'=>rw[e]at q;exact q
 |exc k st'=>rw[e]at q;exact q.elim
 |bad=>rw[e]at q;exact q
def zhF(hK:X.K=K)(h:PT X a (tTs S X ca)):PTs X [a] (tT0 S K ca):=by
 subst hK;refine zgx (h.imp λσ H Q kq=>?_);let⟨B,φ,st,ρ,rs,re,q⟩:=kq;refine ⟨B,φ,st,ρ,rs,re,?_⟩
 cases e:yaP (ev S.call ρ st ca)with
 |ok v st'=>rw[e]at q;exact q
 |exc k st'=>rw[e]at q;exact q.elim
 |bad=>rw[e]at q;exact q
def zeZ:PTs X [] (tT0 S K (.cst (.bl AD))):=λπ s σ H Q I ⟨B,φ,st,ρ,rs,re,q⟩=>by
 refine zds π s σ H Q I ?_;erw[ev,yaP,R.bind,yaC,onO]at q;exact q AD H φ .rfl rs rfl
def zhV(hK:X.K=K)(h:PG X tg (tG S X ct)):PG X tg (tG0 S K ct):=by
 subst hK;exact h
theorem yby.skip{k:Bool}{D y:AK}{u:HO}{xs:List V}(hD:B D)(r:yby K B φ H k y xs):yby K B φ (L2.upd H D u) k y xs:=by
 rcases r with⟨r,b,n⟩|r
 .exact .inl ⟨by rw[za (show y≠D from λz=>b (z ▸ hD))];exact r,b,n⟩
 .exact .inr r
mutual
theorem yc.skip{D:AK}{u:HO}(hD:B D):∀(v:PV) (x:V),yc K cl B φ H v x->yc K cl B φ (L2.upd H D u) v x
 |.non,x,h=>by erw[yc]at h ⊢;exact h
 |.bl b,x,h=>by erw[yc]at h ⊢;exact h
 |.int i,x,h=>by erw[yc]at h ⊢;exact h
 |.str y,x,h=>by erw[yc]at h ⊢;exact h
 |.tp k vs,x,h=>by
  erw[yc]at h ⊢;let⟨y,xs,e,r,l⟩:=h;exact⟨y,xs,e,r.skip hD,ye.skip hD vs xs l⟩
 |.lst vs,x,h=>by
  erw[yc]at h ⊢;let⟨y,xs,e,⟨r,b,n⟩,l⟩:=h;exact⟨y,xs,e,⟨by rw[za (show y≠D from λz=>b (z ▸ hD))];exact r,b,n⟩,ye.skip hD vs xs l⟩
 |.loc n,x,h=>by erw[yc]at h ⊢;exact h
 |.fnc j,x,h=>by erw[yc]at h ⊢;exact h
 |.exn c,x,h=>by
  erw[yc]at h ⊢;let⟨y,e,r,b,n⟩:=h;exact⟨y,e,by rw[za (show y≠D from λz=>b (z ▸ hD))];exact r,b,n⟩
 |.scr vs,x,h=>by
  erw[yc]at h ⊢;let⟨y,xs,e,r,l⟩:=h;refine⟨y,xs,e,?_,ye.skip hD vs xs l⟩;rcases r with⟨r,b,n⟩|r
  .refine .inl ⟨?_,b,n⟩;have ne:y≠D:=λz=>b (z ▸ hD);rcases r with r|⟨o,r⟩
   .exact .inl (by rw[za ne];exact r)
   .exact .inr ⟨o,by rw[za ne];exact r⟩
  .exact .inr r
theorem ye.skip{D:AK}{u:HO}(hD:B D):∀(v:List PV) (x:List V),ye K cl B φ H v x->ye K cl B φ (L2.upd H D u) v x
 |[],x,h=>by erw[ye]at h ⊢;exact h
 |v::vs,x,h=>by
  erw[ye]at h ⊢;let⟨y,ys,e,r,l⟩:=h;exact⟨y,ys,e,yc.skip hD v y r,ye.skip hD vs ys l⟩
end
theorem DK.skip{D:AK}{u:HO}(hD:B D):∀{kvs:List (PV×PV)} {ks:List (Key×V)},DK K cl B φ H kvs ks->DK K cl B φ (L2.upd H D u) kvs ks
 |[],ks,h=>h
 |(k,v)::r,ks,h=>by
  let⟨q,x,t,e,m,rv,l⟩:=h;exact⟨q,x,t,e,m,rv.skip hD,DK.skip hD l⟩
theorem DT.skip{D:AK}{u:HO}(hD:B D):∀{kvs:List (PV×PV)} {ks:List (List NK×V)},DT K cl B φ H kvs ks->DT K cl B φ (L2.upd H D u) kvs ks
 |[],ks,h=>h
 |(k,v)::r,ks,h=>by
  let⟨q,x,t,e,m,rv,l⟩:=h;exact⟨q,x,t,e,m,rv.skip hD,DT.skip hD l⟩
theorem FS.skip{D:AK}{u:HO}(hD:B D):∀{kvs:List (AW×PV)} {ks:List (AW×V)},FS K cl B φ H kvs ks->FS K cl B φ (L2.upd H D u) kvs ks
 |[],ks,h=>h
 |(k,v)::r,ks,h=>by
  let⟨x,t,e,rv,l⟩:=h;exact⟨x,t,e,rv.skip hD,FS.skip hD l⟩
theorem yp.skip{D:AK}{u:HO}(hD:B D)(rs:yp K cl B φ H st)(hu:∀xs,u ≠ .tup xs:=by intro _ z;cases z):yp K cl B φ (L2.upd H D u) st:=by
 refine⟨rs.len,rs.inj,λn y e=>?_,rs.liv,rs.nb,λy h=>?_,λy h xs e=>?_⟩
 .let⟨o,q,r⟩:=rs.obj n y e;have ne:y≠D:=λz=>rs.nb y (A5 e) (z ▸ hD);refine⟨o,q,?_⟩
  cases o with
  |lst vs=>
   let⟨xs,hx,l⟩:=r;exact⟨xs,by rw[za ne];exact hx,l.skip hD⟩
  |dct t kvs=>
   cases t with
   |false=>
    let⟨xs,hx,l⟩:=r;exact⟨xs,by rw[za ne];exact hx,l.skip hD⟩
   |true=>
    let⟨xs,hx,l⟩:=r;exact⟨xs,by rw[za ne];exact hx,l.skip hD⟩
  |ins c fs=>
   let⟨ks,⟨dx,hx⟩,l⟩:=r;exact⟨ks,⟨dx,by rw[za ne];exact hx⟩,l.skip hD⟩
  |dead=>exact r.elim
 .by_cases z:y=D
  .subst z;exact⟨u,zb⟩
  .let⟨w,e⟩:=rs.dom y h;exact⟨w,by rw[za z];exact e⟩
 .by_cases z:y=D
  .subst z;rw[zb]at e;exact hu xs (A3 e)
  .rw[za z]at e;exact rs.nt y h xs e
theorem yu.skip{D:AK}{u:HO}(hD:B D)(re:yu K cl B φ H ρ σ):yu K cl B φ (L2.upd H D u) ρ σ:=⟨re.len,λi v e=>by
 let⟨x,h,q⟩:=re.get i v e;exact⟨x,h,q.skip hD⟩⟩
def Bx(B:AK->Prop)(D:AK):AK->Prop:=λy=>B y \/ y=D
def zeE{D:AK}(hn:H D=AC):∀y,Bx B D y->B y \/ H y=none:=λy z=>z.elim .inl λq=>.inr (q ▸ hn)
theorem yc.more{D:AK}(hn:H D=AC){v:PV}{x:V}(h:yc K cl B φ H v x):yc K cl (Bx B D) φ H v x:=h.moreB (zeE hn)
theorem ye.more{D:AK}(hn:H D=AC){v:List PV}{x:List V}(h:ye K cl B φ H v x):ye K cl (Bx B D) φ H v x:=h.moreB (zeE hn)
mutual
theorem yc.less{D:AK}:∀(v:PV) (x:V),yc K cl (Bx B D) φ H v x->yc K cl B φ H v x
 |.non,x,h=>by erw[yc]at h ⊢;exact h
 |.bl b,x,h=>by erw[yc]at h ⊢;exact h
 |.int i,x,h=>by erw[yc]at h ⊢;exact h
 |.str y,x,h=>by erw[yc]at h ⊢;exact h
 |.tp k vs,x,h=>by
  erw[yc]at h ⊢;let⟨y,xs,e,r,l⟩:=h;refine⟨y,xs,e,?_,ye.less vs xs l⟩;rcases r with⟨r,b,n⟩|r
  .exact .inl ⟨r,λz=>b (.inl z),n⟩
  .exact .inr r
 |.lst vs,x,h=>by
  erw[yc]at h ⊢;let⟨y,xs,e,⟨r,b,n⟩,l⟩:=h;exact⟨y,xs,e,⟨r,λz=>b (.inl z),n⟩,ye.less vs xs l⟩
 |.loc n,x,h=>by erw[yc]at h ⊢;exact h
 |.fnc j,x,h=>by erw[yc]at h ⊢;exact h
 |.exn c,x,h=>by
  erw[yc]at h ⊢;let⟨y,e,r,b,n⟩:=h;exact⟨y,e,r,λz=>b (.inl z),n⟩
 |.scr vs,x,h=>by
  erw[yc]at h ⊢;let⟨y,xs,e,r,l⟩:=h;refine⟨y,xs,e,?_,ye.less vs xs l⟩;rcases r with⟨r,b,n⟩|r
  .exact .inl ⟨r,λz=>b (.inl z),n⟩
  .exact .inr r
theorem ye.less{D:AK}:∀(v:List PV) (x:List V),ye K cl (Bx B D) φ H v x->ye K cl B φ H v x
 |[],x,h=>by erw[ye]at h ⊢;exact h
 |v::vs,x,h=>by
  erw[ye]at h ⊢;let⟨y,ys,e,r,l⟩:=h;exact⟨y,ys,e,yc.less v y r,ye.less vs ys l⟩
end
theorem DK.more{D:AK}(hn:H D=AC):∀{kvs:List (PV×PV)} {ks:List (Key×V)},DK K cl B φ H kvs ks->DK K cl (Bx B D) φ H kvs ks
 |[],ks,h=>h
 |(k,v)::r,ks,h=>by
  let⟨q,x,t,e,m,rv,l⟩:=h;exact⟨q,x,t,e,m,rv.more hn,DK.more hn l⟩
theorem DT.more{D:AK}(hn:H D=AC):∀{kvs:List (PV×PV)} {ks:List (List NK×V)},DT K cl B φ H kvs ks->DT K cl (Bx B D) φ H kvs ks
 |[],ks,h=>h
 |(k,v)::r,ks,h=>by
  let⟨q,x,t,e,m,rv,l⟩:=h;exact⟨q,x,t,e,m,rv.more hn,DT.more hn l⟩
theorem FS.more{D:AK}(hn:H D=AC):∀{kvs:List (AW×PV)} {ks:List (AW×V)},FS K cl B φ H kvs ks->FS K cl (Bx B D) φ H kvs ks
 |[],ks,h=>h
 |(k,v)::r,ks,h=>by
  let⟨x,t,e,rv,l⟩:=h;exact⟨x,t,e,rv.more hn,FS.more hn l⟩
theorem DK.less{D:AK}:∀{kvs:List (PV×PV)} {ks:List (Key×V)},DK K cl (Bx B D) φ H kvs ks->DK K cl B φ H kvs ks
 |[],ks,h=>h
 |(k,v)::r,ks,h=>by
  let⟨q,x,t,e,m,rv,l⟩:=h;exact⟨q,x,t,e,m,rv.less,DK.less l⟩
theorem DT.less{D:AK}:∀{kvs:List (PV×PV)} {ks:List (List NK×V)},DT K cl (Bx B D) φ H kvs ks->DT K cl B φ H kvs ks
 |[],ks,h=>h
 |(k,v)::r,ks,h=>by
  let⟨q,x,t,e,m,rv,l⟩:=h;exact⟨q,x,t,e,m,rv.less,DT.less l⟩
theorem FS.less{D:AK}:∀{kvs:List (AW×PV)} {ks:List (AW×V)},FS K cl (Bx B D) φ H kvs ks->FS K cl B φ H kvs ks
 |[],ks,h=>h
 |(k,v)::r,ks,h=>by
  let⟨x,t,e,rv,l⟩:=h;exact⟨x,t,e,rv.less,FS.less l⟩
theorem yp.less{D:AK}(rs:yp K cl (Bx B D) φ H st):yp K cl B φ H st:=by
 refine⟨rs.len,rs.inj,λn y e=>?_,rs.liv,λy h z=>rs.nb y h (.inl z),λy h=>rs.dom y (.inl h),λy h=>rs.nt y (.inl h)⟩;let⟨o,q,r⟩:=rs.obj n y e;refine⟨o,q,?_⟩
 cases o with
 |lst vs=>let⟨xs,hx,l⟩:=r;exact⟨xs,hx,l.less⟩
 |dct t kvs=>cases t<;>(let⟨xs,hx,l⟩:=r;exact⟨xs,hx,l.less⟩)
 |ins c fs=>let⟨ks,hx,l⟩:=r;exact⟨ks,hx,l.less⟩
 |dead=>exact r.elim
theorem yp.more{D:AK}{u:HO}(hn:H D=AC)(rs:yp K cl B φ H st)(hu:∀xs,u ≠ .tup xs:=by intro _ z;cases z):yp K cl (Bx B D) φ (L2.upd H D u) st:=by
 have nD:AA D∉φ:=λz=>by
  let⟨w,e⟩:=rs.there z;rw[hn]at e;cases e
 have s:Step φ H φ (L2.upd H D u):=.upd hn;have rs':=rs.upd (o:=u) hn;refine⟨rs.len,rs.inj,λn y e=>?_,rs.liv,λy h z=>z.elim (rs.nb y h) λq=>nD (q ▸ h),λy h=>?_,λy h xs e=>?_⟩
 .let⟨o,q,r⟩:=rs.obj n y e;have ne:y≠D:=λz=>nD (z ▸ A5 e);have hD:Bx B D D:=.inr rfl;refine⟨o,q,?_⟩
  cases o with
  |lst vs=>let⟨xs,hx,l⟩:=r;exact⟨xs,by rw[za ne];exact hx,(l.more hn).skip hD⟩
  |dct t kvs=>
   cases t with
   |false=>let⟨xs,hx,l⟩:=r;exact⟨xs,by rw[za ne];exact hx,(l.more hn).skip hD⟩
   |true=>let⟨xs,hx,l⟩:=r;exact⟨xs,by rw[za ne];exact hx,(l.more hn).skip hD⟩
  |ins c fs=>let⟨ks,⟨dx,hx⟩,l⟩:=r;exact⟨ks,⟨dx,by rw[za ne];exact hx⟩,(l.more hn).skip hD⟩
  |dead=>exact r.elim
 .rcases h with h|h
  .exact rs'.dom y h
  .subst h;exact⟨u,zb⟩
 .rcases h with h|h
  .exact rs'.nt y h xs e
  .subst h;rw[zb]at e;exact hu xs (A3 e)
theorem yu.more{D:AK}{u:HO}(hn:H D=AC)(re:yu K cl B φ H ρ σ):yu K cl (Bx B D) φ (L2.upd H D u) ρ σ:=⟨re.len,λi v e=>by
 let⟨x,h,q⟩:=re.get i v e;exact⟨x,h,(q.more hn).skip (.inr rfl)⟩⟩
def yM:Tg->List (Option Nat)->Bool
 |.n i,sl=>decide (sl[i]?=AA AC)
 |.t l,sl=>l.all λi=>decide (sl[i]?=AA AC)
def zcG:∀(l:List Nat) (vs:List PV) (ρ:IC.Env) (j:Nat),j∉l->((l.zip vs).foldl (λρ p=>ρ.set p.1 (AA p.2)) ρ)[j]?=ρ[j]?
 |[],vs,ρ,j,h=>by simp
 |i::is,[],ρ,j,h=>by simp
 |i::is,v::vs,ρ,j,h=>by
  erw[EF,Cf];rw[zcG is vs _ j λz=>h (AN _ z),Aq]
  rintro rfl
  exact h A0
def zcx:∀(l:List Nat) (vs:List PV) (ρ:IC.Env),((l.zip vs).foldl (λρ p=>ρ.set p.1 (AA p.2)) ρ).length=ρ.length
 |[],vs,ρ=>by simp
 |i::is,[],ρ=>by simp
 |i::is,v::vs,ρ=>by
  erw[EF,Cf];rw[zcx is vs,Az]
theorem yu.untgt{sl:List (Option Nat)}{ρ0 ρ1:IC.Env}{v:PV}(hf:yM ct sl=AD)(h0:∀(i:Nat),sl[i]?=AA AC->ρ0[i]?=AA AC)(hb:yC ct v ρ0=AA ρ1)(re:yu K cl B φ H ρ1 σ):yu K cl B φ H ρ0 σ:=by
 cases ct with
 |n i=>
  cases hb
  erw[yM,decide_eq_true_eq]at hf;refine⟨by rw[<-re.len,Az],λj w e=>re.get j w ?_⟩;rw[Aq]
  .exact e
  .rintro rfl
   rw[h0 _ hf]at e;cases e
 |t l=>
  cases v with
  |tp k vs=>
   erw[yC]at hb;split at hb
   .cases hb
    erw[yM,CJ,decide_eq_true_eq]at hf;refine⟨by rw[<-re.len,zcx],λj w e=>re.get j w ?_⟩;rw[zcG]
    .exact e
    .intro z;rw[h0 _ (hf j z)]at e;cases e
   .cases hb
  |_=>cases hb
theorem yu.inn{sl:List (Option Nat)}(re:yu K cl B φ H ρ σ):yu K cl B φ H (sl.map λo=>o.bind λj=>(ρ[j]?).join) (L2.inn sl σ):=by
 unfold L2.inn;refine⟨by simp,λi v e=>?_⟩;rw[BJ]at e ⊢
 cases q:sl[i]? with
 |none=>rw[q]at e;cases e
 |some o=>
  rw[q]at e
  cases o with
  |none=>cases e
  |some j=>
   erw[BD,BY,Option.some.injEq]at e ⊢
   cases q2:ρ[j]? with
   |none=>rw[q2]at e;cases e
   |some w=>
    rw[q2]at e;erw[Option.join_some]at e;subst e;let⟨x,hx,rv⟩:=re.get j v q2;exact⟨x,by rw[hx];rfl,rv⟩
def zls:1000000<sizeLine:=by rw[Bs];decide
def zjN{α:Type}{o:Option Bool}{k:Bool->R α}{z:α}{s:SO}(h:onO o k=.ok z s):∃b,o=AA b/\k b=.ok z s:=by
 cases o with
 |none=>cases h
 |some b=>exact⟨b,rfl,h⟩
def zF{α β:Type}{r:R α}{k:α->SO->R β}{z:β}{s:SO}(h:r.bind k=.ok z s):∃a s1,r=.ok a s1/\k a s1=.ok z s:=by
 cases r with
 |ok a s1=>exact⟨a,s1,rfl,h⟩
 |exc c s=>cases h
 |bad=>cases h
def zf0{Rel:Ph->Hp->PV->V->Prop}{r:R (List PV)}{Q:VK}(h:Run S X σ B φ H Rel (ybD r) Q):∃zs st5,r=.ok zs st5/\zs.length<=1000000/\∀x H' φ',Step φ H φ' H'->yp X.K S.cl B φ' H' st5->Rel φ' H' (.lst zs) x->Q x H':=by
 cases r with
 |ok zs st5=>
  by_cases hz:zs.length<=1000000
  .simp only[ybD,if_pos hz]at h;exact⟨zs,st5,rfl,hz,h⟩
  .simp only[ybD,if_neg hz]at h;exact h.elim
 |exc k s=>exact h.elim
 |bad=>exact h.elim
def zc9{call:Nat->List PV->SO->R PV}{ρ0:IC.Env}{xs rest:List PV}{i:Nat}{v:PV}{st2 st5:SO}(hv:xs[i]?=AA v)(ec:yS call ρ0 ct cc ce (xs.drop i) st2=.ok rest st5):
  ∃ρ1 k st6,yC ct v ρ0=AA ρ1/\yaP (ev call ρ1 st2 cc)=.ok k st6/\((k=AG/\yS call ρ0 ct cc ce (xs.drop (i+1)) st6=.ok rest st5) \/
   (k=AD/\∃y st7 rest',ev call ρ1 st6 ce=.ok y st7/\yS call ρ0 ct cc ce (xs.drop (i+1)) st7=.ok rest' st5/\rest=y::rest')):=by
 let⟨hi,e⟩:=Ar.1 hv;rw[EQ hi,e,zf]at ec;let⟨o,st3,e1,ec⟩:=zF ec;let⟨rest',st4,e2,ec⟩:=zF ec;injection ec with q1 q2;subst q1 q2;unfold yaL at e1
 cases eb:yC ct v ρ0 with
 |none=>rw[eb]at e1;cases e1
 |some ρ1=>
  rw[eb]at e1;let⟨bv,st6,e3,e1⟩:=zF e1;let⟨k,e4,e1⟩:=zjN e1;refine⟨ρ1,k,st6,rfl,by rw[e3];erw[yaP,R.bind,e4,onO],?_⟩
  cases k with
  |false=>cases e1;exact .inl ⟨rfl,e2⟩
  |true=>
   let⟨y,st7,e5,e1⟩:=zF e1
   cases e1
   exact .inr ⟨rfl,y,_,rest',e5,e2,rfl⟩
def ybX(S:Se)(K:AE)(B:AK->Prop)(D:AK)(φ1:Ph)(H1:Hp)(ρ0:IC.Env)(cB:List PV->SO->R (List PV))(zs:List PV)(st5:SO)(xs:List PV)(σc:St)(ys:List V)(H2:Hp):Prop:=
 ∃φ2 st2 vs rest,Step φ1 H1 φ2 H2/\H2 D=AA (.lst ys)/\AA D∉φ2/\yp K S.cl (Bx B D) φ2 H2 st2/\yu K S.cl (Bx B D) φ2 H2 ρ0 σc/\ye K S.cl (Bx B D) φ2 H2 vs ys/\cB xs st2=.ok rest st5/\vs++rest=zs
theorem stays{D:AK}{φ5:Ph}{H5:Hp}{u:HO}(s:Step φ H φ5 H5)(n:AA D∉φ)(e:H D=AA u):AA D∉φ5/\H5 D=AA u:=by
 refine⟨λz=>?_,s.keep D _ n e⟩;rcases s.new D z with q|q
 .exact n q
 .rw[e]at q;cases q
theorem ybX.skip{D:AK}{cB:List PV->SO->R (List PV)}{zs:List PV}{st5:SO}{xs:List PV}{φ2 φ5:Ph}{H2 H5:Hp}{ρ0 ρ1:IC.Env}{σ4:St}{st6:SO}{vs rest:List PV}{ys:List V}{v:PV}(s2:Step φ1 H1 φ2 H2)(s5:Step φ2 H2 φ5 H5)(nD:AA D∉φ2)(hD:H2 D=AA (.lst ys))
  (rs:yp K S.cl (Bx B D) φ5 H5 st6) (hf:yM ct (sl:List (Option Nat))=AD) (h0:∀(i:Nat),sl[i]?=AA AC->ρ0[i]?=AA AC) (hb:yC ct v ρ0=AA ρ1) (re:yu K S.cl (Bx B D) φ2 H2 ρ1 σ4) (l:ye K S.cl (Bx B D) φ2 H2 vs ys) (ec:cB xs st6=.ok rest st5) (ez:vs++rest=zs):
  ybX S K B D φ1 H1 ρ0 cB zs st5 xs σ4 ys H5:=⟨φ5,st6,vs,rest,s2.trans s5,(stays s5 nD hD).2,(stays s5 nD hD).1,rs,yu.untgt hf h0 hb (re.step s5),l.step s5,ec,ez⟩
theorem ybX.put{D:AK}{cB:List PV->SO->R (List PV)}{zs:List PV}{st5:SO}{xs:List PV}{φ2 φ5:Ph}{H2 H5:Hp}{ρ0 ρ1:IC.Env}{σ4:St}{st7:SO}{vs rest:List PV}{ys:List V}{v y:PV}{y':V}(hn:H1 D=AC)(s2:Step φ1 H1 φ2 H2)(s5:Step φ2 H2 φ5 H5)(nD:AA D∉φ2)(hD:H2 D=AA (.lst ys))
  (rs:yp K S.cl (Bx B D) φ5 H5 st7) (ry:yc K S.cl (Bx B D) φ5 H5 y y') (hf:yM ct (sl:List (Option Nat))=AD) (h0:∀(i:Nat),sl[i]?=AA AC->ρ0[i]?=AA AC) (hb:yC ct v ρ0=AA ρ1) (re:yu K S.cl (Bx B D) φ2 H2 ρ1 σ4) (l:ye K S.cl (Bx B D) φ2 H2 vs ys) (ec:cB xs st7=.ok rest st5) (ez:vs++y::rest=zs):
  H5 D=AA (.lst ys)/\ybX S K B D φ1 H1 ρ0 cB zs st5 xs σ4 (ys++[y']) (L2.upd H5 D (.lst (ys++[y']))):=by
 let⟨n5,h5⟩:=stays s5 nD hD;have hBD:Bx B D D:=.inr rfl;have s16:=s2.trans s5;exact⟨h5,φ5,st7,vs++[y],rest,⟨λb o n q=>by rw[za (zc q hn)];exact s16.keep b o n q,s16.len,s16.pre,s16.new⟩,zb,n5,rs.skip hBD,(yu.untgt hf h0 hb (re.step s5)).skip hBD,
  ((l.step s5).append (by erw[ye];exact⟨y',[],rfl,ry,rfl⟩)).skip hBD,ec,by rw[G2];exact ez⟩
def zes{sl:List (Option Nat)}(i:Nat)(q:sl[i]?=AA AC):(sl.map λo=>o.bind λj=>(ρ[j]?).join)[i]?=AA none:=by
 rw[BJ,q];rfl
def zc5{sl:List (Option Nat)}(hf:yM ct sl=AD){J:It}{xs zs:List PV}{st1 st5:SO}{Q:VK}(rs1:yp X.K S.cl B φ H st1)(re1:yu X.K S.cl B φ H ρ σ)(dr:RD S X B φ H xs J){D:AK}(hD:H D=AC)
  (e:yS S.call (sl.map λo=>o.bind λj=>(ρ[j]?).join) ct cc ce xs st1=.ok zs st5) (hz:zs.length<=1000000) (h1:∀x H' φ',Step φ H φ' H'->yp X.K S.cl B φ' H' st5->RV S X B φ' H' (.lst zs) x->Q x H'):
  ∃W:Nat->Nat->St->List V->Hp->Prop,(∃m,W 0 m (inn sl σ) [] (L2.upd H D (.lst [])))/\ybG J D (tG0 S X.K ct) (tT0 S X.K cc) (tE0 S X.K ce) W (Q (.ref D)):=by
 have nB:¬B D:=rs1.nB hD;have nD:AA D∉φ:=λz=>by
  let⟨w,e⟩:=rs1.there z;rw[hD]at e;cases e
 have r0:yu X.K S.cl (Bx B D) φ (L2.upd H D (.lst [])) (sl.map λo=>o.bind λj=>(ρ[j]?).join) (inn sl σ):=(yu.inn re1).more hD;have h0:=zes (ρ:=ρ) (sl:=sl);generalize (sl.map λo=>o.bind λj=>(ρ[j]?).join)=ρ0 at *;refine⟨λi m σc ys H2=>i+m=xs.length/\ybX S X.K B D φ H ρ0 (yS S.call ρ0 ct cc ce) zs st5 (xs.drop i) σc ys H2,
  ⟨xs.length,by lia,φ,st1,[],zs,.upd hD,zb,nD,rs1.more hD,r0,by erw[ye],by simpa using e,rfl⟩,?_⟩
 rintro i m σc ys H2 ⟨hm,φ2,st2,vs,rest,s2,hD2,nD2,rs2,re2,l2,ec,ez⟩
 refine⟨hD2,?_⟩
 by_cases hi:i<xs.length
 .have hzl:=congrArg Bk ez;rw[Aj,l2.length]at hzl;refine .inr ⟨dr.go i φ2 H2 s2 hi,Nat.lt_of_le_of_lt ∅ zls,λσ' ys' H'=>ybX S X.K B D φ H ρ0 (yS S.call ρ0 ct cc ce) zs st5 (xs.drop (i+1)) σ' ys' H',λσ' ys' H' q=>⟨m-1,by lia,by lia,q⟩,λx H3 hy=>?_⟩;let⟨v,hv,rv,kk⟩:=dr.yld i φ2 H2 st2 x H3 (Bx B D) (λy z=>z.elim .inl λq=>.inr (q ▸ hD)) s2 rs2 hi hy;have s3:Step φ2 H2 φ2 H3:=⟨λb o _ e=>kk b o e,AR _,λ_ _ _ e=>e,λ_ h=>.inl h⟩;let⟨ρ1,k,st6,eb,et,q⟩:=zc9 hv ec;refine⟨Bx B D,φ2,st2,_,v,ρ1,rs2.same kk,re2.step s3,rv,eb,λσ4 re4=>⟨Bx B D,φ2,st2,ρ1,rs2.same kk,re4,?_⟩⟩;rw[et]
  rintro k' H5 φ5 s5 rs5 rfl
  rcases q with⟨rfl,e2⟩|⟨rfl,y,st7,rest',e5,e2,rfl⟩
  .exact ybX.skip (s2.trans s3) s5 nD2 (kk D _ hD2) rs5 hf h0 eb re4 (l2.step s3) e2 ez
  .refine⟨Bx B D,φ5,st6,ρ1,rs5,re4.step s5,?_⟩;rw[e5];intro y' H6 φ6 s6 rs6 ry;exact ybX.put hD (s2.trans s3) (s5.trans s6) nD2 (kk D _ hD2) rs6 ry hf h0 eb re4 (l2.step s3) e2 ez
 .have ei:i=xs.length:=by lia
  subst ei;rw[Gf]at ec
  cases ec
  refine .inl ⟨dr.stop φ2 H2 s2,h1 (.ref D) H2 φ2 s2 rs2.less ?_⟩;erw[yc];exact⟨D,ys,rfl,⟨hD2,nB,nD2⟩,by rw[<-ez,Cd];exact l2.less⟩
def zbM{sl:List (Option Nat)}(hf:yM ct sl=AD){H:Hp}{Q:VK}(h:tE S X (.comp sl ct ci cc ce) σ H Q):ybI sl (tI S X ci) (tG0 S X.K ct) (tT0 S X.K cc) (tE0 S X.K ce) σ H Q:=by
 let⟨B,φ,st,ρ,rs,re,h⟩:=h;rw[v_comp]at h;refine⟨B,φ,st,ρ,rs,re,(Run.bind h).mono λJ H1 kq=>?_⟩;let⟨xs,st1,φ1,s1,rs1,dr,h1⟩:=kq;refine λD hD=>?_;let⟨zs,st5,e,hz,h1⟩:=zf0 h1;exact zc5 hf rs1 (re.step s1) dr hD e hz h1
def zg3{sc:BR}{NC:List AW}{sl:List (Option Nat)}{ifs:List AY}(hc:X.calm=AD)(O:yJ X sc NC sl)(hf:yM ct sl=AD)(hi:PI X tg iter (tI S X ci))(hg:∀j,PG (cxC X sc NC j) tg (tG0 S X.K ct))
  (ht:∀j,PTs (cxC X sc NC j) ifs (tT0 S X.K cc)) (he:∀j,PE (cxC X sc NC j) elt (tE0 S X.K ce)) (hs:∀x,foldedSetIterable iter X.env x=pure x:=by intro _;rfl):
  PE X (.ListComp elt [⟨tg,iter,ifs,0⟩] sc pos) (tE S X (.comp sl ct ci cc ce)):=
 (zhq hc O hi hg ht he hs).imp λσ H Q h=>zbM hf h
def zgP{sc:BR}{NC:List AW}{sl:List (Option Nat)}{ifs:List AY}{i:Nat}{x:AW}{spos:CG}(hN:X.N.Nodup)(hix:X.N[i]?=AA x)(hx:Loc X.env.scope x)(hc:X.calm=AD)(O:yJ X sc NC sl)(hf:yM ct sl=AD)(hi:PI X tg iter (tI S X ci))(hg:∀j,PG (cxC X sc NC j) tg (tG0 S X.K ct))
  (ht:∀j,PTs (cxC X sc NC j) ifs (tT0 S X.K cc)) (he:∀j,PE (cxC X sc NC j) elt (tE0 S X.K ce))
  (hsw:swapsWith (.ListComp elt [⟨tg,iter,ifs,0⟩] sc pos) (AA (.Name x px)) spos.line X.env=pure true:=by rfl) (hs:∀x,foldedSetIterable iter X.env x=pure x:=by intro _;rfl)
  (hfn:X.fn x=AD \/ X.env.scope.names.lookup x=AA .local:=by first|exact .inl rfl|exact .inr rfl|assumption):PS X (.Assign [.Name x px] (.ListComp elt [⟨tg,iter,ifs,0⟩] sc pos) spos) (tS S X (.asg (.n i) (.comp sl ct ci cc ce))):=
 (zed hN hix hx hc O hi hg ht he hsw hs hfn).imp λD σ H ⟨B,φ,st,ρ,rs,re,h⟩=>by
  refine zbM hf ?_;erw[ex]at h;exact tE.fl rs re h λx H1 v st1 φ1 s rs1 re1 rv h1=>h1 _ H1 φ1 .rfl rs1 (re1.set i rv)
end
def spI(K:AE)(cl:Nat->AK)(call:Nat->List PV->SO->R PV)(f:Nat):Sp:=λvs H Q E=>∃B φ st args,yp K cl B φ H st/\ye K cl B φ H args vs/\match call f args st with
 |.ok v st'=>∀x H' φ',Step φ H φ' H'->yp K cl B φ' H' st'->yc K cl B φ' H' v x->Q x H'
 |.exc c st'=>∀H' φ',Step φ H φ' H'->yp K cl B φ' H' st'->E (.ref (cl c)) AC H'
 |.bad=>False
section
variable {S:Se}{X:Cx}{k:Nat}{f:AK}{fd:Ax}{ps ks:List AW}{sp:Sp}{dvs:List V}{ds:List AF}{x:AW}{p pos:CG}{e:AY}{es:List AY}{t tk:TA}{CX:CXT}{σ:St}{H:Hp}
def zdJ{π:List (AK×Bm)}{s:AI}{Q:VK}{us:List AF}{vs:List V}{E:XK}(F:yaK X.prog X.w X.K X.mg X.base CX k f fd ps sp)(hr:yav k X.A)(hb:Binds X.K fd ps ds)(hd:Vals dvs ds)
  (I:Inv X π σ H s) (r:Vals vs us) (h:sp (vs++dvs) H Q E) (hx:∀e s',CX X.stack H s E e s'->X.xe e s'):AV (model X.prog X.w) X.A (call (.ref f) us) (EP X π σ Q) X.xe s:=by
 have r2:Vals (vs++dvs) (us++ds):=r.append hd;have hl:(us++ds).length=ps.length:=by rw[<-r2.length];exact F.len _ _ _ _ h
 refine HD (Dp (F.run X.A X.stack s H ⟨us,[]⟩ (us++ds) (vs++dvs) Q E hr I.env0 (hb s us I.kIn hl) r2 h) λr s' hq=>?_)
 cases r with
 |error e=>exact hx e s' hq
 |ok fl=>
  cases fl with
  |ret u=>exact I.after hq
  |next=>exact BZ hq
  |brk=>exact BZ hq
  |cont=>exact BZ hq
def ybY(CX:CXT)(X:Cx)(sp:Sp)(dvs:List V)(t:TA):TE:=λσ H Q=>t σ H λvs H1=>∃E:XK,sp (vs++dvs) H1 Q E/\∀π s e s',Inv X π σ H1 s->CX X.stack H1 s E e s'->X.xe e s'
def zfy(F:yaK X.prog X.w X.K X.mg X.base CX k f fd ps sp)(hr:yav k X.A)(hg:Gl X x)(hm:X.mg x=AA (.ref f))(hk:An X.K (.ref f)=AD)(hb:Binds X.K fd ps ds)(hd:Vals dvs ds)
  (ha:PA X (e::es) t) (hdb:(x==("__debug__":AW))=false:=by decide) (he:starEach (e::es) X.env=(AG,eval e X.env)::starEach es X.env:=by rfl) (hpl:(backTo pos (starEach es X.env)).any (·.1)=false:=by rfl):
  PE X (.Call (.Name x p) (e::es) [] pos) (ybY CX X sp dvs t):=by
 intro π s σ H Q I h;refine Bp (zan I hg hm ?_ hdb);refine GG (h₀:=X.base) I.ok.mod.kin hk (thn (ha pos π s σ H _ I h) λus s1 kq=>?_) he hpl;let⟨vs,H1,I1,r,E,q,hx⟩:=kq;refine ⟨I1.kIn,?_⟩;exact zdJ F hr hb hd I1 r q λe s' c=>hx π s1 e s' I1 c
def zdp(F:yaK X.prog X.w X.K X.mg X.base CX k f fd ps sp)(hr:yav k X.A)(hg:Gl X x)(hm:X.mg x=AA (.ref f))(hk:An X.K (.ref f)=AD)(hb:Binds X.K fd ps ds)(hd:Vals dvs ds)
  (hdb:(x==("__debug__":AW))=false:=by decide):PE X (.Call (.Name x p) [] [] pos) (ybY CX X sp dvs ycE):=by
 intro π s σ H Q I h;let⟨E,q,hx⟩:=h;refine Bp (zan I hg hm ?_ hdb);exact PySem.W.callWith_K0 I.kIn hk (zdJ F hr hb hd I .nil q λe s' c=>hx π s e s' I c)
variable {B:AK->Prop}{φ:Ph}{st:SO}{ces:Ces}{fi:Nat}
def zax{vs:List PV}{xs:List V}{Q:VK}(rs:yp X.K S.cl B φ H st)(l:ye X.K S.cl B φ H vs xs)(h:Run S X σ B φ H (RV S X B) (S.call fi vs st) Q):
  ∃E:XK,spI X.K S.cl S.call fi xs H Q E/\∀π s e s',Inv X π σ H s->CX1 X.prog X.w X.stack H s E e s'->X.xe e s':=by
 cases c:S.call fi vs st with
 |ok v st'=>
  rw[c]at h;refine⟨λ_ _ _=>False,⟨B,φ,st,vs,rs,l,by rw[c];exact h⟩,λπ s e s' _ z=>?_⟩;let⟨_,_,_,_,_,_,_,_,_,_,_,_,_,_,z⟩:=z;exact z.elim
 |exc k st'=>
  rw[c]at h;refine⟨λcls _ H'=>cls=.ref (S.cl k)/\∃φ',Step φ H φ' H'/\yp X.K S.cl B φ' H' st',⟨B,φ,st,vs,rs,l,by rw[c];exact λH' φ' s r=>⟨rfl,φ',s,r⟩⟩,λπ s e s' I z=>h e s' (.inl ⟨π,H,s,φ,I,.rfl,z⟩)⟩
 |bad=>rw[c]at h;exact h.elim
def zgD(F:yaK X.prog X.w X.K X.mg X.base (CX1 X.prog X.w) k f fd ps (spI X.K S.cl S.call fi))(hr:yav k X.A)(hg:Gl X x)(hm:X.mg x=AA (.ref f))(hk:An X.K (.ref f)=AD)(hb:Binds X.K fd ps [])
  (ha:PA X (e::es) (tAs S X ces)) (hdb:(x==("__debug__":AW))=false:=by decide) (he:starEach (e::es) X.env=(AG,eval e X.env)::starEach es X.env:=by rfl) (hpl:(backTo pos (starEach es X.env)).any (·.1)=false:=by rfl):
  PE X (.Call (.Name x p) (e::es) [] pos) (tE S X (.call fi ces)):=
 (zfy F hr hg hm hk hb .nil ha hdb he hpl).imp λσ H Q ⟨B,φ,st,ρ,rs,re,h⟩=>by
  erw[ev]at h;refine tAs.bind rs re h λxs H1 vs st1 φ1 s1 rs1 re1 rv h1=>?_;rw[Cd];exact zax rs1 rv h1
def zfV(F:yaK X.prog X.w X.K X.mg X.base (CX1 X.prog X.w) k f fd ps (spI X.K S.cl S.call fi))(hr:yav k X.A)(hg:Gl X x)(hm:X.mg x=AA (.ref f))(hk:An X.K (.ref f)=AD)(hb:Binds X.K fd ps [])
  (hdb:(x==("__debug__":AW))=false:=by decide):PE X (.Call (.Name x p) [] [] pos) (tE S X (.call fi .nil)):=
 (zdp F hr hg hm hk hb .nil hdb).imp λσ H Q ⟨B,φ,st,ρ,rs,re,h⟩=>by
  erw[ev,evs,R.bind]at h;exact zax rs (by erw[ye];rfl) h
end
section
variable {P:A4}{w:Aa}{K:AE}{mg:AW->Option AF}{base:Aw}{cl:Nat->AK}{T:Nat->Option IC.Fn}{fi:Nat}{fn:IC.Fn}{x qual:AW}{stm:Bo}{f:AK}{fd:Ax}{N ps:List AW}{k:Nat}
theorem CX1.mono{outer:List BP}{H:Hp}{s:AI}{E E':XK}{e:AF}{s':AI}(h:CX1 P w outer H s E e s')(n:∀cls H',E cls AC H'->E' cls AC H'):CX1 P w outer H s E' e s':=by
 let⟨a,cls,a0,H',Bh,r1,r2,r3,r4,r5,r6,r7,r8,r9,r10⟩:=h;exact⟨a,cls,a0,H',Bh,r1,r2,r3,r4,r5,r6,r7,r8,r9,n _ _ r10⟩
theorem yu.start{B:AK->Prop}{φ:Ph}{H:Hp}{args:List PV}{vs:List V}(l:ye K cl B φ H args vs)(n:Nat)(hn:N.length-vs.length=n):yu K cl B φ H (args.map AA++Ay n AC) (L2.start N vs):=by
 have hl:=l.length;unfold L2.start;refine⟨by simp[hl,hn],λi v e=>?_⟩
 by_cases hi:i<args.length
 .rw[Ae (by simpa using hi),BJ]at e
  cases q:args[i]? with
  |none=>rw[q]at e;cases e
  |some v'=>
   rw[q]at e
   cases e
   let⟨y,hy,rv⟩:=l.get i q;exact⟨y,by rw[Ae (by simp;lia),BJ,hy];rfl,rv⟩
 .rw[Ao (by simp;lia),Eg]at e;split at e<;>cases e
theorem leave{N:List AW}{scope:BR}{cd:AF}{A:A9}{outer:List BP}{s₀:AI}{H₀:Hp}{E:XK}{call:Nat->List PV->SO->R PV}{σ:St}{B:AK->Prop}{φ:Ph}{H:Hp}{c:Nat}{st':SO}{e:AF}{s':AI}
  (h:ExcAt ⟨cl,call,AD⟩ (yaB (CX1 P w) P w K mg base N qual scope f cd A outer s₀ H₀ E) σ B φ H c st' e s') (n:∀φ' H',Step φ H φ' H'->yp K cl B φ' H' st'->E (.ref (cl c)) AC H'):
  (yaB (CX1 P w) P w K mg base N qual scope f cd A outer s₀ H₀ E).xe e s':=by
 rcases h with⟨π,H1,s,φ1,I,s1,q⟩|⟨_,π,H1,s,φ1,h',e0,vs,I,s1,rs,mk,rfl,rfl⟩|⟨_,π,H1,s,I,q⟩
 .exact zlo π σ H1 s e s' I (q.mono λcls H' ⟨e1,φ',s2,r⟩=>by subst e1;exact n φ' H' (s1.trans s2) r)
 .exact zdl I mk (n φ1 H1 s1 rs)
 .exact zlq I (q.mono λcls H' ⟨e1,φ',s2,r⟩=>by subst e1;exact n φ' H' s2 r)
def zdO(hT:T fi=AA fn):∀(args:List PV) (st:SO),yd T (k+1) fi args st ≠ .bad->args.length=fn.np:=λargs st hne=>by
 apply Classical.byContradiction;intro c;apply hne;rw[yd,hT];exact if_neg c
def zgc(hT:T fi=AA fn)(hnp:ps.length=fn.np){vs:List V}{H:Hp}{Q:VK}{E:XK}(h:spI K cl (yd T (k+1)) fi vs H Q E):vs.length=ps.length:=by
 let⟨B,φ,st,args,rs,l,h⟩:=h;rw[hnp,<-l.length];refine zdO (k:=k) hT args st λz=>?_;rw[z]at h;exact h
def zhB(hT:T fi=AA fn)(hns:N.length=fn.ns){scope:BR}{cdv:AF}{A:A9}{outer:List BP}{s:AI}{vs:List V}{H:Hp}{Q:VK}{E:XK}(h:spI K cl (yd T (k+1)) fi vs H Q E):
  tSs ⟨cl,yd T k,AD⟩ (yaB (CX1 P w) P w K mg base N qual scope f cdv A outer s H E) fn.body {nx:=λ_ H'=>Q .non H',rt:=Q} (L2.start N vs) H:=by
 let⟨B,φ,st,args,rs,l,h⟩:=h;have hl:args.length=fn.np:=zdO (k:=k) hT args st λz=>by rw[z]at h;exact h
 have hlen:=l.length;rw[yd,hT]at h;dsimp only at h;rw[if_pos hl]at h
 by_cases hp:fn.pure=AD
 .rw[if_pos hp]at h
  by_cases hz:nLs args=AD
  .rw[if_pos hz]at h;have rs0:yp K cl (λa=>B a \/ AA a∈φ) [] H []:=⟨rfl,λm n a e=>by simp at e,λn a e=>by simp at e,λn o e=>by simp at e,λa z=>by simp at z,λa z=>z.elim (rs.dom a) rs.there,λa z xs e=>z.elim (λb=>rs.nt a b xs e) λq=>rs.untup q e⟩;have back:∀{φ':Ph} {H':Hp},Step [] H φ' H'->Step φ H φ H'/\yp K cl B φ H' st:=λ{φ' H'} s'=>
    have kk:∀b o,H b=AA o->H' b=AA o:=λb o e=>s'.keep b o (by simp) e
    ⟨⟨λb o _ e=>kk b o e,AR _,λ_ _ _ e=>e,λ_ h=>.inl h⟩,rs.same kk⟩
   refine⟨_,[],[],_,rs0,yu.start (ye.inn rs.nb args vs hz l) (fn.ns-fn.np) ∅,?_⟩;show yay _ _ _ _ _ (exs (yd T k) (args.map AA++Ay (fn.ns-fn.np) AC) [] fn.body) _
   cases e:exs (yd T k) (args.map AA++Ay (fn.ns-fn.np) AC) [] fn.body with
   |nx ρ' st'=>
    rw[e]at h;intro σ' H' φ' s' rs' re';let⟨s2,r2⟩:=back s';exact h .non H' φ s2 r2 (by erw[yc])
   |rt v st'=>
    rw[e]at h;dsimp only at h
    by_cases hv:nL v=AD
    .rw[if_pos hv]at h;intro y H' φ' s' rs' rv;let⟨s2,r2⟩:=back s';exact h y H' φ s2 r2 (yc.out v y hv rv)
    .rw[if_neg hv]at h;exact h.elim
   |exc c ρ' st'=>
    rw[e]at h;intro σ' φ1 H1 ev s' s1 _ ex;refine leave ex λφ2 H2 s2 _=>?_;let⟨s3,r3⟩:=back (s1.trans s2);exact h H2 φ s3 r3
   |bk ρ' st'=>rw[e]at h;exact h.elim
   |ct ρ' st'=>rw[e]at h;exact h.elim
   |bad=>rw[e]at h;exact h.elim
  .rw[if_neg hz]at h;exact h.elim
 .rw[if_neg hp]at h;refine⟨B,φ,st,_,rs,yu.start l (fn.ns-fn.np) ∅,?_⟩;show yay _ _ _ _ _ (exs (yd T k) (args.map AA++Ay (fn.ns-fn.np) AC) st fn.body) _
  cases e:exs (yd T k) (args.map AA++Ay (fn.ns-fn.np) AC) st fn.body with
  |nx ρ' st'=>
   rw[e]at h;intro σ' H' φ' s' rs' re';exact h .non H' φ' s' rs' (by erw[yc])
  |rt v st'=>
   rw[e]at h;intro y H' φ' s' rs' rv;exact h y H' φ' s' rs' rv
  |exc c ρ' st'=>
   rw[e]at h;intro σ' φ1 H1 ev s' s1 _ ex;exact leave ex λφ2 H2 s2 r2=>h H2 φ2 (s1.trans s2) r2
  |bk ρ' st'=>rw[e]at h;exact h.elim
  |ct ρ' st'=>rw[e]at h;exact h.elim
  |bad=>rw[e]at h;exact h.elim
end
def tyN:Ty->String
 |.int=>"int" | .bool=>"bool" | .str=>"str" | .tuple=>"tuple" | .list=>"list" | _=>""
structure ydv(K:AE)(t:Ty):Prop where
 n:BI K (.type "NoneType") (.type (tyN t))=AA (yaZ .non t)
 b:BI K (.type "bool") (.type (tyN t))=AA (yaZ (.bl AD) t)
 i:BI K (.type "int") (.type (tyN t))=AA (yaZ (.int 0) t)
 s:BI K (.type "str") (.type (tyN t))=AA (yaZ (.str Ga) t)
 p:BI K (.type "tuple") (.type (tyN t))=AA (yaZ (.tp AD []) t)
 l:BI K (.type "list") (.type (tyN t))=AA (yaZ (.lst []) t)
section
variable {S:Se}{X:Cx}{σ:St}{B:AK->Prop}{φ:Ph}{H:Hp}{st:SO}{p pos p2 px:CG}{a b c d o:AY}{ca cb cc:Ce}{t:Ty}
def ygB(S:Se)(X:Cx)(t:Ty):List V->Hp->VK->Prop:=λxs H Q=>∃B φ st v x z,xs=[x,.ty (tyN t)]/\yp X.K S.cl B φ H st/\yc X.K S.cl B φ H v x/\ybs v [t]=AA z/\ycM t=AD /\
 ∀z' H' φ',Step φ H φ' H'->yp X.K S.cl B φ' H' st->yc X.K S.cl B φ' H' z z'->Q z' H'
def zjJ(Z:ydv X.K t):yQ X (.builtin "isinstance") (ygB S X t):=by
 rintro π s σ H xs us Q I r ⟨B,φ,st,v,x,z,rfl,rs,rv,e,hb,q⟩
 let⟨u,c',rfl,ru,rc⟩:=vals2 r
 cases (show c'=Fz (tyN t)from rc)
 have fin:∀(k:Bool) (tk:Nat),z=.bl k->EP X π σ Q (.bool k) {s with toks:=tk}:=λk tk ez=>⟨.bl k,H,I.tok tk,rfl,q _ H φ .rfl rs (by subst ez;erw[yc])⟩
 cases v with
 |non=>
  erw[yc]at rv;subst rv
  cases (show u=BB from ru)
  erw[ybs,hb,if_true]at e;exact Cg PySem.W.kitx_none I.kIn CB Z.n (λz=>nomatch z) λtk=>fin _ tk (by cases e;cases t<;>rfl)
 |bl k=>
  erw[yc]at rv;subst rv
  cases (show u=C8 k from ru)
  erw[ybs,hb,if_true]at e;exact Cg PySem.W.kitx_bool I.kIn CB Z.b (λz=>nomatch z) λtk=>fin _ tk (by cases e;cases t<;>rfl)
 |int k=>
  erw[yc]at rv;subst rv;let⟨tk,rfl⟩:=ru;erw[ybs,hb,if_true]at e;exact Cg PySem.W.kitx_int I.kIn CB Z.i (λz=>nomatch z) λtk=>fin _ tk (by cases e;cases t<;>rfl)
 |str k=>
  erw[yc]at rv;subst rv;let⟨tk,rfl⟩:=ru;erw[ybs,hb,if_true]at e;exact Cg PySem.W.kitx_str I.kIn CB Z.s (λz=>nomatch z) λtk=>fin _ tk (by cases e;cases t<;>rfl)
 |tp k vs=>
  erw[yc]at rv;let⟨y,ys,rfl,rt,l⟩:=rv
  cases (show u=Ab y from ru)
  erw[ybs,hb,if_true]at e;let⟨its,_,⟨o,g,c,_,_⟩,_⟩:=I.tuple rt.sq;exact Cg PySem.W.kitx_tuple I.kIn ⟨o,g,c⟩ Z.p (λz=>nomatch z) λtk=>fin _ tk (by cases e;cases t<;>rfl)
 |lst vs=>
  erw[yc]at rv;let⟨y,ys,rfl,rt,l⟩:=rv
  cases (show u=Ab y from ru)
  erw[ybs,hb,if_true]at e;let⟨_,_,n,_,h1⟩:=(show yt X.prog X.w H s.heap y (.lst ys)from I.hok y _ rt.1);exact Cg PySem.W.kitx_list I.kIn ⟨_,h1,rfl⟩ Z.l (λz=>nomatch z) λtk=>fin _ tk (by cases e;cases t<;>rfl)
 |loc n=>cases e
 |scr n=>cases e
 |fnc n=>cases e
 |exn n=>erw[ybs,Au,List.all_nil,hb,E7,if_true]at e;cases e
def zju{T:AW}(Z:ydv X.K t)(ht:ycM t=AD)(hg:Gl X "isinstance")(hm:X.mg "isinstance"=AC)(hgT:Gl X T)(hmT:X.mg T=AC)(hT:bootBuiltins T=AA (.type (tyN t)))(ha:PE X a (tE S X ca))(hnT:T ≠ "__name__":=by decide)(hdT:(T==("__debug__":AW))=false:=by decide)
  (he:starEach [a,.Name T p2] X.env=(AG,eval a X.env)::starEach [.Name T p2] X.env:=by rfl) (hpl:(backTo pos (starEach [.Name T p2] X.env)).any (·.1)=false:=by rfl):
  PE X (.Call (.Name "isinstance" p) [a,.Name T p2] [] pos) (tE S X (.isi ca [t])):=
 (zbn (zjJ Z) hg hm Gr (zl ha (zl (zhy (v:=.ty (tyN t)) hgT hmT hT rfl hnT hdT) zkU) he) ⋯ ⋯ he hpl).imp λσ H Q ⟨B,φ,st,ρ,rs,re,h⟩=>by
  erw[ev]at h;refine tE.bind rs re h λx H1 v st1 φ1 s1 rs1 re1 rv h1=>?_;let⟨z,e,q⟩:=zz h1 rs1;exact⟨B,φ1,st1,v,x,z,rfl,rs1,rv,e,ht,q⟩
def zeW{st4:SO}{x y v:PV}(h:ybd st x y v=AA st4):∃n xs k j,x=.loc n/\st[n]?=AA (.lst xs)/\y=.int k/\ixI xs.length k=AA j/\st4=st.set n (.lst (xs.set j v)):=by
 cases x with
 |loc n=>
  erw[ybd]at h
  cases q:st[n]? with
  |none=>rw[q]at h;cases h
  |some o=>
   rw[q]at h
   cases o with
   |lst xs=>
    cases y with
    |int k=>
     dsimp only at h
     cases q2:ixI xs.length k with
     |none=>rw[q2]at h;cases h
     |some j=>rw[q2]at h;exact⟨n,xs,k,j,rfl,q,rfl,q2,(A3 h).symm⟩
    |_=>cases h
   |_=>cases h
 |_=>cases h
theorem ye.put{K:AE}{cl:Nat->AK}:∀{vs:List PV} {xs:List V} (j:Nat) {v:PV} {x:V},ye K cl B φ H vs xs->yc K cl B φ H v x->ye K cl B φ H (vs.set j v) (xs.set j x)
 |[],xs,j,v,x,l,r=>by erw[ye]at l;subst l;simp[ye]
 |w::vs,xs,0,v,x,l,r=>by
  erw[ye]at l;let⟨y,ys,rfl,_,l⟩:=l;erw[BG,ye];exact⟨x,ys,rfl,r,l⟩
 |w::vs,xs,j+1,v,x,l,r=>by
  erw[ye]at l;let⟨y,ys,rfl,ry,l⟩:=l;erw[BH,ye];exact⟨y,ys.set j x,rfl,ry,ye.put j l r⟩
def zjf(he:PE X a (tE S X ca))(ho:PE X b (tE S X cb))(hi:PE X c (tE S X cc))(hs:swapsWithSole [.Subscript b c px] a pos.line X.env=pure false:=by rfl)(hw:swappedStores [.Subscript b c px] a X.env=pure none:=by rfl)
  (hg:PG X (.Subscript b c px) (yeB (tE S X cb) (tE S X cc) ycZ):=by exact zgl ‹_› ‹_› zcS):PS X (.Assign [.Subscript b c px] a pos) (tS S X (.six cb cc ca)):=
 (zgp he hg hs hw).imp λD σ H ⟨B,φ,st,ρ,rs,re,h⟩=>by
  erw[ex]at h;refine tE.fl rs re h λv' H1 v st1 φ1 s1 rs1 re1 rv h1=>tE.fl rs1 re1 h1 λx' H2 x st2 φ2 s2 rs2 re2 rx h2=>tE.fl rs2 re2 h2 λy' H3 y st3 φ3 s3 rs3 re3 ry h3=>?_
  cases e:ybd st3 x y v with
  |none=>rw[e]at h3;exact h3.elim
  |some st4=>
   rw[e]at h3;let⟨n,xs,k,j,rfl,hn,rfl,hj,rfl⟩:=zeW e;erw[yc]at ry;subst ry;let⟨l,ys,rfl,hp,hx,lr⟩:=rs3.list (rx.step s3) hn;refine⟨l,ys,k,j,rfl,rfl,hx,by rw[<-lr.length];exact hj,?_⟩;have s4:Step φ3 H3 φ3 (L2.upd H3 l (.lst (ys.set j v'))):=.put (A5 hp);exact h3 σ _ φ3 s4 (rs3.put hp ⟨_,zb,(lr.put j ((rv.step s2).step s3)).step s4⟩) (re3.step s4)
end
section
variable {S:Se}{X:Cx}{σ:St}{B:AK->Prop}{φ:Ph}{H:Hp}{st:SO}{p pos p2 px py pt pt2 apos:CG}{a b c d o:AY}{ca cb cc:Ce}{kt k2:Nat}
def zi7{i j:Nat}{x y:AW}(hc:X.calm=AD)(hN:X.N.Nodup)(hi:X.N[i]?=AA x)(hj:X.N[j]?=AA y)(hij:i≠j)(h:PS X (.Assign [.Tuple [.Name x px,.Name y py] kt pt] (.Tuple [a,b] k2 pt2) pos) (yeg i j (tAs S X (.cons ca (.cons cb .nil))))):
  PS X (.Assign [.Tuple [.Name x px,.Name y py] kt pt] (.Tuple [a,b] k2 pt2) pos) (tS S X (.asg (.t [i,j]) (.tup (.cons ca (.cons cb .nil))))):=
 h.imp λD σ H ⟨B,φ,st,ρ,rs,re,h⟩=>by
  erw[ex,ev]at h;refine⟨B,φ,st,ρ,rs,re,?_⟩
  cases e:evs S.call ρ st (.cons ca (.cons cb .nil))with
  |bad=>rw[e]at h;exact h
  |exc k st'=>rw[e]at h;exact λe s' x=>h σ φ H e s' .rfl re x
  |ok vs st'=>
   rw[e]at h;intro xs H' φ' s rs' l;erw[R.bind]at h;split at h
   .rcases vs with _|⟨v,_|⟨w,_|⟨u,t⟩⟩⟩
    .exact h.elim
    .exact h.elim
    .let⟨v',w',rfl,rv,rw⟩:=l.two;refine⟨v',w',rfl,?_⟩;exact h _ H' φ' s rs' (((re.step s).set i rv).set j rw)
    .exact h.elim
   .exact h.elim
def ziS{op:DG}{bo:BOp}{C:Int->Int->Prop}{g:Int->Int->Int}(h:OpR X (inplaceOp op) (rI C λi j=>.int (g i j)))(hb:∀v w z,yaW bo v w=AA z->∃i j,v=.int i/\w=.int j/\C i j/\z=.int (g i j)):PIp X op (rT2 S X (yaW bo)):=by
 rintro π s σ H x y v u Q I rx ry ⟨B,φ,st,a,b,z,rs,ra,rb,e,q⟩
 let⟨i,j,rfl,rfl,hc,rfl⟩:=hb a b z e;erw[yc]at ra rb;subst ra rb;exact h π s σ H _ _ v u Q I rx ry ⟨i,j,rfl,rfl,hc,q _ H φ .rfl rs (by erw[yc])⟩
def zde{bo:BOp}{v w z:PV}(h:yaW bo v w=AA z):∃i j,v=.int i/\w=.int j/\IC.binI bo i j=AA z:=by
 unfold yaW at h;split at h
 .exact⟨_,_,rfl,rfl,h⟩
 .cases h
def zgA:PIp X .Add (rT2 S X (yaW .add)):=by
 rintro π s σ H x y v u Q I rx ry ⟨B,φ,st,a,b,z,rs,ra,rb,e,q⟩
 let⟨i,j,rfl,rfl,e⟩:=zde e
 cases e
 erw[yc]at ra rb;subst ra rb;exact zin π s σ H _ _ v u Q I rx ry ⟨i,j,rfl,rfl,q _ H φ .rfl rs (by erw[yc])⟩
def zgQ:PIp X .Mult (rT2 S X (yaW .mul)):=ziS zh1 λv w z h=>by
 let⟨i,j,rfl,rfl,e⟩:=zde h;erw[IC.binI]at e;split at e
 .rename_i c;erw[yap,CW,decide_eq_true_eq]at c;refine⟨i,j,rfl,rfl,?_,(A3 e).symm⟩;unfold ych;rcases c with c|c
  .left;constructor<;>lia
  .right;constructor<;>lia
 .cases e
end
end L2
namespace WK
open PySem L2 IC
def GC(K:AE)(mg:AW->Option AF)(cl:Nat->AK)(x:AW)(v:PV):Prop:=∃y:AK,mg x=AA (.ref y)/\∀B φ H,yc K cl B φ H v (.ref y)
def zkf{S:Se}{X:Cx}{x:AW}{v:PV}{pos:CG}(hg:Gl X x)(h:GC X.K X.mg S.cl x v)(hd:(x==("__debug__":AW))=false:=by decide):PE X (.Name x pos) (tE S X (.cst v)):=by
 let⟨y,hm,hk⟩:=h;exact zdT hg hm hk hd
def ziv:bootBuiltins "int"=AA (.type "int"):=by decide +kernel
def zgv:bootBuiltins "bool"=AA (.type "bool"):=by decide +kernel
def zeU:bootBuiltins "tuple"=AA (.type "tuple"):=by decide +kernel
def zjq:bootBuiltins "len"=AA (.builtin "len"):=by decide +kernel
def ziB:bootBuiltins "abs"=AA (.builtin "abs"):=by decide +kernel
def zjl:bootBuiltins "all"=AA (.builtin "all"):=by decide +kernel
def zjT:bootBuiltins "sum"=AA (.builtin "sum"):=by decide +kernel
end WK
namespace L2
open PySem PySem.Spec PyProof.Rows IC
def shC:Sum Ce Int->Option Int
 |.inl _=>AC
 |.inr i=>AA i
def yaQ:List (Option Int)->List V->List V
 |[],_=>[]
 |some i::r,zs=>.int i::yaQ r zs
 |none::r,z::zs=>z::yaQ r zs
 |none::_,[]=>[]
def pick:List (Option Int)->List V->List V
 |none::r,v::vs=>v::pick r vs
 |some _::r,_::vs=>pick r vs
 |_,_=>[]
def nKw:List (Option Int)->Nat
 |[]=>0
 |none::r=>nKw r+1
 |some _::r=>nKw r
def ycq:Ces->Nat
 |.nil=>0
 |.cons _ r=>ycq r+1
def gK(np:Nat)(sh:List (Option Int))(vs zs:List V):List V:=if vs.length=np/\zs.length=nKw sh then vs++yaQ sh zs else []
def zd3{call:Nat->List PV->SO->R PV}{ρ:IC.Env}:∀(a:Ces) {st st':SO} {vs:List PV},evs call ρ st a=.ok vs st'->vs.length=ycq a
 |.nil,st,st',vs,h=>by erw[evs]at h;cases h;rfl
 |.cons e r,st,st',vs,h=>by
  erw[evs]at h
  cases q:ev call ρ st e with
  |ok v s1=>
   rw[q]at h;erw[R.bind]at h
   cases q2:evs call ρ s1 r with
   |ok ws s2=>
    rw[q2]at h
    cases h
    simp[ycq,zd3 r q2]
   |exc c s=>rw[q2]at h;cases h
   |bad=>rw[q2]at h;cases h
  |exc c s=>rw[q]at h;cases h
  |bad=>rw[q]at h;cases h
def zea{call:Nat->List PV->SO->R PV}{ρ:IC.Env}:∀(a b:Ces) (st:SO),evs call ρ st (ycj a b)=(evs call ρ st a).bind λvs st1=>(evs call ρ st1 b).bind λws st2=>.ok (vs++ws) st2
 |.nil,b,st=>by
  erw[ycj,evs,R.bind,CD]
  cases evs call ρ st b<;>rfl
 |.cons e r,b,st=>by
  erw[ycj,evs]
  cases ev call ρ st e with
  |ok v st1=>
   erw[R.bind];rw[zea r b st1]
   cases evs call ρ st1 r with
   |ok vs st2=>
    erw[R.bind]
    cases evs call ρ st2 b<;>rfl
   |exc c s=>rfl
   |bad=>rfl
  |exc c s=>rfl
  |bad=>rfl
section
variable {S:Se}{X:Cx}{k:Nat}{f:AK}{fd:Ax}{ps ks:List AW}{sp:Sp}{x:AW}{p pos kpos:CG}{e:AY}{es:List AY}{kws:List C9}{nm:Option AW}{t tk:TA}{CX:CXT}{ca:Ce}{ces:Ces}{items:List (Sum Ce Int)}{g:List AF->List AF->List AF}{gV:List V->List V->List V}
def zab{K:AE}{cl:Nat->AK}{B:AK->Prop}{φ:Ph}{H:Hp}{call:Nat->List PV->SO->R PV}{ρ:IC.Env}:∀(items:List (Sum Ce Int)) {st st':SO} {vs:List PV} {xs:List V},evs call ρ st (yai items)=.ok vs st'->ye K cl B φ H vs xs->yaQ (items.map shC) (pick (items.map shC) xs)=xs/\(pick (items.map shC) xs).length=nKw (items.map shC)
 |[],st,st',vs,xs,h,l=>by
  erw[yai,evs]at h
  cases h
  erw[ye]at l;subst l;exact⟨rfl,rfl⟩
 |.inl c::r,st,st',vs,xs,h,l=>by
  erw[yai,evs]at h;let⟨v,s1,e1,h⟩:=zF h;let⟨ws,s2,e2,h⟩:=zF h
  cases h
  erw[ye]at l;let⟨y,ys,rfl,_,l⟩:=l;let⟨q1,q2⟩:=zab r e2 l;erw[AM,shC,pick,yaQ,nKw,AO,q1,q2];exact⟨trivial,trivial⟩
 |.inr i::r,st,st',vs,xs,h,l=>by
  erw[yai,evs,ev]at h;let⟨v,s1,e1,h⟩:=zF h;let⟨ws,s2,e2,h⟩:=zF h
  cases h
  cases e1
  erw[ye,yc]at l;let⟨y,ys,rfl,rfl,l⟩:=l;let⟨q1,q2⟩:=zab r e2 l;erw[AM,shC,pick,yaQ,nKw,q1,q2];exact⟨trivial,trivial⟩
def tK(S:Se)(X:Cx)(items:List (Sum Ce Int)):TA:=λσ H Q=>∃B φ st ρ,yp X.K S.cl B φ H st/\yu X.K S.cl B φ H ρ σ/\Run S X σ B φ H (RL S X B) (evs S.call ρ st (yai items)) λxs H'=>Q (pick (items.map shC) xs) H'
theorem PK.imp{t t':TA}(h:PK X kws t')(k:∀σ H Q,t σ H Q->t' σ H Q):PK X kws t:=λpos π s σ H Q I q=>h pos π s σ H Q I (k σ H Q q)
def zjw:PK X [] (tK S X []):=zlk.imp λσ H Q ⟨B,φ,st,ρ,rs,re,h⟩=>by
 erw[yai,evs]at h;exact h.ok rs (x:=[]) (by erw[ye])
def zkB{i:Int}(h:PK X kws (tK S X items)):PK X kws (tK S X (.inr i::items)):=h.imp λσ H Q ⟨B,φ,st,ρ,rs,re,h⟩=>by
 erw[yai,evs,ev,R.bind]at h;refine⟨B,φ,st,ρ,rs,re,?_⟩
 cases e:evs S.call ρ st (yai items)with
 |ok vs st'=>
  rw[e]at h;intro xs H' φ' s rs' l;exact h (.int i::xs) H' φ' s rs' (by erw[ye,yc];exact⟨_,_,rfl,rfl,l⟩)
 |exc c s=>rw[e]at h;exact h
 |bad=>rw[e]at h;exact h
def zkr(ha:PE X e (tE S X ca))(h:PK X kws (tK S X items)):PK X (⟨nm,e,kpos⟩ :: kws) (tK S X (.inl ca::items)):=(zg2 ha h).imp λσ H Q ⟨B,φ,st,ρ,rs,re,h⟩=>by
 erw[yai,evs]at h;refine tE.bind rs re h λx H1 v st1 φ1 s1 rs1 re1 rv h1=>⟨B,φ1,st1,ρ,rs1,re1,?_⟩;refine(Run.bind (Rel:=RL S X B) h1).mono λxs H2 kq=>?_;let⟨ws,st2,φ2,s2,rs2,l,h2⟩:=kq;exact h2.ok rs2 (x:=x::xs) (by erw[ye];exact⟨x,xs,rfl,rv.step s2,l⟩)
def zfI{fi:Nat}(F:yaK X.prog X.w X.K X.mg X.base (CX1 X.prog X.w) k f fd ps (spI X.K S.cl S.call fi))(hr:yav k X.A)(hg:Gl X x)(hm:X.mg x=AA (.ref f))(hk:An X.K (.ref f)=AD){np:Nat}(hb:∃g,ybC X.K fd ps ks g (gK np (items.map shC)))(hnp:ycq ces=np)
  (ha:PA X (e::es) (tAs S X ces)) (hkw:PK X kws (tK S X items)) (hall:(backToKw pos (keywordEach kws X.env)).all (·.1.isSome)=true:=by rfl) (hks:(backToKw pos (keywordEach kws X.env)).filterMap (·.1)=ks:=by rfl)
  (hdb:(x==("__debug__":AW))=false:=by decide) (he:starEach (e::es) X.env=(AG,eval e X.env)::starEach es X.env:=by rfl)
  (hpl:((backTo pos (starEach (e::es) X.env)).any (·.1) || (backToKw pos (keywordEach kws X.env)).any (·.1.isNone))=false:=by rfl):
  PE X (.Call (.Name x p) (e::es) kws pos) (tE S X (.call fi (ycj ces (yai items)))):=by
 intro π s σ H Q I ⟨B,φ,st,ρ,rs,re,h⟩;erw[ev]at h;rw[zea,R.bind_assoc]at h;refine Bp (zan I hg hm ?_ hdb);have h0:tAs S X ces σ H λvs H1=>tK S X items σ H1 λzs H2=>∃E:XK,spI X.K S.cl S.call fi (gK np (items.map shC) vs zs) H2 Q E/\∀π s e s',Inv X π σ H2 s->CX1 X.prog X.w X.stack H2 s E e s'->X.xe e s':=by
  have hlen:∀vs st',evs S.call ρ st ces=.ok vs st'->vs.length=np:=λvs st' q=>(zd3 ces q).trans hnp;refine⟨B,φ,st,ρ,rs,re,?_⟩
  cases q:evs S.call ρ st ces with
  |exc c s=>rw[q]at h;exact h
  |bad=>rw[q]at h;exact h
  |ok vs st1=>
  rw[q]at h;intro xs H1 φ1 s1 rs1 rv;have h1:=Run.on s1 h;have re1:=re.step s1;have hv:=hlen vs st1 q;refine⟨B,φ1,st1,ρ,rs1,re1,?_⟩;have h1:Run S X σ B φ1 H1 (RV S X B) (((evs S.call ρ st1 (yai items)).bind λa st=>(R.ok (vs++a) st:R (List PV))).bind λvs st1=>S.call fi vs st1) Q:=h1;rw[R.bind_assoc]at h1
  cases e:evs S.call ρ st1 (yai items)with
  |ok ws st2=>
   rw[e]at h1;intro ys H2 φ2 s2 rs2 l2;let⟨m1,m2⟩:=zab items e l2;have eg:gK np (items.map shC) xs (pick (items.map shC) ys)=xs++ys:=by
    unfold gK;rw[if_pos ⟨by rw[<-rv.length];exact hv,m2⟩,m1]
   show ∃E:XK,spI X.K S.cl S.call fi (gK np (items.map shC) xs (pick (items.map shC) ys)) H2 Q E/\_;rw[eg];exact zax rs2 ((rv.step s2).append l2) (Run.on s2 h1)
  |exc c s=>rw[e]at h1;exact h1
  |bad=>rw[e]at h1;exact h1
 refine PySem.W.callWith_KW (h₀:=X.base) I.ok.mod.kin hk hall (thn (ha pos π s σ H _ I h0) λus s1 kq=>?_) hpl he;let⟨vs,H1,I1,r,q⟩:=kq;refine thn (hkw pos π s1 σ H1 _ I1 q) λws s2 kq=>?_;let⟨zs,H2,I2,rz,E,q2,hx⟩:=kq;refine ⟨I2.kIn,?_⟩;rw[hks];let⟨g,hb⟩:=hb;have r2:=hb.rel r rz;have hl:(g us ws).length=ps.length:=by rw[<-r2.length];exact F.len _ _ _ _ q2
 refine HD (Dp (F.run X.A X.stack s2 H2 ⟨us,ks.zip ws⟩ (g us ws) (gK np (items.map shC) vs zs) Q E hr I2.env0 (hb.to s2 us ws I2.kIn hl) r2 q2) λr s' hq=>?_)
 cases r with
 |error e=>exact hx π s2 e s' I2 hq
 |ok fl=>
  cases fl with
  |ret u=>exact I2.after hq
  |next=>exact BZ hq
  |brk=>exact BZ hq
  |cont=>exact BZ hq
end
structure FnD(K:AE)(mg:AW->Option AF)(x:AW)(st:Bo)(ps:List AW)(ds:List Int)(f:AK)(fd:Ax):Prop where
 ex:∃(oc:AF) (od:Option AK) (dT:AK) (kV doc pm:AF) (an:Option AK) (cdv ct:AF) (osl:Array (Option AF)) (o:Bm) (its:Array AF) (n:Nat),
  fd=Bg x x (yX st) (yE st) (yg st) (.ref dT) kV doc pm an cdv ct/\K.lookup f=AA ⟨oc,od,.func fd,osl⟩/\CN K cdv x=AD/\K.lookup dT=AA o/\o.data=.seq its n/\Vals (ds.map V.int) its.toList
 kp:An K (.ref f)=AD
 m:mg x=AA (.ref f)
section
variable {P:A4}{w:Aa}{K:AE}{mg:AW->Option AF}{base:Aw}{cl:Nat->AK}{T:Nat->Option IC.Fn}{fi:Nat}{fn:IC.Fn}{x:AW}{stm:Bo}{f:AK}{fd:Ax}{N ps:List AW}{ds:List Int}{k:Nat}
end
def zbm(a b:Key):peq (yaf a) (yaf b)=decide (a=b):=by
 rw[FI]
 cases a with
 |inl i=>cases b with
  |inl j=>show (i==j)=AD ↔ _;simp
  |inr y=>show AG=AD ↔ _;simp
 |inr x=>cases b with
  |inl j=>show AG=AD ↔ _;simp
  |inr y=>show (x==y)=AD ↔ _;simp
mutual
theorem ziy:∀a b:NK,peq (nkP a) (nkP b)=decide (a=b)
 |.a k,.a j=>by
  rw[nkP,nkP,zbm]
  by_cases e:k=j<;>simp[e]
 |.a k,.t l=>by rw[nkP,nkP];cases k<;>simp[yaf,peq]
 |.t l,.a k=>by rw[nkP,nkP];cases k<;>simp[yaf,peq]
 |.t l,.t m=>by
  rw[nkP,nkP];erw[peq,zbY l m]
  by_cases e:l=m<;>simp[e]
theorem zbY:∀a b:List NK,ybA (yat a) (yat b)=decide (a=b)
 |[],[]=>by simp[yat,ybA]
 |[],y::ys=>by simp[yat,ybA]
 |x::xs,[]=>by simp[yat,ybA]
 |x::xs,y::ys=>by
  erw[yat,ybA,ziy x y,zbY xs ys]
  by_cases e:x=y<;>by_cases f:xs=ys<;>simp[e,f]
end
def zaj(a b:List NK):peq (.tup (yat a)) (.tup (yat b))=decide (a=b):=by
 erw[peq,zbY]
def zg1{k:PV}(h:yb0 k=AD):∃q,k=yaf q:=by
 cases k with
 |int i=>exact⟨.inl i,rfl⟩
 |str i=>exact⟨.inr i,rfl⟩
 |_=>cases h
mutual
theorem zks:∀(k:PV) (n:Nat),yd3 n k=AD->∃q:NK,k=nkP q/\Br (nkD q)=AD/\(nkD q).depth<=n
 |.int i,n,_=>⟨.a (.inl i),rfl,rfl,Bj _⟩
 |.str x,n,h=>⟨.a (.inr x),rfl,h,Bj _⟩
 |.tp k xs,n,h=>by
  erw[yd3,AH,decide_eq_true_eq,By]at h;let⟨q,e,c,d⟩:=zeL xs (n-1) h.2;refine⟨.t q,by rw[h.1.1,e];rfl,c,?_⟩;erw[nkD,Bf];lia
 |.non,n,h=>by cases h
 |.bl _,n,h=>by cases h
 |.lst _,n,h=>by cases h
 |.loc _,n,h=>by cases h
 |.exn _,n,h=>by cases h
 |.scr _,n,h=>by cases h
 |.fnc _,n,h=>by cases h
theorem zeL:∀(ks:List PV) (n:Nat),ybt n ks=AD->∃qs:List NK,ks=yat qs/\CY (yaR qs)=AD/\B6 (yaR qs)<=n
 |[],n,_=>⟨[],rfl,rfl,Bj _⟩
 |k::ks,n,h=>by
  erw[ybt,AH]at h;let⟨q,e1,c1,d1⟩:=zks k n h.1;let⟨qs,e2,c2,d2⟩:=zeL ks n h.2;refine⟨q::qs,by rw[e1,e2];rfl,by erw[yaR,CY,c1,c2];rfl,?_⟩;erw[yaR,B6];lia
end
section
variable {S:Se}{X:Cx}{K:AE}{cl:Nat->AK}{σ:St}{B:AK->Prop}{φ:Ph}{H:Hp}{st:SO}{p pos p2 px apos:CG}{a b c d o:AY}{ca cb cc:Ce}
def zkY{q:Key}{x:V}:yc K cl B φ H (yaf q) x ↔ x=kV q:=by
 cases q<;>simp[yaf,yc,kV]
mutual
theorem zdN:∀(q:NK) (x:V),yc K cl B φ H (nkP q) x->NKr H q x
 |.a k,x,r=>zkY.mp r
 |.t l,x,r=>by
  erw[nkP,yc]at r;let⟨y,xs,rfl,rt,rl⟩:=r;rcases rt with⟨rt,_⟩|⟨z,_⟩
  .exact⟨y,xs,rfl,rt,zdf l xs rl⟩
  .cases z
theorem zdf:∀(q:List NK) (xs:List V),ye K cl B φ H (yat q) xs->NKs H q xs
 |[],xs,l=>show xs=[]by simpa only[yat,ye] using l
 |q::qs,xs,l=>by
  erw[yat,ye]at l;let⟨y,ys,rfl,r,l⟩:=l;exact⟨y,ys,rfl,zdN q y r,zdf qs ys l⟩
end
theorem DK.look{q:Key}:∀{kvs:List (PV×PV)} {ks:List (Key×V)},DK K cl B φ H kvs ks->∀{v:PV} {x:V},yc K cl B φ H v x->yc K cl B φ H ((IC.look (yaf q) kvs).getD v) ((yaS ks q).getD x)
 |[],ks,h,v,x,r=>by cases h;exact r
 |(k,w)::t,ks,h,v,x,r=>by
  let⟨q',y,s,rfl,rfl,rv,l⟩:=h;erw[IC.look,zbm]
  by_cases e:q'=q
  .rw[zO (p:=(q',y)) e];simp[e,rv]
  .rw[zM (p:=(q',y)) e];erw[decide_eq_true_eq,e,if_false];exact DK.look l r
theorem DT.look{q:List NK}:∀{kvs:List (PV×PV)} {ks:List (List NK×V)},DT K cl B φ H kvs ks->∀{v:PV} {x:V},yc K cl B φ H v x->yc K cl B φ H ((IC.look (.tup (yat q)) kvs).getD v) ((yaS ks q).getD x)
 |[],ks,h,v,x,r=>by cases h;exact r
 |(k,w)::t,ks,h,v,x,r=>by
  let⟨q',y,s,rfl,rfl,rv,l⟩:=h;erw[IC.look,zaj]
  by_cases e:q'=q
  .rw[zO (p:=(q',y)) e];simp[e,rv]
  .rw[zM (p:=(q',y)) e];erw[decide_eq_true_eq,e,if_false];exact DT.look l r
theorem DK.any{q:Key}:∀{kvs:List (PV×PV)} {ks:List (Key×V)},DK K cl B φ H kvs ks->(kvs.any λp=>peq p.1 (yaf q))=ks.any λkv=>decide (kv.1=q)
 |[],ks,h=>by cases h;rfl
 |(k,w)::t,ks,h=>by
  let⟨q',y,s,rfl,rfl,rv,l⟩:=h;erw[CF,zbm,DK.any l]
theorem DT.any{q:List NK}:∀{kvs:List (PV×PV)} {ks:List (List NK×V)},DT K cl B φ H kvs ks->(kvs.any λp=>peq p.1 (.tup (yat q)))=ks.any λkv=>decide (kv.1=q)
 |[],ks,h=>by cases h;rfl
 |(k,w)::t,ks,h=>by
  let⟨q',y,s,rfl,rfl,rv,l⟩:=h;erw[CF,zaj,DT.any l]
theorem DK.map{q:Key}{v:PV}{x:V}(r:yc K cl B φ H v x):∀{kvs:List (PV×PV)} {ks:List (Key×V)},DK K cl B φ H kvs ks->DK K cl B φ H (kvs.map λp=>if peq p.1 (yaf q)=AD then(p.1,v)else p) (ks.map λkv=>if kv.1=q then(kv.1,x)else kv)
 |[],ks,h=>by cases h;exact rfl
 |(k,w)::t,ks,h=>by
  let⟨q',y,s,rfl,rfl,rv,l⟩:=h;erw[AM,zbm,decide_eq_true_eq]
  by_cases e:q'=q
  .simp only[e,if_true];exact⟨q,x,_,rfl,rfl,r,DK.map r l⟩
  .simp only[e,if_false];exact⟨q',y,_,rfl,rfl,rv,DK.map r l⟩
theorem DT.map{q:List NK}{v:PV}{x:V}(r:yc K cl B φ H v x):∀{kvs:List (PV×PV)} {ks:List (List NK×V)},DT K cl B φ H kvs ks->DT K cl B φ H (kvs.map λp=>if peq p.1 (.tup (yat q))=AD then(p.1,v)else p) (ks.map λkv=>if kv.1=q then(kv.1,x)else kv)
 |[],ks,h=>by cases h;exact rfl
 |(k,w)::t,ks,h=>by
  let⟨q',y,s,rfl,rfl,rv,l⟩:=h;erw[AM,zaj,decide_eq_true_eq]
  by_cases e:q'=q
  .simp only[e,if_true];exact⟨q,x,_,rfl,rfl,r,DT.map r l⟩
  .simp only[e,if_false];exact⟨q',y,_,rfl,rfl,rv,DT.map r l⟩
theorem DK.snoc{q:Key}{v:PV}{x:V}(r:yc K cl B φ H v x):∀{kvs:List (PV×PV)} {ks:List (Key×V)},DK K cl B φ H kvs ks->DK K cl B φ H (kvs++[(yaf q,v)]) (ks++[(q,x)])
 |[],ks,h=>by cases h;exact⟨q,x,[],rfl,rfl,r,rfl⟩
 |(k,w)::t,ks,h=>by
  let⟨q',y,s,rfl,rfl,rv,l⟩:=h;exact⟨q',y,_,rfl,rfl,rv,DK.snoc r l⟩
theorem DT.snoc{q:List NK}{v:PV}{x:V}(r:yc K cl B φ H v x):∀{kvs:List (PV×PV)} {ks:List (List NK×V)},DT K cl B φ H kvs ks->DT K cl B φ H (kvs++[(.tup (yat q),v)]) (ks++[(q,x)])
 |[],ks,h=>by cases h;exact⟨q,x,[],rfl,rfl,r,rfl⟩
 |(k,w)::t,ks,h=>by
  let⟨q',y,s,rfl,rfl,rv,l⟩:=h;exact⟨q',y,_,rfl,rfl,rv,DT.snoc r l⟩
theorem DK.put{q:Key}{v:PV}{x:V}{kvs:List (PV×PV)}{ks:List (Key×V)}(l:DK K cl B φ H kvs ks)(r:yc K cl B φ H v x):DK K cl B φ H (IC.put (yaf q) v kvs) (putK ks q x):=by
 unfold IC.put putK;rw[DK.any l];split
 .exact DK.map r l
 .exact DK.snoc r l
theorem DT.put{q:List NK}{v:PV}{x:V}{kvs:List (PV×PV)}{ks:List (List NK×V)}(l:DT K cl B φ H kvs ks)(r:yc K cl B φ H v x):DT K cl B φ H (IC.put (.tup (yat q)) v kvs) (putK ks q x):=by
 unfold IC.put putK;rw[DT.any l];split
 .exact DT.map r l
 .exact DT.snoc r l
theorem DK.len:∀{kvs:List (PV×PV)} {ks:List (Key×V)},DK K cl B φ H kvs ks->kvs.length=ks.length
 |[],ks,h=>by cases h;rfl
 |(k,w)::t,ks,h=>by
  let⟨q',y,s,rfl,rfl,rv,l⟩:=h;simp[DK.len l]
theorem DT.len:∀{kvs:List (PV×PV)} {ks:List (List NK×V)},DT K cl B φ H kvs ks->kvs.length=ks.length
 |[],ks,h=>by cases h;rfl
 |(k,w)::t,ks,h=>by
  let⟨q',y,s,rfl,rfl,rv,l⟩:=h;simp[DT.len l]
theorem yp.dct{n:Nat}{t:Bool}{kvs:List (PV×PV)}{x:V}(rs:yp K cl B φ H st)(r:yc K cl B φ H (.loc n) x)(h:st[n]?=AA (.dct t kvs)):∃y,x=.ref y/\φ[n]?=AA (AA y)/\ybH K cl B φ H (.dct t kvs) y:=by
 erw[yc]at r;let⟨hn,y,rfl,ha⟩:=r;let⟨z,hz⟩:=rs.liv n _ h (by intro z;cases z);obtain rfl:=ha z hz;let⟨o,ho,ro⟩:=rs.obj n z hz;rw[h]at ho;cases ho;exact⟨z,rfl,hz,ro⟩
def zH{v:PV}{t:Bool}{kvs:List (PV×PV)}(h:yR st v=AA (t,kvs)):∃n,v=.loc n/\st[n]?=AA (.dct t kvs):=by
 cases v with
 |loc n=>
  erw[yR]at h;split at h
  .rename_i t' xs q
   cases h
   exact⟨n,rfl,q⟩
  .cases h
 |_=>cases h
def zez{k:PV}(h:isKey AG k=AD):∃q,k=yaf q:=zg1 h
def zb3{k:PV}(h:isKey AD k=AD):∃q:List NK,k=.tup (yat q)/\ydb q:=by
 cases k with
 |tp b xs=>
  cases b with
  |false=>
   let⟨qs,rfl,c,d⟩:=zeL xs 5 h;exact⟨qs,rfl,c,Nat.le_succ_of_le d⟩
  |true=>cases h
 |_=>cases h
def zb2{q:List NK}{x:V}(hq:ydb q)(r:yc K cl B φ H (.tup (yat q)) x):∃y,x=.ref y/\KyR H q y:=by
 have r':yc K cl B φ H (nkP (.t q)) x:=r;let⟨b,xs,rfl,g,hs⟩:=zdN (.t q) x r';exact⟨b,rfl,⟨b,xs,rfl,g,hs⟩,hq⟩
def zei:PE X (.Dict [] [] pos) (tE S X (.dict0 AD)):=zlp.imp λσ H Q ⟨B,φ,st,ρ,rs,re,h⟩=>by
 erw[ev]at h;exact λp hp=>h _ _ (φ++[AA p]) (.push hp) (rs.push hp (rs.nB hp) ⟨[],zb,rfl⟩) (.loc_new rs)
def zjZ(hu:X.A.units+16<cLine)(ha:PE X a (tE S X ca))(hb:PE X b (tE S X cb))(hc:PE X c (tE S X cc))(m:M2 X a "get" apos b c pos:=by exact⟨rfl,rfl,rfl,rfl⟩):PE X (.Call (.Attribute a "get" apos) [b,c] [] pos) (tE S X (.mth .get ca (.cons cb (.cons cc .nil)))):=
 (ze3 hu ha hb hc m).imp λσ H Q ⟨B,φ,st,ρ,rs,re,h⟩=>by
  erw[ev]at h;refine tE.bind rs re h λx H1 v st1 φ1 s1 rs1 re1 rv h1=>?_;let⟨_,e1,h1⟩:=zeb h1;erw[yaA]at e1
  cases q:yR st1 v with
  |none=>rw[q]at e1;cases e1
  |some tk=>
   let⟨t,kvs⟩:=tk;let⟨n,rfl,hn⟩:=zH q;let⟨y,rfl,hy,ro⟩:=rs1.dct rv hn;refine⟨y,rfl,?_,?_⟩
   .cases t with
    |false=>let⟨ks,hk,_⟩:=ro;exact .inl ⟨ks,.inl hk⟩
    |true=>let⟨ks,hk,_⟩:=ro;exact .inr ⟨ks,.inl hk⟩
   .simp only[evs,R.bind_assoc]at h1;refine tE.bind rs1 re1 h1 λkx H2 kv st2 φ2 s2 rs2 re2 rk h2=>tE.bind rs2 re2 h2 λdx H3 dv st3 φ3 s3 rs3 re3 rd h3=>?_;erw[R.bind]at h3;unfold ybK at h3;erw[yc7]at h3
    cases q3:yR st3 (.loc n)with
    |none=>rw[q3]at h3;exact h3.elim
    |some tk3=>
     let⟨t3,kvs3⟩:=tk3;rw[q3]at h3;dsimp only at h3;split at h3
     .rename_i hk;let⟨n',e',hn3⟩:=zH q3
      cases e'
      let⟨y3,ey,hy3,ro3⟩:=rs3.dct ((rv.step s2).step s3) hn3
      cases ey
      have rk3:=rk.step s3
      cases t3 with
      |false=>
       let⟨q,rfl⟩:=zez hk;let⟨ks,hks,l⟩:=ro3;refine⟨yaS ks q,.inl ⟨ks,q,.inl hks,zkY.mp rk3,rfl⟩,h3.ok rs3 (DK.look l rd)⟩
      |true=>
       let⟨q,rfl,hq⟩:=zb3 hk;let⟨ks,hks,l⟩:=ro3;let⟨b',rfl,hb'⟩:=zb2 hq rk3;exact⟨yaS ks q,.inr ⟨ks,q,b',.inl hks,rfl,hb',rfl⟩,h3.ok rs3 (DT.look l rd)⟩
     .exact h3.elim
def zdD{st4:SO}{x y v:PV}(h:ya8 st x y v=AA st4):∃n t kvs,x=.loc n/\st[n]?=AA (.dct t kvs)/\isKey t y=AD/\kvs.length<1000000/\st4=st.set n (.dct t (IC.put y v kvs)):=by
 cases x with
 |loc n=>
  erw[ya8]at h;split at h
  .rename_i t kvs q;split at h
   .rename_i c;exact⟨n,t,kvs,rfl,q,c.1,c.2,(A3 h).symm⟩
   .cases h
  .cases h
 |_=>cases h
def zhv(hu:X.A.units+16<cLine)(ho:PE X b (tE S X cb))(hi:PE X c (tE S X cc))(hv:PE X a (tE S X ca))(hs:swapsWith a (AA (.Subscript b c px)) pos.line X.env=pure false:=by rfl):PS X (.Assign [.Subscript b c px] a pos) (tS S X (.dput cb cc ca)):=
 (zhe hu ho hi hv hs).imp λD σ H ⟨B,φ,st,ρ,rs,re,h⟩=>by
  erw[ex]at h;refine tE.fl rs re h λv' H1 v st1 φ1 s1 rs1 re1 rv h1=>tE.fl rs1 re1 h1 λx' H2 x st2 φ2 s2 rs2 re2 rx h2=>tE.fl rs2 re2 h2 λy' H3 y st3 φ3 s3 rs3 re3 ry h3=>?_
  cases e:ya8 st3 x y v with
  |none=>rw[e]at h3;exact h3.elim
  |some st4=>
   rw[e]at h3;let⟨n,t,kvs,rfl,hn,hk,hl,rfl⟩:=zdD e;let⟨l,rfl,hp,ro⟩:=rs3.dct (rx.step s3) hn;have rv3:=(rv.step s2).step s3;have hm:=zk7
   cases t with
   |false=>
    let⟨q,rfl⟩:=zez hk;let⟨ks,hks,ld⟩:=ro;have s4:Step φ3 H3 φ3 (L2.upd H3 l (.dK (putK ks q v'))):=.put (A5 hp);refine⟨l,_,rfl,.inl ⟨ks,q,hks,zkY.mp ry,by have:=ld.len;lia,rfl⟩,h3 σ _ φ3 s4 (rs3.put hp ⟨_,zb,(ld.put rv3).step s4⟩) (re3.step s4)⟩
   |true=>
    let⟨q,rfl,hq⟩:=zb3 hk;let⟨ks,hks,ld⟩:=ro;let⟨b',rfl,hb'⟩:=zb2 hq ry;have s4:Step φ3 H3 φ3 (L2.upd H3 l (.dT (putK ks q v'))):=.put (A5 hp);refine⟨l,_,rfl,.inr ⟨ks,q,b',hks,rfl,hb',by have:=ld.len;lia,rfl⟩,h3 σ _ φ3 s4 (rs3.put hp ⟨_,zb,(ld.put rv3).step s4⟩) (re3.step s4)⟩
theorem DK.fold:∀(kvs:List (AW×Int)) {acc:List (PV×PV)} {ks:List (Key×V)},DK K cl B φ H acc ks->DK K cl B φ H (kvs.foldl (λacc kv=>IC.put (.str kv.1) (.int kv.2) acc) acc) (yb2 ks (kvs.map λkv=>(ES kv.1,.int kv.2)))
 |[],acc,ks,l=>l
 |kv::r,acc,ks,l=>by
  unfold yb2;erw[Cf,AM];exact DK.fold r (l.put (q:=ES kv.1) (x:=.int kv.2) (by erw[yc]))
end
def Itd(lo:Int)(n:Nat):It:=⟨λi _=>i<n,λi H x H'=>H'=H/\x=.int (lo+i*(-1)),λi _=>n<=i⟩
def zbZ{P:A4}{w:Aa}{K:AE}{tg:AY}(it:AK)(lo:Int)(n:Nat):Turn P w K tg (Itd lo n) [it] it (λi h=>FW h it (lo+(i:Nat)*(-1)) ((n:Int)-(i:Nat)) (-1)) where
 mem:=by simp
 obj:=λi h st b hb=>by
  have e:b=it:=by simpa using hb
  subst e;exact⟨_,st,λv z=>by
   have z':Hx _=Data.cell v:=z
   cases z'⟩
 keep:=λi h h' st k=>k it (by simp) _ st
 item:=by
  intro X hP hw hK hc i π s σ H E I hf st hg;subst hP hw hK;let⟨f0,f1,f2,f3,f4,f5⟩:=hf it (by simp);have W:=Hy (prog:=X.prog) (w:=X.w) (I.ok.hd hc) it lo (-1) n;refine W.item i s _ _ hg st λv h' tk hv st' kk=>?_;let⟨t,rfl⟩:=hv;have I1:Inv X π σ H {s with heap:=h',toks:=tk}:=I.turned (λb o hb e=>kk b o (by simpa using hb) e) f0 f1 f3 f4 f5;exact⟨_,rfl,zew (s:={s with heap:=h',toks:=tk}) (n:="range_iterator") st' rfl rfl ⋯ ⟨.int (lo+i*(-1)),H,I1,⟨t,rfl⟩,⟨rfl,rfl⟩,st',λb hb=>(hf b hb).1⟩⟩
 done:=by
  intro X hP hw hK hc i π s σ H E I hf st hg;subst hP hw hK;let⟨f0,f1,f2,f3,f4,f5⟩:=hf it (by simp);exact Eo (I.ok.hd hc) st (by have:n<=i:=hg;lia) λh' eb=>⟨rfl,I.turned (t':=s.toks) (λb o hb e=>eb b o hb e) f0 f1 f3 f4 f5⟩
 self:=λ_ _ _ _ _ st h=>Ep st h
section
variable {S:Se}{X:Cx}{σ:St}{B:AK->Prop}{φ:Ph}{H:Hp}{p pos p3 p4:CG}{a b tg:AY}{ca cb:Ce}
def zdL{π:List (AK×Bm)}{σ:St}{H:Hp}{s:AI}{R:It->Hp->Prop}{E:AF->AI->Prop}{lo hi:Int}{t u v:Hr}{tk:Nat}(I:Inv X π σ H s)(h1:lo.natAbs<1000000000)(h2:hi.natAbs<1000000000)
  (q:R (Itd lo (lo-hi).toNat) H):AV (model X.prog X.w) X.A (pyIter (.ref s.heap.objs.size)) (PIE X π σ tg R) E {s with heap:=s.heap.push {cls:=.type "range",data:=.fields #[.int lo t,.int hi u,.int (-1) v]},toks:=tk}:=by
 refine GE (Hz ..) ?_ ?_
 .unfold IG;have e2:Bv lo hi (-1)=((lo-hi).toNat:Int):=by
   unfold Bv;rw[if_neg ⋯];split
   .rw[show -(-1:Int)=1 by decide,Et];lia
   .lia
  rw[e2];erw[Gz,AH,CW,decide_eq_true_eq,beq_iff_eq,show ¬(-1:Int) > 0 by decide,if_false];lia
 have I1:Inv X π σ H {s with heap:=s.heap.push {cls:=.type "range",data:=.fields #[.int lo t,.int hi u,.int (-1) v]},toks:=tk}:=I.kept λb o e=>AL _ e;refine⟨(s.heap.push {cls:=.type "range",data:=.fields #[.int lo t,.int hi u,.int (-1) v]}).objs.size,[(s.heap.push {cls:=.type "range",data:=.fields #[.int lo t,.int hi u,.int (-1) v]}).objs.size],_,_,H,rfl,
  I1.kept (t':=tk) λb o e=>AL _ e,zbZ _ lo (lo-hi).toNat,?_,λb hb=>?_,q⟩
 .have e1:lo+((0:Nat):Int)*(-1)=lo:=by simp
  have e2:(((lo-hi).toNat:Nat):Int)-((0:Nat):Int)=Bv lo hi (-1):=by
   unfold Bv;rw[if_neg ⋯];split
   .rw[show -(-1:Int)=1 by decide,Et];lia
   .lia
  show FW _ _ (lo+((0:Nat):Int)*(-1)) ((((lo-hi).toNat:Nat):Int)-((0:Nat):Int)) (-1);rw[e1,e2];exact AT _ rfl
 .have e:b=(s.heap.push {cls:=.type "range",data:=.fields #[.int lo t,.int hi u,.int (-1) v]}).objs.size:=by simpa using hb
  subst e;exact I1.fpOk (AR _) (I1.hok.fresh (AR _))
def zcX{lo:Int}{n:Nat}:Drw S X B φ H (yh n lo (-1)) (Itd lo n):=by
 refine⟨λφ' H' s=>by rw[zr];exact AR _,λi φ' H' s hi=>by rw[zr]at hi;exact hi,λi φ' H' st x H2 B' hB s rs hi q=>?_⟩;rw[zr]at hi;let⟨rfl,rfl⟩:=q;refine⟨.int (lo+i*(-1)),?_,by erw[yc],λ_ _ e=>e⟩;rw[z5,if_pos hi]
def zeM{j:Nat}(hg:Gl X "range")(hm:X.mg "range"=AC)(ha:PE X a (tE S X ca))(hb:PE X b (tE S X cb))(hs:starEach [a,b,.UnaryOp .USub (.Constant (.int 1) j p3) p4] X.env=[(AG,eval a X.env),(AG,eval b X.env),(AG,eval (.UnaryOp .USub (.Constant (.int 1) j p3) p4) X.env)]:=by rfl)
  (hs1:starEach [b,.UnaryOp .USub (.Constant (.int 1) j p3) p4] X.env=[(AG,eval b X.env),(AG,eval (.UnaryOp .USub (.Constant (.int 1) j p3) p4) X.env)]:=by rfl) (hs2:starEach [.UnaryOp .USub (.Constant (.int 1) j p3) p4] X.env=[(AG,eval (.UnaryOp .USub (.Constant (.int 1) j p3) p4) X.env)]:=by rfl):
  PI X tg (.Call (.Name "range" p) [a,b,.UnaryOp .USub (.Constant (.int 1) j p3) p4] [] pos) (tI S X (.rangeD ca cb)):=by
 intro π s σ H R I ⟨B,φ,st,ρ,rs,re,h⟩;erw[evi]at h;have h0:(ya5 (tE S X ca) (ya5 (tE S X cb) (ya5 (tUn (rU λi=>.int (-i)) (tC (.int 1))) ycE))) σ H λvs H1=>∃i j:Int,vs=[.int i,.int j,.int (-1)]/\i.natAbs<1000000000/\j.natAbs<1000000000/\R (Itd i (i-j).toNat) H1:=by
  refine tE.bind rs re h λx H1 v st1 φ1 s1 rs1 re1 rv h1=>tE.bind rs1 re1 h1 λy H2 w st2 φ2 s2 rs2 re2 rw h2=>?_;let⟨xs,e,h2⟩:=zbc h2;let⟨i,j,rfl,rfl,hi,hj,rfl⟩:=zeV e;erw[yc]at rv rw;subst rv rw;exact⟨1,rfl,i,j,rfl,hi,hj,h2.ok rs2 zcX⟩
 refine Call_ (zaA I hg hm HC (Bc (thn (zl ha (zl hb (zl (zif zgd zk4) zkU hs2) (by rw[hs1,hs2])) (by rw[hs,hs1]) pos π s σ H _ I h0) λus s1 kq=>?_) (by rw[hs,hs1]) (by rw[hs1];rfl)));let⟨vs,H1,I1,r1,q1⟩:=kq;let⟨i,j,e,hi,hj,q⟩:=q1;subst e
 cases r1 with
 |cons r rr=>
  cases rr with
  |cons r' rr=>
   cases rr with
   |cons r'' rr=>
    cases rr
    let⟨t,rfl⟩:=r;let⟨t',rfl⟩:=r';let⟨t'',rfl⟩:=r'';exact call_range_3 ⋯ (zdL I1 hi hj q) (.inl (PyProof.noPylong_small ⋯))
end
end L2
namespace WK
open PySem L2 IC
section
variable {K:AE}{cl:Nat->AK}{B:AK->Prop}{φ:Ph}{H:Hp}
def zf4:ye K cl B φ H [] []:=by erw[ye]
def zeN{v:PV}{x:V}{vs:List PV}{xs:List V}(h:yc K cl B φ H v x)(l:ye K cl B φ H vs xs):ye K cl B φ H (v::vs) (x::xs):=by
 erw[ye];exact⟨x,xs,rfl,h,l⟩
end
def ziL{P:A4}{w:Aa}{outer:List BP}{H:Hp}{s:AI}{e:AF}{s':AI}(h:CX1 P w outer H s (λ_ _ _=>False) e s'):False:=by
 let⟨_,_,_,_,_,_,_,_,_,_,_,_,_,_,z⟩:=h;exact z
def zd6{K:AE}{cl:Nat->AK}{B:AK->Prop}{φ:Ph}{H:Hp}:∀ns:List Int,ye K cl B φ H (ns.map .int) (ns.map V.int)
 |[]=>zf4
 |n::ns=>zeN (by erw[yc]) (zd6 ns)
def spX(K:AE)(call:Nat->List PV->SO->R PV)(fi:Nat):Sp:=λvs H Q E=>∀cl,spI K cl call fi vs H Q E
def zdP{K:AE}{call:Nat->List PV->SO->R PV}{fi:Nat}{H:Hp}{a:AK}{ns:List Int}(ht:∀ns:List Int,ns.length<=63->call fi [.scr (ns.map .int)] []=.ok (.bl AD) [])(hl:ns.length<=63)(hS:SqL K H a (ns.map V.int)):
  spX K call fi [.ref a] H (λv _=>v=.bl AD) λ_ _ _=>False:=by
 intro cl;refine⟨λ_=>False,[],[],[.scr (ns.map .int)],⟨rfl,λm n a e=>by simp at e,λn a e=>by simp at e,λn o e=>by simp at e,λa z=>by simp at z,λa z=>z.elim,λa z=>z.elim⟩,zeN ?_ zf4,?_⟩
 .simp only[yc];refine⟨a,_,rfl,?_,zd6 ns⟩;rcases hS with hS|hS
  .exact .inl ⟨hS,λz=>z,by simp⟩
  .exact .inr hS
 .rw[ht ns hl];intro x H' φ' _ _ r;simpa only[yc] using r
end WK
namespace L2
open PySem PySem.Spec PyProof.Rows IC
def zdI{l:List AW}(h:l.Nodup){i j:Nat}(hi:i<l.length)(hj:j<l.length)(e:l[i]=l[j]):i=j:=by
 rcases Nat.lt_trichotomy i j with q|q|q
 .exact absurd e (ER.mp h i j hi hj q)
 .exact q
 .exact absurd e.symm (ER.mp h j i hj hi q)
section
variable {X:Cx}{π:List (AK×Bm)}{σ:St}{H:Hp}{s:AI}
theorem Inv.drop{h':Aw}{m:AW->Option AF}{v:Option AF}{i:Nat}{n:AW}(I:Inv X π σ H s)(hN:X.N.Nodup)(hi:X.N[i]?=AA n)(hm:s.heap.Ns X.env.locals m)(look:∀(i:Nat) (x:AW) (v:V),X.N[i]?=AA x->σ[i]?=AA (AA v)->Vis X.env.scope x->∃u,RelV v u/\Look X.env s.heap m x u)(hs:BW X.env.locals s.heap h')(hn:h'.Ns X.env.locals (λx=>if x=n then v else m x)):Inv X π (σ.set i AC) H {s with heap:=h'}:=by
 have k:∀b u,b≠X.env.locals->s.heap.get? b=AA u->h'.get? b=AA u:=λb u hb q=>(hs.2 b hb).trans q;have nl:∀b o,X.s₀.heap.get? b=AA o->b≠X.env.locals:=λb o e=>Al (A8 (AX e) I.ok.above);refine⟨I.ok,I.os,I.bare,⟨λb o q n hb hx=>k b o (nl b o q) (I.base.keep b o q n hb hx),λb o q n hb hx=>?_,I.base.free,λb o q hx=>?_,I.base.tups,I.base.frzs,I.base.tbls⟩,⟨_,hn,λj x v e1 e2 hv=>?_⟩,λx c e=>?_,I.free,I.freeC,λp hp=>?_,λb u e=>?_,?_⟩
 .let⟨sl,q1⟩:=I.base.slot b o q n hb hx;exact⟨sl,k b _ (nl b o q) q1⟩
 .let⟨o',q1⟩:=I.base.there b o q hx;exact⟨o',k b o' (nl b o q) q1⟩
 .have hj:j≠i:=λz=>by
   subst z;rw[EY]at e2;erw[if_true]at e2;split at e2<;>cases e2
  rw[Aq (B0 hj)]at e2;have hx:x≠n:=λz=>by
   subst z;let⟨l1,g1⟩:=Ar.mp e1;let⟨l2,g2⟩:=Ar.mp hi;exact hj (zdI hN l1 l2 (g1.trans g2.symm))
  let⟨u,r,lk⟩:=look j x v e1 e2 hv;refine⟨u,r,?_⟩;rcases lk with⟨q1,q2⟩|⟨q1,c,q2,o,q3,q4⟩
  .exact .inl ⟨q1,by dsimp only;rw[if_neg hx];exact q2⟩
  .exact .inr ⟨q1,c,q2,o,k c o (I.cne x c q2) q3,q4⟩
 .let⟨v,o,ho,hd⟩:=I.cell x c e;exact⟨v,o,k c o (I.cne x c e) ho,hd⟩
 .let⟨q1,q2,q3,q4⟩:=I.pin p hp;exact⟨k _ _ q3 q1,q2,q3,q4⟩
 .refine(I.hok b u e).stay (λc v hc q=>k c v (λz=>?_) q) (λ_ q=>q) λ_ _ q=>q;have fr:=I.free;subst z;rcases hc with z|z
  .rw[z,e]at fr
   cases fr
  .rw[z]at fr
   cases fr
 .rw[Az];exact I.len
end
section
variable {X:Cx}{body suite:List Bo}{b₀:Bo}{x n:AW}{np hpos pos:CG}{W:AK}{i:Nat}
end
section
variable {S:Se}{X:Cx}{σ:St}{B:AK->Prop}{φ φ1:Ph}{H H1:Hp}{st:SO}{ρ:IC.Env}{D:Ends}{body suite:List Bo}{b₀:Bo}{x n:AW}{p p2 np hpos pos cpos:CG}{W:AK}{i:Nat}{cb ch:Css}{a e:AY}{es:List AY}{ca ce:Ce}{ces:Ces}
theorem yu.drop{K:AE}{cl:Nat->AK}(r:yu K cl B φ H ρ σ)(i:Nat):yu K cl B φ H (ρ.set i AC) (σ.set i AC):=by
 refine⟨by rw[Az,Az];exact r.len,λj w e=>?_⟩
 by_cases h:j=i
 .subst h;rw[EY]at e;erw[if_true]at e;split at e<;>cases e
 .rw[Aq (B0 h)]at e ⊢;exact r.get j w e
abbrev Se.quiet(S:Se):Se:={S with may:=AG}
theorem all_nil{P:Nat->Prop}:∀c∈([]:List Nat),P c:=λ_ h=>by cases h
theorem all_cons{P:Nat->Prop}{c:Nat}{cs:List Nat}(h:P c)(t:∀d∈cs,P d):∀d∈c::cs,P d:=λd hd=>by
 rcases Ac.mp hd with e|e
 .exact e ▸ h
 .exact t d e
structure ycG(K:AE)(mg:AW->Option AF)(C:AK)(x:AW):Prop where
 m:mg x=AA (.ref C)
 q:Fu K C [.type "ValueError",.type "Exception",.type "BaseException",.type "object"] "ValueError.__new__"=AD
def tyZ(cl:Nat->AK):Ty->AF
 |.cls d=>.ref (cl d)
 |_=>.type "ValueError"
def ygg(K:AE)(cl:Nat->AK)(c:Nat)(t:Ty):Prop:=BI K (.ref (cl c)) (tyZ cl t)=AA (yaZ (.exn c) t)
end
section
variable {S:Se}{X:Cx}{p pos p2 px apos:CG}{a b:AY}{ca cb:Ce}
def GCI(mg:AW->Option AF)(x:AW)(i:Int):Prop:=∃t,mg x=AA (.int i t)
def zjb{x:AW}{i:Int}(hg:Gl X x)(h:GCI X.mg x i)(hd:(x==("__debug__":AW))=false:=by decide):PE X (.Name x pos) (tE S X (.cst (.int i))):=by
 let⟨t,hm⟩:=h;exact(zdQ hg hm (show RelV (.int i) (.int i t)from ⟨t,rfl⟩) hd).imp λσ H Q ⟨B,φ,st,ρ,rs,re,h⟩=>by
  erw[ev]at h;exact h.ok rs (by erw[yc])
end
end L2
namespace WE
open PySem PySem.Spec PyProof.Rows
section
variable {prog:A4}{w:Aa}{A:A9}{E:AF->AI->Prop}{s:AI}
def ycF(h:Aw)(a t:AK)(i:Int):Prop:=∃o,h.get? a=AA o/\o.cls=.type "reversed"/\o.data=.fields #[.ref t,rawInt i]
theorem ycF.typeIs{a t:AK}{i:Int}(x:ycF s.heap a t i):s.TypeIs (.ref a) "reversed":=let ⟨o,ho,hc,_⟩:=x;⟨o,ho,hc⟩
end
end WE
namespace L2
open PySem PySem.Spec PyProof.Rows
end L2
namespace L2
open PySem PySem.Spec PyProof.Rows IC
open Classical in
section
variable {S:Se}{X:Cx}{σ:St}{B:AK->Prop}{φ φ1:Ph}{H H1:Hp}{st:SO}{ρ:IC.Env}{p pos p2 px py pt pt2:CG}{a b c d o a' b' c' d':AY}{ca cb cc cd ce cf:Ce}{π:List (AK×Bm)}{s:AI}{kt k2:Nat}{es:List AY}{ces:Ces}{x:AW}
end
end L2
namespace IC
open PySem
end IC
namespace L2
open PySem PySem.Spec PyProof.Rows IC
def ItC(x:AW):It:=⟨λi _=>i<x.cps.size,λi H v H'=>H'=H/\∃c,x.cps[i]?=AA c/\v=.str ⟨#[c]⟩,λi _=>x.cps.size<=i⟩
def zco{P:A4}{w:Aa}{K:AE}{tg:AY}(it:AK)(x:AW)(t:Hr)(nm:String)
  (hW:∀A:A9,A.handled=AC->Walks P w A it [it] [it] x.cps.size (SignAt x) (λi h=>h.IsStrIter it nm x t i)) (hI:∀A E (s:AI) i Q,s.heap.IsStrIter it nm x t i->Q (.ref it) s->AV (model P w) A (pyIter (.ref it)) Q E s)
  (hn:["enumerate","zip","dict_itemiterator","dict_reverseitemiterator","odict_iterator","itertools.zip_longest","itertools.pairwise"].contains nm=AG):
  Turn P w K tg (ItC x) [it] it (λi h=>i<=x.cps.size/\h.IsStrIter it nm x t i) where
 mem:=by simp
 obj:=λi h st b hb=>by
  have e:b=it:=by simpa using hb
  subst e;let⟨_,o,e,c,d⟩:=st;exact⟨o,e,λv z=>by rw[d]at z;cases z⟩
 keep:=λi h h' st k=>by
  let⟨l,o,e,r⟩:=st;exact⟨l,o,k it (by simp) o e,r⟩
 item:=by
  intro X hP hw hK hc i π s σ H E I hf st hg;subst hP hw hK;let⟨f0,f1,f2,f3,f4,f5⟩:=hf it (by simp);refine(hW X.A (I.ok.hd hc)).item i s _ _ hg st.2 λv h' tk hv st' kk=>?_;let⟨c,u,hx,rfl⟩:=hv;have I1:Inv X π σ H {s with heap:=h',toks:=tk}:=I.turned (λb o hb e=>kk b o (by simpa using hb) e) f0 f1 f3 f4 f5;let⟨o,e,cc,d⟩:=id st';exact⟨_,rfl,zew (s:={s with heap:=h',toks:=tk}) e cc d hn ⟨.str ⟨#[c]⟩,H,I1,⟨u,rfl⟩,⟨rfl,c,hx,rfl⟩,⟨hg,st'⟩,λb hb=>(hf b hb).1⟩⟩
 done:=by
  intro X hP hw hK hc i π s σ H E I hf st hg;subst hP hw hK;let⟨f0,f1,f2,f3,f4,f5⟩:=hf it (by simp);have e:i=x.cps.size:=Nat.le_antisymm st.1 hg;subst e;exact(hW X.A (I.ok.hd hc)).done s _ _ st.2 λh' tk kk=>⟨rfl,I.turned (λb o hb e=>kk b o (by simpa using hb) e) f0 f1 f3 f4 f5⟩
 self:=λA i s Q E st h=>hI A E s i Q st.2 h
def zfJ{X:Cx}{e tg:AY}{te:TE}(he:PE X e te):PI X tg e (λσ H R=>te σ H λv H1=>∃x,v=.str x/\R (ItC x) H1):=by
 intro π s σ H R I h;refine thn (he π s σ H _ I h) λv s1 kq=>?_;let⟨y,H1,I1,r1,q1⟩:=kq;let⟨x,rfl,q⟩:=q1;let⟨t,rfl⟩:=r1;have fp:∀(o:Bm),∀b∈[s1.heap.objs.size],ya2 X π H1 b:=λo b hb=>by
  have e:b=s1.heap.objs.size:=by simpa using hb
  subst e;exact I1.fpOk (AR _) (I1.hok.fresh (AR _))
 cases ha:x.cps.all (· < 128)
 .refine wpAny_pyIter_wide ha ?_;exact⟨_,[s1.heap.objs.size],_,_,H1,rfl,I1.kept (t':=s1.toks) λb o e=>AL _ e,zco _ x t "str_iterator" (λA hA=>Walks.strWide hA _ x t) (λA E s i Q st h=>wpAny_pyIter_striter_wide st h) ⋯,⟨Bj _,_,AT _ rfl,rfl,rfl⟩,fp default,q⟩
 .refine wpAny_pyIter_ascii ha ?_;exact⟨_,[s1.heap.objs.size],_,_,H1,rfl,I1.kept (t':=s1.toks) λb o e=>AL _ e,zco _ x t "str_ascii_iterator" (λA hA=>Walks.strAscii hA _ x t) (λA E s i Q st h=>wpAny_pyIter_striter_ascii st h) ⋯,⟨Bj _,_,AT _ rfl,rfl,rfl⟩,fp default,q⟩
section
variable {S:Se}{X:Cx}{σ:St}{B:AK->Prop}{φ:Ph}{H:Hp}{p p2 pos pos2 apos:CG}{a b tg:AY}{ca cb:Ce}
def zdj{x:AW}:Drw S X B φ H (x.cps.toList.map λc=>.str ⟨#[c]⟩) (ItC x):=by
 refine⟨λφ' H' s=>by simp[ItC],λi φ' H' s hi=>by simpa [ItC] using hi,λi φ' H' st v H2 B' hB s rs hi q=>?_⟩;let⟨rfl,c,hc,rfl⟩:=q;refine⟨.str ⟨#[c]⟩,?_,by erw[yc],λ_ _ e=>e⟩;simp[hc]
def zfu(hl:PE X a (tE S X ca)):PI X tg a (tI S X (.chars ca)):=
 (zfJ hl).imp λσ H R ⟨B,φ,st,ρ,rs,re,h⟩=>by
  erw[evi]at h;refine tE.bind rs re h λx H1 v st1 φ1 s1 rs1 re1 rv h1=>?_;let⟨xs,e,h1⟩:=zbc h1
  cases v with
  |str y=>
   erw[ybx]at e;split at e
   .cases e
    erw[yc]at rv;subst rv;exact⟨y,rfl,h1.ok rs1 zdj⟩
   .cases e
  |_=>cases e
end
end L2
namespace WE
open PySem PySem.Spec PyProof.Rows
section
variable {pg:A4}{wd:Aa}{A:A9}{Er:AF->AI->Prop}{s:AI}
end
end WE
namespace L2
open PySem PySem.Spec PyProof.Rows
end L2
namespace L2
open PySem PySem.Spec PyProof.Rows IC
inductive ybN(K:AE)(cl:Nat->AK)(w:Aa):List (AW×PV)->List BL->Prop
 |nil:ybN K cl w [] []
 |cons {k:AW} {v:PV} {t:Hr} {u:AF} {x:V} {D:List (AW×PV)} {es:List BL} (hr:RelV x u) (hv:∀B φ H,yc K cl B φ H v x) (h:ybN K cl w D es):ybN K cl w ((k,v)::D) (⟨EG w.params k,.str k t,u⟩ :: es)
def GD(K:AE)(w:Aa)(mg:AW->Option AF)(cl:Nat->AK)(x:AW)(D:List (AW×PV)):Prop:=
 ∃(y:AK) (es:Array BL) (ep:Nat),mg x=AA (.ref y)/\K.lookup y=AA ⟨.type "dict",AC,.dict es ep,#[]⟩/\(y==sysModules)=AG/\ybN K cl w D es.toList/\(D.map (·.1)).Nodup
theorem ybN.pairs{K:AE}{cl:Nat->AK}{P:A4}{w:Aa}{D:List (AW×PV)}{es:List BL}(h:ybN K cl w D es):
  ∃vs:List (AW×AF),Pairs (strKind P w) es vs/\(∀e∈es,∃k,(strKind P w).is k e.key=AD/\e.hash=(strKind P w).hash k)/\vs.map (·.1)=D.map (·.1) /\
   (∀s,(valueAt vs s).isSome=(yba s D).isSome)/\∀s v,yba s D=AA v->∃u x,valueAt vs s=AA u/\RelV x u/\∀B φ H,yc K cl B φ H v x:=by
 induction h with
 |nil=>exact⟨[],.nil,λe he=>(by cases he),rfl,λs=>rfl,λs v e=>by cases e⟩
 |@cons k v t u x D es hr hv h ih=>
  let⟨vs,h1,h2,h3,h4,h5⟩:=ih;have hat:∀s,valueAt ((k,u)::vs) s=if k=s then AA u else valueAt vs s:=λs=>by
   unfold valueAt;rw[CC]
   by_cases e:k=s
   .simp[e]
   .simp[e]
  refine⟨(k,u)::vs,.cons (GI P w k t) rfl h1,λe he=>?_,by rw[AM,AM,h3],λs=>?_,λs v' e=>?_⟩
  .rcases Ac.1 he with rfl|he
   .exact⟨k,GI P w k t,rfl⟩
   .exact h2 e he
  .rw[hat,yba]
   by_cases e:k=s
   .rw[if_pos e,if_pos (by simpa using e)];rfl
   .rw[if_neg e,if_neg (by simpa using e),h4]
  .rw[yba]at e;rw[hat]
   by_cases q:k=s
   .rw[if_pos (by simpa using q)]at e
    cases e
    exact⟨u,x,by rw[if_pos q],hr,hv⟩
   .rw[if_neg (by simpa using q)]at e;let⟨u',x',e1,e2,e3⟩:=h5 s v' e;exact⟨u',x',by rw[if_neg q];exact e1,e2,e3⟩
section
variable {S:Se}{X:Cx}{σ:St}{B:AK->Prop}{φ:Ph}{H:Hp}{st:SO}{pos p:CG}{a b i:AY}{ca cb:Ce}{x:AW}{D:List (AW×PV)}{ty:TE}
end
section
variable {K:AE}{cl:Nat->AK}{B:AK->Prop}{φ:Ph}{H:Hp}{st:SO}
end
section
variable {S:Se}{X:Cx}{K:AE}{cl:Nat->AK}{σ:St}{B:AK->Prop}{φ φ1:Ph}{H H1:Hp}{st:SO}{ρ:IC.Env}{pos p p2 px:CG}{a b c o tg l elt iter:AY}{ca cb cc ce:Ce}{ci:Cit}{ct:Tg}
end
section
variable {K:AE}{cl:Nat->AK}{B:AK->Prop}{φ:Ph}{H:Hp}{st:SO}
theorem FS.lookup{f:AW}:∀{fs:List (AW×PV)} {ks:List (AW×V)},FS K cl B φ H fs ks->(∀v,fs.lookup f=AA v->∃x,ks.lookup f=AA x/\yc K cl B φ H v x)/\(fs.lookup f=AC->ks.lookup f=AC)
 |[],ks,h=>by
  cases (show ks=[]from h)
  exact⟨nofun,λ_=>rfl⟩
 |(k,v)::r,ks,h=>by
  let⟨x,s,rfl,rv,l⟩:=h;let⟨q1,q2⟩:=FS.lookup (f:=f) l;erw[C0]
  cases e:f==k with
  |true=>exact⟨λw z=>by cases z;exact⟨x,rfl,rv⟩,λz=>by cases z⟩
  |false=>exact⟨q1,q2⟩
theorem FS.put{f:AW}{v:PV}{x:V}(r:yc K cl B φ H v x):∀{fs:List (AW×PV)} {ks:List (AW×V)},FS K cl B φ H fs ks->FS K cl B φ H (ybP f v fs) (yaM f x ks)
 |[],ks,h=>by
  cases (show ks=[]from h)
  exact⟨x,[],rfl,r,rfl⟩
 |(k,w)::q,ks,h=>by
  let⟨y,s,rfl,ry,l⟩:=h;erw[ybP,yaM]
  by_cases c:k=f
  .rw[if_pos c,if_pos c];exact⟨x,s,rfl,r,l⟩
  .rw[if_neg c,if_neg c];exact⟨y,_,rfl,ry,FS.put r l⟩
theorem FS.len:∀{fs:List (AW×PV)} {ks:List (AW×V)},FS K cl B φ H fs ks->fs.length=ks.length
 |[],ks,h=>by cases (show ks=[]from h);rfl
 |(k,w)::q,ks,h=>by
  let⟨y,s,rfl,ry,l⟩:=h;simp[FS.len l]
theorem yp.ins{n c:Nat}{fs:List (AW×PV)}{x:V}(rs:yp K cl B φ H st)(r:yc K cl B φ H (.loc n) x)(h:st[n]?=AA (.ins c fs)):∃y ks dx,x=.ref y/\φ[n]?=AA (AA y)/\H y=AA (.ins (cl c) dx ks)/\FS K cl B φ H fs ks:=by
 erw[yc]at r;let⟨hn,y,rfl,hy⟩:=r;let⟨a,ha⟩:=rs.liv n _ h (by intro z;cases z);let⟨o,ho,ro⟩:=rs.obj n a ha;have e:=hy a ha;subst e;rw[h]at ho
 cases ho
 let⟨ks,⟨dx,q⟩,l⟩:=ro;exact⟨a,ks,dx,rfl,ha,q,l⟩
end
section
variable {S:Se}{X:Cx}{σ:St}{B:AK->Prop}{φ φ1:Ph}{H H1:Hp}{st:SO}{ρ:IC.Env}{p pos pos' p2 apos:CG}{a b d o e:AY}{ca cb cc:Ce}{es:List AY}{ces:Ces}{c i k:Nat}{f m x:AW}{fa:AK}{fd:Ax}{ps:List AW}
def zcv{st:SO}{x v:PV}(h:ya3 c st x f=AA v):∃n fs,x=.loc n/\st[n]?=AA (.ins c fs)/\fs.lookup f=AA v:=by
 cases x with
 |loc n=>
  erw[ya3]at h;split at h
  .rename_i dd fs e;split at h
   .rename_i q;subst q;exact⟨n,fs,rfl,e,h⟩
   .cases h
  .cases h
 |_=>cases h
def zcU{st st4:SO}{x v:PV}(h:ybQ c st x f v=AA st4):∃n fs,x=.loc n/\st[n]?=AA (.ins c fs)/\fs.length<1000/\st4=st.set n (.ins c (ybP f v fs)):=by
 cases x with
 |loc n=>
  erw[ybQ]at h;split at h
  .rename_i dd fs e;split at h
   .rename_i q;let⟨q,q2⟩:=q;subst q
    cases h
    exact⟨n,fs,rfl,e,q2,rfl⟩
   .cases h
  .cases h
 |_=>cases h
def zim(hc:Cls X.K (S.cl c))(hn:yag X.K (S.cl c) f)(ha:PE X a (tE S X ca))(hb:attributeBase a f X.env (eval a X.env)=eval a X.env:=by rfl):PE X (.Attribute a f pos) (tE S X (.fld c ca f)):=
 (zjh ha hb).imp λσ H Q ⟨B,φ,st,ρ,rs,re,h⟩=>by
  erw[ev]at h;refine tE.bind rs re h λx H1 v st1 φ1 s1 rs1 re1 rv h1=>?_;let⟨z,e,q⟩:=zz h1 rs1;let⟨n,fs,rfl,hn',l⟩:=zcv e;let⟨y,ks,dx,rfl,_,hy,lr⟩:=rs1.ins rv hn';let⟨x,hx,rx⟩:=lr.lookup.1 z l;exact⟨y,S.cl c,dx,ks,x,rfl,hy,hc,hn,hx,q x H1 φ1 .rfl rs1 rx⟩
def zj0(hc:Cls X.K (S.cl c))(hn:yag X.K (S.cl c) f)(ha:PE X a (tE S X ca))(hv:PE X b (tE S X cb))(hs:swapsWith b (AA (.Attribute a f pos')) pos.line X.env=pure false:=by rfl):PS X (.Assign [.Attribute a f pos'] b pos) (tS S X (.sfl c ca f cb)):=
 (zi5 ha hv hs).imp λD σ H ⟨B,φ,st,ρ,rs,re,h⟩=>by
  erw[ex]at h;refine tE.fl rs re h λv' H1 v st1 φ1 s1 rs1 re1 rv h1=>tE.fl rs1 re1 h1 λx' H2 x st2 φ2 s2 rs2 re2 rx h2=>?_
  cases e:ybQ c st2 x f v with
  |none=>rw[e]at h2;exact h2.elim
  |some st4=>
   rw[e]at h2;let⟨n,fs,rfl,hn',hl,rfl⟩:=zcU e;let⟨y,ks,dx,rfl,hp,hy,lr⟩:=rs2.ins rx hn';refine⟨y,S.cl c,dx,ks,rfl,hy,hc,hn,by rw[<-lr.len];exact hl,?_⟩;have s4:Step φ2 H2 φ2 (L2.upd H2 y (.ins (S.cl c) dx (yaM f v' ks))):=.put (A5 hp);exact h2 σ _ φ2 s4 (rs2.put (o:=.ins c (ybP f v fs)) hp ⟨_,⟨dx,zb⟩,(FS.put (rv.step s2) lr).step s4⟩) (re2.step s4)
theorem noX:ybe (CX1 X.prog X.w) X (λ_ _ _=>False):=λπ σ H s e s' _ z=>by
 let⟨_,_,_,_,_,_,_,_,_,_,_,_,_,_,z⟩:=z;exact z.elim
def zdZ{vs:List PV}{xs:List V}{Q:VK}{rs:yp X.K S.cl B φ H st}(l:ye X.K S.cl B φ H vs xs)(h:Run S X σ B φ H (RV S X B) ((ybh (S.call i (.loc st.length::vs) (st++[.ins c []]))).bind λv st2=>newV st.length v st2) Q):
  ∀x dx,H x=AC->H dx=AC->dx≠x->spI X.K S.cl S.call i (.ref x::xs) (L2.upd (L2.upd H dx (.own x)) x (.ins (S.cl c) dx [])) (λv H2=>v=.non/\Q (.ref x) H2) (λ_ _ _=>False):=by
 intro x dx hx hdx ne;have hx':L2.upd H dx (.own x) x=none:=by rw[za (B0 ne)];exact hx
 have t1:Step φ H φ (L2.upd H dx (.own x)):=.upd hdx;have rs1:=rs.upd (o:=.own x) hdx;have t2:Step φ (L2.upd H dx (.own x)) (φ++[AA x]) (L2.upd (L2.upd H dx (.own x)) x (.ins (S.cl c) dx [])):=.push hx';have rs2:=rs1.push hx' (rs1.nB hx') (o:=.ins c []) ⟨[],⟨dx,zb⟩,rfl⟩;have ll:yc X.K S.cl B (φ++[AA x]) (L2.upd (L2.upd H dx (.own x)) x (.ins (S.cl c) dx [])) (.loc st.length) (.ref x):=.loc_new rs1;refine⟨B,φ++[AA x],st++[.ins c []],.loc st.length::vs,rs2,?_,?_⟩
 .simp only[ye];exact⟨.ref x,xs,rfl,ll,(l.step t1).step t2⟩
 .cases e:S.call i (.loc st.length::vs) (st++[.ins c []])with
  |ok v st'=>
   rw[e]at h;erw[ybh,R.bind]at h
   cases v with
   |non=>
    intro z H' φ' s rs' rz;erw[yc]at rz;exact⟨rz,h (.ref x) H' φ' ((t1.trans t2).trans s) rs' (ll.step s)⟩
   |_=>exact h.elim
  |exc k s=>rw[e]at h;exact h.elim
  |bad=>rw[e]at h;exact h.elim
def zig(M:Mk X.K (S.cl c) fa)(F:yaK X.prog X.w X.K X.mg X.base (CX1 X.prog X.w) k fa fd ps (spI X.K S.cl S.call i))(hr:yav (k+1) X.A)(hg:Gl X x)(hm:X.mg x=AA (.ref (S.cl c)))(hb:Binds X.K fd ps [])
  (ha:PA X (e::es) (tAs S X ces)) (hdb:(x==("__debug__":AW))=false:=by decide) (he:starEach (e::es) X.env=(AG,eval e X.env)::starEach es X.env:=by rfl) (hpl:(backTo pos (starEach es X.env)).any (·.1)=false:=by rfl):
  PE X (.Call (.Name x p) (e::es) [] pos) (tE S X (.new c i ces)):=
 (zgY M F hr hg hm hb .nil noX ha hdb he hpl).imp λσ H Q ⟨B,φ,st,ρ,rs,re,h⟩=>by
  erw[ev]at h;refine tAs.bind rs re h λxs H1 vs st1 φ1 s1 rs1 re1 rv h1=>?_;rw[Cd];exact zdZ (rs:=rs1) rv h1
end
inductive ybT(w:Aa)(fa:Nat->AK):List (AW×Nat)->List BL->Prop
 |nil:ybT w fa [] []
 |cons {k:AW} {i:Nat} {t:Hr} {D:List (AW×Nat)} {es:List BL} (h:ybT w fa D es):ybT w fa ((k,i)::D) (⟨EG w.params k,.str k t,.ref (fa i)⟩ :: es)
def GDF(K:AE)(w:Aa)(mg:AW->Option AF)(fa:Nat->AK)(x:AW)(D:List (AW×Nat)):Prop:=
 ∃(y:AK) (es:Array BL) (ep:Nat),mg x=AA (.ref y)/\K.lookup y=AA ⟨.type "dict",AC,.dict es ep,#[]⟩/\ybT w fa D es.toList/\(D.map (·.1)).Nodup
theorem ybT.pairs{P:A4}{w:Aa}{fa:Nat->AK}{D:List (AW×Nat)}{es:List BL}(h:ybT w fa D es):
  ∃vs:List (AW×AF),Pairs (strKind P w) es vs/\(∀e∈es,∃k,(strKind P w).is k e.key=AD/\e.hash=(strKind P w).hash k)/\vs.map (·.1)=D.map (·.1) /\
   ∀s i,D.lookup s=AA i->valueAt vs s=AA (.ref (fa i)):=by
 induction h with
 |nil=>exact⟨[],.nil,λe he=>(by cases he),rfl,λs v e=>by cases e⟩
 |@cons k i t D es h ih=>
  let⟨vs,h1,h2,h3,h5⟩:=ih;have hat:∀s,valueAt ((k,Ab (fa i))::vs) s=if k=s then AA (.ref (fa i))else valueAt vs s:=λs=>by
   unfold valueAt;rw[CC]
   by_cases e:k=s
   .simp[e]
   .simp[e]
  refine⟨(k,.ref (fa i))::vs,.cons (GI P w k t) rfl h1,λe he=>?_,by rw[AM,AM,h3],λs j e=>?_⟩
  .rcases Ac.1 he with rfl|he
   .exact⟨k,GI P w k t,rfl⟩
   .exact h2 e he
  .rw[hat];erw[C0]at e
   by_cases q:k=s
   .subst q;rw[beq_self_eq_true]at e
    cases e
    rw[if_pos rfl]
   .rw[beq_eq_false_iff_ne.2 (B0 q)]at e;rw[if_neg q];exact h5 s j e
section
variable {S:Se}{X:Cx}{σ:St}{B:AK->Prop}{φ:Ph}{H:Hp}{st:SO}{ρ:IC.Env}{pos p p1 p2 p3 p4 p5 p6 p7:CG}{a b i e n:AY}{es:List AY}{ca cn:Ce}{ces:Ces}{x y:AW}{D:List (AW×Nat)}{ty:TE}{t:TA}{fa:Nat->AK}{fdd:Nat->Ax}{ps:Nat->List AW}{k ix:Nat}
structure Makers(S:Se)(X:Cx)(k:Nat)(D:List (AW×Nat))(fa:Nat->AK)(fdd:Nat->Ax)(ps:Nat->List AW):Prop where
 F:∀s j,D.lookup s=AA j->yaK X.prog X.w X.K X.mg X.base (CX1 X.prog X.w) k (fa j) (fdd j) (ps j) (spI X.K S.cl S.call j)
 kp:∀s j,D.lookup s=AA j->An X.K (.ref (fa j))=AD
 b:∀s j,D.lookup s=AA j->Binds X.K (fdd j) (ps j) []
end
section
variable {P:A4}{w:Aa}{K:AE}{mg:AW->Option AF}{base:Aw}{cl:Nat->AK}{T:Nat->Option IC.Fn}{fi:Nat}{fn:IC.Fn}{x qual:AW}{stm:Bo}{f:AK}{fd:Ax}{N ps:List AW}{k m:Nat}
def zfj:yaK P w K mg base (CX1 P w) m f fd ps (spI K cl (yd T 0) fi):=
 ⟨λvs H Q E ⟨_,_,_,_,_,_,h⟩=>by rw[yd]at h;exact h.elim,λA outer s H args us vs Q E _ _ _ _ ⟨_,_,_,_,_,_,h⟩=>by rw[yd]at h;exact h.elim⟩
end
theorem yax.units{k:Nat}{A:A9}(r:yax k A):A.units+64<cLine:=by have:=r.un;lia
section
variable {P:A4}{w:Aa}{K:AE}{mg:AW->Option AF}{base:Aw}{cl:Nat->AK}{T:Nat->Option IC.Fn}{fi:Nat}{fn:IC.Fn}{x qual:AW}{stm:Bo}{f:AK}{fd:Ax}{N ps:List AW}{k m:Nat}
def zeY(hT:T fi=AA fn)(hns:N.length=fn.ns)(hpu:fn.pure=AG){scope:BR}{cdv:AF}{A:A9}{outer:List BP}{s:AI}{vs:List V}{H:Hp}{Q:VK}(h:spI K cl (yd T (k+1)) fi vs H Q E0):
  tSs ⟨cl,yd T k,AG⟩ (ybi P w K mg base N qual scope f cdv A outer s H) fn.body {nx:=λ_ H'=>Q .non H',rt:=Q} (L2.start N vs) H:=by
 let⟨B,φ,st,args,rs,l,h⟩:=h;have hl:args.length=fn.np:=zdO (k:=k) hT args st λz=>by rw[z]at h;exact h
 have hlen:=l.length;rw[yd,hT]at h;dsimp only at h;rw[if_pos hl,hpu,if_neg (by simp)]at h;refine⟨B,φ,st,_,rs,yu.start l (fn.ns-fn.np) ∅,?_⟩;show yay _ _ _ _ _ (exs (yd T k) (args.map AA++Ay (fn.ns-fn.np) AC) st fn.body) _
 cases e:exs (yd T k) (args.map AA++Ay (fn.ns-fn.np) AC) st fn.body with
 |nx ρ' st'=>
  rw[e]at h;intro σ' H' φ' s' rs' re';exact h .non H' φ' s' rs' (by erw[yc])
 |rt v st'=>
  rw[e]at h;intro y H' φ' s' rs' rv;exact h y H' φ' s' rs' rv
 |exc c ρ' st'=>
  rw[e]at h;intro σ' φ1 H1 ev s' s1 _ ex;rcases ex with⟨π,H2,s2,φ2,I,s3,q⟩|⟨hm,_⟩|⟨hm,_⟩
  .let⟨_,cls,_,H',_,_,_,_,_,_,_,_,_,_,e1,φ',s4,r⟩:=q;exact(h H' φ' (s1.trans (s3.trans s4)) r).elim
  .cases hm
  .cases hm
 |bk ρ' st'=>rw[e]at h;exact h.elim
 |ct ρ' st'=>rw[e]at h;exact h.elim
 |bad=>rw[e]at h;exact h.elim
def zis(hT:T fi=AA fn)(F:Fun K x qual stm f fd)(Sc:yaw N ps (yg stm))(hnp:ps.length=fn.np)(hns:N.length=fn.ns)(hpu:fn.pure=AG)
  (body:∀(cdv:AF) (A:A9) (outer:List BP) (s:AI) (H:Hp),yax m (A.deeper (envOfC qual (yg stm) s.heap.objs.size f cdv)) ->
   PSs (ybi P w K mg base N qual (yg stm) f cdv A outer s H) (yE stm) (tSs ⟨cl,yd T k,AG⟩ (ybi P w K mg base N qual (yg stm) f cdv A outer s H) fn.body)):
  ybu P w K mg base (m+1) f fd ps (spI K cl (yd T (k+1)) fi):=
 F.okH Sc (λvs H Q E h=>zgc hT hnp h) λcdv A outer s H vs Q hr h=>⟨_,body cdv A outer s H hr,zeY hT hns hpu h⟩
def zfm:ybu P w K mg base m f fd ps (spI K cl (yd T 0) fi):=
 ⟨λvs H Q E ⟨_,_,_,_,_,_,h⟩=>by rw[yd]at h;exact h.elim,λA outer s H args us vs Q _ _ _ _ ⟨_,_,_,_,_,_,h⟩=>by rw[yd]at h;exact h.elim⟩
end
section
variable {S:Se}{X:Cx}{σ:St}{B:AK->Prop}{φ:Ph}{H:Hp}{st:SO}{ρ:IC.Env}{p pos:CG}{e:AY}{es:List AY}{ces:Ces}{fi k:Nat}{x:AW}{f:AK}{fd:Ax}{ps:List AW}
end
end L2
namespace L2
open PySem IC
section
variable {S:Se}{X:Cx}{σ:St}{B:AK->Prop}{φ φ1:Ph}{H H1:Hp}{st:SO}{ρ:IC.Env}{p pos p2 px py pt pt2:CG}{a b c d o a' b' c' d':AY}{ca cb cc cd ce cf:Ce}{π:List (AK×Bm)}{s:AI}{kt k2:Nat}{es:List AY}{ces:Ces}{x:AW}
end
end L2
namespace L2
open PySem PySem.Spec PyProof.Rows
section
variable {X:Cx}
end
end L2
namespace L2
open PySem PySem.Spec PyProof.Rows IC
section
variable {S:Se}{X:Cx}{σ:St}{B:AK->Prop}{φ φ1:Ph}{H H1:Hp}{st:SO}{ρ:IC.Env}{p pos p2 apos:CG}{a b c d:AY}{ca cb cc:Ce}{es:List AY}{ces:Ces}{K:AE}{cl:Nat->AK}
end
section
variable {S:Se}{X:Cx}{a b:AY}{c i:Nat}{j:Int}{f:AW}{pos tpos:CG}
def ziO(hc:Cls X.K (S.cl c))(hn:yag X.K (S.cl c) f)(ha:PE X a (tE S X (.var i)))(hv:PE X b (tE S X (.cst (.int j)))):
  PS X (.AugAssign (.Attribute a f tpos) .Add b pos) (tS S X (.sfl c (.var i) f (.bin .add (.fld c (.var i) f) (.cst (.int j))))):=
 (zef ha hv ziJ).imp λD σ H ⟨B,φ,st,ρ,rs,re,h⟩=>by
  erw[ex,ev]at h
  cases q:ρ[i]? with
  |none=>rw[q]at h;exact h.elim
  |some o=>
   cases o with
   |none=>rw[q]at h;exact h.elim
   |some x=>
    rw[q]at h;dsimp only[R.bind]at h;refine⟨B,φ,st,ρ,rs,re,?_⟩;erw[ev,q];intro x' H1 φ1 s1 rs1 rx;have re1:=re.step s1;have h:=yay.on s1 h
    cases e:ya3 c st x f with
    |none=>rw[e]at h;exact h.elim
    |some v=>
     rw[e]at h;let⟨n,fs,rfl,hn',l⟩:=zcv e;let⟨y,ks,dx,rfl,hp,hy,lr⟩:=rs1.ins rx hn';let⟨x,hx,rxv⟩:=lr.lookup.1 v l;refine⟨y,S.cl c,dx,ks,x,rfl,hy,hc,hn,hx,⟨B,φ1,st,ρ,rs1,re1,?_⟩⟩;erw[ev];intro y' H2 φ2 s2 rs2 ry;erw[yc]at ry;subst ry
     cases v with
     |int k=>
      erw[yc]at rxv;subst rxv;refine⟨k,j,rfl,rfl,?_⟩;have h:yay S X B φ1 H1 (match ybQ c st (.loc n) f (.int (k+j))with|some st3=>Fl.nx ρ st3|none=>Fl.bad) D:=h;have h:=yay.on s2 h;have rx2:=rx.step s2;let⟨y2,ks2,dx2,e2,hp2,hy2,lr2⟩:=rs2.ins rx2 hn'
      cases e2
      cases e3:ybQ c st (.loc n) f (.int (k+j))with
      |none=>rw[e3]at h;exact h.elim
      |some st4=>
       rw[e3]at h;let⟨n',fs',z,hn2,hl,rfl⟩:=zcU e3
       cases z
       rw[hn']at hn2
       cases hn2
       refine⟨dx2,ks2,hy2,by rw[<-lr2.len];exact hl,?_⟩;have s4:Step φ2 H2 φ2 (L2.upd H2 y (.ins (S.cl c) dx2 (yaM f (.int (k+j)) ks2))):=.put (A5 hp2);exact h σ _ φ2 s4 (rs2.put (o:=.ins c (ybP f (.int (k+j)) fs)) hp2 ⟨_,⟨dx2,zb⟩,(FS.put (by erw[yc]) lr2).step s4⟩) ((re1.step s2).step s4)
     |_=>exact h.elim
end
end L2
namespace HT
open PySem PySem.Spec PyProof.Rows
section
variable {prog:A4}{w:Aa}{A:A9}{E:AF->AI->Prop}{s:AI}
def zcY(n:Nat):BK ((n:Int)-1) (-1) (-1)=n:=by
 unfold BK;rw[if_neg ⋯]
 by_cases h:(n:Int)-1 > -1
 .rw[if_pos h];have:-(-1:Int)=1:=rfl;rw[this,Et];lia
 .rw[if_neg h];lia
def zag{sl:AK}{n:Nat}{t:Hr}{Q:Int×Int×Nat->AI->Prop}(hs:s.heap.IsSliceOf sl .none .none (.int (-1) t))
  (h:Q ((n:Int)-1,-1,n) s):AV (model prog w) A (CO (.ref sl) (pure (n:Int))) Q E s:=by
 let⟨os,hos,hcs,hds⟩:=id hs;unfold CO EN;refine AB (AB (BS hos hds (x:=.none) rfl (AB (BS hos hds (x:=.none) rfl (AB (BS hos hds (x:=.int (-1) t) rfl (AJ ?_)))))));refine AB (slicePart_int ?_);show AV _ _ (if ((-1:Int)==0)=AD then _ else _) _ _ s;rw[if_neg ⋯];refine AB (EA (AB (EA (AB (AJ ?_)))));show AV _ _ (pure ((n:Int)-1,(-1:Int),BK ((n:Int)-1) (-1) (-1))) _ _ s;rw[zcY];exact AJ h
def zch{α β:Type}{f g:α->Option β}:∀l:List α,(∀x∈l,f x=g x)->l.filterMap f=l.filterMap g
 |[],_=>rfl
 |a::l,h=>by
  rw[Bi,Bi,h a A0,zch l λx hx=>h x (AN _ hx)]
def zfH(l:List AF):((D1 l.toArray.size).filterMap λ(m:Nat)=>l.toArray[((l.toArray.size:Int)-1+(m:Int)*(-1)).toNat]?)=l.reverse:=by
 refine EZ λi=>?_;have e:∀m:Nat,m<l.length->l.toArray[((l.toArray.size:Int)-1+(m:Int)*(-1)).toNat]?=AA (l.reverse.getD m .none):=λm hm=>by
  rw[AZ,show ((l.length:Int)-1+(m:Int)*(-1)).toNat=l.length-1-m by lia];rw[List.getElem?_toArray,EH,List.getElem?_reverse hm,BO ∅];rfl
 have e2:((D1 l.toArray.size).filterMap λ(m:Nat)=>l.toArray[((l.toArray.size:Int)-1+(m:Int)*(-1)).toNat]?)=(D1 l.length).map λm=>l.reverse.getD m .none:=by
  rw[<-List.filterMap_eq_map,AZ];refine zch _ λm hm=>?_;have:=e m (FT.1 hm);rw[AZ]at this;exact this
 rw[e2,BJ]
 by_cases hi:i<l.length
 .rw[List.getElem?_range hi];show AA (l.reverse.getD i .none)=_;rw[EH,BO (by simpa using hi)];rfl
 .rw[BQ (by simpa using hi),BQ (by simpa using hi)];rfl
theorem getItem_tuple_rev{t sl:AK}{l:List AF}{tk:Hr}{Q:AF->AI->Prop}(ht:Hw s.heap t l.toArray)(hs:s.heap.IsSliceOf sl .none .none (.int (-1) tk))
  (h:Q (.ref s.heap.objs.size) {s with heap:=s.heap.push {cls:=.type "tuple",data:=.seq l.reverse.toArray} })
  (hsz:l.length<=sizeLine):AV (model prog w) A (getItem (.ref t) (.ref sl)) Q E s:=by
 have htake:sizeOk (.seq l.reverse.toArray):=by
  show l.reverse.toArray.size<=sizeLine;rw[AZ,C7];exact hsz
 let⟨os,hos,hcs,hds⟩:=id hs;have hTs:s.TypeIs (.ref sl) "slice":=⟨os,hos,hcs⟩;unfold getItem
 try with_reducible refine Bd ?_
 first|refine AB (AJ ?_)|skip
 refine AB (EW ht.typeIs ⋯ ?_);refine AB (As (name:=AS "__getitem__") ht.typeIs Ah
  (BC Ah ht.typeIs Dm ?_ (EB _ _)))
 show AV _ _ (CK (.ref t) >>= _) _ _ s;refine AB (EO ht ?_);refine AB (DO hTs ?_);rw[if_pos ⋯];refine AB (zag hs ?_);have hno:¬((((l.toArray.size:Int)-1)==0&&(-1:Int)==1&&l.toArray.size==l.toArray.size)=AD):=by
  intro q;rw[AH,AH]at q;exact absurd q.1.2 ⋯
 show AV _ _ (if (((l.toArray.size:Int)-1)==0&&(-1:Int)==1&&l.toArray.size==l.toArray.size)=AD then _ else _) _ _ s;rw[if_neg hno,zfH]
 first
  |exact AB (m:=BF _) (Ag (AJ ⟨_,rfl,AJ h⟩) htake)
  |exact AB (m:=BF _) (Ag (AB (AJ (AJ ⟨_,rfl,AJ h⟩))) htake)
  |exact AB (AB (m:=BF _) (Ag (AJ (AJ ⟨_,rfl,AJ h⟩)) htake))
  |exact AB (AB (m:=BF _) (Ag (AJ ⟨_,rfl,AJ h⟩) htake))
end
end HT
namespace L2
open PySem PySem.Spec PyProof.Rows IC
section
variable {S:Se}{X:Cx}{pos p2:CG}{e e3:AY}{te t3:TE}{a:AY}{ca c3:Ce}
def zh7(he:PE X e te)(h3:PE X e3 t3):PE X (.Subscript e (.Slice AC AC (AA e3) p2) pos) (λσ H Q=>te σ H λx H1=>t3 σ H1 λk H2=>k=.int (-1)/\∃a xs,x=.ref a/\((SqT X.K H2 a xs/\∀p,H2 p=AC->Q (.ref p) (upd H2 p (.tup xs.reverse))) \/ (SqL X.K H2 a xs/\∀p,H2 p=AC->Q (.ref p) (upd H2 p (.lst xs.reverse))))):=by
 intro π s σ H Q I h;refine HE (thn (he π s σ H _ I h) λv s1 kq=>?_);let⟨x,H1,I1,r1,q1⟩:=kq;refine wpAny_Slice ?_;rw[Fm];refine AJ (AJ ?_);show AV _ _ (eval e3 X.env) _ _ s1;refine thn (h3 π s1 σ H1 _ I1 q1) λvk s3 kq=>?_;let⟨k,H3,I3,rk,ek,a,xs,ex,q⟩:=kq;subst ek ex;let⟨tk,rfl⟩:=rk
 cases r1
 have I4:Inv X π σ H3 {s3 with heap:=s3.heap.push {cls:=.type "slice",data:=.fields #[.none,.none,.int (-1) tk]} }:=I3.kept (t':=s3.toks) λb ob q=>AL _ q;rcases q with⟨hx,q⟩|⟨hx,q⟩
 .let⟨its,r,ht,hz⟩:=I4.tuple hx;have hg:AV (model X.prog X.w) X.A (getItem (.ref a) (.ref s3.heap.objs.size)) (EP X π σ Q) X.xe {s3 with heap:=s3.heap.push {cls:=.type "slice",data:=.fields #[.none,.none,.int (-1) tk]} }:=by
   refine HT.getItem_tuple_rev ht (EC ..) ?_ (by rw[<-r.length];exact hz);refine⟨.ref _,_,I4.laid (t':=s3.toks) (o:=.tup xs.reverse) (λb ob q=>AL _ q) (AR _) ?_,rfl,q _ (I4.hok.fresh (AR _))⟩;exact⟨by rw[C7];exact hz,_,r.reverse,AT _ rfl⟩
  show AV (model X.prog X.w) X.A (subscriptTail e (.Slice AC AC (AA e3) p2) (.ref a) (.ref s3.heap.objs.size)) (EP X π σ Q) X.xe {s3 with heap:=s3.heap.push {cls:=.type "slice",data:=.fields #[.none,.none,.int (-1) tk]} };exact HF (ops:=[.ref a,.ref s3.heap.objs.size]) ht.typeIs Ah.lookup hg (by with_unfolding_all rfl)
 .let⟨its,r,ht,hz⟩:=I4.list hx;have hlen:=r.length;have hg:AV (model X.prog X.w) X.A (getItem (.ref a) (.ref s3.heap.objs.size)) (EP X π σ Q) X.xe {s3 with heap:=s3.heap.push {cls:=.type "slice",data:=.fields #[.none,.none,.int (-1) tk]} }:=by
   refine E4 ht.isList (EC ..) .none .none (.int (-1) tk) ⋯ ?_ (by rw[AZ]<;>lia);rw[PySem.W.krv_pick];refine⟨.ref _,_,I4.laid (t':=s3.toks) (o:=.lst xs.reverse) (λb ob q=>AL _ q) (AR _) ?_,rfl,q _ (I4.hok.fresh (AR _))⟩;exact⟨by rw[C7];exact hz,its.reverse,0,r.reverse,AT _ rfl⟩
  show AV (model X.prog X.w) X.A (subscriptTail e (.Slice AC AC (AA e3) p2) (.ref a) (.ref s3.heap.objs.size)) (EP X π σ Q) X.xe {s3 with heap:=s3.heap.push {cls:=.type "slice",data:=.fields #[.none,.none,.int (-1) tk]} };exact HF (ops:=[.ref a,.ref s3.heap.objs.size]) ht.isList.typeIs EX.lookup hg (by with_unfolding_all rfl)
theorem ye.reverse{K:AE}{cl:Nat->AK}{B:AK->Prop}{φ:Ph}{H:Hp}:∀{vs:List PV} {xs:List V},ye K cl B φ H vs xs->ye K cl B φ H vs.reverse xs.reverse
 |[],xs,h=>by
  erw[ye]at h;subst h;erw[List.reverse_nil,ye]
 |v::vs,xs,h=>by
  erw[ye]at h;let⟨y,ys,rfl,r,l⟩:=h;rw[DR,DR];exact(ye.reverse l).append (by erw[ye];exact⟨y,[],rfl,r,rfl⟩)
def zdz{α β γ:Type}(r:R α)(f:α->SO->R β)(g:β->SO->R γ):(r.bind f).bind g=r.bind λv s=>(f v s).bind g:=by cases r<;>rfl
def zjH(ha:PE X a (tE S X ca))(h3:PE X e3 (tE S X (.neg (.cst (.int 1))))):PE X (.Subscript a (.Slice AC AC (AA e3) p2) pos) (tE S X (.blt .rev (.cons ca .nil))):=
 (zh7 ha h3).imp λσ H Q ⟨B,φ,st,ρ,rs,re,h⟩=>by
  erw[ev,evs,zdz]at h;refine tE.bind rs re h λx H1 v st1 φ1 s1 rs1 re1 rv h1=>?_;refine⟨B,φ1,st1,ρ,rs1,re1,?_⟩;let⟨z,ez,q⟩:=zz h1 rs1;erw[ev,R.bind];intro y H2 φ2 s2 rs2 ry;erw[yc]at ry;refine⟨ry,?_⟩;unfold yaa at ez
  cases v with
  |tp k vs=>
   erw[ydn]at ez
   .cases ez
    have rv2:=rv.step s2;erw[yc]at rv2;let⟨p,xs,rfl,r1,l1⟩:=rv2;exact⟨p,xs,rfl,.inl ⟨r1.sq,λt ht=>q _ _ φ2 (s2.trans (.upd ht)) (rs2.upd ht) (.tup_new ht rs2 l1.reverse)⟩⟩
  |lst vs=>
   erw[ydn]at ez
   cases ez
   have rv2:=rv.step s2;erw[yc]at rv2;let⟨p,xs,rfl,r1,l1⟩:=rv2;exact⟨p,xs,rfl,.inr ⟨r1.sq,λt ht=>q _ _ φ2 (s2.trans (.upd ht)) (rs2.upd ht) (.lst_new ht rs2 l1.reverse)⟩⟩
  |_=>cases ez
end
section
variable {X:Cx}{prog:A4}{w:Aa}{A:A9}{E:AF->AI->Prop}{s:AI}
end
section
variable {S:Se}{X:Cx}{pos px:CG}{a:AY}{ca:Ce}
end
end L2
namespace PySem
open Sem (wp)
def zao{prog:A4}{w:Aa}{A:A9}{E:AF->AI->Prop}{s:AI}{a:AK}{xs:Array AF}{Q:Option AF->AI->Prop}
  (hx:s.heap.get? a=AA {cls:=.type "tuple",data:=.seq xs}) (hA:A.handled=AC)
  (h:∀h' tk,(∀b ob,s.heap.get? b=AA ob->h'.get? b=AA ob)->Q AC {s with heap:=h',toks:=tk}):
  AV (model prog w) A (getAttr? (.ref a) "keys") Q E s:=by
 let⟨hp,g,d,tk,os⟩:=s;have hT:∀tk',(⟨hp,g,d,tk',os⟩:AI).TypeIs (.ref a) "tuple":=λ_=>⟨_,hx,rfl⟩;have hm:typeLookup (.type "tuple") "keys"=pure none:=by rw[typeLookup_type,builtinLookup_eq_fast];kernel_rfl
 have f1:=sub_AttributeError;have f3:=Ct.lookup;have f4:=Ct.bind (.ref a);have f5:=am_tuple_getattr_none;unfold getAttr? getAttrBy? getAttrBy
 repeat (any_goals (first|assumption|exact hT _|((with_reducible show AV _ _ (call (Value.builtin "tuple.__getattribute__") _ _) _ _ _);refine call_meets Ct (hT _) am_entry_tuple_getattribute (F.args_tuple_getattribute_2 _ _) (meets_getattribute_miss_tuple a xs _ _ "keys" _ hm (by decide +kernel)) ⟨hx,hA,λh' tk' e hx'=>?_⟩)|wp_step))
 let⟨t',u',he⟩:=hx'.there;show AV _ _ (getattributeRaised _ _ _ _ _ _ _) _ _ _;unfold getattributeRaised
 repeat (any_goals (first|assumption|wp_step))
 exact h _ _ hx'.keeps
def zP:entryFor table "dict.update.loop"=AA Ey.«dict.update.loop»:=entryFor_of_tree (by kernel_rfl)
def zt:plainId "dict.update.loop"=true:=by decide +kernel
section
variable {prog:A4}{w:Aa}{K:Type}[DecidableEq K]{A:A9}{R:GF->AI->Prop}
def yc3(knd:Ed prog w K)(h:Aw)(v:AF)(x:K×AK×AF):Prop:=∃p,v=.ref p/\h.get? p=AA {cls:=.type "tuple",data:=.seq #[.ref x.2.1,x.2.2]}/\knd.is h x.1 x.2.1
def yae(knd:Ed prog w K)(h:Aw):List AF->List (K×AK×AF)->Prop
 |[],[]=>True
 |v::vs,x::xs=>yc3 knd h v x/\yae knd h vs xs
 |_,_=>False
def yas(xs more:List (K×AK×AF)):List (K×AK×AF):=more.foldl (λacc x=>storedH acc x.1 x.2.1 x.2.2) xs
theorem yae.keep{knd:Ed prog w K}(hst:∀{h h' k a},knd.is h k a->(∀b o,h.get? b=AA o->o.cls=.type "tuple"->h'.get? b=AA o)->knd.is h' k a){h h':Aw}(hk:∀b o,h.get? b=AA o->o.cls=.type "tuple"->h'.get? b=AA o):
  ∀{vs xs},yae knd h vs xs->yae knd h' vs xs
 |[],[],_=>CB
 |_::_,_::_,⟨⟨p,e,g,i⟩,r⟩=>⟨⟨p,e,hk _ _ g rfl,hst i hk⟩,yae.keep hst hk r⟩
def zb5(xs:List (K×AK×AF))(k:K)(a:AK)(v:AF):(storedH xs k a v).length<=xs.length+1:=by
 unfold storedH;split<;>simp
def zcj{knd:Ed prog w K}(hst:∀{h h' k a},knd.is h k a->(∀b o,h.get? b=AA o->o.cls=.type "tuple"->h'.get? b=AA o)->knd.is h' k a){d t it:AK}{its:Array AF}(hh:A.in1.handled=AC)(hu:knd.room A.in1):
  ∀(rest:List (K×AK×AF)) (i:Nat) (xs:List (K×AK×AF)) (s:AI),s.heap.IsTupleIter it t i->s.heap.get? t=AA {cls:=.type "tuple",data:=.seq its}->yae knd s.heap (its.toList.drop i) rest->s.heap.DictOfH knd d xs->xs.length+rest.length<=sizeLine ->
  (∀h' tk,h'.DictOfH knd d (yas xs rest)->(∀b o,b≠d->b≠it->s.heap.get? b=AA o->h'.get? b=AA o)->R (.ok (.ret .none)) {s with heap:=h',toks:=tk}) ->
  codeAny (model prog w) A (.builtin "dict.update.loop" ⟨[.ref d,.ref it,rawInt i,.none],[]⟩) R s
 |[],i,xs,s,hi,ht,hp,hd,hz,hR=>by
  refine Gu zP ?_;rw[F6 zt _];show AV _ A.in1 (pyNext (.ref it) >>= _) _ _ s;have e:its[i]?=none:=by
   rw[<-CS]
   cases q:its.toList.drop i with
   |nil=>exact List.getElem?_eq_none_iff.mpr (List.drop_eq_nil_iff.mp q)
   |cons _ _=>rw[q]at hp;exact hp.elim
  let⟨od,es,ep,gd,cd,r⟩:=id hd;let⟨oi,gi,ci,di⟩:=id hi;have ndi:d≠it:=λz=>by subst z;rw[gd]at gi;cases gi;rw[cd.1]at ci;exact absurd (B5 ci) ⋯
  refine AB (En hh hi ⟨_,ht,rfl,_,rfl⟩ e λh' hb=>?_);have kp:∀b o,b≠d->b≠it->s.heap.get? b=AA o->h'.get? b=AA o:=λb o _ n e=>hb b o n e;show AV _ A.in1 (HX d [] >>= _) _ _ _;refine AB (AJ (AJ ?_));refine hR h' s.toks ⟨od,es,ep,hb _ _ ndi gd,cd,r.1,r.2.1,λx hx=>hst (r.2.2.1 x hx) λb o g c=>hb b o (λz=>?_) g,r.2.2.2⟩ kp;subst z;rw[gi]at g;cases g;rw[c]at ci;exact absurd (B5 ci) ⋯
 |x::rest,i,xs,s,hi,ht,hp,hd,hz,hR=>by
  refine Gu zP ?_;rw[F6 zt _];show AV _ A.in1 (pyNext (.ref it) >>= _) _ _ s
  cases q:its.toList.drop i with
  |nil=>rw[q]at hp;exact hp.elim
  |cons v vs=>
   rw[q]at hp;let⟨⟨p,rfl,gp,hk⟩,hr⟩:=hp;have hil:i<its.toList.length:=by
    have:=congrArg Bk q;erw[B9,AO]at this;lia
   have e:its[i]?=AA (.ref p):=by
    rw[<-CS];have:=congrArg (·[0]?) q;simpa [List.getElem?_drop] using this
   have hvs:its.toList.drop (i+1)=vs:=by
    rw[<-List.drop_drop,q];rfl
   let⟨od,es,ep,gd,cd,r⟩:=id hd;let⟨oi,gi,ci,di⟩:=id hi;have ndi:d≠it:=λz=>by subst z;rw[gd]at gi;cases gi;rw[cd.1]at ci;exact absurd (B5 ci) ⋯
   refine AB (Ef hi ⟨_,ht,rfl,_,rfl⟩ e λh1 hi1 sb=>?_);have nit:∀b o,s.heap.get? b=AA o->o.cls=.type "tuple"->b≠it:=λb o g c z=>by
    subst z;rw[gi]at g;cases g;rw[c]at ci;exact absurd (B5 ci) ⋯
   have nd:∀b o,s.heap.get? b=AA o->o.cls=.type "tuple"->b≠d:=λb o g c z=>by
    subst z;rw[gd]at g;cases g;rw[cd.1]at c;exact absurd (B5 c) ⋯
   have k1:∀b o,s.heap.get? b=AA o->o.cls=.type "tuple"->h1.get? b=AA o:=λb o g c=>(sb.2 b (nit b o g c)).trans g;have hd1:h1.DictOfH knd d xs:=⟨od,es,ep,(sb.2 d ndi).trans gd,cd,r.1,r.2.1,λx hx=>hst (r.2.2.1 x hx) k1,r.2.2.2⟩;have gp1:=k1 p _ gp rfl;have hk1:=hst hk k1;show AV _ A.in1 (holding [.ref p] _ >>= _) _ _ _;refine AB (Bd ?_);refine AB (wpAny_tryCatch ?_);have hT:({s with heap:=h1}:AI).TypeIs (.ref p) "tuple":=⟨_,gp1,rfl⟩;unfold Hl;refine AB (DO hT ?_);rw[if_pos ⋯];refine AB (Dt gp1 rfl (AJ ?_));show AV _ A.in1 (holding [.ref x.2.1,x.2.2] (dictSet d (.ref x.2.1) x.2.2)) _ _ _;refine Bd (wpAny_dictSet_heap (s:={s with heap:=h1}) hu hk1 hd1 (λh2 hd2 sb2=>?_) (by erw[AO]at hz;lia));have k2:∀b o,s.heap.get? b=AA o->o.cls=.type "tuple"->h2.get? b=AA o:=λb o g c=>(sb2.2 b (nd b o g c)).trans (k1 b o g c);refine AJ ⟨plainId_quiet zt _,zcj hst hh hu rest (i+1) (storedH xs x.1 x.2.1 x.2.2) _ ?_ (k2 t _ ht rfl) ?_ hd2 ?_ λh' tk a b=>hR h' tk a λc o n1 n2 g=>b c o n1 n2 ((sb2.2 c n1).trans ((sb.2 c n2).trans g))⟩
   .let⟨o1,g1,r1⟩:=hi1;exact⟨o1,(sb2.2 it (B0 ndi)).trans g1,r1⟩
   .rw[hvs];exact hr.keep hst k2
   .have:=zb5 xs x.1 x.2.1 x.2.2;erw[AO]at hz;lia
def zaq{knd:Ed prog w K}(hst:∀{h h' k a},knd.is h k a->(∀b o,h.get? b=AA o->o.cls=.type "tuple"->h'.get? b=AA o)->knd.is h' k a){t:AK}{its:List AF}{E:AF->AI->Prop}{s:AI}{Q:AF->AI->Prop}(hh:A.handled=AC)(hu:∀A':A9,A'.units<=A.units+8->knd.room A')
  {rest:List (K×AK×AF)} (ht:s.heap.get? t=AA {cls:=.type "tuple",data:=.seq its.toArray}) (hp:yae knd s.heap its rest) (hz:rest.length<=sizeLine)
  (h:∀h' tk,h'.DictOfH knd s.heap.objs.size (yas [] rest)->(∀b o,s.heap.get? b=AA o->h'.get? b=AA o)->Q (.ref s.heap.objs.size) {s with heap:=h',toks:=tk}):
  AV (model prog w) A (call (.type "dict") [.ref t]) Q E s:=by
 refine callType_codes (Q₁:=λobj s₁=>obj=.ref s.heap.objs.size/\s₁={s with heap:=s.heap.push {cls:=.type "dict",data:=.dict #[]} }) F.kt_called_dict (F.kt_typeCall_dict_1 _) F.entry_dict_init (kt_code_dict_new _ ⟨rfl,rfl⟩) ?_
 rintro obj s₁ ⟨rfl,rfl⟩
 have hnew:(s.heap.push {cls:=.type "dict",data:=.dict #[]}).DictOfH knd s.heap.objs.size []:=IQ s.heap;have kp1:∀b o,s.heap.get? b=AA o->(s.heap.push {cls:=.type "dict",data:=.dict #[]}).get? b=AA o:=λb o e=>AL _ e;refine⟨hnew.typeIs,F.args_dict_init_2 _ _,?_⟩;unfold Ey.«dict.__init__»;refine AB ?_;unfold HY;refine AB (D0 hnew.typeIs ?_);show AV _ _ (pure (s.heap.objs.size,[Ab t])) _ _ _;refine AJ ?_;show AV _ _ (Ek "dict.__init__" s.heap.objs.size (.ref t) [] .none) _ _ _;unfold Ek;have ht1:=kp1 _ _ ht;refine AB (DO (T:="tuple") ⟨_,ht1,rfl⟩ ?_);rw[if_pos ⋯];refine AB (zao (s:={s with heap:=s.heap.push {cls:=.type "dict",data:=.dict #[]} }) ht1 (by simpa using hh) λh2 tk2 kp2=>?_);have kp12:∀b o,s.heap.get? b=AA o->h2.get? b=AA o:=λb o e=>kp2 b o (kp1 b o e);have ht2:=kp12 _ _ ht;have hd2:h2.DictOfH knd s.heap.objs.size []:=by
  let⟨o,es,ep,g,c,r⟩:=hnew;exact⟨o,es,ep,kp2 _ _ g,c,r.1,r.2.1,λx hx=>by simp at hx,r.2.2.2⟩
 show AV _ _ (rule _ >>= _) _ _ _;refine AB (GB ?_);refine AB (Ca (s:={s with heap:=h2,toks:=tk2}) ⟨_,ht2,rfl,_,rfl⟩ ?_);refine AJ ⟨plainId_quiet zt _,?_⟩;have kp3:∀b o,h2.get? b=AA o->(h2.push {cls:=.type "tuple_iterator",data:=.fields #[.ref t,.int 0 0]}).get? b=AA o:=λb o e=>AL _ e;refine zcj hst (t:=t) (its:=its.toArray) ?_ ?_ rest 0 [] _ ⟨_,AT _ rfl,rfl,rfl⟩ (kp3 _ _ ht2) ?_ ?_ (by simpa using hz) λh' tk a b=>⟨rfl,?_⟩
 .simpa using hh
 .exact hu _ (by simp)
 .have:yae knd h2 its rest:=hp.keep hst λb o e _=>kp12 b o e;simpa using this.keep hst λb o e _=>kp3 b o e
 .let⟨o,es,ep,g,c,r⟩:=hd2;exact⟨o,es,ep,kp3 _ _ g,c,r.1,r.2.1,λx hx=>by simp at hx,r.2.2.2⟩
 .refine h h' tk a λc o g=>b c o (λz=>?_) (λz=>?_) (kp3 _ _ (kp12 _ _ g))
  .subst z;exact absurd (AX g) (C3 _)
  .have l1:=AX (kp12 _ _ g);rw[z]at l1;exact absurd l1 (C3 _)
end
end PySem
namespace L2
open PySem PySem.Spec PyProof.Rows
def DPs(H:Hp):List V->List (List NK×V)->Prop
 |[],ks=>ks=[]
 |x::xs,ks=>∃k y r q b,ks=(k,y)::r/\x=.ref q/\H q=AA (.tup [.ref b,y])/\KyR H k b/\DPs H xs r
def yaz(kvs more:List (List NK×V)):List (List NK×V):=more.foldl (λacc kv=>putK acc kv.1 kv.2) kvs
theorem KT.merge{H:Hp}{more:List (List NK×V)}{rs:List (List NK×AK×AF)}(r:KT H more rs):∀{kvs:List (List NK×V)} {xs:List (List NK×AK×AF)},KT H kvs xs->KT H (yaz kvs more) (yas xs rs):=by
 induction r with
 |nil=>intro kvs xs q;exact q
 |@cons p q ps qs h t ih=>
  intro kvs xs r0;have e:=r0.put p.1 h.2.1 h.2.2;rw[h.1]at e;have:=ih e;rw[<-h.1]at this;show KT H (yaz (putK kvs p.1 p.2) ps) (yas (storedH xs q.1 q.2.1 q.2.2) qs);rw[<-h.1];exact this
def za3:∀(more kvs:List (List NK×V)),(yaz kvs more).length<=kvs.length+more.length
 |[],kvs=>by show kvs.length<=kvs.length+0;lia
 |p::r,kvs=>by
  have h1:=za3 r (putK kvs p.1 p.2);have h2:=zU kvs p.1 p.2;show (yaz (putK kvs p.1 p.2) r).length<=_;rw[AO];lia
def zfL{P:A4}{w:Aa}{h h':Aw}{k:List NK}{a:AK}(i:(yam P w).is h k a)(q:∀b o,h.get? b=AA o->o.cls=.type "tuple"->h'.get? b=AA o):(yam P w).is h' k a:=by
 exact⟨NI.stay (λb its g=>q b _ g rfl) _ _ i.1,i.2⟩
def zcO{P:A4}{w:Aa}{H:Hp}{h:Aw}(ok:HOk P w H h):∀{xs:List V} {us:List AF} {kvs:List (List NK×V)},DPs H xs kvs->Vals xs us->∃rs,yae (yam P w) h us rs/\KT H kvs rs
 |[],_,_,d,.nil=>by cases (show _=[]from d);exact⟨[],CB,.nil⟩
 |x::xs,u::us,_,d,.cons rx t=>by
  let⟨k,y,r,q,b,rfl,rfl,hq,hb,d'⟩:=d;let⟨rs,p,kt⟩:=zcO ok d' t
  cases (show u=Ab q from rx)
  let⟨_,its,rv,g⟩:=(show yt P w H h q (.tup [.ref b,y])from ok q _ hq);let⟨u1,u2,rfl,r1,r2⟩:=vals2 rv
  cases (show u1=Ab b from r1)
  exact⟨(k,b,u2)::rs,⟨⟨q,rfl,g,zcu ok hb⟩,p⟩,.cons ⟨rfl,hb,r2⟩ kt⟩
section
variable {X:Cx}
def zbN(hu:X.A.units+16<cLine)(hc:X.calm=AD):yQ X (.type "dict") (λxs H Q=>∃p ps kvs,xs=[.ref p]/\H p=AA (.tup ps)/\DPs H ps kvs/\kvs.length<=1000/\∀d,H d=AC->Q (.ref d) (upd H d (.dT (yaz [] kvs)))):=by
 intro π s σ H xs us Q I r h;let⟨p,ps,kvs,rfl,hp,hd,hl,q⟩:=h;let⟨u,rfl,rx⟩:=vals1 r
 cases rx
 let⟨_,its,rv,g⟩:=(show yt X.prog X.w H s.heap p (.tup ps)from I.hok p _ hp);let⟨rs,pr,kt⟩:=zcO I.hok hd rv;have hn:H s.heap.objs.size=none:=I.hok.fresh (AR _);refine zaq zfL (I.ok.hd hc) (λA' z=>show A'.units+8<cLine by lia) g pr (by rw[<-C2 kt,Bs];lia) λh' tk dd kp=>⟨.ref s.heap.objs.size,_,I.laid (t':=tk) kp (AR _) ?_,rfl,q _ hn⟩;let⟨o,es,ep,h1,h2,h3,h4,_,h5⟩:=dd;have ml:(yaz [] kvs).length<=0+kvs.length:=za3 kvs [];have ml2:(yaz [] kvs).length<=sizeLine:=by rw[Bs];lia
 refine⟨ml2,?_,_,((kt.merge .nil)).keeps λc ys ec=>?_,o,es,ep,h1,h2,h3,h4,h5⟩
 .have:=I.big;exact beq_eq_false_iff_ne.2 (CZ this)
 .rw[za (zc ec hn)];exact ec
end
end L2
namespace L2
open PySem PySem.Spec PyProof.Rows IC
section
variable {K:AE}{cl:Nat->AK}{B:AK->Prop}{φ:Ph}{H:Hp}
def zfw{v k w:PV}{x:V}(e:ydF v=AA (k,w))(r:yc K cl B φ H v x):∃(ks:List NK) (y:V) (q b:AK),k=.tup (yat ks)/\x=.ref q/\H q=AA (.tup [.ref b,y])/\KyR H ks b/\yc K cl B φ H w y:=by
 unfold ydF at e;split at e
 .split at e
  .rename_i c
   cases e
   let⟨ks,rfl,hk⟩:=zb3 c;erw[yc]at r;let⟨q,xs,rfl,rt,l⟩:=r;erw[ye]at l;let⟨y1,_,rfl,r1,y2,_,rfl,r2,rfl⟩:=l;have r1':yc K cl B φ H (.tup (yat ks)) y1:=by erw[yc];exact r1
   let⟨b,rfl,hb⟩:=zb2 hk r1';rcases rt with⟨rt,_⟩|⟨z,_⟩
   .exact⟨ks,y2,q,b,rfl,rfl,rt,hb,r2⟩
   .cases z
  .cases e
 .cases e
def zcE:∀{vs:List PV} {xs:List V} {kvs:List (PV×PV)},ycn vs=AA kvs->ye K cl B φ H vs xs->∃ks,DPs H xs ks/\DT K cl B φ H kvs ks
 |[],xs,kvs,e,r=>by
  cases e
  cases (show xs=[]from r)
  exact⟨[],rfl,rfl⟩
 |v::vs,xs,kvs,e,r=>by
  erw[ycn]at e;let⟨⟨k,w⟩,e1,e2⟩:=Option.bind_eq_some_iff.1 e;let⟨r2,e3,rfl⟩:=Option.map_eq_some_iff.1 e2;erw[ye]at r;let⟨y,ys,rfl,ry,rl⟩:=r;let⟨ks,z,q,b,rfl,rfl,hq,hb,rw'⟩:=zfw e1 ry;let⟨more,d,t⟩:=zcE e3 rl;exact⟨(ks,z)::more,⟨ks,z,more,q,b,rfl,rfl,hq,hb,d⟩,⟨ks,z,more,rfl,rfl,rw',t⟩⟩
theorem DT.fold:∀{kvs:List (PV×PV)} {more:List (List NK×V)},DT K cl B φ H kvs more->∀{acc:List (PV×PV)} {ks:List (List NK×V)},DT K cl B φ H acc ks->DT K cl B φ H (kvs.foldl (λacc kv=>IC.put kv.1 kv.2 acc) acc) (yaz ks more)
 |[],_,d,_,_,a=>by cases (show _=[]from d);exact a
 |(k,v)::kvs,_,d,acc,ks,a=>by
  let⟨q,x,s,rfl,rfl,rv,d'⟩:=d;exact DT.fold d' (a.put rv)
end
section
variable {S:Se}{X:Cx}{a:AY}{ca:Ce}{p pos:CG}
def zhn:bootBuiltins "dict"=AA (.type "dict"):=by decide +kernel
def zjY(hu:X.A.units+16<cLine)(hc:X.calm=AD)(hg:Gl X "dict")(hm:X.mg "dict"=AC)(ha:PE X a (tE S X ca))
  (he:starEach [a] X.env=(AG,eval a X.env)::starEach [] X.env:=by rfl):PE X (.Call (.Name "dict" p) [a] [] pos) (tE S X (.dof ca)):=
 (zaC (zbN hu hc) hg hm zhn (zl ha zkU he) ⋯ ⋯ he rfl).imp λσ H Q ⟨B,φ,st,ρ,rs,re,h⟩=>by
  erw[ev]at h;refine tE.bind rs re h λx H1 v st1 φ1 s1 rs1 re1 rv h1=>?_;unfold ycm at h1;split at h1
  .rename_i xs;split at h1
   .rename_i kvs e;split at h1
    .rename_i hl;erw[yc]at rv;let⟨y,ys,rfl,rt,l⟩:=rv;let⟨ks,d,t⟩:=zcE e l;rcases rt with⟨rt,_⟩|⟨z,_⟩
     .exact⟨y,ys,ks,rfl,rt,d,by rw[<-t.len];exact hl,λD hD=>h1 _ _ (φ1++[AA D]) (.push hD) (rs1.push hD (rs1.nB hD) ⟨_,zb,(t.fold (acc:=[]) (ks:=[]) rfl).step (.push hD)⟩) (.loc_new rs1)⟩
     .cases z
    .exact h1.elim
   .exact h1.elim
  .exact h1.elim
end
end L2
namespace PySem
open Sem (wp)
section
variable {prog:A4}{w:Aa}{K:Type}[DecidableEq K]{A:A9}{R:GF->AI->Prop}
end
end PySem
namespace L2
open PySem PySem.Spec PyProof.Rows
section
variable {X:Cx}
end
end L2
namespace PySem
open Sem (wp)
section
variable {prog:A4}{w:Aa}{A:A9}{E:AF->AI->Prop}{s:AI}
def zg7{d:AK}{od:Bm}{es:Array BL}{ep:Nat}{Q:AF->AI->Prop}(hd:(d==sysModules)=AG)(hod:s.heap.get? d=AA od)(hT:s.TypeIs (.ref d) "dict")(hdd:od.data=.dict es ep)
  (hQ:Q (.ref s.heap.objs.size) {s with heap:=s.heap.push {cls:=.type "dict_keyiterator",data:=.fields #[.ref d,.int 0 0,.int es.size 0,.int ep 0]} }):
  AV (model prog w) A (pyIter (.ref d)) Q E s:=by
 refine E1 hT Gg (BC Gg hT F.entry_dict_iter ?_ (F.args_dict_iter_1 _));unfold Ey.«dict.__iter__»;refine AB ?_;unfold HL;refine AB (D0 hT ?_);show AV _ _ (pure (Ab d)) _ _ s;refine AJ ?_;show AV _ _ (Ck d >>= _) _ _ s;unfold Ck;rw[if_neg (by rw[hd];exact AU)];refine AB (AJ ?_);refine AB (Bz hod hdd ?_);refine AB (Ch hod hdd ?_);refine AB (Ag (AJ ⟨_,rfl,"dict_keyiterator",_,⟨_,AT _ rfl,rfl⟩,BN.lookup,?_⟩));simpa [rawInt] using hQ
def zgK{it d:AK}{i ep:Nat}{od:Bm}{es:Array BL}{Q:Option AF->AI->Prop}(hit:s.heap.IsKeyIter it d i es.size ep)
  (hod:s.heap.get? d=AA od) (hdd:od.data=.dict es ep) (hlt':i<es.size)
  (hQ:∀h',h'.IsKeyIter it d (i+1) es.size ep->BW it s.heap h'->Q (AA es[i].key) {s with heap:=h'}):
  AV (model prog w) A (pyNext (.ref it)) Q E s:=by
 let⟨o,ho,hc,hd⟩:=id hit;unfold pyNext;refine AB (E8 (As (name:=AS "__next__") hit.typeIs BN
  (BC BN hit.typeIs Db ?_ (D3 _))))
 refine AB (AJ ?_);refine AB ?_;refine AB ?_
 first|refine AB (Bu hit.typeIs (AJ ?_))|refine AB (C4 hit.typeIs (AJ ?_))
 refine AB (EI ho hd ?_);have hown:B7 "dict_keyiterator"=false:=by decide
 erw[hown,Bn,if_false];show AV _ _ (if (Ab d==BB)=AD then _ else _) _ _ s;rw[if_neg (show ¬((Ab d==BB)=AD)from AU)];refine AB (AJ ?_);refine AB (Bz hod hdd ?_);rw[if_neg (by simp)];refine AB (AJ ?_);refine AB (Ch hod hdd ?_);rw[if_neg (by simp)];refine AJ ?_;erw[show ¬((i:Int)<0)from by lia,if_false,Bw,Bl hlt'];refine AB ?_
 first|refine AB (Bu hit.typeIs (AJ ?_))|refine AB (C4 hit.typeIs (AJ ?_))
 refine AB (FQ hit.typeIs ?_);show AV _ _ (setField (.ref it) 1 (rawInt ((i:Int)+1)) >>= _) _ _ s;refine AB (Cn ho hd (by simp) ?_);have hit':(s.heap.update it (Ft (·.setIfInBounds 1 (rawInt ((i:Int)+1))))).IsKeyIter it d (i+1) es.size ep:=
  ⟨_,DY _ ho (FP (DB hd _)),(GW ..).trans hc,by rw[DB hd];simp[rawInt]⟩
 refine AB (Bd ?_);refine AB (FQ (s:={s with heap:=s.heap.update it (Ft (·.setIfInBounds 1 (rawInt ((i:Int)+1))))}) hit'.typeIs ?_);show AV _ _ (pure es[i].key) _ _ _;exact AJ (AJ ⟨_,rfl,AJ (hQ _ hit' (C6 ..))⟩)
def zjQ{it d:AK}{i ep:Nat}{od:Bm}{es:Array BL}{Q:Option AF->AI->Prop}(hh:A.handled=AC)(hit:s.heap.IsKeyIter it d i es.size ep)
  (hod:s.heap.get? d=AA od) (hdd:od.data=.dict es ep) (hge:es.size<=i)
  (hQ:∀h',Gj it s.heap h'->Q AC {s with heap:=h'}):AV (model prog w) A (pyNext (.ref it)) Q E s:=by
 let⟨o,ho,hc,hd⟩:=id hit;unfold pyNext;refine AB (E8 (As (name:=AS "__next__") hit.typeIs BN
  (BC BN hit.typeIs Db ?_ (D3 _))))
 refine AB (AJ ?_);refine AB ?_;refine AB ?_
 first|refine AB (Bu hit.typeIs (AJ ?_))|refine AB (C4 hit.typeIs (AJ ?_))
 refine AB (EI ho hd ?_);have hown:B7 "dict_keyiterator"=false:=by decide
 erw[hown,Bn,if_false];show AV _ _ (if (Ab d==BB)=AD then _ else _) _ _ s;rw[if_neg (show ¬((Ab d==BB)=AD)from AU)];refine AB (AJ ?_);refine AB (Bz hod hdd ?_);rw[if_neg (by simp)];refine AB (AJ ?_);refine AB (Ch hod hdd ?_);rw[if_neg (by simp)];refine AJ ?_;erw[show ¬((i:Int)<0)from by lia,if_false,Bw,DU hge];refine AB ?_
 first|refine AB (Bu hit.typeIs (AJ ?_))|refine AB (C4 hit.typeIs (AJ ?_))
 show AV _ _ (setField (.ref it) 0 .none >>= _) _ _ s;refine AB (Cn ho hd (by simp) ?_);show AV _ _ (newExc (.type "StopIteration") [] >>= _) _ _ _;refine AB ?_;erw[newExc,newTuple];refine AB (Ag ?_ (by size_fits));refine AB (m:=firstArgMember _ _) (Gk (a:=BB) (by first|rfl|(erw[firstArgMember];rfl)) ?_);refine Ag ?_ (by size_fits);erw[raiseNew];refine AB (Fp ?_);rw[show A.in1.handled=AC from hh];refine AB (AJ (Gm ?_));refine AB (Ec (T:="StopIteration") (b:=AD) ⟨_,AT _ rfl,rfl⟩ isSubtype_stop ?_);exact AJ (hQ _ (((C6 ..).extBut.push _).push _))
def zho{it d:AK}{i n ep:Nat}{Q:AF->AI->Prop}(hit:s.heap.IsKeyIter it d i n ep)(h:Q (.ref it) s):AV (model prog w) A (pyIter (.ref it)) Q E s:=by
 refine E1 hit.typeIs Dl (BC Dl hit.typeIs F.entry_dict_keyiterator_iter ?_ (F.args_dict_keyiterator_iter_1 _));show AV _ _ (ret (.ref it)) _ _ s;exact AJ ⟨_,rfl,"dict_keyiterator",_,hit.typeIs,BN.lookup,h⟩
end
end PySem
namespace L2
open PySem PySem.Spec PyProof.Rows
def ycN(X:Cx)(a:AK):Prop:=∀o u,X.H₀ a≠AA (.frz o u)
section
variable {X:Cx}{π:List (AK×Bm)}{σ:St}{H:Hp}{s:AI}{a:AK}{o:Bm}{u:HO}
theorem Inv.noFz(I:Inv X π σ H s)(h:∀o v,H a≠AA (.frz o v)):ycN X a:=λo v e=>h o v (I.base.frzs a o v e)
theorem Inv.fz(I:Inv X π σ H s)(mu:Mut (H a))(e:H a=AA u)(g:s.heap.get? a=AA o)(nt:∀xs,u ≠ .tup xs):Inv X π σ (upd H a (.frz o u)) s:=by
 refine I.write (t':=s.toks) (h':=s.heap) mu (.inl rfl) (λ_ _ _ q=>q) ⟨o,g⟩ ⟨by rw[<-g],?_⟩;refine(I.hok a u e).stay (λ_ _ _ q=>q) (λb q=>?_) λb xs q=>?_
 .rw[za λz=>?_];exact q;subst z;rw[q]at mu;exact mu
 .rw[za λz=>?_];exact q;subst z;rw[q]at mu;exact mu
theorem Inv.unfz(I:Inv X π σ H s)(e:H a=AA (.frz o u))(n:ycN X a):Inv X π σ (upd H a u) s:=by
 have nn:∀b,H b=AC->b≠a:=λb q z=>by subst z;rw[e]at q;cases q
 refine⟨I.ok,I.os,I.bare,⟨I.base.keep,I.base.slot,λb ob q m hx=>?_,I.base.there,λb xs q=>?_,λb ob v q=>?_,λb ps q=>?_⟩,I.loc,I.cell,?_,λx c q=>?_,λp hp=>?_,λb v q=>?_,I.len⟩
 .have:=I.base.free b ob q m hx;rw[za (nn b this)];exact this
 .have:=I.base.tups b xs q;rw[za λz=>by subst z;rw[e]at this;cases this];exact this
 .rw[za λz=>by subst z;exact n _ _ q];exact I.base.frzs b ob v q
 .let⟨more,h⟩:=I.base.tbls b ps q;exact⟨more,by rw[za λz=>by subst z;rw[e]at h;cases h];exact h⟩
 .rw[za (nn _ I.free)];exact I.free
 .rw[za (nn _ (I.freeC x c q))];exact I.freeC x c q
 .let⟨q1,q2,q3⟩:=I.pin p hp;exact⟨q1,by rw[za (nn _ q2)];exact q2,q3⟩
 .have ho:∀c y,H c=AA (.own y)->upd H a u c=AA (.own y):=λc y r=>by rw[za λz=>by subst z;rw[e]at r;cases r];exact r
  have ht:∀c xs,H c=AA (.tup xs)->upd H a u c=AA (.tup xs):=λc xs r=>by rw[za λz=>by subst z;rw[e]at r;cases r];exact r
  by_cases hb:b=a
  .subst hb;rw[zb]at q
   cases q
   exact(I.hok b _ e).2.stay (λ_ _ _ q=>q) (λc r=>ho c _ r) ht
  .rw[za hb]at q;exact(I.hok b v q).stay (λ_ _ _ q=>q) (λc r=>ho c _ r) ht
def yd1(X:Cx)(t:TE):TE:=λσ H Q=>t σ H λx H'=>∃a o u,H' a=AA (.frz o u)/\ycN X a/\Q x (upd H' a u)
end
theorem KT.at{H:Hp}{kvs:List (List NK×V)}{xs:List (List NK×AK×AF)}(r:KT H kvs xs):∀{i:Nat} {p:List NK×V},kvs[i]?=AA p->∃q,xs[i]?=AA q/\p.1=q.1/\KyR H p.1 q.2.1/\RelV p.2 q.2.2:=by
 induction r with
 |nil=>intro i p e;simp at e
 |@cons p q ps qs h t ih=>
  intro i p' e
  cases i with
  |zero=>simp at e;subst e;exact⟨q,rfl,h⟩
  |succ i=>exact ih (by simpa using e)
theorem KT.keys{H:Hp}{kvs:List (List NK×V)}{xs:List (List NK×AK×AF)}(r:KT H kvs xs):kvs.map (·.1)=xs.map (·.1):=by
 induction r with
 |nil=>rfl
 |cons h t ih=>erw[AM];rw[h.1,ih]
section
variable {X:Cx}{tg:AY}
end
end L2
namespace PySem.W
open PySem PySem.Calls PyProof.Rows
section
variable {prog:A4}{w:Aa}{A:A9}{E:AF->AI->Prop}{s:AI}{a:AK}{x y:AF}
end
end PySem.W
namespace PySem
open Sem (wp)
section
variable {prog:A4}{w:Aa}{K:Type}[DecidableEq K]{knd:Ed prog w K}{A:A9}{E:AF->AI->Prop}{s:AI}
end
end PySem
namespace L2
open PySem PySem.Spec PyProof.Rows
def ydX(kvs:List (List NK×V)):Prop:=∀p∈kvs,∃i,p.2=.int i
def vI:V->Int
 |.int i=>i
 |_=>0
def yc5(ka kb:List (List NK×V)):Bool:=ka.length==kb.length&&ka.all λp=>match yaS kb p.1 with
 |some v=>vI p.2==vI v
 |none=>AG
section
variable {X:Cx}
end
section
variable {X:Cx}
end
theorem DPs.keep{H H':Hp}(ht:∀b xs,H b=AA (.tup xs)->H' b=AA (.tup xs)):∀{ys:List V} {ks:List (List NK×V)},DPs H ys ks->DPs H' ys ks
 |[],_,d=>d
 |x::xs,_,d=>by
  let⟨k,y,r,q,b,e1,e2,hq,hb,d'⟩:=d;exact⟨k,y,r,q,b,e1,e2,ht _ _ hq,hb.stay ht,DPs.keep ht d'⟩
theorem DPs.snoc{H:Hp}{k:List NK}{y:V}{q b:AK}(hq:H q=AA (.tup [.ref b,y]))(hb:KyR H k b):∀{ys:List V} {ks:List (List NK×V)},DPs H ys ks->DPs H (ys++[.ref q]) (ks++[(k,y)])
 |[],ks,d=>by
  cases (show ks=[]from d)
  exact⟨k,y,[],q,b,rfl,rfl,hq,hb,rfl⟩
 |x::xs,_,d=>by
  let⟨k',y',r,q',b',rfl,rfl,hq',hb',d'⟩:=d;exact⟨k',y',r++[(k,y)],q',b',rfl,rfl,hq',hb',DPs.snoc hq hb d'⟩
theorem DPs.len{H:Hp}:∀{ys:List V} {ks:List (List NK×V)},DPs H ys ks->ys.length=ks.length
 |[],ks,d=>by cases (show ks=[]from d);rfl
 |x::xs,_,d=>by
  let⟨k',y',r,q',b',rfl,rfl,hq',hb',d'⟩:=d;simp[DPs.len d']
end L2
namespace L2
open PySem PySem.Spec PyProof.Rows IC
section
variable {K:AE}{cl:Nat->AK}{B:AK->Prop}{φ:Ph}{H:Hp}
theorem DT.ints:∀{kvs:List (PV×PV)} {ks:List (List NK×V)},DT K cl B φ H kvs ks->kvs.all ybp=AD->ydX ks
 |[],ks,h,_=>by cases (show ks=[]from h);intro p hp;cases hp
 |(k,v)::r,ks,h,a=>by
  let⟨q,x,s,rfl,rfl,rv,l⟩:=h;erw[Au,AH]at a;intro p hp;rcases Ac.1 hp with rfl|hp
  .cases v with
   |int i=>erw[yc]at rv;exact⟨i,rv⟩
   |_=>exact absurd a.1 AU
  .exact DT.ints l a.2 p hp
def zeD{v:PV}{x:V}(a:ybp ((.non:PV),v)=AD)(r:yc K cl B φ H v x):vI x=ivP v/\x=.int (ivP v):=by
 cases v with
 |int i=>erw[yc]at r;subst r;exact⟨rfl,rfl⟩
 |_=>exact absurd a AU
def zcT{p:PV×PV}(h:ybp p=AD):ybp ((.non:PV),p.2)=true:=by
 let⟨a,b⟩:=p
 cases b<;>first|rfl|exact h
theorem DT.find{q:List NK}:∀{kvs:List (PV×PV)} {ks:List (List NK×V)},DT K cl B φ H kvs ks->kvs.all ybp=AD ->
  (match IC.look (.tup (yat q)) kvs with|some v=>AA (ivP v)|none=>AC)=(yaS ks q).map vI
 |[],ks,h,_=>by cases (show ks=[]from h);rfl
 |(k,v)::r,ks,h,a=>by
  let⟨q',x,s,rfl,rfl,rv,l⟩:=h;erw[Au,AH]at a;have e:=(zeD (zcT a.1) rv).1;erw[IC.look,zaj]
  by_cases eq:q'=q
  .rw[zO (p:=(q',x)) eq];erw[eq,decide_true,if_true,BD];exact congrArg AA e.symm
  .rw[zM (p:=(q',x)) eq];erw[decide_eq_true_eq,eq,if_false];exact DT.find l a.2
theorem DT.all{kb:List (PV×PV)}{sb:List (List NK×V)}(b:DT K cl B φ H kb sb)(hb:kb.all ybp=AD):∀{kvs:List (PV×PV)} {ks:List (List NK×V)},DT K cl B φ H kvs ks->kvs.all ybp=AD ->
  (ks.all λp=>match yaS sb p.1 with|some v=>vI p.2==vI v|none=>AG)=kvs.all λp=>match IC.look p.1 kb with|some v=>ivP p.2==ivP v|none=>AG
 |[],ks,h,_=>by cases (show ks=[]from h);rfl
 |(k,v)::r,ks,h,a=>by
  let⟨q,x,s,rfl,rfl,rv,l⟩:=h;erw[Au,AH]at a;have e:=(zeD (zcT a.1) rv).1;rw[Au,Au,DT.all b hb l a.2]
  congr 1
  have f:=b.find hb (q:=q);dsimp only
  cases e1:IC.look (.tup (yat q)) kb with
  |none=>
   rw[e1]at f
   cases e2:yaS sb q with
   |none=>rfl
   |some y=>rw[e2]at f;cases f
  |some w=>
   rw[e1]at f
   cases e2:yaS sb q with
   |none=>rw[e2]at f;cases f
   |some y=>
    rw[e2]at f;have f:ivP w=vI y:=A3 f;have e:vI x=ivP v:=e;erw[f,e]
theorem DT.same{ka kb:List (PV×PV)}{sa sb:List (List NK×V)}(a:DT K cl B φ H ka sa)(b:DT K cl B φ H kb sb)(ha:ka.all ybp=AD)(hb:kb.all ybp=AD):yc5 sa sb=ycb ka kb:=by
 unfold yc5 ycb;rw[<-a.len,<-b.len];exact congrArg (λz=>ka.length==kb.length&&z) (DT.all b hb a ha)
end
section
variable {S:Se}{X:Cx}{σ:St}{a b:AY}{ca cb:Ce}{p pos:CG}
end
end L2
namespace PySem
open Sem (wp)
section
variable {prog:A4}{w:Aa}{A:A9}{E:AF->AI->Prop}{s:AI}
def zhI{d:AK}{Q:AF->AI->Prop}(hd:(d==sysModules)=AG)(hT:s.TypeIs (.ref d) "dict")
  (hQ:Q (.ref s.heap.objs.size) {s with heap:=s.heap.push {cls:=.type "dict_items",data:=.fields #[.ref d]} }):AV (model prog w) A (call (.builtin "dict.items") [.ref d]) Q E s:=by
 refine BC G3 hT F.entry_dict_items ?_ (F.args_dict_items_1 _);unfold Ey.«dict.items»;refine AB ?_;unfold IH;refine AB (D0 hT ?_);show AV _ _ (pure d) _ _ s;refine AJ ?_;show AV _ _ (Ck d >>= _) _ _ s;unfold Ck;rw[if_neg (by rw[hd];exact AU)];refine AB (AJ ?_);exact AB (Ag (AJ ⟨_,rfl,hQ⟩))
def zhp{v d:AK}{od:Bm}{es:Array BL}{ep:Nat}{Q:AF->AI->Prop}(hv:s.heap.IsItemsView v d)(hod:s.heap.get? d=AA od)(hdd:od.data=.dict es ep)
  (hQ:Q (.ref s.heap.objs.size) {s with heap:=s.heap.push {cls:=.type "dict_itemiterator",data:=.fields #[.none,.bool AG,.ref d,.int 0 0,.int es.size 0,.int ep 0,.none,.none]} }):
  AV (model prog w) A (pyIter (.ref v)) Q E s:=by
 let⟨ov,hov,hcv,hdv⟩:=id hv;refine E1 hv.typeIs FA (BC FA hv.typeIs F.entry_dict_items_iter ?_ (F.args_dict_items_iter_1 _));unfold Ey.«dict_items.__iter__»;refine AB (AJ ?_);refine AB ?_;unfold HM;refine AB (BS hov hdv (x:=.ref d) rfl (AJ ?_));refine AB ?_;unfold Gh;refine AB (Bz hod hdd ?_);refine AB (Ch hod hdd ?_);have hown:B7 "dict_itemiterator"=true:=by decide
 erw[hown,if_true];refine Ag (AJ ⟨_,rfl,"dict_itemiterator",_,⟨_,AT _ rfl,rfl⟩,B4.lookup,?_⟩)
  (by erw[sizeOk,Cy,AZ,Aj,AO,Ak,Bs];lia)
 simpa [rawInt,Cy] using hQ
def zhd{it d:AK}{i ep:Nat}{od:Bm}{es:Array BL}{ok ov:AF}{Q:Option AF->AI->Prop}(hit:DC s.heap it d i es.size ep ok ov)
  (hod:s.heap.get? d=AA od) (hdd:od.data=.dict es ep) (hlt':i<es.size)
  (hQ:∀h',Fv h' it d (i+1) es.size ep es[i].key es[i].val s.heap.objs.size ->
   h'.get? s.heap.objs.size=AA {cls:=.type "tuple",data:=.seq #[es[i].key,es[i].val]}->h'.objs.size=s.heap.objs.size+1 ->
   (∀b o,b≠it->s.heap.get? b=AA o->h'.get? b=AA o)->Q (AA (.ref s.heap.objs.size)) {s with heap:=h'}):
  AV (model prog w) A (pyNext (.ref it)) Q E s:=by
 let⟨hp,g,dr,tk,os⟩:=s;have hT:HZ ⟨hp,g,dr,tk,os⟩ (.ref it) "dict_itemiterator":=⟨_,hit,rfl⟩;unfold pyNext;refine AB (E8 (As (name:=AS "__next__") hT B4
  (BC B4 hT D4 ?_ (DX _))))
 refine AB (AJ ?_);refine AB ?_;refine AB ?_
 first|refine AB (Bq hT (AJ ?_))|refine AB (CU hT (AJ ?_))
 refine AB (EI hit rfl ?_);have hown:B7 "dict_itemiterator"=true:=by decide
 erw[hown,if_true];show AV _ _ (if (Ab d==BB)=AD then _ else _) _ _ _;rw[if_neg (show ¬((Ab d==BB)=AD)from AU)];refine AB (AJ ?_);refine AB (Bz hod hdd ?_);rw[if_neg (by simp)];refine AB (AJ ?_);refine AB (Ch hod hdd ?_);rw[if_neg (by simp)];refine AJ ?_;erw[show ¬((i:Int)<0)from by lia,if_false,Bw,Bl hlt'];refine AB ?_
 first|refine AB (Bq hT (AJ ?_))|refine AB (CU hT (AJ ?_))
 refine AB (DV hT ?_);show AV _ _ (setField (.ref it) 3 (rawInt ((i:Int)+1)) >>= _) _ _ ⟨hp,g,dr,tk,os⟩;refine AB (Cc hit (by simp) λh₁ he₁ hs₁=>?_)
 replace hs₁:BW it hp h₁:=hs₁
 replace he₁:DC h₁ it d (i+1) es.size ep ok ov:=by
  have e:((i+1:Nat):Int)=(i:Int)+1:=by lia
  unfold DC;rw[e];simpa [rawInt] using he₁
 have hT₁:HZ ⟨h₁,g,dr,tk,os⟩ (.ref it) "dict_itemiterator":=⟨_,he₁,rfl⟩;refine AB (Bd ?_);refine AB (DV hT₁ ?_);refine AB (DV hT₁ ?_);show AV _ _ (DW (.ref it) 6 es[i].key es[i].val) _ _ ⟨h₁,g,dr,tk,os⟩;unfold DW;refine AB (wpAny_newTuple ?_);have he₂:DC (h₁.push {cls:=.type "tuple",data:=.seq #[es[i].key,es[i].val]}) it d (i+1) es.size ep ok ov:=AL _ he₁;generalize hh₂:h₁.push {cls:=.type "tuple",data:=.seq #[es[i].key,es[i].val]}=h₂ at he₂;have hz₁:h₁.objs.size=hp.objs.size:=hs₁.1;have hil:it<hp.objs.size:=AX hit;have ht₂:h₂.get? hp.objs.size=AA {cls:=.type "tuple",data:=.seq #[es[i].key,es[i].val]}:=by rw[<-hh₂,<-hz₁];exact AT _ rfl
 have hz₂:h₂.objs.size=hp.objs.size+1:=by rw[<-hh₂,DJ,hz₁]
 have hk₂:∀b o,b≠it->hp.get? b=AA o->h₂.get? b=AA o:=λb o hb e=>by rw[<-hh₂];exact AL _ (hs₁.extBut b o hb e)
 show AV _ _ (Cz (.ref it) >>= _) _ _ ⟨h₂,g,dr,tk,os⟩;rw[hz₁]
 clear hh₂ he₁ hs₁ hT₁ hz₁ h₁
 refine AB ?_;unfold Cz;refine AB (BS he₂ rfl (x:=.none) rfl (AJ ?_));erw[if_true];refine AB (BS he₂ rfl (x:=ok) rfl ?_);refine AB (BS he₂ rfl (x:=ov) rfl ?_);refine AB (Cc he₂ (by simp) λh₃ he₃ hs₃=>?_)
 replace hs₃:BW it h₂ h₃:=hs₃
 replace he₃:DC h₃ it d (i+1) es.size ep es[i].key ov:=he₃
 refine AB (Cc he₃ (by simp) λh₄ he₄ hs₄=>?_)
 replace hs₄:BW it h₃ h₄:=hs₄
 replace he₄:DC h₄ it d (i+1) es.size ep es[i].key es[i].val:=he₄
 refine AB (Cc he₄ (by simp) λh₅ he₅ hs₅=>?_)
 replace hs₅:BW it h₄ h₅:=hs₅
 replace he₅:Fv h₅ it d (i+1) es.size ep es[i].key es[i].val hp.objs.size:=he₅
 refine AB (Cc he₅ (by simp) λh₆ he₆ hs₆=>?_)
 replace hs₆:BW it h₅ h₆:=hs₆
 replace he₆:Fv h₆ it d (i+1) es.size ep es[i].key es[i].val hp.objs.size:=he₆
 refine AB (wpAny_letGo (AJ (AJ ⟨_,rfl,AJ (hQ h₆ he₆ ?_ ?_ ?_)⟩)))
 .exact hs₆.extBut _ _ (CZ hil) (hs₅.extBut _ _ (CZ hil) (hs₄.extBut _ _ (CZ hil) (hs₃.extBut _ _ (CZ hil) ht₂)))
 .show h₆.objs.size=hp.objs.size+1;rw[hs₆.1,hs₅.1,hs₄.1,hs₃.1,hz₂]
 .exact λb o hb e=>hs₆.extBut b o hb (hs₅.extBut b o hb (hs₄.extBut b o hb (hs₃.extBut b o hb (hk₂ b o hb e))))
def zjG{it d:AK}{i ep:Nat}{od:Bm}{es:Array BL}{ok ov:AF}{Q:Option AF->AI->Prop}(hh:A.handled=AC)(hit:DC s.heap it d i es.size ep ok ov)
  (hod:s.heap.get? d=AA od) (hdd:od.data=.dict es ep) (hge:es.size<=i)
  (hQ:∀h',Gj it s.heap h'->Q AC {s with heap:=h'}):AV (model prog w) A (pyNext (.ref it)) Q E s:=by
 have hT:s.TypeIs (.ref it) "dict_itemiterator":=⟨_,hit,rfl⟩;unfold pyNext;refine AB (E8 (As (name:=AS "__next__") hT B4
  (BC B4 hT D4 ?_ (DX _))))
 refine AB (AJ ?_);refine AB ?_;refine AB ?_
 first|refine AB (Bq hT (AJ ?_))|refine AB (CU hT (AJ ?_))
 refine AB (EI hit rfl ?_);have hown:B7 "dict_itemiterator"=true:=by decide
 erw[hown,if_true];show AV _ _ (if (Ab d==BB)=AD then _ else _) _ _ s;rw[if_neg (show ¬((Ab d==BB)=AD)from AU)];refine AB (AJ ?_);refine AB (Bz hod hdd ?_);rw[if_neg (by simp)];refine AB (AJ ?_);refine AB (Ch hod hdd ?_);rw[if_neg (by simp)];refine AJ ?_;erw[show ¬((i:Int)<0)from by lia,if_false,Bw,DU hge];refine AB ?_
 first|refine AB (Bq hT (AJ ?_))|refine AB (CU hT (AJ ?_))
 show AV _ _ (setField (.ref it) 2 .none >>= _) _ _ s;refine AB (Cn hit rfl (by simp) ?_);show AV _ _ (newExc (.type "StopIteration") [] >>= _) _ _ _;refine AB ?_;erw[newExc,newTuple];refine AB (Ag ?_ (by size_fits));refine AB (m:=firstArgMember _ _) (Gk (a:=BB) (by first|rfl|(erw[firstArgMember];rfl)) ?_);refine Ag ?_ (by size_fits);erw[raiseNew];refine AB (Fp ?_);rw[show A.in1.handled=AC from hh];refine AB (AJ (Gm ?_));refine AB (Ec (T:="StopIteration") (b:=AD) ⟨_,AT _ rfl,rfl⟩ isSubtype_stop ?_);exact AJ (hQ _ (((C6 ..).extBut.push _).push _))
end
end PySem
namespace L2
open PySem PySem.Spec PyProof.Rows
def ydT(a:AK)(o:Bm)(kvs:List (List NK×V)):It:=
 ⟨λi H=>H a=AA (.frz o (.dT kvs))/\i<kvs.length,λi H x H'=>∃T k v b,H T=AC/\x=.ref T/\kvs[i]?=AA (k,v)/\KyR H k b/\H'=upd H T (.tup [.ref b,v]),λi H=>H a=AA (.frz o (.dT kvs))/\kvs.length<=i⟩
def zfG{P:A4}{w:Aa}{K:AE}{el:List AY}{kk:Nat}{pos:CG}{a it:AK}{o:Bm}{kvs:List (List NK×V)}{es:Array BL}{ep:Nat}(hd:o.data=.dict es ep):
  Turn P w K (.Tuple el kk pos) (ydT a o kvs) [it] it (λi h=>es.size=kvs.length/\∃ok ov,DC h it a i es.size ep ok ov) where
 mem:=by simp
 obj:=λi h st b hb=>by
  have e:b=it:=by simpa using hb
  subst e;let⟨_,ok,ov,e⟩:=st;exact⟨_,e,λv z=>nomatch z⟩
 keep:=λi h h' st k=>by
  let⟨l,ok,ov,e⟩:=st;exact⟨l,ok,ov,k it (by simp) _ e⟩
 item:=by
  intro X hP hw hK hc i π s σ H E I hf st hg;subst hP hw hK;let⟨hq,hi⟩:=hg;let⟨hsz,ok,ov,hit⟩:=st;let⟨g,z,y,xs,r,o',es',ep',h1,h2,h3,h4,h5⟩:=(show yt X.prog X.w H s.heap a (.frz o (.dT kvs))from I.hok a _ hq);rw[g]at h1
  cases h1
  rw[hd]at h3
  cases h3
  have hlt:i<es.size:=by rw[hsz];exact hi
  obtain⟨⟨k,v⟩,hkv⟩:∃p,kvs[i]?=AA p:=⟨kvs[i],BO hi⟩;let⟨q,hq2,e1,e2,e3⟩:=KT.at r hkv;have hek:es[i]=entryOfKey (yam X.prog X.w) q:=by
   have h6:es.toList[i]?=AA (entryOfKey (yam X.prog X.w) q):=by rw[h4,BJ,hq2];rfl
   rw[CS,Bl hlt]at h6;exact A3 h6
  have hn:H s.heap.objs.size=none:=I.hok.fresh (AR _);have hne:s.heap.objs.size≠it:=CZ (AX hit);refine zhd hit g hd hlt λh1 ho hT hz kp=>⟨_,rfl,wpAny_letOwnedTupleGo_items ho λh2 st2 sb=>?_⟩;have ch:∀b u,b∉[it]->s.heap.get? b=AA u->h2.get? b=AA u:=λb u hb e=>by
   have nb:b≠it:=by simpa using hb
   exact(sb.2 b nb).trans (kp b u nb e)
  have hT2:h2.get? s.heap.objs.size=AA {cls:=.type "tuple",data:=.seq #[es[i].key,es[i].val]}:=(sb.2 _ hne).trans hT;have new:yt X.prog X.w (upd H s.heap.objs.size (.tup [.ref q.2.1,v])) h2 s.heap.objs.size (.tup [.ref q.2.1,v]):=
   ⟨by show 2<=sizeLine;decide,[es[i].key,es[i].val],.cons (by rw[hek];rfl) (.cons (by rw[hek];exact e3) .nil),hT2⟩
  refine⟨.ref s.heap.objs.size,_,I.turnLaid (t':=s.toks) hf ch (AR _) new,rfl,⟨s.heap.objs.size,k,v,q.2.1,hn,rfl,hkv,e2,rfl⟩,⟨hsz,_,_,st2⟩,λb hb=>?_⟩;have e:b=it:=by simpa using hb
  subst e;rw[za (B0 hne)];exact(hf b hb).1
 done:=by
  intro X hP hw hK hc i π s σ H E I hf st hg;subst hP hw hK;let⟨hq,hi⟩:=hg;let⟨hsz,ok,ov,hit⟩:=st;let⟨g,_⟩:=(show yt X.prog X.w H s.heap a (.frz o (.dT kvs))from I.hok a _ hq);let⟨f0,f1,f2,f3,f4,f5⟩:=hf it (by simp);exact zjG (I.ok.hd hc) hit g hd (by rw[hsz];exact hi) λh' eb=>⟨rfl,I.turned (t':=s.toks) (λb o hb e=>eb b o hb e) f0 f1 f3 f4 f5⟩
 self:=λ_ _ _ _ _ st h=>by
  let⟨_,ok,ov,hit⟩:=st;exact PySem.W.kcp_self hit h
section
variable {X:Cx}{el:List AY}{kk:Nat}{tp apos cpos:CG}
def yej(X:Cx)(tl:TE):TI:=λσ H R=>tl σ H λx H1=>∃a kvs,x=.ref a/\H1 a=AA (.dT kvs)/\∀o,ycN X a->(kvs.map (·.1)).Nodup->R (ydT a o kvs) (upd H1 a (.frz o (.dT kvs)))
def zj2{l:AY}{tl:TE}(hl:PE X l tl)(hbase:attributeBase l "items" X.env (eval l X.env)=eval l X.env:=by rfl)(hline:(apos.endLine==cpos.line)=true:=by rfl):
  PI X (.Tuple el kk tp) (.Call (.Attribute l "items" apos) [] [] cpos) (yej X tl):=by
 intro π s σ H R I h;refine wpAny_Call_method0_late hbase hline (thn (hl π s σ H _ I h) λv s1 kq=>?_);let⟨x,H1,I1,r1,q1⟩:=kq;let⟨a,kvs,e,hq,q⟩:=q1;subst e
 cases r1
 let⟨z,y,xs,r,o,es,ep,h1,h2,h3,h4,h5⟩:=(show yt X.prog X.w H1 s1.heap a (.dT kvs)from I1.hok a _ hq);have hT:s1.TypeIs (.ref a) "dict":=⟨o,h1,h2.1⟩;refine⟨"dict","dict.items",F3,G3,F.type_dict_items,hT,?_,DQ rfl (PySem.evalArgs_none ?_)⟩
 .exact λb e=>by cases e;exact⟨o,h1,h2.2.1⟩
 have hsz:es.size=kvs.length:=by
  have:=congrArg Bk h4;rw[AQ,<-C2 r]at this;simpa using this
 have nd:(kvs.map (·.1)).Nodup:=by rw[KT.keys r];exact h5
 refine zhI y hT ?_;have hn:H1 s1.heap.objs.size=none:=I1.hok.fresh (AR _);have hne:s1.heap.objs.size≠a:=λz=>by rw[z]at hn;rw[hn]at hq;cases hq
 have I1':=I1.kept (t':=s1.toks) (h':=s1.heap.push {cls:=.type "dict_items",data:=.fields #[.ref a]}) λb o e=>AL _ e;refine zhp (s:={s1 with heap:=s1.heap.push {cls:=.type "dict_items",data:=.fields #[.ref a]} }) ⟨_,AT _ rfl,rfl,rfl⟩ (AL _ h1) h3 ?_;have I2:=I1'.fz (by rw[hq];exact CB) hq (AL _ h1) λxs z=>by cases z
 have I3:=I2.kept (t':=s1.toks) (h':=(s1.heap.push {cls:=.type "dict_items",data:=.fields #[.ref a]}).push {cls:=.type "dict_itemiterator",data:=.fields #[.none,.bool AG,.ref a,.int 0 0,.int es.size 0,.int ep 0,.none,.none]}) λb o e=>AL _ e;have hn2:H1 (s1.heap.push {cls:=.type "dict_items",data:=.fields #[.ref a]}).objs.size=none:=I1'.hok.fresh (AR _);have hne2:(s1.heap.push {cls:=.type "dict_items",data:=.fields #[.ref a]}).objs.size≠a:=λz=>by rw[z]at hn2;rw[hn2]at hq;cases hq
 refine⟨(s1.heap.push {cls:=.type "dict_items",data:=.fields #[.ref a]}).objs.size,[(s1.heap.push {cls:=.type "dict_items",data:=.fields #[.ref a]}).objs.size],_,ydT a o kvs,upd H1 a (.frz o (.dT kvs)),rfl,I3,zfG h3,⟨hsz,_,_,AT _ rfl⟩,λb hb=>?_,
  q o (I1.noFz λo v z=>by rw[hq]at z;cases z) nd⟩
 have e:b=(s1.heap.push {cls:=.type "dict_items",data:=.fields #[.ref a]}).objs.size:=by simpa using hb
 subst e;exact I1'.fpOk (AR _) (by rw[za hne2];exact hn2)
end
def yfO(i:Nat):TE:=λσ H Q=>∃a kvs,σ[i]?=AA (AA (.ref a))/\H a=AA (.dT kvs)/\kvs.length<=1000 /\
 ∀H' D ys,(∀b o,H b=AA o->H' b=AA o)->H D=AC->H' D=AA (.lst ys)->DPs H' ys kvs->(∀q,V.ref q∈ys->H q=AC)->Q (.ref D) H'
def zfr{X:Cx}{slots:List (Option Nat)}{kt vt i:Nat}(h0:slots[kt]?=AA AC)(h1:slots[vt]?=AA AC)(hne:kt≠vt){σ:St}{H:Hp}{Q:VK}(h:yfO i σ H Q):
  yd1 X (ybI slots (yej X (yb3 i)) (yek X.K 2 (yb6 (yaY kt) (yb6 (yaY vt) yeF))) ydz (yev (ya5 (yb3 kt) (ya5 (yb3 vt) ycE)))) σ H Q:=by
 let⟨a,kvs,hσ,ha,hl,q⟩:=h;refine⟨.ref a,hσ,a,kvs,rfl,ha,λo nf nd D hD=>?_⟩;have hDa:D≠a:=λz=>by subst z;rw[zb]at hD;cases hD
 rw[za hDa]at hD;have hkl:kt<(inn slots σ).length:=by
  unfold inn;rw[AQ];exact(Ar.1 h0).1
 have hvl:vt<(inn slots σ).length:=by
  unfold inn;rw[AQ];exact(Ar.1 h1).1
 refine⟨λj m σc ys H2=>j+m=kvs.length/\kt<σc.length/\vt<σc.length/\H2 a=AA (.frz o (.dT kvs))/\H2 D=AA (.lst ys)/\(∀b w,H b=AA w->b≠a->H2 b=AA w)/\(∀q,V.ref q∈ys->H q=AC)/\DPs H2 ys (kvs.take j),
  ⟨kvs.length,by lia,hkl,hvl,by rw[za (B0 hDa),zb],zb,λb w e ne=>by rw[za (zc e hD),za ne];exact e,(λ_ z=>nomatch z),by simp[DPs]⟩,?_⟩
 rintro j m σc ys H2 ⟨hm,hk,hv,h2a,h2D,ext,fr,dp⟩
 refine⟨h2D,?_⟩;have hys:=dp.len;have htl:=List.length_take_le j kvs
 by_cases hj:j<kvs.length
 .obtain⟨⟨k,v⟩,hkv⟩:∃p,kvs[j]?=AA p:=⟨kvs[j],BO hj⟩;have htk:kvs.take (j+1)=kvs.take j++[(k,v)]:=by rw[List.take_add_one,hkv];rfl
  refine .inr ⟨⟨h2a,hj⟩,by rw[Bs];lia,λσ' ys' H'=>(j+1)+(m-1)=kvs.length/\kt<σ'.length/\vt<σ'.length/\H' a=AA (.frz o (.dT kvs))/\H' D=AA (.lst ys')/\(∀b w,H b=AA w->b≠a->H' b=AA w)/\(∀q,V.ref q∈ys'->H q=AC)/\DPs H' ys' (kvs.take (j+1)),
   λσ' ys' H' w=>⟨m-1,by lia,w⟩,?_⟩
  rintro x H3 ⟨T,k',v',b,hT,rfl,hkv',kb,rfl⟩
  rw[hkv]at hkv'
  cases hkv'
  have Ta:T≠a:=λz=>by subst z;rw[h2a]at hT;cases hT
  have TD:T≠D:=λz=>by subst z;rw[h2D]at hT;cases hT
  refine⟨T,[.ref b,v],rfl,.inl (.inl zb),rfl,.ref b,[v],rfl,v,[],rfl,rfl,?_⟩;have sk:((σc.set kt (AA (.ref b))).set vt (AA v))[kt]?=AA (AA (.ref b)):=by rw[Aq (B0 hne),BM hk]
  have sv:((σc.set kt (AA (.ref b))).set vt (AA v))[vt]?=AA (AA v):=by rw[BM (by rw[Az];exact hv)]
  dsimp only[ydz];rw[if_pos rfl];refine⟨.ref b,sk,v,sv,by rw[Bs];simp,λp hp=>?_⟩;have npT:p≠T:=λz=>by subst z;rw[zb]at hp;cases hp
  rw[za npT]at hp;have npD:p≠D:=λz=>by subst z;rw[h2D]at hp;cases hp
  have npa:p≠a:=λz=>by subst z;rw[h2a]at hp;cases hp
  have up:∀c w,H2 c=AA w->c≠D->upd (upd (upd H2 T (.tup [.ref b,v])) p (.tup [.ref b,v])) D (.lst (ys++[.ref p])) c=AA w:=λc w q ne=>by
   rw[za ne,za (zc q hp),za (zc q hT)];exact q
  have tup:∀c xs,H2 c=AA (.tup xs)->upd (upd (upd H2 T (.tup [.ref b,v])) p (.tup [.ref b,v])) D (.lst (ys++[.ref p])) c=AA (.tup xs):=λc xs q=>up c _ q λz=>by subst z;rw[h2D]at q;cases q
  refine⟨by rw[za (B0 npD),za (B0 TD)];exact h2D,by lia,by erw[Az];exact hk,by erw[Az];exact hv,up _ _ h2a (B0 hDa),zb,λc w e ne=>?_,λc z=>?_,?_⟩
  .exact up c w (ext c w e ne) (zc e hD)
  .rcases Av.1 z with z|z
   .exact fr c z
   .have z:c=p:=by simpa using z
    subst z
    cases e:H c with
    |none=>rfl
    |some w=>have:=ext c w e npa;rw[hp]at this;cases this
  .rw[htk];exact DPs.snoc (by rw[za npD,zb]) (kb.stay tup) (dp.keep tup)
 .refine .inl ⟨⟨h2a,by lia⟩,a,o,.dT kvs,h2a,nf,q _ D ys (λb w e=>?_) hD ?_ ?_ fr⟩
  .by_cases hb:b=a
   .subst hb;rw[zb,<-e,ha]
   .rw[za hb];exact ext b w e hb
  .rw[za hDa];exact h2D
  .rw[Cb ∅]at dp;exact dp.keep λc xs q=>by rw[za λz=>by subst z;rw[h2a]at q;cases q];exact q
end L2
namespace L2
open PySem PySem.Spec PyProof.Rows IC
section
variable {K:AE}{cl:Nat->AK}{B:AK->Prop}{φ:Ph}{H:Hp}{st:SO}
mutual
theorem zel(rs:yp K cl B φ H st):∀(q:NK) (x:V),NKr H q x->yc K cl B φ H (nkP q) x
 |.a k,x,r=>zkY.mpr r
 |.t l,x,r=>by
  let⟨b,xs,rfl,g,hs⟩:=r;erw[nkP,yc];exact⟨b,xs,rfl,.inl ⟨g,λz=>rs.nt b z xs g,λz=>rs.untup z g⟩,zeq rs l xs hs⟩
theorem zeq(rs:yp K cl B φ H st):∀(q:List NK) (xs:List V),NKs H q xs->ye K cl B φ H (yat q) xs
 |[],xs,l=>by simpa only[yat,ye] using (show xs=[]from l)
 |q::qs,xs,l=>by
  let⟨y,ys,rfl,r,l⟩:=l;erw[yat,ye];exact⟨y,ys,rfl,zel rs q y r,zeq rs qs ys l⟩
end
def zdi(rs:yp K cl B φ H st):∀{kvs:List (PV×PV)} {ks:List (List NK×V)} {ys:List V},DT K cl B φ H kvs ks->DPs H ys ks->ye K cl B φ H (kvs.map λp=>.tup [p.1,p.2]) ys
 |[],ks,ys,t,d=>by
  cases (show ks=[]from t)
  have e:=d.len;erw[BA,ye];exact DF.1 e
 |(k,v)::r,ks,ys,t,d=>by
  let⟨q,x,s,rfl,rfl,rv,t'⟩:=t
  cases ys with
  |nil=>cases d
  |cons y ys=>
   let⟨q',x',s',a,b,e1,e2,ha,hb,d'⟩:=d
   cases e1
   subst e2;erw[AM,ye];refine⟨_,ys,rfl,?_,zdi rs t' d'⟩;erw[yc,ye];have kr:yc K cl B φ H (nkP (.t q)) (.ref b):=zel rs (.t q) _ hb.1;exact⟨a,_,rfl,.inl ⟨ha,λz=>rs.nt a z _ ha,λz=>rs.untup z ha⟩,_,_,rfl,by simpa only[nkP,yc] using kr,_,_,rfl,rv,rfl⟩
end
def zgE{X:Cx}{s1:Bo}{t:TS}(h:PS X s1 t):PS X s1 (λD σ H=>t {D with nx:=λσ' H'=>∃a o u,H' a=AA (.frz o u)/\ycN X a/\D.nx σ' (upd H' a u)} σ H):=λπ s σ H D I q=>
 thn (h π s σ H _ I q) λf s1 r=>by
  cases f with
  |next=>
   let⟨σ',H',I',a,o,u,e,n,r⟩:=r;exact⟨σ',_,I'.unfz e n,r⟩
  |brk=>exact r
  |cont=>exact r
  |ret u=>exact r
section
variable {S:Se}{X:Cx}
def zjF{sc:BR}{NC:List AW}{i n:Nat}{x d k v:AW}{x1 x2:Nat}{px p0 p1 p2 p3 p4 p5 p6 ap cp p11 spos:CG}(hN:X.N.Nodup)(hix:X.N[n]?=AA x)(hx:Loc X.env.scope x)(hc:X.calm=AD)(O:yJ X sc NC [AC,AC])
  (hd:PE X (.Name d p0) (yb3 i)) (hg1:∀j,PG (cxC X sc NC j) (.Name k p1) (yaY 0)) (hg2:∀j,PG (cxC X sc NC j) (.Name v p2) (yaY 1)) (hk:∀j,PE (cxC X sc NC j) (.Name k p3) (yb3 0)) (hv:∀j,PE (cxC X sc NC j) (.Name v p4) (yb3 1))
  (hline:(ap.endLine==cp.line)=AD)
  (hsw:swapsWith (.ListComp (.Tuple [.Name k p3,.Name v p4] x1 p5) [⟨.Tuple [.Name k p1,.Name v p2] x2 p6,.Call (.Attribute (.Name d p0) "items" ap) [] [] cp,[],0⟩] sc p11) (AA (.Name x px)) spos.line X.env=pure AD)
  (hfn:X.fn x=AD \/ X.env.scope.names.lookup x=AA .local):
  PS X (.Assign [.Name x px] (.ListComp (.Tuple [.Name k p3,.Name v p4] x1 p5) [⟨.Tuple [.Name k p1,.Name v p2] x2 p6,.Call (.Attribute (.Name d p0) "items" ap) [] [] cp,[],0⟩] sc p11) spos) (tS S X (.asg (.n n) (.itm i))):=
 (zgE (zed hN hix hx hc O (zj2 hd rfl hline) (λj=>zgs (X:=cxC X sc NC j) hc (zbf (hg1 j) (zbf (hg2 j) zk5 rfl) rfl)) (λj=>zds)
  (λj=>zf6 (zl (hk j) (zl (hv j) zkU))) hsw (λ_=>rfl) hfn)).imp λD σ H ⟨B,φ,st,ρ,rs,re,h⟩=>by
  erw[ex,ev]at h;unfold ycU at h
  cases hv:ρ[i]? with
  |none=>rw[hv]at h;exact h.elim
  |some o=>
   rw[hv]at h
   cases o with
   |none=>exact h.elim
   |some w=>
    dsimp only at h
    cases hkv:yR st w with
    |none=>rw[hkv]at h;exact h.elim
    |some p=>
     let⟨t,kvs⟩:=p;rw[hkv]at h
     cases t with
     |false=>exact h.elim
     |true=>
      dsimp only at h
      by_cases c:kvs.length<=1000
      .rw[if_pos c]at h;let⟨m,rfl,hm⟩:=zH hkv;let⟨y,hy,ry⟩:=re.get i _ hv;let⟨a,rfl,ha,ro⟩:=rs.dct ry hm;let⟨ks,hks,l⟩:=ro;refine zfr (X:=X) (slots:=[AC,AC]) (kt:=0) (vt:=1) (i:=i) (Q:=λx H'=>D.nx (σ.set n (AA x)) H') rfl rfl ⋯ ⟨a,ks,hy,hks,by rw[<-l.len];exact c,λH' E ys ext hE hE' dp fr=>?_⟩;have s0:Step φ H φ H':=⟨λb o _ e=>ext b o e,AR _,λ_ _ _ e=>e,λ_ h=>.inl h⟩;have rs0:=rs.same ext;refine h _ H' φ s0 rs0 ((re.step s0).set n ?_);erw[yc];exact⟨E,ys,rfl,⟨hE',λz=>rs.nB hE z,λz=>by
        let⟨u,e⟩:=rs.there z;rw[hE]at e;cases e⟩,zdi rs0 (l.step s0) dp⟩
      .rw[if_neg c]at h;exact h.elim
end
end L2
namespace L2
open PySem PySem.Spec PyProof.Rows
def zer{prog:A4}{w:Aa}{A:A9}(hh:A.handled=AC){I d:AK}(hne:d≠I){od:Bm}{es:Array BL}{ep:Nat}(hdd:od.data=.dict es ep):
  Walks prog w A I [I,d] [I] es.size (λi v=>∃e,es[i]?=AA e/\v=e.key) (λi h=>h.IsKeyIter I d i es.size ep/\h.get? d=AA od) where
 sub:=λb hb=>by simp at hb;simp[hb]
 frame:=λ_ _ _ st hk=>⟨st.1.at λo e=>hk I (by simp) o e,hk d (by simp) _ st.2⟩
 item:=λi s Q E hi st hQ=>zgK st.1 st.2 hdd hi λh' hit sb=>
  hQ _ h' s.toks ⟨es[i],by rw[Bl hi],rfl⟩ ⟨hit,(sb.2 d hne).trans st.2⟩ λb o hb e=>(sb.2 b λz=>hb (by simp[z])).trans e
 done:=λs Q E st hQ=>zjQ hh st.1 st.2 hdd (AR _) λh' he=>hQ h' s.toks λb o hb e=>he b o (λz=>hb (by simp[z])) e
 self:=λ_ _ _ _ st hQ=>zho st.1 hQ
def zgT{prog:A4}{w:Aa}{d:AK}{od:Bm}{es:Array BL}{ep:Nat}(lo:(d==sysModules)=AG)(hT:od.cls=.type "dict")(hdd:od.data=.dict es ep):
  PySem.W.KdlSrc prog w "dict" d d es.size (λi v=>∃e,es[i]?=AA e/\v=e.key) (λh=>h.get? d=AA od) where
 type:=λ_ g=>⟨od,g,hT⟩
 there:=λ_ g=>⟨AX g,AX g⟩
 keep:=λ_ _ g hk=>hk d (.inl rfl) _ g
 notList:=by decide
 notTuple:=by decide
 hint:=λ_ _ _ _ g hq=>PySem.W.kdl_hint_dict ⟨od,g,hT⟩ hq
 iter:=λ_ _ hh g=>⟨_,_,(λ_ _ hq=>zg7 lo g ⟨od,g,hT⟩ hdd hq),zer hh (Al (AX g)) hdd,⟨_,AT _ rfl,rfl,rfl⟩,AL _ g⟩
def ybm(H:Hp):List V->List (List NK×V)->Prop
 |[],ks=>ks=[]
 |y::ys,ks=>∃k v r b,ks=(k,v)::r/\y=.ref b/\KyR H k b/\ybm H ys r
theorem ybm.len{H:Hp}:∀{ys:List V} {ks:List (List NK×V)},ybm H ys ks->ys.length=ks.length
 |[],ks,d=>by cases (show ks=[]from d);rfl
 |y::ys,_,d=>by
  let⟨k,v,r,b,rfl,_,_,d'⟩:=d;simp[d'.len]
def zcA{H:Hp}:∀{kvs:List (List NK×V)} {xs:List (List NK×AK×AF)},KT H kvs xs->∃ys,ybm H ys kvs/\Vals ys (xs.map λq=>Ab q.2.1)
 |_,_,.nil=>⟨[],rfl,.nil⟩
 |_,_,.cons (a:=p) (b:=q) h t=>by
  let⟨ys,n,r⟩:=zcA t;exact⟨.ref q.2.1::ys,⟨p.1,p.2,_,q.2.1,rfl,rfl,h.2.1,n⟩,.cons rfl r⟩
section
variable {X:Cx}
def zfA(hc:X.calm=AD):yQ X (.type "list") (λxs H Q=>∃a kvs,xs=[.ref a]/\H a=AA (.dT kvs)/\∀l ys,H l=AC->ybm H ys kvs->Q (.ref l) (upd H l (.lst ys))):=by
 intro π s σ H xs us Q I r h;let⟨a,kvs,rfl,hq,q⟩:=h;let⟨u,rfl,rx⟩:=vals1 r
 cases rx
 let⟨z,y,xs,rr,o,es,ep,h1,h2,h3,h4,h5⟩:=(show yt X.prog X.w H s.heap a (.dT kvs)from I.hok a _ hq);have hsz:es.size=kvs.length:=by
  have:=congrArg Bk h4;rw[AQ,<-C2 rr]at this;simpa using this
 let⟨ys,n,rv⟩:=zcA rr;refine PySem.W.kdl_call (zgT y h2.1 h3) (I.ok.hd hc) h1 (by rw[hsz];exact z) λh' tk acc c kp g it=>?_;have ea:acc.toList=xs.map λq=>Ab q.2.1:=by
  refine EZ λj=>?_;rw[CS];have hl:xs.length=es.size:=by rw[<-Cu,h4,AQ]
  by_cases hj:j<es.size
  .obtain⟨v,hv⟩:∃v,acc[j]?=AA v:=⟨acc[j]'(by rw[it.1];exact hj),Bl _⟩;let⟨e,he,rfl⟩:=it.2 j v hv;have h6:es.toList[j]?=AA e:=by rw[CS];exact he
   rw[h4,BJ]at h6;rw[hv,BJ]
   cases q:xs[j]? with
   |none=>rw[q]at h6;cases h6
   |some p=>rw[q]at h6;cases h6;rfl
  .rw[DU (by rw[it.1];lia),BQ (by rw[AQ];lia)]
 refine⟨.ref s.heap.objs.size,_,I.laid (t':=tk) kp (AR _) (show yt X.prog X.w _ h' _ (.lst ys)from ⟨by rw[n.len];exact z,acc.toList,c,by rw[ea];exact rv,by simpa using g⟩),rfl,q _ ys (I.hok.fresh (AR _)) n⟩
end
end L2
namespace L2
open PySem PySem.Spec PyProof.Rows IC
def zd7{K:AE}{cl:Nat->AK}{B:AK->Prop}{φ:Ph}{H:Hp}{st:SO}(rs:yp K cl B φ H st):∀{kvs:List (PV×PV)} {ks:List (List NK×V)} {ys:List V},DT K cl B φ H kvs ks->ybm H ys ks->ye K cl B φ H (kvs.map λp=>p.1) ys
 |[],ks,ys,t,d=>by
  cases (show ks=[]from t)
  have e:=d.len;erw[BA,ye];exact DF.1 e
 |(k,v)::r,ks,ys,t,d=>by
  let⟨q,x,s,rfl,rfl,rv,t'⟩:=t
  cases ys with
  |nil=>cases d
  |cons y ys=>
   let⟨q',x',s',b,e1,e2,hb,d'⟩:=d
   cases e1
   subst e2;erw[AM,ye];exact⟨_,ys,rfl,zel rs (.t q) _ hb.1,zd7 rs t' d'⟩
section
variable {S:Se}{X:Cx}{a:AY}{ca:Ce}{p pos:CG}
def zeT:bootBuiltins "list"=AA (.type "list"):=by decide +kernel
def zjW(hc:X.calm=AD)(hg:Gl X "list")(hm:X.mg "list"=AC)(ha:PE X a (tE S X ca))(he:starEach [a] X.env=(AG,eval a X.env)::starEach [] X.env:=by rfl):
  PE X (.Call (.Name "list" p) [a] [] pos) (tE S X (.lsk ca)):=
 (zaC (zfA hc) hg hm zeT (zl ha zkU he) ⋯ ⋯ he rfl).imp λσ H Q ⟨B,φ,st,ρ,rs,re,h⟩=>by
  erw[ev]at h;refine tE.bind rs re h λx H1 v st1 φ1 s1 rs1 re1 rv h1=>?_;unfold ycI at h1
  cases hkv:yR st1 v with
  |none=>rw[hkv]at h1;exact h1.elim
  |some p=>
   let⟨t,kvs⟩:=p;rw[hkv]at h1
   cases t with
   |false=>exact h1.elim
   |true=>
    dsimp only at h1
    by_cases c:kvs.length<=1000
    .rw[if_pos c]at h1;let⟨m,rfl,hm⟩:=zH hkv;let⟨y,rfl,hy,ro⟩:=rs1.dct rv hm;let⟨ks,hks,l⟩:=ro;refine⟨y,ks,rfl,hks,λE ys hE n=>?_⟩;have s0:Step φ1 H1 φ1 (upd H1 E (.lst ys)):=.upd hE;have rs0:=rs1.upd (o:=.lst ys) hE;refine h1 (.ref E) _ φ1 s0 rs0 ?_;have tup:∀b xs,H1 b=AA (.tup xs)->upd H1 E (.lst ys) b=AA (.tup xs):=λb xs q=>by rw[za (zc q hE)];exact q
     erw[yc];exact⟨E,ys,rfl,⟨zb,λz=>rs1.nB hE z,λz=>by
      let⟨u,e⟩:=rs1.there z;rw[hE]at e;cases e⟩,(zd7 rs1 l n).step s0⟩
    .rw[if_neg c]at h1;exact h1.elim
end
end L2
namespace PySem
open Sem (wp)
section
variable {prog:A4}{w:Aa}{A:A9}{E:AF->AI->Prop}{s:AI}
def zgC{d:AK}{od:Bm}{es:Array BL}{ep:Nat}{Q:AF->AI->Prop}(hd:(d==sysModules)=AG)(hod:s.heap.get? d=AA od)(hT:s.TypeIs (.ref d) "dict")(hdd:od.data=.dict es ep)(hfit:(es.size:Int)<2^63)
  (h:Q (.int es.size (s.toks+1)) {s with toks:=s.toks+1+1}):AV (model prog w) A (call (.builtin "len") [.ref d]) Q E s:=by
 have m:MeetsIn prog w (Ey.«dict.__len__» ⟨[.ref d],[]⟩) (λ_ R s=>(s.heap.get? d=AA od)/\R (.ok (.ret (.int es.size s.toks))) {s with toks:=s.toks+1}):=
  .of_wp λA R s ⟨ho,h⟩=>by
   show AV _ _ (dictSize d >>= _) _ _ s;unfold dictSize;refine AB (AB (Bz ho hdd (AJ ?_)));show AV _ _ (HN d >>= _) _ _ s;refine AB (wpAny_pendingCount_other hd ?_);refine wpAny_ret_mkInt ?_;rw[Nat.add_zero];exact h
 refine Calls.call_function_entry kind_len plain_len entry_len (args_len1 _) ?_;unfold Ey.«len»;refine AB (m:=oneArg "len" _) (AJ ?_);refine AB (m:=callSpecial? (.ref d) (AS "__len__")) (As (name:=AS "__len__") hT Gv
  (G0 Gv hT F.entry_dict_len (F.args_dict_len_1 _) m ⟨hod,?_⟩))
 show AV _ _ _ _ _ {s with toks:=s.toks+1};refine AB (Bd (AJ ?_));refine AB (wpAny_letGo ?_);show AV _ _ (if ((es.size:Nat):Int)<0 then _ else _) _ _ _;rw[if_neg ∅];show AV _ _ (if ((es.size:Nat):Int) ≥ 2^63 then _ else _) _ _ _;rw[if_neg ∅];exact AB (wpAny_mkInt (AJ ⟨_,rfl,h⟩))
end
end PySem
namespace L2
open PySem PySem.Spec PyProof.Rows
section
variable {X:Cx}
def zfX:yQ X (.builtin "len") (λxs H Q=>∃a kvs,xs=[.ref a]/\H a=AA (.dT kvs)/\Q (.int kvs.length) H):=by
 intro π s σ H xs us Q I r h;let⟨a,kvs,rfl,hq,q⟩:=h;let⟨u,rfl,rx⟩:=vals1 r
 cases rx
 let⟨z,y,xs,rr,o,es,ep,h1,h2,h3,h4,h5⟩:=(show yt X.prog X.w H s.heap a (.dT kvs)from I.hok a _ hq);have hsz:es.size=kvs.length:=by
  have:=congrArg Bk h4;rw[AQ,<-C2 rr]at this;simpa using this
 have hs:=Bs;refine zgC y h1 ⟨o,h1,h2.1⟩ h3 ∅ ⟨.int kvs.length,H,I.tok _,⟨_,by rw[hsz]⟩,q⟩
end
end L2
namespace L2
open PySem PySem.Spec PyProof.Rows IC
theorem DT.size{K:AE}{cl:Nat->AK}{B:AK->Prop}{φ:Ph}{H:Hp}:∀{kvs:List (PV×PV)} {ks:List (List NK×V)},DT K cl B φ H kvs ks->kvs.length=ks.length
 |[],ks,t=>by cases (show ks=[]from t);rfl
 |(k,v)::r,ks,t=>by
  let⟨q,x,s,rfl,rfl,rv,t'⟩:=t;rw[AO,AO,t'.size]
section
variable {S:Se}{X:Cx}{a:AY}{ca:Ce}{p pos:CG}
def zhf:bootBuiltins "len"=AA (.builtin "len"):=by decide +kernel
def ziw(hg:Gl X "len")(hm:X.mg "len"=AC)(ha:PE X a (tE S X ca))(he:starEach [a] X.env=(AG,eval a X.env)::starEach [] X.env:=by rfl):
  PE X (.Call (.Name "len" p) [a] [] pos) (tE S X (.lnd ca)):=
 (zbn zfX hg hm zhf (zl ha zkU he) ⋯ ⋯ he rfl).imp λσ H Q ⟨B,φ,st,ρ,rs,re,h⟩=>by
  erw[ev]at h;refine tE.bind rs re h λx H1 v st1 φ1 s1 rs1 re1 rv h1=>?_;unfold ycx at h1
  cases hkv:yR st1 v with
  |none=>rw[hkv]at h1;exact h1.elim
  |some p=>
   let⟨t,kvs⟩:=p;rw[hkv]at h1
   cases t with
   |false=>exact h1.elim
   |true=>
    let⟨m,rfl,hm⟩:=zH hkv;let⟨y,rfl,hy,ro⟩:=rs1.dct rv hm;let⟨ks,hks,l⟩:=ro;refine⟨y,ks,rfl,hks,?_⟩;rw[<-l.size];exact h1 _ H1 φ1 .rfl rs1 (by erw[yc])
end
section
variable {X:Cx}
end
section
variable {S:Se}{X:Cx}{σ:St}{B:AK->Prop}{φ φ1:Ph}{H H1:Hp}{st:SO}{ρ:IC.Env}{p pos p2 apos:CG}{a b:AY}{ca cb:Ce}{K:AE}{cl:Nat->AK}
end
section
variable {S:Se}{X:Cx}{σ:St}{B:AK->Prop}{φ:Ph}{H:Hp}{st:SO}{p pos p2 px apos:CG}{a b c d o tg l:AY}{ca cb cc:Ce}{ct:Tg}{ss:List Bo}{cs:Css}
end
section
variable {S:Se}{X:Cx}{σ:St}{B:AK->Prop}{φ φ1:Ph}{H H1:Hp}{st:SO}{ρ:IC.Env}{pos:CG}{a b tg elt iter:AY}{ca cb ce:Ce}{ct:Tg}
end
end L2
namespace L2
open PySem PySem.Spec PyProof.Rows IC WK
inductive GK where
 |fn (i:Nat)|fnD (i:Nat)|cst (v:PV)|dct (D:List (AW×PV))|exc (c:Nat)|cls (c i:Nat)
structure Gs where
 g:AW->Option GK
 b:AW->Bool
 t:Ty->Bool
 fl:Nat->AW->Bool
 me:Nat->AW->Option Nat
 kb:Nat->Nat->List AW->Option (List (Option Int))
 mr:AW->Option (List (AW×Nat))
 fv:AW->Nat->Bool
 xk:Nat->Ty->Bool
 xc:Nat->AW->Bool
 xm:Nat->AW->Bool
 qf:Nat->Bool
structure Kx where
 N:List AW
 sc:BR
 own:Bool
 h:Bool
def Fo(m:Nat)(S:Se)(X:Cx)(i:Nat)(f:AK)(fd:Ax)(ps:List AW):Prop:=yaK X.prog X.w X.K X.mg X.base (CX1 X.prog X.w) m f fd ps (spI X.K S.cl S.call i)
structure Glo(γ:Gs)(m:Nat)(S:Se)(X:Cx):Prop where
 F:∀x i,γ.g x=AA (.fn i)->∃f fd ps,Fo m S X i f fd ps/\X.mg x=AA (.ref f)/\An X.K (.ref f)=AD/\Binds X.K fd ps []
 Q:∀x i np ks sh,γ.g x=AA (.fnD i)->γ.kb i np ks=AA sh->∃f fd ps,Fo m S X i f fd ps/\X.mg x=AA (.ref f)/\An X.K (.ref f)=AD/\∃g,ybC X.K fd ps ks g (gK np sh)
 C:∀x v,γ.g x=AA (.cst v)->GC X.K X.mg S.cl x v \/ ∃i,v=.int i/\GCI X.mg x i
 D:∀x d,γ.g x=AA (.dct d)->GD X.K X.w X.mg S.cl x d
 E:∀x c,γ.g x=AA (.exc c)->ycG X.K X.mg (S.cl c) x
 N:∀x c i,γ.g x=AA (.cls c i)->X.mg x=AA (.ref (S.cl c))/\∃f fd ps,Mk X.K (S.cl c) f/\Fo m S X i f fd ps/\Binds X.K fd ps []
 B:∀x,γ.b x=AD->X.mg x=AC
 T:∀t,γ.t t=AD->ydv X.K t
 A:∀c f,γ.fl c f=AD->Cls X.K (S.cl c)/\yag X.K (S.cl c) f
 M:∀c n i,γ.me c n=AA i->Cls X.K (S.cl c)/\∃f fd ps,Meth X.K (S.cl c) n f/\Fo m S X i f fd ps/\Binds X.K fd ps []
 K:∀y D,γ.mr y=AA D->∃fa fdd ps,Makers S X m D fa fdd ps/\GDF X.K X.w X.mg fa y D
 V:∀x i,γ.g x=AA (.fn i)->γ.fv x i=AD->X.mg x=AA (.ref (S.cl (1000+i)))
 I:∀c t,γ.xk c t=AD->yeJ X.K (S.cl c)/\ygg X.K S.cl c t
 L:∀d x,γ.xc d x=AD->X.mg x=AA (.ref (S.cl d))
 H:∀c x,γ.xm c x=AD->∃W,X.mg x=AA (.ref W)/\HJ X.K (.ref (S.cl c)) (.ref W)=AA AD
 Z:∀x i,γ.g x=AA (.fn i)->γ.qf i=AD->∃f fd ps,ybu X.prog X.w X.K X.mg X.base m f fd ps (spI X.K S.cl S.call i)/\X.mg x=AA (.ref f)/\An X.K (.ref f)=AD/\Binds X.K fd ps []
structure Good(γ:Gs)(κ:Kx)(m:Nat)(S:Se)(X:Cx):Prop where
 n:X.N=κ.N
 sc:X.env.scope=κ.sc
 calm:κ.h=AG->X.calm=AD
 room:yax (m+1) X.A
 hd:κ.h=AG->X.A.handled=AC
 own:κ.own=AD->Ee (model X.prog X.w) X.A X.env X.xe/\(∀x,X.fn x=AD)/\S.may=AD
 top:κ.own=AD->(∃outer,X.stack=X.env::outer)/\X.ex=[]/\X.env.frame=AA X.env.locals
 glo:Glo γ m S X
theorem Good.rm{γ:Gs}{κ:Kx}{m:Nat}{S:Se}{X:Cx}(G:Good γ κ m S X)(h:κ.h=AG):yav (m+1) X.A:=⟨G.hd h,G.room.dp,G.room.un⟩
def zf9{k:Nat}{A:A9}(r:yax k A):A.units+16<cLine:=by have:=r.units;lia
def zgy{k:Nat}{A:A9}(r:yax k A):A.units+16<cLine:=by have:=r.units;lia
abbrev Pr(P:Prop):Type:=Option (PLift P)
abbrev YE(γ:Gs)(κ:Kx)(e:AY)(c:Ce):Prop:=∀m S X,Good γ κ m S X->PE X e (tE S X c)
abbrev YT(γ:Gs)(κ:Kx)(e:AY)(c:Ce):Prop:=∀m S X,Good γ κ m S X->PT X e (tTs S X c)
abbrev YW(γ:Gs)(κ:Kx)(e:AY)(c:Ce):Prop:=∀m S X,Good γ κ m S X->PW X e (tTs S X c)
abbrev YA(γ:Gs)(κ:Kx)(e:List AY)(c:Ces):Prop:=∀m S X,Good γ κ m S X->PA X e (tAs S X c)
abbrev YO(γ:Gs)(κ:Kx)(e:Option AY)(c:Ce):Prop:=∀m S X,Good γ κ m S X->PO X e (tO S X c)
abbrev YS(γ:Gs)(κ:Kx)(s:Bo)(c:Cs):Prop:=∀m S X,Good γ κ m S X->PS X s (tS S X c)
abbrev YSs(γ:Gs)(κ:Kx)(s:List Bo)(c:Css):Prop:=∀m S X,Good γ κ m S X->PSs X s (tSs S X c)
def an{P Q:Prop}(a:Pr P)(k:P->Pr Q):Pr Q:=match a with
 |some h=>k h.down
 |none=>AC
def ok{P:Prop}(h:P):Pr P:=AA ⟨h⟩
def ask(p:Prop)[Decidable p]:Pr p:=if h:p then AA ⟨h⟩else AC
def nst:AY->Bool
 |.Starred _ _=>AG
 |_=>AD
def zkS{a:AY}{es:List AY}{env:BP}(h:nst a=AD):starEach (a::es) env=(AG,eval a env)::starEach es env:=by
 cases a<;>first|rfl|cases h
def ycl(es:List AY):Bool:=es.all nst
theorem stars{pos:CG}{env:BP}:∀{es:List AY},ycl es=AD->(backTo pos (starEach es env)).any (·.1)=AG
 |[],_=>rfl
 |a::es,h=>by
  erw[ycl,Au,AH]at h;rw[zkS h.1];have:=stars (pos:=pos) (env:=env) (es:=es) h.2;simpa [backTo] using this
def nco:AY->Bool
 |.ListComp ..=>AG
 |.SetComp ..=>AG
 |.DictComp ..=>AG
 |_=>AD
theorem swp{a:AY}{t:Option AY}{l:Nat}{env:BP}(h:nco a=AD):swapsWith a t l env=pure false:=by
 cases a<;>first|rfl|cases h
def nse:AY->Bool
 |.Set ..=>AG
 |_=>AD
theorem fse{a:AY}{env:BP}(h:nse a=AD):∀x,foldedSetIterable a env x=pure x:=by
 cases a<;>first|exact λ_=>rfl|cases h
theorem nmk{op:Fj}{a:AY}(h:nse a=AD):behindInMarks op a=false:=by
 cases a<;>first|rfl|cases h
def nsl:AY->Bool
 |.Slice ..=>AG
 |_=>AD
theorem pix{a:AY}(h:nsl a=AD):ya9 a:=by
 cases a<;>first|exact λ_ _=>rfl|cases h
def ntu:AY->Bool
 |.Tuple ..=>AG
 |_=>AD
def nte:AY->Bool
 |.UnaryOp ..=>AG
 |.BoolOp ..=>AG
 |.IfExp ..=>AG
 |.Compare ..=>AG
 |_=>AD
theorem itr{a:AY}{env:BP}(h:nte a=AD):∀whole,isTrue a env whole=(do let v <-whole;standAt a.pos;holding [v] (truthy v)):=by
 cases a<;>first|exact λ_=>rfl|cases h
def nca:AY->Bool
 |.Call ..=>AG
 |_=>AD
def zk0{a:AY}{f:AW}{env:BP}{w:IL AF}(h:nca a=AD):attributeBase a f env w=w:=by
 cases a<;>first|rfl|cases h
def mOp(op:DG)(o:BOp):Pr (∀S X,OpR X (binaryOp op) (rT2 S X (yr o))):=
 match op,o with
 |.Add,.add=>ok (λ_ _=>zik)
 |.Sub,.sub=>ok (λ_ _=>zjm)
 |.Mult,.mul=>ok (λ_ _=>ziX)
 |.FloorDiv,.fdiv=>ok (λ_ _=>zhE)
 |.Mod,.mod=>ok (λ_ _=>zjR)
 |.Pow,.pow=>ok (λ_ _=>ziQ)
 |.LShift,.shl=>ok (λ_ _=>zjS)
 |_,_=>AC
def mCm(op:Fj)(o:COp):Pr (∀m S X,yax m X.A->OpR X (compareOp op) (rT2 S X (yw o))):=
 match op,o with
 |.Eq,.eq=>ok (λ_ _ _ r=>zkP r.units)
 |.NotEq,.ne=>ok (λ_ _ _ r=>zkC r.units)
 |.Lt,.lt=>ok (λ_ _ _ _=>zkq)
 |.LtE,.le=>ok (λ_ _ _ _=>zkO)
 |.Gt,.gt=>ok (λ_ _ _ _=>zkJ)
 |.GtE,.ge=>ok (λ_ _ _ _=>zkv)
 |.Is,.is=>ok (λ_ _ _ _=>zkj)
 |.In,.isin=>ok (λ_ _ _ _=>zkl)
 |.NotIn,.notin=>ok (λ_ _ _ _=>zfq)
 |_,_=>AC
def yco(sc:BR)(x:AW):Bool:=match sc.names.lookup x with
 |some .local=>AD
 |some .cell=>AD
 |some .free=>AD
 |_=>AG
def zbg{sc:BR}{x:AW}(h:yco sc x=AD):Vis sc x:=by
 unfold yco at h;split at h
 .exact .inl ‹_›
 .exact .inr (.inl ‹_›)
 .exact .inr (.inr ‹_›)
 .cases h
def yc6(sc:BR)(x:AW):Bool:=match sc.names.lookup x with
 |some .local=>AD
 |some .cell=>AD
 |_=>AG
def zdh{sc:BR}{x:AW}(h:yc6 sc x=AD):Loc sc x:=by
 unfold yc6 at h;split at h
 .exact .inl ‹_›
 .exact .inr ‹_›
 .cases h
def pln(x:AW):Bool:=!(x==("__debug__":AW))&&!(x==("__classdict__":AW))&&!(x==("__name__":AW))
def zkT{x:AW}(h:pln x=AD):(x==("__debug__":AW))=false:=by
 erw[pln,AH,By]at h;exact h.1.1
def zkW{x:AW}(h:pln x=AD):(x==("__classdict__":AW))=false:=by
 erw[pln,AH,By]at h;exact h.1.2
def zk1{x:AW}(h:pln x=AD):x ≠ "__name__":=by
 erw[pln,AH,By]at h;intro e;rw[e]at h;exact absurd h.2 ⋯
def hf(κ:Kx){P:Prop}(f:κ.h=AG->Pr P):Pr P:=if h:κ.h=AG then f h else AC
def glB(κ:Kx)(x:AW):Bool:=decide (κ.sc.names.lookup x=AA .globalImplicit)&&pln x
def zo{γ:Gs}{κ:Kx}{m:Nat}{S:Se}{X:Cx}(G:Good γ κ m S X){x:AW}(h:glB κ x=AD):Gl X x:=by
 erw[glB,AH,decide_eq_true_eq]at h;show X.env.scope.names.lookup x=_;rw[G.sc];exact h.1
def z7{κ:Kx}{x:AW}(h:glB κ x=AD):pln x=true:=by
 erw[glB,AH]at h;exact h.2
def setB(κ:Kx)(i:Nat)(x:AW):Bool:=decide (κ.N[i]?=AA x)&&decide κ.N.Nodup&&yc6 κ.sc x&&(κ.own || decide (κ.sc.names.lookup x=AA .local))&&pln x
structure ydY(X:Cx)(i:Nat)(x:AW):Prop where
 d:X.N.Nodup
 i:X.N[i]?=AA x
 l:Loc X.env.scope x
 f:X.fn x=AD \/ X.env.scope.names.lookup x=AA .local
 p:pln x=AD
def zA{γ:Gs}{κ:Kx}{m:Nat}{S:Se}{X:Cx}(G:Good γ κ m S X){i:Nat}{x:AW}(h:setB κ i x=AD):ydY X i x:=by
 erw[setB,AH,CW,decide_eq_true_eq]at h;let⟨⟨⟨⟨h1,h2⟩,h3⟩,h4⟩,h5⟩:=h;refine⟨by rw[G.n];exact h2,by rw[G.n];exact h1,by rw[G.sc];exact zdh h3,?_,h5⟩;rcases h4 with h4|h4
 .exact .inl ((G.own h4).2.1 x)
 .exact .inr (by rw[G.sc];exact h4)
def gFn(γ:Gs)(x:AW)(i:Nat):Pr (γ.g x=AA (.fn i)):=match h:γ.g x with
 |some (.fn j)=>if e:j=i then AA ⟨by subst e;rfl⟩else AC
 |_=>AC
section
variable {γ:Gs}{κ:Kx}{ca cb cc:Ce}{ces:Ces}
def yey(v:PV)(e:AY):Pr (YE γ κ e (.cst v)):=
 match e with
 |.Constant (.int i) _ _=>match v with
  |.int j=>an (ask (i=j)) λh=>ok (λ_ _ _ _=>by cases h;exact zga)
  |_=>AC
 |.Constant (.bool i) _ _=>match v with
  |.bl j=>an (ask (i=j)) λh=>ok (λ_ _ _ _=>by cases h;exact zka)
  |_=>AC
 |.Constant .none _ _=>match v with
  |.non=>ok (λ_ _ _ _=>ziV)
  |_=>AC
 |.Constant (.str i) _ _=>match v with
  |.str j=>an (ask (i=j)) λh=>ok (λ_ _ _ _=>by cases h;exact zi0)
  |_=>AC
 |_=>AC
def yel(i:Nat)(e:AY):Pr (YE γ κ e (.var i)):=
 match e with
 |.Name x _=>an (ask (κ.N[i]?=AA x/\yco κ.sc x=AD/\pln x=AD)) λh=>ok (λ_ _ _ G=>zjI (by rw[G.n];exact h.1) (by rw[G.sc];exact zbg h.2.1) (zkT h.2.2) (zkW h.2.2))
 |_=>AC
def yfy(o:BOp)(e:AY)(fa:∀x,Pr (YE γ κ x ca))(fb:∀x,Pr (YE γ κ x cb)):Pr (YE γ κ e (.bin o ca cb)):=
 match e with
 |.BinOp a op b _=>
  an (mOp op o) λho=>an (fa a) λha=>an (fb b) λhb=>ok (λm S X G=>zi9 (ho S X) (ha m S X G) (hb m S X G))
 |_=>AC
def ygr(e:AY)(fa:∀x,Pr (YE γ κ x ca)):Pr (YE γ κ e (.not ca)):=
 match e with
 |.UnaryOp .Not a _=>
  an (fa a) λha=>ok (λm S X G=>zh8 (ha m S X G))
 |_=>AC
def ygb(o:COp)(e:AY)(fa:∀x,Pr (YE γ κ x ca))(fb:∀x,Pr (YE γ κ x cb)):Pr (YE γ κ e (.cmp o ca cb)):=
 match e with
 |.Compare a [op] [b] _=>
  an (mCm op o) λho=>an (ask (nse b=AD)) λhs=>an (fa a) λha=>an (fb b) λhb=>ok (λm S X G=>ziu (ho _ S X G.room) (ha m S X G) (hb m S X G) (nmk hs))
 |_=>AC
def ydA(o:COp)(e:AY)(fa:∀x,Pr (YE γ κ x ca))(fb:∀x,Pr (YE γ κ x cb)):Pr (YT γ κ e (.cmp o ca cb)):=
 match e with
 |.Compare a [op] [b] _=>
  an (mCm op o) λho=>an (ask (nse b=AD)) λhs=>an (fa a) λha=>an (fb b) λhb=>ok (λm S X G=>ziE (ho _ S X G.room) (ha m S X G) (hb m S X G) (nmk hs))
 |_=>AC
theorem lmk{op op':Fj}{b c:AY}(h:nse c=AD):lastMarks [op,op'] [b,c]=false:=nmk h
def yeT(o p:COp)(e:AY)(fa:∀x,Pr (YE γ κ x ca))(fb:∀x,Pr (YE γ κ x cb))(fc:∀x,Pr (YE γ κ x cc)):Pr (YE γ κ e (.chain o p ca cb cc)):=
 match e with
 |.Compare a [op,op'] [b,c] _=>
  an (mCm op o) λho=>an (mCm op' p) λhp=>an (ask (nse c=AD)) λhs=>an (fa a) λha=>an (fb b) λhb=>an (fc c) λhc=>ok (λm S X G=>zeX (ho _ S X G.room) (hp _ S X G.room) (ha m S X G) (hb m S X G) (hc m S X G) (lmk hs))
 |_=>AC
def ydR(o p:COp)(e:AY)(fa:∀x,Pr (YE γ κ x ca))(fb:∀x,Pr (YE γ κ x cb))(fc:∀x,Pr (YE γ κ x cc)):Pr (YT γ κ e (.chain o p ca cb cc)):=
 match e with
 |.Compare a [op,op'] [b,c] _=>
  an (mCm op o) λho=>an (mCm op' p) λhp=>an (ask (nse c=AD)) λhs=>an (fa a) λha=>an (fb b) λhb=>an (fc c) λhc=>ok (λm S X G=>zfF (ho _ S X G.room) (hp _ S X G.room) (ha m S X G) (hb m S X G) (hc m S X G) (lmk hs))
 |_=>AC
def ygk(e:AY)(fc:∀x,Pr (YT γ κ x cc))(fa:∀x,Pr (YE γ κ x ca))(fb:∀x,Pr (YE γ κ x cb)):Pr (YE γ κ e (.ite cc ca cb)):=
 match e with
 |.IfExp c a b _=>
  an (fc c) λhc=>an (fa a) λha=>an (fb b) λhb=>ok (λm S X G=>zjL (hc m S X G) (ha m S X G) (hb m S X G))
 |_=>AC
def yfK(e:AY)(fa:∀x,Pr (YA γ κ x ces)):Pr (YE γ κ e (.tup ces)):=
 match e with
 |.Tuple es _ _=>
  an (fa es) λha=>ok (λm S X G=>ziP (ha m S X G))
 |_=>AC
def yfZ(e:AY)(fa:∀x,Pr (YA γ κ x ces)):Pr (YE γ κ e (.lst ces)):=
 match e with
 |.List es _=>
  an (fa es) λha=>ok (λm S X G=>zi4 (ha m S X G))
 |_=>AC
def ydZ(e:AY)(fa:∀x,Pr (YA γ κ x ces)):Pr (YE γ κ e (.newl ces)):=
 match e with
 |.List es _=>
  an (fa es) λha=>ok (λm S X G=>zhl (ha m S X G))
 |_=>AC
def yd5(t:Bool)(e:AY):Pr (YE γ κ e (.dict0 t)):=
 match t,e with
 |true,.Dict [] [] _=>ok (λ_ _ _ _=>zei)
 |_,_=>AC
def mIdx(e:AY)(fa:∀x,Pr (YE γ κ x ca))(fb:∀x,Pr (YE γ κ x cb)):Pr (YE γ κ e (.idx ca cb)):=
 match e with
 |.Subscript a b _=>
  an (ask (nsl b=AD)) λhs=>an (fa a) λha=>an (fb b) λhb=>ok (λm S X G=>zjz (ha m S X G) (hb m S X G) (pix hs))
 |_=>AC
def ye0(e:AY)(fa:∀x,Pr (YE γ κ x ca))(fb:∀x,Pr (YO γ κ x cb))(fc:∀x,Pr (YO γ κ x cc)):Pr (YE γ κ e (.slc ca cb cc)):=
 match e with
 |.Subscript a (.Slice l h AC _) _=>
  an (fa a) λha=>an (fb l) λhb=>an (fc h) λhc=>ok (λm S X G=>zjs (ha m S X G) (hb m S X G) (hc m S X G))
 |_=>AC
def yeC(c:Ce)(e:Option AY)(fa:∀x,Pr (YE γ κ x c)):Pr (YO γ κ e c):=
 match e with
 |none=>match c with
  |.cst .non=>ok (λ_ _ _ _=>zgI)
  |_=>AC
 |some a=>
  an (fa a) λha=>ok (λm S X G=>zhb (ha m S X G))
inductive Fs(γ:Gs)(κ:Kx):Ces->Type where
 |nil:Fs γ κ .nil
 |cons {c:Ce} {cs:Ces} (f:∀x,Pr (YE γ κ x c)) (r:Fs γ κ cs):Fs γ κ (.cons c cs)
def yaX:{ces:Ces}->Fs γ κ ces->(es:List AY)->Pr (YA γ κ es ces)
 |_,.nil,[]=>ok λ_ _ _ _=>zdw
 |_,.cons f r,a::es=>an (ask (nst a=AD)) λhs=>an (f a) λha=>an (yaX r es) λhr=>ok λm S X G=>zbd (ha m S X G) (hr m S X G) (zkS hs)
 |_,_,_=>AC
structure Sp2(γ:Gs)(κ:Kx)(ces:Ces)(np:Nat) where
 c1:Ces
 c2:Ces
 f1:Fs γ κ c1
 f2:Fs γ κ c2
 h:ycj c1 c2=ces
 l:ycq c1=np
def ybW:(np:Nat)->{ces:Ces}->Fs γ κ ces->Option (Sp2 γ κ ces np)
 |0,ces,F=>AA ⟨.nil,ces,.nil,F,rfl,rfl⟩
 |n+1,_,.cons f r=>match ybW n r with
  |some s=>AA ⟨.cons _ s.c1,s.c2,.cons f s.f1,s.f2,by rw[ycj,s.h],by rw[ycq,s.l]⟩
  |none=>AC
 |_,_,_=>AC
structure It2(γ:Gs)(κ:Kx)(ces:Ces)(sh:List (Option Int))(kws:List C9) where
 it:List (Sum Ce Int)
 h:yai it=ces
 s:it.map shC=sh
 k:∀m S X,Good γ κ m S X->PK X kws (tK S X it)
def ybv:(sh:List (Option Int))->{ces:Ces}->Fs γ κ ces->(kws:List C9)->Option (It2 γ κ ces sh kws)
 |[],_,.nil,[]=>AA ⟨[],rfl,rfl,λ_ _ _ _=>zjw⟩
 |none::sh,.cons c _,.cons f r,⟨_,e,_⟩ :: kws=>match f e,ybv sh r kws with
  |some h,AA q=>AA ⟨.inl c::q.it,by rw[yai,q.h],by rw[AM,q.s];rfl,λm S X G=>zkr (h.down m S X G) (q.k m S X G)⟩
  |_,_=>AC
 |some i::sh,.cons (.cst (.int j)) _,.cons _ r,kws=>if e:i=j then match ybv sh r kws with
  |some q=>AA ⟨.inr i::q.it,by rw[yai,q.h,e],by rw[AM,q.s];rfl,λm S X G=>zkB (q.k m S X G)⟩
  |none=>AC
  else AC
 |_,_,_,_=>AC
def kwN:List C9->List AW
 |[]=>[]
 |⟨AA x,_,_⟩ :: r=>x::kwN r
 |_::r=>kwN r
def kwB:List C9->Bool
 |[]=>AD
 |⟨AA _,_,_⟩ :: r=>kwB r
 |_=>AG
def zji{pos:CG}{env:BP}:∀{kws:List C9},kwB kws=AD->(backToKw pos (keywordEach kws env)).all (·.1.isSome)=AD/\(backToKw pos (keywordEach kws env)).filterMap (·.1)=kwN kws/\(backToKw pos (keywordEach kws env)).any (·.1.isNone)=AG
 |[],_=>⟨rfl,rfl,rfl⟩
 |⟨AA x,e,_⟩ :: r,h=>by
  let⟨h1,h2,h3⟩:=zji (pos:=pos) (env:=env) (kws:=r) h;erw[backToKw]at h1 h2 h3 ⊢;erw[keywordEach,AM,Au,Bi,CF,h1,h2,h3,kwN];simp
def yeV(hκ:κ.h=AG)(i:Nat)(F:Fs γ κ ces)(e:AY):Pr (YE γ κ e (.call i ces)):=
 match e with
 |.Call (.Name x _) [] [] _=>match F with
  |.nil=>an (ask (glB κ x=AD)) λhg=>an (gFn γ x i) λhf=>ok λm S X G=>by
   let⟨f,fd,ps,h1,h2,h3,h4⟩:=G.glo.F x i hf;exact zfV h1 ((G.rm hκ).mono (EV m)) (zo G hg) h2 h3 h4 (zkT (z7 hg))
  |_=>AC
 |.Call (.Name x _) (a::es) kws _=>an (ask (glB κ x=AD/\nst a=AD/\ycl es=AD)) λhg=>
  match hx:γ.g x with
  |some (.fn j)=>match kws with
   |[]=>an (ask (j=i)) λhj=>an (yaX F (a::es)) λha=>ok λm S X G=>by
    subst hj;let⟨f,fd,ps,h1,h2,h3,h4⟩:=G.glo.F x j hx;exact zgD h1 ((G.rm hκ).mono (EV m)) (zo G hg.1) h2 h3 h4 (ha m S X G) (zkT (z7 hg.1)) (zkS hg.2.1) (stars hg.2.2)
   |_=>AC
  |some (.fnD j)=>match hk:γ.kb j (es.length+1) (kwN kws)with
   |none=>AC
   |some sh=>match ybW (es.length+1) F with
    |none=>AC
    |some s=>match ybv sh s.f2 kws with
     |none=>AC
     |some q=>an (ask (kwB kws=AD/\j=i)) λhw=>an (yaX s.f1 (a::es)) λha=>ok λm S X G=>by
      let⟨hw,rfl⟩:=hw;let⟨f,fd,ps,h1,h2,h3,h4⟩:=G.glo.Q x j _ _ sh hx hk;rw[<-s.h,<-q.h];rw[<-q.s]at h4;have w:=λ{pos}=>zji (pos:=pos) (env:=X.env) hw;exact zfI h1 ((G.rm hκ).mono (EV m)) (zo G hg.1) h2 h3 h4 s.l (ha m S X G) (q.k m S X G) w.1 w.2.1 (zkT (z7 hg.1)) (zkS hg.2.1) (by
       rw[w.2.2,HQ];exact stars (es:=a::es) (by erw[ycl,Au,hg.2.1,Be];exact hg.2.2))
  |_=>AC
 |_=>AC
abbrev ydm(b:Blt)(x:AW):Prop:=∀S X,X.calm=AD->(∃id,yQ X (.builtin id) (rB S X b)/\bootBuiltins x=AA (.builtin id)) \/ ∃T,yQ X (.type T) (rB S X b)/\bootBuiltins x=AA (.type T)
def ygf(b:Blt)(x:AW):Pr (ydm b x):=
 match b with
 |.len=>an (ask (x="len")) λh=>ok λ_ _ _=>.inl ⟨_,zi1,h ▸ zjq⟩
 |.int=>an (ask (x="int")) λh=>ok λ_ _ _=>.inr ⟨_,zh2,h ▸ ziv⟩
 |.abs=>an (ask (x="abs")) λh=>ok λ_ _ _=>.inl ⟨_,zh6,h ▸ ziB⟩
 |.tuple=>an (ask (x="tuple")) λh=>ok λ_ _ _=>.inr ⟨_,zfP,h ▸ zeU⟩
 |.all=>an (ask (x="all")) λh=>ok λ_ _ c=>.inl ⟨_,zjV c,h ▸ zjl⟩
 |.sum=>an (ask (x="sum")) λh=>ok λ_ _ c=>.inl ⟨_,zib c,h ▸ zjT⟩
 |_=>AC
def ygd(b:Blt)(F:Fs γ κ ces)(e:AY):Pr (YE γ κ e (.blt b ces)):=
 match e with
 |.Call (.Name x _) (a::es) [] _=>hf κ λhκ=>an (ask (glB κ x=AD/\nst a=AD/\ycl es=AD/\γ.b x=AD)) λhg=>an (ygf b x) λhb=>an (yaX F (a::es)) λha=>ok λm S X G=>by
  rcases hb S X (G.calm hκ)with⟨id,h1,h2⟩|⟨T,h1,h2⟩
  .exact zja h1 (zo G hg.1) (G.glo.B x hg.2.2.2) h2 (ha m S X G) (zk1 (z7 hg.1)) (zkT (z7 hg.1)) (zkS hg.2.1) (stars hg.2.2.1)
  .exact zgS h1 (zo G hg.1) (G.glo.B x hg.2.2.2) h2 (ha m S X G) (zk1 (z7 hg.1)) (zkT (z7 hg.1)) (zkS hg.2.1) (stars hg.2.2.1)
 |_=>AC
def ygx(F:Fs γ κ ces)(e:AY):Pr (YE γ κ e (.blt .rev ces)):=
 match e,F with
 |.Subscript a (.Slice AC AC (AA (.UnaryOp .USub (.Constant (.int i) _ _) _)) _) _,.cons f .nil=>an (ask (i=1)) λhi=>an (f a) λha=>ok λm S X G=>by
  subst hi;exact zjH (ha m S X G) (zia zga)
 |_,_=>AC
def yfL(b:Blt)(F:Fs γ κ ces)(e:AY):Pr (YE γ κ e (.blt b ces)):=
 match b with
 |.rev=>ygx F e
 |b=>ygd b F e
def ygn(e:AY)(fa:∀x,Pr (YE γ κ x ca)):Pr (YE γ κ e (.dof ca)):=
 match e with
 |.Call (.Name x _) [a] [] _=>hf κ λhκ=>an (ask (x="dict"/\glB κ x=AD/\nst a=AD/\γ.b x=AD)) λh=>an (fa a) λha=>ok λm S X G=>by
  let⟨rfl,h1,h2,h3⟩:=h;exact zjY (zgy G.room) (G.calm hκ) (zo G h1) (G.glo.B _ h3) (ha m S X G) (zkS h2)
 |_=>AC
def ye7(e:AY)(fa:∀x,Pr (YE γ κ x ca)):Pr (YE γ κ e (.lsk ca)):=
 match e with
 |.Call (.Name x _) [a] [] _=>hf κ λhκ=>an (ask (x="list"/\glB κ x=AD/\nst a=AD/\γ.b x=AD)) λh=>an (fa a) λha=>ok λm S X G=>by
  let⟨rfl,h1,h2,h3⟩:=h;exact zjW (G.calm hκ) (zo G h1) (G.glo.B _ h3) (ha m S X G) (zkS h2)
 |_=>AC
def ye4(e:AY)(fa:∀x,Pr (YE γ κ x ca)):Pr (YE γ κ e (.lnd ca)):=
 match e with
 |.Call (.Name x _) [a] [] _=>an (ask (x="len"/\glB κ x=AD/\nst a=AD/\γ.b x=AD)) λh=>an (fa a) λha=>ok λm S X G=>by
  let⟨rfl,h1,h2,h3⟩:=h;exact ziw (zo G h1) (G.glo.B _ h3) (ha m S X G) (zkS h2)
 |_=>AC
def tyB(t:Ty)(x:AW):Pr (ycM t=AD/\bootBuiltins x=AA (.type (tyN t))):=
 match t with
 |.bool=>an (ask (x="bool")) λh=>ok ⟨rfl,h ▸ zgv⟩
 |_=>AC
def yeZ(ts:List Ty)(e:AY)(fa:∀x,Pr (YE γ κ x ca)):Pr (YE γ κ e (.isi ca ts)):=
 match ts,e with
 |[t],.Call (.Name n _) [a,.Name x _] [] _=>an (ask (n="isinstance"/\glB κ n=AD/\γ.b n=AD/\glB κ x=AD/\γ.b x=AD/\γ.t t=AD/\nst a=AD)) λh=>an (tyB t x) λht=>an (fa a) λha=>ok λm S X G=>by
  let⟨rfl,h1,h2,h3,h4,h5,h6⟩:=h;exact zju (G.glo.T t h5) ht.1 (zo G h1) (G.glo.B _ h2) (zo G h3) (G.glo.B _ h4) ht.2 (ha m S X G) (zk1 (z7 h3)) (zkT (z7 h3)) (zkS h6) rfl
 |_,_=>AC
mutual
noncomputable def yd2:(a b:PV)->Pr (a=b)
 |.non,.non=>ok rfl
 |.bl a,.bl b=>an (ask (a=b)) λh=>ok (by rw[h])
 |.int a,.int b=>an (ask (a=b)) λh=>ok (by rw[h])
 |.str a,.str b=>an (ask (a=b)) λh=>ok (by rw[h])
 |.tp k a,.tp j b=>an (ask (k=j)) λh=>an (ycd a b) λg=>ok (by rw[h,g])
 |.lst a,.lst b=>an (ycd a b) λg=>ok (by rw[g])
 |_,_=>AC
noncomputable def ycd:(a b:List PV)->Pr (a=b)
 |[],[]=>ok rfl
 |a::x,b::y=>an (yd2 a b) λh=>an (ycd x y) λg=>ok (by rw[h,g])
 |_,_=>AC
end
def eqD:(a b:List (AW×PV))->Pr (a=b)
 |[],[]=>ok rfl
 |(k,a)::x,(j,b)::y=>an (ask (k=j)) λe=>an (yd2 a b) λh=>an (eqD x y) λg=>ok (by rw[e,h,g])
 |_,_=>AC
def yfS(v:PV)(e:AY):Pr (YE γ κ e (.cst v)):=
 match e with
 |.Name x _=>match h:γ.g x with
  |some (.cst u)=>an (ask (glB κ x=AD)) λhg=>an (yd2 u v) λhv=>ok λm S X G=>by
   subst hv;rcases G.glo.C x u h with q|⟨i,rfl,q⟩
   .exact zkf (zo G hg) q (zkT (z7 hg))
   .exact zjb (zo G hg) q (zkT (z7 hg))
  |some (.fn i)=>match v with
   |.fnc j=>an (ask (glB κ x=AD/\γ.fv x i=AD/\i=j)) λhg=>ok λm S X G=>by
    let⟨h1,h2,rfl⟩:=hg;exact zdT (zo G h1) (G.glo.V x i h h2) (λB φ H=>by erw[yc]) (zkT (z7 h1))
   |_=>AC
  |_=>AC
 |e=>yey v e
def ye8(c:Nat)(f:AW)(e:AY)(fa:∀x,Pr (YE γ κ x ca)):Pr (YE γ κ e (.fld c ca f)):=
 match e with
 |.Attribute a g _=>an (ask (g=f/\γ.fl c f=AD/\nca a=AD)) λh=>an (fa a) λha=>ok λm S X G=>by
  let⟨rfl,h1,h2⟩:=h;exact zim (G.glo.A c g h1).1 (G.glo.A c g h1).2 (ha m S X G) (zk0 h2)
 |_=>AC
def yfI(hκ:κ.h=AG)(c i:Nat)(F:Fs γ κ ces)(e:AY):Pr (YE γ κ e (.new c i ces)):=
 match e with
 |.Call (.Name x _) (a::es) [] _=>match h:γ.g x with
  |some (.cls c' i')=>an (ask (c'=c/\i'=i/\glB κ x=AD/\nst a=AD/\ycl es=AD)) λhg=>an (yaX F (a::es)) λha=>ok λm S X G=>by
   let⟨rfl,rfl,h1,h2,h3⟩:=hg;let⟨q,f,fd,ps,q1,q2,q3⟩:=G.glo.N x c' i' h;exact zig q1 q2 (G.rm hκ) (zo G h1) q q3 (ha m S X G) (zkT (z7 h1)) (zkS h2) (stars h3)
  |_=>AC
 |_=>AC
def zlt{pos:CG}{env:BP}{b:AY}(h:nst b=AD):((backTo pos (starEach [b] env)).all (λx=>!x.1)&&(backToKw pos (keywordEach [] env)).all (λx=>x.1.isSome)&&decide (([b]:List AY).length+([]:List C9).length+(if ([]:List C9).isEmpty then 0 else 1)<30))=true:=by
 rw[zkS h];rfl
def yfW(k:Mth)(F:Fs γ κ ces)(e:AY)(fa:∀x,Pr (YE γ κ x ca)):Pr (YE γ κ e (.mth k ca ces)):=
 match k,e,F with
 |.append,.Call (.Attribute a n ap) [b] [] pos,.cons fb .nil=>an (ask (n="append"/\nca a=AD/\nst b=AD/\(ap.endLine==pos.line)=AD)) λh=>an (fa a) λha=>an (fb b) λhb=>ok λm S X G=>by
  let⟨rfl,h1,h2,h3⟩:=h;exact zdA (ha m S X G) (hb m S X G) (zkS h2) (zk0 h1) h3 (zlt h2)
 |.get,.Call (.Attribute a n ap) [b,c] [] pos,.cons fb (.cons fc .nil)=>an (ask (n="get"/\nca a=AD/\nst b=AD/\nst c=AD/\(ap.endLine==pos.line)=AD)) λh=>an (fa a) λha=>an (fb b) λhb=>an (fc c) λhc=>ok λm S X G=>by
  let⟨rfl,h1,h2,h4,h3⟩:=h;exact zjZ (zf9 G.room) (ha m S X G) (hb m S X G) (hc m S X G) ⟨zk0 h1,by rw[zkS h2,zkS h4];rfl,h3,by rw[zkS h2,zkS h4];rfl⟩
 |_,_,_=>AC
end
structure Ev(γ:Gs)(c:Ce) where
 e:∀κ x,Pr (YE γ κ x c)
 t:∀κ x,Pr (YT γ κ x c)
 w:∀κ op l pos,Pr (YW γ κ (.BoolOp op l pos) c)
section
variable {γ:Gs}{ca cb cc:Ce}
def w1{c:Ce}(t:∀κ x,Pr (YT γ κ x c))(κ:Kx)(op:Hj)(l:List AY)(pos:CG):Pr (YW γ κ (.BoolOp op l pos) c):=
 match op,l with
 |.And,[a]=>an (t κ a) λh=>ok λm S X G=>zhR (h m S X G)
 |.Or,[a]=>an (t κ a) λh=>ok λm S X G=>zj1 (h m S X G)
 |_,_=>AC
def plT{c:Ce}(e:∀κ x,Pr (YE γ κ x c))(κ:Kx)(x:AY):Pr (YT γ κ x c):=an (ask (nte x=AD)) λh=>an (e κ x) λhe=>ok λm S X G=>zjp (he m S X G) (itr h)
def plain{c:Ce}(e:∀κ x,Pr (YE γ κ x c)):Ev γ c:=⟨e,plT e,w1 (plT e)⟩
def yb7{c:Ce}(e:∀κ x,Pr (YE γ κ x c))(t:∀κ x,Pr (YT γ κ x c)):Ev γ c:=⟨e,t,w1 t⟩
def ygt(A:Ev γ ca)(κ:Kx)(e:AY):Pr (YT γ κ e (.not ca)):=
 match e with
 |.UnaryOp .Not a _=>an (A.t κ a) λh=>ok λm S X G=>zit (h m S X G)
 |_=>AC
def yfq(A:Ev γ ca)(B:Ev γ cb)(κ:Kx)(e:AY):Pr (YE γ κ e (.and ca cb)):=
 match e with
 |.BoolOp .And (a::b::[]) _=>an (A.e κ a) λha=>an (B.e κ b) λhb=>ok λm S X G=>zgm (ha m S X G) (zgi (hb m S X G))
 |.BoolOp .And (a::b::c::r) p=>an (A.e κ a) λha=>an (B.e κ (.BoolOp .And (b::c::r) p)) λhb=>ok λm S X G=>zgm (ha m S X G) (hb m S X G)
 |_=>AC
def orE(A:Ev γ ca)(B:Ev γ cb)(κ:Kx)(e:AY):Pr (YE γ κ e (.or ca cb)):=
 match e with
 |.BoolOp .Or (a::b::[]) _=>an (A.e κ a) λha=>an (B.e κ b) λhb=>ok λm S X G=>ziW (ha m S X G) (zgi (hb m S X G))
 |.BoolOp .Or (a::b::c::r) p=>an (A.e κ a) λha=>an (B.e κ (.BoolOp .Or (b::c::r) p)) λhb=>ok λm S X G=>ziW (ha m S X G) (hb m S X G)
 |_=>AC
def ydx(A:Ev γ ca)(B:Ev γ cb)(κ:Kx)(op:Hj)(l:List AY)(pos:CG):Pr (YW γ κ (.BoolOp op l pos) (.and ca cb)):=
 match op,l with
 |.And,a::b::r=>an (A.t κ a) λha=>an (B.w κ .And (b::r) pos) λhb=>ok λm S X G=>zh9 (ha m S X G) (hb m S X G)
 |_,_=>AC
def orW(A:Ev γ ca)(B:Ev γ cb)(κ:Kx)(op:Hj)(l:List AY)(pos:CG):Pr (YW γ κ (.BoolOp op l pos) (.or ca cb)):=
 match op,l with
 |.Or,a::b::r=>an (A.t κ a) λha=>an (B.w κ .Or (b::r) pos) λhb=>ok λm S X G=>zkp (ha m S X G) (hb m S X G)
 |_,_=>AC
def ptW{c:Ce}(w:∀κ op l pos,Pr (YW γ κ (.BoolOp op l pos) c))(κ:Kx)(e:AY):Pr (YT γ κ e c):=
 match e with
 |.BoolOp op l p=>an (w κ op l p) λh=>ok λm S X G=>PW.pt (h m S X G)
 |_=>AC
def yeL{c:Ce}(t:∀κ x,Pr (YT γ κ x c))(w:∀κ op l pos,Pr (YW γ κ (.BoolOp op l pos) c))(κ:Kx)(op:Hj)(l:List AY)(pos:CG):Pr (YW γ κ (.BoolOp op l pos) c):=
 match l with
 |[a]=>w1 t κ op [a] pos
 |l=>w κ op l pos
def ydy(A:Ev γ ca)(B:Ev γ cb):Ev γ (.and ca cb):=⟨yfq A B,ptW (ydx A B),yeL (ptW (ydx A B)) (ydx A B)⟩
def ye1(A:Ev γ ca)(B:Ev γ cb):Ev γ (.or ca cb):=⟨orE A B,ptW (orW A B),yeL (ptW (orW A B)) (orW A B)⟩
end
abbrev YI(γ:Gs)(κ:Kx)(tg l:AY)(c:Cit):Prop:=∀m S X,Good γ κ m S X->PI X tg l (tI S X c)
abbrev YG(γ:Gs)(κ:Kx)(tg:AY)(c:Tg):Prop:=∀m S X,Good γ κ m S X->PG X tg (tG S X c)
section
variable {γ:Gs}{κ:Kx}{ca cb cc ce:Ce}{ci:Cit}
def yfA(e:∀x,Pr (YE γ κ x ca))(tg l:AY):Pr (YI γ κ tg l (.seq ca)):=an (e l) λh=>ok λm S X G=>zjK (h m S X G)
def ycY(e:∀x,Pr (YE γ κ x ca))(tg l:AY):Pr (YI γ κ tg l (.chars ca)):=an (e l) λh=>ok λm S X G=>zfu (h m S X G)
def iR1(fa:∀x,Pr (YE γ κ x ca))(tg l:AY):Pr (YI γ κ tg l (.range1 ca)):=
 match l with
 |.Call (.Name x _) [a] [] _=>an (ask (x="range"/\glB κ x=AD/\γ.b x=AD/\nst a=AD)) λh=>an (fa a) λha=>ok λm S X G=>by
  let⟨rfl,h1,h2,h3⟩:=h;exact zdv (zo G h1) (G.glo.B _ h2) (ha m S X G) (zkS h3)
 |_=>AC
def iR2(fa:∀x,Pr (YE γ κ x ca))(fb:∀x,Pr (YE γ κ x cb))(tg l:AY):Pr (YI γ κ tg l (.range2 ca cb)):=
 match l with
 |.Call (.Name x _) [a,b] [] _=>an (ask (x="range"/\glB κ x=AD/\γ.b x=AD/\nst a=AD/\nst b=AD)) λh=>an (fa a) λha=>an (fb b) λhb=>ok λm S X G=>by
  let⟨rfl,h1,h2,h3,h4⟩:=h;exact zeK (zo G h1) (G.glo.B _ h2) (ha m S X G) (hb m S X G) (by rw[zkS h3,zkS h4];rfl) (zkS h4)
 |_=>AC
def ydV(fa:∀x,Pr (YE γ κ x ca))(tg l:AY):Pr (YI γ κ tg l (.enum ca)):=
 match tg,l with
 |.Tuple _ _ _,.Call (.Name x _) [a] [] _=>an (ask (x="enumerate"/\glB κ x=AD/\γ.b x=AD/\nst a=AD)) λh=>an (fa a) λha=>ok λm S X G=>by
  let⟨rfl,h1,h2,h3⟩:=h;exact zg5 (zo G h1) (G.glo.B _ h2) (ha m S X G) (zkS h3)
 |_,_=>AC
def iRD(fa:∀x,Pr (YE γ κ x ca))(fb:∀x,Pr (YE γ κ x cb))(tg l:AY):Pr (YI γ κ tg l (.rangeD ca cb)):=
 match l with
 |.Call (.Name x _) [a,b,.UnaryOp .USub (.Constant (.int i) _ _) _] [] _=>an (ask (x="range"/\glB κ x=AD/\γ.b x=AD/\nst a=AD/\nst b=AD/\i=1)) λh=>an (fa a) λha=>an (fb b) λhb=>ok λm S X G=>by
  let⟨rfl,h1,h2,h3,h4,rfl⟩:=h;exact zeM (zo G h1) (G.glo.B _ h2) (ha m S X G) (hb m S X G) (by rw[zkS h3,zkS h4];rfl) (by rw[zkS h4];rfl) rfl
 |_=>AC
def gNm(κ:Kx):(l:List Nat)->(es:List AY)->Pr (∀m S X,Good γ κ m S X->PGs X es (gNs l)/\(assignEach es X.env).length=l.length/\(assignEach es X.env).findIdx? (·.1)=AC)
 |[],[]=>ok λ_ _ _ _=>⟨zgL,rfl,rfl⟩
 |i::l,.Name x _::es=>an (ask (setB κ i x=AD)) λh=>an (gNm κ l es) λhr=>ok λm S X G=>by
  have s:=zA G h;let⟨h1,h2,h3⟩:=hr m S X G;refine⟨zfK s.d s.i s.l h1 s.f,?_,?_⟩
  .simp only[assignEach,AO,h2]
  .simp only[assignEach,List.findIdx?_cons,h3];rfl
 |_,_=>AC
def mTg(ct:Tg)(tg:AY):Pr (YG γ κ tg ct):=
 match ct,tg with
 |.n i,.Name x _=>an (ask (setB κ i x=AD)) λh=>ok λm S X G=>let s:=zA G h;zg9 s.d s.i s.l s.f
 |.t l,.Tuple es _ _=>hf κ λhκ=>an (gNm κ l es) λh=>ok λm S X G=>ziG (G.calm hκ) (h m S X G).1 (h m S X G).2.1 (h m S X G).2.2
 |_,_=>AC
def tgN:AY->List AW
 |.Name x _=>[x]
 |.Tuple es _ _=>es.filterMap fun
  |.Name x _=>AA x
  |_=>AC
 |_=>[]
def ycW(N:List AW)(sl:List (Option Nat))(tg:AY):List Str:=tgN tg++(sl.drop (tgN tg).length).filterMap λo=>o.bind λj=>N[j]?
def ya1(sc so:BR):Scope:={sc with names:=sc.names.map λ(n,k)=>if (k==Cj&&so.kind==.function&&so.names.lookup n==AA .cell)then(n,Fq)else(n,k)}
def yS(N:List AW)(so sc:BR)(NC:List AW)(sl:List (Option Nat)):Bool:=
 decide (sc.kind=.function)&&(sc.names.all λy=>y.2 != .local || decide (sc.names.lookup y.1=AA .local))&&(sc.names.all λy=>y.2 != .cell)&&(sc.names.all λy=>y.2 != .free || decide (so.names.lookup y.1=AA .cell)) &&
  ((NC.zip sl).all λp=>p.2.all λj=>decide (N[j]?=AA p.1/\sc.names.lookup p.1=AA .free))&&decide (sl.length=NC.length)
def zcp{X:Cx}{sc:BR}{NC:List AW}{sl:List (Option Nat)}(h:yS X.N X.env.scope sc NC sl=AD):yJ X sc NC sl:=by
 erw[yS,AH,decide_eq_true_eq,CJ,CW,bne_iff_ne,ne_eq]at h;let⟨⟨⟨⟨⟨h1,h2⟩,h3⟩,h4⟩,h5⟩,h6⟩:=h;exact zln _ _ rfl rfl h1 (λy hy e=>(h2 y hy).resolve_left λz=>z e) h3 (λy hy e=>(h4 y hy).resolve_left λz=>z e) (λp hp=>by simpa using h5 p hp) h6
theorem Good.comp{m:Nat}{S:Se}{X:Cx}(G:Good γ κ m S X)(sc:BR)(NC:List AW)(j:CI):Good γ ⟨NC,ya1 sc κ.sc,AG,κ.h⟩ m S (cxC X sc NC j):=by
 refine⟨rfl,?_,G.calm,G.room,G.hd,(λh=>nomatch h),(λh=>nomatch h),⟨G.glo.F,G.glo.Q,G.glo.C,G.glo.D,G.glo.E,G.glo.N,G.glo.B,G.glo.T,G.glo.A,G.glo.M,λy D h=>let ⟨fa,fdd,ps,M,d⟩:=G.glo.K y D h;⟨fa,fdd,ps,⟨M.F,M.kp,M.b⟩,d⟩,G.glo.V,G.glo.I,G.glo.L,G.glo.H,G.glo.Z⟩⟩;show relabel sc X.env=_;rw[<-G.sc];rfl
def yfY(c:Ce)(f:∀x,Pr (YT γ κ x c))(ifs:List AY):Pr (∀m S X,Good γ κ m S X->PTs X ifs (tT0 S X.K c)):=
 match ifs with
 |[]=>match c with
  |.cst (.bl AD)=>ok λ_ _ _ _=>zeZ
  |_=>AC
 |[a]=>an (f a) λh=>ok λm S X G=>zhF rfl (h m S X G)
 |_=>AC
structure yca(γ:Gs)(κ:Kx)(sl:List (Option Nat))(ct:Tg)(ci:Cit)(cc ce:Ce)(elt tg it:AY)(ifs:List AY)(sc:BR):Prop where
 q:∀m S X,Good γ κ m S X->∃NC,yJ X sc NC sl/\PI X tg it (tI S X ci)/\(∀j,PG (cxC X sc NC j) tg (tG0 S X.K ct))/\(∀j,PTs (cxC X sc NC j) ifs (tT0 S X.K cc))/\∀j,PE (cxC X sc NC j) elt (tE0 S X.K ce)
 f:yM ct sl=AD
 s:nse it=AD
def mCo(sl:List (Option Nat))(ct:Tg)(fi:∀tg l,Pr (YI γ κ tg l ci))(C:Ev γ cc)(E:Ev γ ce)(elt tg it:AY)(ifs:List AY)(sc:BR):Pr (yca γ κ sl ct ci cc ce elt tg it ifs sc):=
 an (ask (yS κ.N κ.sc sc (ycW κ.N sl tg) sl=AD/\yM ct sl=AD/\nse it=AD)) λh=>an (fi tg it) λhi=>an (mTg (γ:=γ) (κ:=⟨ycW κ.N sl tg,ya1 sc κ.sc,AG,κ.h⟩) ct tg) λhg=>
  an (yfY (γ:=γ) (κ:=⟨ycW κ.N sl tg,ya1 sc κ.sc,AG,κ.h⟩) cc (C.t _) ifs) λht=>an (E.e ⟨ycW κ.N sl tg,ya1 sc κ.sc,AG,κ.h⟩ elt) λhe=>ok ⟨λm S X G=>⟨ycW κ.N sl tg,by
   rw[<-G.n,<-G.sc]at h;rw[<-G.n];exact zcp h.1,hi m S X G,λj=>zhV rfl (hg m S _ (G.comp sc _ j)),λj=>ht m S _ (G.comp sc _ j),λj=>zhQ rfl (he m S _ (G.comp sc _ j))⟩,h.2.1,h.2.2⟩
def ydN(sl:List (Option Nat))(ct:Tg)(fi:∀tg l,Pr (YI γ κ tg l ci))(C:Ev γ cc)(E:Ev γ ce)(e:AY):Pr (YE γ κ e (.comp sl ct ci cc ce)):=
 match e with
 |.ListComp elt [⟨tg,it,ifs,0⟩] sc _=>hf κ λhκ=>an (mCo sl ct fi C E elt tg it ifs sc) λh=>ok λm S X G=>by
  let⟨NC,h1,h2,h3,h4,h5⟩:=h.q m S X G;exact zg3 (G.calm hκ) h1 h.f h2 h3 h4 h5 (fse h.s)
 |_=>AC
end
section
variable {γ:Gs}{κ:Kx}
end
section
variable {γ:Gs}{κ:Kx}
end
mutual
noncomputable def ch(γ:Gs):(c:Ce)->Ev γ c
 |.cst v=>plain λκ x=>yfS v x
 |.var i=>plain λκ x=>yel i x
 |.bin o a b=>plain λκ x=>yfy o x ((ch γ a).e κ) ((ch γ b).e κ)
 |.not a=>yb7 (λκ x=>ygr x ((ch γ a).e κ)) (ygt (ch γ a))
 |.and a b=>ydy (ch γ a) (ch γ b)
 |.or a b=>ye1 (ch γ a) (ch γ b)
 |.cmp o a b=>yb7 (λκ x=>ygb o x ((ch γ a).e κ) ((ch γ b).e κ)) (λκ x=>ydA o x ((ch γ a).e κ) ((ch γ b).e κ))
 |.chain o p a b c=>yb7 (λκ x=>yeT o p x ((ch γ a).e κ) ((ch γ b).e κ) ((ch γ c).e κ)) (λκ x=>ydR o p x ((ch γ a).e κ) ((ch γ b).e κ) ((ch γ c).e κ))
 |.ite c a b=>plain λκ x=>ygk x ((ch γ c).t κ) ((ch γ a).e κ) ((ch γ b).e κ)
 |.tup es=>plain λκ x=>yfK x (yaX (chs γ es κ))
 |.lst es=>plain λκ x=>yfZ x (yaX (chs γ es κ))
 |.newl es=>plain λκ x=>ydZ x (yaX (chs γ es κ))
 |.dict0 t=>plain λκ x=>yd5 t x
 |.dof a=>plain λκ x=>ygn x ((ch γ a).e κ)
 |.lnd a=>plain λκ x=>ye4 x ((ch γ a).e κ)
 |.lsk a=>plain λκ x=>ye7 x ((ch γ a).e κ)
 |.idx a i=>plain λκ x=>mIdx x ((ch γ a).e κ) ((ch γ i).e κ)
 |.slc a l h=>plain λκ x=>ye0 x ((ch γ a).e κ) (λo=>yeC l o ((ch γ l).e κ)) (λo=>yeC h o ((ch γ h).e κ))
 |.call f es=>plain λκ x=>hf κ λh=>yeV h f (chs γ es κ) x
 |.blt b es=>plain λκ x=>yfL b (chs γ es κ) x
 |.mth k o es=>plain λκ x=>yfW k (chs γ es κ) x ((ch γ o).e κ)
 |.isi a ts=>plain λκ x=>yeZ ts x ((ch γ a).e κ)
 |.comp sl tg it c e=>plain λκ x=>ydN sl tg (chi γ it κ) (ch γ c) (ch γ e) x
 |.nope=>plain λκ x=>ok λ_ _ _ _=>zhc
 |.fld c a f=>plain λκ x=>ye8 c f x ((ch γ a).e κ)
 |.new c i es=>plain λκ x=>hf κ λh=>yfI h c i (chs γ es κ) x
 |_=>plain λ_ _=>AC
noncomputable def chs(γ:Gs):(cs:Ces)->(κ:Kx)->Fs γ κ cs
 |.nil,_=>.nil
 |.cons c cs,κ=>.cons (λx=>(ch γ c).e κ x) (chs γ cs κ)
noncomputable def chi(γ:Gs):(c:Cit)->(κ:Kx)->∀tg l,Pr (YI γ κ tg l c)
 |.seq a,κ=>yfA ((ch γ a).e κ)
 |.range1 a,κ=>iR1 ((ch γ a).e κ)
 |.chars a,κ=>ycY ((ch γ a).e κ)
 |.range2 a b,κ=>iR2 ((ch γ a).e κ) ((ch γ b).e κ)
 |.enum a,κ=>ydV ((ch γ a).e κ)
 |.rangeD a b,κ=>iRD ((ch γ a).e κ) ((ch γ b).e κ)
 |_,_=>λ_ _=>AC
end
section
variable {γ:Gs}{κ:Kx}{ca cb cc ce:Ce}{ci:Cit}{ct:Tg}{cs cs':Css}{ces:Ces}
def swB(so:BR)(x:AW)(px pos:CG)(sc:BR):Bool:=(if so.kind.isAnnotationScope then EJ else so.kind)==.function&&so.names.lookup x==AA .local&&px.line==pos.line&&!(sc.names.any λ(n,k)=>n==x&&(k==.local || k==.cell))
def zk8{elt:AY}{gs:List Comprehension}{sc:BR}{pos px:CG}{x:AW}{l:Nat}{env:BP}:swapsWith (.ListComp elt gs sc pos) (AA (.Name x px)) l env=pure (swB env.scope x px pos sc):=rfl
def yds(f:∀x,Pr (YE γ κ x ca))(s:Bo):Pr (YS γ κ s (.expr ca)):=
 match s with
 |.Expr a _=>an (ask (nco a=AD)) λhs=>an (f a) λh=>ok λm S X G=>zhS (h m S X G) (swp hs)
 |_=>AC
def yfg(i:Nat)(f:∀x,Pr (YE γ κ x ca))(s:Bo):Pr (YS γ κ s (.asg (.n i) ca)):=
 match s with
 |.Assign [.Name x _] a _=>an (ask (nco a=AD/\setB κ i x=AD)) λhs=>an (f a) λh=>ok λm S X G=>let q:=zA G hs.2;zi3 q.d q.i q.l (h m S X G) (swp hs.1) q.f
 |_=>AC
def yd9(i:Nat)(sl:List (Option Nat))(ct:Tg)(fi:∀tg l,Pr (YI γ κ tg l ci))(C:Ev γ cc)(E:Ev γ ce)(s:Bo):Pr (YS γ κ s (.asg (.n i) (.comp sl ct ci cc ce))):=
 match s with
 |.Assign [.Name x px] (.ListComp elt [⟨tg,it,ifs,0⟩] sc p) _=>hf κ λhκ=>an (ask (setB κ i x=AD/\swB κ.sc x px p sc=AD)) λhs=>an (mCo sl ct fi C E elt tg it ifs sc) λh=>ok λm S X G=>by
  let⟨NC,h1,h2,h3,h4,h5⟩:=h.q m S X G;have q:=zA G hs.1;exact zgP q.d q.i q.l (G.calm hκ) h1 h.f h2 h3 h4 h5 (by rw[zk8,G.sc,hs.2]) (fse h.s) q.f
 |_=>AC
def yfU(n i:Nat)(s:Bo):Pr (YS γ κ s (.asg (.n n) (.itm i))):=
 match s with
 |.Assign [.Name x px] (.ListComp (.Tuple [.Name k3 _,.Name v4 _] _ _) [⟨.Tuple [.Name k _,.Name v _] _ _,.Call (.Attribute (.Name d _) it ap) [] [] cp,[],0⟩] sc p) _=>
  hf κ λhκ=>an (ask (it="items"/\k3=k/\v4=v/\(ap.endLine==cp.line)=AD)) λhn=>an (ask (setB κ n x=AD/\swB κ.sc x px p sc=AD)) λhs=>
  an (ask (yS κ.N κ.sc sc [k,v] [AC,AC]=AD/\κ.N[i]?=AA d/\yco κ.sc d=AD/\pln d=AD/\pln k=AD/\pln v=AD)) λhc=>
  an (ask (yco (ya1 sc κ.sc) k=AD/\yco (ya1 sc κ.sc) v=AD/\setB ⟨[k,v],ya1 sc κ.sc,AG,κ.h⟩ 0 k=AD/\setB ⟨[k,v],ya1 sc κ.sc,AG,κ.h⟩ 1 v=AD)) λhv=>ok λm S X G=>by
   let⟨rfl,rfl,rfl,hl⟩:=hn;let⟨c1,c2,c3,c4,c5,c6⟩:=hc;let⟨w1,w2,w3,w4⟩:=hv;have q:=zA G hs.1;have GC:=λj=>G.comp sc [k3,v4] j;exact zjF (NC:=[k3,v4]) q.d q.i q.l (G.calm hκ) (by rw[<-G.n,<-G.sc]at c1;exact zcp c1)
    (zcw (by rw[G.n];exact c2) (by rw[G.sc];exact zbg c3) (zkT c4) (zkW c4))
    (λj=>let s:=zA (GC j) w3;zbe s.d s.i s.l s.f) (λj=>let s:=zA (GC j) w4;zbe s.d s.i s.l s.f)
    (λj=>zcw (by rw[(GC j).n];rfl) (by rw[(GC j).sc];exact zbg w1) (zkT c5) (zkW c5))
    (λj=>zcw (by rw[(GC j).n];rfl) (by rw[(GC j).sc];exact zbg w2) (zkT c6) (zkW c6))
    hl (by rw[zk8,G.sc,hs.2]) q.f
 |_=>AC
def zk9{a:AY}(h:nst a=AD):(match (generalizing:=false) a with | .Starred _ _=>AD|_=>AG)=false:=by
 revert h;cases a<;>intro h<;>first|rfl|cases h
def swD(so:BR)(x y:AW)(px py:CG)(a b:AY):Bool:=(if so.kind.isAnnotationScope then EJ else so.kind)==.function&&so.names.lookup x==AA .local&&so.names.lookup y==AA .local&&py.line==px.line&&nst a&&nst b&&!(x==y)&&!(foldedForSure 8 a&&foldedForSure 8 b)&&!(constantsAlone 8 a&&constantsAlone 8 b)
def zlu{x y:AW}{px py pt pt2:CG}{kt k2:Nat}{a b:AY}{env:BP}(h:swD env.scope x y px py a b=AD):
  swappedStores [.Tuple [.Name x px,.Name y py] kt pt] (.Tuple [a,b] k2 pt2) env=pure (AA [x,y]):=by
 erw[swD,AH,By]at h;let⟨⟨⟨⟨⟨⟨⟨⟨h1,h2⟩,h3⟩,h4⟩,h5⟩,h6⟩,h7⟩,h8⟩,h9⟩:=h;have k1:(env.blockKind != .function)=false:=by
  show (!((if env.scope.kind.isAnnotationScope then EJ else env.scope.kind)==.function))=AG;rw[h1];rfl
 have k2:env.kindOf x=AA .local:=eq_of_beq h2;have k3:env.kindOf y=AA .local:=eq_of_beq h3;have k4:py.line=px.line:=eq_of_beq h4;have k7:¬y=x:=λz=>by subst z;simp at h7
 have m1:=zk9 h5;have m2:=zk9 h6;have c8:¬(foldedForSure 8 a=AD/\foldedForSure 8 b=AD):=λz=>by rw[z.1,z.2]at h8;cases h8
 have c9:¬(constantsAlone 8 a=AD/\constantsAlone 8 b=AD):=λz=>by rw[z.1,z.2]at h9;cases h9
 have x1:(Expr.Name x px).pos=px:=rfl;have x2:(Expr.Name y py).pos=py:=rfl;unfold swappedStores;simp[k1,m1,m2,k2,k3,k4,List.eraseDups_cons,k7,x1,x2,c8,c9,Bi];intro z;exfalso;rcases z with z|z
 .exact AU (m1.symm.trans z)
 .exact AU (m2.symm.trans z)
def yfc(i j:Nat)(fa:∀x,Pr (YE γ κ x ca))(fb:∀x,Pr (YE γ κ x cb))(s:Bo):Pr (YS γ κ s (.asg (.t [i,j]) (.tup (.cons ca (.cons cb .nil))))):=
 match s with
 |.Assign [.Tuple [.Name x px,.Name y py] _ _] (.Tuple [a,b] _ _) _=>hf κ λhκ=>an (ask (setB κ i x=AD/\setB κ j y=AD/\i≠j/\swD κ.sc x y px py a b=AD)) λh=>an (fa a) λha=>an (fb b) λhb=>ok λm S X G=>by
  let⟨h1,h2,h3,h4⟩:=h;have q:=zA G h1;have r:=zA G h2;have h5:=h4;erw[swD,AH]at h5;have e1:X.env.scope.names.lookup x=AA .local:=by rw[G.sc];exact eq_of_beq h5.1.1.1.1.1.1.1.2
  have e2:X.env.scope.names.lookup y=AA .local:=by rw[G.sc];exact eq_of_beq h5.1.1.1.1.1.1.2
  exact zi7 (G.calm hκ) q.d q.i r.i h3 (zij (G.calm hκ) q.d q.i r.i h3 e1 e2 (zbd (ha m S X G) (zbd (hb m S X G) zdw (zkS h5.1.1.1.2)) (zkS h5.1.1.1.1.2)) (zlu (by rw[G.sc];exact h4)))
 |_=>AC
theorem sw0{es:List AY}{k:Nat}{p:CG}{a:AY}{env:BP}(h:ntu a=AD):swappedStores [.Tuple es k p] a env=pure none:=by
 cases a<;>first|rfl|cases h
theorem sw1{b c:AY}{p:CG}{a:AY}{env:BP}:swappedStores [.Subscript b c p] a env=pure none:=by
 cases a<;>rfl
def zla{t a:AY}{l:Nat}{env:BP}(h:nco a=AD):swapsWithSole [t] a l env=pure false:=by
 show swapsWith a (AA t) l env=_;exact swp h
theorem asS{b c:AY}{pos:CG}{env:BP}(h:nsl c=AD):∀v,assign (.Subscript b c pos) env v=(do
   let ov <-holding [v] (eval b env)
   let iv <-holding [v,ov] (eval c env)
   standAt pos
   holding [v,ov,iv] (setItem ov iv v)
   release [v,ov,iv] []):=by
 cases c<;>first|exact λ_=>rfl|cases h
def yeX(l:List Nat)(f:∀x,Pr (YE γ κ x ca))(s:Bo):Pr (YS γ κ s (.asg (.t l) ca)):=
 match s with
 |.Assign [.Tuple es k p] a _=>an (ask (nco a=AD/\ntu a=AD)) λhs=>an (mTg (γ:=γ) (κ:=κ) (.t l) (.Tuple es k p)) λhg=>an (f a) λh=>ok λm S X G=>zhT (h m S X G) (hg m S X G) (zla hs.1) (sw0 hs.2)
 |_=>AC
def yfu(f:∀x,Pr (YE γ κ x cc))(fo:∀x,Pr (YE γ κ x ca))(fi:∀x,Pr (YE γ κ x cb))(s:Bo):Pr (YS γ κ s (.six ca cb cc)):=
 match s with
 |.Assign [.Subscript b c _] a _=>an (ask (nco a=AD/\nsl c=AD)) λhs=>an (f a) λh=>an (fo b) λho=>an (fi c) λhi=>ok λm S X G=>zjf (h m S X G) (ho m S X G) (hi m S X G) (zla hs.1) sw1 (zgl (ho m S X G) (hi m S X G) zcS (asS hs.2))
 |_=>AC
def yd4(f:∀x,Pr (YE γ κ x cc))(fo:∀x,Pr (YE γ κ x ca))(fi:∀x,Pr (YE γ κ x cb))(s:Bo):Pr (YS γ κ s (.dput ca cb cc)):=
 match s with
 |.Assign [.Subscript b c _] a _=>an (ask (nco a=AD)) λhs=>an (f a) λh=>an (fo b) λho=>an (fi c) λhi=>ok λm S X G=>zhv (zf9 G.room) (ho m S X G) (hi m S X G) (h m S X G) (swp hs)
 |_=>AC
def yfT(op:DG)(o:BOp):Pr (∀S X,PIp X op (rT2 S X (yaW o))):=
 match op,o with
 |.Add,.add=>ok λ_ _=>zgA
 |.Mult,.mul=>ok λ_ _=>zgQ
 |_,_=>AC
def ygy(i:Nat)(o:BOp)(f:∀x,Pr (YE γ κ x ca))(s:Bo):Pr (YS γ κ s (.aug i o ca)):=
 match s with
 |.AugAssign (.Name x _) op a _=>an (ask (setB κ i x=AD)) λh=>an (yfT op o) λhp=>an (f a) λha=>ok λm S X G=>let q:=zA G h;zir q.d q.i q.l (ha m S X G) (hp S X) q.f (zkT q.p) (zkW q.p)
 |_=>AC
def yfw(c:Ce)(f:∀x,Pr (YE γ κ x c))(s:Bo):Pr (YS γ κ s (.ret c)):=
 match s with
 |.Return (AA a) _=>an (f a) λh=>ok λm S X G=>zh5 (h m S X G)
 |.Return AC _=>match c with
  |.cst .non=>ok λ_ _ _ _=>zhm
  |_=>AC
 |_=>AC
def sIf(fc:∀x,Pr (YT γ κ x cc))(fa:∀x,Pr (YSs γ κ x cs))(fb:∀x,Pr (YSs γ κ x cs'))(s:Bo):Pr (YS γ κ s (.ite cc cs cs')):=
 match s with
 |.If c a b _=>an (fc c) λhc=>an (fa a) λha=>an (fb b) λhb=>ok λm S X G=>zku (hc m S X G) (ha m S X G) (hb m S X G)
 |_=>AC
def ygv(ct:Tg)(fi:∀tg l,Pr (YI γ κ tg l ci))(fb:∀x,Pr (YSs γ κ x cs))(s:Bo):Pr (YS γ κ s (.for ct ci cs)):=
 match s with
 |.For tg l b [] _=>hf κ λhκ=>an (ask (κ.own=AD/\nse l=AD)) λho=>an (fi tg l) λhi=>an (mTg (γ:=γ) (κ:=κ) ct tg) λhg=>an (fb b) λhb=>ok λm S X G=>zjB (G.own ho.1).1 (G.calm hκ) (hi m S X G) (hg m S X G) (hb m S X G) (fse ho.2)
 |_=>AC
def sWh(fc:∀x,Pr (YT γ κ x cc))(fb:∀x,Pr (YSs γ κ x cs))(s:Bo):Pr (YS γ κ s (.while cc cs)):=
 match s with
 |.While c b [] _=>an (ask (κ.own=AD)) λho=>an (fc c) λhc=>an (fb b) λhb=>ok λm S X G=>zfp (G.own ho).1 (hc m S X G) (hb m S X G)
 |_=>AC
def yfC(c:Nat)(f:AW)(fo:∀x,Pr (YE γ κ x ca))(fv:∀x,Pr (YE γ κ x cb))(s:Bo):Pr (YS γ κ s (.sfl c ca f cb)):=
 match s with
 |.Assign [.Attribute a g _] b _=>an (ask (g=f/\γ.fl c f=AD/\nco b=AD)) λh=>an (fo a) λha=>an (fv b) λhb=>ok λm S X G=>by
  let⟨rfl,h1,h2⟩:=h;exact zj0 (G.glo.A c g h1).1 (G.glo.A c g h1).2 (ha m S X G) (hb m S X G) (swp h2)
 |_=>AC
def yge(c i:Nat)(f:AW)(j:Int)(fo:∀x,Pr (YE γ κ x (.var i)))(fv:∀x,Pr (YE γ κ x (.cst (.int j))))(s:Bo):Pr (YS γ κ s (.sfl c (.var i) f (.bin .add (.fld c (.var i) f) (.cst (.int j))))):=
 match s with
 |.AugAssign (.Attribute a g _) .Add b _=>an (ask (g=f/\γ.fl c f=AD)) λh=>an (fo a) λha=>an (fv b) λhb=>ok λm S X G=>by
  let⟨rfl,h1⟩:=h;exact ziO (G.glo.A c g h1).1 (G.glo.A c g h1).2 (ha m S X G) (hb m S X G)
 |_=>AC
def yfr(c:Nat)(o:Ce)(f:AW)(e:Ce)(O:Ev γ o)(E:Ev γ e)(s:Bo):Pr (YS γ κ s (.sfl c o f e)):=
 match s with
 |.AugAssign t op b p=>match o,e with
  | .var i,.bin .add (.fld c' (.var i') f') (.cst (.int j))=>an (ask (c'=c/\i'=i/\f'=f)) λh=>an (yge (γ:=γ) (κ:=κ) c i f j (λx=>yel i x) (λx=>yey (.int j) x) (.AugAssign t op b p)) λq=>ok (by
    let⟨rfl,rfl,rfl⟩:=h;exact q)
  |_,_=>AC
 |s=>yfC c f (O.e κ) (E.e κ) s
end
mutual
noncomputable def chS(γ:Gs):(c:Cs)->(κ:Kx)->∀s,Pr (YS γ κ s c)
 |.expr e,κ=>yds ((ch γ e).e κ)
 |.asg (.n i) (.comp sl ct ci cc ce),κ=>yd9 i sl ct (chi γ ci κ) (ch γ cc) (ch γ ce)
 |.asg (.n n) (.itm i),κ=>yfU n i
 |.asg (.n i) c,κ=>yfg i ((ch γ c).e κ)
 |.asg (.t [i,j]) (.tup (.cons a (.cons b .nil))),κ=>yfc i j ((ch γ a).e κ) ((ch γ b).e κ)
 |.asg (.t l) c,κ=>yeX l ((ch γ c).e κ)
 |.six o i e,κ=>yfu ((ch γ e).e κ) ((ch γ o).e κ) ((ch γ i).e κ)
 |.dput o i e,κ=>yd4 ((ch γ e).e κ) ((ch γ o).e κ) ((ch γ i).e κ)
 |.aug i o e,κ=>ygy i o ((ch γ e).e κ)
 |.ret e,κ=>yfw e ((ch γ e).e κ)
 |.ite c a b,κ=>sIf ((ch γ c).t κ) (yb9 γ a κ) (yb9 γ b κ)
 |.for t it b,κ=>ygv t (chi γ it κ) (yb9 γ b κ)
 |.while c b,κ=>sWh ((ch γ c).t κ) (yb9 γ b κ)
 |.nope,_=>λ_=>ok λ_ _ _ _=>zhW
 |.sfl c o f e,κ=>yfr c o f e (ch γ o) (ch γ e)
noncomputable def yb9(γ:Gs):(c:Css)->(κ:Kx)->∀s,Pr (YSs γ κ s c)
 |.nil,_,[]=>ok λ_ _ _ _=>ziM
 |.cons c cs,κ,s::ss=>an (chS γ c κ s) λh=>an (yb9 γ cs κ ss) λhr=>ok λm S X G=>zhg (h m S X G) (hr m S X G)
 |_,_,_=>AC
end
inductive Dk where
 |fn|fd (ds:List Int)|me (c:Nat)|ini (c:Nat)
structure Df where
 gn:AW
 nm:AW
 q:AW
 st:Bo
 N:List AW
 ps:List AW
 fn:IC.Fn
 k:Dk
def scB(N P:List AW)(sc:BR):Bool:=decide (sc.kind=.function)&&!sc.isCoroutine&&!sc.isGenerator&&decide N.Nodup&&decide (N.take P.length=P)&&P.all (yc6 sc)&&sc.names.all λy=>y.2 != .free
def zgq{N P:List AW}{sc:BR}(h:scB N P sc=AD):yaw N P sc:=by
 erw[scB,AH,decide_eq_true_eq,By,CJ,bne_iff_ne,ne_eq]at h;let⟨⟨⟨⟨⟨⟨h1,h2⟩,h3⟩,h4⟩,h5⟩,h6⟩,h7⟩:=h;exact⟨h1,h2,h3,h4,h5,λx hx=>zdh (h6 x hx),h7⟩
def okD(γ:Gs)(d:Df):Bool:=scB d.N d.ps (yg d.st)&&decide (d.ps.length=d.fn.np)&&decide (d.N.length=d.fn.ns)&&(yb9 γ d.fn.body ⟨d.N,yg d.st,AD,AG⟩ (yE d.st)).isSome
def ybn{α:Type}(P:α->Prop):List α->Prop
 |[]=>True
 |d::r=>P d/\ybn P r
theorem ybn.get{α:Type}{P:α->Prop}:∀{l:List α},ybn P l->∀d∈l,P d
 |_::_,h,d,hd=>by
  rcases Ac.1 hd with rfl|hd
  .exact h.1
  .exact h.2.get d hd
def ybf:List AW->(List AF->Prop)->Prop
 |[],P=>P []
 |_::r,P=>∀a,ybf r λus=>P (a::us)
theorem ybf.get:∀{ps:List AW} {P:List AF->Prop},ybf ps P->∀us,us.length=ps.length->P us
 |[],P,h,[],_=>h
 |_::r,P,h,a::us,e=>(h a).get us (by simpa using e)
def yaT(d:Df):Prop:=∀(kV doc pm:AF) (an:Option AK) (cdv ct:AF),ybf d.ps λus=>bindArgs (Bg d.nm d.q (yX d.st) (yE d.st) (yg d.st) .none kV doc pm an cdv ct) ⟨us,[]⟩=pure (d.ps.zip us)
structure ybU(K:AE)(d:Df)(dv:AF)(f:AK)(fd:Ax):Prop where
 ex:∃(oc:AF) (od:Option AK) (kV doc pm:AF) (an:Option AK) (cdv ct:AF) (osl:Array (Option AF)),
  fd=Bg d.nm d.q (yX d.st) (yE d.st) (yg d.st) dv kV doc pm an cdv ct/\K.lookup f=AA ⟨oc,od,.func fd,osl⟩/\CN K cdv d.q=AD
 kp:An K (.ref f)=AD
def At(K:AE)(cn:Nat->AW)(d:Df)(f:AK):Prop:=
 match d.k with
 |.fn=>BE K mainGlobals d.gn=AA (AA (.ref f))/\yaT d
 |.fd _=>BE K mainGlobals d.gn=AA (AA (.ref f))
 |.me c=>yaT d/\∃q,BE K mainGlobals (cn c)=AA (AA (.ref q))/\Ai K (.ref q) d.nm=AA (AA (.ref f))/\DI K (.ref f)=AD
 |.ini c=>yaT d/\∃q,BE K mainGlobals (cn c)=AA (AA (.ref q))/\Ai K (.ref q) d.nm=AA (AA (.ref f))/\DI K (.ref f)=AD/\Dg K q=AD/\An K (.ref q)=AD
def DvP(K:AE)(d:Df)(dv:AF):Prop:=
 match d.k with
 |.fd ds=>∃dT o its n,dv=.ref dT/\K.lookup dT=AA o/\o.data=.seq its n/\Vals (ds.map V.int) its.toList
 |_=>dv=.none
def ycr(K:AE)(cn:Nat->AW)(d:Df):Prop:=∃dv f fd,ybU K d dv f fd/\At K cn d f/\DvP K d dv
section
variable {K:AE}{cn:Nat->AW}{gn nm:AW}{st:Bo}{N ps:List AW}{fn:IC.Fn}{f:AK}{oc:AF}{od:Option AK}{kV doc pm:AF}{an:Option AK}{cdv ct:AF}{osl:Array (Option AF)}
theorem rowFn(a:BE K mainGlobals gn=AA (AA (.ref f)))(l:K.lookup f=AA ⟨oc,od,.func (Bg nm nm (yX st) (yE st) (yg st) .none kV doc pm an cdv ct),osl⟩)
  (c:CN K cdv nm=AD) (p:An K (.ref f)=AD) (b:yaT ⟨gn,nm,nm,st,N,ps,fn,.fn⟩):ycr K cn ⟨gn,nm,nm,st,N,ps,fn,.fn⟩:=
 ⟨.none,f,_,⟨⟨oc,od,kV,doc,pm,an,cdv,ct,osl,rfl,l,c⟩,p⟩,⟨a,b⟩,rfl⟩
theorem rowFd{ds:List Int}{dT:AK}{o:Bm}{its:Array AF}{n:Nat}(a:BE K mainGlobals gn=AA (AA (.ref f)))(l:K.lookup f=AA ⟨oc,od,.func (Bg nm nm (yX st) (yE st) (yg st) (.ref dT) kV doc pm an cdv ct),osl⟩)
  (c:CN K cdv nm=AD) (p:An K (.ref f)=AD) (d:K.lookup dT=AA o) (e:o.data=.seq its n) (v:Vals (ds.map V.int) its.toList):ycr K cn ⟨gn,nm,nm,st,N,ps,fn,.fd ds⟩:=
 ⟨.ref dT,f,_,⟨⟨oc,od,kV,doc,pm,an,cdv,ct,osl,rfl,l,c⟩,p⟩,a,dT,o,its,n,rfl,d,e,v⟩
theorem rowMe{qn:AW}{cc:Nat}{q:AK}(z:BE K mainGlobals (cn cc)=AA (AA (.ref q)))(a:Ai K (.ref q) nm=AA (AA (.ref f)))(i:DI K (.ref f)=AD)(l:K.lookup f=AA ⟨oc,od,.func (Bg nm qn (yX st) (yE st) (yg st) .none kV doc pm an cdv ct),osl⟩)
  (c:CN K cdv qn=AD) (p:An K (.ref f)=AD) (b:yaT ⟨gn,nm,qn,st,N,ps,fn,.me cc⟩):ycr K cn ⟨gn,nm,qn,st,N,ps,fn,.me cc⟩:=
 ⟨.none,f,_,⟨⟨oc,od,kV,doc,pm,an,cdv,ct,osl,rfl,l,c⟩,p⟩,⟨b,q,z,a,i⟩,rfl⟩
theorem rowIni{qn:AW}{cc:Nat}{q:AK}(z:BE K mainGlobals (cn cc)=AA (AA (.ref q)))(a:Ai K (.ref q) nm=AA (AA (.ref f)))(i:DI K (.ref f)=AD)(l:K.lookup f=AA ⟨oc,od,.func (Bg nm qn (yX st) (yE st) (yg st) .none kV doc pm an cdv ct),osl⟩)
  (c:CN K cdv qn=AD) (p:An K (.ref f)=AD) (b:yaT ⟨gn,nm,qn,st,N,ps,fn,.ini cc⟩) (mk:Dg K q=AD) (kq:An K (.ref q)=AD):ycr K cn ⟨gn,nm,qn,st,N,ps,fn,.ini cc⟩:=
 ⟨.none,f,_,⟨⟨oc,od,kV,doc,pm,an,cdv,ct,osl,rfl,l,c⟩,p⟩,⟨b,q,z,a,i,mk,kq⟩,rfl⟩
theorem gdf_mk{w:Aa}{h:Aw}{mg:AW->Option AF}{x:AW}{D:List (AW×Nat)}{fa:Nat->AK}{y:AK}{es:Array BL}{ep:Nat}(X:K.In h)(G:h.Ns mainGlobals mg)(a:BE K mainGlobals x=AA (AA (.ref y)))(l:K.lookup y=AA ⟨.type "dict",AC,.dict es ep,#[]⟩)
  (r:ybT w fa D es.toList) (n:(D.map (·.1)).Nodup):GDF K w mg fa x D:=⟨y,es,ep,E9 X G a,l,r,n⟩
theorem gd_mk{w:Aa}{h:Aw}{mg:AW->Option AF}{x:AW}{D:List (AW×PV)}{cl:Nat->AK}{y:AK}{es:Array BL}{ep:Nat}(X:K.In h)(G:h.Ns mainGlobals mg)(a:BE K mainGlobals x=AA (AA (.ref y)))(l:K.lookup y=AA ⟨.type "dict",AC,.dict es ep,#[]⟩)
  (s:(y==sysModules)=AG) (r:ybN K cl w D es.toList) (n:(D.map (·.1)).Nodup):GD K w mg cl x D:=⟨y,es,ep,E9 X G a,l,s,r,n⟩
end
abbrev KoV(K:AE)(v:PV)(u:AF):Prop:=∃x:V,RelV x u/\∀cl B φ H,yc K cl B φ H v x
abbrev KoL(K:AE)(vs:List PV)(us:List AF):Prop:=∃xs:List V,Vals xs us/\∀cl B φ H,ye K cl B φ H vs xs
mutual
noncomputable def ydt(K:AE):(v:PV)->(u:AF)->Pr (KoV K v u)
 |.int i,.int j t=>an (ask (i=j)) λh=>ok ⟨.int i,⟨t,by rw[h]⟩,λ_ _ _ _=>by erw[yc]⟩
 |.str i,.str j t=>an (ask (i=j)) λh=>ok ⟨.str i,⟨t,by rw[h]⟩,λ_ _ _ _=>by erw[yc]⟩
 |.tp AD vs,.ref a=>match h:K.lookup a with
  |some ⟨c,_,.seq its n,_⟩=>an (ask (c=.type "tuple"/\its.size<=sizeLine)) λq=>an (ycO K vs its.toList) λr=>ok (by
    let⟨xs,r1,r2⟩:=r;refine⟨.ref a,rfl,λcl B φ H=>?_⟩;erw[yc];exact⟨a,xs,rfl,.inr ⟨rfl,_,its,n,h,q.1,rfl,q.2,r1⟩,r2 cl B φ H⟩)
  |_=>AC
 |_,_=>AC
noncomputable def ycO(K:AE):(vs:List PV)->(us:List AF)->Pr (KoL K vs us)
 |[],[]=>ok ⟨[],.nil,λ_ _ _ _=>by erw[ye]⟩
 |v::vs,u::us=>an (ydt K v u) λh=>an (ycO K vs us) λr=>ok (by
   let⟨x,h1,h2⟩:=h;let⟨xs,r1,r2⟩:=r;refine⟨x::xs,.cons h1 r1,λcl B φ H=>?_⟩;erw[ye];exact⟨x,xs,rfl,h2 cl B φ H,r2 cl B φ H⟩)
 |_,_=>AC
end
theorem con_row{K:AE}{cl:Nat->AK}{w:Aa}{k:AW}{v:PV}{tk:Hr}{u:AF}{D:List (AW×PV)}{es:List BL}(c:(ydt K v u).isSome=AD)(h:ybN K cl w D es):ybN K cl w ((k,v)::D) (⟨EG w.params k,.str k tk,u⟩ :: es):=by
 let⟨⟨x,r,q⟩,_⟩:=Af.1 c;exact .cons r (q cl) h
theorem frow_cons{w:Aa}{fa:Nat->AK}{k:AW}{i:Nat}{tk:Hr}{a:AK}{D:List (AW×Nat)}{es:List BL}(e:fa i=a)(h:ybT w fa D es):ybT w fa ((k,i)::D) (⟨EG w.params k,.str k tk,.ref a⟩ :: es):=by
 subst e;exact .cons h
structure Tb where
 tbl:List Df
 al:List (AW×GK)
 bs:List AW
 ts:List Ty
 fl:List (Nat×AW)
 me:List ((Nat×AW)×Nat)
 kb:List ((Nat×Nat×List AW)×List (Option Int))
 cn:List (Nat×AW)
 dd:List (AW×List (AW×PV))
 ml:List (AW×List (AW×Nat))
 xs:List (Nat×Ty)
 xc:List (Nat×AW)
 xm:List (Nat×AW)
 qh:List AW
abbrev eF(x:AW)(i:Nat):AW×GK:=(x,.fn i)
abbrev eC(x:AW)(v:PV):AW×GK:=(x,.cst v)
abbrev eG(x:AW)(g:GK):AW×GK:=(x,g)
abbrev eN(c:Nat)(x:AW):Nat×Str:=(c,x)
def tyE:Ty->Ty->Bool
 |.int,.int=>AD
 |.bool,.bool=>AD
 |.str,.str=>AD
 |.tuple,.tuple=>AD
 |.list,.list=>AD
 |_,_=>AG
def zjO{a b:Ty}(h:tyE a b=AD):a=b:=by
 cases a<;>cases b<;>first|rfl|cases h
def tyX:Ty->Ty->Bool
 |.cls a,.cls b=>a==b
 |.val,.val=>AD
 |_,_=>AG
def zjd{a b:Ty}(h:tyX a b=AD):a=b:=by
 cases a<;>cases b<;>first|rfl|(cases h;done)|(rw[eq_of_beq (show _=AD from h)])
def Tb.gs(t:Tb):Gs:=⟨λx=>t.al.lookup x,λx=>t.bs.contains x,λy=>t.ts.any (tyE y),λc f=>t.fl.contains (c,f),λc n=>t.me.lookup (c,n),λi n ks=>t.kb.lookup (i,n,ks),λx=>t.ml.lookup x,λx i=>decide (t.cn.lookup (1000+i)=AA x),λc y=>t.xs.any λp=>p.1==c&&tyX p.2 y,λd x=>t.xc.contains (d,x),λc x=>t.xm.contains (c,x),λi=>match t.tbl[i]? with
 |some d=>t.qh.contains d.gn
 |none=>AG⟩
def nmA(K:AE)(x:AW):Option Addr:=match BE K mainGlobals x with
 |some (AA (.ref q))=>AA q
 |_=>AC
def clA(K:AE)(t:Tb)(c:Nat):Addr:=((t.cn.lookup c).bind (nmA K)).getD 0
def cnm(t:Tb)(c:Nat):Str:=(t.cn.lookup c).getD ""
def faA(K:AE)(t:Tb)(i:Nat):Addr:=match t.tbl[i]? with
 |some d=>match d.k with
  |.fn=>(nmA K d.gn).getD 0
  |.fd _=>(nmA K d.gn).getD 0
  |.me c=>match Ai K (.ref (clA K t c)) d.nm with
   |some (AA (.ref f))=>f
   |_=>0
  |.ini c=>match Ai K (.ref (clA K t c)) d.nm with
   |some (AA (.ref f))=>f
   |_=>0
 |none=>0
def ycg:Dk->Bool
 |.fn=>AD
 |_=>AG
def ydr:Dk->Bool
 |.fd _=>AD
 |_=>AG
def yfX:PV->Bool
 |.int _=>AD
 |.tp _ _=>AD
 |_=>AG
def alB(K:AE)(t:Tb):AW×GK->Bool
 |(x,.fn i)=>match t.tbl[i]? with
  |some d=>ycg d.k&&(decide (x=d.gn) || decide (nmA K x=nmA K d.gn))
  |none=>AG
 |(x,.fnD i)=>match t.tbl[i]? with
  |some d=>ydr d.k&&(decide (x=d.gn) || decide (nmA K x=nmA K d.gn))
  |none=>AG
 |(x,.cst v)=>yfX v&&match BE K mainGlobals x with
  |some (AA u)=>(ydt K v u).isSome
  |_=>AG
 |(x,.dct d)=>t.dd.any λp=>decide (p.1=x)&&(eqD p.2 d).isSome
 |(x,.exc c)=>decide (t.cn.lookup c=AA x)&&(nmA K x).any λq=>Fu K q [.type "ValueError",.type "Exception",.type "BaseException",.type "object"] "ValueError.__new__"
 |(x,.cls c i)=>decide (t.cn.lookup c=AA x)&&(nmA K x).isSome&&match t.tbl[i]? with
  |some d=>match d.k with
   |.ini c'=>decide (c'=c)&&decide (d.nm="__init__")
   |_=>AG
  |none=>AG
def yed(K:AE)(t:Ty):Bool:=
 decide (BI K (.type "NoneType") (.type (tyN t))=AA (yaZ .non t))&&decide (BI K (.type "bool") (.type (tyN t))=AA (yaZ (.bl AD) t))&&decide (BI K (.type "int") (.type (tyN t))=AA (yaZ (.int 0) t))&&decide (BI K (.type "str") (.type (tyN t))=AA (yaZ (.str Ga) t))&&decide (BI K (.type "tuple") (.type (tyN t))=AA (yaZ (.tp AD []) t))&&decide (BI K (.type "list") (.type (tyN t))=AA (yaZ (.lst []) t))
def yda(K:AE)(q:AK):Bool:=D2 K q Ga&&DH K q&&EU K q&&decide (Ai K (.ref q) "__setattr__"=AA (AA (.builtin "object.__setattr__")))
def zd8{K:AE}{q:AK}(h:yda K q=AD):Cls K q:=by
 erw[yda,AH,decide_eq_true_eq]at h;exact⟨h.1.1.1,h.1.1.2,h.1.2,h.2⟩
def ydp(K:AE)(q:AK):Bool:=decide (Ai K (.ref q) "__getattribute__"=AA (AA (.builtin "BaseException.__getattribute__")))&&decide (Ai K (.ref q) "__getattr__"=AA AC)&&decide (Ai K (.ref q) "__class__"=AA (AA (.builtin "object.__class__")))&&decide (HR K (.ref q) (.type "BaseException")=AA AD)&&decide (HS K q (.type "object")=AA AD)&&(HU K q).isSome
def zgW{K:AE}{q:AK}(h:ydp K q=AD):yeJ K q:=by
 erw[ydp,AH,decide_eq_true_eq]at h;let⟨⟨⟨⟨⟨h1,h2⟩,h3⟩,h4⟩,h5⟩,h6⟩:=h;exact⟨h1,h2,h3,h4,h5,Af.1 h6⟩
def yex(K:AE)(t:Tb):Bool:=
 t.xs.all (λp=>ydp K (clA K t p.1)&&decide (BI K (.ref (clA K t p.1)) (tyZ (clA K t) p.2)=AA (yaZ (.exn p.1) p.2))) &&
  t.xc.all (λp=>decide (t.cn.lookup p.1=AA p.2)&&(nmA K p.2).isSome) &&
  t.xm.all λp=>(nmA K p.2).any λW=>decide (HJ K (.ref (clA K t p.1)) (.ref W)=AA AD)
def ycQ(K:AE)(t:Tb):Bool:=
 t.al.all (alB K t)&&t.bs.all (λx=>decide (BE K mainGlobals x=AA AC))&&t.ts.all (yed K) &&
  t.fl.all (λp=>(t.cn.lookup p.1).isSome&&(nmA K (cnm t p.1)).any λq=>yda K q&&decide (Ai K (.ref q) p.2=AA AC)) &&
  t.me.all (λp=>(t.cn.lookup p.1.1).isSome&&(nmA K (cnm t p.1.1)).any λq=>yda K q&&match t.tbl[p.2]? with
   |some d=>(match d.k with
    |.me c=>decide (c=p.1.1)
    |_=>AG)&&decide (d.nm=p.1.2)
   |none=>AG) &&
  t.ml.all λp=>p.2.all λq=>match t.tbl[q.2]? with
   |some d=>ycg d.k
   |none=>AG
def ydW(K:AE)(t:Tb):Bool:=ycQ K t&&yex K t
def fd0:FuncData:=Bg "" "" (yX (.Pass ⟨0,0,0,0⟩)) [] (yg (.Pass ⟨0,0,0,0⟩)) .none .none .none .none AC .none .none
def fdA(K:AE)(t:Tb)(i:Nat):FuncData:=match K.lookup (faA K t i)with
 |some ⟨_,_,.func fd,_⟩=>fd
 |_=>fd0
def psA(t:Tb)(i:Nat):List Str:=match t.tbl[i]? with
 |some d=>d.ps
 |none=>[]
theorem lkm{α β:Type}[BEq α][LawfulBEq α]{x:α}{k:β}:∀{l:List (α×β)},l.lookup x=AA k->(x,k)∈l
 |[],h=>nomatch h
 |y::l,h=>by
  rw[Ba]at h
  cases hx:x==y.1 with
  |true=>rw[hx]at h;cases h;rw[eq_of_beq hx];exact A0
  |false=>rw[hx]at h;exact AN _ (lkm h)
def KbP(t:Tb)(p:(Nat×Nat×List AW)×List (Option Int)):Prop:=∀d ds,t.tbl[p.1.1]?=AA d->d.k=.fd ds->∀(K:AE) (mg:AW->Option AF) (f:AK) (fd:Ax),FnD K mg d.nm d.st d.ps ds f fd->∃g,ybC K fd d.ps p.1.2.2 g (gK p.1.2.1 p.2)
structure Fact(t:Tb)(w:Aa)(K:AE)(mg:AW->Option AF):Prop where
 X:∀x u,BE K mainGlobals x=AA u->mg x=u
 R:ybn (ycr K (cnm t)) t.tbl
 B:ydW K t=AD
 D:ybn (λp=>∀cl,GD K w mg cl p.1 p.2) t.dd
 Kb:ybn (KbP t) t.kb
 Ml:ybn (λp=>GDF K w mg (faA K t) p.1 p.2) t.ml
def zjE{K:AE}{x:AW}{q:AK}(h:nmA K x=AA q):BE K mainGlobals x=AA (AA (.ref q)):=by
 unfold nmA at h;split at h
 .cases h;assumption
 .cases h
def zR{K:AE}{x:AW}{q:AK}(h:BE K mainGlobals x=AA (AA (.ref q))):nmA K x=AA q:=by
 erw[nmA,h]
def zcm{K:AE}{t:Tb}{c:Nat}{q:AK}(h:nmA K (cnm t c)=AA q)(hc:(t.cn.lookup c).isSome=AD):clA K t c=q:=by
 let⟨x,e⟩:=Af.1 hc;erw[clA,e,BY];erw[cnm,e,Bb]at h;rw[h];rfl
def okH(t:Tb)(d:Df):Bool:=(yb9 t.gs d.fn.body ⟨d.N,yg d.st,AG,AD⟩ (yE d.st)).isSome&&!d.fn.pure&&ycg d.k
def okT(t:Tb)(d:Df):Bool:=okD t.gs d&&(!t.qh.contains d.gn || okH t d)&&match d.k with
 |.fn=>AD
 |.fd _=>decide (d.q=d.nm)
 |.me c=>(t.cn.lookup c).isSome
 |.ini c=>(t.cn.lookup c).isSome&&decide (d.nm="__init__")
section
variable {t:Tb}{w:Aa}{K:AE}{mg:AW->Option AF}{T:Nat->Option IC.Fn}{P:A4}{base:Aw}{k:Nat}
def zad(F:Fact t w K mg)(O:∀d∈t.tbl,okT t d=AD){i:Nat}{d:Df}(h:t.tbl[i]?=AA d):∃dv fd,ybU K d dv (faA K t i) fd/\At K (cnm t) d (faA K t i)/\DvP K d dv:=by
 have hm:=A5 h;let⟨dv,f,fd,h1,h2,h3⟩:=F.R.get d hm;have e:f=faA K t i:=by
  have o:=O d hm;erw[okT,AH]at o;have o:=o.2;erw[faA,h];unfold At at h2
  cases q:d.k with
  |fn=>
   rw[q]at h2;erw[zR h2.1,Bb]
  |fd ds=>
   rw[q]at h2;have h2:BE K mainGlobals d.gn=AA (AA (.ref f)):=h2;erw[zR h2,Bb]
  |me c=>
   rw[q]at h2 o;let⟨_,q',e1,e2,_⟩:=h2;erw[zcm (zR e1) o,e2]
  |ini c=>
   rw[q]at h2 o;let⟨_,q',e1,e2,_⟩:=h2;erw[AH]at o;erw[zcm (zR e1) o.1,e2]
 subst e;exact⟨dv,fd,h1,h2,h3⟩
theorem ybU.binds{d:Df}{f:AK}{fd:Ax}(R:ybU K d .none f fd)(b:yaT d):Binds K fd d.ps []:=
 Fun.binds ⟨R.ex,R.kp⟩ λkV doc pm an cdv ct us hl=>(b kV doc pm an cdv ct).get us hl
theorem ybU.ok{d:Df}{dv:AF}{f:AK}{fd:Ax}{fi m:Nat}{cl:Nat->AK}(R:ybU K d dv f fd)(hT:T fi=AA d.fn)(Sc:yaw d.N d.ps (yg d.st))(hnp:d.ps.length=d.fn.np)(hns:d.N.length=d.fn.ns)
  (body:∀(cdv:AF) (A:A9) (outer:List BP) (s:AI) (H:Hp) (E:XK),yav m (A.deeper (envOfC d.q (yg d.st) s.heap.objs.size f cdv)) ->
   PSs (yaB (CX1 P w) P w K mg base d.N d.q (yg d.st) f cdv A outer s H E) (yE d.st) (tSs ⟨cl,yd T k,AD⟩ (yaB (CX1 P w) P w K mg base d.N d.q (yg d.st) f cdv A outer s H E) d.fn.body)):
  yaK P w K mg base (CX1 P w) (m+1) f fd d.ps (spI K cl (yd T (k+1)) fi):=by
 let⟨oc,od,kV,doc,pm,an,cdv,ct,osl,rfl,lk,hcd⟩:=R.ex;exact zkt lk hcd Sc (λvs H Q E h=>zgc hT hnp h) λA outer s H vs Q E hr h=>⟨_,body cdv A outer s H E hr,zhB hT hns h⟩
def Fn2(t:Tb)(P:A4)(w:Aa)(K:AE)(mg:AW->Option AF)(base:Aw)(T:Nat->Option IC.Fn)(k:Nat):Prop:=
 ∀i d dv fd,t.tbl[i]?=AA d->ybU K d dv (faA K t i) fd->yaK P w K mg base (CX1 P w) (2*k) (faA K t i) fd d.ps (spI K (clA K t) (yd T k) i)
def FnH(t:Tb)(P:A4)(w:Aa)(K:AE)(mg:AW->Option AF)(base:Aw)(T:Nat->Option IC.Fn)(k:Nat):Prop:=
 ∀i d fd,t.tbl[i]?=AA d->t.qh.contains d.gn=AD->ybU K d .none (faA K t i) fd->ybu P w K mg base (2*k) (faA K t i) fd d.ps (spI K (clA K t) (yd T k) i)
def zcn(F:Fact t w K mg)(O:∀d∈t.tbl,okT t d=AD)(C:Fn2 t P w K mg base T k)(CH:FnH t P w K mg base T k){N:List AW}{q:AW}{sc:BR}{f:AK}{cdv:AF}{A:A9}{outer:List BP}{s:AI}{H:Hp}{E:XK}:
  Glo t.gs (2*k) ⟨clA K t,yd T k,AD⟩ (yaB (CX1 P w) P w K mg base N q sc f cdv A outer s H E):=by
 have B:=F.B;erw[ydW,AH]at B;let⟨B,B2⟩:=B;erw[ycQ,AH,CJ]at B;erw[yex,AH,CJ]at B2;let⟨⟨⟨⟨⟨b1,b2⟩,b3⟩,b4⟩,b5⟩,b6⟩:=B;let⟨⟨b7,b8⟩,b9⟩:=B2;have mgr:∀{x:AW} {a:AK},nmA K x=AA a->mg x=AA (.ref a):=λh=>F.X _ _ (zjE h);have same:∀{x y:AW} {a:AK},(decide (x=y) || decide (nmA K x=nmA K y))=AD->nmA K y=AA a->nmA K x=AA a:=λ{x y a} h e=>by
  erw[CW,decide_eq_true_eq]at h;rcases h with rfl|h
  .exact e
  .rw[h];exact e
 refine⟨λx i h=>?_,λx i np ks sh h hk=>?_,λx v h=>?_,λx d h=>?_,λx c h=>?_,λx c i h=>?_,λx h=>?_,λy h=>?_,λc n h=>?_,λc n i h=>?_,λy D h=>?_,λx i h hv=>?_,λc y h=>?_,λd x h=>?_,λc x h=>?_,λx i h hq=>?_⟩
 .have q:=b1 _ (lkm h);erw[alB]at q;split at q
  .rename_i d hd;erw[AH]at q;let⟨dv,fd,r1,r2,r3⟩:=zad F O hd;have hk:d.k=.fn:=by cases e:d.k<;>rw[e]at q<;>first|rfl|cases q.1
   erw[At,hk]at r2;erw[DvP,hk]at r3;subst r3;exact⟨_,fd,d.ps,C i d _ fd hd r1,mgr (same q.2 (zR r2.1)),r1.kp,r1.binds r2.2⟩
  .cases q
 .have q:=b1 _ (lkm h);erw[alB]at q;split at q
  .rename_i d hd;erw[AH]at q;let⟨dv,fd,r1,r2,r3⟩:=zad F O hd;obtain⟨ds,hk'⟩:∃ds,d.k=.fd ds:=by cases e:d.k<;>rw[e]at q<;>first|exact⟨_,rfl⟩|cases q.1
   erw[At,hk']at r2;erw[DvP,hk']at r3;let⟨dT,o,its,n,rfl,e1,e2,e3⟩:=r3;have oo:=O d (A5 hd);erw[okT,hk',AH,decide_eq_true_eq]at oo;have D:FnD K (λ_=>AA (.ref (faA K t i))) d.nm d.st d.ps ds (faA K t i) fd:=by
    let⟨oc,od,kV,doc,pm,an,cdv,ct,osl,z1,z2,z3⟩:=r1.ex;rw[oo.2]at z1 z3;exact⟨⟨oc,od,dT,kV,doc,pm,an,cdv,ct,osl,o,its,n,z1,z2,z3,e1,e2,e3⟩,r1.kp,rfl⟩
   exact⟨_,fd,d.ps,C i d _ fd hd r1,mgr (same q.2 (zR r2)),r1.kp,F.Kb.get _ (lkm hk) d ds hd hk' K _ _ _ D⟩
  .cases q
 .have q:=b1 _ (lkm h);erw[alB,AH]at q;let⟨q0,q⟩:=q;split at q
  .rename_i u hu;let⟨⟨y,r,z⟩,_⟩:=Af.1 q;have hm:=F.X _ _ hu
   cases v with
   |int i=>
    have z:=z (λ_=>0) (λ_=>False) [] (λ_=>AC);erw[yc]at z;subst z;let⟨tk,rfl⟩:=r;exact .inr ⟨i,rfl,tk,hm⟩
   |tp b vs=>
    have z0:=z (λ_=>0) (λ_=>False) [] (λ_=>AC);erw[yc]at z0;let⟨a,xs,rfl,_⟩:=z0;have r:u=.ref a:=r;subst r;exact .inl ⟨a,hm,λB φ H=>z _ B φ H⟩
   |_=>cases q0
  .cases q
 .have q:=b1 _ (lkm h);erw[alB,Cp,AH,decide_eq_true_eq]at q;let⟨p,hp,rfl,q⟩:=q;let⟨⟨e⟩,_⟩:=Af.1 q;rw[<-e];exact F.D.get p hp _
 .have q:=b1 _ (lkm h);erw[alB,AH,decide_eq_true_eq,Co]at q;let⟨q1,q2,q3⟩:=q;let⟨a,ha⟩:=Af.1 q2;have e:clA K t c=a:=by erw[clA,q1,BY,ha,Bb]
  erw[ha,FJ]at q3;exact⟨by show mg x=AA (.ref (clA K t c));rw[e];exact mgr ha,by show Fu K (clA K t c) _ _=AD;rw[e];exact q3⟩
 .have q:=b1 _ (lkm h);erw[alB,AH,decide_eq_true_eq]at q;let⟨⟨q1,q2⟩,q3⟩:=q;let⟨a,ha⟩:=Af.1 q2;have e:clA K t c=a:=by erw[clA,q1,BY,ha,Bb]
  split at q3
  .rename_i d hd
   cases hk:d.k with
   |ini c'=>
    rw[hk]at q3;erw[AH,decide_eq_true_eq]at q3;let⟨rfl,hn⟩:=q3;let⟨dv,fd,r1,r2,r3⟩:=zad F O hd;erw[At,hk]at r2;erw[DvP,hk]at r3;subst r3;let⟨r0,q',r4,r5,r6,r7,r8⟩:=r2;have e2:q'=a:=by
     have:nmA K (cnm t c')=AA q':=zR r4;erw[cnm,q1,Bb,ha]at this;exact(A3 this).symm
    subst e2;rw[hn]at r5;refine⟨by show mg x=AA (.ref (clA K t c'));rw[e];exact mgr ha,_,fd,d.ps,?_,C i d _ fd hd r1,r1.binds r0⟩;show Mk K (clA K t c') _;rw[e];exact⟨r7,r5,r6,r8⟩
   |_=>rw[hk]at q3;cases q3
  .cases q3
 .have q:x∈t.bs:=by simpa [Tb.gs] using h
  have:=b2 x q;erw[decide_eq_true_eq]at this;exact F.X _ _ this
 .simp only[Tb.gs,Cp]at h;let⟨y',hy,e⟩:=h;have:=zjO e;subst this;have q:=b3 y hy;erw[yed,AH,decide_eq_true_eq]at q;exact⟨q.1.1.1.1.1,q.1.1.1.1.2,q.1.1.1.2,q.1.1.2,q.1.2,q.2⟩
 .have q:(c,n)∈t.fl:=by simpa [Tb.gs] using h
  have q:=b4 _ q;erw[AH,Co,decide_eq_true_eq]at q;let⟨q1,q2,q3⟩:=q;let⟨a,ha⟩:=Af.1 q2;erw[ha,FJ]at q3;have e:clA K t c=a:=zcm ha q1;show Cls K (clA K t c)/\yag K (clA K t c) n;rw[e];exact⟨zd8 q3.1,q3.2⟩
 .have q:=b5 _ (lkm h);erw[AH,Co,decide_eq_true_eq]at q;let⟨q1,q2,q3,q4⟩:=q;let⟨a,ha⟩:=Af.1 q2;erw[ha,FJ]at q3;have e:clA K t c=a:=zcm ha q1;split at q4
  .rename_i d hd;erw[AH,decide_eq_true_eq]at q4;let⟨q4,hn⟩:=q4
   cases hk:d.k with
   |me c'=>
    rw[hk]at q4;have q4:c'=c:=by simpa using q4
    subst q4;let⟨dv,fd,r1,r2,r3⟩:=zad F O hd;erw[At,hk]at r2;erw[DvP,hk]at r3;subst r3;let⟨r0,q',r4,r5,r6⟩:=r2;have e2:q'=a:=A3 ((zR r4).symm.trans ha);subst e2;refine⟨by show Cls K (clA K t c');rw[e];exact zd8 q3,_,fd,d.ps,?_,C i d _ fd hd r1,r1.binds r0⟩;show Meth K (clA K t c') n _;rw[e,<-hn];exact⟨r5,r6,r1.kp⟩
   |_=>rw[hk]at q4;cases q4
  .cases q4
 .have q:=b6 _ (lkm h);have g:∀s j,D.lookup s=AA j->∃d dv fd,t.tbl[j]?=AA d/\ybU K d dv (faA K t j) fd/\dv=.none/\yaT d/\fd=fdA K t j/\d.ps=psA t j:=λs j hj=>by
   have q:=q _ (lkm hj);split at q
   .rename_i d hd;let⟨dv,fd,r1,r2,r3⟩:=zad F O hd;have hk:d.k=.fn:=by cases e:d.k<;>rw[e]at q<;>first|rfl|cases q
    erw[At,hk]at r2;erw[DvP,hk]at r3;let⟨oc,od,kV,doc,pm,an,cdv,ct,osl,_,lk,_⟩:=r1.ex;exact⟨d,dv,fd,hd,r1,r3,r2.2,by erw[fdA,lk],by erw[psA,hd]⟩
   .cases q
  refine⟨faA K t,fdA K t,psA t,⟨λs j hj=>?_,λs j hj=>?_,λs j hj=>?_⟩,F.Ml.get _ (lkm h)⟩
  .let⟨d,dv,fd,h1,h2,h3,h4,h5,h6⟩:=g s j hj;rw[<-h5,<-h6];exact C j d dv fd h1 h2
  .let⟨d,dv,fd,h1,h2,h3,h4,h5,h6⟩:=g s j hj;exact h2.kp
  .let⟨d,dv,fd,h1,h2,h3,h4,h5,h6⟩:=g s j hj;subst h3;rw[<-h5,<-h6];exact h2.binds h4
 .have q:=b1 _ (lkm h);erw[alB]at q;split at q
  .rename_i d hd;erw[AH]at q;let⟨dv,fd,r1,r2,r3⟩:=zad F O hd;have hk:d.k=.fn:=by cases e:d.k<;>rw[e]at q<;>first|rfl|cases q.1
   erw[At,hk]at r2;have hn:=same q.2 (zR r2.1);have e:t.cn.lookup (1000+i)=AA x:=of_decide_eq_true hv;have z:clA K t (1000+i)=faA K t i:=by erw[clA,e,BY,hn,Bb]
   show mg x=AA (.ref (clA K t (1000+i)));rw[z];exact mgr hn
  .cases q
 .let⟨p,hp,q⟩:=Cp.1 h;erw[AH,beq_iff_eq]at q;let⟨rfl,q⟩:=q;have:=zjd q;subst this;have b:=b7 p hp;erw[decide_eq_true_eq]at b;exact⟨zgW b.1,b.2⟩
 .have b:=b8 _ (FR.1 h);erw[decide_eq_true_eq]at b;let⟨a,ha⟩:=Af.1 b.2;have e:clA K t d=a:=by erw[clA,b.1,BY,ha,Bb]
  show mg x=AA (.ref (clA K t d));rw[e];exact mgr ha
 .have b:=b9 _ (FR.1 h)
  cases ha:nmA K x with
  |none=>rw[ha]at b;cases b
  |some W=>
   rw[ha]at b;exact⟨W,mgr ha,of_decide_eq_true b⟩
 .have q:=b1 _ (lkm h);erw[alB]at q;split at q
  .rename_i d hd;erw[AH]at q;let⟨dv,fd,r1,r2,r3⟩:=zad F O hd;have hk:d.k=.fn:=by cases e:d.k<;>rw[e]at q<;>first|rfl|cases q.1
   erw[At,hk]at r2;erw[DvP,hk]at r3;subst r3;have hq:t.qh.contains d.gn=true:=by simpa only[Tb.gs,hd] using hq
   exact⟨_,fd,d.ps,CH i d fd hd hq r1,mgr (same q.2 (zR r2.1)),r1.kp,r1.binds r2.2⟩
  .cases q
def zdM(F:Fact t w K mg)(O:∀d∈t.tbl,okT t d=AD)(hT:∀i d,t.tbl[i]?=AA d->T i=AA d.fn):∀k,Fn2 t P w K mg base T k/\FnH t P w K mg base T k
 |0=>⟨λi d dv fd _ _=>zfj,λi d fd _ _ _=>zfm⟩
 |k+1=>by
  have ih:=zdM F O hT k;refine⟨λi d dv fd h R=>?_,λi d fd h hq R=>?_⟩
  .have o:=O d (A5 h);erw[okT,okD,AH,decide_eq_true_eq]at o;let⟨⟨⟨⟨⟨o1,o2⟩,o3⟩,o4⟩,_⟩,_⟩:=o;let⟨⟨y⟩,_⟩:=Af.1 o4;exact R.ok (m:=2*k+1) (hT i d h) (zgq o1) o2 o3 λ_ _ _ _ _ _ hr=>y (2*k) _ _ ⟨rfl,rfl,λ_=>rfl,hr.h,λ_=>hr.hd,λ_=>⟨own1,λ_=>rfl,rfl⟩,λ_=>⟨⟨_,rfl⟩,rfl,rfl⟩,zcn F O ih.1 ih.2⟩
  .have o:=O d (A5 h);erw[okT,okD,AH,decide_eq_true_eq]at o;let⟨⟨⟨⟨⟨o1,o2⟩,o3⟩,_⟩,oq⟩,_⟩:=o;have oh:okH t d=true:=by rw[hq]at oq;simpa using oq
   erw[okH,AH,By]at oh;let⟨⟨y⟩,_⟩:=Af.1 oh.1.1;refine zis (m:=2*k+1) (hT i d h) ⟨R.ex,R.kp⟩ (zgq o1) o2 o3 oh.1.2 λcdv A outer s H hr=>y (2*k) _ _ ⟨rfl,rfl,(λh=>nomatch h),hr,(λh=>nomatch h),(λh=>nomatch h),(λh=>nomatch h),?_⟩;have G:=zcn (N:=d.N) (q:=d.q) (sc:=yg d.st) (f:=faA K t i) (cdv:=cdv) (A:=A) (outer:=outer) (s:=s) (H:=H) (E:=E0) F O ih.1 ih.2;exact⟨G.F,G.Q,G.C,G.D,G.E,G.N,G.B,G.T,G.A,G.M,λy D h=>let ⟨fa,fdd,ps,M,d⟩:=G.K y D h;⟨fa,fdd,ps,⟨M.F,M.kp,M.b⟩,d⟩,G.V,G.I,G.L,G.H,G.Z⟩
def zhw(F:Fact t w K mg)(O:∀d∈t.tbl,okT t d=AD)(hT:∀i d,t.tbl[i]?=AA d->T i=AA d.fn)(k:Nat):Fn2 t P w K mg base T k:=(zdM F O hT k).1
def ydg:Nat->(List AF->Prop)->Prop
 |0,P=>P []
 |n+1,P=>∀a,ydg n λus=>P (a::us)
theorem ydg.get:∀{n:Nat} {P:List AF->Prop},ydg n P->∀us,us.length=n->P us
 |0,P,h,[],_=>h
 |n+1,P,h,a::us,e=>(h a).get us (by simpa using e)
theorem all_mk2{h:Aw}{fx:AK}(X:K.In h)(G:h.Ns mainGlobals mg)(hfa:mg "law"=AA (.ref fx))(R:ybn (ycr K (cnm t)) t.tbl)(B:ydW K t=AD)(D:ybn (λp=>∀cl,GD K w mg cl p.1 p.2) t.dd)(Kb:ybn (KbP t) t.kb)(Ml:ybn (λp=>GDF K w mg (faA K t) p.1 p.2) t.ml)
  (O:t.tbl.all (okT t)=AD) (hT:∀i d,t.tbl[i]?=AA d->T i=AA d.fn) {L:Nat} {st:Bo} {N:List AW} {fn:IC.Fn} (hL:t.tbl[L]?=AA ⟨"law","law","law",st,N,["_law_script"],fn,.fn⟩) (lvl:Nat):
  ∃fd:Ax,(∀(s:AI) (v:AF),Es s fd ⟨[v],[]⟩ [("_law_script",v)])/\∀base:Aw,K.In base->base.Ns mainGlobals mg->yaK P w K mg base (CX1 P w) (2*lvl) fx fd ["_law_script"] (spX K (yd T lvl) L):=by
 have F:Fact t w K mg:=⟨λx u e=>by
  cases u with
  |none=>exact PySem.W.mg_none_of X G e
  |some v=>exact E9 X G e,R,B,D,Kb,Ml⟩
 have O':=CJ.1 O;let⟨dv,fd,r1,r2,r3⟩:=zad F O' hL;have r3:dv=.none:=r3;subst r3;have r2:BE K mainGlobals "law"=AA (AA (.ref (faA K t L)))/\yaT _:=r2;have e:=Value.ref.inj (A3 (hfa.symm.trans (E9 X G r2.1)));subst e;refine⟨fd,λs v=>?_,λbase _ _=>(zhw F O' hT lvl L _ _ fd hL r1).imp λ_ _ _ _ h=>h _⟩;let⟨oc,od,kV,doc,pm,an,cdv,ct,osl,rfl,_⟩:=r1.ex;exact .of_eq (r2.2 kV doc pm an cdv ct v)
end
end L2
namespace IC
open PySem
def ygp:PV:=(.int 2000)
def yew:PV:=(.int 100)
section ya
local macro_rules|`(#[$x,*])=>do
 let mut a←`(.e)
 for y in x.getElems.reverse do a←`(.k $y $a)
 pure a
def ym:Fn:=⟨7,7,AG,#[.sfl 20 (.v 0) (AS "w") (.v 1),.sfl 20 (.v 0) (AS "n") (.v 2),.sfl 20 (.v 0) (AS "i") (.v 3),.sfl 20 (.v 0) (AS "j") (.v 4),.sfl 20 (.v 0) (AS "words") (.v 5),.sfl 20 (.v 0) (AS "marked") (.v 6)]⟩
def ycA:Fn:=⟨7,7,AD,#[.ret (.call 2 #[.v 0,.new 20 0 #[.v 1,.v 2,.v 3,.v 4,.dof (.v 5),.v 6]])]⟩
def yk:Fn:=⟨2,3,AG,#[.asg (.n 2) (.comp [AC,AA 1] (.n 0) (.seq (.v 0)) (.cst (.bl AD)) (.call 4 #[.v 0,.v 1])),.ret (.and (.cmp .notin (.cst .non) (.v 2)) (.cmp .eq (.blt .sum #[.v 2]) (.i 0)))]⟩
def yn:Fn:=⟨4,4,AD,#[.ret (.bin .add (.bin .add (.bin .add (.idx (.v 0) (.i 0)) (.bin .mul (.idx (.v 0) (.i 1)) (.v 2))) (.bin .mul (.idx (.v 0) (.i 2)) (.v 3))) (.bin .mul (.idx (.v 0) (.i 3)) (.v 1)))]⟩
def yD:Fn:=⟨2,9,AG,#[.asg (.t [2,3,4]) (.v 0),.asg (.n 5) (.call 5 #[.v 3,.v 1]),.asg (.n 6) (.comp [AC,AA 1] (.n 0) (.seq (.v 4)) (.cst (.bl AD)) (.call 6 #[.v 0,.v 1])),.ite (.or (.not (.chain .le .le (.i 0) (.v 5) (.cst ygp))) (.cmp .isin (.cst .non) (.v 6))) #[.ret (.cst .non)] .e,.asg (.n 7) (.bin .shl (.v 2) (.v 5)),.for (.n 8) (.seq (.v 6)) #[.aug 7 .mul (.v 8)],.ret (.v 7)]⟩
def yv:Fn:=⟨2,9,AG,#[.asg (.t [2,3,4,5,6,7]) (.v 0),.asg (.n 8) (.bin .add (.bin .add (.bin .mul (.v 5) (.fld 20 (.v 1) (AS "i"))) (.bin .mul (.v 6) (.fld 20 (.v 1) (AS "j")))) (.bin .mul (.v 7) (.fld 20 (.v 1) (AS "n")))),.ret (.bin .add (.bin .add (.bin .add (.v 2) (.bin .mul (.v 3) (.fld 20 (.v 1) (AS "i")))) (.bin .mul (.v 4) (.fld 20 (.v 1) (AS "j")))) (.bin .mul (.fld 20 (.v 1) (AS "w")) (.v 8)))]⟩
def yq:Fn:=⟨2,4,AG,#[.ite (.cmp .eq (.idx (.v 0) (.i 0)) (.s "mark")) #[.ret (.fld 20 (.v 1) (AS "marked"))] .e,.asg (.n 2) (.call 3 #[.idx (.v 0) (.i 2),.fld 20 (.v 1) (AS "n"),.fld 20 (.v 1) (AS "i"),.fld 20 (.v 1) (AS "j")]),.asg (.n 3) (.call 3 #[.idx (.v 0) (.i 3),.fld 20 (.v 1) (AS "n"),.fld 20 (.v 1) (AS "i"),.fld 20 (.v 1) (AS "j")]),.ite (.or (.not (.chain .le .le (.i 0) (.v 2) (.cst yew))) (.not (.chain .le .le (.i 0) (.v 3) (.cst yew)))) #[.nope] .e,.ret (.blt .sum #[.comp [AC,AA 1,AA 2,AA 0] (.n 0) (.range2 (.v 2) (.v 3)) (.cst (.bl AD)) (.bin .shl (.mth .get (.fld 20 (.v 1) (AS "words")) #[.tup #[.idx (.v 3) (.i 1),.v 0],.i 0]) (.bin .mul (.fld 20 (.v 1) (AS "w")) (.bin .sub (.v 0) (.v 2))))])]⟩
def ydB:Fn:=⟨1,1,AG,#[.ret (.newl #[.slc (.v 0) (.cst .non) (.i 63),.i 0,.i 0,.cst (.bl AG)])]⟩
def yan:Fn:=⟨1,8,AD,#[.asg (.n 1) (.tup #[.i 2147483647,.i 2147483629,.i 2147483587,.i 2147483579,.i 2147483563]),.asg (.n 2) (.i 0),.for (.t [3,4]) (.enum (.v 1)) #[.asg (.n 5) (.bin .add (.v 0) (.idx (.tup #[.i 11,.i 101,.i 1009,.i 10007,.i 100003]) (.v 3))),.asg (.n 5) (.bin .mod (.bin .mul (.v 5) (.bin .add (.i 48271) (.bin .mul (.i 2) (.v 3)))) (.v 4)),.asg (.n 6) (.bin .mod (.bin .mul (.v 5) (.v 5)) (.v 4)),.asg (.n 7) (.bin .mod (.bin .mul (.bin .mod (.bin .mul (.v 6) (.v 6)) (.v 4)) (.v 5)) (.v 4)),.asg (.n 2) (.bin .add (.bin .mul (.v 2) (.v 4)) (.v 7))],.ret (.v 2)]⟩
def yP:Fn:=⟨1,4,AG,#[.asg (.t [1,2]) (.tup #[.idx (.v 0) (.i 0),.idx (.v 0) (.i 1)]),.asg (.n 3) (.bin .add (.bin .mul (.i 31) (.v 2)) (.i 7)),.ite (.cmp .gt (.blt .len #[.v 1]) (.i 0)) #[.asg (.n 3) (.bin .mul (.i 104729) (.bin .fdiv (.v 2) (.blt .len #[.v 1]))),.asg (.n 3) (.bin .add (.v 3) (.idx (.v 1) (.bin .mod (.v 2) (.blt .len #[.v 1]))))] .e,.six (.v 0) (.i 1) (.bin .add (.v 2) (.i 1)),.six (.v 0) (.i 3) (.or (.cmp .ge (.v 2) (.blt .len #[.v 1])) (.cmp .lt (.v 3) (.bin .pow (.i 10) (.i 18)))),.ite (.idx (.v 0) (.i 3)) #[.six (.v 0) (.i 2) (.call 8 #[.v 3])] #[.six (.v 0) (.i 2) (.bin .sub (.v 3) (.bin .pow (.i 10) (.i 18)))]]⟩
def yH:Fn:=⟨2,4,AG,#[.asg (.n 2) (.i 0),.while (.and (.cmp .lt (.v 2) (.i 64)) (.or (.cmp .eq (.idx (.v 0) (.i 2)) (.i 0)) (.and (.idx (.v 0) (.i 3)) (.cmp .lt (.idx (.v 0) (.i 2)) (.bin .mul (.v 1) (.i 4096)))))) #[.expr (.call 9 #[.v 0]),.aug 2 .add (.i 1),.ite (.and (.idx (.v 0) (.i 3)) (.cmp .lt (.idx (.v 0) (.i 2)) (.bin .mul (.v 1) (.i 4096)))) #[.six (.v 0) (.i 2) (.bin .add (.idx (.v 0) (.i 2)) (.bin .mul (.bin .mul (.v 1) (.i 4096)) (.bin .add (.i 1) (.bin .mod (.idx (.v 0) (.i 2)) (.i 4093)))))] .e],.asg (.n 3) (.bin .mod (.idx (.v 0) (.i 2)) (.v 1)),.six (.v 0) (.i 2) (.bin .fdiv (.idx (.v 0) (.i 2)) (.v 1)),.ret (.v 3)]⟩
def yef:Fn:=⟨2,2,AG,#[.ret (.tup #[.bin .add (.i 4) (.call 10 #[.v 0,.i 13]),.bin .add (.i 1) (.call 10 #[.v 0,.v 1])])]⟩
def yy:Fn:=⟨1,3,AD,#[.asg (.n 1) (.i 1),.for (.n 2) (.range1 (.v 0)) #[.asg (.n 1) (.bin .mul (.i 2) (.v 1))],.ret (.v 1)]⟩
def yeh:Fn:=⟨4,4,AD,#[.ret (.bin .add (.bin .add (.bin .add (.idx (.v 0) (.i 0)) (.bin .mul (.idx (.v 0) (.i 1)) (.v 1))) (.bin .mul (.idx (.v 0) (.i 2)) (.v 2))) (.bin .mul (.idx (.v 0) (.i 3)) (.v 3)))]⟩
def yei:Fn:=⟨2,3,AG,#[.asg (.n 2) (.call 10 #[.v 0,.i 6]),.ret (.tup #[.call 10 #[.v 0,.bin .add (.v 1) (.i 1)],.blt .int #[.cmp .eq (.v 2) (.i 1)],.blt .int #[.cmp .eq (.v 2) (.i 2)],.blt .int #[.cmp .eq (.v 2) (.i 3)]])]⟩
def yj:Fn:=⟨2,7,AG,#[.asg (.n 2) (.dict0 AD),.asg (.n 3) (.call 12 #[.v 1]),.for (.n 4) (.chars (.s "abcde")) #[.for (.n 5) (.range1 (.i 6)) #[.asg (.n 6) (.idx (.tup #[.i 0,.i 1,.bin .sub (.v 3) (.i 1),.call 10 #[.v 0,.v 3]]) (.call 10 #[.v 0,.i 4])),.ite (.or (.cmp .gt (.v 6) (.i 0)) (.cmp .eq (.call 10 #[.v 0,.i 2]) (.i 0))) #[.dput (.v 2) (.tup #[.v 4,.v 5]) (.v 6)] .e]],.ret (.v 2)]⟩
def yN:Fn:=⟨5,9,AD,#[.for (.t [5,6,7]) (.seq (.v 0)) #[.ite (.not (.chain .le .le (.i 0) (.call 23 #[.v 6,.tup #[.v 1,.v 2],.v 3,.v 4]) (.i 2000))) #[.ret (.cst (.bl AG))] .e,.for (.n 8) (.seq (.v 7)) #[.ite (.not (.blt .all #[.comp [AC,AA 3,AA 4,AA 2] (.n 0) (.seq (.slc (.v 8) (.i 2) (.cst .non))) (.cst (.bl AD)) (.chain .le .le (.i 0) (.call 13 #[.v 0,.v 1,.v 2,.v 3]) (.i 100))])) #[.nope] .e]],.ret (.cst (.bl AD))]⟩
def yad:Fn:=⟨5,7,AG,#[.asg (.n 5) (.i 0),.for (.n 6) (.rangeD (.bin .sub (.v 3) (.i 1)) (.bin .sub (.v 2) (.i 1))) #[.asg (.n 5) (.bin .add (.bin .mul (.v 5) (.v 4)) (.mth .get (.v 0) #[.tup #[.v 1,.v 6],.i 0]))],.ret (.v 5)]⟩
def yW:Fn:=⟨6,15,AG,#[.asg (.n 6) (.call 12 #[.idx (.v 1) (.i 0)]),.asg (.n 7) (.i 0),.for (.t [8,9,10]) (.seq (.v 0)) #[.asg (.n 11) (.call 23 #[.v 9,.v 1,.v 2,.v 3]),.asg (.n 12) (.bin .mul (.v 8) (.bin .shl (.i 1) (.v 11))),.for (.n 13) (.seq (.v 10)) #[.ite (.cmp .eq (.idx (.v 13) (.i 0)) (.s "mark")) #[.asg (.n 12) (.bin .mul (.v 12) (.v 5))] #[.asg (.n 14) (.call 13 #[.idx (.v 13) (.i 2),.v 2,.v 3,.idx (.v 1) (.i 1)]),.asg (.n 11) (.call 13 #[.idx (.v 13) (.i 3),.v 2,.v 3,.idx (.v 1) (.i 1)]),.asg (.n 12) (.bin .mul (.v 12) (.call 17 #[.v 4,.idx (.v 13) (.i 1),.v 14,.v 11,.v 6]))]],.aug 7 .add (.v 12)],.ret (.v 7)]⟩
def yL:Fn:=⟨6,6,AG,#[.ite (.not (.call 16 #[.v 0,.idx (.v 1) (.i 0),.idx (.v 1) (.i 1),.v 2,.v 3])) #[.ret (.cst (.bl AG))] .e,.ret (.cmp .eq (.call 18 #[.v 0,.v 1,.v 2,.v 3,.v 4,.v 5]) (.i 0))]⟩
def yal:Fn:=⟨1,6,AG,#[.asg (.n 1) (.lst #[.call 10 #[.v 0,.i 8],.call 10 #[.v 0,.i 2],.call 10 #[.v 0,.i 2]]),.asg (.n 1) (.bin .add (.v 1) (.comp [AC,AA 0] (.n 0) (.range1 (.i 3)) (.cst (.bl AD)) (.bin .fdiv (.call 10 #[.v 1,.i 6]) (.i 5)))),.asg (.n 2) (.newl .e),.for (.n 3) (.range1 (.call 10 #[.v 0,.i 3])) #[.asg (.n 4) (.call 14 #[.v 0,.i 2]),.asg (.n 5) (.tup #[.s "slice",.idx (.s "abcde") (.call 10 #[.v 0,.i 5]),.v 4,.bin .add (.tup #[.bin .add (.idx (.v 4) (.i 0)) (.call 10 #[.v 0,.i 4])]) (.slc (.v 4) (.i 1) (.cst .non))]),.ite (.cmp .eq (.call 10 #[.v 0,.i 5]) (.i 0)) #[.asg (.n 5) (.tup #[.s "mark"])] .e,.expr (.mth .append (.v 2) #[.v 5])],.ret (.tup #[.bin .sub (.call 10 #[.v 0,.i 199]) (.i 99),.blt .tuple #[.v 1],.blt .tuple #[.v 2]])]⟩
def yo:Fn:=⟨6,18,AG,#[.asg (.n 6) (.newl .e),.for (.t [7,8,9]) (.seq (.v 1)) #[.asg (.n 10) (.call 10 #[.v 0,.i 3]),.asg (.n 11) (.comp [AC] (.n 0) (.seq (.slc (.v 9) (.cst .non) (.i 1))) (.cmp .eq (.idx (.v 0) (.i 0)) (.s "slice")) (.v 0)),.ite (.and (.cmp .eq (.v 10) (.i 0)) (.cmp .gt (.idx (.v 8) (.i 0)) (.i 0))) #[.expr (.mth .append (.v 6) #[.tup #[.bin .sub (.i 0) (.bin .mul (.i 2) (.v 7)),.bin .add (.tup #[.bin .sub (.idx (.v 8) (.i 0)) (.i 1)]) (.slc (.v 8) (.i 1) (.cst .non)),.blt .rev #[.v 9]]])] #[.ite (.and (.cmp .eq (.v 10) (.i 1)) (.and (.cmp .eq (.blt .len #[.v 11]) (.i 1)) (.call 24 #[.idx (.v 11) (.i 0),.v 4,.v 5,.v 3]))) #[.asg (.t [12,13,14,15]) (.idx (.v 11) (.i 0)),.asg (.n 16) (.bin .add (.tup #[.bin .add (.idx (.v 14) (.i 0)) (.i 1)]) (.slc (.v 14) (.i 1) (.cst .non))),.expr (.mth .append (.v 6) #[.tup #[.bin .sub (.i 0) (.v 7),.v 8,.bin .add (.tup #[.tup #[.v 12,.v 13,.v 14,.v 16]]) (.slc (.v 9) (.i 1) (.cst .non))]]),.asg (.n 17) (.bin .add (.tup #[.bin .add (.idx (.v 8) (.i 0)) (.v 2)]) (.slc (.v 8) (.i 1) (.cst .non))),.expr (.mth .append (.v 6) #[.tup #[.bin .sub (.i 0) (.v 7),.v 17,.bin .add (.tup #[.tup #[.v 12,.v 13,.v 16,.v 15]]) (.slc (.v 9) (.i 1) (.cst .non))]])] #[.expr (.mth .append (.v 6) #[.tup #[.bin .sub (.i 0) (.v 7),.v 8,.v 9]])]]],.ret (.blt .tuple #[.v 6])]⟩
def yb:Fn:=⟨2,3,AG,#[.asg (.n 2) (.itm 1),.ite (.cmp .eq (.call 10 #[.v 0,.i 2]) (.i 1)) #[.asg (.n 2) (.blt .rev #[.v 2])] .e,.ret (.blt .tuple #[.v 2])]⟩
def ya:Fn:=⟨4,5,AD,#[.asg (.n 4) (.bin .add (.bin .add (.bin .mul (.idx (.v 0) (.i 3)) (.v 2)) (.bin .mul (.idx (.v 0) (.i 4)) (.v 3))) (.bin .mul (.idx (.v 0) (.i 5)) (.idx (.v 1) (.i 1)))),.ret (.bin .add (.bin .add (.bin .add (.idx (.v 0) (.i 0)) (.bin .mul (.idx (.v 0) (.i 1)) (.v 2))) (.bin .mul (.idx (.v 0) (.i 2)) (.v 3))) (.bin .mul (.idx (.v 1) (.i 0)) (.v 4)))]⟩
def yz:Fn:=⟨4,4,AD,#[.ret (.cmp .gt (.call 13 #[.idx (.v 0) (.i 3),.v 1,.v 2,.v 3]) (.call 13 #[.idx (.v 0) (.i 2),.v 1,.v 2,.v 3]))]⟩
def yA:Fn:=⟨5,7,AG,#[.asg (.n 5) (.bin .add (.lst #[.i 0]) (.comp [AC,AA 0] (.n 0) (.range1 (.i 5)) (.cst (.bl AD)) (.bin .sub (.call 10 #[.v 1,.i 3]) (.i 1)))),.asg (.n 6) (.call 23 #[.v 5,.v 2,.v 3,.v 4]),.ret (.tup #[.idx (.v 1) (.i 0),.bin .add (.tup #[.bin .sub (.call 10 #[.v 0,.i 8]) (.v 6)]) (.blt .tuple #[.slc (.v 5) (.i 1) (.cst .non)]),.idx (.v 1) (.i 2)])]⟩
def yf:Fn:=⟨7,8,AG,#[.asg (.n 7) (.call 18 #[.v 1,.v 2,.v 3,.v 4,.v 5,.v 6]),.ite (.cmp .ge (.blt .abs #[.v 7]) (.bin .sub (.bin .pow (.i 10) (.i 40)) (.i 1))) #[.ret (.v 1)] .e,.ret (.bin .add (.v 1) (.tup #[.tup #[.bin .sub (.i 0) (.v 7),.tup #[.i 0,.i 0,.i 0,.i 0,.i 0,.i 0],.tup .e]]))]⟩
def yU:Fn:=⟨1,17,AD,#[.asg (.n 1) (.call 7 #[.v 0]),.asg (.n 2) (.call 10 #[.v 1,.i 3]),.asg (.n 3) (.call 10 #[.v 1,.i 3]),.asg (.t [4,5]) (.call 11 #[.v 1,.i 4]),.asg (.n 6) (.call 10 #[.v 1,.i 4]),.asg (.n 7) (.call 10 #[.v 1,.i 4]),.asg (.n 8) (.call 15 #[.v 1,.v 4]),.asg (.n 9) (.call 10 #[.v 1,.i 2]),.asg (.n 10) (.blt .tuple #[.comp [AC,AA 1] (.n 0) (.range1 (.bin .add (.i 1) (.call 10 #[.v 1,.i 4]))) (.cst (.bl AD)) (.call 20 #[.v 1])]),.ite (.cmp .eq (.call 10 #[.v 1,.i 2]) (.i 1)) #[.asg (.n 10) (.blt .tuple #[.comp [AC,AA 1,AA 6,AA 7,AA 4,AA 5] (.n 0) (.seq (.v 10)) (.cst (.bl AD)) (.call 25 #[.v 1,.v 0,.tup #[.v 4,.v 5],.v 2,.v 3])])] .e,.ite (.cmp .eq (.v 2) (.i 1)) #[.asg (.n 10) (.call 26 #[.v 1,.v 10,.tup #[.v 4,.v 5],.v 6,.v 7,.v 8,.v 9])] .e,.ite (.cmp .eq (.v 2) (.i 2)) #[.asg (.n 11) (.call 10 #[.v 1,.bin .add (.blt .len #[.v 10]) (.i 1)]),.asg (.n 10) (.bin .add (.bin .add (.slc (.v 10) (.cst .non) (.v 11)) (.call 21 #[.v 1,.v 10,.v 4,.v 5,.v 6,.v 7])) (.slc (.v 10) (.v 11) (.cst .non)))] .e,.ite (.cmp .eq (.v 3) (.i 1)) #[.asg (.n 11) (.call 10 #[.v 1,.blt .len #[.v 10]]),.asg (.n 10) (.bin .add (.bin .add (.slc (.v 10) (.cst .non) (.v 11)) (.tup #[.bin .add (.tup #[.bin .add (.idx (.idx (.v 10) (.v 11)) (.i 0)) (.i 1)]) (.slc (.idx (.v 10) (.v 11)) (.i 1) (.cst .non))])) (.slc (.v 10) (.bin .add (.v 11) (.i 1)) (.cst .non)))] .e,.ite (.and (.cmp .eq (.v 3) (.i 2)) (.cmp .gt (.lnd (.v 8)) (.i 0))) #[.asg (.n 12) (.idx (.lsk (.v 8)) (.call 10 #[.v 1,.lnd (.v 8)])),.dput (.v 8) (.v 12) (.call 10 #[.v 1,.call 12 #[.v 4]])] .e,.asg (.n 13) (.call 22 #[.v 1,.v 8]),.asg (.n 14) (.call 19 #[.v 10,.tup #[.v 4,.v 5],.v 6,.v 7,.v 8,.v 9]),.for (.n 15) (.seq (.tup #[.v 13,.blt .rev #[.v 13]])) #[.asg (.n 16) (.call 1 #[.v 10,.v 4,.v 5,.v 6,.v 7,.v 15,.v 9]),.ite (.or (.not (.isi (.v 16) [.bool])) (.cmp .ne (.v 16) (.v 14))) #[.nope] .e],.ret (.cmp .is (.call 1 #[.tup .e,.v 4,.v 5,.v 6,.v 7,.v 13,.v 9]) (.cst (.bl AD)))]⟩
end ya
def Tl:List Fn:=[ym,ycA,yk,yn,yD,yv,yq,ydB,yan,yP,yH,yef,yy,yeh,yei,yj,yN,yad,yW,yL,yal,yo,yb,ya,yz,yA,yf,yU]
def T(i:Nat):Option Fn:=Tl[i]?
abbrev y7:Nat:=0
abbrev yer:Nat:=1
abbrev yeG:Nat:=2
abbrev yeI:Nat:=3
abbrev yeK:Nat:=4
abbrev y8:Nat:=5
abbrev yl:Nat:=6
abbrev yeO:Nat:=7
abbrev yet:Nat:=8
abbrev ye2:Nat:=9
abbrev yi:Nat:=10
abbrev yfd:Nat:=11
abbrev yff:Nat:=12
abbrev yfh:Nat:=13
abbrev yfo:Nat:=14
abbrev y9:Nat:=15
abbrev yfs:Nat:=16
abbrev yfv:Nat:=17
abbrev yfx:Nat:=18
abbrev yfN:Nat:=19
abbrev yf4:Nat:=20
abbrev yf8:Nat:=21
abbrev yT:Nat:=22
abbrev yB:Nat:=23
abbrev yga:Nat:=24
abbrev ygi:Nat:=25
abbrev yY:Nat:=26
abbrev yes:Nat:=27
end IC
namespace WK
open PySem L2 IC
def top(i:Nat):Stmt:=E2.main.body.getD i (.Pass ⟨0,0,0,0⟩)
def tbQ:Tb where
 tbl:=[⟨"","__init__","Moment.__init__",inClass (top 3) 0,["self","w","n","i","j","words","marked"],["self","w","n","i","j","words","marked"],ym,.ini 20⟩,⟨"holds","holds","holds",top 4,["sentence","w","n","i","j","cells","mark"],["sentence","w","n","i","j","cells","mark"],ycA,.fn⟩,⟨"holds_at","holds_at","holds_at",top 5,["sentence","moment","worths"],["sentence","moment"],yk,.fn⟩,⟨"place_of","place_of","place_of",top 6,["told","n","i","j"],["told","n","i","j"],yn,.fn⟩,⟨"term_worth","term_worth","term_worth",top 7,["term","moment","f","told","things","exponent","worths","worth","each"],["term","moment"],yD,.fn⟩,⟨"exponent_of","exponent_of","exponent_of",top 8,["told","moment","c","i","j","p","q","r","words"],["told","moment"],yv,.fn⟩,⟨"thing_worth","thing_worth","thing_worth",top 9,["thing","moment","start","end"],["thing","moment"],yq,.fn⟩,⟨"_law_fresh","_law_fresh","_law_fresh",top 11,["_law_script"],["_law_script"],ydB,.fn⟩,⟨"_law_mixed","_law_mixed","_law_mixed",top 12,["_law_seed","_law_primes","_law_number","_law_k","_law_prime","_law_far","_law_square","_law_power"],["_law_seed"],yan,.fn⟩,⟨"_law_fill","_law_fill","_law_fill",top 13,["_law_state","_law_cells","_law_at_here","_law_seed"],["_law_state"],yP,.fn⟩,⟨"_law_take","_law_take","_law_take",top 14,["_law_state","_law_many","_law_turns","_law_digit"],["_law_state","_law_many"],yH,.fn⟩,⟨"_law_sizes","_law_sizes","_law_sizes",top 15,["_law_state","_law_most"],["_law_state","_law_most"],yef,.fn⟩,⟨"_law_two_to","_law_two_to","_law_two_to",top 16,["_law_many","_law_found","_law_k"],["_law_many"],yy,.fn⟩,⟨"_law_at","_law_at","_law_at",top 17,["_law_index_here","_law_i","_law_j","_law_n"],["_law_index_here","_law_i","_law_j","_law_n"],yeh,.fn⟩,⟨"_law_index","_law_index","_law_index",top 18,["_law_state","_law_most","_law_way"],["_law_state","_law_most"],yei,.fn⟩,⟨"_law_small_cells","_law_small_cells","_law_small_cells",top 19,["_law_state","_law_w","_law_cells","_law_wide","_law_letter","_law_at_here","_law_word"],["_law_state","_law_w"],yj,.fn⟩,⟨"_law_stands","_law_stands","_law_stands",top 20,["_law_sentence","_law_w","_law_n","_law_i","_law_j","_law_f","_law_numbers","_law_things","_law_thing"],["_law_sentence","_law_w","_law_n","_law_i","_law_j"],yN,.fn⟩,⟨"_law_slice","_law_slice","_law_slice",top 21,["_law_cells","_law_letter","_law_low","_law_high","_law_wide","_law_worth","_law_at_here"],["_law_cells","_law_letter","_law_low","_law_high","_law_wide"],yad,.fn⟩,⟨"_law_total","_law_total","_law_total",top 22,["_law_sentence","_law_sizes_here","_law_i","_law_j","_law_cells","_law_mark","_law_wide","_law_total_here","_law_f","_law_numbers","_law_things","_law_high","_law_far","_law_thing","_law_low"],["_law_sentence","_law_sizes_here","_law_i","_law_j","_law_cells","_law_mark"],yW,.fn⟩,⟨"_law_holding","_law_holding","_law_holding",top 23,["_law_sentence","_law_sizes_here","_law_i","_law_j","_law_cells","_law_mark"],["_law_sentence","_law_sizes_here","_law_i","_law_j","_law_cells","_law_mark"],yL,.fn⟩,⟨"_law_term","_law_term","_law_term",top 24,["_law_state","_law_numbers","_law_things","_law_turn","_law_low","_law_thing"],["_law_state"],yal,.fn⟩,⟨"_law_contrary","_law_contrary","_law_contrary",top 25,["_law_state","_law_sentence","_law_w","_law_n","_law_i","_law_j","_law_told","_law_f","_law_numbers","_law_things","_law_way","_law_whole","_law_name","_law_letter","_law_low","_law_high","_law_midst","_law_moved"],["_law_state","_law_sentence","_law_w","_law_n","_law_i","_law_j"],yo,.fn⟩,⟨"_law_handed_cells","_law_handed_cells","_law_handed_cells",top 26,["_law_state","_law_cells","_law_told"],["_law_state","_law_cells"],yb,.fn⟩,⟨"_law_exponent","_law_exponent","_law_exponent",top 27,["_law_numbers","_law_sizes_here","_law_i","_law_j","_law_by_words"],["_law_numbers","_law_sizes_here","_law_i","_law_j"],ya,.fn⟩,⟨"_law_filled","_law_filled","_law_filled",top 28,["_law_thing","_law_i","_law_j","_law_n"],["_law_thing","_law_i","_law_j","_law_n"],yz,.fn⟩,⟨"_law_lowered","_law_lowered","_law_lowered",top 29,["_law_state","_law_term_here","_law_sizes_here","_law_i","_law_j","_law_numbers","_law_rest"],["_law_state","_law_term_here","_law_sizes_here","_law_i","_law_j"],yA,.fn⟩,⟨"_law_levelled","_law_levelled","_law_levelled",top 30,["_law_state","_law_told","_law_sizes_here","_law_i","_law_j","_law_cells","_law_mark","_law_total_here"],["_law_state","_law_told","_law_sizes_here","_law_i","_law_j","_law_cells","_law_mark"],yf,.fn⟩,⟨"law","law","law",top 31,["_law_script","_law_state","_law_way","_law_spoil","_law_w","_law_n","_law_i","_law_j","_law_cells","_law_mark","_law_told","_law_at_here","_law_changed","_law_handed","_law_due","_law_given","_law_found"],["_law_script"],yU,.fn⟩]
 al:=[eF "holds" 1,eF "holds_at" 2,eF "place_of" 3,eF "term_worth" 4,eF "exponent_of" 5,eF "thing_worth" 6,eF "_law_fresh" 7,eF "_law_mixed" 8,eF "_law_fill" 9,eF "_law_take" 10,eF "_law_sizes" 11,eF "_law_two_to" 12,eF "_law_at" 13,eF "_law_index" 14,eF "_law_small_cells" 15,eF "_law_stands" 16,eF "_law_slice" 17,eF "_law_total" 18,eF "_law_holding" 19,eF "_law_term" 20,eF "_law_contrary" 21,eF "_law_handed_cells" 22,eF "_law_exponent" 23,eF "_law_filled" 24,eF "_law_lowered" 25,eF "_law_levelled" 26,eF "law" 27,eC "MOST_EXPONENT" (.int (2000)),eC "MOST_PLACE" (.int (100)),eG "Moment" (.cls 20 0)]
 bs:=["abs","all","bool","dict","enumerate","int","isinstance","len","list","range","sum","tuple"]
 ts:=[.bool]
 fl:=[eN 20 "i",eN 20 "j",eN 20 "marked",eN 20 "n",eN 20 "w",eN 20 "words"]
 me:=[]
 kb:=[]
 cn:=[eN 20 "Moment"]
 dd:=[]
 ml:=[]
 xs:=[]
 xc:=[]
 xm:=[]
 qh:=[]
theorem ok_all:tbQ.tbl.all (okT tbQ)=true:=by decide +kernel
theorem T_ok:∀i d,tbQ.tbl[i]?=AA d->T i=AA d.fn:=λi d h=>by
 have e:Tl=tbQ.tbl.map (·.fn):=rfl;rw[T,e,BJ,h];rfl
theorem kb_all:ybn (KbP tbQ) tbQ.kb:=trivial
theorem cn_20:cnm tbQ 20="Moment":=rfl
def chS(c:Nat):Str:=⟨#[c]⟩
def yd8(c:Nat)(i:Int):PV:=.tup [.str (chS c),.int i]
abbrev Mem:=Nat->Int->Int
def upd(M:Mem)(c:Nat)(i v:Int):Mem:=λd j=>if d=c/\j=i then v else M d j
def Rel(kvs:List (PV×PV))(M:Mem):Prop:=∀c i,(look (yd8 c i) kvs).getD (.int 0)=.int (M c i)
abbrev Cel:=Nat×Int
inductive Rw where
 |mark (d:Int)|ask (x:Cel)|set (t:Cel) (d:Int)|move (t x:Cel)|bare (t x:Cel)|twice (t x:Cel)|half (t x:Cel)
 |sum (t x y:Cel)|less (t x y:Cel)|both (t x y:Cel)|any (t x y:Cel)|odd (t x y:Cel)
def zb9(i:Int):shp (.int i)=true:=rfl
section
variable {st:SO}{k:Bool}{a b c d e:PV}{r:List PV}{i j:Int}
theorem ix0:idxV st (.tp k (a::r)) (.int 0)=AA a:=by simp[idxV,yaE,at?,ixI]
theorem ix1:idxV st (.tp k (a::b::r)) (.int 1)=AA b:=by
 have:(1:Int)<(r.length:Int)+1+1:=by lia
 simp[idxV,yaE,at?,ixI,this]
theorem ix2:idxV st (.tp k (a::b::c::r)) (.int 2)=AA c:=by
 have:(2:Int)<(r.length:Int)+1+1+1:=by lia
 simp[idxV,yaE,at?,ixI,this]
theorem ix3:idxV st (.tp k (a::b::c::d::r)) (.int 3)=AA d:=by
 have:(3:Int)<(r.length:Int)+1+1+1+1:=by lia
 simp[idxV,yaE,at?,ixI,this]
theorem ix4:idxV st (.tp k (a::b::c::d::e::r)) (.int 4)=AA e:=by
 have:(4:Int)<(r.length:Int)+1+1+1+1+1:=by lia
 simp[idxV,yaE,at?,ixI,this]
theorem b_add:yr .add (.int i) (.int j)=AA (.int (i+j)):=rfl
theorem b_sub:yr .sub (.int i) (.int j)=AA (.int (i-j)):=rfl
def zhL(h:i.natAbs<18446744073709551616 \/ j.natAbs<18446744073709551616):yr .mul (.int i) (.int j)=AA (.int (i*j)):=by
 have:yap i j=true:=by simpa [yap] using h
 simp[yr,binI,this]
def zaH(h:i.natAbs<18446744073709551616):yr .mul (.int i) (.int j)=AA (.int (i*j)):=zhL (.inl h)
def zk(h:j.natAbs<18446744073709551616):yr .mul (.int i) (.int j)=AA (.int (i*j)):=zhL (.inr h)
theorem b_mul2:yr .mul (.int 2) (.int j)=AA (.int (2*j)):=zhL (.inl ⋯)
def zic(h:0<j)(h2:j<18446744073709551616*18446744073709551616):yr .fdiv (.int i) (.int j)=AA (.int (i/j)):=by
 have h3:j<10000000000000000000000000000000000000000000000000000000000000000000000:=by lia
 simp[yr,binI,h,h3]
theorem b_div2:yr .fdiv (.int i) (.int 2)=AA (.int (i/2)):=rfl
def zjg(h:0<j):yr .mod (.int i) (.int j)=AA (.int (i%j)):=if_pos h
theorem toR_some{v:PV}:toR (AA v) st=.ok v st:=rfl
def zhK:peq (.int i) (.int j)=(i==j):=rfl
theorem c_ne:yw .ne (.int i) (.int j)=AA (.bl (!(i==j))):=rfl
theorem c_eq:yw .eq (.int i) (.int j)=AA (.bl (i==j)):=rfl
theorem c_lt:yw .lt (.int i) (.int j)=AA (.bl (decide (i<j))):=rfl
theorem c_le:yw .le (.int i) (.int j)=AA (.bl (decide (i<=j))):=rfl
theorem c_gt:yw .gt (.int i) (.int j)=AA (.bl (decide (j<i))):=rfl
theorem c_ge:yw .ge (.int i) (.int j)=AA (.bl (decide (j<=i))):=rfl
theorem t_bl{b:Bool}:yaC st (.bl b)=AA b:=rfl
theorem on_t{f:Bool->Fl}{b:Bool}:onF (AA b) f=f b:=rfl
theorem ono{α:Type}{f:Bool->R α}{b:Bool}:onO (AA b) f=f b:=rfl
def zbl{ρ:IC.Env}:stO ρ (AA st)=.nx ρ st:=rfl
theorem nxO_some{ρ:IC.Env}:nxO (AA ρ) st=.nx ρ st:=rfl
theorem fl_ok{α:Type}{a:α}{ρ:IC.Env}{k:α->SO->Fl}:(R.ok a st).fl ρ k=k a st:=rfl
theorem bd_ok{α β:Type}{a:α}{k:α->SO->R β}:(R.ok a st).bind k=k a st:=rfl
theorem th_nx{ρ:IC.Env}{k:IC.Env->SO->Fl}:yaq (.nx ρ st) k=k ρ st:=rfl
theorem th_rt{v:PV}{k:IC.Env->SO->Fl}:yaq (.rt v st) k=.rt v st:=rfl
theorem fl_exc{α:Type}{c:Nat}{ρ:IC.Env}{k:α->SO->Fl}:(R.exc c st:R α).fl ρ k=.exc c ρ st:=rfl
theorem bd_exc{α β:Type}{c:Nat}{k:α->SO->R β}:(R.exc c st:R α).bind k=.exc c st:=rfl
theorem th_exc{c:Nat}{ρ:IC.Env}{k:IC.Env->SO->Fl}:yaq (.exc c ρ st) k=.exc c ρ st:=rfl
theorem noLocs_ints:∀(l:List Int),nLs (l.map PV.int)=AD
 |[]=>rfl
 |_::l=>by simp[nLs,nL,noLocs_ints l]
theorem bT_n{i:Nat}{v:PV}{ρ:IC.Env}:yC (.n i) v ρ=AA (ρ.set i (AA v)):=rfl
end
def zx(ys:List PV)(h:ys.length<=1000000)(st:SO):ybD (.ok ys st)=.ok (.lst ys) st:=by simp[ybD,h]
def zcq(n:Nat)(h:n<1000):ybJ (.int (n:Int))=AA (yh n 0 1):=by
 simp[ybJ];lia
def zaK{z:Int}(h:0<=z):∃n:Nat,z=n:=⟨z.toNat,by lia⟩
def ydK(st:SO)(f:Fl):R PV:=
 match f with
 |.rt v _=>if nL v then .ok v st else .bad
 |.nx _ _=>.ok .non st
 |.exc c _ _=>.exc c st
 |_=>.bad
def zu{T:Nat->Option IC.Fn}{k f:Nat}{fn:IC.Fn}{args:List PV}{st:SO}(hT:T f=AA fn)(hp:fn.pure=AD)(hl:args.length=fn.np)(hn:nLs args=AD):
  yd T (k+1) f args st=ydK st (exs (yd T k) (args.map AA++Ay (fn.ns-fn.np) AC) [] fn.body):=by
 rw[yd,hT];dsimp only;rw[if_pos hl,if_pos hp,if_pos hn];rfl
def outI(f:Fl):R PV:=
 match f with
 |.rt v st1=>.ok v st1
 |.nx _ st1=>.ok .non st1
 |.exc c _ st1=>.exc c st1
 |_=>.bad
def ze{T:Nat->Option IC.Fn}{k f:Nat}{fn:IC.Fn}{args:List PV}{st:SO}(hT:T f=AA fn)(hp:fn.pure=AG)(hl:args.length=fn.np):
  yd T (k+1) f args st=outI (exs (yd T k) (args.map AA++Ay (fn.ns-fn.np) AC) st fn.body):=by
 rw[yd,hT];dsimp only;rw[if_pos hl,hp,if_neg (by simp)];rfl
def zm{st:SO}{v:PV}:outI (.rt v st)=.ok v st:=rfl
def zdH{st s:SO}{b:Bool}:ydK st (.rt (.bl b) s)=.ok (.bl b) st:=rfl
def za4{st s:SO}{b:Int}:ydK st (.rt (.int b) s)=.ok (.int b) st:=rfl
def yaj:PV:=.tup [.int 2147483647,.int 2147483629,.int 2147483587,.int 2147483579,.int 2147483563]
def ycu:Css:=match yan.body with
 |.cons _ (.cons _ (.cons (.for _ _ b) _))=>b
 |_=>.nil
def zau{c:Cl}{s num g p:Int}{i:Nat}{u5 u6 u7:Option PV}(hg:∀st,idxV st (.tup [.int 11,.int 101,.int 1009,.int 10007,.int 100003]) (.int i)=AA (.int g))(hi:i<5)(hp:0<p)(hp2:p<18446744073709551616):
  ∃num' v5 v6 v7,exs c [AA (.int s),AA yaj,AA (.int num),AA (.int i),AA (.int p),u5,u6,u7] [] ycu=.nx [AA (.int s),AA yaj,AA (.int num'),AA (.int i),AA (.int p),v5,v6,v7] []:=by
 have h1:∀z:Int,yr .mul (.int z) (.int (48271+2*(i:Int)))=AA (.int (z*(48271+2*(i:Int)))):=λz=>zk ∅;have h2:∀z y:Int,yr .mul (.int z) (.int (y%p))=AA (.int (z*(y%p))):=λz y=>zk (by
  have a:=FK y (show p≠0 by lia);have b:=EK y hp;lia)
 have h3:∀z:Int,yr .mul (.int z) (.int p)=AA (.int (z*p)):=λz=>zk ∅;erw[ycu,yan,AO,Ak,FB,Nat.reduceAdd,if_true,xs_cons,xs_nil,x_asg,IC.ve1,IC.ve2,IC.ve3,IC.ve11,IC.ve16,evs,A7,A6,bd_ok,fl_ok,toR_some,bT_n,nxO_some,th_nx,BG,BH,sizeMax,Nat.reduceLeDiff,b_add,b_mul2,hg,h1,h2,h3,zjg hp];exact⟨_,_,_,_,rfl⟩
def zfk{c:Cl}{s num:Int}{u5 u6 u7:Option PV}(i:Nat)(p:Int)(h:(i,p)∈[(0,(2147483647:Int)),(1,2147483629),(2,2147483587),(3,2147483579),(4,2147483563)]):
  ∃num' v5 v6 v7,exs c [AA (.int s),AA yaj,AA (.int num),AA (.int i),AA (.int p),u5,u6,u7] [] ycu=.nx [AA (.int s),AA yaj,AA (.int num'),AA (.int i),AA (.int p),v5,v6,v7] []:=by
 erw[Ac,Prod.mk.injEq,D5,or_false]at h;rcases h with⟨rfl,rfl⟩|⟨rfl,rfl⟩|⟨rfl,rfl⟩|⟨rfl,rfl⟩|⟨rfl,rfl⟩
 .exact zau (λ_=>rfl) ⋯ ⋯ ⋯
 .exact zau (λ_=>rfl) ⋯ ⋯ ⋯
 .exact zau (λ_=>rfl) ⋯ ⋯ ⋯
 .exact zau (λ_=>rfl) ⋯ ⋯ ⋯
 .exact zau (λ_=>rfl) ⋯ ⋯ ⋯
def ydc:List PV:=[.tup [.int 0,.int 2147483647],.tup [.int 1,.int 2147483629],.tup [.int 2,.int 2147483587],.tup [.int 3,.int 2147483579],.tup [.int 4,.int 2147483563]]
theorem mixed(k:Nat)(s:Int)(st:SO):∃num,yd T (k+1) yet [.int s] st=.ok (.int num) st:=by
 let⟨ρ',st',h,num,a,b,c,d,e,e1,e2⟩:=zak (call:=yd T k) (t:=.t [3,4]) (b:=ycu) (λ_ ρ st=>∃num a b c d e,ρ=[AA (.int s),AA yaj,AA (.int num),a,b,c,d,e]/\st=[]) ydc 0 [AA (.int s),AA yaj,AA (.int 0),AC,AC,AC,AC,AC] [] ⟨_,_,_,_,_,_,rfl,rfl⟩ (by
  rintro j x ρ st hx ⟨num,a,b,c,d,e,rfl,rfl⟩
  have hx:=A5 hx;have hx:∃i p,x=.tup [.int ((i:Nat):Int),.int p]/\(i,p)∈[(0,(2147483647:Int)),(1,2147483629),(2,2147483587),(3,2147483579),(4,2147483563)]:=by
   erw[ydc,Ac,D5,or_false]at hx;rcases hx with rfl|rfl|rfl|rfl|rfl
   .exact⟨0,_,rfl,by simp⟩
   .exact⟨1,_,rfl,by simp⟩
   .exact⟨2,_,rfl,by simp⟩
   .exact⟨3,_,rfl,by simp⟩
   .exact⟨4,_,rfl,by simp⟩
  let⟨i,p,rfl,hm⟩:=hx;let⟨num',v5,v6,v7,hh⟩:=zfk (c:=yd T k) (s:=s) (num:=num) (u5:=c) (u6:=d) (u7:=e) i p hm;exact⟨_,_,_,rfl,hh,_,_,_,_,_,_,rfl,rfl⟩)
 subst e1 e2;refine⟨num,?_⟩;rw[yd];have hb:yan.body=.cons (.asg (.n 1) (.tup (.cons (.cst (.int 2147483647)) (.cons (.cst (.int 2147483629)) (.cons (.cst (.int 2147483587)) (.cons (.cst (.int 2147483579)) (.cons (.cst (.int 2147483563)) .nil))))))) (.cons (.asg (.n 2) (.cst (.int 0))) (.cons (.for (.t [3,4]) (.enum (.var 1)) ycu) (.cons (.ret (.var 2)) .nil))):=rfl;have hT:T yet=AA ⟨1,8,AD,yan.body⟩:=rfl;have hp:PV.tup [.int 2147483647,.int 2147483629,.int 2147483587,.int 2147483579,.int 2147483563]=yaj:=rfl;rw[hT,hb];have h5:ev (yd T k) [AA (.int s),AC,AC,AC,AC,AC,AC,AC] [] (.tup (.cons (.cst (.int 2147483647)) (.cons (.cst (.int 2147483629)) (.cons (.cst (.int 2147483587)) (.cons (.cst (.int 2147483579)) (.cons (.cst (.int 2147483563)) .nil))))))=.ok yaj []:=by
  simp[IC.ve1,IC.ve11,evs,R.bind,sizeMax,yaj]
 have he:evi (yd T k) [AA (.int s),AA yaj,AA (.int 0),AC,AC,AC,AC,AC] [] (.enum (.var 1))=.ok ydc []:=by
  simp[evi,IC.ve2,R.bind,yaj,yZ,ydc]
 erw[AO,Ak,if_true,nLs,nL,E7,AM,BA,Da,Ay,Cq,CD,xs_cons,xs_nil,x_asg,x_for,x_ret,h5,R.fl,yC,nxO,yaq,BG,BH,IC.ve1,he,h,IC.ve2,A7,A6]
set_option backward.eqns.nonrecursive true
local macro_rules | `(tactic| simp! [$xs,*])=>do
 let l<-("IC.xs_cons IC.xs_nil IC.x_asg IC.x_ite IC.x_ret IC.x_expr IC.x_for IC.x_six IC.evs IC.evi IC.ve1 IC.ve2 IC.ve3 IC.ve4 IC.ve5 IC.ve6 IC.ve7 IC.ve8 IC.ve9 IC.ve10 IC.ve11 IC.ve12 IC.ve13 IC.ve15 IC.ve16 IC.ve17 IC.ve18 IC.ve19 IC.ve20 IC.ve21 IC.ve24 IC.v_comp List.getElem?_cons_zero List.getElem?_cons_succ WK.bd_ok WK.fl_ok WK.bd_exc WK.fl_exc WK.toR_some IC.toL WK.bT_n WK.nxO_some WK.th_nx WK.th_rt WK.th_exc List.set_cons_zero List.set_cons_succ WK.on_t WK.t_bl WK.ono IC.onBl cond_true cond_false List.length_cons List.length_nil Nat.zero_add Nat.reduceAdd Nat.reduceSub Nat.reduceLeDiff if_true IC.nL IC.nLs WK.noLocs_ints Bool.and_self Bool.not_true Bool.not_false List.map_cons List.map_nil List.replicate List.cons_append List.nil_append List.append_nil Option.bind_none Option.bind_some Option.join_some WK.b_add WK.b_sub WK.b_mul2 WK.b_div2 WK.c_lt WK.c_le WK.c_gt WK.c_ge WK.c_eq WK.c_ne IC.PV.tup IC.sizeMax".splitOn " ").toArray.mapM λs=>`(Lean.Parser.Tactic.simpLemma| $(Lean.mkIdent s.toName):term)
 `(tactic| simp only[$l,*,$xs,*])
theorem rdS{st:SO}{n:Nat}{o x:Ob}(h:st[n]?=AA o):(st.set n x)[n]?=AA x:=by
 have:n<st.length:=by
  rcases G4 n st.length with h1|h1
  .exact h1
  .rw[BQ h1]at h;cases h
 rw[BM this]
def ziZ(ns:List Int)(a:Int)(h:ns≠[]):∃v,yaE (ns.map PV.int) (.int (a%(ns.length:Int)))=AA (.int v):=by
 have h0:0<ns.length:=Fi.2 h;have h1:=FK a (show (ns.length:Int)≠0 by lia);have h2:=EK a (show (0:Int)<ns.length by lia);have h3:(a%(ns.length:Int)).toNat<ns.length:=by lia
 refine⟨ns[(a%(ns.length:Int)).toNat],?_⟩;simp[yaE,at?,ixI,h1,h2,h3]
def flT:Css:=match yP.body with
 |.cons _ (.cons _ (.cons _ t))=>t
 |x=>x
abbrev flS(l:PV)(a p:Int)(f:Bool):Ob:=.lst [l,.int a,.int p,.bl f]
def zkM{st:SO}{n:Nat}{l:PV}{a p v:Int}{f:Bool}(h:st[n]?=AA (flS l a p f)):ybd st (.loc n) (.int 1) (.int v)=AA (st.set n (flS l v p f)):=by erw[ybd,h];rfl
def zkH{st:SO}{n:Nat}{l:PV}{a p v:Int}{f:Bool}(h:st[n]?=AA (flS l a p f)):ybd st (.loc n) (.int 2) (.int v)=AA (st.set n (flS l a v f)):=by erw[ybd,h];rfl
def zkE{st:SO}{n:Nat}{l:PV}{a p:Int}{f g:Bool}(h:st[n]?=AA (flS l a p f)):ybd st (.loc n) (.int 3) (.bl g)=AA (st.set n (flS l a p g)):=by erw[ybd,h];rfl
def zlv{st:SO}{n:Nat}{l:PV}{a p:Int}{f:Bool}(h:st[n]?=AA (flS l a p f)):idxV st (.loc n) (.int 0)=AA l:=by erw[idxV,h];rfl
def zlw{st:SO}{n:Nat}{l:PV}{a p:Int}{f:Bool}(h:st[n]?=AA (flS l a p f)):idxV st (.loc n) (.int 1)=AA (.int a):=by erw[idxV,h];rfl
def zlx{st:SO}{n:Nat}{l:PV}{a p:Int}{f:Bool}(h:st[n]?=AA (flS l a p f)):idxV st (.loc n) (.int 3)=AA (.bl f):=by erw[idxV,h];rfl
theorem p18:yr .pow (.int 10) (.int 18)=AA (.int 1000000000000000000):=by with_unfolding_all rfl
def zci(k n:Nat){l:PV}{m a v p q:Int}{f g:Bool}{st:SO}(h:st[n]?=AA (flS l a p f))(hl:∀st,yaa .len st [l]=AA (.int m))(hg:(decide (a ≥ m) || decide (v<1000000000000000000))=g)
  (h1:g=AD->yd T (k+1) yet [.int v] (st.set n (flS l (a+1) p AD))=.ok (.int q) (st.set n (flS l (a+1) p AD))) (h2:g=AG->q=v-1000000000000000000):
  exs (yd T (k+1)) [AA (.loc n),AA l,AA (.int a),AA (.int v)] st flT=.nx [AA (.loc n),AA l,AA (.int a),AA (.int v)] (st.set n (flS l (a+1) q g)):=by
 have s1:=zkM h (v:=a+1);have r1:=rdS h (x:=flS l (a+1) p f);have s2:=zkE r1 (g:=g);have r2:=rdS r1 (x:=flS l (a+1) p g);have s3:=zkH r2 (v:=q);have i3:=zlx r2;rw[FD]at s2 s3 i3 r2;rw[FD]at s3
 have hb:flT=(match flT with
  |.cons a (.cons (.six x y _) r)=>.cons a (.cons (.six x y (.or (.cmp .ge (.var 2) (.blt .len (.cons (.var 1) .nil))) (.cmp .lt (.var 3) (.bin .pow (.cst (.int 10)) (.cst (.int 18)))))) r)
  |x=>x):=rfl
 have hor:∀st,ev (yd T (k+1)) [AA (.loc n),AA l,AA (.int a),AA (.int v)] st (.or (.cmp .ge (.var 2) (.blt .len (.cons (.var 1) .nil))) (.cmp .lt (.var 3) (.bin .pow (.cst (.int 10)) (.cst (.int 18)))))=.ok (.bl g) st:=λst=>by
  cases c:decide (a ≥ m)
  .rw[c,HV]at hg;simp! [hl,c,p18,hg]
  .rw[c,Hg]at hg;subst hg;simp! [hl,c]
 generalize hE:(Ce.or (.cmp .ge (.var 2) (.blt .len (.cons (.var 1) .nil))) (.cmp .lt (.var 3) (.bin .pow (.cst (.int 10)) (.cst (.int 18)))))=E at *
 cases g with
 |true=>
  have h1:=h1 rfl;rw[hb];simp! [flT,yP,stO,s1,hor,s2,i3,h1,s3]
 |false=>
  have h2:=h2 rfl;subst h2;rw[hb];simp! [flT,yP,stO,s1,hor,s2,i3,p18,s3]
theorem fill(k n:Nat)(ns:List Int)(hns:ns.length<=1000)(a p:Int)(ha:0<=a)(f:Bool)(st:SO)(h:st[n]?=AA (.lst [.lst (ns.map .int),.int a,.int p,.bl f])):
  ∃p' f',yd T (k+2) ye2 [.loc n] st=.ok .non (st.set n (.lst [.lst (ns.map .int),.int (a+1),.int p',.bl f'])):=by
 have hT:T ye2=AA ⟨1,4,AG,yP.body⟩:=rfl;have hl:∀st,yaa .len st [.lst (ns.map .int)]=AA (.int (ns.length:Int)):=λst=>by
  show AA (PV.int (((ns.map PV.int).length:Nat):Int))=_;simp
 have i0:=zlv h;have i1:=zlw h;have bt:∀(a b:PV) (ρ:IC.Env),yC (.t [1,2]) (.tp AG [a,b]) ρ=AA ((ρ.set 1 (AA a)).set 2 (AA b)):=λ_ _ _=>rfl
 have hb:yP.body=(match yP.body with
  |.cons a (.cons b (.cons c _))=>.cons a (.cons b (.cons c flT))
  |x=>x):=rfl
 have m31:yr .mul (.int 31) (.int a)=AA (.int (31*a)):=zaH ⋯;obtain⟨v,hv⟩:∃v,exs (yd T (k+1)) [AA (.loc n),AC,AC,AC] st yP.body=exs (yd T (k+1)) [AA (.loc n),AA (.lst (ns.map .int)),AA (.int a),AA (.int v)] st flT:=by
  by_cases hn:ns=[]
  .have c0:decide ((ns.length:Int) > 0)=false:=by subst hn;rfl
   refine⟨31*a+7,?_⟩;rw[hb];generalize flT=F,ns.map PV.int=L at *;simp! [yP,i0,i1,bt,m31,hl,c0]
  .have h0:0<ns.length:=Fi.2 hn;let⟨v,hv⟩:=ziZ ns a hn;have c0:decide ((ns.length:Int) > 0)=true:=decide_eq_true ∅;have d1:=zic (i:=a) (j:=(ns.length:Int)) ∅ ∅;have d2:=zjg (i:=a) (j:=(ns.length:Int)) ∅;have m1:yr .mul (.int 104729) (.int (a/(ns.length:Int)))=AA (.int (104729*(a/(ns.length:Int)))):=zaH ⋯;have ix:∀st,idxV st (.lst (ns.map .int)) (.int (a%(ns.length:Int)))=AA (.int v):=λ_=>hv;refine⟨104729*(a/(ns.length:Int))+v,?_⟩;rw[hb];generalize flT=F,ns.map PV.int=L at *;simp! [yP,i0,i1,bt,m31,hl,c0,d1,d2,m1,ix]
 cases c:(decide (a ≥ (ns.length:Int)) || decide (v<1000000000000000000))with
 |true=>
  let⟨q,hq⟩:=mixed k v (st.set n (flS (.lst (ns.map .int)) (a+1) p AD));refine⟨q,AD,?_⟩;rw[ze hT rfl rfl];have e:=zci k n h hl c (λ_=>hq) (λh=>nomatch h);rw[<-hv]at e;exact(congrArg _ e).trans rfl
 |false=>
  refine⟨v-1000000000000000000,AG,?_⟩;rw[ze hT rfl rfl];have e:=zci k n h hl c (λh=>nomatch h) (λ_=>rfl);rw[<-hv]at e;exact(congrArg _ e).trans rfl
def ya6:Ce:=match yH.body with
 |.cons _ (.cons (.while c _) _)=>c
 |_=>.nope
def ybl:Css:=match yH.body with
 |.cons _ (.cons (.while _ b) _)=>b
 |_=>.nil
def zdC{c:Cl}{n:Nat}{ns:List Int}{a p m t:Int}{f:Bool}{u:Option PV}{st:SO}(h:st[n]?=AA (.lst [.lst (ns.map .int),.int a,.int p,.bl f])):
  ∃B,ev c [AA (.loc n),AA (.int m),AA (.int t),u] st ya6=.ok (.bl B) st/\(B=AD->t<64):=by
 by_cases h1:t<64
 .by_cases h2:p=0
  .refine⟨AD,?_,λ_=>h1⟩;erw[ya6,yH,IC.ve1,IC.ve2,IC.ve3,IC.ve6,IC.ve7,IC.ve8,IC.ve16,R.bind,A7,A6,h,idxV,yaE,at?,ixI,yr,binI,yap,toR,yw,ybq,onBl];simp[h1,h2,zb9,zhK]
  .have h2:(p==0)=false:=by simp[h2]
   cases f
   .refine⟨AG,?_,λ_=>h1⟩;erw[ya6,yH,IC.ve1,IC.ve2,IC.ve3,IC.ve6,IC.ve7,IC.ve8,IC.ve16,R.bind,A7,A6,h,idxV,yaE,at?,ixI,yr,binI,yap,toR,yw,ybq,onBl];simp[h,h1,h2,zb9,zhK]
   .refine⟨decide (p<m*4096),?_,λ_=>h1⟩;erw[ya6,yH,IC.ve1,IC.ve2,IC.ve3,IC.ve6,IC.ve7,IC.ve8,IC.ve16,R.bind,A7,A6,h,idxV,yaE,at?,ixI,yr,binI,yap,toR,yw,ybq,onBl];simp[h,h1,h2,zb9,zhK]
 .refine⟨AG,?_,λz=>by cases z⟩;erw[ya6,yH,IC.ve1,IC.ve2,IC.ve3,IC.ve6,IC.ve7,IC.ve8,IC.ve16,R.bind,A7,A6,h,idxV,yaE,at?,ixI,yr,binI,yap,toR,yw,ybq,onBl];simp[h1]
def zd4(k:Nat){n:Nat}{ns:List Int}(hns:ns.length<=1000){a p m t:Int}(ha:0<=a){f:Bool}{u:Option PV}{st:SO}(h:st[n]?=AA (.lst [.lst (ns.map .int),.int a,.int p,.bl f])):
  ∃p' f',exs (yd T (k+2)) [AA (.loc n),AA (.int m),AA (.int t),u] st ybl=.nx [AA (.loc n),AA (.int m),AA (.int (t+1)),u] (st.set n (.lst [.lst (ns.map .int),.int (a+1),.int p',.bl f'])):=by
 let⟨q,g,hq⟩:=fill k n ns hns a p ha f st h;have hm:(1+q%4093).natAbs<18446744073709551616:=by lia
 have hau:∀st,ex (yd T (k+2)) [AA (.loc n),AA (.int m),AA (.int t),u] st (.aug 2 .add (.cst (.int 1)))=.nx [AA (.loc n),AA (.int m),AA (.int (t+1)),u] st:=λst=>by
  rw[zh0 (x:=.int t) rfl];simp[IC.ve1,R.fl,yaW,yr,binI,nxO]
 cases g
 .refine⟨q,AG,?_⟩;erw[ybl,yH,xs_cons,xs_nil,x_expr,x_ite,x_six,hau,yaq,nxO,IC.ve1,IC.ve2,IC.ve3,IC.ve6,IC.ve8,IC.ve16,IC.ve18,evs,R.fl,R.bind,hq,yaW,yr,binI,BD,BG,BH,A7,A6,rdS h,idxV,yaE,at?,ixI,yap,toR,yw,ybq,onBl,onF,yaC];simp[rdS h]
 .by_cases hl:q<m*4096
  .refine⟨q+m*4096*(1+q%4093),AD,?_⟩;erw[ybl,yH,xs_cons,xs_nil,x_expr,x_ite,x_six,hau,yaq,nxO,IC.ve1,IC.ve2,IC.ve3,IC.ve6,IC.ve8,IC.ve16,IC.ve18,evs,R.fl,R.bind,hq,yaW,yr,binI,BD,BG,BH,A7,A6,rdS h,idxV,yaE,at?,ixI,yap,toR,yw,ybq,onBl,onF,yaC,stO,ybd];simp[rdS h,hl,hm]
  .refine⟨q,AD,?_⟩;erw[ybl,yH,xs_cons,xs_nil,x_expr,x_ite,x_six,hau,yaq,nxO,IC.ve1,IC.ve2,IC.ve3,IC.ve6,IC.ve8,IC.ve16,IC.ve18,evs,R.fl,R.bind,hq,yaW,yr,binI,BD,BG,BH,A7,A6,rdS h,idxV,yaE,at?,ixI,yap,toR,yw,ybq,onBl,onF,yaC];simp[rdS h,hl]
def zbL(k:Nat){n:Nat}{ns:List Int}(hns:ns.length<=1000){m:Int}{u:Option PV}:∀(r N:Nat) (t a p:Int) (f:Bool) (st:SO),r<=N->64-t<=r->0<=a->st[n]?=AA (.lst [.lst (ns.map .int),.int a,.int p,.bl f]) ->
  ∃t' a' p' f',0<=a'/\yaG (yd T (k+2)) ya6 ybl (N+1) [AA (.loc n),AA (.int m),AA (.int t),u] st=.nx [AA (.loc n),AA (.int m),AA (.int t'),u] (st.set n (.lst [.lst (ns.map .int),.int a',.int p',.bl f']))
 |r,N,t,a,p,f,st,hN,ht,ha,h=>by
  let⟨B,hB,hb⟩:=zdC (c:=yd T (k+2)) (m:=m) (t:=t) (u:=u) h;have hs:st.set n (.lst [.lst (ns.map .int),.int a,.int p,.bl f])=st:=by
   refine EZ λi=>?_;rw[EY];split
   .rename_i e;subst e;split
    .exact h.symm
    .rename_i z;rw[BQ ∅]at h
     cases h
   .rfl
  cases B with
  |false=>exact⟨t,a,p,f,ha,by rw[zb1 hB rfl,hs]⟩
  |true=>
   have h64:=hb rfl
   match r,N with
   |0,_=>exact absurd ht ∅
   |r+1,N+1=>
    let⟨p1,f1,hx⟩:=zd4 k hns (m:=m) (t:=t) ha (u:=u) h;let⟨t',a',p',f',h0,h2⟩:=zbL k hns (m:=m) (u:=u) r N (t+1) (a+1) p1 f1 _ ∅ ∅ ∅ (rdS h);refine⟨t',a',p',f',h0,?_⟩;rw[zdm hB rfl hx,h2,FD]
theorem take(k n:Nat)(ns:List Int)(hns:ns.length<=1000)(a p m:Int)(ha:0<=a)(hm:0<m)(hm2:m<10000000000000000000000000000000000000000000000000000000000000000000000)(f:Bool)(st:SO)(h:st[n]?=AA (.lst [.lst (ns.map .int),.int a,.int p,.bl f])):
  ∃d a' p' f',0<=d/\d<m/\0<=a'/\yd T (k+3) yi [.loc n,.int m] st=.ok (.int d) (st.set n (.lst [.lst (ns.map .int),.int a',.int p',.bl f'])):=by
 let⟨t',a',p',f',h0,h2⟩:=zbL k hns (m:=m) (u:=AC) 64 99999 0 a p f st ∅ ∅ ha h;refine⟨p'%m,a',p'/m,f',FK _ ∅,EK _ hm,h0,?_⟩;have hb:yH.body=.cons (.asg (.n 2) (.cst (.int 0))) (.cons (.while ya6 ybl) (.cons (.asg (.n 3) (.bin .mod (.idx (.var 0) (.cst (.int 2))) (.var 1))) (.cons (.six (.var 0) (.cst (.int 2)) (.bin .fdiv (.idx (.var 0) (.cst (.int 2))) (.var 1))) (.cons (.ret (.var 3)) .nil)))):=rfl;have hT:T yi=AA ⟨2,4,AG,yH.body⟩:=rfl;rw[yd,hT,hb];erw[AO,Ak,if_true,AM,BA,Da,Ay,Cq,CD,xs_cons,xs_nil,x_asg,zgH,x_six,x_ret,yaq,nxO,stO,IC.ve1,IC.ve2,IC.ve3,IC.ve16,R.fl,R.bind,yC,BG,BH,A7,A6,h2,rdS h,idxV,yaE,at?,ixI,yr,binI,hm,hm2,and_self,toR,ybd];simp[rdS h,hm,hm2]
def Drw(ns:List Int)(n:Nat)(st:SO):Prop:=∃a p f,0<=a/\st[n]?=AA (.lst [.lst (ns.map .int),.int a,.int p,.bl f])
def Onl(ns:List Int)(n:Nat)(st st':SO):Prop:=∃a p f,0<=a/\st'=st.set n (.lst [.lst (ns.map .int),.int a,.int p,.bl f])
theorem Onl.drw{ns:List Int}{n:Nat}{st st':SO}(h:Drw ns n st)(o:Onl ns n st st'):Drw ns n st':=by
 let⟨a,p,f,ha,h⟩:=h;let⟨b,q,g,hb,rfl⟩:=o;exact⟨b,q,g,hb,rdS h⟩
theorem Onl.trans{ns:List Int}{n:Nat}{st st1 st2:SO}(o:Onl ns n st st1)(o2:Onl ns n st1 st2):Onl ns n st st2:=by
 let⟨b,q,g,hb,rfl⟩:=o;let⟨c,r,j,hc,rfl⟩:=o2;exact⟨c,r,j,hc,by rw[FD]⟩
def zkR(k:Nat){n:Nat}{ns:List Int}(hns:ns.length<=1000){m:Int}(hm:0<m)(hm2:m<10000000000000000000000000000000000000000000000000000000000000000000000){st:SO}(h:Drw ns n st):
  ∃d st',0<=d/\d<m/\Onl ns n st st'/\yd T (k+3) yi [.loc n,.int m] st=.ok (.int d) st':=by
 let⟨a,p,f,ha,h⟩:=h;let⟨d,a',p',f',h1,h2,h3,h4⟩:=take k n ns hns a p m ha hm hm2 f st h;exact⟨d,_,h1,h2,⟨_,_,_,h3,rfl⟩,h4⟩
theorem sizes(k:Nat){n:Nat}{ns:List Int}(hns:ns.length<=1000){m:Int}(hm:0<m)(hm2:m<=100){st:SO}(h:Drw ns n st):
  ∃w z st',4<=w/\w<=16/\1<=z/\z<=m/\Onl ns n st st'/\yd T (k+4) yfd [.loc n,.int m] st=.ok (.tup [.int w,.int z]) st':=by
 let⟨d,s1,d1,d2,o1,e1⟩:=zkR k hns (m:=13) ∅ ∅ h;let⟨e,s2,d3,d4,o2,e2⟩:=zkR k hns (m:=m) hm ∅ (o1.drw h);refine⟨4+d,1+e,s2,by lia,by lia,by lia,by lia,o1.trans o2,?_⟩;have hT:T yfd=AA yef:=rfl;rw[yd,hT];erw[yef,AO,Ak,if_true,AM,BA,Da,Ay,Cq,CD,xs_cons,xs_nil,x_ret,yaq,IC.ve1,IC.ve2,IC.ve3,IC.ve11,IC.ve18,evs,R.fl,R.bind,A7,A6,e1,e2,yr,binI,toR];simp[sizeMax]
theorem fresh(k:Nat)(ns:List Int)(h:ns.length<=63)(st:SO):∃v,yd T (k+1) yeO [.scr (ns.map .int)] st=.ok (.loc st.length) (st++[v])/\v=.lst [.lst (ns.map .int),.int 0,.int 0,.bl AG]:=by
 have hT:T yeO=AA ydB:=rfl;refine⟨_,?_,rfl⟩;rw[yd,hT];erw[ydB,AO,Ak,if_true,AM,BA,Da,Ay,Cq,CD,xs_cons,xs_nil,x_ret,yaq,ev,evs,R.fl,R.bind,A7,toR];have hc:ya7 (.scr (ns.map PV.int)) AC (.int 63)=AA (.lst (ns.map .int)):=by
  have hk:yak ns.length 63=ns.length:=by
   show min 63 ns.length=ns.length;lia
  simp[ya7,yaV,yaO,cut,ybg,ybj,hk]
  try rw[<-AQ (f:=PV.int),Ej]
 simp[yaV,onP,hc,sizeMax]
def zfe{c:Cl}{N acc lo:Int}{st:SO}:exs c [AA (.int N),AA (.int acc),AA (.int lo)] st (.cons (.asg (.n 1) (.bin .mul (.cst (.int 2)) (.var 1))) .nil)=.nx [AA (.int N),AA (.int (2*acc)),AA (.int lo)] st:=by
 erw[xs_nil,xs_cons,x_asg,yaq,nxO,IC.ve1,IC.ve2,IC.ve3,R.bind,R.fl,yC,yr,binI,yap,toR,BG,BH,A7,A6];simp
def zeB(k n:Nat)(hn:n<1000)(st:SO):yd T (k+1) yff [.int n] st=.ok (.int (2^n)) st:=by
 let⟨ρ',st',h,u,e1,e2⟩:=zak (call:=yd T k) (t:=.n 2) (b:=.cons (.asg (.n 1) (.bin .mul (.cst (.int 2)) (.var 1))) .nil) (λi ρ st=>∃u,ρ=[AA (.int n),AA (.int (2^i)),u]/\st=[]) (yh n 0 1) 0 [AA (.int n),AA (.int 1),AC] [] ⟨_,rfl,rfl⟩ (by
  rintro j x ρ st hx ⟨u,rfl,rfl⟩
  have hx:∃i,x=.int i:=by
   have:∀(n:Nat) (a d:Int) (j:Nat) x,(yh n a d)[j]?=AA x->∃i,x=.int i:=by
    intro n
    induction n with
    |zero=>intro a d j x h;simp[yh]at h
    |succ n ih=>
     intro a d j x h
     cases j with
     |zero=>simp[yh]at h;exact⟨a,h.symm⟩
     |succ j=>simp[yh]at h;exact ih _ _ _ _ h
   exact this _ _ _ _ _ hx
  let⟨i,rfl⟩:=hx;exact⟨_,_,_,rfl,zfe,_,by rw[Int.pow_succ,G5],rfl⟩)
 have hl:(yh n 0 1).length=n:=by
  have:∀(n:Nat) (a d:Int),(yh n a d).length=n:=by
   intro n
   induction n with
   |zero=>intro a d;rfl
   |succ n ih=>intro a d;simp[yh,ih]
  exact this _ _ _
 rw[hl,FB]at e1;subst e1 e2;rw[yd,show T yff=AA yy from rfl];erw[yy,AO,Ak,if_true,nLs,nL,E7,AM,BA,Da,Ay,Cq,CD,xs_cons,xs_nil,x_asg,x_for,x_ret,yaq,nxO,IC.ve1,IC.ve2,R.fl,yC,BG,BH,evi,R.bind,A7,ybJ,toL];erw[show (n:Int).natAbs<1000000000 by lia,if_true,Bw,h];simp[nL]
local macro_rules | `(tactic| simp! [$xs,*])=>do
 let l<-("IC.xs_cons IC.xs_nil IC.x_asg IC.x_ite IC.x_ret IC.x_expr IC.x_for IC.x_six IC.evs IC.evi IC.ve1 IC.ve2 IC.ve3 IC.ve4 IC.ve5 IC.ve6 IC.ve7 IC.ve8 IC.ve9 IC.ve10 IC.ve11 IC.ve12 IC.ve13 IC.ve15 IC.ve16 IC.ve17 IC.ve18 IC.ve19 IC.ve20 IC.ve21 IC.ve24 IC.ve32 IC.ve45 IC.v_comp List.getElem?_cons_zero List.getElem?_cons_succ WK.bd_ok WK.fl_ok WK.bd_exc WK.fl_exc WK.toR_some IC.toL WK.bT_n WK.nxO_some WK.th_nx WK.th_rt WK.th_exc List.set_cons_zero List.set_cons_succ WK.on_t WK.t_bl WK.ono IC.onBl cond_true cond_false List.length_cons List.length_nil Nat.zero_add Nat.reduceAdd Nat.reduceSub Nat.reduceLeDiff if_true IC.nL IC.nLs WK.noLocs_ints Bool.and_self Bool.not_true Bool.not_false List.map_cons List.map_nil List.replicate List.cons_append List.nil_append List.append_nil Option.bind_none Option.bind_some Option.join_some WK.b_add WK.b_sub WK.b_mul2 WK.b_div2 WK.c_lt WK.c_le WK.c_gt WK.c_ge WK.c_eq WK.c_ne IC.PV.tup IC.sizeMax".splitOn " ").toArray.mapM λs=>`(Lean.Parser.Tactic.simpLemma| $(Lean.mkIdent s.toName):term)
 `(tactic| simp only[$l,*,$xs,*])
abbrev big:Int->Prop:=λx=>x.natAbs<18446744073709551616
def zcI(k:Nat){a b c d n i j:Int}(hn:big n)(hi:big i)(hj:big j)(st:SO):
  yd T (k+1) yeI [.tup [.int a,.int b,.int c,.int d],.int n,.int i,.int j] st=.ok (.int (a+b*i+c*j+d*n)) st:=by
 rw[zu (show T yeI=AA yn from rfl) rfl rfl rfl];simp! [yn,ix0,ix1,ix2,ix3,zk hn,zk hi,zk hj,za4]
def zbB(k:Nat){a b c d n i j:Int}(hn:big n)(hi:big i)(hj:big j)(st:SO):
  yd T (k+1) yfh [.tup [.int a,.int b,.int c,.int d],.int i,.int j,.int n] st=.ok (.int (a+b*i+c*j+d*n)) st:=by
 rw[zu (show T yfh=AA yeh from rfl) rfl rfl rfl];simp! [yeh,ix0,ix1,ix2,ix3,zk hn,zk hi,zk hj,za4]
abbrev cM:Nat:=20
def mob(w n i j:Int)(L:Nat)(mk:Int):Ob:=.ins cM [(AS "w",.int w),(AS "n",.int n),(AS "i",.int i),(AS "j",.int j),(AS "words",.loc L),(AS "marked",.int mk)]
section
variable {st:SO}{m L:Nat}{w n i j mk:Int}
theorem f_w(h:st[m]?=AA (mob w n i j L mk)):ya3 cM st (.loc m) (AS "w")=AA (.int w):=by erw[ya3,h,mob,if_true];with_unfolding_all rfl
theorem f_n(h:st[m]?=AA (mob w n i j L mk)):ya3 cM st (.loc m) (AS "n")=AA (.int n):=by erw[ya3,h,mob,if_true];with_unfolding_all rfl
theorem f_i(h:st[m]?=AA (mob w n i j L mk)):ya3 cM st (.loc m) (AS "i")=AA (.int i):=by erw[ya3,h,mob,if_true];with_unfolding_all rfl
theorem f_j(h:st[m]?=AA (mob w n i j L mk)):ya3 cM st (.loc m) (AS "j")=AA (.int j):=by erw[ya3,h,mob,if_true];with_unfolding_all rfl
def zly(h:st[m]?=AA (mob w n i j L mk)):ya3 cM st (.loc m) (AS "words")=AA (.loc L):=by erw[ya3,h,mob,if_true];with_unfolding_all rfl
def zlz(h:st[m]?=AA (mob w n i j L mk)):ya3 cM st (.loc m) (AS "marked")=AA (.int mk):=by erw[ya3,h,mob,if_true];with_unfolding_all rfl
theorem ix5{st:SO}{k:Bool}{a b c d e f:PV}:idxV st (.tp k [a,b,c,d,e,f]) (.int 5)=AA f:=rfl
def ybF(w n i j c a b p q r:Int):Int:=c+a*i+b*j+w*(p*i+q*j+r*n)
theorem bT6{ρ:IC.Env}{a b c d e f:Nat}{x1 x2 x3 x4 x5 x6:PV}{kk:Bool}:yC (.t [a,b,c,d,e,f]) (.tp kk [x1,x2,x3,x4,x5,x6]) ρ=AA ((((((ρ.set a (AA x1)).set b (AA x2)).set c (AA x3)).set d (AA x4)).set e (AA x5)).set f (AA x6)):=rfl
def zii(k:Nat){c a b p q r:Int}(h:st[m]?=AA (mob w n i j L mk))(hw:big w)(hn:big n)(hi:big i)(hj:big j):
  yd T (k+1) y8 [.tup [.int c,.int a,.int b,.int p,.int q,.int r],.loc m] st=.ok (.int (ybF w n i j c a b p q r)) st:=by
 rw[ze (show T y8=AA yv from rfl) rfl rfl];simp! [yv,bT6,f_w h,f_n h,f_i h,f_j h,zk hn,zk hi,zk hj,zaH hw,zm,ybF]
def zeO(k:Nat){c a b p q r:Int}(hw:big w)(hn:big n)(hi:big i)(hj:big j):
  yd T (k+1) yB [.tup [.int c,.int a,.int b,.int p,.int q,.int r],.tup [.int w,.int n],.int i,.int j] st=.ok (.int (ybF w n i j c a b p q r)) st:=by
 rw[zu (show T yB=AA ya from rfl) rfl rfl rfl];simp! [ya,ix0,ix1,ix2,ix3,ix4,ix5,zk hn,zk hi,zk hj,zaH hw,za4,ybF]
end
local macro_rules | `(tactic| simp! [$xs,*])=>do
 let l<-("IC.xs_cons IC.xs_nil IC.x_asg IC.x_ite IC.x_ret IC.x_expr IC.x_for IC.x_six IC.evs IC.evi IC.ve1 IC.ve2 IC.ve3 IC.ve4 IC.ve5 IC.ve6 IC.ve7 IC.ve8 IC.ve9 IC.ve10 IC.ve11 IC.ve12 IC.ve13 IC.ve15 IC.ve16 IC.ve17 IC.ve18 IC.ve19 IC.ve20 IC.ve21 IC.ve24 IC.ve32 IC.ve45 IC.ve49 IC.ve50 IC.ve51 IC.v_comp List.getElem?_cons_zero List.getElem?_cons_succ WK.bd_ok WK.fl_ok WK.bd_exc WK.fl_exc WK.toR_some IC.toL WK.bT_n WK.nxO_some WK.th_nx WK.th_rt WK.th_exc List.set_cons_zero List.set_cons_succ WK.on_t WK.t_bl WK.ono IC.onBl cond_true cond_false List.length_cons List.length_nil Nat.zero_add Nat.reduceAdd Nat.reduceSub Nat.reduceLeDiff if_true IC.nL IC.nLs WK.noLocs_ints Bool.and_self Bool.not_true Bool.not_false List.map_cons List.map_nil List.replicate List.cons_append List.nil_append List.append_nil Option.bind_none Option.bind_some Option.join_some WK.b_add WK.b_sub WK.b_mul2 WK.b_div2 WK.c_lt WK.c_le WK.c_gt WK.c_ge WK.c_eq WK.c_ne IC.PV.tup IC.sizeMax".splitOn " ").toArray.mapM λs=>`(Lean.Parser.Tactic.simpLemma| $(Lean.mkIdent s.toName):term)
 `(tactic| simp only[$l,*,$xs,*])
abbrev yG:Str:=AS "slice"
abbrev yaI:Str:=AS "mark"
abbrev bd(s:Int):Bool:=decide (0<=s)&&decide (s<=100)
abbrev pl(x:Int×Int×Int×Int)(n i j:Int):Int:=x.1+x.2.1*i+x.2.2.1*j+x.2.2.2*n
abbrev q4(x:Int×Int×Int×Int):PV:=.tup [.int x.1,.int x.2.1,.int x.2.2.1,.int x.2.2.2]
def ziq:yw .eq (.str yG) (.str yaI)=AA (.bl AG):=by
 erw[yw];rw[if_pos (by decide +kernel),show peq (.str yG) (.str yaI)=AG by erw[peq];decide +kernel]
def zi2:yw .eq (.str yaI) (.str yaI)=AA (.bl AD):=by
 erw[yw];rw[if_pos (by decide +kernel),show peq (.str yaI) (.str yaI)=AD by erw[peq];decide +kernel]
def zcy{s:Int}{st:SO}{call:Cl}{ρ:IC.Env}{i:Nat}(h:ρ[i]?=AA (AA (.int s))):ev call ρ st (.chain .le .le (.cst (.int 0)) (.var i) (.cst (.int 100)))=.ok (.bl (bd s)) st:=by
 by_cases h0:0<=s
 .simp! [h,blO,h0,decide_true,bd,Be]
 .simp! [h,blO,h0,decide_false,bd,CM]
def zjc{x:PV}{n:Nat}{a:Int}(h:x∈yh n a 1):∃j:Nat,j<n/\x=.int (a+j):=by
 induction n generalizing a with
 |zero=>cases h
 |succ n ih=>
  rw[yh]at h;rcases Ac.1 h with rfl|h
  .exact⟨0,by lia,by simp⟩
  .let⟨j,hj,rfl⟩:=ih h;exact⟨j+1,by lia,by rw[show a+1+(j:Int)=a+((j+1:Nat):Int)by lia]⟩
def zb0(n:Nat)(a:Int):(yh n a 1).length=n:=by
 induction n generalizing a with
 |zero=>rfl
 |succ n ih=>rw[yh,AO,ih]
def yaF(W:Int)(kvs:List (PV×PV)):Prop:=∀p∈kvs,∃(l:AW) (a v:Int),p=(.tup [.str l,.int a],.int v)/\0<=v/\v<W
def gv(kvs:List (PV×PV))(l:AW)(a:Int):Int:=match look (.tup [.str l,.int a]) kvs with
 |some (.int v)=>v
 |_=>0
def zbi{W:Int}{q:PV}:∀{kvs:List (PV×PV)},yaF W kvs->look q kvs=AC \/ ∃v,look q kvs=AA (.int v)/\0<=v/\v<W
 |[],_=>.inl rfl
 |p::r,h=>by
  let⟨l,a,v,rfl,v0,v1⟩:=h _ A0;rw[look];split
  .exact .inr ⟨v,rfl,v0,v1⟩
  .exact zbi λp hp=>h p (AN _ hp)
def zie{W:Int}{kvs:List (PV×PV)}(h:yaF W kvs)(l:AW)(a:Int):(look (.tup [.str l,.int a]) kvs).getD (.int 0)=.int (gv kvs l a):=by
 unfold gv;rcases zbi (q:=.tup [.str l,.int a]) h with e|⟨v,e,_⟩<;>rw[e]<;>rfl
def zgb{W:Int}(hW:0<W){kvs:List (PV×PV)}(h:yaF W kvs)(l:AW)(a:Int):0<=gv kvs l a/\gv kvs l a<W:=by
 unfold gv;rcases zbi (q:=.tup [.str l,.int a]) h with e|⟨v,e,v0,v1⟩<;>rw[e]
 .exact⟨Gn _,hW⟩
 .exact⟨v0,v1⟩
def ltr(l:AW):Prop:=l.cps.all (· < 0x110000)=AD
def zlb{L:Nat}{st:SO}{W:Int}{kvs:List (PV×PV)}{l:AW}{a:Int}(hl:ltr l)(hk:yaF W kvs)(h:st[L]?=AA (.dct AD kvs)):yc7 st (.loc L) (.tp AG [.str l,.int a]) (.int 0)=.ok (.int (gv kvs l a)) st:=by
 erw[yc7,yR,h];rw[if_pos (show isKey AD (.tp AG [.str l,.int a])=AD by
  show (l.cps.all (· < 0x110000)&&(AD&&AD))=AD;rw[hl];rfl)]
 exact congrArg (λx=>R.ok x st) (zie hk l a)
def yaJ(g:Int->Int)(w s:Int):Nat->Int
 |0=>0
 |m+1=>g s+2^w.toNat*yaJ g w (s+1) m
def zdx(g:Int->Int){w s:Int}(hw:0<=w):∀(m:Nat) (a:Int),s<=a->ybE ((yh m a 1).map λx=>PV.int (g (ivP x)*2^(w*(ivP x-s)).toNat))=AA (2^(w*(a-s)).toNat*yaJ g w a m)
 |0,a,_=>by simp[yh,ybE,yaJ]
 |m+1,a,h=>by
  have ih:=zdx g (s:=s) hw m (a+1) ∅;have e1:w*(a+1-s)=w*(a-s)+w:=by rw[show a+1-s=(a-s)+1 by lia,Go,FX]
  have e2:0<=w*(a-s):=EL hw ∅;have e3:(2:Int)^(w*(a-s)+w).toNat=2^(w*(a-s)).toNat*2^w.toNat:=by rw[Int.toNat_add e2 hw,IF]
  rw[yh,AM,ybE,ih];erw[ivP,yaJ];rw[e1,e3,Go,Int.mul_assoc,G5 (g a)]
section
variable {st:SO}{m L:Nat}{w n i j mk W:Int}{kvs:List (PV×PV)}
def zhN(k:Nat)(h:st[m]?=AA (mob w n i j L mk)):yd T (k+2) yl [.tup [.str yaI],.loc m] st=.ok (.int mk) st:=by
 rw[ze (show T yl=AA yq from rfl) rfl rfl];simp! [yq,ix0,zi2,zlz h,zm]
def thC:Ce:=match yq.body with
 |.cons _ (.cons _ (.cons _ (.cons _ (.cons (.ret (.blt _ (.cons (.comp _ _ _ _ e) _))) _))))=>e
 |_=>.nope
def zgU(k:Nat){l:AW}{lo hi:PV}{s a:Int}(hl:ltr l)(hk:yaF W kvs)(hW:0<W)(hW2:W<=65536)(h:st[m]?=AA (mob w n i j L mk))(hd:st[L]?=AA (.dct AD kvs))(hw:big w)(h0:0<=w*(a-s))(h1:w*(a-s)<=1000000):
  yaL (yd T k) [AC,AA (.loc m),AA (.int s),AA (.tup [.str yG,.str l,lo,hi])] (.n 0) (.cst (.bl AD)) thC (.int a) st=.ok (AA (.int (gv kvs l a*2^(w*(a-s)).toNat))) st:=by
 let⟨v0,v1⟩:=zgb hW hk l a;have g:=zlb (l:=l) (a:=a) hl hk hd;generalize gv kvs l a=v at *;have e:yr .shl (.int v) (.int (w*(a-s)))=AA (.int (v*2^(w*(a-s)).toNat)):=if_pos ⟨h0,h1,by lia⟩;simp! [yaL,thC,yq,ix1,zly h,f_w h,yaA,yR,hd,BD,ybK,g,zaH hw,e]
def thR:Css:=match yq.body with
 |.cons _ (.cons _ (.cons _ r))=>r
 |_=>.nil
def zhs(k:Nat){l:AW}{lo hi:PV}{s e:Int}(hl:ltr l)(hk:yaF W kvs)(hW:0<W)(hW2:W<=65536)(h:st[m]?=AA (mob w n i j L mk))(hd:st[L]?=AA (.dct AD kvs))(w0:0<=w)(w1:w<=16)(hs:bd s=AD)(he:bd e=AD):
  exs (yd T k) [AA (.tup [.str yG,.str l,lo,hi]),AA (.loc m),AA (.int s),AA (.int e)] st thR=.rt (.int (yaJ (gv kvs l) w s (e-s).toNat)) st:=by
 have c1:=zcy (s:=s) (st:=st) (call:=yd T k) (ρ:=[AA (.tup [.str yG,.str l,lo,hi]),AA (.loc m),AA (.int s),AA (.int e)]) (i:=2) rfl;have c2:=zcy (s:=e) (st:=st) (call:=yd T k) (ρ:=[AA (.tup [.str yG,.str l,lo,hi]),AA (.loc m),AA (.int s),AA (.int e)]) (i:=3) rfl;have hb:thR=.cons (.ite (.or (.not (.chain .le .le (.cst (.int 0)) (.var 2) (.cst (.int 100)))) (.not (.chain .le .le (.cst (.int 0)) (.var 3) (.cst (.int 100))))) (.cons .nope .nil) .nil) (.cons (.ret (.blt .sum (.cons (.comp [AC,AA 1,AA 2,AA 0] (.n 0) (.range2 (.var 2) (.var 3)) (.cst (.bl AD)) thC) .nil))) .nil):=rfl;rw[hb];have co:ev (yd T k) [AA (.tup [.str yG,.str l,lo,hi]),AA (.loc m),AA (.int s),AA (.int e)] st (.or (.not (.chain .le .le (.cst (.int 0)) (.var 2) (.cst (.int 100)))) (.not (.chain .le .le (.cst (.int 0)) (.var 3) (.cst (.int 100)))))=.ok (.bl AG) st:=by
  rw[IC.ve7,IC.ve5,c1,hs];erw[R.bind,onBl,E3,cond_false,IC.ve5,c2,he]
 rw[xs_cons,x_ite,co];erw[bd,AH,decide_eq_true_eq]at hs he;let⟨s0,s1⟩:=hs;let⟨e0,e1⟩:=he;have hr:yc2 (.int s) (.int e)=AA (yh (e-s).toNat s 1):=by
  erw[yc2];rw[if_pos ⟨by lia,by lia⟩]
 have cm:=zby (call:=yd T k) (st:=st) (ρ0:=[AC,AA (.loc m),AA (.int s),AA (.tup [.str yG,.str l,lo,hi])]) (t:=.n 0) (c:=.cst (.bl AD)) (e:=thC) (f:=λx=>PV.int (gv kvs l (ivP x)*2^(w*(ivP x-s)).toNat)) (yh (e-s).toNat s 1) λx hx=>by
  let⟨q,hq,rfl⟩:=zjc hx;have hq2:s+(q:Int)-s=q:=by lia
  have hq3:w*(q:Int)<=16*100:=by
   have h1:=D6 w1 (show (0:Int)<=q by lia);lia
  exact zgU k hl hk hW hW2 h hd (by show w.natAbs<_;lia) (by rw[hq2];exact EL w0 ∅) (by rw[hq2];lia)
 have hsum:yaa .sum st [.lst ((yh (e-s).toNat s 1).map λx=>PV.int (gv kvs l (ivP x)*2^(w*(ivP x-s)).toNat))]=AA (.int (yaJ (gv kvs l) w s (e-s).toNat)):=by
  erw[yaa,yF,BY,zdx (gv kvs l) w0 _ _ (Gn s),BD];rw[show w*(s-s)=0 by rw[Int.sub_self,Int.mul_zero]];simp
 simp! [hr,cm,zx _ (show ((yh (e-s).toNat s 1).map λx=>PV.int (gv kvs l (ivP x)*2^(w*(ivP x-s)).toNat)).length<=1000000 by rw[AQ,zb0];lia),hsum]
def zfa(k:Nat){l:AW}{lo hi:Int×Int×Int×Int}(hl:ltr l)(hk:yaF W kvs)(hW:0<W)(hW2:W<=65536)(h:st[m]?=AA (mob w n i j L mk))(hd:st[L]?=AA (.dct AD kvs))(w0:0<=w)(w1:w<=16)(hn:big n)(hi':big i)(hj:big j)
  (hs:bd (pl lo n i j)=AD) (he:bd (pl hi n i j)=AD):
  yd T (k+2) yl [.tup [.str yG,.str l,q4 lo,q4 hi],.loc m] st=.ok (.int (yaJ (gv kvs l) w (pl lo n i j) (pl hi n i j-pl lo n i j).toNat)) st:=by
 rw[ze (show T yl=AA yq from rfl) rfl rfl];have p1:=λst=>zcI k (a:=lo.1) (b:=lo.2.1) (c:=lo.2.2.1) (d:=lo.2.2.2) hn hi' hj st;have p2:=λst=>zcI k (a:=hi.1) (b:=hi.2.1) (c:=hi.2.2.1) (d:=hi.2.2.2) hn hi' hj st;erw[PV.tup]at p1 p2;have hb:yq.body=.cons (.ite (.cmp .eq (.idx (.var 0) (.cst (.int 0))) (.cst (.str "mark"))) (.cons (.ret (.fld 20 (.var 1) (AS "marked"))) .nil) .nil) (.cons (.asg (.n 2) (.call 3 (.cons (.idx (.var 0) (.cst (.int 2))) (.cons (.fld 20 (.var 1) (AS "n")) (.cons (.fld 20 (.var 1) (AS "i")) (.cons (.fld 20 (.var 1) (AS "j")) .nil)))))) (.cons (.asg (.n 3) (.call 3 (.cons (.idx (.var 0) (.cst (.int 3))) (.cons (.fld 20 (.var 1) (AS "n")) (.cons (.fld 20 (.var 1) (AS "i")) (.cons (.fld 20 (.var 1) (AS "j")) .nil)))))) thR)):=rfl;rw[hb];have r:=zhs (k+1) (lo:=q4 lo) (hi:=q4 hi) (s:=pl lo n i j) (e:=pl hi n i j) hl hk hW hW2 h hd w0 w1 hs he;erw[q4,PV.tup,pl]at r;simp! [ix0,ix2,ix3,ziq,f_n h,f_i h,f_j h,p1,p2,q4,r,yq,zm,pl]
end
def zdq:∀(n:Nat) (a:Int) (j:Nat) (x:PV),(yh n a (-1))[j]?=AA x->x=.int (a-j)
 |0,a,j,x,h=>by simp[yh]at h
 |n+1,a,0,x,h=>by simp[yh]at h;subst h;simp
 |n+1,a,j+1,x,h=>by
  erw[yh,A6]at h;rw[zdq n (a+-1) j x h]
  congr 1;lia
def zcN:∀(n:Nat) (a d:Int),(yh n a d).length=n
 |0,a,d=>rfl
 |n+1,a,d=>by rw[yh,AO,zcN n]
def lsB:Css:=match yad.body with
 |.cons _ (.cons (.for _ _ b) _)=>b
 |_=>.nil
section
variable {st:SO}{L:Nat}{w W:Int}{kvs:List (PV×PV)}
def zhY(c:Cl){l:AW}{lo hi acc a:Int}(hl:ltr l)(hk:yaF W kvs)(hd:st[L]?=AA (.dct AD kvs))(hW:0<=W)(hW2:W<=65536):
  exs c [AA (.loc L),AA (.str l),AA (.int lo),AA (.int hi),AA (.int W),AA (.int acc),AA (.int a)] st lsB =
   .nx [AA (.loc L),AA (.str l),AA (.int lo),AA (.int hi),AA (.int W),AA (.int (acc*W+gv kvs l a)),AA (.int a)] st:=by
 have g:=zlb (l:=l) (a:=a) hl hk hd;have hb:yr .mul (.int acc) (.int W)=AA (.int (acc*W)):=zk ∅;simp! [lsB,yad,yaA,yR,hd,BD,ybK,g,hb]
def zev(k:Nat){l:AW}{lo hi:Int}(hl:ltr l)(hk:yaF (2^w.toNat) kvs)(hd:st[L]?=AA (.dct AD kvs))(w0:0<=w)(w1:w<=16)(h0:-1000<=lo)(h1:lo<=1000)(h2:-1000<=hi)(h3:hi<=1000):
  yd T (k+1) yfv [.loc L,.str l,.int lo,.int hi,.int (2^w.toNat)] st=.ok (.int (yaJ (gv kvs l) w lo (hi-lo).toNat)) st:=by
 have hW:(2:Int)^w.toNat<=65536:=by
  have h:2^w.toNat<=2^16:=F8 ⋯ ∅;have h4:((2^w.toNat:Nat):Int)<=((65536:Nat):Int):=Hm.2 h;rw[FL]at h4;exact h4
 have hW0:(0:Int)<=2^w.toNat:=G6 (Fa ⋯);generalize hWW:(2:Int)^w.toNat=W at *;have hr:ycX (.int (hi-1)) (.int (lo-1))=AA (yh (hi-lo).toNat (hi-1) (-1)):=by
  erw[ycX];rw[if_pos ⟨by lia,by lia⟩,show hi-1-(lo-1)=hi-lo by lia]
 let⟨ρ',st',h,⟨u,e1⟩,e2⟩:=zak (call:=yd T k) (t:=.n 6) (b:=lsB) (λi ρ s=>(∃u,ρ=[AA (.loc L),AA (.str l),AA (.int lo),AA (.int hi),AA (.int W),AA (.int (yaJ (gv kvs l) w (hi-i) i)),u])/\s=st)
  (yh (hi-lo).toNat (hi-1) (-1)) 0 [AA (.loc L),AA (.str l),AA (.int lo),AA (.int hi),AA (.int W),AA (.int 0),AC] st ⟨⟨_,rfl⟩,rfl⟩ (by
   rintro j x ρ s hx ⟨⟨u,rfl⟩,rfl⟩
   have ex:=zdq _ _ _ _ hx;subst ex;have q:yaJ (gv kvs l) w (hi-(((0+j:Nat):Int))) (0+j)*W+gv kvs l (hi-1-(j:Int))=yaJ (gv kvs l) w (hi-(((0+j+1:Nat):Int))) (0+j+1):=by
    rw[FB,yaJ,hWW,show hi-((j+1:Nat):Int)+1=hi-(j:Int)by lia,show hi-((j+1:Nat):Int)=hi-1-(j:Int)by lia,G5,Hk]
   have s1:=zhY (yd T k) (lo:=lo) (hi:=hi) (acc:=yaJ (gv kvs l) w (hi-(((0+j:Nat):Int))) (0+j)) (a:=hi-1-(j:Int)) hl hk hd hW0 hW;rw[q]at s1;exact⟨_,_,_,rfl,s1,⟨_,rfl⟩,rfl⟩)
 rw[zcN,FB]at e1;subst e1 e2;rw[ze (show T yfv=AA yad from rfl) rfl rfl];have hb:yad.body=.cons (.asg (.n 5) (.cst (.int 0))) (.cons (.for (.n 6) (.rangeD (.bin .sub (.var 3) (.cst (.int 1))) (.bin .sub (.var 2) (.cst (.int 1)))) lsB) (.cons (.ret (.var 5)) .nil)):=rfl;rw[hb];have hv:yaJ (gv kvs l) w (hi-((hi-lo).toNat:Int)) (hi-lo).toNat=yaJ (gv kvs l) w lo (hi-lo).toNat:=by
  by_cases c:lo<=hi
  .rw[show hi-((hi-lo).toNat:Int)=lo by lia]
  .rw[show (hi-lo).toNat=0 by lia];rfl
 simp! [hr,h,hv,yad,zm]
end
inductive Th where
 |mark
 |sl (l:AW) (lo hi:Int×Int×Int×Int)
structure Mp where
 (w n i j mq:Int)
 kvs:List (PV×PV)
structure Mp.Ok(p:Mp):Prop where
 c:yaF (2^p.w.toNat) p.kvs
 w0:0<=p.w
 w1:p.w<=16
 hn:big p.n
 hi:big p.i
 hj:big p.j
 hm:big p.mq
structure Mo(st:SO)(m L:Nat)(p:Mp):Prop where
 h:st[m]?=AA (mob p.w p.n p.i p.j L p.mq)
 d:st[L]?=AA (.dct AD p.kvs)
 ok:p.Ok
def Th.pv:Th->PV
 |.mark=>.tup [.str yaI]
 |.sl l lo hi=>.tup [.str yG,.str l,q4 lo,q4 hi]
def Th.fine(p:Mp):Th->Prop
 |.mark=>True
 |.sl l lo hi=>ltr l/\bd (pl lo p.n p.i p.j)=AD/\bd (pl hi p.n p.i p.j)=AD/\pl hi p.n p.i p.j-pl lo p.n p.i p.j<=3
def Th.wo(p:Mp):Th->Int
 |.mark=>p.mq
 |.sl l lo hi=>yaJ (gv p.kvs l) p.w (pl lo p.n p.i p.j) (pl hi p.n p.i p.j-pl lo p.n p.i p.j).toNat
abbrev E6:=Int×Int×Int×Int×Int×Int
abbrev yK(x:E6):PV:=.tup [.int x.1,.int x.2.1,.int x.2.2.1,.int x.2.2.2.1,.int x.2.2.2.2.1,.int x.2.2.2.2.2]
abbrev ex6(p:Mp)(x:E6):Int:=ybF p.w p.n p.i p.j x.1 x.2.1 x.2.2.1 x.2.2.2.1 x.2.2.2.2.1 x.2.2.2.2.2
abbrev bd2(s:Int):Bool:=decide (0<=s)&&decide (s<=2000)
abbrev wid(f:Int):Prop:=f.natAbs<1606938044258990275541962092341162602522202993782792835301376
def zf1{g:Int->Int}{w:Int}(hg:∀a,0<=g a/\g a<2^w.toNat):∀(m:Nat) (s:Int),0<=yaJ g w s m/\yaJ g w s m<2^(w.toNat*m)
 |0,s=>⟨Gn _,by rw[Nat.mul_zero,yaJ];decide⟩
 |m+1,s=>by
  let⟨a,b⟩:=zf1 hg m (s+1);let⟨c,d⟩:=hg s;have hp:(0:Int)<2^w.toNat:=Fa ⋯;rw[yaJ,Nat.mul_succ,Nat.add_comm,IF];refine⟨Int.add_nonneg c (EL (G6 hp) a),?_⟩;have h:(2:Int)^w.toNat*(yaJ g w (s+1) m+1)<=2^w.toNat*2^(w.toNat*m):=Dc b (G6 hp);rw[Go,FX]at h;lia
def zbq{a b:Nat}(h:a<=b):(2:Int)^a<=2^b:=by
 have h4:((2^a:Nat):Int)<=((2^b:Nat):Int):=Hm.2 (F8 ⋯ h);rw[FL,FL]at h4;exact h4
def zlc{p:Mp}(h:p.Ok):(2:Int)^p.w.toNat<=65536:=by
 have:=h.w1;exact zbq (b:=16) ∅
def zhx{p:Mp}:(0:Int)<2^p.w.toNat:=Fa ⋯
def zgr{p:Mp}(h:p.Ok){t:Th}(ht:t.fine p):big (t.wo p):=by
 cases t with
 |mark=>exact h.hm
 |sl l lo hi=>
  let⟨_,_,_,h3⟩:=ht;let⟨a,b⟩:=zf1 (λa=>zgb zhx h.c l a) (pl hi p.n p.i p.j-pl lo p.n p.i p.j).toNat (pl lo p.n p.i p.j);have hw:=h.w1;have h4:p.w.toNat*(pl hi p.n p.i p.j-pl lo p.n p.i p.j).toNat<=16*3:=Nat.mul_le_mul ∅ ∅;have h5:(2:Int)^(p.w.toNat*(pl hi p.n p.i p.j-pl lo p.n p.i p.j).toNat)<=281474976710656:=zbq (b:=48) h4;show (yaJ _ _ _ _).natAbs<_;lia
section
variable {st:SO}{m L:Nat}{p:Mp}
def zi6(k:Nat)(M:Mo st m L p){t:Th}(ht:t.fine p):yd T (k+2) yl [t.pv,.loc m] st=.ok (.int (t.wo p)) st:=by
 cases t with
 |mark=>exact zhN k M.h
 |sl l lo hi=>exact zfa k ht.1 M.ok.c zhx (zlc M.ok) M.h M.d M.ok.w0 M.ok.w1 M.ok.hn M.ok.hi M.ok.hj ht.2.1 ht.2.2.1
def ze0(k:Nat)(M:Mo st m L p){ts:List Th}(ht:∀t∈ts,t.fine p):
  yS (yd T (k+2)) [AC,AA (.loc m)] (.n 0) (.cst (.bl AD)) (.call 6 (.cons (.var 0) (.cons (.var 1) .nil))) (ts.map Th.pv) st=.ok (ts.map λt=>.int (t.wo p)) st:=by
 induction ts with
 |nil=>rfl
 |cons t ts ih=>
  have e:=zi6 k M (ht t A0);have one:yaL (yd T (k+2)) [AC,AA (.loc m)] (.n 0) (.cst (.bl AD)) (.call 6 (.cons (.var 0) (.cons (.var 1) .nil))) t.pv st=.ok (AA (.int (t.wo p))) st:=by
   simp! [yaL,e]
  rw[AM,zf,one];erw[R.bind];rw[ih λt h=>ht t (AN _ h)];rfl
def zfl(f:Th->Int)(ts:List Th):inL .non (ts.map λt=>.int (f t))=false:=by
 induction ts with
 |nil=>rfl
 |cons t ts ih=>
  rw[AM,inL,ih];simp[peq]
def zdB(f:Th->Int)(ts:List Th):(ts.map λt=>PV.int (f t)).all flat=true:=by
 induction ts with
 |nil=>rfl
 |cons t ts ih=>
  rw[AM,Au,ih];rfl
def tsW(p:Mp)(ts:List Th)(v:Int):Int:=ts.foldl (λv t=>v*t.wo p) v
def zcH{c:Cl}{a0 a1 a2 a3 a4 a5 a6:Option PV}(h:p.Ok):∀(ts:List Th),(∀t∈ts,t.fine p)->∀(v:Int) (u:Option PV),∃u',ya4 c (.n 8) (.cons (.aug 7 .mul (.var 8)) .nil) (ts.map λt=>.int (t.wo p)) [a0,a1,a2,a3,a4,a5,a6,AA (.int v),u] st=.nx [a0,a1,a2,a3,a4,a5,a6,AA (.int (tsW p ts v)),u'] st
 |[],_,v,u=>⟨u,rfl⟩
 |t::ts,ht,v,u=>by
  let⟨u',e⟩:=zcH (c:=c) (a0:=a0) (a1:=a1) (a2:=a2) (a3:=a3) (a4:=a4) (a5:=a5) (a6:=a6) h ts (λt h=>ht t (AN _ h)) (v*t.wo p) (AA (.int (t.wo p)));refine⟨u',?_⟩;rw[AM,zh (ρ1:=[a0,a1,a2,a3,a4,a5,a6,AA (.int v),AA (.int (t.wo p))]) rfl,xs_cons,zh0 (x:=.int v) rfl];have:yap v (t.wo p)=true:=by
   have:=zgr h (ht t A0);erw[yap,CW,decide_eq_true_eq];exact .inr this
  erw[IC.ve2,A7,A6,R.fl,yaW,binI,this,if_true,BD,nxO,yaq,xs_nil,yah,BG,BH];exact e
def twR:Css:=match yD.body with
 |.cons _ (.cons _ (.cons _ r))=>r
 |_=>.nil
def zlA{s:Int}{st:SO}{call:Cl}{ρ:IC.Env}{i:Nat}(h:ρ[i]?=AA (AA (.int s))):ev call ρ st (.chain .le .le (.cst (.int 0)) (.var i) (.cst (.int 2000)))=.ok (.bl (bd2 s)) st:=by
 by_cases h0:0<=s
 .simp! [h,blO,h0,decide_true,bd2,Be]
 .simp! [h,blO,h0,decide_false,bd2,CM]
def zhu{c:Cl}{a0 a1 a3 a4:Option PV}{f E:Int}{ts:List Th}{u7 u8:Option PV}(hf:wid f)(h:p.Ok)(ht:∀t∈ts,t.fine p):
  exs c [a0,a1,AA (.int f),a3,a4,AA (.int E),AA (.lst (ts.map λt=>.int (t.wo p))),u7,u8] st twR=.rt (if bd2 E then .int (tsW p ts (f*2^E.toNat))else .non) st:=by
 have hB:twR=.cons (.ite (.or (.not (.chain .le .le (.cst (.int 0)) (.var 5) (.cst (.int 2000)))) (.cmp .isin (.cst .non) (.var 6))) (.cons (.ret (.cst .non)) .nil) .nil) (.cons (.asg (.n 7) (.bin .shl (.var 2) (.var 5))) (.cons (.for (.n 8) (.seq (.var 6)) (.cons (.aug 7 .mul (.var 8)) .nil)) (.cons (.ret (.var 7)) .nil))):=rfl;generalize hls:(ts.map λt=>PV.int (t.wo p))=ls;have c1:=zlA (s:=E) (st:=st) (call:=c) (ρ:=[a0,a1,AA (.int f),a3,a4,AA (.int E),AA (.lst ls),u7,u8]) (i:=5) rfl;have ci:yw .isin .non (.lst ls)=AA (.bl AG):=by
  have e1:ls.all flat=true:=hls ▸ zdB _ ts;have e2:inL .non ls=false:=hls ▸ zfl _ ts;erw[yw,flat,e1,e2,Be];rfl
 rw[hB];have co:ev c [a0,a1,AA (.int f),a3,a4,AA (.int E),AA (.lst ls),u7,u8] st (.or (.not (.chain .le .le (.cst (.int 0)) (.var 5) (.cst (.int 2000)))) (.cmp .isin (.cst .non) (.var 6)))=.ok (.bl !(bd2 E)) st:=by
  rw[IC.ve7,IC.ve5,c1]
  cases hs:bd2 E with
  |false=>rfl
  |true=>
   erw[R.bind,onBl,E3,cond_false,IC.ve8,IC.ve1,IC.ve2,A7,A6,ci,toR]
 rw[xs_cons,x_ite,co]
 cases hs:bd2 E with
 |false=>rfl
 |true=>
  erw[bd2,AH,decide_eq_true_eq]at hs;let⟨e0,e1⟩:=hs;have es:yr .shl (.int f) (.int E)=AA (.int (f*2^E.toNat)):=by
   erw[yr,binI];rw[if_pos ⟨e0,by lia,hf⟩]
  let⟨u',el⟩:=zcH (st:=st) (c:=c) (a0:=a0) (a1:=a1) (a2:=AA (.int f)) (a3:=a3) (a4:=a4) (a5:=AA (.int E)) (a6:=AA (.lst ls)) h ts ht (f*2^E.toNat) u8;rw[hls]at el;simp! [es,IC.seqOf,el]
structure Tm where
 f:Int
 x:E6
 ts:List Th
def Tm.pv(t:Tm):PV:=.tup [.int t.f,yK t.x,.tup (t.ts.map Th.pv)]
structure Tm.fine(p:Mp)(t:Tm):Prop where
 f:wid t.f
 s:∀x∈t.ts,x.fine p
 l:t.ts.length<=10
def Tm.wo(p:Mp)(t:Tm):Int:=tsW p t.ts (t.f*2^(ex6 p t.x).toNat)
def Tm.ok(p:Mp)(t:Tm):Bool:=bd2 (ex6 p t.x)
def Tm.val(p:Mp)(t:Tm):PV:=if t.ok p then .int (t.wo p)else .non
theorem bT3{ρ:IC.Env}{a b c:Nat}{x1 x2 x3:PV}{kk:Bool}:yC (.t [a,b,c]) (.tp kk [x1,x2,x3]) ρ=AA (((ρ.set a (AA x1)).set b (AA x2)).set c (AA x3)):=rfl
def ziD(k:Nat)(M:Mo st m L p){t:Tm}(ht:t.fine p):yd T (k+3) yeK [t.pv,.loc m] st=.ok (t.val p) st:=by
 rw[ze (show T yeK=AA yD from rfl) rfl rfl];have hb:yD.body=.cons (.asg (.t [2,3,4]) (.var 0)) (.cons (.asg (.n 5) (.call 5 (.cons (.var 3) (.cons (.var 1) .nil)))) (.cons (.asg (.n 6) (.comp [AC,AA 1] (.n 0) (.seq (.var 4)) (.cst (.bl AD)) (.call 6 (.cons (.var 0) (.cons (.var 1) .nil))))) twR)):=rfl;have he:=zii (k+1) (c:=t.x.1) (a:=t.x.2.1) (b:=t.x.2.2.1) (p:=t.x.2.2.2.1) (q:=t.x.2.2.2.2.1) (r:=t.x.2.2.2.2.2) M.h (by have:=M.ok.w0;have:=M.ok.w1;show p.w.natAbs<_;lia) M.ok.hn M.ok.hi M.ok.hj;have hc:=ze0 k M ht.s;have hr:=zhu (st:=st) (c:=yd T (k+2)) (a0:=AA t.pv) (a1:=AA (.loc m)) (a3:=AA (yK t.x)) (a4:=AA (.tup (t.ts.map Th.pv))) (E:=ex6 p t.x) (u7:=AC) (u8:=AC) ht.f M.ok ht.s;have hl:(t.ts.map λt=>PV.int (t.wo p)).length<=1000000:=by rw[AQ];have:=ht.l;lia
 rw[hb];erw[yK,PV.tup,ex6,Tm.pv]at hr he;simp! [yD,bT3,he,IC.seqOf,hc,zx _ hl,hr,zm,yK,Tm.pv];rfl
end
def tot(p:Mp):List Tm->Int
 |[]=>0
 |t::tt=>t.wo p+tot p tt
def okS(p:Mp)(tt:List Tm):Bool:=tt.all (Tm.ok p)
def due(p:Mp)(tt:List Tm):Bool:=okS p tt&&decide (tot p tt=0)
section
variable {st:SO}{m L:Nat}{p:Mp}
def zct(k:Nat)(M:Mo st m L p):∀{tt:List Tm},(∀t∈tt,t.fine p) ->
  yS (yd T (k+3)) [AC,AA (.loc m)] (.n 0) (.cst (.bl AD)) (.call 4 (.cons (.var 0) (.cons (.var 1) .nil))) (tt.map Tm.pv) st=.ok (tt.map (Tm.val p)) st
 |[],_=>rfl
 |t::tt,h=>by
  have e:=ziD k M (h t A0);have one:yaL (yd T (k+3)) [AC,AA (.loc m)] (.n 0) (.cst (.bl AD)) (.call 4 (.cons (.var 0) (.cons (.var 1) .nil))) t.pv st=.ok (AA (t.val p)) st:=by
   simp! [yaL,e]
  rw[AM,zf,one];erw[R.bind];rw[zct k M λq hq=>h q (AN _ hq)];rfl
def zhP(tt:List Tm):inL .non (tt.map (Tm.val p))=!(okS p tt):=by
 induction tt with
 |nil=>rfl
 |cons t ts ih=>
  rw[AM,inL,ih];unfold okS;rw[Au];unfold Tm.val
  cases t.ok p<;>simp[peq]
def zeQ(tt:List Tm):(tt.map (Tm.val p)).all flat=true:=by
 induction tt with
 |nil=>rfl
 |cons t ts ih=>
  rw[AM,Au,ih];unfold Tm.val
  cases t.ok p<;>rfl
def zeu:∀{tt:List Tm},okS p tt=AD->ybE (tt.map (Tm.val p))=AA (tot p tt)
 |[],_=>rfl
 |t::tt,h=>by
  unfold okS at h;rw[Au,AH]at h;rw[AM,show t.val p=.int (t.wo p)by unfold Tm.val;rw[h.1];rfl,ybE,zeu h.2,tot]
def zgR(k:Nat)(M:Mo st m L p){tt:List Tm}(h:∀t∈tt,t.fine p)(hl:tt.length<=1000):
  yd T (k+4) yeG [.tup (tt.map Tm.pv),.loc m] st=.ok (.bl (due p tt)) st:=by
 rw[ze (show T yeG=AA yk from rfl) rfl rfl];have ci:yw .notin .non (.lst (tt.map (Tm.val p)))=AA (.bl (okS p tt)):=by
  erw[yw,flat,zeQ,Be,zhP,Bool.not_not];rfl
 have hl2:(tt.map (Tm.val p)).length<=1000000:=by rw[AQ];lia
 have hc:=zct k M h;unfold due
 cases hb:okS p tt with
 |false=>
  rw[hb]at ci;simp! [yk,IC.seqOf,hc,zx _ hl2,ci,zm,CM]
 |true=>
  rw[hb]at ci;have hsum:yaa .sum st [.lst (tt.map (Tm.val p))]=AA (.int (tot p tt)):=by
   erw[yaa,yF,BY,zeu hb,BD]
  simp! [yk,IC.seqOf,hc,zx _ hl2,ci,hsum,zm,Be];rfl
def zlB{d:Ob}{fs:List (AW×PV)}{f:AW}{v:PV}(h:fs.length<1000):ybQ 20 [d,.ins 20 fs] (.loc 1) f v=AA [d,.ins 20 (ybP f v fs)]:=by
 erw[ybQ,A7,A6,BG,BH];rw[if_pos ⟨trivial,h⟩]
def zgO(k:Nat){d:Ob}{w n i j mk:Int}:yd T (k+1) y7 [.loc 1,.int w,.int n,.int i,.int j,.loc 0,.int mk] [d,.ins 20 []]=.ok .non [d,mob w n i j 0 mk]:=by
 rw[ze (show T y7=AA ym from rfl) rfl rfl];simp! [ym,zki,zlB,stO,ybP,show (0:Nat)<1000 from by lia,show (1:Nat)<1000 from by lia,show (2:Nat)<1000 from by lia,show (3:Nat)<1000 from by lia,show (4:Nat)<1000 from by lia,show (5:Nat)<1000 from by lia];rfl
def ze8(t:Th):nL t.pv=true:=by cases t<;>rfl
def zbQ:∀ts:List Th,nLs (ts.map Th.pv)=AD
 |[]=>rfl
 |t::ts=>by rw[AM,nLs,ze8,zbQ ts];rfl
def ze5(t:Tm):nL t.pv=true:=by
 erw[Tm.pv,nL,nLs,zbQ,E7,Be]
def zaE:∀ts:List Tm,nLs (ts.map Tm.pv)=AD
 |[]=>rfl
 |t::ts=>by rw[AM,nLs,ze5,zaE ts];rfl
def zdg(k:Nat){C:PV}(hp:p.Ok)(hC:ycm [] C=.ok (.loc 0) [.dct AD p.kvs])(nC:nL C=AD){tt:List Tm}(h:∀t∈tt,t.fine p)(hl:tt.length<=1000)(st:SO):
  yd T (k+5) yer [.tup (tt.map Tm.pv),.int p.w,.int p.n,.int p.i,.int p.j,C,.int p.mq] st=.ok (.bl (due p tt)) st:=by
 rw[zu (show T yer=AA ycA from rfl) rfl rfl (by simp[nLs,nL,zaE,nC])];have e1:=zgO (w:=p.w) (n:=p.n) (i:=p.i) (j:=p.j) (mk:=p.mq) (k+3) (d:=.dct AD p.kvs);have e2:=zgR (st:=[.dct AD p.kvs,mob p.w p.n p.i p.j 0 p.mq]) (m:=1) (L:=0) k ⟨rfl,rfl,hp⟩ h hl;erw[PV.tup]at e2;simp! [ycA,IC.ve33,hC,e1,ybh,newV,e2,zdH]
def stI:Css:=match yN.body with
 |.cons (.for _ _ (.cons _ (.cons (.for _ _ b) _))) _=>b
 |_=>.nil
def stB:Css:=match yN.body with
 |.cons (.for _ _ b) _=>b
 |_=>.nil
def zfU{st:SO}:yaO (.tp AG [.str yaI]) (AA 2) AC=AA (.tup []):=rfl
def ziA{l:AW}{a b:PV}:yaO (.tp AG [.str yG,.str l,a,b]) (AA 2) AC=AA (.tup [a,b]):=rfl
def atC:Ce:=.chain .le .le (.cst (.int 0)) (.call 13 (.cons (.var 0) (.cons (.var 1) (.cons (.var 2) (.cons (.var 3) .nil))))) (.cst (.int 100))
def zf2(k:Nat){n i j:Int}{x:Int×Int×Int×Int}{st:SO}(hn:big n)(hi:big i)(hj:big j):yaL (yd T (k+1)) [AC,AA (.int i),AA (.int j),AA (.int n)] (.n 0) (.cst (.bl AD)) atC (q4 x) st=.ok (AA (.bl (bd (pl x n i j)))) st:=by
 have p:=zbB k (a:=x.1) (b:=x.2.1) (c:=x.2.2.1) (d:=x.2.2.2) hn hi hj st;erw[PV.tup]at p;simp! [yaL,atC,p,q4];generalize hs:x.1+x.2.1*i+x.2.2.1*j+x.2.2.2*n=s;erw[bd,pl,hs]
 by_cases h0:0<=s
 .simp! [blO,h0,decide_true,Be]
 .simp! [blO,h0,decide_false,CM]
def ziI(k:Nat)(hp:p.Ok){t:Th}(ht:t.fine p){st:SO}{a0 a1 a5 a6 a7:Option PV}:
  exs (yd T (k+1)) [a0,a1,AA (.int p.n),AA (.int p.i),AA (.int p.j),a5,a6,a7,AA t.pv] st stI=.nx [a0,a1,AA (.int p.n),AA (.int p.i),AA (.int p.j),a5,a6,a7,AA t.pv] st:=by
 have hb:stI=.cons (.ite (.not (.blt .all (.cons (.comp [AC,AA 3,AA 4,AA 2] (.n 0) (.seq (.slc (.var 8) (.cst (.int 2)) (.cst .non))) (.cst (.bl AD)) atC) .nil))) (.cons .nope .nil) .nil) .nil:=rfl;rw[hb]
 cases t with
 |mark=>
  have ha:yaa .all st [.lst []]=AA (.bl AD):=rfl;simp! [Th.pv,yaV,onP,ya7,zfU,IC.seqOf,zbE,zx [] (by simp),ha]
 |sl l lo up=>
  have c1:=zf2 k (x:=lo) (st:=st) hp.hn hp.hi hp.hj;have c2:=zf2 k (x:=up) (st:=st) hp.hn hp.hi hp.hj;rw[ht.2.1]at c1;rw[ht.2.2.1]at c2;have cm:yS (yd T (k+1)) [AC,AA (.int p.i),AA (.int p.j),AA (.int p.n)] (.n 0) (.cst (.bl AD)) atC [q4 lo,q4 up] st=.ok [.bl AD,.bl AD] st:=by
   rw[zf,c1];erw[R.bind];rw[zf,c2];rfl
  have ha:yaa .all st [.lst [.bl AD,.bl AD]]=AA (.bl AD):=rfl;erw[q4,PV.tup]at cm;simp! [Th.pv,yaV,onP,ya7,ziA,IC.seqOf,q4,cm,zx [PV.bl AD,.bl AD] (by simp),ha]
def zgj(k:Nat)(hp:p.Ok){st:SO}{a0 a1 a5 a6 a7:Option PV}:∀(ts:List Th),(∀t∈ts,t.fine p)->∀(u:Option PV),∃u',ya4 (yd T (k+1)) (.n 8) stI (ts.map Th.pv) [a0,a1,AA (.int p.n),AA (.int p.i),AA (.int p.j),a5,a6,a7,u] st=.nx [a0,a1,AA (.int p.n),AA (.int p.i),AA (.int p.j),a5,a6,a7,u'] st
 |[],_,u=>⟨u,rfl⟩
 |t::ts,ht,u=>by
  let⟨u',e⟩:=zgj k hp (st:=st) (a0:=a0) (a1:=a1) (a5:=a5) (a6:=a6) (a7:=a7) ts (λt h=>ht t (AN _ h)) (AA t.pv);refine⟨u',?_⟩;rw[AM,zh (ρ1:=[a0,a1,AA (.int p.n),AA (.int p.i),AA (.int p.j),a5,a6,a7,AA t.pv]) rfl,ziI k hp (ht t A0)];erw[yah];exact e
def zk2(hp:p.Ok):big p.w:=by
 have:=hp.w0;have:=hp.w1
 show p.w.natAbs<_;lia
def zgt(k:Nat)(hp:p.Ok){t:Tm}(ht:t.fine p){st:SO}{a0 u8:Option PV}:∃u',
  exs (yd T (k+2)) [a0,AA (.int p.w),AA (.int p.n),AA (.int p.i),AA (.int p.j),AA (.int t.f),AA (yK t.x),AA (.tup (t.ts.map Th.pv)),u8] st stB=if t.ok p then .nx [a0,AA (.int p.w),AA (.int p.n),AA (.int p.i),AA (.int p.j),AA (.int t.f),AA (yK t.x),AA (.tup (t.ts.map Th.pv)),u'] st else .rt (.bl AG) st:=by
 have hb:stB=.cons (.ite (.not (.chain .le .le (.cst (.int 0)) (.call 23 (.cons (.var 6) (.cons (.tup (.cons (.var 1) (.cons (.var 2) .nil))) (.cons (.var 3) (.cons (.var 4) .nil))))) (.cst (.int 2000)))) (.cons (.ret (.cst (.bl AG))) .nil) .nil) (.cons (.for (.n 8) (.seq (.var 7)) stI) .nil):=rfl;have he:=zeO (k+1) (st:=st) (c:=t.x.1) (a:=t.x.2.1) (b:=t.x.2.2.1) (p:=t.x.2.2.2.1) (q:=t.x.2.2.2.2.1) (r:=t.x.2.2.2.2.2) (zk2 hp) hp.hn hp.hi hp.hj;erw[PV.tup]at he;let⟨u',el⟩:=zgj (k+1) hp (st:=st) (a0:=a0) (a1:=AA (.int p.w)) (a5:=AA (.int t.f)) (a6:=AA (yK t.x)) (a7:=AA (.tup (t.ts.map Th.pv))) t.ts ht.s u8;refine⟨u',?_⟩;rw[hb];erw[PV.tup,yK]at el;simp! [yK,he];unfold Tm.ok;generalize hs:ex6 p t.x=s;have hs':ybF p.w p.n p.i p.j t.x.1 t.x.2.1 t.x.2.2.1 t.x.2.2.2.1 t.x.2.2.2.2.1 t.x.2.2.2.2.2=s:=hs;rw[hs']
 by_cases h0:0<=s
 .by_cases h1:s<=2000
  .simp! [blO,h0,h1,decide_true,bd2,IC.seqOf,el]
  .simp! [blO,h0,h1,decide_true,decide_false,bd2,Bool.and_false,CM];rfl
 .simp! [blO,h0,decide_false,bd2,CM];rfl
def zcg(k:Nat)(hp:p.Ok){st:SO}{a0:Option PV}:∀(tt:List Tm),(∀t∈tt,t.fine p)->∀(u5 u6 u7 u8:Option PV),∃v5 v6 v7 v8,ya4 (yd T (k+2)) (.t [5,6,7]) stB (tt.map Tm.pv) [a0,AA (.int p.w),AA (.int p.n),AA (.int p.i),AA (.int p.j),u5,u6,u7,u8] st =
  if okS p tt then .nx [a0,AA (.int p.w),AA (.int p.n),AA (.int p.i),AA (.int p.j),v5,v6,v7,v8] st else .rt (.bl AG) st
 |[],_,u5,u6,u7,u8=>⟨u5,u6,u7,u8,rfl⟩
 |t::tt,ht,u5,u6,u7,u8=>by
  let⟨u',e1⟩:=zgt k hp (ht t A0) (st:=st) (a0:=a0) (u8:=u8);let⟨v5,v6,v7,v8,e⟩:=zcg k hp (st:=st) (a0:=a0) tt (λt h=>ht t (AN _ h)) (AA (.int t.f)) (AA (yK t.x)) (AA (.tup (t.ts.map Th.pv))) u';refine⟨v5,v6,v7,v8,?_⟩;rw[AM,zh (ρ1:=[a0,AA (.int p.w),AA (.int p.n),AA (.int p.i),AA (.int p.j),AA (.int t.f),AA (yK t.x),AA (.tup (t.ts.map Th.pv)),u8]) rfl,e1];unfold okS at e ⊢;rw[Au]
  cases t.ok p with
  |false=>rfl
  |true=>erw[if_true,yah,Be];exact e
theorem stands(k:Nat)(hp:p.Ok){tt:List Tm}(ht:∀t∈tt,t.fine p)(st:SO):
  yd T (k+3) yfs [.tup (tt.map Tm.pv),.int p.w,.int p.n,.int p.i,.int p.j] st=.ok (.bl (okS p tt)) st:=by
 rw[zu (show T yfs=AA yN from rfl) rfl rfl (by simp[nLs,nL,zaE])];have hb:yN.body=.cons (.for (.t [5,6,7]) (.seq (.var 0)) stB) (.cons (.ret (.cst (.bl AD))) .nil):=rfl;let⟨v5,v6,v7,v8,e⟩:=zcg k hp (st:=[]) (a0:=AA (.tp AG (tt.map Tm.pv))) tt ht AC AC AC AC;rw[hb];simp! [yN,IC.seqOf,e]
 cases okS p tt<;>rfl
end
def ltO:Css:=match yW.body with
 |.cons _ (.cons _ (.cons (.for _ _ b) _))=>b
 |_=>.nil
def ltI:Css:=match ltO with
 |.cons _ (.cons _ (.cons (.for _ _ b) _))=>b
 |_=>.nil
section
variable {st:SO}{L:Nat}{p:Mp}
def zjk(k:Nat)(hp:p.Ok)(hd:st[L]?=AA (.dct AD p.kvs)){t:Th}(ht:t.fine p){v:Int}{a0 a7 a8 a9 a10 u11 u14:Option PV}:∃v11 v14,
  exs (yd T (k+1)) [a0,AA (.tup [.int p.w,.int p.n]),AA (.int p.i),AA (.int p.j),AA (.loc L),AA (.int p.mq),AA (.int (2^p.w.toNat)),a7,a8,a9,a10,u11,AA (.int v),AA t.pv,u14] st ltI =
   .nx [a0,AA (.tup [.int p.w,.int p.n]),AA (.int p.i),AA (.int p.j),AA (.loc L),AA (.int p.mq),AA (.int (2^p.w.toNat)),a7,a8,a9,a10,v11,AA (.int (v*t.wo p)),AA t.pv,v14] st:=by
 have hB:=zgr hp ht
 cases t with
 |mark=>
  refine⟨u11,u14,?_⟩;have e:=zk (i:=v) hp.hm;simp! [ltI,ltO,yW,Th.pv,ix0,zi2,e,Th.wo]
 |sl l lo up=>
  refine⟨AA (.int (pl up p.n p.i p.j)),AA (.int (pl lo p.n p.i p.j)),?_⟩;have p1:=λst=>zbB k (a:=lo.1) (b:=lo.2.1) (c:=lo.2.2.1) (d:=lo.2.2.2) hp.hn hp.hi hp.hj st;have p2:=λst=>zbB k (a:=up.1) (b:=up.2.1) (c:=up.2.2.1) (d:=up.2.2.2) hp.hn hp.hi hp.hj st;let⟨q0,q1,q2,q3⟩:=ht;erw[bd,AH,decide_eq_true_eq]at q1 q2;have sl:=zev k (l:=l) (lo:=pl lo p.n p.i p.j) (hi:=pl up p.n p.i p.j) q0 hp.c hd hp.w0 hp.w1 ∅ ∅ ∅ ∅;have e:=zk (i:=v) hB;erw[Th.wo]at e;erw[PV.tup,pl]at p1 p2 sl e;simp! [ltI,ltO,yW,Th.pv,ix0,ix1,ix2,ix3,ziq,p1,p2,q4,sl,e,Th.wo,pl]
def zgh(k:Nat)(hp:p.Ok)(hd:st[L]?=AA (.dct AD p.kvs)){a0 a7 a8 a9 a10:Option PV}:∀(ts:List Th),(∀t∈ts,t.fine p)->∀(v:Int) (u11 u13 u14:Option PV),∃v11 v13 v14,
  ya4 (yd T (k+1)) (.n 13) ltI (ts.map Th.pv) [a0,AA (.tup [.int p.w,.int p.n]),AA (.int p.i),AA (.int p.j),AA (.loc L),AA (.int p.mq),AA (.int (2^p.w.toNat)),a7,a8,a9,a10,u11,AA (.int v),u13,u14] st =
   .nx [a0,AA (.tup [.int p.w,.int p.n]),AA (.int p.i),AA (.int p.j),AA (.loc L),AA (.int p.mq),AA (.int (2^p.w.toNat)),a7,a8,a9,a10,v11,AA (.int (tsW p ts v)),v13,v14] st
 |[],_,v,u11,u13,u14=>⟨u11,u13,u14,rfl⟩
 |t::ts,ht,v,u11,u13,u14=>by
  let⟨w11,w14,e1⟩:=zjk k hp hd (ht t A0) (v:=v) (a0:=a0) (a7:=a7) (a8:=a8) (a9:=a9) (a10:=a10) (u11:=u11) (u14:=u14);let⟨v11,v13,v14,e⟩:=zgh k hp hd (a0:=a0) (a7:=a7) (a8:=a8) (a9:=a9) (a10:=a10) ts (λt h=>ht t (AN _ h)) (v*t.wo p) w11 (AA t.pv) w14;refine⟨v11,v13,v14,?_⟩;rw[AM,zh (ρ1:=[a0,AA (.tup [.int p.w,.int p.n]),AA (.int p.i),AA (.int p.j),AA (.loc L),AA (.int p.mq),AA (.int (2^p.w.toNat)),a7,a8,a9,a10,u11,AA (.int v),AA t.pv,u14]) rfl,e1];erw[yah];exact e
def Tm.lf(p:Mp)(t:Tm):Prop:=big t.f \/ ex6 p t.x<=60
def zhC(k:Nat)(hp:p.Ok)(hd:st[L]?=AA (.dct AD p.kvs)){t:Tm}(ht:t.fine p)(hq:t.lf p)(hk:t.ok p=AD){v:Int}{a0 u11 u12 u13 u14:Option PV}:∃v11 v12 v13 v14,
  exs (yd T (k+1)) [a0,AA (.tup [.int p.w,.int p.n]),AA (.int p.i),AA (.int p.j),AA (.loc L),AA (.int p.mq),AA (.int (2^p.w.toNat)),AA (.int v),AA (.int t.f),AA (yK t.x),AA (.tup (t.ts.map Th.pv)),u11,u12,u13,u14] st ltO =
   .nx [a0,AA (.tup [.int p.w,.int p.n]),AA (.int p.i),AA (.int p.j),AA (.loc L),AA (.int p.mq),AA (.int (2^p.w.toNat)),AA (.int (v+t.wo p)),AA (.int t.f),AA (yK t.x),AA (.tup (t.ts.map Th.pv)),v11,v12,v13,v14] st:=by
 have hb:ltO=.cons (.asg (.n 11) (.call 23 (.cons (.var 9) (.cons (.var 1) (.cons (.var 2) (.cons (.var 3) .nil)))))) (.cons (.asg (.n 12) (.bin .mul (.var 8) (.bin .shl (.cst (.int 1)) (.var 11)))) (.cons (.for (.n 13) (.seq (.var 10)) ltI) (.cons (.aug 7 .add (.var 12)) .nil))):=rfl;have he:=zeO k (st:=st) (c:=t.x.1) (a:=t.x.2.1) (b:=t.x.2.2.1) (p:=t.x.2.2.2.1) (q:=t.x.2.2.2.2.1) (r:=t.x.2.2.2.2.2) (zk2 hp) hp.hn hp.hi hp.hj;have hs:ybF p.w p.n p.i p.j t.x.1 t.x.2.1 t.x.2.2.1 t.x.2.2.2.1 t.x.2.2.2.2.1 t.x.2.2.2.2.2=ex6 p t.x:=rfl;rw[hs]at he;unfold Tm.ok at hk;unfold Tm.lf at hq;let⟨v11,v13,v14,el⟩:=zgh k hp hd (a0:=a0) (a7:=AA (.int v)) (a8:=AA (.int t.f)) (a9:=AA (yK t.x)) (a10:=AA (.tup (t.ts.map Th.pv))) t.ts ht.s (t.f*2^(ex6 p t.x).toNat) (AA (.int (ex6 p t.x))) u13 u14;refine⟨v11,AA (.int (t.wo p)),v13,v14,?_⟩;have hw:tsW p t.ts (t.f*2^(ex6 p t.x).toNat)=t.wo p:=rfl;rw[hw]at el;generalize ex6 p t.x=E at *;erw[bd2,AH,decide_eq_true_eq]at hk;have s1:yr .shl (.int 1) (.int E)=AA (.int (2^E.toNat)):=by
  erw[yr,binI];rw[if_pos ⟨hk.1,by lia,by decide⟩,IE]
 have s2:yr .mul (.int t.f) (.int (2^E.toNat))=AA (.int (t.f*2^E.toNat)):=by
  rcases hq with h|h
  .exact zaH h
  .refine zk ?_;have h1:(2:Int)^E.toNat<=1152921504606846976:=zbq (b:=60) ∅;have h2:(0:Int)<2^E.toNat:=Fa ⋯;show ((2:Int)^E.toNat).natAbs<_;lia
 rw[hb];erw[PV.tup,yK]at el he;simp! [yK,he,s1,s2,IC.seqOf,el];rw[zh0 (x:=.int v) rfl];rfl
def zcd(k:Nat)(hp:p.Ok)(hd:st[L]?=AA (.dct AD p.kvs)){a0:Option PV}:∀(tt:List Tm),(∀t∈tt,t.fine p/\t.lf p)->okS p tt=AD->∀(v:Int) (u8 u9 u10 u11 u12 u13 u14:Option PV),∃v8 v9 v10 v11 v12 v13 v14,
  ya4 (yd T (k+1)) (.t [8,9,10]) ltO (tt.map Tm.pv) [a0,AA (.tup [.int p.w,.int p.n]),AA (.int p.i),AA (.int p.j),AA (.loc L),AA (.int p.mq),AA (.int (2^p.w.toNat)),AA (.int v),u8,u9,u10,u11,u12,u13,u14] st =
   .nx [a0,AA (.tup [.int p.w,.int p.n]),AA (.int p.i),AA (.int p.j),AA (.loc L),AA (.int p.mq),AA (.int (2^p.w.toNat)),AA (.int (v+tot p tt)),v8,v9,v10,v11,v12,v13,v14] st
 |[],_,_,v,u8,u9,u10,u11,u12,u13,u14=>⟨u8,u9,u10,u11,u12,u13,u14,by rw[tot,Hn];rfl⟩
 |t::tt,ht,hk,v,u8,u9,u10,u11,u12,u13,u14=>by
  unfold okS at hk;rw[Au,AH]at hk;let⟨w11,w12,w13,w14,e1⟩:=zhC k hp hd (ht t A0).1 (ht t A0).2 hk.1 (v:=v) (a0:=a0) (u11:=u11) (u12:=u12) (u13:=u13) (u14:=u14);let⟨v8,v9,v10,v11,v12,v13,v14,e⟩:=zcd k hp hd (a0:=a0) tt (λt h=>ht t (AN _ h)) hk.2 (v+t.wo p) (AA (.int t.f)) (AA (yK t.x)) (AA (.tup (t.ts.map Th.pv))) w11 w12 w13 w14;refine⟨v8,v9,v10,v11,v12,v13,v14,?_⟩;rw[AM,zh (ρ1:=[a0,AA (.tup [.int p.w,.int p.n]),AA (.int p.i),AA (.int p.j),AA (.loc L),AA (.int p.mq),AA (.int (2^p.w.toNat)),AA (.int v),AA (.int t.f),AA (yK t.x),AA (.tup (t.ts.map Th.pv)),u11,u12,u13,u14]) rfl,e1,tot,<-HW];erw[yah];exact e
def zbF(k:Nat)(hp:p.Ok)(hd:st[L]?=AA (.dct AD p.kvs)){tt:List Tm}(ht:∀t∈tt,t.fine p/\t.lf p)(hk:okS p tt=AD):
  yd T (k+2) yfx [.tup (tt.map Tm.pv),.tup [.int p.w,.int p.n],.int p.i,.int p.j,.loc L,.int p.mq] st=.ok (.int (tot p tt)) st:=by
 rw[ze (show T yfx=AA yW from rfl) rfl rfl];have hb:yW.body=.cons (.asg (.n 6) (.call 12 (.cons (.idx (.var 1) (.cst (.int 0))) .nil))) (.cons (.asg (.n 7) (.cst (.int 0))) (.cons (.for (.t [8,9,10]) (.seq (.var 0)) ltO) (.cons (.ret (.var 7)) .nil))):=rfl;have t2:=λst=>zeB k p.w.toNat (by have:=hp.w1;lia) st;rw[Do hp.w0]at t2;let⟨v8,v9,v10,v11,v12,v13,v14,e⟩:=zcd k hp hd (a0:=AA (.tup (tt.map Tm.pv))) tt ht hk 0 AC AC AC AC AC AC AC;rw[Int.zero_add]at e;rw[hb];erw[PV.tup]at e;simp! [yW,ix0,t2,IC.seqOf,e,zm]
def zbV(k:Nat)(hp:p.Ok)(hd:st[L]?=AA (.dct AD p.kvs)){tt:List Tm}(ht:∀t∈tt,t.fine p/\t.lf p):
  yd T (k+4) yfN [.tup (tt.map Tm.pv),.tup [.int p.w,.int p.n],.int p.i,.int p.j,.loc L,.int p.mq] st=.ok (.bl (due p tt)) st:=by
 rw[ze (show T yfN=AA yL from rfl) rfl rfl];have h1:=λst=>stands k hp (λt h=>(ht t h).1) (tt:=tt) st;have hb:yL.body=.cons (.ite (.not (.call 16 (.cons (.var 0) (.cons (.idx (.var 1) (.cst (.int 0))) (.cons (.idx (.var 1) (.cst (.int 1))) (.cons (.var 2) (.cons (.var 3) .nil))))))) (.cons (.ret (.cst (.bl AG))) .nil) .nil) (.cons (.ret (.cmp .eq (.call 18 (.cons (.var 0) (.cons (.var 1) (.cons (.var 2) (.cons (.var 3) (.cons (.var 4) (.cons (.var 5) .nil))))))) (.cst (.int 0)))) .nil):=rfl;rw[hb];unfold due
 cases hk:okS p tt with
 |false=>
  rw[hk]at h1;erw[PV.tup]at h1;simp! [yL,ix0,ix1,h1,zm,CM]
 |true=>
  rw[hk]at h1;have h2:=zbF (k+1) hp hd ht hk;erw[PV.tup]at h1 h2;simp! [yL,ix0,ix1,h1,h2,zm,Be];rfl
end
abbrev yab:=(AW×Int)×Int
def yaf(q:AW×Int):PV:=.tup [.str q.1,.int q.2]
def yau(c:yab):PV×PV:=(yaf c.1,.int c.2)
def hanP(c:yab):PV:=.tup [yaf c.1,.int c.2]
structure yaU(W:Int)(cs:List yab):Prop where
 nd:cs.Pairwise λa b=>a.1≠b.1
 ok:∀c∈cs,ltr c.1.1/\0<=c.2/\c.2<W
def zcM(a b:AW×Int):peq (yaf a) (yaf b)=decide (a=b):=by
 let⟨l,x⟩:=a;let⟨m,y⟩:=b;erw[yaf,PV.tup,peq,ybA,Bool.and_true]
 by_cases h:l=m
 .by_cases g:x=y
  .simp[h,g]
  .simp[h,g]
 .simp[h]
def zf8{W:Int}{cs:List yab}(h:yaU W cs):yaF W (cs.map yau):=λp hp=>by
 let⟨c,hc,rfl⟩:=FE.1 hp;exact⟨c.1.1,c.1.2,c.2,rfl,(h.ok c hc).2⟩
def gC:List yab->AW×Int->Int
 |[],_=>0
 |c::r,q=>if c.1=q then c.2 else gC r q
def zhi:∀(cs:List yab) (l:AW) (a:Int),gv (cs.map yau) l a=gC cs (l,a)
 |[],_,_=>rfl
 |c::r,l,a=>by
  have ih:=zhi r l a;unfold gv at ih ⊢;rw[AM,gC];erw[yau];rw[look,show peq (yaf c.1) (.tup [.str l,.int a])=decide (c.1=(l,a))from zcM c.1 (l,a)]
  by_cases h:c.1=(l,a)
  .simp[h]
  .simp only[h,decide_false,if_false,Bn];exact ih
def zdX:∀{cs:List yab},(cs.Pairwise λa b=>a.1≠b.1)->∀{c:yab},c∈cs->gC cs c.1=c.2
 |d::r,nd,c,h=>by
  rw[GJ]at nd;rw[gC];rcases Ac.1 h with rfl|h
  .rw[if_pos rfl]
  .rw[if_neg (nd.1 c h),zdX nd.2 h]
def zeA:∀{cs:List yab} {q:AW×Int},(∀c∈cs,c.1≠q)->gC cs q=0
 |[],_,_=>rfl
 |d::r,q,h=>by
  rw[gC,if_neg (h d A0),zeA λc hc=>h c (AN _ hc)]
theorem yaU.rev{W:Int}{cs:List yab}(h:yaU W cs):yaU W cs.reverse:=
 ⟨List.pairwise_reverse.2 (h.nd.imp λh=>B0 h),λc hc=>h.ok c (D7.1 hc)⟩
def zj4{W:Int}{cs:List yab}(h:yaU W cs)(q:AW×Int):gC cs.reverse q=gC cs q:=by
 by_cases e:∃c∈cs,c.1=q
 .let⟨c,hc,rfl⟩:=e;rw[zdX h.nd hc,zdX h.rev.nd (D7.2 hc)]
 .have e1:∀c∈cs,c.1≠q:=λc hc g=>e ⟨c,hc,g⟩;rw[zeA e1,zeA λc hc=>e1 c (D7.1 hc)]
def zdS(cs:List yab)(q:AW×Int):((cs.map yau).any λp=>peq p.1 (yaf q))=decide (∃c∈cs,c.1=q):=by
 rw[FI];erw[Cp,FE,decide_eq_true_eq];constructor
 .rintro⟨p,⟨c,hc,rfl⟩,e⟩
  erw[yau,zcM,decide_eq_true_eq]at e;exact⟨c,hc,e⟩
 .rintro⟨c,hc,e⟩
  exact⟨yau c,⟨c,hc,rfl⟩,by erw[yau,zcM,decide_eq_true_eq];exact e⟩
def zeH{cs:List yab}{q:AW×Int}{v:Int}(h:∀c∈cs,c.1≠q):put (yaf q) (.int v) (cs.map yau)=(cs++[(q,v)]).map yau:=by
 unfold put;rw[zdS,if_neg (by erw[decide_eq_true_eq];rintro⟨c,hc,e⟩;exact h c hc e),B8];rfl
def chg(q:AW×Int)(v:Int)(cs:List yab):List yab:=cs.map λc=>if c.1=q then(c.1,v)else c
def zhZ{cs:List yab}{q:AW×Int}{v:Int}(h:∃c∈cs,c.1=q):put (yaf q) (.int v) (cs.map yau)=(chg q v cs).map yau:=by
 unfold put chg;rw[zdS,if_pos (by erw[decide_eq_true_eq];exact h),G7,G7];refine List.map_congr_left λc _=>?_;erw[Function.comp_apply,yau,zcM,decide_eq_true_eq]
 by_cases e:c.1=q
 .simp[e]
 .simp[e]
def zix{W:Int}{cs:List yab}{q:AW×Int}{v:Int}(h:yaU W cs)(v0:0<=v)(v1:v<W):yaU W (chg q v cs):=by
 have hk:∀c:yab,(if c.1=q then(c.1,v)else c).1=c.1:=λc=>by split<;>rfl
 refine⟨?_,λc hc=>?_⟩
 .unfold chg;rw[List.pairwise_map];exact h.nd.imp λ{a b} g=>by rw[hk,hk];exact g
 .let⟨d,hd,rfl⟩:=FE.1 hc;have:=h.ok d hd;split
  .exact⟨this.1,v0,v1⟩
  .exact this
def zil{W:Int}{cs:List yab}{q:AW×Int}{v:Int}(h:yaU W cs)(hq:∀c∈cs,c.1≠q)(l:ltr q.1)(v0:0<=v)(v1:v<W):yaU W (cs++[(q,v)]):=by
 refine⟨Fb.2 ⟨h.nd,List.pairwise_singleton _ _,λa ha b hb=>?_⟩,λc hc=>?_⟩
 .rw[BU]at hb;subst hb;exact hq a ha
 .rcases Av.1 hc with hc|hc
  .exact h.ok c hc
  .rw[BU]at hc;subst hc;exact⟨l,v0,v1⟩
def zgk{q:AW×Int}(h:ltr q.1):isKey AD (yaf q)=true:=by
 show (q.1.cps.all (· < 0x110000)&&(AD&&AD))=AD;rw[h];rfl
def zcQ:∀{cs:List yab},(∀c∈cs,ltr c.1.1)->ycn (cs.map hanP)=AA (cs.map yau)
 |[],_=>rfl
 |c::r,h=>by
  rw[AM,ycn,zcQ λc hc=>h c (AN _ hc)];show ((if isKey AD (yaf c.1)=AD then AA (yaf c.1,PV.int c.2)else AC).bind _)=_;rw[if_pos (zgk (h c A0))];rfl
def ze1{cs:List yab}:∀{acc:List yab},((acc++cs).Pairwise λa b=>a.1≠b.1)->(cs.map yau).foldl (λacc kv=>put kv.1 kv.2 acc) (acc.map yau)=(acc++cs).map yau:=by
 induction cs with
 |nil=>intro acc _;rw[Cd];rfl
 |cons c r ih=>
  intro acc h;rw[AM,Cf];have h2:=h;rw[Fb]at h2;show List.foldl _ (put (yaf c.1) (.int c.2) _) _=_;rw[zeH (λd hd=>h2.2.2 d hd c A0)];have e:acc++c::r=(acc++[c])++r:=by simp
  rw[e]at h ⊢;exact ih h
def zeP{W:Int}{cs:List yab}(h:yaU W cs)(hl:cs.length<=1000):ycm [] (.tup (cs.map hanP))=.ok (.loc 0) [.dct AD (cs.map yau)]:=by
 erw[ycm,PV.tup,zcQ (λc hc=>(h.ok c hc).1),AQ];rw[if_pos hl];have:=ze1 (cs:=cs) (acc:=[]) (by rw[CD];exact h.nd);rw[CD,BA]at this;rw[this];rfl
def za2:∀cs:List yab,nL (.tup (cs.map hanP))=AD
 |[]=>rfl
 |c::r=>by
  have:=za2 r;erw[PV.tup,nL]at this ⊢;rw[AM,nLs,this];rfl
def zfo{st:SO}{L:Nat}{cs:List yab}(h:st[L]?=AA (.dct AD (cs.map yau)))(hl:cs.length<=1000):ycU st (AA (AA (.loc L)))=.ok (.lst (cs.map hanP)) st:=by
 erw[ycU,yR,h,AQ,G7];rw[if_pos hl];rfl
def Mp.with(p:Mp)(cs:List yab):Mp:=⟨p.w,p.n,p.i,p.j,p.mq,cs.map yau⟩
def zfc{k1 k2:List (PV×PV)}(h:∀l a,gv k1 l a=gv k2 l a)(p:Mp)(tt:List Tm):due ⟨p.w,p.n,p.i,p.j,p.mq,k1⟩ tt=due ⟨p.w,p.n,p.i,p.j,p.mq,k2⟩ tt:=by
 have e:∀l,gv k1 l=gv k2 l:=λl=>funext λa=>h l a;have e0:Th.wo ⟨p.w,p.n,p.i,p.j,p.mq,k1⟩=Th.wo ⟨p.w,p.n,p.i,p.j,p.mq,k2⟩:=by
  funext t
  cases t with
  |mark=>rfl
  |sl l lo hi=>erw[Th.wo,e]
 have e1:Tm.wo ⟨p.w,p.n,p.i,p.j,p.mq,k1⟩=Tm.wo ⟨p.w,p.n,p.i,p.j,p.mq,k2⟩:=by
  funext t
  unfold Tm.wo tsW;rw[e0]
 have e2:∀tt,tot ⟨p.w,p.n,p.i,p.j,p.mq,k1⟩ tt=tot ⟨p.w,p.n,p.i,p.j,p.mq,k2⟩ tt:=λtt=>by
  induction tt with
  |nil=>rfl
  |cons t r ih=>rw[tot,tot,ih,e1]
 unfold due;rw[e2];rfl
theorem Drw.pos{ns:List Int}{st:SO}(h:Drw ns 0 st):0<st.length:=by
 let⟨a,p,f,ha,h⟩:=h;rcases G4 0 st.length with z|z
 .exact z
 .rw[BQ z]at h;cases h
theorem Drw.app{ns:List Int}{st:SO}(h:Drw ns 0 st)(o:Ob):Drw ns 0 (st++[o]):=by
 have hl:=h.pos;let⟨a,p,f,ha,h⟩:=h;exact⟨a,p,f,ha,by rw[Ae hl];exact h⟩
theorem Drw.put{ns:List Int}{st:SO}(h:Drw ns 0 st){L:Nat}(hL:L≠0)(o:Ob):Drw ns 0 (st.set L o):=by
 let⟨a,p,f,ha,h⟩:=h;exact⟨a,p,f,ha,by rw[Aq hL];exact h⟩
theorem Onl.get{ns:List Int}{st st':SO}(o:Onl ns 0 st st'){L:Nat}(hL:L≠0):st'[L]?=st[L]?:=by
 let⟨a,p,f,ha,rfl⟩:=o;rw[Aq (B0 hL)]
theorem Onl.len{ns:List Int}{n:Nat}{st st':SO}(o:Onl ns n st st'):st'.length=st.length:=by
 let⟨a,p,f,ha,rfl⟩:=o;rw[Az]
structure Frm(ns:List Int)(B st:SO):Prop where
 dr:Drw ns 0 st
 len:B.length<=st.length
 get:∀m,m≠0->m<B.length->st[m]?=B[m]?
section
variable {ns:List Int}{B st st':SO}{p:Mp}
theorem Frm.refl(h:Drw ns 0 st):Frm ns st st:=⟨h,AR _,λ_ _ _=>rfl⟩
theorem Frm.app(h:Frm ns B st)(o:Ob):Frm ns B (st++[o]):=⟨h.dr.app o,by have:=h.len;simp;lia,λm h0 h1=>by
 have:=h.len;rw[Ae ∅];exact h.get m h0 h1⟩
theorem Frm.put(h:Frm ns B st){L:Nat}(hL:L≠0)(hB:B.length<=L)(o:Ob):Frm ns B (st.set L o):=⟨h.dr.put hL o,by rw[Az];exact h.len,λm h0 h1=>by
 rw[Aq ∅];exact h.get m h0 h1⟩
theorem Onl.frm(h:Frm ns B st)(o:Onl ns 0 st st'):Frm ns B st':=⟨o.drw h.dr,by rw[o.len];exact h.len,λm h0 h1=>by rw[o.get h0];exact h.get m h0 h1⟩
theorem Frm.trans{C:SO}(h:Frm ns B st)(g:Frm ns st C):Frm ns B C:=⟨g.dr,BV h.len g.len,λm h0 h1=>by
 have:=h.len;rw[g.get m h0 ∅];exact h.get m h0 h1⟩
def zas{st:SO}{L:Nat}{xs:List PV}{v:PV}(h:st[L]?=AA (.lst xs))(hl:xs.length<1000):yaA .append st (.loc L)=AA AD/\ybK .append st (.loc L) [v]=.ok .non (st.set L (.lst (xs++[v]))):=by
 refine⟨by simp[yaA,yF,h],?_⟩;erw[ybK,ydG,h];rw[if_pos ∅]
def zE{xs ys:List PV}(h:xs.length+ys.length<=1000):yr .add (.tp AG xs) (.tp AG ys)=AA (.tp AG (xs++ys)):=by
 erw[yr];rw[if_pos (by show _<=sizeMax;erw[sizeMax];lia)]
 cases xs with
 |nil=>rfl
 |cons x xs=>cases ys with
  |nil=>rw[Cd];rfl
  |cons y ys=>rfl
def zk3{a b c d:PV}:yaO (.tp AG [a,b,c,d]) (AA 1) AC=AA (.tup [b,c,d]):=rfl
structure Rg(p:Mp):Prop where
 i0:0<=p.i
 i1:p.i<=3
 j0:0<=p.j
 j1:p.j<=3
 n0:1<=p.n
 n1:p.n<=4
theorem index(k:Nat)(hns:ns.length<=1000)(R:Rg p)(h:Drw ns 0 st):∃x st',Onl ns 0 st st'/\0<=pl x p.n p.i p.j/\pl x p.n p.i p.j<=6/\yd T (k+4) yfo [.loc 0,.int 2] st=.ok (q4 x) st':=by
 let⟨d,s1,d0,d1,o1,e1⟩:=zkR k hns (m:=6) ∅ ∅ h;let⟨a,s2,a0,a1,o2,e2⟩:=zkR k hns (m:=2+1) ∅ ∅ (o1.drw h);have int3:∀b,yaa .int s2 [.bl b]=AA (.int (bi b)):=λ_=>rfl;let⟨i0,i1,j0,j1,n0,n1⟩:=R;have hw:0<=pl (a,bi (d==1),bi (d==2),bi (d==3)) p.n p.i p.j/\pl (a,bi (d==1),bi (d==2),bi (d==3)) p.n p.i p.j<=6:=by
  have hd:d=0 \/ d=1 \/ d=2 \/ d=3 \/ d=4 \/ d=5:=by lia
  have z:bi AG=0:=rfl;have u:bi AD=1:=rfl;rcases hd with rfl|rfl|rfl|rfl|rfl|rfl
  .show 0<=a+0*p.i+0*p.j+0*p.n/\a+0*p.i+0*p.j+0*p.n<=6;lia
  .show 0<=a+1*p.i+0*p.j+0*p.n/\a+1*p.i+0*p.j+0*p.n<=6;lia
  .show 0<=a+0*p.i+1*p.j+0*p.n/\a+0*p.i+1*p.j+0*p.n<=6;lia
  .show 0<=a+0*p.i+0*p.j+1*p.n/\a+0*p.i+0*p.j+1*p.n<=6;lia
  .show 0<=a+0*p.i+0*p.j+0*p.n/\a+0*p.i+0*p.j+0*p.n<=6;lia
  .show 0<=a+0*p.i+0*p.j+0*p.n/\a+0*p.i+0*p.j+0*p.n<=6;lia
 refine⟨(a,bi (d==1),bi (d==2),bi (d==3)),s2,o1.trans o2,hw.1,hw.2,?_⟩;rw[ze (show T yfo=AA yei from rfl) rfl rfl];have e2':yd T (k+3) yi [.loc 0,.int 3] s1=.ok (.int a) s2:=e2;simp! [yei,e1,show (2:Int)+1=3 from rfl,e2',int3,zm,q4]
def zje{d:Int}{st:SO}(h0:0<=d)(h1:d<5):∃l,idxV st (.str "abcde") (.int d)=AA (.str l)/\ltr l:=by
 have:d=0 \/ d=1 \/ d=2 \/ d=3 \/ d=4:=by lia
 rcases this with rfl|rfl|rfl|rfl|rfl
 .exact⟨⟨#[97]⟩,by with_unfolding_all rfl,by unfold ltr;decide +kernel⟩
 .exact⟨⟨#[98]⟩,by with_unfolding_all rfl,by unfold ltr;decide +kernel⟩
 .exact⟨⟨#[99]⟩,by with_unfolding_all rfl,by unfold ltr;decide +kernel⟩
 .exact⟨⟨#[100]⟩,by with_unfolding_all rfl,by unfold ltr;decide +kernel⟩
 .exact⟨⟨#[101]⟩,by with_unfolding_all rfl,by unfold ltr;decide +kernel⟩
def tgB:Css:=match yal.body with
 |.cons _ (.cons _ (.cons _ (.cons (.for _ _ b) _)))=>b
 |_=>.nil
def zgJ(k:Nat)(hns:ns.length<=1000)(R:Rg p)(h:Frm ns B st){L:Nat}(hL:L≠0)(hB:B.length<=L){ts:List Th}(hs:st[L]?=AA (.lst (ts.map Th.pv)))(hl:ts.length<10){a1 t u4 u5:Option PV}:
  ∃x4 x5 st' t',Frm ns B st'/\Th.fine p t'/\st'[L]?=AA (.lst ((ts++[t']).map Th.pv)) /\
   exs (yd T (k+4)) [AA (.loc 0),a1,AA (.loc L),t,u4,u5] st tgB=.nx [AA (.loc 0),a1,AA (.loc L),t,x4,x5] st':=by
 let⟨lo,s1,o1,q0,q1,e1⟩:=index k hns R h.dr;have r1:=o1.drw h.dr;let⟨d,s2,d0,d1,o2,e2⟩:=zkR (k+1) hns (m:=5) ∅ ∅ r1;have r2:=o2.drw r1;let⟨q,s3,q2,q3,o3,e3⟩:=zkR (k+1) hns (m:=4) ∅ ∅ r2;have r3:=o3.drw r2;let⟨z,s4,z0,z1,o4,e4⟩:=zkR (k+1) hns (m:=5) ∅ ∅ r3;let⟨l,hx,hl2⟩:=zje (st:=s2) d0 d1;have o:=o1.trans (o2.trans (o3.trans o4));have hF:=o.frm h;have hs4:s4[L]?=AA (.lst (ts.map Th.pv)):=(o.get hL).trans hs;have cat:yr .add (.tp AG [.int (lo.1+q)]) (.tp AG [.int lo.2.1,.int lo.2.2.1,.int lo.2.2.2])=AA (.tp AG [.int (lo.1+q),.int lo.2.1,.int lo.2.2.1,.int lo.2.2.2]):=zE (by erw[AO,Ak];lia);erw[q4,PV.tup]at e1
 by_cases hq:z=0
 .let⟨b1,b2⟩:=zas (v:=Th.mark.pv) hs4 (by rw[AQ];lia);erw[Th.pv]at b1 b2;refine⟨AA (q4 lo),AA Th.mark.pv,_,.mark,hF.put hL hB (.lst ((ts++[Th.mark]).map Th.pv)),trivial,rdS hs4,?_⟩;simp! [tgB,yal,e1,e2,hx,e3,ix0,yaV,onP,ya7,zk3,cat,e4,hq,beq_self_eq_true,b1,b2,Th.pv,B8,q4]
 .have hq':(z==0)=false:=by simpa using hq
  let⟨b1,b2⟩:=zas (v:=(Th.sl l lo (lo.1+q,lo.2.1,lo.2.2.1,lo.2.2.2)).pv) hs4 (by rw[AQ];lia);erw[Th.pv,q4,PV.tup]at b1 b2;have hp:pl (lo.1+q,lo.2.1,lo.2.2.1,lo.2.2.2) p.n p.i p.j=pl lo p.n p.i p.j+q:=by
   show lo.1+q+lo.2.1*p.i+lo.2.2.1*p.j+lo.2.2.2*p.n=lo.1+lo.2.1*p.i+lo.2.2.1*p.j+lo.2.2.2*p.n+q;lia
  refine⟨AA (q4 lo),AA (Th.sl l lo (lo.1+q,lo.2.1,lo.2.2.1,lo.2.2.2)).pv,_,.sl l lo (lo.1+q,lo.2.1,lo.2.2.1,lo.2.2.2),hF.put hL hB (.lst ((ts++[Th.sl l lo (lo.1+q,lo.2.1,lo.2.2.1,lo.2.2.2)]).map Th.pv)),?_,rdS hs4,?_⟩
  .refine⟨hl2,?_,?_,?_⟩
   .simp only[bd,AH,decide_eq_true_eq];lia
   .rw[hp];erw[bd,AH,decide_eq_true_eq];lia
   .rw[hp];lia
  .simp! [tgB,yal,e1,e2,hx,e3,ix0,yaV,onP,ya7,zk3,cat,e4,hq',b1,b2,Th.pv,B8,q4]
def zd5(k:Nat)(hns:ns.length<=1000)(R:Rg p){L:Nat}(hL:L≠0)(hB:B.length<=L){a1:Option PV}:∀(xs:List PV) (st:SO) (ts:List Th) (u3 u4 u5:Option PV),Frm ns B st->st[L]?=AA (.lst (ts.map Th.pv))->(∀t∈ts,t.fine p)->ts.length+xs.length<=9 ->
  ∃(st':SO) (ts':List Th) (x3 x4 x5:Option PV),Frm ns B st'/\st'[L]?=AA (.lst (ts'.map Th.pv))/\(∀t∈ts',t.fine p)/\ts'.length<=9 /\
   ya4 (yd T (k+4)) (.n 3) tgB xs [AA (.loc 0),a1,AA (.loc L),u3,u4,u5] st=.nx [AA (.loc 0),a1,AA (.loc L),x3,x4,x5] st'
 |[],st,ts,u3,u4,u5,hF,hs,hf,hl=>⟨st,ts,u3,u4,u5,hF,hs,hf,by simpa using hl,rfl⟩
 |x::xs,st,ts,u3,u4,u5,hF,hs,hf,hl=>by
  rw[AO]at hl;let⟨x4,x5,s1,t',F1,f1,g1,e1⟩:=zgJ k hns R hF hL hB hs ∅ (a1:=a1) (t:=AA x) (u4:=u4) (u5:=u5);let⟨s2,ts',y3,y4,y5,F2,g2,f2,l2,e2⟩:=zd5 k hns R hL hB xs s1 (ts++[t']) (AA x) x4 x5 F1 g1 (λt ht=>by
   rcases Av.1 ht with ht|ht
   .exact hf t ht
   .rw[BU.1 ht];exact f1) (by rw[Aj,FO];lia)
  refine⟨s2,ts',y3,y4,y5,F2,g2,f2,l2,?_⟩;rw[zh (ρ1:=[AA (.loc 0),a1,AA (.loc L),AA x,u4,u5]) rfl,e1];exact e2
end
def zaP{x y X Y:Int}(h0:0<=x)(h1:x<=X)(g0:0<=y)(g1:y<=Y):0<=x*y/\x*y<=X*Y:=
 ⟨EL h0 g0,Ho (D6 h1 g0) (Dc g1 (Ho h0 h1))⟩
structure Td(p:Mp)(t:Tm):Prop where
 f:t.f.natAbs<=99
 s:∀x∈t.ts,x.fine p
 l:t.ts.length<=10
section
variable {ns:List Int}{B st st':SO}{p:Mp}
def zjX{p:Mp}{t:Tm}(h:0<=ex6 p t.x/\ex6 p t.x<=2000):t.ok p=true:=by
 unfold Tm.ok;erw[bd2,AH,decide_eq_true_eq];exact h
def zkd(R:Rg p)(hp:p.Ok){c a b q r s:Int}(c0:0<=c)(c1:c<=7)(a0:0<=a)(a1:a<=1)(b0:0<=b)(b1:b<=1)(q0:0<=q)(q1:q<=1)(r0:0<=r)(r1:r<=1)(s0:0<=s)(s1:s<=1):
  0<=ex6 p (c,a,b,q,r,s)/\ex6 p (c,a,b,q,r,s)<=2000:=by
 let⟨i0,i1,j0,j1,n0,n1⟩:=R;have h1:=zaP a0 a1 i0 i1;have h2:=zaP b0 b1 j0 j1;have h3:=zaP q0 q1 i0 i1;have h4:=zaP r0 r1 j0 j1;have h5:=zaP s0 s1 (by lia:0<=p.n) n1;have h6:=zaP hp.w0 hp.w1 (y:=q*p.i+r*p.j+s*p.n) (Y:=10) ∅ ∅;show 0<=c+a*p.i+b*p.j+p.w*(q*p.i+r*p.j+s*p.n)/\c+a*p.i+b*p.j+p.w*(q*p.i+r*p.j+s*p.n)<=2000;lia
def zay(Q:Int->Prop){call:Cl}{ρ0:IC.Env}{t:Tg}{c e:Ce}(step:∀(x:PV) (st:SO),Drw ns 0 st->∃d st',Onl ns 0 st st'/\Q d/\yaL call ρ0 t c e x st=.ok (AA (.int d)) st'):
  ∀(xs:List PV) (st:SO),Drw ns 0 st->xs≠[]->∃(ds:List Int) (st':SO),Onl ns 0 st st'/\(∀d∈ds,Q d)/\ds.length=xs.length/\yS call ρ0 t c e xs st=.ok (ds.map .int) st'
 |[],_,_,h=>absurd rfl h
 |[x],st,h,_=>by
  let⟨d,s1,o1,q1,e1⟩:=step x st h;refine⟨[d],s1,o1,λy hy=>by rw[BU.1 hy];exact q1,rfl,?_⟩;rw[zf,e1];rfl
 |x::y::r,st,h,_=>by
  let⟨d,s1,o1,q1,e1⟩:=step x st h;let⟨ds,s2,o2,q2,l2,e2⟩:=zay Q step (y::r) s1 (o1.drw h) (by simp);refine⟨d::ds,s2,o1.trans o2,λz hz=>?_,by rw[AO,l2];rfl,?_⟩
  .rcases Ac.1 hz with rfl|hz
   .exact q1
   .exact q2 z hz
  .rw[zf,e1];erw[R.bind];rw[e2];rfl
def zbo(Q:Tm->Prop){call:Cl}{ρ0:IC.Env}{t:Tg}{c e:Ce}:∀(xs:List PV) (st:SO),Frm ns B st->(∀x∈xs,∀(st:SO),Frm ns B st->∃t1 st',Frm ns B st'/\Q t1/\yaL call ρ0 t c e x st=.ok (AA t1.pv) st')->∃(tt:List Tm) (st':SO),Frm ns B st'/\(∀d∈tt,Q d)/\tt.length=xs.length/\yS call ρ0 t c e xs st=.ok (tt.map Tm.pv) st'
 |[],st,h,_=>⟨[],st,h,(λ_ h=>by cases h),rfl,rfl⟩
 |x::r,st,h,step=>by
  let⟨d,s1,o1,q1,e1⟩:=step x A0 st h;let⟨ds,s2,o2,q2,l2,e2⟩:=zbo Q r s1 o1 λx hx=>step x (AN _ hx);refine⟨d::ds,s2,o2,λz hz=>?_,by rw[AO,AO,l2],?_⟩
  .rcases Ac.1 hz with rfl|hz
   .exact q1
   .exact q2 z hz
  .rw[zf,e1];erw[R.bind];rw[e2];rfl
def zlC{ds:List Int}(h:ds.length=3):∃a b c,ds=[a,b,c]:=by
 match ds,h with
 |[a,b,c],_=>exact⟨a,b,c,rfl⟩
def zlD{ds:List Int}(h:ds.length=5):∃a b c d e,ds=[a,b,c,d,e]:=by
 match ds,h with
 |[a,b,c,d,e],_=>exact⟨a,b,c,d,e,rfl⟩
def zf5{xs ys:List PV}(h:xs.length+ys.length<=1000):yr .add (.lst xs) (.lst ys)=AA (.lst (xs++ys)):=by
 erw[yr];rw[if_pos (by show _<=sizeMax;erw[sizeMax];lia)]
def ze6(k:Nat)(hns:ns.length<=1000)(R:Rg p)(hp:p.Ok)(h:Frm ns B st):∃t st',Frm ns B st'/\Td p t/\t.ok p=AD/\yd T (k+5) yf4 [.loc 0] st=.ok t.pv st':=by
 let⟨c,s1,c0,c1,o1,e1⟩:=zkR (k+1) hns (m:=8) ∅ ∅ h.dr;have r1:=o1.drw h.dr;let⟨a,s2,a0,a1,o2,e2⟩:=zkR (k+1) hns (m:=2) ∅ ∅ r1;have r2:=o2.drw r1;let⟨b,s3,b0,b1,o3,e3⟩:=zkR (k+1) hns (m:=2) ∅ ∅ r2;have r3:=o3.drw r2;let⟨ds,s4,o4,q4',l4,e4⟩:=zay (λd=>0<=d/\d<=1) (call:=yd T (k+4)) (ρ0:=[AC,AA (.loc 0)]) (t:=.n 0) (c:=.cst (.bl AD)) (e:=.bin .fdiv (.call 10 (.cons (.var 1) (.cons (.cst (.int 6)) .nil))) (.cst (.int 5))) (λx st h=>by
  let⟨d,s1,d0,d1,o1,e1⟩:=zkR (k+1) hns (m:=6) ∅ ∅ h;have hd:yr .fdiv (.int d) (.int 5)=AA (.int (d/5)):=zic ⋯ ⋯;exact⟨d/5,s1,o1,by lia,by simp! [yaL,e1,hd]⟩) (yh 3 0 1) s3 r3 ⋯
 let⟨q,r,s,rfl⟩:=zlC (l4.trans rfl);have r4:=o4.drw r3;have F4:Frm ns B s4:=(o1.trans (o2.trans (o3.trans o4))).frm h;have F5:Frm ns B (s4++[.lst []]):=F4.app _;let⟨m,s6,m0,m1,o6,e6⟩:=zkR (k+1) hns (m:=3) ∅ ∅ F5.dr;let⟨m,rfl⟩:=zaK m0;have g6:s6[s4.length]?=AA (.lst (([]:List Th).map Th.pv)):=by
  rw[o6.get (by have:=F4.dr.pos;lia)];simp
 let⟨s7,ts,x3,x4,x5,F7,g7,f7,l7,e7⟩:=zd5 k hns R (L:=s4.length) (B:=B) (by have:=F4.dr.pos;lia) F4.len (a1:=AA (.lst [.int c,.int a,.int b,.int q,.int r,.int s])) (yh m 0 1) s6 [] AC AC AC (o6.frm F5) g6 (λt ht=>by cases ht) (by rw[zb0];simp;lia);let⟨f,s8,f0,f1,o8,e8⟩:=zkR (k+1) hns (m:=199) ∅ ∅ F7.dr;have g8:s8[s4.length]?=AA (.lst (ts.map Th.pv)):=(o8.get (by have:=F4.dr.pos;lia)).trans g7;have hq:=q4' q (by simp);have hr:=q4' r (by simp);have hs:=q4' s (by simp);have hx:=zkd R hp (c:=c) (a:=a) (b:=b) (q:=q) (r:=r) (s:=s) c0 ∅ a0 ∅ b0 ∅ hq.1 hq.2 hr.1 hr.2 hs.1 hs.2;refine⟨⟨f-99,(c,a,b,q,r,s),ts⟩,s8,o8.frm F7,⟨by show (f-99).natAbs<=99;lia,f7,by show ts.length<=10;lia⟩,zjX hx,?_⟩;rw[ze (show T yf4=AA yal from rfl) rfl rfl];have hb:yal.body=.cons (.asg (.n 1) (.lst (.cons (.call 10 (.cons (.var 0) (.cons (.cst (.int 8)) .nil))) (.cons (.call 10 (.cons (.var 0) (.cons (.cst (.int 2)) .nil))) (.cons (.call 10 (.cons (.var 0) (.cons (.cst (.int 2)) .nil))) .nil))))) (.cons (.asg (.n 1) (.bin .add (.var 1) (.comp [AC,AA 0] (.n 0) (.range1 (.cst (.int 3))) (.cst (.bl AD)) (.bin .fdiv (.call 10 (.cons (.var 1) (.cons (.cst (.int 6)) .nil))) (.cst (.int 5)))))) (.cons (.asg (.n 2) (.newl .nil)) (.cons (.for (.n 3) (.range1 (.call 10 (.cons (.var 0) (.cons (.cst (.int 3)) .nil)))) tgB) (.cons (.ret (.tup (.cons (.bin .sub (.call 10 (.cons (.var 0) (.cons (.cst (.int 199)) .nil))) (.cst (.int 99))) (.cons (.blt .tuple (.cons (.var 1) .nil)) (.cons (.blt .tuple (.cons (.var 2) .nil)) .nil))))) .nil)))):=rfl;have hr3:ybJ (.int 3)=AA (yh 3 0 1):=rfl;have t1:yaa .tuple s8 [.lst [.int c,.int a,.int b,.int q,.int r,.int s]]=AA (.tp AG [.int c,.int a,.int b,.int q,.int r,.int s]):=rfl;have t2:yaa .tuple s8 [.loc s4.length]=AA (.tp AG (ts.map Th.pv)):=by
  erw[yaa,ydd,yF,g8,BD,PV.tup]
 have cat:yr .add (.lst [.int c,.int a,.int b]) (.lst [.int q,.int r,.int s])=AA (.lst [.int c,.int a,.int b,.int q,.int r,.int s]):=zf5 (by erw[AO,Ak];lia);erw[AM,BA]at e4;rw[hb];simp! [yal,e1,e2,e3,hr3,e4,zx [PV.int q,.int r,.int s] (by simp),cat,e6,zcq m ∅,e7,e8,t1,t2,zm,Tm.pv,yK]
end
def zlE{st:SO}{a b c d e f:PV}:idxV st (.lst [a,b,c,d,e,f]) (.int 0)=AA a:=rfl
def zlF{st:SO}{a b c d e f:PV}:idxV st (.lst [a,b,c,d,e,f]) (.int 1)=AA b:=rfl
def zlG{st:SO}{a b c d e f:PV}:idxV st (.lst [a,b,c,d,e,f]) (.int 2)=AA c:=rfl
def zlH{st:SO}{a b c d e f:PV}:idxV st (.lst [a,b,c,d,e,f]) (.int 3)=AA d:=rfl
def zlI{st:SO}{a b c d e f:PV}:idxV st (.lst [a,b,c,d,e,f]) (.int 4)=AA e:=rfl
def zlJ{st:SO}{a b c d e f:PV}:idxV st (.lst [a,b,c,d,e,f]) (.int 5)=AA f:=rfl
def zlK{a b c d e f:PV}:yaO (.lst [a,b,c,d,e,f]) (AA 1) AC=AA (.lst [b,c,d,e,f]):=rfl
def zld{a b c d e f:PV}:yaO (.tp AG [a,b,c,d,e,f]) (AA 1) AC=AA (.tup [b,c,d,e,f]):=rfl
section
variable {ns:List Int}{B st st':SO}{p:Mp}
def zg6(k:Nat){c a b q r s:Int}(hp:p.Ok)(st:SO):
  yd T (k+1) yB [.lst [.int c,.int a,.int b,.int q,.int r,.int s],.tup [.int p.w,.int p.n],.int p.i,.int p.j] st=.ok (.int (ex6 p (c,a,b,q,r,s))) st:=by
 rw[zu (show T yB=AA ya from rfl) rfl rfl rfl];simp! [ya,ix0,ix1,zlE,zlF,zlG,zlH,zlI,zlJ,zk hp.hn,zk hp.hi,zk hp.hj,zaH (zk2 hp),za4,ybF,ex6]
def zbU(k:Nat)(hns:ns.length<=1000)(hp:p.Ok)(h:Frm ns B st){t:Tm}(ht:Td p t):∃t' st',Frm ns B st'/\(Td p t'/\t'.ok p=AD)/\yd T (k+5) ygi [.loc 0,t.pv,.tup [.int p.w,.int p.n],.int p.i,.int p.j] st=.ok t'.pv st':=by
 let⟨ds,s1,o1,_,l1,e1⟩:=zay (λ_=>True) (call:=yd T (k+4)) (ρ0:=[AC,AA (.loc 0)]) (t:=.n 0) (c:=.cst (.bl AD)) (e:=.bin .sub (.call 10 (.cons (.var 1) (.cons (.cst (.int 3)) .nil))) (.cst (.int 1))) (λx st h=>by
  let⟨d,s1,d0,d1,o1,e1⟩:=zkR (k+1) hns (m:=3) ∅ ∅ h;exact⟨d-1,s1,o1,trivial,by simp! [yaL,e1]⟩) (yh 5 0 1) st h.dr ⋯
 let⟨a,b,q,r,s,rfl⟩:=zlD (l1.trans rfl);have F1:=o1.frm h;let⟨d,s2,d0,d1,o2,e2⟩:=zkR (k+1) hns (m:=8) ∅ ∅ F1.dr;have hx:ex6 p (d-ex6 p (0,a,b,q,r,s),a,b,q,r,s)=d:=by
  erw[ex6,ybF];lia
 refine⟨⟨t.f,(d-ex6 p (0,a,b,q,r,s),a,b,q,r,s),t.ts⟩,s2,o2.frm F1,⟨⟨ht.f,ht.s,ht.l⟩,zjX (by show 0<=ex6 p (d-ex6 p (0,a,b,q,r,s),a,b,q,r,s)/\_<=_;rw[hx];lia)⟩,?_⟩;have ex:=zg6 (k+3) (c:=0) (a:=a) (b:=b) (q:=q) (r:=r) (s:=s) hp s1;rw[ze (show T ygi=AA yA from rfl) rfl rfl];have hr3:ybJ (.int 5)=AA (yh 5 0 1):=rfl;generalize ex6 p (0,a,b,q,r,s)=E at *;have cat1:yr .add (.lst [.int 0]) (.lst [.int a,.int b,.int q,.int r,.int s])=AA (.lst [.int 0,.int a,.int b,.int q,.int r,.int s]):=zf5 (by erw[AO,Ak];lia);have cat2:yr .add (.tp AG [.int (d-E)]) (.tp AG [.int a,.int b,.int q,.int r,.int s])=AA (.tp AG [.int (d-E),.int a,.int b,.int q,.int r,.int s]):=zE (by erw[AO,Ak];lia);have t1:yaa .tuple s2 [.lst [.int a,.int b,.int q,.int r,.int s]]=AA (.tp AG [.int a,.int b,.int q,.int r,.int s]):=rfl;erw[AM,BA]at e1;erw[PV.tup]at ex;simp! [yA,hr3,e1,zx [PV.int a,.int b,.int q,.int r,.int s] (by simp),cat1,ex,Tm.pv,ix0,e2,yaV,onP,ya7,zlK,t1,cat2,ix2,zm,yK]
structure Tl(p:Mp)(t:Tm):Prop where
 f:t.f.natAbs<=1000 \/ (t.f.natAbs<=100000000000000000000000000000000000000000/\ex6 p t.x<=60)
 s:∀x∈t.ts,x.fine p
 l:t.ts.length<=10
theorem Td.tl{t:Tm}(h:Td p t):Tl p t:=⟨.inl (by have:=h.f;lia),h.s,h.l⟩
theorem Td.both{t:Tm}(h:Td p t):t.fine p/\t.lf p:=⟨⟨by have:=h.f;show t.f.natAbs<_;lia,h.s,h.l⟩,.inl (by have:=h.f;show t.f.natAbs<_;lia)⟩
def Tm.up(t:Tm)(d:Int):Tm:=⟨t.f+d,t.x,t.ts⟩
theorem Tl.both{t:Tm}(h:Tl p t){d:Int}(hd:d.natAbs<=1):(t.up d).fine p/\(t.up d).lf p:=by
 refine⟨⟨?_,h.s,h.l⟩,?_⟩
 .show (t.f+d).natAbs<_;rcases h.f with h|⟨h,_⟩<;>lia
 .rcases h.f with h|⟨_,h⟩
  .exact .inl (by show (t.f+d).natAbs<_;lia)
  .exact .inr h
def tmN(v:Int):Tm:=⟨0-v,(0,0,0,0,0,0),[]⟩
def zbx(k:Nat){L:Nat}(hp:p.Ok)(hd:st[L]?=AA (.dct AD p.kvs)){tt:List Tm}(ht:∀t∈tt,Td p t/\t.ok p=AD)(hl:tt.length<=10){a0:PV}:∃tt':List Tm,(∀t∈tt',Tl p t)/\tt'.length<=11/\tt.length<=tt'.length /\
  yd T (k+3) yY [a0,.tup (tt.map Tm.pv),.tup [.int p.w,.int p.n],.int p.i,.int p.j,.loc L,.int p.mq] st=.ok (.tup (tt'.map Tm.pv)) st:=by
 have hk:okS p tt=true:=CJ.2 λt h=>(ht t h).2;have e1:=zbF k hp hd (λt h=>(ht t h).1.both) hk;generalize tot p tt=v at *;have pw:yr .pow (.int 10) (.int 40)=AA (.int 10000000000000000000000000000000000000000):=by
  erw[yr,binI];rw[if_pos ⟨by decide,by decide,by decide⟩];rfl
 have ab:yaa .abs st [.int v]=AA (.int v.natAbs):=by
  erw[yaa,ycD];split<;>(congr 2;lia)
 erw[PV.tup]at e1
 by_cases h:(10000000000000000000000000000000000000000:Int)-1<=(v.natAbs:Int)
 .refine⟨tt,λt h=>(ht t h).1.tl,by lia,AR _,?_⟩;rw[ze (show T yY=AA yf from rfl) rfl rfl];simp! [yf,e1,ab,pw,h,decide_true,zm]
 .refine⟨tt++[tmN v],λt ht'=>?_,by rw[Aj];simp;lia,by rw[Aj];lia,?_⟩
  .rcases Av.1 ht' with ht' | ht'
   .exact(ht t ht').1.tl
   .rw[BU.1 ht'];exact⟨.inr ⟨by show (0-v).natAbs<=_;lia,by simp[Tm.x,tmN,ex6,ybF]⟩,(λ_ h=>by cases h),by simp[tmN]⟩
  .have cat:=zE (xs:=tt.map Tm.pv) (ys:=[(tmN v).pv]) (by rw[AQ];simp;lia);erw[tmN,Tm.pv,yK,PV.tup,BA]at cat;rw[ze (show T yY=AA yf from rfl) rfl rfl];simp! [yf,e1,ab,pw,h,decide_false,cat,zm,B8,tmN,Tm.pv,yK]
end
theorem take1:∀xs:List PV,yaO (.tp AG xs) AC (AA 1)=AA (.tp AG (xs.take 1))
 |[]=>rfl
 |[x]=>rfl
 |x::y::r=>by
  have h:yak (r.length+1+1) 1=1:=by
   unfold yak;rw[if_neg ⋯];show min 1 _=1;lia
  erw[yaO,ybg,ybj,AO,h];rw[if_neg ∅];simp[cut,ybg,ybj,h,PV.tup]
def zle(x:PV)(xs:List PV):yaO (.tp AG (x::xs)) (AA 1) AC=AA (.tp AG xs):=by
 have h:yak (xs.length+1) 1=1:=by
  unfold yak;rw[if_neg ⋯];show min 1 _=1;lia
 erw[yaO,ybg,ybj,AO,h];rw[if_neg ∅];simp[cut,ybg,ybj,h,PV.tup,Cb]
theorem bT4{ρ:IC.Env}{a b c d:Nat}{x1 x2 x3 x4:PV}{kk:Bool}:yC (.t [a,b,c,d]) (.tp kk [x1,x2,x3,x4]) ρ=AA ((((ρ.set a (AA x1)).set b (AA x2)).set c (AA x3)).set d (AA x4)):=rfl
def zkh:yw .eq (.str yaI) (.str yG)=AA (.bl AG):=by
 erw[yw];rw[if_pos (by decide +kernel),show peq (.str yaI) (.str yG)=AG by erw[peq];decide +kernel]
def zkK:yw .eq (.str yG) (.str yG)=AA (.bl AD):=by
 erw[yw];rw[if_pos (by decide +kernel),show peq (.str yG) (.str yG)=AD by erw[peq];decide +kernel]
theorem ixz{st:SO}{a:PV}{r:List PV}:idxV st (.lst (a::r)) (.int 0)=AA a:=by simp[idxV,yaE,at?,ixI]
section
variable {ns:List Int}{B st st':SO}{p:Mp}
theorem filled(k:Nat)(hp:p.Ok){l:AW}{lo hi:Int×Int×Int×Int}(st:SO):
  yd T (k+2) yga [(Th.sl l lo hi).pv,.int p.i,.int p.j,.int p.n] st=.ok (.bl (decide (pl lo p.n p.i p.j<pl hi p.n p.i p.j))) st:=by
 rw[zu (show T yga=AA yz from rfl) rfl rfl rfl];have p1:=λst=>zbB k (a:=lo.1) (b:=lo.2.1) (c:=lo.2.2.1) (d:=lo.2.2.2) hp.hn hp.hi hp.hj st;have p2:=λst=>zbB k (a:=hi.1) (b:=hi.2.1) (c:=hi.2.2.1) (d:=hi.2.2.2) hp.hn hp.hi hp.hj st;erw[PV.tup]at p1 p2;simp! [yz,Th.pv,ix2,ix3,q4,p1,p2,zdH]
def ctB:Css:=match yo.body with
 |.cons _ (.cons (.for _ _ b) _)=>b
 |_=>.nil
def ctR:Css:=match ctB with
 |.cons _ (.cons _ r)=>r
 |_=>.nil
def whl:List Th->List PV
 |.sl l lo hi::_=>[(Th.sl l lo hi).pv]
 |_=>[]
def zfY(c:Cl)(st:SO):∀ts:List Th,yS c [AC] (.n 0) (.cmp .eq (.idx (.var 0) (.cst (.int 0))) (.cst (.str "slice"))) (.var 0) ((ts.map Th.pv).take 1) st=.ok (whl ts) st
 |[]=>rfl
 |.mark::r=>by
  have one:yaL c [AC] (.n 0) (.cmp .eq (.idx (.var 0) (.cst (.int 0))) (.cst (.str "slice"))) (.var 0) Th.mark.pv st=.ok AC st:=by
   simp! [yaL,Th.pv,ix0,zkh]
  rw[AM,Dn,HK,zf,one];rfl
 |.sl l lo hi::r=>by
  have one:yaL c [AC] (.n 0) (.cmp .eq (.idx (.var 0) (.cst (.int 0))) (.cst (.str "slice"))) (.var 0) (Th.sl l lo hi).pv st=.ok (AA (Th.sl l lo hi).pv) st:=by
   simp! [yaL,Th.pv,ix0,zkK]
  rw[AM,Dn,HK,zf,one];rfl
def zg8(ts:List Th):(whl ts).length<=1:=by
 cases ts with
 |nil=>exact Bj _
 |cons t r=>cases t with
  |mark=>exact Bj _
  |sl _ _ _=>exact AR _
structure Ad(ns:List Int)(B:SO)(p:Mp)(L:Nat)(tt new:List Tm)(st:SO):Prop where
 fr:Frm ns B st
 fn:∀t∈new,Tl p t
 ln:new.length<=2
 at1:st[L]?=AA (.lst ((tt++new).map Tm.pv))
def zbh{L:Nat}{tt:List Tm}(hF:Frm ns B st)(hL:L≠0)(hB:B.length<=L)(hs:st[L]?=AA (.lst (tt.map Tm.pv))){t:Tm}(ht:Tl p t):Ad ns B p L tt [t] (st.set L (.lst ((tt++[t]).map Tm.pv))):=
 ⟨hF.put hL hB _,λx hx=>by rw[BU.1 hx];exact ht,by simp,rdS hs⟩
def zhk(k:Nat)(hp:p.Ok)(hF:Frm ns B st){L:Nat}(hL:L≠0)(hB:B.length<=L){tt:List Tm}(hs:st[L]?=AA (.lst (tt.map Tm.pv)))(hl:tt.length<100){t:Tm}(ht:Td p t){d:Int}{a0 a1 u12 u13 u14 u15 u16 u17:Option PV}:
  ∃x12 x13 x14 x15 x16 x17 st' new,Ad ns B p L tt new st' /\
   exs (yd T (k+4)) [a0,a1,AA (.int p.w),AA (.int p.n),AA (.int p.i),AA (.int p.j),AA (.loc L),AA (.int t.f),AA (yK t.x),AA (.tup (t.ts.map Th.pv)),AA (.int d),AA (.lst (whl t.ts)),u12,u13,u14,u15,u16,u17] st ctR =
    .nx [a0,a1,AA (.int p.w),AA (.int p.n),AA (.int p.i),AA (.int p.j),AA (.loc L),AA (.int t.f),AA (yK t.x),AA (.tup (t.ts.map Th.pv)),AA (.int d),AA (.lst (whl t.ts)),x12,x13,x14,x15,x16,x17] st':=by
 have hf:=ht.f;have hlt:=ht.l;have plain:∃st',Ad ns B p L tt [⟨0-t.f,t.x,t.ts⟩] st'/\ybK .append st (.loc L) [.tp AG [.int (0-t.f),.tp AG [.int t.x.1,.int t.x.2.1,.int t.x.2.2.1,.int t.x.2.2.2.1,.int t.x.2.2.2.2.1,.int t.x.2.2.2.2.2],.tp AG (t.ts.map Th.pv)]]=.ok .non st':=by
  let⟨b1,b2⟩:=zas (v:=(⟨0-t.f,t.x,t.ts⟩:Tm).pv) hs (by rw[AQ];lia);refine⟨_,zbh hF hL hB hs (t:=⟨0-t.f,t.x,t.ts⟩) ⟨.inl (by show (0-t.f).natAbs<=_;lia),ht.s,ht.l⟩,?_⟩;erw[Tm.pv,yK,PV.tup]at b2;rw[b2,B8];rfl
 have mo:yaA .append st (.loc L)=AA true:=(zas (v:=.non) hs (by rw[AQ];lia)).1;let⟨sp,Ap,ep⟩:=plain
 by_cases h0:d=0/\0<t.x.1
 .let⟨h0,h1⟩:=h0;subst h0;let⟨b1,b2⟩:=zas (v:=(⟨0-2*t.f,(t.x.1-1,t.x.2),t.ts.reverse⟩:Tm).pv) hs (by rw[AQ];lia);refine⟨u12,u13,u14,u15,u16,u17,_,_,zbh hF hL hB hs (t:=⟨0-2*t.f,(t.x.1-1,t.x.2),t.ts.reverse⟩) ⟨.inl (by show (0-2*t.f).natAbs<=_;lia),λx hx=>ht.s x (D7.1 hx),by show t.ts.reverse.length<=10;rw[C7];exact hlt⟩,?_⟩;have cat:yr .add (.tp AG [.int (t.x.1-1)]) (.tp AG [.int t.x.2.1,.int t.x.2.2.1,.int t.x.2.2.2.1,.int t.x.2.2.2.2.1,.int t.x.2.2.2.2.2])=AA (.tp AG [.int (t.x.1-1),.int t.x.2.1,.int t.x.2.2.1,.int t.x.2.2.2.1,.int t.x.2.2.2.2.1,.int t.x.2.2.2.2.2]):=zE (by erw[AO,Ak];lia);have rv:yaa .rev st [.tp AG (t.ts.map Th.pv)]=AA (.tp AG (t.ts.reverse.map Th.pv)):=by
   rw[El];rfl
  erw[Tm.pv,yK,PV.tup]at b2;simp! [ctR,ctB,yo,beq_self_eq_true,yK,ix0,h1,decide_true,yaV,onP,ya7,zld,cat,rv,b1,b2,B8,Tm.pv]
 .by_cases h2:d=0
  .subst h2;have h1:¬0<t.x.1:=λh=>h0 ⟨rfl,h⟩;refine⟨u12,u13,u14,u15,u16,u17,sp,_,Ap,?_⟩;simp! [ctR,ctB,yo,beq_self_eq_true,yK,ix0,h1,decide_false,show ((0:Int)==1)=AG from rfl,mo,ep]
  .have h3:(d==0)=false:=by simpa using h2
   by_cases h4:d=1
   .subst h4;have ln0:yaa .len st [.lst []]=AA (.int 0):=rfl;have ln1:∀x,yaa .len st [.lst [x]]=AA (.int 1):=λ_=>rfl;let⟨f,x,ts⟩:=t;have hf':f.natAbs<=99:=hf
    cases ts with
    |nil=>
     refine⟨u12,u13,u14,u15,u16,u17,sp,_,Ap,?_⟩;erw[yK,PV.tup,BA]at ep;simp! [ctR,ctB,yo,h3,beq_self_eq_true,whl,ln0,show ((0:Int)==1)=AG from rfl,mo,ep,yK]
    |cons y r=>
     cases y with
     |mark=>
      refine⟨u12,u13,u14,u15,u16,u17,sp,_,Ap,?_⟩;erw[yK,PV.tup,AM,Th.pv]at ep;simp! [ctR,ctB,yo,h3,beq_self_eq_true,whl,ln0,show ((0:Int)==1)=AG from rfl,mo,ep,yK,Th.pv]
     |sl l lo hi=>
      have fl:=λst=>filled (k+2) hp (l:=l) (lo:=lo) (hi:=hi) st;erw[Th.pv,q4,PV.tup]at fl
      by_cases h5:pl lo p.n p.i p.j<pl hi p.n p.i p.j
      .have hs1:=ht.s (.sl l lo hi) A0;let⟨g0,g1,g2,g3⟩:=hs1;have hm:pl (lo.1+1,lo.2) p.n p.i p.j=pl lo p.n p.i p.j+1:=by
        show lo.1+1+lo.2.1*p.i+lo.2.2.1*p.j+lo.2.2.2*p.n=lo.1+lo.2.1*p.i+lo.2.2.1*p.j+lo.2.2.2*p.n+1;lia
       erw[bd,AH,decide_eq_true_eq]at g1 g2;have F1:Th.fine p (.sl l lo (lo.1+1,lo.2)):=⟨g0,by erw[bd,AH,decide_eq_true_eq];exact g1,by rw[hm];erw[bd,AH,decide_eq_true_eq];lia,by rw[hm];lia⟩;have F2:Th.fine p (.sl l (lo.1+1,lo.2) hi):=⟨g0,by rw[hm];erw[bd,AH,decide_eq_true_eq];lia,by erw[bd,AH,decide_eq_true_eq];exact g2,by rw[hm];lia⟩;have T1:Tl p ⟨0-f,x,.sl l lo (lo.1+1,lo.2)::r⟩:=⟨.inl (by show (0-f).natAbs<=_;lia),λz hz=>by
        rcases Ac.1 hz with rfl|hz
        .exact F1
        .exact ht.s z (AN _ hz),hlt⟩
       have T2:Tl p ⟨0-f,(x.1+p.w,x.2),.sl l (lo.1+1,lo.2) hi::r⟩:=⟨.inl (by show (0-f).natAbs<=_;lia),λz hz=>by
        rcases Ac.1 hz with rfl|hz
        .exact F2
        .exact ht.s z (AN _ hz),hlt⟩
       have A1:=zbh hF hL hB hs T1;have A2:=zbh A1.fr hL hB A1.at1 T2;let⟨b1,b2⟩:=zas (v:=(⟨0-f,x,.sl l lo (lo.1+1,lo.2)::r⟩:Tm).pv) hs (by rw[AQ];lia);let⟨b3,b4⟩:=zas (v:=(⟨0-f,(x.1+p.w,x.2),.sl l (lo.1+1,lo.2) hi::r⟩:Tm).pv) A1.at1 (by rw[AQ,Aj];simp;lia);refine⟨AA (.str yG),AA (.str l),AA (q4 lo),AA (q4 hi),AA (q4 (lo.1+1,lo.2)),AA (yK (x.1+p.w,x.2)),_,[⟨0-f,x,.sl l lo (lo.1+1,lo.2)::r⟩,⟨0-f,(x.1+p.w,x.2),.sl l (lo.1+1,lo.2) hi::r⟩],⟨A2.fr,λz hz=>?_,by simp,by show _=AA (Ob.lst ((tt++([(⟨0-f,x,.sl l lo (lo.1+1,lo.2)::r⟩:Tm)]++[(⟨0-f,(x.1+p.w,x.2),.sl l (lo.1+1,lo.2) hi::r⟩:Tm)])).map Tm.pv));rw[<-G2];exact A2.at1⟩,?_⟩
       .simp only[Ac,D5,or_false]at hz;rcases hz with rfl|rfl
        .exact T1
        .exact T2
       .have c1:yr .add (.tp AG [.int (lo.1+1)]) (.tp AG [.int lo.2.1,.int lo.2.2.1,.int lo.2.2.2])=AA (.tp AG [.int (lo.1+1),.int lo.2.1,.int lo.2.2.1,.int lo.2.2.2]):=zE (by erw[AO,Ak];lia);have c2:yr .add (.tp AG [.int (x.1+p.w)]) (.tp AG [.int x.2.1,.int x.2.2.1,.int x.2.2.2.1,.int x.2.2.2.2.1,.int x.2.2.2.2.2])=AA (.tp AG [.int (x.1+p.w),.int x.2.1,.int x.2.2.1,.int x.2.2.2.1,.int x.2.2.2.2.1,.int x.2.2.2.2.2]):=zE (by erw[AO,Ak];lia);have c3:∀v:PV,yr .add (.tp AG [v]) (.tp AG (r.map Th.pv))=AA (.tp AG ([v]++r.map Th.pv)):=λv=>zE (by rw[AQ];erw[AO,Ak]at hlt ⊢;lia);have d1:=λv=>zle v (r.map Th.pv);erw[Tm.pv,yK,PV.tup,Th.pv,q4,AM,B8,BA]at b1 b2 b3 b4;simp! [ctR,ctB,yo,h3,beq_self_eq_true,whl,ln1,ixz,yK,Th.pv,q4,ix0,fl,h5,decide_true,bT4,yaV,onP,ya7,zk3,zld,c1,c2,c3,d1,b1,b2,b3,b4,Tm.pv,B8]
      .refine⟨u12,u13,u14,u15,u16,u17,sp,_,Ap,?_⟩;erw[yK,PV.tup,AM,Th.pv,q4]at ep;simp! [ctR,ctB,yo,h3,beq_self_eq_true,whl,ln1,ixz,ix0,Th.pv,q4,fl,h5,decide_false,mo,ep,yK]
   .have h5:(d==1)=false:=by simpa using h4
    refine⟨u12,u13,u14,u15,u16,u17,sp,_,Ap,?_⟩;simp! [ctR,ctB,yo,h3,h5,mo,ep,yK]
end
section
variable {ns:List Int}{B st st':SO}{p:Mp}
def zhU(k:Nat)(hns:ns.length<=1000)(hp:p.Ok)(hF:Frm ns B st){L:Nat}(hL:L≠0)(hB:B.length<=L){tt:List Tm}(hs:st[L]?=AA (.lst (tt.map Tm.pv)))(hl:tt.length<100){t:Tm}(ht:Td p t){a1 u10 u11 u12 u13 u14 u15 u16 u17:Option PV}:
  ∃x10 x11 x12 x13 x14 x15 x16 x17 st' new,Ad ns B p L tt new st' /\
   exs (yd T (k+4)) [AA (.loc 0),a1,AA (.int p.w),AA (.int p.n),AA (.int p.i),AA (.int p.j),AA (.loc L),AA (.int t.f),AA (yK t.x),AA (.tup (t.ts.map Th.pv)),u10,u11,u12,u13,u14,u15,u16,u17] st ctB =
    .nx [AA (.loc 0),a1,AA (.int p.w),AA (.int p.n),AA (.int p.i),AA (.int p.j),AA (.loc L),AA (.int t.f),AA (yK t.x),AA (.tup (t.ts.map Th.pv)),x10,x11,x12,x13,x14,x15,x16,x17] st':=by
 let⟨d,s1,d0,d1,o1,e1⟩:=zkR (k+1) hns (m:=3) ∅ ∅ hF.dr;let⟨x12,x13,x14,x15,x16,x17,s2,new,A,e⟩:=zhk k hp (o1.frm hF) hL hB ((o1.get hL).trans hs) hl ht (d:=d) (a0:=AA (.loc 0)) (a1:=a1) (u12:=u12) (u13:=u13) (u14:=u14) (u15:=u15) (u16:=u16) (u17:=u17);refine⟨AA (.int d),AA (.lst (whl t.ts)),x12,x13,x14,x15,x16,x17,s2,new,A,?_⟩;have hb:ctB=.cons (.asg (.n 10) (.call 10 (.cons (.var 0) (.cons (.cst (.int 3)) .nil)))) (.cons (.asg (.n 11) (.comp [AC] (.n 0) (.seq (.slc (.var 9) (.cst .non) (.cst (.int 1)))) (.cmp .eq (.idx (.var 0) (.cst (.int 0))) (.cst (.str "slice"))) (.var 0))) ctR):=rfl;have cm:=zfY (yd T (k+4)) s1 t.ts;have tk:=take1 (t.ts.map Th.pv);have wl:=zg8 t.ts;rw[hb];erw[PV.tup,yK]at e;simp! [e1,yaV,onP,ya7,tk,IC.seqOf,cm,zx (whl t.ts) ∅,yK,e]
def zd0(k:Nat)(hns:ns.length<=1000)(hp:p.Ok){L:Nat}(hL:L≠0)(hB:B.length<=L){a1:Option PV}:∀(xs:List Tm) (st:SO) (tt:List Tm) (u7 u8 u9 u10 u11 u12 u13 u14 u15 u16 u17:Option PV),Frm ns B st->(∀t∈xs,Td p t)->st[L]?=AA (.lst (tt.map Tm.pv))->(∀t∈tt,Tl p t)->tt.length+2*xs.length<=50 ->
  ∃(st':SO) (tt':List Tm) (x7 x8 x9 x10 x11 x12 x13 x14 x15 x16 x17:Option PV),Frm ns B st'/\st'[L]?=AA (.lst (tt'.map Tm.pv))/\(∀t∈tt',Tl p t)/\tt'.length<=50 /\
   ya4 (yd T (k+4)) (.t [7,8,9]) ctB (xs.map Tm.pv) [AA (.loc 0),a1,AA (.int p.w),AA (.int p.n),AA (.int p.i),AA (.int p.j),AA (.loc L),u7,u8,u9,u10,u11,u12,u13,u14,u15,u16,u17] st=.nx [AA (.loc 0),a1,AA (.int p.w),AA (.int p.n),AA (.int p.i),AA (.int p.j),AA (.loc L),x7,x8,x9,x10,x11,x12,x13,x14,x15,x16,x17] st'
 |[],st,tt,u7,u8,u9,u10,u11,u12,u13,u14,u15,u16,u17,hF,_,hs,hf,hl=>⟨st,tt,u7,u8,u9,u10,u11,u12,u13,u14,u15,u16,u17,hF,hs,hf,by simpa using hl,rfl⟩
 |t::xs,st,tt,u7,u8,u9,u10,u11,u12,u13,u14,u15,u16,u17,hF,ht,hs,hf,hl=>by
  rw[AO]at hl;let⟨v10,v11,v12,v13,v14,v15,v16,v17,s1,new,A,e1⟩:=zhU k hns hp hF hL hB hs ∅ (ht t A0) (a1:=a1) (u10:=u10) (u11:=u11) (u12:=u12) (u13:=u13) (u14:=u14) (u15:=u15) (u16:=u16) (u17:=u17);let⟨s2,tt',x7,x8,x9,x10,x11,x12,x13,x14,x15,x16,x17,F2,g2,f2,l2,e2⟩:=zd0 k hns hp hL hB (a1:=a1) xs s1 (tt++new) (AA (.int t.f)) (AA (yK t.x)) (AA (.tup (t.ts.map Th.pv))) v10 v11 v12 v13 v14 v15 v16 v17 A.fr (λt h=>ht t (AN _ h)) A.at1 (λt h=>by
   rcases Av.1 h with h|h
   .exact hf t h
   .exact A.fn t h) (by have:=A.ln;rw[Aj];lia)
  refine⟨s2,tt',x7,x8,x9,x10,x11,x12,x13,x14,x15,x16,x17,F2,g2,f2,l2,?_⟩;rw[AM,zh (ρ1:=[AA (.loc 0),a1,AA (.int p.w),AA (.int p.n),AA (.int p.i),AA (.int p.j),AA (.loc L),AA (.int t.f),AA (yK t.x),AA (.tup (t.ts.map Th.pv)),u10,u11,u12,u13,u14,u15,u16,u17]) rfl,e1];exact e2
def zbS(k:Nat)(hns:ns.length<=1000)(hp:p.Ok)(h:Frm ns B st){tl:List Tm}(ht:∀t∈tl,Td p t)(hl:tl.length<=10):∃(tt:List Tm) (st':SO),Frm ns B st'/\(∀t∈tt,Tl p t)/\tt.length<=50 /\
  yd T (k+5) yf8 [.loc 0,.tup (tl.map Tm.pv),.int p.w,.int p.n,.int p.i,.int p.j] st=.ok (.tup (tt.map Tm.pv)) st':=by
 have F0:Frm ns B (st++[.lst []]):=h.app _;have hp0:=h.dr.pos;let⟨s2,tt,x7,x8,x9,x10,x11,x12,x13,x14,x15,x16,x17,F2,g2,f2,l2,e2⟩:=zd0 k hns hp (L:=st.length) (B:=B) ∅ h.len (a1:=AA (.tup (tl.map Tm.pv))) tl (st++[.lst []]) [] AC AC AC AC AC AC AC AC AC AC AC F0 ht (by simp) (λt h=>by cases h) (by simp;lia);refine⟨tt,s2,F2,f2,l2,?_⟩;rw[ze (show T yf8=AA yo from rfl) rfl rfl];have hb:yo.body=.cons (.asg (.n 6) (.newl .nil)) (.cons (.for (.t [7,8,9]) (.seq (.var 1)) ctB) (.cons (.ret (.blt .tuple (.cons (.var 6) .nil))) .nil)):=rfl;have ht:yaa .tuple s2 [.loc st.length]=AA (.tp AG (tt.map Tm.pv)):=by
  erw[yaa,ydd,yF,g2,BD,PV.tup]
 rw[hb];erw[PV.tup]at e2;simp! [yo,IC.seqOf,e2,ht,zm]
end
structure Hv(ns:List Int)(W:Int)(L:Nat)(cs:List yab)(st:SO):Prop where
 dr:Drw ns 0 st
 at1:st[L]?=AA (.dct AD (cs.map yau))
 ok:yaU W cs
def scI:Css:=match yj.body with
 |.cons _ (.cons _ (.cons (.for _ _ (.cons (.for _ _ b) _)) _))=>b
 |_=>.nil
def scO:Css:=match yj.body with
 |.cons _ (.cons _ (.cons (.for _ _ b) _))=>b
 |_=>.nil
def lts:List Str:=[⟨#[97]⟩,⟨#[98]⟩,⟨#[99]⟩,⟨#[100]⟩,⟨#[101]⟩]
section
variable {ns:List Int}{B st st':SO}{p:Mp}{W:Int}{L:Nat}{cs:List yab}
theorem Hv.onl(h:Hv ns W L cs st)(hL:L≠0)(o:Onl ns 0 st st'):Hv ns W L cs st':=⟨o.drw h.dr,(o.get hL).trans h.at1,h.ok⟩
def zj9(k:Nat)(hns:ns.length<=1000)(hW:2<=W)(hW2:W<=65536)(h:Drw ns 0 st):∃d e v s1 s2,Onl ns 0 st s1/\Onl ns 0 s1 s2/\0<=v/\v<W/\yd T (k+3) yi [.loc 0,.int W] st=.ok (.int d) s1/\yd T (k+3) yi [.loc 0,.int 4] s1=.ok (.int e) s2/\idxV s2 (.tp AG [.int 0,.int 1,.int (W-1),.int d]) (.int e)=AA (.int v):=by
 let⟨d,s1,d0,d1,o1,e1⟩:=zkR k hns (m:=W) ∅ ∅ h;let⟨e,s2,e0,e1',o2,e2⟩:=zkR k hns (m:=4) ∅ ∅ (o1.drw h);have he:e=0 \/ e=1 \/ e=2 \/ e=3:=by lia
 rcases he with rfl|rfl|rfl|rfl
 .exact⟨d,0,0,s1,s2,o1,o2,by lia,by lia,e1,e2,rfl⟩
 .exact⟨d,1,1,s1,s2,o1,o2,by lia,by lia,e1,e2,rfl⟩
 .exact⟨d,2,W-1,s1,s2,o1,o2,by lia,by lia,e1,e2,rfl⟩
 .exact⟨d,3,d,s1,s2,o1,o2,d0,d1,e1,e2,rfl⟩
def zcf{q:AW×Int}{v:Int}(h:st[L]?=AA (.dct AD (cs.map yau)))(hl:cs.length<1000)(hq:ltr q.1):ya8 st (.loc L) (yaf q) (.int v)=AA (st.set L (.dct AD (put (yaf q) (.int v) (cs.map yau)))):=by
 erw[ya8,h];rw[if_pos ⟨zgk hq,by rw[AQ];lia⟩]
theorem Hv.add(h:Hv ns W L cs st)(hL:L≠0){q:AW×Int}{v:Int}(hq:ltr q.1)(hn:∀c∈cs,c.1≠q)(v0:0<=v)(v1:v<W):Hv ns W L (cs++[(q,v)]) (st.set L (.dct AD (put (yaf q) (.int v) (cs.map yau)))):=
 ⟨h.dr.put hL _,by rw[rdS h.at1,zeH hn],zil h.ok hn hq v0 v1⟩
def zgZ(k:Nat)(hns:ns.length<=1000)(hW:2<=W)(hW2:W<=65536)(hL:L≠0)(h:Hv ns W L cs st)(hl:cs.length<1000){l:AW}{a:Int}(hq:ltr l)(hn:∀c∈cs,c.1≠(l,a)){a1 u6:Option PV}:
  ∃x6 st' cs',Hv ns W L cs' st'/\(∀c∈cs',c∈cs \/ c.1=(l,a))/\cs'.length<=cs.length+1 /\
   exs (yd T (k+4)) [AA (.loc 0),a1,AA (.loc L),AA (.int W),AA (.str l),AA (.int a),u6] st scI=.nx [AA (.loc 0),a1,AA (.loc L),AA (.int W),AA (.str l),AA (.int a),x6] st':=by
 let⟨d,e,v,s1,s2,o1,o2,v0,v1,e1,e2,e3⟩:=zj9 (k+1) hns hW hW2 h.dr;have h2:=(h.onl hL o1).onl hL o2;have dp:=λ(st:SO) (h:st[L]?=AA (.dct AD (cs.map yau)))=>zcf (q:=(l,a)) (v:=v) h hl hq
 by_cases hv:0<v
 .have:=dp s2 h2.at1;erw[yaf,PV.tup]at this;refine⟨AA (.int v),_,cs++[((l,a),v)],h2.add hL (q:=(l,a)) hq hn v0 v1,λc hc=>?_,by simp,?_⟩
  .rcases Av.1 hc with hc|hc
   .exact .inl hc
   .rw[BU.1 hc];exact .inr rfl
  .simp! [scI,yj,e1,e2,e3,hv,decide_true,zej,this,zbl,yaf]
 .let⟨g,s3,g0,g1,o3,e4⟩:=zkR (k+1) hns (m:=2) ∅ ∅ h2.dr;have h3:=h2.onl hL o3
  by_cases hg:g=0
  .have:=dp s3 h3.at1;erw[yaf,PV.tup]at this;refine⟨AA (.int v),_,cs++[((l,a),v)],h3.add hL (q:=(l,a)) hq hn v0 v1,λc hc=>?_,by simp,?_⟩
   .rcases Av.1 hc with hc|hc
    .exact .inl hc
    .rw[BU.1 hc];exact .inr rfl
   .simp! [scI,yj,e1,e2,e3,hv,decide_false,e4,hg,beq_self_eq_true,zej,this,zbl,yaf]
  .have hg':(g==0)=false:=by simpa using hg
   refine⟨AA (.int v),s3,cs,h3,λc hc=>.inl hc,by lia,?_⟩;simp! [scI,yj,e1,e2,e3,hv,decide_false,e4,hg']
def zcs(k:Nat)(hns:ns.length<=1000)(hW:2<=W)(hW2:W<=65536)(hL:L≠0){l:AW}(hq:ltr l){a1:Option PV}:∀(m:Nat) (a:Int) (cs:List yab) (st:SO) (u5 u6:Option PV),Hv ns W L cs st->cs.length+m<=900->(∀c∈cs,c.1.1≠l \/ c.1.2<a) ->
  ∃x5 x6 st' cs',Hv ns W L cs' st'/\(∀c∈cs',c∈cs \/ c.1.1=l)/\cs'.length<=cs.length+m /\
   ya4 (yd T (k+4)) (.n 5) scI (yh m a 1) [AA (.loc 0),a1,AA (.loc L),AA (.int W),AA (.str l),u5,u6] st=.nx [AA (.loc 0),a1,AA (.loc L),AA (.int W),AA (.str l),x5,x6] st'
 |0,a,cs,st,u5,u6,h,_,_=>⟨u5,u6,st,cs,h,λc hc=>.inl hc,by lia,rfl⟩
 |m+1,a,cs,st,u5,u6,h,hl,hn=>by
  let⟨x6,s1,c1,h1,m1,l1,e1⟩:=zgZ k hns hW hW2 hL h ∅ (l:=l) (a:=a) hq (λc hc e=>by
   rcases hn c hc with z|z
   .exact z (by rw[e])
   .rw[e]at z;exact Int.lt_irrefl _ z) (a1:=a1) (u6:=u6)
  let⟨y5,y6,s2,c2,h2,m2,l2,e2⟩:=zcs k hns hW hW2 hL hq (a1:=a1) m (a+1) c1 s1 (AA (.int a)) x6 h1 ∅ (λc hc=>by
   rcases m1 c hc with z|z
   .rcases hn c z with w|w
    .exact .inl w
    .exact .inr ∅
   .right;rw[z];show a<a+1;lia)
  refine⟨y5,y6,s2,c2,h2,λc hc=>?_,by lia,?_⟩
  .rcases m2 c hc with z|z
   .rcases m1 c z with w|w
    .exact .inl w
    .exact .inr (by rw[w])
   .exact .inr z
  .rw[yh,zh (ρ1:=[AA (.loc 0),a1,AA (.loc L),AA (.int W),AA (.str l),AA (.int a),u6]) rfl,e1];exact e2
def zcJ(k:Nat)(hns:ns.length<=1000)(hW:2<=W)(hW2:W<=65536)(hL:L≠0){a1:Option PV}:∀(ls:List AW) (cs:List yab) (st:SO) (u4 u5 u6:Option PV),Hv ns W L cs st->cs.length+6*ls.length<=900->(∀l∈ls,ltr l)->ls.Pairwise (· ≠ ·)->(∀c∈cs,∀l∈ls,c.1.1≠l) ->
  ∃x4 x5 x6 st' cs',Hv ns W L cs' st'/\cs'.length<=cs.length+6*ls.length /\
   ya4 (yd T (k+4)) (.n 4) scO (ls.map .str) [AA (.loc 0),a1,AA (.loc L),AA (.int W),u4,u5,u6] st=.nx [AA (.loc 0),a1,AA (.loc L),AA (.int W),x4,x5,x6] st'
 |[],cs,st,u4,u5,u6,h,_,_,_,_=>⟨u4,u5,u6,st,cs,h,by simp,rfl⟩
 |l::ls,cs,st,u4,u5,u6,h,hl,ht,hd,hn=>by
  rw[AO]at hl;rw[GJ]at hd;let⟨x5,x6,s1,c1,h1,m1,l1,e1⟩:=zcs k hns hW hW2 hL (ht l A0) (a1:=a1) 6 0 cs st u5 u6 h ∅ (λc hc=>.inl (hn c hc l A0));let⟨y4,y5,y6,s2,c2,h2,l2,e2⟩:=zcJ k hns hW hW2 hL (a1:=a1) ls c1 s1 (AA (.str l)) x5 x6 h1 ∅ (λl h=>ht l (AN _ h)) hd.2 (λc hc l' hl'=>by
   rcases m1 c hc with z|z
   .exact hn c z l' (AN _ hl')
   .rw[z];exact hd.1 l' hl')
  refine⟨y4,y5,y6,s2,c2,h2,by rw[AO];lia,?_⟩;have hb:scO=.cons (.for (.n 5) (.range1 (.cst (.int 6))) scI) .nil:=rfl;have one:exs (yd T (k+4)) [AA (.loc 0),a1,AA (.loc L),AA (.int W),AA (.str l),u5,u6] st scO=.nx [AA (.loc 0),a1,AA (.loc L),AA (.int W),AA (.str l),x5,x6] s1:=by
   have hr:ybJ (.int 6)=AA (yh 6 0 1):=rfl;rw[hb];simp! [hr,e1]
  rw[AM,zh (ρ1:=[AA (.loc 0),a1,AA (.loc L),AA (.int W),AA (.str l),u5,u6]) rfl,one];exact e2
def zb8(k:Nat)(hns:ns.length<=1000){w:Int}(w0:1<=w)(w1:w<=16)(h:Drw ns 0 st):∃(cs:List yab) (st':SO),Hv ns (2^w.toNat) st.length cs st'/\cs.length<=30/\yd T (k+5) y9 [.loc 0,.int w] st=.ok (.loc st.length) st':=by
 have hp:=h.pos;have hW2:(2:Int)^w.toNat<=65536:=zbq (b:=16) ∅;have hW:(2:Int)<=2^w.toNat:=zbq (a:=1) ∅;have H0:Hv ns (2^w.toNat) st.length [] (st++[.dct AD []]):=⟨h.app _,by simp,⟨GV,λc hc=>by cases hc⟩⟩;have t2:=λst=>zeB (k+3) w.toNat ∅ st;rw[Do ∅]at t2;let⟨x4,x5,x6,s2,cs,h2,l2,e2⟩:=zcJ k hns hW hW2 (L:=st.length) ∅ (a1:=AA (.int w)) lts [] (st++[.dct AD []]) AC AC AC H0 ⋯ (λl hl=>by
  erw[lts,Ac,D5,or_false]at hl;rcases hl with rfl|rfl|rfl|rfl|rfl<;>(unfold ltr;decide +kernel)) (by decide +kernel) (λc hc=>by cases hc)
 refine⟨cs,s2,h2,l2,?_⟩;rw[ze (show T y9=AA yj from rfl) rfl rfl];have hb:yj.body=.cons (.asg (.n 2) (.dict0 AD)) (.cons (.asg (.n 3) (.call 12 (.cons (.var 1) .nil))) (.cons (.for (.n 4) (.chars (.cst (.str "abcde"))) scO) (.cons (.ret (.var 2)) .nil))):=rfl;have ch:ybx (.str "abcde")=AA (lts.map .str):=by with_unfolding_all rfl
 rw[hb];simp! [yj,t2,ch,e2,zm]
end
def zcF{xs:List PV}{q:Nat}(h:q<=xs.length):yaO (.tp AG xs) AC (AA (q:Int))=AA (.tp AG (xs.take q)):=by
 have hc:yak xs.length (q:Int)=q:=by
  unfold yak;rw[if_neg ∅];show min q _=q;lia
 erw[yaO,ybg,ybj,hc]
 by_cases e:q=xs.length
 .rw[if_pos ⟨trivial,e⟩,e,Ej]
 .rw[if_neg (λz=>e z.2)];simp[cut,ybg,ybj,hc,PV.tup]
def zcP{xs:List PV}{q:Nat}(h:q<=xs.length):yaO (.tp AG xs) (AA (q:Int)) AC=AA (.tp AG (xs.drop q)):=by
 have hc:yak xs.length (q:Int)=q:=by
  unfold yak;rw[if_neg ∅];show min q _=q;lia
 erw[yaO,ybg,ybj,hc]
 by_cases e:q=0
 .rw[if_pos ⟨e,trivial⟩,e];rfl
 .rw[if_neg (λz=>e z.1)];simp[cut,ybg,ybj,hc,PV.tup];exact Cb (by rw[B9];lia)
def yac:Nat->Css->Css
 |0,c=>c
 |n+1,.cons _ r=>yac n r
 |_,.nil=>.nil
def lwS(k:Nat):Cs:=match yac k yU.body with
 |.cons s _=>s
 |.nil=>.expr .nope
def lE(a0:Option PV)(p:Mp)(wy sp:Int)(told:PV)(u11 u12:Option PV):IC.Env:=[a0,AA (.loc 0),AA (.int wy),AA (.int sp),AA (.int p.w),AA (.int p.n),AA (.int p.i),AA (.int p.j),AA (.loc 1),AA (.int p.mq),AA told,u11,u12,AC,AC,AC,AC]
structure Sv(ns:List Int)(p:Mp)(st:SO):Prop where
 dr:Drw ns 0 st
 at1:st[1]?=AA (.dct AD p.kvs)
theorem Sv.len{ns:List Int}{p:Mp}{st:SO}(h:Sv ns p st):2<=st.length:=by
 rcases G4 1 st.length with z|z
 .exact z
 .have:=h.at1;rw[BQ z]at this;cases this
theorem Sv.frm{ns:List Int}{p:Mp}{st st':SO}(h:Sv ns p st)(f:Frm ns st st'):Sv ns p st':=⟨f.dr,(f.get 1 ⋯ h.len).trans h.at1⟩
theorem Sv.onl{ns:List Int}{p:Mp}{st st':SO}(h:Sv ns p st)(o:Onl ns 0 st st'):Sv ns p st':=⟨o.drw h.dr,(o.get ⋯).trans h.at1⟩
section
variable {ns:List Int}{st:SO}{p:Mp}{wy sp:Int}{tt:List Tm}{a0:PV}
def zkQ(k:Nat)(hns:ns.length<=1000)(hp:p.Ok)(h:Sv ns p st)(ht:∀t∈tt,Td p t/\t.ok p=AD)(hl:tt.length<=4):
  ∃(tt':List Tm) (st':SO),Sv ns p st'/\(∀t∈tt',Td p t/\t.ok p=AD)/\tt'.length=tt.length/\ex (yd T (k+5)) (lE (AA a0) p wy sp (.tup (tt.map Tm.pv)) AC AC) st (lwS 9)=.nx (lE (AA a0) p wy sp (.tup (tt'.map Tm.pv)) AC AC) st':=by
 let⟨d,s1,d0,d1,o1,e1⟩:=zkR (k+2) hns (m:=2) ∅ ∅ h.dr;have h1:=h.onl o1
 by_cases hd:d=1
 .let⟨tt',s2,F,q,l,e⟩:=zbo (ns:=ns) (B:=s1) (λt=>Td p t/\t.ok p=AD) (call:=yd T (k+5)) (ρ0:=[AC,AA (.loc 0),AA (.int p.i),AA (.int p.j),AA (.int p.w),AA (.int p.n)]) (t:=.n 0) (c:=.cst (.bl AD)) (e:=.call 25 (.cons (.var 1) (.cons (.var 0) (.cons (.tup (.cons (.var 4) (.cons (.var 5) .nil))) (.cons (.var 2) (.cons (.var 3) .nil)))))) (tt.map Tm.pv) s1 (Frm.refl h1.dr) (λx hx st hF=>by
   let⟨t,ht',rfl⟩:=FE.1 hx;let⟨t1,s2,F2,q2,e2⟩:=zbU k hns hp hF (ht t ht').1;erw[PV.tup]at e2;exact⟨t1,s2,F2,q2,by simp! [yaL,e2]⟩)
  refine⟨tt',s2,h1.frm F,q,by rw[l,AQ],?_⟩;have tu:yaa .tuple s2 [.lst (tt'.map Tm.pv)]=AA (.tp AG (tt'.map Tm.pv)):=rfl;simp! [lwS,yac,yU,lE,e1,hd,beq_self_eq_true,IC.seqOf,e,zx (tt'.map Tm.pv) (by rw[AQ,l,AQ];lia),tu]
 .have hd':(d==1)=false:=by simpa using hd
  exact⟨tt,s1,h1,ht,rfl,by simp! [lwS,yac,yU,lE,e1,hd']⟩
def zkm(k:Nat)(hp:p.Ok)(h:Sv ns p st)(ht:∀t∈tt,Td p t/\t.ok p=AD)(hl:tt.length<=4)(l0:1<=tt.length)(hw:wy=1):
  ∃tt':List Tm,(∀t∈tt',Tl p t)/\tt'.length<=11/\1<=tt'.length/\ex (yd T (k+5)) (lE (AA a0) p wy sp (.tup (tt.map Tm.pv)) AC AC) st (lwS 10)=.nx (lE (AA a0) p wy sp (.tup (tt'.map Tm.pv)) AC AC) st:=by
 let⟨tt',q,l1,l2,e⟩:=zbx (k+2) hp h.at1 ht ∅ (a0:=.loc 0);refine⟨tt',q,l1,by lia,?_⟩;erw[PV.tup]at e;simp! [lwS,yac,yU,lE,hw,beq_self_eq_true,e]
def zkz(k:Nat)(hns:ns.length<=1000)(hp:p.Ok)(h:Sv ns p st)(ht:∀t∈tt,Td p t)(hl:tt.length<=4)(l0:1<=tt.length)(hw:wy=2):
  ∃(tt':List Tm) (st':SO) (u11:Option PV),Sv ns p st'/\(∀t∈tt',Tl p t)/\tt'.length<=60/\1<=tt'.length/\ex (yd T (k+5)) (lE (AA a0) p wy sp (.tup (tt.map Tm.pv)) AC AC) st (lwS 11)=.nx (lE (AA a0) p wy sp (.tup (tt'.map Tm.pv)) u11 AC) st':=by
 let⟨d,s1,d0,d1,o1,e1⟩:=zkR (k+2) hns (m:=(tt.length:Int)+1) ∅ ∅ h.dr;have h1:=h.onl o1;let⟨q,rfl⟩:=zaK d0;let⟨cc,s2,F,qc,lc,e2⟩:=zbS k hns hp (Frm.refl h1.dr) ht ∅;have hq:q<=(tt.map Tm.pv).length:=by rw[AQ];lia
 refine⟨tt.take q++cc++tt.drop q,s2,AA (.int q),h1.frm F,λt hm=>?_,by erw[Aj,BX,B9];lia,by erw[Aj,BX,B9];lia,?_⟩
 .rcases Av.1 hm with hm|hm
  .rcases Av.1 hm with hm|hm
   .exact(ht t (Fc hm)).tl
   .exact qc t hm
  .exact(ht t (Fd hm)).tl
 .have ln:yaa .len st [.tp AG (tt.map Tm.pv)]=AA (.int tt.length):=by
   erw[yaa,lenV,IC.seqOf,BD,AQ]
  have c1:=zE (xs:=(tt.map Tm.pv).take q) (ys:=cc.map Tm.pv) (by erw[BX,AQ];lia);have c2:=zE (xs:=(tt.map Tm.pv).take q++cc.map Tm.pv) (ys:=(tt.map Tm.pv).drop q) (by erw[Aj,BX,B9,AQ];lia);have t1:=zcF hq;have t2:=zcP hq;erw[PV.tup]at e2;rw[show (tt.take q++cc++tt.drop q).map Tm.pv=(tt.map Tm.pv).take q++cc.map Tm.pv++(tt.map Tm.pv).drop q by erw[B8,Ha,Hb]];simp! [lwS,yac,yU,lE,hw,beq_self_eq_true,ln,e1,yaV,onP,ya7,t1,e2,c1,t2,c2]
def zlL(k:Nat)(hns:ns.length<=1000)(h:Sv ns p st)(ht:∀t∈tt,Tl p t)(hl:tt.length<=60)(l0:1<=tt.length){u11:Option PV}:
  ∃(tt':List Tm) (st':SO) (v11:Option PV),Sv ns p st'/\(∀t∈tt',t.fine p/\t.lf p)/\tt'.length<=60/\ex (yd T (k+5)) (lE (AA a0) p wy sp (.tup (tt.map Tm.pv)) u11 AC) st (lwS 12)=.nx (lE (AA a0) p wy sp (.tup (tt'.map Tm.pv)) v11 AC) st':=by
 have up0:∀t:Tm,t.up 0=t:=λt=>by unfold Tm.up;rw[Hn]
 have hb:∀t∈tt,t.fine p/\t.lf p:=λt hm=>by
  have:=(ht t hm).both (d:=0) ⋯;rw[up0]at this;exact this
 by_cases hs:sp=1
 .let⟨d,s1,d0,d1,o1,e1⟩:=zkR (k+2) hns (m:=(tt.length:Int)) ∅ ∅ h.dr;let⟨q,rfl⟩:=zaK d0;have hq:q<tt.length:=by lia
  obtain⟨t,hg⟩:∃t,tt[q]?=AA t:=⟨tt[q],BO hq⟩;have hm:t∈tt:=A5 hg;have ix:∀st,idxV st (.tp AG (tt.map Tm.pv)) (.int (q:Int))=AA t.pv:=λst=>by
   erw[idxV,yaE,at?,ixI,AQ];rw[if_pos ∅,if_pos ∅];simp[hg]
  refine⟨tt.take q++[t.up 1]++tt.drop (q+1),s1,AA (.int q),h.onl o1,λx hx=>?_,by erw[Aj,BX,B9,AO,Ak];lia,?_⟩
  .rcases Av.1 hx with hx|hx
   .rcases Av.1 hx with hx|hx
    .exact hb x (Fc hx)
    .rw[BU.1 hx];exact(ht t hm).both ⋯
   .exact hb x (Fd hx)
  .have ln:yaa .len st [.tp AG (tt.map Tm.pv)]=AA (.int tt.length):=by
    erw[yaa,lenV,IC.seqOf,BD,AQ]
   have c0:yr .add (.tp AG [.int (t.f+1)]) (.tp AG [yK t.x,.tup (t.ts.map Th.pv)])=AA (.tp AG [.int (t.f+1),yK t.x,.tup (t.ts.map Th.pv)]):=zE (by erw[AO,Ak];lia);have c1:=zE (xs:=(tt.map Tm.pv).take q) (ys:=[(t.up 1).pv]) (by erw[BX,AQ,AO,Ak];lia);have c2:=zE (xs:=(tt.map Tm.pv).take q++[(t.up 1).pv]) (ys:=(tt.map Tm.pv).drop (q+1)) (by erw[Aj,BX,B9,AQ,AO,Ak];lia);have t1:=zcF (xs:=tt.map Tm.pv) (q:=q) (by rw[AQ];lia);have t2:=zcP (xs:=tt.map Tm.pv) (q:=q+1) (by rw[AQ];lia);have t3:=zle (.int t.f) [yK t.x,.tup (t.ts.map Th.pv)];have t2':yaO (.tp AG (tt.map Tm.pv)) (AA ((q:Int)+1)) AC=AA (.tp AG ((tt.map Tm.pv).drop (q+1))):=t2;rw[show (tt.take q++[t.up 1]++tt.drop (q+1)).map Tm.pv=(tt.map Tm.pv).take q++[(t.up 1).pv]++(tt.map Tm.pv).drop (q+1)by erw[B8,Ha,Hb,AM,BA]];erw[Tm.pv,Tm.up,yK,PV.tup]at c0 c1 c2 ix t3;simp! [lwS,yac,yU,lE,hs,beq_self_eq_true,ln,e1,yaV,onP,ya7,t1,ix,ix0,t3,c0,c1,t2',c2,Tm.pv,Tm.up,yK]
 .have hs':(sp==1)=false:=by simpa using hs
  exact⟨tt,st,u11,h,hb,hl,by simp! [lwS,yac,yU,lE,hs']⟩
end
abbrev mom(w n i j q:Int)(cs:List yab):Mp:=⟨w,n,i,j,q,cs.map yau⟩
section
variable {ns:List Int}{st:SO}{w n i j q wy sp:Int}{cs:List yab}{tt:List Tm}{a0:PV}
def zek{k1 k2:List (PV×PV)}{t:Tm}(h:t.fine ⟨w,n,i,j,q,k1⟩):t.fine ⟨w,n,i,j,q,k2⟩:=⟨h.f,λx hx=>by
 have:=h.s x hx
 cases x<;>exact this,h.l⟩
def zke{k1 k2:List (PV×PV)}{t:Tm}(h:t.lf ⟨w,n,i,j,q,k1⟩):t.lf ⟨w,n,i,j,q,k2⟩:=h
def zj3{c2:List yab}(h:(mom w n i j q cs).Ok)(h2:yaU (2^w.toNat) c2):(mom w n i j q c2).Ok:=⟨zf8 h2,h.w0,h.w1,h.hn,h.hi,h.hj,h.hm⟩
def zkF(k:Nat)(hns:ns.length<=1000)(hp:(mom w n i j q cs).Ok)(hc:yaU (2^w.toNat) cs)(hl:cs.length<=30)(h:Sv ns (mom w n i j q cs) st){told:PV}{u11:Option PV}:
  ∃(cs':List yab) (st':SO) (u12:Option PV),Sv ns (mom w n i j q cs') st'/\yaU (2^w.toNat) cs'/\cs'.length<=30/\ex (yd T (k+5)) (lE (AA a0) (mom w n i j q cs) wy sp told u11 AC) st (lwS 13)=.nx (lE (AA a0) (mom w n i j q cs) wy sp told u11 u12) st':=by
 have ld:ycx st (.loc 1)=AA (.int cs.length):=by
  have:=h.at1;erw[ycx,yR,this,AQ]
 by_cases hs:sp=2
 .by_cases h0:(0:Int)<cs.length
  .let⟨d,s1,d0,d1,o1,e1⟩:=zkR (k+2) hns (m:=(cs.length:Int)) ∅ ∅ h.dr;have h1:=h.onl o1;let⟨m,rfl⟩:=zaK d0;have hW:(2:Int)^w.toNat<=65536:=zlc hp;let⟨v,s2,v0,v1,o2,e2⟩:=zkR (k+2) hns (m:=2^w.toNat) (zhx (p:=mom w n i j q cs)) ∅ h1.dr;have h2:=h1.onl o2;have t2:=λst=>zeB (k+4) w.toNat (by have:=hp.w1;show w.toNat<1000;have:w<=16:=hp.w1;lia) st;rw[Do hp.w0]at t2;obtain⟨c,hg⟩:∃c,cs[m]?=AA c:=⟨cs[m]'∅,BO _⟩;have hm:c∈cs:=A5 hg;have lk:ycI st (.loc 1)=AA (.lst ((cs.map yau).map λp=>p.1)):=by
    have:=h.at1;erw[ycI,yR,this];rw[if_pos (by rw[AQ];lia)]
   have ix:idxV s1 (.lst ((cs.map yau).map λp=>p.1)) (.int (m:Int))=AA (yaf c.1):=by
    erw[idxV,yaE,at?,ixI,AQ];rw[if_pos ∅,if_pos ∅];simp[hg,yau]
   have dp:=zcf (q:=c.1) (v:=v) h2.at1 ∅ (hc.ok c hm).1;rw[zhZ ⟨c,hm,rfl⟩]at dp;refine⟨chg c.1 v cs,_,AA (yaf c.1),⟨h2.dr.put ⋯ _,rdS h2.at1⟩,zix hc v0 v1,by unfold chg;rw[AQ];exact hl,?_⟩;simp! [lwS,yac,yU,lE,hs,beq_self_eq_true,ld,h0,decide_true,lk,e1,ix,t2,e2,zej,dp,zbl]
  .refine⟨cs,st,AC,h,hc,hl,?_⟩;simp! [lwS,yac,yU,lE,hs,beq_self_eq_true,ld,h0,decide_false]
 .have hs':(sp==2)=false:=by simpa using hs
  exact⟨cs,st,AC,h,hc,hl,by simp! [lwS,yac,yU,lE,hs']⟩
theorem handed(k:Nat)(hns:ns.length<=1000)(hl:cs.length<=30)(h:Sv ns (mom w n i j q cs) st):
  ∃(c2:List yab) (st':SO),(c2=cs \/ c2=cs.reverse)/\Sv ns (mom w n i j q cs) st'/\yd T (k+4) yT [.loc 0,.loc 1] st=.ok (.tup (c2.map hanP)) st':=by
 let⟨d,s1,d0,d1,o1,e1⟩:=zkR k hns (m:=2) ∅ ∅ h.dr;have it:=zfo (cs:=cs) h.at1 ∅;have tu:∀c2:List yab,yaa .tuple s1 [.lst (c2.map hanP)]=AA (.tp AG (c2.map hanP)):=λ_=>rfl;have rv:yaa .rev s1 [.lst (cs.map hanP)]=AA (.lst (cs.reverse.map hanP)):=by
  rw[El];rfl
 by_cases hd:d=1
 .refine⟨cs.reverse,s1,.inr rfl,h.onl o1,?_⟩;rw[ze (show T yT=AA yb from rfl) rfl rfl];simp! [yb,it,e1,hd,beq_self_eq_true,rv,tu,zm]
 .have hd':(d==1)=false:=by simpa using hd
  refine⟨cs,s1,.inl rfl,h.onl o1,?_⟩;rw[ze (show T yT=AA yb from rfl) rfl rfl];simp! [yb,it,e1,hd',tu,zm]
def zbk(k:Nat)(hp:(mom w n i j q cs).Ok)(hc:yaU (2^w.toNat) cs)(hl:cs.length<=30)(ht:∀t∈tt,t.fine (mom w n i j q cs))(hlt:tt.length<=1000){c2:List yab}(h2:c2=cs \/ c2=cs.reverse)(st:SO):
  yd T (k+5) yer [.tup (tt.map Tm.pv),.int w,.int n,.int i,.int j,.tup (c2.map hanP),.int q] st=.ok (.bl (due (mom w n i j q cs) tt)) st:=by
 have e2:yaU (2^w.toNat) c2/\c2.length=cs.length/\∀a,gC c2 a=gC cs a:=by
  rcases h2 with rfl|rfl
  .exact⟨hc,rfl,λ_=>rfl⟩
  .exact⟨hc.rev,C7,λa=>zj4 hc a⟩
 have:=zdg (p:=mom w n i j q c2) k (C:=.tup (c2.map hanP)) (zj3 hp e2.1) (zeP e2.1 ∅) (za2 c2) (tt:=tt) (λt hm=>zek (ht t hm)) hlt st;rw[show due (mom w n i j q c2) tt=due (mom w n i j q cs) tt from zfc (λl a=>by rw[zhi,zhi];exact e2.2.2 _) (mom w n i j q cs) tt]at this;exact this
def lwF:Css:=yac 14 yU.body
def lwG:Css:=match yac 2 lwF with
 |.cons (.for _ _ b) _=>b
 |_=>.nil
def zkc(k:Nat)(hns:ns.length<=1000)(hp:(mom w n i j q cs).Ok)(hc:yaU (2^w.toNat) cs)(hl:cs.length<=30)(h:Sv ns (mom w n i j q cs) st)(ht:∀t∈tt,t.fine (mom w n i j q cs)/\t.lf (mom w n i j q cs))(hlt:tt.length<=1000){u11 u12:Option PV}:
  ∃st',exs (yd T (k+5)) (lE (AA a0) (mom w n i j q cs) wy sp (.tup (tt.map Tm.pv)) u11 u12) st lwF=.rt (.bl AD) st':=by
 let⟨c2,s1,hc2,h1,e1⟩:=handed (k+1) hns hl h;have e2:=zbV (k+1) (L:=1) hp h1.at1 ht;have hc3:c2.reverse=cs \/ c2.reverse=cs.reverse:=by
  rcases hc2 with rfl|rfl
  .exact .inr rfl
  .exact .inl (List.reverse_reverse _)
 have e3:=zbk k hp hc hl (λt hm=>(ht t hm).1) hlt hc2 s1;have e4:=zbk k hp hc hl (λt hm=>(ht t hm).1) hlt hc3 s1;have e5:=zbk k (tt:=[]) hp hc hl (λt hm=>by cases hm) (by simp) hc2 s1;have d0:due (mom w n i j q cs) []=true:=rfl;rw[d0]at e5;have rv:yaa .rev s1 [.tp AG (c2.map hanP)]=AA (.tp AG (c2.reverse.map hanP)):=by
  rw[El];rfl
 generalize due (mom w n i j q cs) tt=b at *;have hi':ybs (.bl b) [.bool]=AA (.bl AD):=rfl;have hcb:yw .ne (.bl b) (.bl b)=AA (.bl AG):=by cases b<;>rfl
 have his:yw .is (.bl AD) (.bl AD)=AA (.bl AD):=rfl;erw[PV.tup,BA]at e1 e2 e3 e4 e5;refine⟨s1,?_⟩;have lp:ya4 (yd T (k+5)) (.n 15) lwG [.tp AG (c2.map hanP),.tp AG (c2.reverse.map hanP)] [AA a0,AA (.loc 0),AA (.int wy),AA (.int sp),AA (.int w),AA (.int n),AA (.int i),AA (.int j),AA (.loc 1),AA (.int q),AA (.tp AG (tt.map Tm.pv)),u11,u12,AA (.tp AG (c2.map hanP)),AA (.bl b),AC,AC] s1 =
   .nx [AA a0,AA (.loc 0),AA (.int wy),AA (.int sp),AA (.int w),AA (.int n),AA (.int i),AA (.int j),AA (.loc 1),AA (.int q),AA (.tp AG (tt.map Tm.pv)),u11,u12,AA (.tp AG (c2.map hanP)),AA (.bl b),AA (.tp AG (c2.reverse.map hanP)),AA (.bl b)] s1:=by
  have one:∀(C:PV) (u:Option PV),yd T (k+5) yer [.tp AG (tt.map Tm.pv),.int w,.int n,.int i,.int j,C,.int q] s1=.ok (.bl b) s1->exs (yd T (k+5)) [AA a0,AA (.loc 0),AA (.int wy),AA (.int sp),AA (.int w),AA (.int n),AA (.int i),AA (.int j),AA (.loc 1),AA (.int q),AA (.tp AG (tt.map Tm.pv)),u11,u12,AA (.tp AG (c2.map hanP)),AA (.bl b),AA C,u] s1 lwG =
    .nx [AA a0,AA (.loc 0),AA (.int wy),AA (.int sp),AA (.int w),AA (.int n),AA (.int i),AA (.int j),AA (.loc 1),AA (.int q),AA (.tp AG (tt.map Tm.pv)),u11,u12,AA (.tp AG (c2.map hanP)),AA (.bl b),AA C,AA (.bl b)] s1:=λC u e=>by
   simp! [lwG,lwF,yac,yU,e,hi',hcb]
  rw[zh (ρ1:=[AA a0,AA (.loc 0),AA (.int wy),AA (.int sp),AA (.int w),AA (.int n),AA (.int i),AA (.int j),AA (.loc 1),AA (.int q),AA (.tp AG (tt.map Tm.pv)),u11,u12,AA (.tp AG (c2.map hanP)),AA (.bl b),AA (.tp AG (c2.map hanP)),AC]) rfl,one _ _ e3];erw[yah];rw[zh (ρ1:=[AA a0,AA (.loc 0),AA (.int wy),AA (.int sp),AA (.int w),AA (.int n),AA (.int i),AA (.int j),AA (.loc 1),AA (.int q),AA (.tp AG (tt.map Tm.pv)),u11,u12,AA (.tp AG (c2.map hanP)),AA (.bl b),AA (.tp AG (c2.reverse.map hanP)),AA (.bl b)]) rfl,one _ _ e4];rfl
 erw[lwG,lwF,yac,yU]at lp;simp! [lwF,yac,yU,lE,e1,e2,rv,IC.seqOf,lp,e5,his]
end
theorem bT2{ρ:IC.Env}{a b:Nat}{x1 x2:PV}{kk:Bool}:yC (.t [a,b]) (.tp kk [x1,x2]) ρ=AA ((ρ.set a (AA x1)).set b (AA x2)):=rfl
def lwT:Css:=yac 9 yU.body
section
variable {ns:List Int}{st:SO}{w n i j q wy sp:Int}{cs:List yab}{tt:List Tm}{a0:PV}{p:Mp}
def zkL(k:Nat)(hns:ns.length<=1000)(hp:p.Ok)(h:Sv ns p st)(ht:∀t∈tt,Td p t/\t.ok p=AD)(hl:tt.length<=4)(l0:1<=tt.length):
  ∃(tt':List Tm) (st':SO) (u11:Option PV),Sv ns p st'/\(∀t∈tt',Tl p t)/\tt'.length<=60/\1<=tt'.length/\∀r,exs (yd T (k+5)) (lE (AA a0) p wy sp (.tup (tt.map Tm.pv)) AC AC) st (.cons (lwS 10) (.cons (lwS 11) r))=exs (yd T (k+5)) (lE (AA a0) p wy sp (.tup (tt'.map Tm.pv)) u11 AC) st' r:=by
 have skip1:∀(told:PV) (u:Option PV) (st:SO),wy≠1->ex (yd T (k+5)) (lE (AA a0) p wy sp told u AC) st (lwS 10)=.nx (lE (AA a0) p wy sp told u AC) st:=λtold u st hw=>by
  have hw':(wy==1)=false:=by simpa using hw
  simp! [lwS,yac,yU,lE,hw']
 have skip2:∀(told:PV) (u:Option PV) (st:SO),wy≠2->ex (yd T (k+5)) (lE (AA a0) p wy sp told u AC) st (lwS 11)=.nx (lE (AA a0) p wy sp told u AC) st:=λtold u st hw=>by
  have hw':(wy==2)=false:=by simpa using hw
  simp! [lwS,yac,yU,lE,hw']
 by_cases h1:wy=1
 .let⟨tt',q1,q2,q3,e⟩:=zkm k hp h ht hl l0 h1 (sp:=sp) (a0:=a0);refine⟨tt',st,AC,h,q1,by lia,q3,λr=>?_⟩;rw[xs_cons,e];show exs _ _ _ _=_;rw[xs_cons,skip2 _ _ _ ∅];rfl
 .by_cases h2:wy=2
  .let⟨tt',st',u,q0,q1,q2,q3,e⟩:=zkz k hns hp h (λt hm=>(ht t hm).1) hl l0 h2 (sp:=sp) (a0:=a0);refine⟨tt',st',u,q0,q1,q2,q3,λr=>?_⟩;rw[xs_cons,skip1 _ _ _ h1];show exs _ _ _ _=_;rw[xs_cons,e];rfl
  .refine⟨tt,st,AC,h,λt hm=>(ht t hm).1.tl,by lia,l0,λr=>?_⟩;rw[xs_cons,skip1 _ _ _ h1];show exs _ _ _ _=_;rw[xs_cons,skip2 _ _ _ h2];rfl
def zft(k:Nat)(hns:ns.length<=1000)(hp:(mom w n i j q cs).Ok)(hc:yaU (2^w.toNat) cs)(hlc:cs.length<=30)(h:Sv ns (mom w n i j q cs) st)(ht:∀t∈tt,Td (mom w n i j q cs) t/\t.ok (mom w n i j q cs)=AD)(hl:tt.length<=4)(l0:1<=tt.length):
  ∃st',exs (yd T (k+5)) (lE (AA a0) (mom w n i j q cs) wy sp (.tup (tt.map Tm.pv)) AC AC) st lwT=.rt (.bl AD) st':=by
 let⟨t1,s1,h1,q1,l1,e1⟩:=zkQ k hns hp h ht hl (wy:=wy) (sp:=sp) (a0:=a0);let⟨t2,s2,u2,h2,q2,l2,m2,e2⟩:=zkL k hns hp h1 q1 ∅ ∅ (wy:=wy) (sp:=sp) (a0:=a0);let⟨t3,s3,u3,h3,q3,l3,e3⟩:=zlL k hns h2 q2 l2 m2 (wy:=wy) (sp:=sp) (a0:=a0) (u11:=u2);let⟨c4,s4,u4,h4,q4',l4,e4⟩:=zkF k hns hp hc hlc h3 (wy:=wy) (sp:=sp) (a0:=a0) (told:=.tup (t3.map Tm.pv)) (u11:=u3);let⟨s5,e5⟩:=zkc k hns (zj3 hp q4') q4' l4 h4 (tt:=t3) (λt hm=>⟨zek (q3 t hm).1,zke (q3 t hm).2⟩) ∅ (wy:=wy) (sp:=sp) (a0:=a0) (u11:=u3) (u12:=u4);refine⟨s5,?_⟩;rw[show lwT=.cons (lwS 9) (.cons (lwS 10) (.cons (lwS 11) (.cons (lwS 12) (.cons (lwS 13) lwF))))from rfl,xs_cons,e1];show exs _ _ _ _=_;rw[e2,xs_cons,e3];show exs _ _ _ _=_;rw[xs_cons,e4];exact e5
end
def zfE(ns:List Int)(h:ns.length<=63):yd T 25 yes [.scr (ns.map .int)] []=.ok (.bl AD) []:=by
 have hns:ns.length<=1000:=by lia
 rw[zu (show T yes=AA yU from rfl) rfl rfl (by simp[nLs,nL,noLocs_ints])];let⟨v,e0,hv⟩:=fresh 23 ns h [];have r0:Drw ns 0 [v]:=⟨0,0,AG,by lia,by rw[hv];rfl⟩;let⟨wy,s1,y0,y1,o1,e1⟩:=zkR 21 hns (m:=3) ∅ ∅ r0;let⟨sp,s2,p0,p1,o2,e2⟩:=zkR 21 hns (m:=3) ∅ ∅ (o1.drw r0);have r2:=o2.drw (o1.drw r0);let⟨w,n,s3,w0,w1,n0,n1,o3,e3⟩:=sizes 20 hns (m:=4) ∅ ∅ r2;have r3:=o3.drw r2;let⟨i,s4,i0,i1,o4,e4⟩:=zkR 21 hns (m:=4) ∅ ∅ r3;let⟨j,s5,j0,j1,o5,e5⟩:=zkR 21 hns (m:=4) ∅ ∅ (o4.drw r3);have r5:=o5.drw (o4.drw r3);have l5:s5.length=1:=by rw[o5.len,o4.len,o3.len,o2.len,o1.len];rfl
 let⟨cs,s6,H6,l6,e6⟩:=zb8 19 hns (w:=w) ∅ w1 r5;rw[l5]at H6 e6;let⟨q,s7,q0,q1,o7,e7⟩:=zkR 21 hns (m:=2) ∅ ∅ H6.dr;have H7:=H6.onl ⋯ o7;have hp:(mom w n i j q cs).Ok:=⟨zf8 H7.ok,by show 0<=w;lia,w1,by show n.natAbs<_;lia,by show i.natAbs<_;lia,by show j.natAbs<_;lia,by show q.natAbs<_;lia⟩;have R:Rg (mom w n i j q cs):=⟨i0,by show i<=3;lia,j0,by show j<=3;lia,n0,n1⟩;let⟨m,s8,m0,m1,o8,e8⟩:=zkR 21 hns (m:=4) ∅ ∅ H7.dr;have H8:=H7.onl ⋯ o8;let⟨m,rfl⟩:=zaK m0;have hr:ybJ (.int (1+(m:Int)))=AA (yh (1+m) 0 1):=by
  rw[show (1:Int)+m=((1+m:Nat):Int)by lia];exact zcq _ ∅
 have S8:Sv ns (mom w n i j q cs) s8:=⟨H8.dr,H8.at1⟩;let⟨tt,s9,F9,q9,l9,e9⟩:=zbo (ns:=ns) (B:=s8) (λt=>Td (mom w n i j q cs) t/\t.ok (mom w n i j q cs)=AD) (call:=yd T 24) (ρ0:=[AC,AA (.loc 0)]) (t:=.n 0) (c:=.cst (.bl AD)) (e:=.call 20 (.cons (.var 1) .nil)) (yh (1+m) 0 1) s8 (Frm.refl H8.dr) (λx hx st hF=>by
  let⟨t,s',F,q1,q2,e⟩:=ze6 19 hns R hp hF;exact⟨t,s',F,⟨q1,q2⟩,by simp! [yaL,e]⟩)
 rw[zb0]at l9;let⟨s',e10⟩:=zft 19 hns hp H8.ok l6 (S8.frm F9) q9 ∅ ∅ (wy:=wy) (sp:=sp) (a0:=.scr (ns.map .int));have tu:yaa .tuple s9 [.lst (tt.map Tm.pv)]=AA (.tp AG (tt.map Tm.pv)):=rfl;have hb:yU.body=.cons (.asg (.n 1) (.call 7 (.cons (.var 0) .nil))) (.cons (.asg (.n 2) (.call 10 (.cons (.var 1) (.cons (.cst (.int 3)) .nil)))) (.cons (.asg (.n 3) (.call 10 (.cons (.var 1) (.cons (.cst (.int 3)) .nil)))) (.cons (.asg (.t [4,5]) (.call 11 (.cons (.var 1) (.cons (.cst (.int 4)) .nil)))) (.cons (.asg (.n 6) (.call 10 (.cons (.var 1) (.cons (.cst (.int 4)) .nil)))) (.cons (.asg (.n 7) (.call 10 (.cons (.var 1) (.cons (.cst (.int 4)) .nil)))) (.cons (.asg (.n 8) (.call 15 (.cons (.var 1) (.cons (.var 4) .nil)))) (.cons (.asg (.n 9) (.call 10 (.cons (.var 1) (.cons (.cst (.int 2)) .nil)))) (.cons (.asg (.n 10) (.blt .tuple (.cons (.comp [AC,AA 1] (.n 0) (.range1 (.bin .add (.cst (.int 1)) (.call 10 (.cons (.var 1) (.cons (.cst (.int 4)) .nil))))) (.cst (.bl AD)) (.call 20 (.cons (.var 1) .nil))) .nil))) lwT)))))))):=rfl;rw[hb];erw[PV.tup]at e3;erw[lE,PV.tup]at e10;simp! [yU,e0,e1,e2,e3,bT2,e4,e5,e6,e7,e8,hr,e9,zx (tt.map Tm.pv) (by rw[AQ];lia),tu,e10,zdH]
theorem walk{l:Em}{q:A4}{loose:List AW}{XP:(AW->Option AF)->Aw->Prop}{YP:Aa->Aw->Prop}{d:DefRec}{K:Params->AE}(hn:l.most=AA 63)(hdf:d.params.defaults=[])
  (hY:∀(w:Aa) (h:Aw),YP w h->(K w.params).In h)
  (F:∀(w:Aa) (mg:AW->Option AF) (fa:AK) (h:Aw),(K w.params).In h->h.Ns mainGlobals mg->mg d.name=AA (.ref fa) ->
   ∃fd:Ax,(∀(s:AI) (u:AF),Es s fd ⟨[u],[]⟩ [("_law_script",u)])/\∀base:Aw,(K w.params).In base->base.Ns mainGlobals mg->yaK l.prog w (K w.params) mg base (CX1 l.prog w) (2*25) fa fd ["_law_script"] (spX (K w.params) (yd T 25) yes)):
  Gx q loose XP YP l.row.toRowW d [] (λf vs=>HH f vs):=
 L2.walk_of (n:=63) (k:=2*25) (x:="_law_script") (CX:=λw=>CX1 l.prog w) (sp:=λw=>spX (K w.params) (yd T 25) yes) hn ⋯ hdf ⟨rfl,by decide,by decide⟩ hY F (λw H a ns hl _ hS=>zdP zfE hl hS) λ_ _ _ _ _ z=>ziL z
end WK
end
open PySem PySem.W PyProof.Rows
theorem PySem.Challenge.cw_widewords_k56_sentences_hold_holds : PySem.Challenge.rw_widewords_k56_sentences_hold.Holds := by
 refine hh.hd (by rfl) (by rfl) (by rfl) ?_
 k_fill
 refine WK.walk (l:=PySem.Challenge.rw_widewords_k56_sentences_hold) rfl rfl (λw h Y=>Y) ?F
 case F =>
  intro w mg fa h KX G hmg
  refine' L2.all_mk2 (t:=WK.tbQ) KX G hmg ?R ?B ?D WK.kb_all ?Ml WK.ok_all WK.T_ok (L:=27) rfl 25
  case R =>
   repeat' (first|exact trivial|apply And.intro|(refine' L2.rowFn ?a9 ?l9 ?c9 ?p9 ?b9;(case a9|l9|c9|p9=>k_is);(case b9=>((repeat intro _);first|rfl|kernel_rfl)))|(refine' L2.rowMe ?z9 ?a9 ?i9 ?l9 ?c9 ?p9 ?b9;(case z9=>((first|rw[WK.cn_20]);k_is));(case a9|i9|l9|c9|p9=>k_is);(case b9=>((repeat intro _);first|rfl|kernel_rfl)))|(refine' L2.rowIni ?z9 ?a9 ?i9 ?l9 ?c9 ?p9 ?b9 ?m9 ?k9;(case z9=>((first|rw[WK.cn_20]);k_is));(case a9|i9|l9|c9|p9=>k_is);(case b9=>((repeat intro _);first|rfl|kernel_rfl));(case m9|k9=>k_is))|(refine' L2.rowFd ?a9 ?l9 ?c9 ?p9 ?d9 ?e9 ?v9;(case a9|l9|c9|p9|d9=>k_is);(case e9=>rfl);(case v9=>(repeat first|exact .nil|refine .cons ⟨_,rfl⟩ ?_))))
  case B=>kernel_rfl
  case D =>
   repeat' (first|exact trivial|apply And.intro|intro _|(refine' L2.gd_mk KX G ?a9 ?l9 ?s9 ?r9 ?n9;(case a9|l9=>k_is);(case s9=>rfl);(case r9=>(repeat first|exact .nil|refine L2.con_row (by kernel_rfl) ?_));(case n9=>decide +kernel)))
  case Ml =>
   repeat' (first|exact trivial|apply And.intro|(refine' L2.gdf_mk KX G ?a9 ?l9 ?r9 ?n9;(case a9|l9=>k_is);(case r9=>(repeat first|exact .nil|refine L2.frow_cons (by kernel_rfl) ?_));(case n9=>decide +kernel)))
