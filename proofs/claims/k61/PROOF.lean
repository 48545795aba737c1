import PyProof.Rows.All
import OpenK.KLine
import Open.Tops
import Wide.FinOn
import KE.KRevSl
import KE.KItem
import KE.KxWritten
import KE.KFromBytes
import KE.LcSums
import KE.KBits
import KE.KTryMore
import KE.KDictOf
import PyProof.AttrMissHeap
import KE.KEqDict
import KE.KSortTup
import PySem.Challenge.RW_widewords_k61_whole_sentences_of_sums_an
set_option Elab.async false
set_option linter.all false
set_option maxRecDepth 100000
set_option maxHeartbeats 0
local macro_rules
 | `(#print $s:str)=>do
  let n:=fun (x:Lean.Name)=>Lean.mkIdent (.mkSimple s!"tw{x.hash}")
  let mut a:=#[n `PySem.Challenge.pw_widewords_k61_whole_sentences_of_sums_an]
  for e in s.getString.splitOn "|" do
   let f:=e.splitOn " "
   let mut p:=0
   for r in f.tail! do
    let g:=(r.splitOn ".").map String.toNat!
    p:=p+g[0]!
    for j in [0:g.getD 1 0+1] do a:=a.push (n (.mkStr2 "sh" (f[0]!++toString (p+j))))
    p:=p+g.getD 1 0
  `(structure $(Lean.mkIdent `PySem.W.Fast):declId:Prop where ($a*:True))
set_option genSizeOf false
set_option genInjectivity false
#print "o_ 3 2 4 3.1 2.2 4 2 3 3.1 2.1 22 2.2 5.2 2 4.2 3 2.2 4 2.2 4 2.2 4 2.2 3 2.2 5.2 5.2 5.2 3 2.2 3 2.2 3 2.2 2 10 2.2 3 2.2 5.2 5.2 11.2 3 2.2 3 2.2 8.2 2 6.2 3 2.2 5.2 3 2.2 3 2.2 5.2 3 2.2 5.2 5.2 5.2 5.2 3 2.2 2 6.2 5.2 5.2 17.2 3 2.2 5.2 5.2 5.2 5.2 5.2 2 4 2.2 3 2.2 5.2 3 2.2 5.2 3 2.2 3 2.2 3 2.2 5.2 3 2.2 3 2.2 3 2.2 2 4 2.7 5.2 5.2 5.2 5.2 5.2 3 2.2 3 2.2 3 2.2 3 2.2 2 4 2.2 3.2 3 2.2 3 2.2 3.2 3 2.2 3.2 3.2 3.2 3 2.2 3 2.2 3.2 3 2.2 2 4 2.2 3.2 3 2.2 3.2|sts_ 4 17 47 88 74 87 85 87 78 82|tree_ 19 47 88 74 87 85 87 78 82 27"
set_option genSizeOf true
set_option genInjectivity true
open_shared sh for PySem.Challenge.pw_widewords_k61_whole_sentences_of_sums_an leaving 0
namespace hh
open PySem PySem.W PySem.Calls PyProof.Rows
noncomputable abbrev p:=PySem.Challenge.pw_widewords_k61_whole_sentences_of_sums_an
abbrev z:Pos:=⟨0,0,0,0⟩
abbrev an:Option Value:=some (.ref 6)
noncomputable abbrev bE:=behindTheImports p
noncomputable abbrev cE:Code:=.body bE sh.env_1
noncomputable abbrev H1(P:Params):Heap:=absHeap (sh.tree_674 P) 655 {}
noncomputable abbrev S0(w:World)(os:OsState):Shared:=⟨boot_heap w.params,⟨[]⟩,boot_drawn,boot_toks,os⟩
noncomputable abbrev Sb(w:World)(os:OsState):Shared:=SharedT.abs ⟨sh.tree_4 w.params,15,{},⟨[]⟩,{},187,os⟩
noncomputable abbrev Sk(w:World)(os:OsState):Shared:=SharedT.abs ⟨sh.tree_674 w.params,655,{},⟨[]⟩,{},1080,os⟩
theorem pre(w os):topGo treeTable p w 11 an 12 (S0 w os) (topStub p)=some (Sb w os,⟨denote treeTable cE,cE,z,[topFrame z]⟩):=by kernel_rfl
theorem blk(w os):segRun treeTable p w 11 an 1 1 (Sb w os) (blockOf bE sh.env_1 cE z [topFrame z])=some (.next,Sb w os,cE,z):=by kernel_rfl
theorem fin(w os):topRun treeTable p w 11 an 2 (Sk w os) (restOf [] sh.env_1 cE ⟨376,0,383,15⟩ [topFrame z])=some (Sk w os):=by kernel_rfl
theorem bod:bE=sh.sts_4++(sh.sts_21++(sh.sts_68++(sh.sts_156++(sh.sts_230++(sh.sts_317++(sh.sts_402++(sh.sts_489++(sh.sts_567++(sh.sts_649++[]))))))))):=by kernel_rfl
theorem run(w os):topRun treeTable p w 11 an (12+(1+(196+(400+(391+(392+(382+(401+(373+(397+(366+(123+2)))))))))))) (S0 w os) (topStub p)=some (Sk w os):=by
 refine go_top (pre w os) (piece_block (blk w os) ?_)
 have h:=sh.chain p bE w os [] 2 (Sk w os) (fin w os)
 rw[<-bod] at h
 exact h
noncomputable def q:Program:=view p [119]
noncomputable abbrev lo:List Str:=p.boundNames
theorem look(w:World):(fun os=>((staticsOk (importedModules p.main.body) (boot_heap w.params) (H1 w.params) && namesBound p (H1 w.params) && gensDone (Sk w os) && laidKept (boot_heap w.params) (H1 w.params)),openSeen q lo (importedModules p.main.body) (fun _=>true) true (Sk w os),(Sk w os).heap))=fun _=>(true,openGood q lo,H1 w.params):=by kernel_rfl
theorem left:LeftO p q lo (fun _=>true) Shared.heap (fun w=>H1 w.params) 6948:=.of_pieces (boot_open (by kernel_rfl) (by kernel_rfl) fun s=>by kernel_rfl) (fun w=>by kernel_rfl) run (by kernel_rfl) look
theorem inA{t:BT}{n:Nat}{f:Life}{K:Frag}(h1:K.all (fun x=>Nat.blt x.1 n)=true)(h2:K.map (fun x=>t.get x.1)=K.map fun x=>some x.2)(h3:K.map (fun x=>alive x.2)=K.map fun x=>some x.2):K.In (absHeap t n f):=by
 intro a o e
 induction K with
 | nil=>cases e
 | cons x r ih=>
  obtain ⟨b,y⟩:=x
  simp only[List.map_cons,List.cons.injEq,List.all_cons,Bool.and_eq_true] at h1 h2 h3
  by_cases hb:(a==b)=true
  · rw[List.lookup_cons,hb] at e
    cases e
    have:=beq_iff_eq.mp hb
    subst this
    rw[abs_get (Nat.le_of_ble_eq_true h1.1) h2.1]
    exact h3.1
  · rw[List.lookup_cons,eq_false_of_ne_true hb] at e
    exact ih h1.2 h2.2 h3.2 e
local macro_rules
 | `(panic! $s:str)=>do
  let mut v:=#[]
  let mut p:=0
  let mut q:=0
  for r in s.getString.splitOn " " do
   if let g::l::m:=(r.splitOn ",").map String.toNat! then
    let i:=m.headD (q+g)
    p:=p+g
    for j in [0:l] do v:=v.push (p+j,if i==0 then .str `PySem.W s!"boot_o_{p+j}" else .str `sh s!"o_{i+j}")
    p:=p+l
    q:=i+l
  let mut a ← `(List.nil)
  for (x,o) in v.reverse do a ← `(List.cons (nat_lit $(Lean.Syntax.mkNumLit (toString x)),$(Lean.mkIdent o) P) $a)
  `(fun P=>$a)
noncomputable def KK:Params->Frag:=panic! "2,1,0 0,1,649 11,1,7 6,2 0,1,23 0,1,17 2,1,24 6,3 2,18 1,2 1,3 1,2 1,2 0,1,70 2,3 1,2 1,4 1,2 1,4 1,2 1,4 1,2 1,3 1,2 1,3 1,2 1,3 1,2 1,3 1,2 1,3 1,2 1,3 1,2 1,3 1,2 1,2 0,7,158 1,2 1,3 1,2 1,3 1,2 1,3 1,2 1,9 1,2 1,3 1,2 1,3 1,2 1,6 1,2 1,2 0,1,232 1,2 1,3 1,2 1,3 1,2 1,3 1,2 1,3 1,2 1,3 1,2 1,3 1,2 1,3 1,2 1,3 1,2 1,3 1,2 1,3 1,2 1,3 1,2 1,2 0,1,319 1,2 1,3 1,2 1,3 1,2 1,15 1,2 1,3 1,2 1,3 1,2 1,3 1,2 1,3 1,2 1,3 1,2 1,3 1,2 1,2 0,1,404 1,2 1,3 1,2 1,3 1,2 1,3 1,2 1,3 1,2 1,3 1,2 1,3 1,2 1,3 1,2 1,3 1,2 1,3 1,2 1,3 1,2 1,3 1,2 1,2 0,1,491 1,2 1,8 1,2 1,3 1,2 1,3 1,2 1,3 1,2 1,3 1,2 1,3 1,2 1,3 1,2 1,3 1,2 1,3 1,2 1,2 0,1,569 1,2 1,3 2,3 1,2 1,3 1,2 1,3 2,3 1,2 1,3 2,3 2,3 2,3 1,2 1,3 1,2 1,3 2,3 1,2 1,2 0,1,651 1,2 1,3 2,3 1,2 1,3 2,2"
theorem inK(w:World):InK KK w (H1 w.params):=inA (K:=KK w.params) (by kernel_rfl) (by kernel_rfl) (by kernel_rfl)
theorem hd{d:DefRec}{k:List (Str×Expr)}(a:defOf q "law"=some (d,k))(b:p.theDef "law"=some (d.params,d.body,d.scope))(c:kwWritten? d.params.kwonlyargs d.params.kw_defaults=some k)(h:WalkO q lo (fun _ _=>True) (InK KK) PySem.Challenge.rw_widewords_k61_whole_sentences_of_sums_an.row.toRowW d k fun f vs=>PySem.call f vs):PySem.Challenge.rw_widewords_k61_whole_sentences_of_sums_an.Holds:=by
 w_on;o_law
 refine holds_open left (YP:=InK KK) (XP:=fun _ _=>True) (fun w s e=>e ▸ inK w) InK.keeps (fun _ _=>trivial) (fun _ _ _ _ _=>trivial) a b c (fun s _=>recFacts_nil rfl) (by rfl) (by assumption) (by decide +kernel) ⟨rfl,rfl,rfl,rfl,rfl,by decide +kernel⟩ ?hw h
 w_witness2
end hh
local macro_rules|`(⋯)=>`((by decide))
local macro_rules|`(∅)=>`((by lia))
set_option compiler.extract_closed false
set_option bootstrap.genMatcherCode false
set_option genSizeOf false
open Option renaming some->AA,none->AF,isSome_iff_exists->A1,getD_some->BQ,bind_some->Be,any_eq_true_iff_get->CJ,map_some->CW,map_eq_some_iff->EH,get_some->ER,getD_none->FV
open PySem renaming wpAny_bind->AB,Value->AD,Shared->AG,Addr->AI,wpAny_pure->AK,Expr->AM,wpAny->AN,Str->AR,Program->AT,World->A3,Around->A5,FuncData->Af,Heap->Ah,wpAny_newObj_type->Au,sizeLine_eq->Av,Env->Az,Scope->BB,wpAny_holding->BD,wpAny_call_entry->BH,wpAny_truthy_bool->BJ,wpAny_callSpecial?_slot->BO,DictEntry->BU,wpAny_mono->BW,wpAny_typeNameOfWhole_keyiter->B5,Obj->B6,wpAny_dictEntries->B8,Stmt->Bb,Pos->Bd,wpAny_Call_Name_kw->Bg,wpAny_passesOwn->Bm,wpAny_typeNameOf_keyiter->Bt,mem_of_lookup->Bv,wpAny_field->Bw,Keyword->Bz,wpAny_dictEpoch->CZ,wpAny_pyIter_tuple->C1,NameKind->C6,wpAny_setField->Cc,wpAny_notOrdered_dict->Ck,wpAny_eqBool_int->Co,wpAny_standAt->Cv,wpAny_typeOf->DI,wpAny_seqItems->DN,wpAny_newFunctionEnv_cells->DV,wpAny_pyIter_list->D7,wpAny_comprehension_free->Da,wpAny_isInstance->Dg,HeapKind->Dh,Operator->Di,PassesOwn->Dj,noFill_tuple_add->Dp,wpAny_rule->Dx,wpAny_pyNext_list_item->Dz,BindsTo->EA,IsPart->EB,codeAny_mono->EF,Builtin->EG,wpAny_execs_nil->EO,wpAny_pyNext_list_end->ET,codeAny_call_function->EU,wpAny_isOneOf_keyiter->EX,wpAny_loadName_local->E2,wpAny_loadName_cell->Ec,CmpOp->Eh,seq_tuple_add->Ei,wpAny_newList->En,strKind_is->Ex,wpAny_assign_Name->FB,concat_meets->FH,wpAny_sequenceKey->FI,slot_list_getitem->FJ,wpAny_pyIter_enum->FM,wpAny_pyIter_slot->FO,wpAny_eqBool_str->FP,Paired->FQ,Result->FT,seqIndex_of->F0,wpAny_specialOf->F2,codeAny_builtin->F6,size_of_entries->F9,wpAny_Name->Ff,typeIs_str->Fh,call->Fi,Fin->GW,BoolOp->G3,Sem->Gd,Tok->Gh
open Bool renaming true->AC,false->AH,and_eq_true->AJ,false_ne_true->AQ,false_eq_true->BC,not_eq_true'->B7,eq_iff_iff->CB,or_eq_true->DD,false_and->DR,not_true->Eg,true_and->El,or_false->GI,false_or->GN,and_self->GO,true_or->G0
open PySem.W renaming Frag->AE,keepIn->Aa,findIn->Ad,nsIn->Ao,kitOne->As,fnOf->BG,codeIn->Bf,kia_one->CC,hideAll->CS,isFn->C5,cellsFrom_some->C7,methodObj->D6,mg_of->Dc,plainGet->Dm,OpenLaw->Du,instObj->EN,makesIn->EQ,lookIn->E3,hideAll_get->Eb,excIn->Em,of_hideAll->Et,codeRec_of->Eu,hasDictIn->FE,plainOver->FF,WalkO->Fb,exmOne->Fp,subIn->GJ,mroIn->GL,clsIn->GM,Rel2->G1
open PySem.Heap renaming get?_push_of_some->AL,lt_size->AO,get?_push_size->AX,get?_push_ne->Bp,SameBut->By,size_update->CL,get?_update_other->C9,get?_update_self->Cg,get?_update_ne->Ee,size_push->Fj,MadeExcOf->Fk,FlyingW->GZ,ExtBut->Ga
open Nat renaming le_refl->AS,lt_of_lt_of_le->AY,ne_of_lt->A0,zero_le->BK,le_trans->BS,lt_irrefl->Br,lt_succ_of_lt->Cf,le_succ->Cw,le_succ_of_le->D8,reduceSub->De,ne_of_gt->Dy,lt_or_ge->EK,le_of_lt->FA,le_of_eq->GY,sub_zero->G4
open List renaming size_toArray->AU,mem_of_getElem?->AV,mem_cons_of_mem->AZ,map_cons->A2,getElem?_cons_succ->A4,getElem?_cons_zero->A6,getElem?_append_left->A7,mem_append_right->A9,getElem?_append_right->Ab,mem_cons->Ac,length_cons->Ag,mem_cons_self->Ai,replicate->Aj,all_cons->Al,getElem?_eq_some_iff->Am,getElem?_set_ne->An,set_cons_zero->Ap,set_cons_succ->Aq,getElem?_map->BA,length_set->BE,getElem?_set_self->BF,getElem?_eq_getElem->BL,length_map->BN,lookup_cons->BP,length_append->BX,all_eq_true->BZ,length->B4,find?_cons->B9,any_cons->Bc,length_nil->Bn,filterMap_cons->Bu,map_nil->CA,drop_eq_getElem_cons->CN,mem_append->CT,nodup_cons->CU,foldl_cons->CV,nil_append->CY,filter_cons_of_neg->C3,filter_cons_of_pos->C4,reverse_cons->Ca,filterMap->Cd,getElem?_eq_none->Ci,any_eq_true->Cp,not_mem_nil->Cr,cons_append->Ct,append_nil->DA,of_mem_zip->DB,mem_filterMap->DS,zip_cons_cons->DY,pairwise_iff_getElem->D3,getElem?_set->D9,length_take->Dn,getElem?_replicate->Do,length_drop->Dq,drop_length->Ds,range->Dw,set_set->EL,forIn_cons->EM,length_filter_le->EY,contains_iff_mem->EZ,mem_append_left->E1,length_pos_iff->Ef,filter_append->Ey,isEmpty_cons->FN,isEmpty_nil->FW,take_length->FX,range'_succ->FZ,lookup->F1,mem_filter->F3,mem_range->Fe,mem_map->G6,range'->Gc
open Option.some renaming inj->AW
open PySem.Value renaming ref->A8,none->BI,bool->Dv,type->Fd,isStrOf->Fz,int->GR,str->GS,isInt->G8
open PySem.PyData renaming eqv->Ae,depthAll->BM,depth->BR,eqvAll->B0,canLay0->B3,canLayAll0->Bo,keyHash->DZ
open PyProof.Rows renaming slot_tuple_getitem->Ak,callWith_type1->CF,AllBare->Cu,assignInOrder_cons->DQ,listUpdate_at->Db,subscriptTail_builtinR->EC,seqEpoch_at->E6,tupleItemsOf_->Ea,entry_tuple_getitem->Ed,args_tuple_getitem->Ew,assignInOrder_nil->FD,callWith_builtin1->FU,boot_isinstance->F5,list_sort_plain->F7,get?_update_seq->F8,IntsAre->Fa,Subscript_->Fg,size_push'->Fm
open PySem.Str renaming ofString->Ar,empty->FR
open PySem.Obj renaming mapSeq->Aw,data_mapFields->C0,isFreed_of_fields->EW,mapFields->Ek,cls_mapFields->FK
open PySem.Value.type renaming inj->Ax
open PySem.F renaming slot_dict_keyiterator_next->Ay,slot_tuple_iterator_next->Bi,args_tuple_add_2->CP,slot_list_getattribute->CQ,entry_tuple_add->C2,slot_tuple_add->C8,slot_dict_get->Ch,args_dict_keyiterator_next_1->Cq,entry_dict_keyiterator_next->Cy,args_tuple_iterator_next_1->DC,slot_dict_keyiterator_iter->DF,entry_tuple_iterator_next->DJ,args_dict_get_3->Dr,entry_dict_get->EI,slot_list_append->EV,slot_dict_ne->E8,slot_dict_iter->FY
open PySem.Challenge renaming rw_widewords_k61_whole_sentences_of_sums_an->BV,pw_widewords_k61_whole_sentences_of_sums_an->Cn
open False renaming elim->BY
open Ne renaming symm->B1
open True renaming intro->Ba
open PySem.Heap.FunFrames renaming mem->Bj
open PySem.Builtin.Slice renaming slicePlaces->Bk,sliceAdjust->CM,sliceApplied->DW,slicePartIndex->F4,sliceFields->Fx
open PySem.Builtin.SmallTypes renaming nextOf->Bl
open PySem.Paired renaming length->Bq,snoc->Gb
open PySem.Builtin.Tuple renaming tupleExact->Bs,tupleItemsOf->CG,tupleHashOf->D2
open PySem.NameKind renaming free->CD,cell->Ej
open PySem.Around renaming in1_units->CK,under_plainId->E5
open PySem.Heap.SameBut renaming update->CO,refl->Gj
open Int renaming toNat_natCast->Cb,emod_lt_of_pos->D1,emod_nonneg->ES,mul_one->G9
open Array renaming getElem?_toList->Cj,length_toList->DG,append_assoc->DO,getElem?_eq_some_iff->DX,getElem?_eq_getElem->D4,forIn_toList->Es,toList->Ez
open PySem.Builtin.Dict renaming showsAll->Cm,dictSlotArgs->D5,updateFrom->Dt,samePairs->EJ,dictSlotNone->Fy,addKeywords->GP,selfAndRest->GQ,pairItems->G5
open ForInStep renaming yield->Cz
open PySem.Builtin.Dict_items renaming ownsTuple->DE
open Sum renaming inr->DH,inl->E9
open PySem.Builtin.Str renaming strSliceIndices->DL,occurrences->Dl
open PUnit renaming unit->DM
open PySem.Calls renaming Name_function_global->DP,spliced_cons->DU,callWith_builtin->ED,evalArgs_plain->E4,spliced_nil->FG
open PySem.ScopeKind renaming function->D0
open Std.Legacy.Range renaming forIn_eq_forIn_range'->E7,size->G7
open PySem.SeqAt.EqAt renaming int_str->Eo,str_int->Ep
open PySem.WalksT renaming enumerateD->FL
open Eq renaming refl->Fc
open PySem.EqNone renaming ne_none_none->Fq,ne_none_bool->Ft,ne_bool_none->Fu,ne_none_int->GA,ne_none_str->GB,ne_int_none->GE,ne_str_none->GG
open PySem.EqMixed renaming ne_bool_str->Fv,ne_str_bool->Fw,ne_int_str->GF,ne_str_int->GH
open PySem.Flow renaming next->GT
open PySem.Builtin.Range renaming rangeSize->GU
open PySem.Heap.UpToSlots renaming of_keeps->GV
open And renaming intro->GX
open PySem.SeqAt renaming shaped->G2,EqAt->Gf
open PySem.Heap.IsSliceOf renaming new->Ge
open PySem.W.WShape renaming has->Gg
open List.Pairwise renaming nil->Gi
open PySem.W.WData renaming int->Gk
open PySem.Heap.DictOfH renaming new->Gm
noncomputable section
open Lean in
def cnvP:Nat->Syntax->MacroM (TSyntax `rcasesPat)
 |0,_=>Macro.throwUnsupported
 |n+1,s=>do
  if s.isOfKind ``Lean.Parser.Term.anonymousCtor then `(rcasesPat| ⟨$[$(← s[1].getSepArgs.mapM (cnvP n)):rcasesPat],*⟩)
  else if s.isIdent then `(rcasesPat| $(⟨s⟩):ident)
  else if s.isOfKind ``Lean.Parser.Term.hole then `(rcasesPat| _)
  else Macro.throwUnsupported
local macro_rules | `(tactic| let $p:term := $e)=>do `(tactic| obtain $(← cnvP 9 p):rcasesPat := $e)
local macro_rules | `(tactic| erw [$rs,*] $(l)?)=>do
 let t<-rs.getElems.mapM λ|`(Lean.Parser.Tactic.rwRule| $t:term)=>`(Lean.Parser.Tactic.simpLemma| $t:term)|_=>Lean.Macro.throwUnsupported
 `(tactic| simp only[$t,*] $(l)?)
local macro_rules | `(fun $bs* => $b)=>do
 if !(bs.any λx=>x.raw.isOfKind ``Lean.Parser.Term.anonymousCtor)||(b.raw.find? λx=>x.isOfKind ``Lean.Parser.Term.syntheticHole).isSome then Lean.Macro.throwUnsupported
 `(by rintro $[$(← bs.mapM λx=>cnvP 9 x.raw):rcasesPat]*;exact $b)
set_option backward.eqns.nonrecursive false
local macro_rules (kind:=Lean.Parser.Command.declaration)
 |s=>do
  let k:=s[1].getKind
  unless (k==``Lean.Parser.Command.definition||k==``Lean.Parser.Command.abbrev)&&s[0].getArgs.all (·.isNone) do Lean.Macro.throwUnsupported
  if k==``Lean.Parser.Command.definition&&(toString s[1][1][0].getId).startsWith "z" then
   let m←`(theorem x:True:=trivial)
   return s.setArg 1 (((m.raw[1].setArg 1 s[1][1]).setArg 2 (Lean.mkNode ``Lean.Parser.Command.declSig #[s[1][2][0],s[1][2][1][0]])).setArg 3 s[1][3])
  let m←`(noncomputable def x:=0)
  return s.setArg 0 m.raw[0]
namespace L2
open PySem PySem.Spec PyProof.Rows
abbrev Key:=Sum Int AR
def yaQ:Key->AD->Bool
 |.inl k,v=>G8 k v
 |.inr x,v=>Fz x v
def yeA(w:A3):Key->Int
 |.inl k=>hashInt k
 |.inr x=>hashStr w x
def zd:∀{k:Key} {v:AD},yaQ k v=AC->(∃i t,k=E9 i/\v=GR i t) \/ (∃x t,k=DH x/\v=GS x t)
 |.inl i,v,h=>by
  let⟨t,e⟩:=Value.isInt_shape (k:=i) (v:=v) h;exact .inl ⟨i,t,rfl,e⟩
 |.inr x,v,h=>by
  let⟨t,e⟩:=Value.isStrOf_shape (x:=x) (v:=v) h;exact .inr ⟨x,t,rfl,e⟩
def zdf(i:Int)(t:Gh):yaQ (.inl i) (.int i t)=true:=by simp[yaQ,G8]
def zcT(x:AR)(t:Gh):yaQ (.inr x) (.str x t)=true:=by simp[yaQ,Fz]
def zgH(a b:Int):decide ((E9 a:Key)=E9 b)=(a==b):=by
 by_cases e:a=b
 .subst e;simp
 .have h:¬(E9 a:Key)=E9 b:=λq=>e (Sum.inl.inj q);rw[decide_eq_false h];exact(beq_eq_false_iff_ne.mpr e).symm
def zhA(a b:AR):decide ((DH a:Key)=DH b)=decide (a=b):=by
 by_cases e:a=b
 .subst e;simp
 .have h:¬(DH a:Key)=DH b:=λq=>e (Sum.inr.inj q);rw[decide_eq_false h,decide_eq_false e]
def zis(a:Int)(b:AR):decide ((E9 a:Key)=DH b)=false:=decide_eq_false (λq=>nomatch q)
def zg1(a:AR)(b:Int):decide ((DH a:Key)=E9 b)=false:=decide_eq_false (λq=>nomatch q)
def yx(prog:AT)(w:A3):PySem.KeyKind prog w Key where
 is:=yaQ
 hash:=yeA w
 inj:=λv a b ha hb=>by
  rcases zd ha with⟨i,t,rfl,rfl⟩|⟨x,t,rfl,rfl⟩
  .rcases zd hb with⟨j,u,rfl,e⟩|⟨y,u,rfl,e⟩
   .injection e with e1 _;rw[e1]
   .exact nomatch e
  .rcases zd hb with⟨j,u,rfl,e⟩|⟨y,u,rfl,e⟩
   .exact nomatch e
   .injection e with e1 _;rw[e1]
 byValue:=λk v h=>by
  rcases zd h with⟨i,t,rfl,rfl⟩|⟨x,t,rfl,rfl⟩<;>rfl
 pyHash:=λhv h=>by
  rcases zd hv with⟨i,t,rfl,rfl⟩|⟨x,t,rfl,rfl⟩
  .exact wpAny_pyHash_int h
  .exact wpAny_pyHash_str h
 eqBool:=λhu hv h=>by
  rcases zd hu with⟨i,t,rfl,rfl⟩|⟨x,t,rfl,rfl⟩
  .rcases zd hv with⟨j,u,rfl,rfl⟩|⟨y,u,rfl,rfl⟩
   .rw[zgH]at h;exact Co h
   .rw[zis]at h;exact Eo i t y u _ _ _ _ h
  .rcases zd hv with⟨j,u,rfl,rfl⟩|⟨y,u,rfl,rfl⟩
   .rw[zg1]at h;exact Ep x t j u _ _ _ _ h
   .rw[zhA]at h;exact FP h
 «strs»:=λk x t v h=>by
  rcases zd h with⟨i,u,rfl,e⟩|⟨y,u,rfl,e⟩
  .exact nomatch e
  .injection e with e1 _;subst e1
   cases v<;>rfl
def zbM(prog:AT)(w:A3)(i:Int)(t:Gh):(yx prog w).is (.inl i) (.int i t)=true:=zdf i t
def zbS(prog:AT)(w:A3)(x:AR)(t:Gh):(yx prog w).is (.inr x) (.str x t)=true:=zcT x t
end L2
namespace L2
open PySem
inductive NK where
 |a (k:Key)
 |t (l:List NK)
noncomputable instance:DecidableEq NK:=λ_ _=>Classical.propDecidable _
mutual
def NI(h:Ah):NK->AD->Prop
 |.a k,v=>yaQ k v=AC
 |.t l,v=>∃(b:AI) (its:List AD),v=.ref b/\h.get? b=AA {cls:=.type "tuple",data:=.seq its.toArray}/\NIs h l its
def NIs(h:Ah):List NK->List AD->Prop
 |[],vs=>vs=[]
 |k::l,vs=>∃v r,vs=v::r/\NI h k v/\NIs h l r
end
mutual
def nkH(w:A3):NK->Int
 |.a k=>yeA w k
 |.t l=>reduceHash (D2 (yck w l))
def yck(w:A3):List NK->List Int
 |[]=>[]
 |k::l=>nkH w k::yck w l
end
mutual
def nkN:NK->Nat
 |.a _=>1
 |.t l=>ycS l+1
def ycS:List NK->Nat
 |[]=>0
 |k::l=>nkN k+ycS l
end
mutual
def nkD:NK->PyData
 |.a (.inl i)=>.int i
 |.a (.inr x)=>.str x
 |.t l=>.tuple (yax l)
def yax:List NK->List PyData
 |[]=>[]
 |k::l=>nkD k::yax l
end
section
variable {prog:AT}{w:A3}{E:AD->AG->Prop}
mutual
theorem zdV:∀(k:NK) (v:AD) (A:A5) (s:AG) (Q:Int->AG->Prop),NI s.heap k v->A.units+(nkD k).depth<cLine->Q (nkH w k) {s with toks:=s.toks+nkN k}->AN (model prog w) A (pyHash v) Q E s
 |.a k,v,A,s,Q,hi,_,h=>(yx prog w).pyHash (k:=k) hi h
 |.t l,v,A,s,Q,hi,hu,h=>by
  let⟨b,its,rfl,g,hs⟩:=hi;erw[nkD,BR]at hu;refine PySem.W.pyHash_slot (T:="tuple") ⟨_,g,rfl⟩ F.slot_tuple_hash F.entry_tuple_hash (F.args_tuple_hash_1 _) (beq_builtin_none _) (.inr ∅) ?_;show AN _ _ (CG (.ref b) >>= _) _ _ s;refine AB (wpAny_tupleItemsOf g rfl ?_);refine AB ?_;rw[<-Es];refine zc5 l its A.in1 s #[] _ hs (by erw[CK];lia) λb' hb=>?_;show AN _ _ (retInt (D2 b'.toList)) _ _ _;rw[hb];exact AB (wpAny_mkInt (AK ⟨_,_,rfl,h⟩))
theorem zc5:∀(l:List NK) (vs:List AD) (A:A5) (s:AG) (b:Array Int) (Q:Array Int->AG->Prop),NIs s.heap l vs->A.units+BM (yax l)<cLine ->
  (∀b',b'.toList=b.toList++yck w l->Q b' {s with toks:=s.toks+ycS l}) ->
  AN (model prog w) A (forIn vs b λx r=>do let h <-pyHash x;pure DM;pure (Cz (r.push h))) Q E s
 |[],vs,A,s,b,Q,hi,_,h=>by
  cases (show vs=[]from hi)
  exact AK (h b (by simp[yck]))
 |k::l,vs,A,s,b,Q,hi,hu,h=>by
  let⟨v,r,rfl,h1,h2⟩:=hi;erw[yax,BM]at hu;rw[EM];refine AB (AB (zdV k v A s _ h1 ∅ ?_));refine AB (AK (AK ?_));refine zc5 l r A _ _ Q h2 ∅ λb' hb=>?_;have:=h b' (by simp[hb,yck]);simpa [ycS,Nat.add_assoc] using this
end
mutual
theorem zaV{h:Ah}:∀(k:NK) (v:AD),NI h k v->∃as,Reads h v (nkD k) as
 |.a (.inl i),v,hi=>by
  rcases zd hi with⟨j,t,e,rfl⟩|⟨x,t,e,rfl⟩
  .cases e;exact⟨_,.int _ _⟩
  .cases e
 |.a (.inr x),v,hi=>by
  rcases zd hi with⟨j,t,e,rfl⟩|⟨y,t,e,rfl⟩
  .cases e
  .cases e;exact⟨_,.str _ _⟩
 |.t l,v,hi=>by
  let⟨b,its,rfl,g,hs⟩:=hi;let⟨as,r⟩:=zbr l its hs;exact⟨as,.tuple g rfl rfl (by simpa using r)⟩
theorem zbr{h:Ah}:∀(l:List NK) (vs:List AD),NIs h l vs->∃as,ReadsAll h vs (yax l) as
 |[],vs,hi=>by cases (show vs=[]from hi);exact⟨_,.nil⟩
 |k::l,vs,hi=>by
  let⟨v,r,rfl,h1,h2⟩:=hi;let⟨a1,r1⟩:=zaV k v h1;let⟨a2,r2⟩:=zbr l r h2;exact⟨_,.cons r1 r2⟩
end
mutual
theorem zfb:∀a b:NK,Ae (nkD a) (nkD b)=decide (a=b)
 |.a (.inl i),.a (.inl j)=>by erw[nkD,Ae];by_cases e:i=j<;>simp[e]
 |.a (.inl i),.a (.inr j)=>by simp[nkD,Ae]
 |.a (.inr i),.a (.inl j)=>by simp[nkD,Ae]
 |.a (.inr i),.a (.inr j)=>by erw[nkD,Ae];by_cases e:i=j<;>simp[e]
 |.a (.inl i),.t l=>by simp[nkD,Ae]
 |.a (.inr i),.t l=>by simp[nkD,Ae]
 |.t l,.a (.inl i)=>by simp[nkD,Ae]
 |.t l,.a (.inr i)=>by simp[nkD,Ae]
 |.t l,.t m=>by erw[nkD,Ae,zdp l m];by_cases e:l=m<;>simp[e]
theorem zdp:∀a b:List NK,B0 (yax a) (yax b)=decide (a=b)
 |[],[]=>by simp[yax,B0]
 |[],_::_=>by simp[yax,B0]
 |_::_,[]=>by simp[yax,B0]
 |a::l,b::m=>by
  erw[yax,B0,zfb a b,zdp l m]
  by_cases e:a=b<;>by_cases f:l=m<;>simp[e,f]
end
mutual
theorem zb9:∀(k:NK) (v:AD) (n:Nat) (A:A5) (s:AG) (Q:Bool->AG->Prop),NI s.heap k v->(nkD k).depth<=n->Q AC s->AN (model prog w) A (eqIsQuiet n v) Q E s
 |.a k,v,n,A,s,Q,hi,_,h=>by
  rw[eqIsQuiet_byValue n ((yx prog w).byValue k v hi)];exact AK h
 |.t l,v,n,A,s,Q,hi,hd,h=>by
  let⟨b,its,rfl,g,hs⟩:=hi;erw[nkD,BR]at hd;obtain⟨m,rfl⟩:∃m,n=m+1:=⟨n-1,by lia⟩;unfold eqIsQuiet;refine AB (F2 (T:="tuple") ⟨_,g,rfl⟩ F.slot_tuple_eq.lookup ?_);show AN _ _ (isInstance (.ref b) (.type "tuple") >>= _) _ _ s;refine AB (Dg (T:="tuple") ⟨_,g,rfl⟩ isSubtype_tuple_tuple ?_);erw[Eg,BC,if_false];refine AB (DN g rfl ?_);refine AB ?_;show AN _ _ (forIn its.toArray _ _) _ _ s;rw[<-Es];refine zbk l its m A s _ hs ∅ ?_;exact AK h
theorem zbk:∀(l:List NK) (vs:List AD) (n:Nat) (A:A5) (s:AG) (Q:Option Bool×PUnit->AG->Prop),NIs s.heap l vs->BM (yax l)<=n->Q (AF,DM) s ->
  AN (model prog w) A (forIn vs (AF,DM) λy r=>do
   let b <-eqIsQuiet n y
   if (!b)=AC then pure (ForInStep.done (AA AH,DM))else do
    pure DM
    pure (Cz (AF,DM))) Q E s
 |[],vs,n,A,s,Q,hi,_,h=>by
  cases (show vs=[]from hi)
  exact AK h
 |k::l,vs,n,A,s,Q,hi,hd,h=>by
  let⟨v,r,rfl,h1,h2⟩:=hi;erw[yax,BM]at hd;rw[EM];refine AB (AB (zb9 k v n A s _ h1 ∅ ?_));erw[Eg,BC,if_false];refine AB (AK (AK ?_));exact zbk l r n A s Q h2 ∅ h
end
mutual
theorem ze3{h:Ah}:∀(a b:NK) (v:AD),NI h a v->NI h b v->a=b
 |.a k,.a j,v,x,y=>by
  rcases zd x with⟨_,_,rfl,rfl⟩|⟨_,_,rfl,rfl⟩<;>rcases zd y with⟨_,_,rfl,e⟩|⟨_,_,rfl,e⟩<;>cases e<;>rfl
 |.a k,.t l,v,x,y=>by
  let⟨b,its,rfl,_⟩:=y;rcases zd x with⟨_,_,_,e⟩|⟨_,_,_,e⟩<;>cases e
 |.t l,.a k,v,x,y=>by
  let⟨b,its,rfl,_⟩:=x;rcases zd y with⟨_,_,_,e⟩|⟨_,_,_,e⟩<;>cases e
 |.t l,.t m,v,x,y=>by
  let⟨b,its,rfl,g,hs⟩:=x;let⟨b',its',e,g',hs'⟩:=y
  cases e
  rw[g]at g';injection g' with g';injection g' with _ _ g' _;injection g' with g' _;have e2:its=its':=by simpa using congrArg Ez g'
  subst e2;rw[zd4 l m its hs hs']
theorem zd4{h:Ah}:∀(a b:List NK) (vs:List AD),NIs h a vs->NIs h b vs->a=b
 |[],[],_,_,_=>rfl
 |[],_::_,vs,x,y=>by
  cases (show vs=[]from x)
  let⟨_,_,e,_⟩:=y;cases e
 |_::_,[],vs,x,y=>by
  cases (show vs=[]from y)
  let⟨_,_,e,_⟩:=x;cases e
 |a::l,b::m,vs,x,y=>by
  let⟨v,r,rfl,h1,h2⟩:=x;let⟨_,_,e,h3,h4⟩:=y
  cases e
  rw[ze3 a b v h1 h3,zd4 l m r h2 h4]
end
end
mutual
theorem NI.stay{h h':Ah}(k:∀b its,h.get? b=AA {cls:=.type "tuple",data:=.seq its}->h'.get? b=AA {cls:=.type "tuple",data:=.seq its}):∀(a:NK) (v:AD),NI h a v->NI h' a v
 |.a _,_,x=>x
 |.t l,v,x=>by
  let⟨b,its,e,g,hs⟩:=x;exact⟨b,its,e,k _ _ g,NIs.stay k l its hs⟩
theorem NIs.stay{h h':Ah}(k:∀b its,h.get? b=AA {cls:=.type "tuple",data:=.seq its}->h'.get? b=AA {cls:=.type "tuple",data:=.seq its}):∀(a:List NK) (vs:List AD),NIs h a vs->NIs h' a vs
 |[],_,x=>x
 |a::l,vs,x=>by
  let⟨v,r,e,h1,h2⟩:=x;exact⟨v,r,e,NI.stay k a v h1,NIs.stay k l r h2⟩
end
def yc2(l:List NK):Prop:=Bo (yax l)=AC/\BM (yax l)<=6
def yR(P:AT)(w:A3):Dh P w (List NK) where
 is:=λh l a=>NI h (.t l) (.ref a)/\yc2 l
 hash:=λl=>nkH w (.t l)
 draws:=λl=>nkN (.t l)
 room:=λA=>A.units+8<cLine
 inj:=λx y=>by have e:=ze3 _ _ _ x.1 y.1;injection e
 keeps:=λx ho hd hs=>⟨NI.stay (λb its g=>(hs.2 b (λe=>by subst e;rw[ho]at g;cases g;cases hd)).trans g) _ _ x.1,x.2⟩
 pyHash:=λhu x h=>zdV _ _ _ _ _ x.1 (by have:=x.2.2;erw[nkD,BR];lia) h
 eqBool:=λ{A E s x y a b Q} hu hx hy h=>by
  let⟨as,ra⟩:=zaV _ _ hx.1;let⟨bs,rb⟩:=zaV _ _ hy.1;refine SeqAt.eqBoolOverData P w A E s _ _ _ _ as bs Q ra rb (by erw[nkD,B3];exact hx.2.1) (by erw[nkD,B3];exact hy.2.1) (by have:=hx.2.2;erw[nkD,BR];lia) ?_;rw[zfb];have:decide (NK.t x=NK.t y)=decide (x=y):=by by_cases e:x=y<;>simp[e]
  rw[this];exact h
 quiet:=λx h=>zb9 _ _ _ _ _ _ x.1 (by have:=x.2.2;erw[nkD,BR];lia) h
end L2
namespace L2
open PySem PySem.Spec PyProof.Rows
inductive V where
 |non|bl (b:Bool)|int (i:Int)|str (x:AR)|byt (b:Array UInt8)|flt (b:UInt64)|ref (a:AI)|ty (n:String)
 deriving DecidableEq
def RelV:V->AD->Prop
 |.non,u=>u=BI
 |.bl b,u=>u=Dv b
 |.int i,u=>∃t,u=GR i t
 |.str x,u=>∃t,u=GS x t
 |.byt b,u=>∃t,u=Value.bytes b t
 |.flt b,u=>∃t,u=Value.float b t
 |.ref a,u=>u=A8 a
 |.ty n,u=>u=Fd n
abbrev Vals:List V->List AD->Prop:=FQ RelV
theorem Vals.length{xs:List V}{us:List AD}(r:Vals xs us):xs.length=us.length:=Bq r
theorem Vals.get:∀{xs:List V} {us:List AD} {i:Nat} {x:V},Vals xs us->xs[i]?=AA x->∃u,us[i]?=AA u/\RelV x u
 |_,_,_,_,.nil,e=>by simp at e
 |_,_,0,_,.cons r _,e=>by simp at e;subst e;exact⟨_,rfl,r⟩
 |_,_,i+1,x,.cons _ t,e=>by
  let⟨u,h1,h2⟩:=Vals.get (i:=i) (x:=x) t (by simpa using e);exact⟨u,by simpa using h1,h2⟩
theorem Vals.set{x:V}{u:AD}(r:RelV x u):∀{xs:List V} {us:List AD} (i:Nat),Vals xs us->Vals (xs.set i x) (us.set i u)
 |_,_,_,.nil=>.nil
 |_,_,0,.cons _ t=>.cons r t
 |_,_,i+1,.cons q t=>.cons q (Vals.set r i t)
theorem Vals.append:∀{xs ys:List V} {us ws:List AD},Vals xs us->Vals ys ws->Vals (xs++ys) (us++ws)
 |_,_,_,_,.nil,s=>s
 |_,_,_,_,.cons r t,s=>.cons r (Vals.append t s)
theorem Vals.take:∀{xs:List V} {us:List AD} (n:Nat),Vals xs us->Vals (xs.take n) (us.take n)
 |_,_,0,_=>.nil
 |_,_,_+1,.nil=>.nil
 |_,_,n+1,.cons r t=>.cons r (Vals.take n t)
theorem Vals.drop:∀{xs:List V} {us:List AD} (n:Nat),Vals xs us->Vals (xs.drop n) (us.drop n)
 |_,_,0,r=>r
 |_,_,_+1,.nil=>.nil
 |_,_,n+1,.cons _ t=>Vals.drop n t
def yaX:Option V->Option AD->Prop
 |some v,AA u=>RelV v u
 |none,AF=>True
 |_,_=>False
def KV{κ:Type}:List (κ×V)->List (κ×AD)->Prop:=FQ λ(p:κ×V) (q:κ×AD)=>p.1=q.1/\RelV p.2 q.2
def kV:Key->V
 |.inl i=>.int i
 |.inr x=>.str x
inductive HO where
 |lst (xs:List V)
 |tup (xs:List V)
 |dK (kvs:List (Key×V))|dT (kvs:List (List NK×V))
 |set (S:Int->Bool) (n:Nat)
 |ins (C dx:AI) (fs:List (AR×V))
 |own (x:AI)
 |xd (fs:List (AR×V))
 |met (f x:AI)
 |rng (lo hi:Int)
 |frz (o:B6) (u:HO)
 |tbl (ps:Array AD)
 |ext (φ:Ah->Prop)
abbrev Hp:=AI->Option HO
def upd(H:Hp)(a:AI)(o:HO):Hp:=λb=>if b=a then AA o else H b
def zc{H:Hp}{a:AI}{o:HO}:upd H a o a=AA o:=by unfold upd;rw[if_pos rfl]
def za{H:Hp}{a b:AI}{o:HO}(h:b≠a):upd H a o b=H b:=by unfold upd;rw[if_neg h]
def zgm{H:Hp}{a:AI}{o u:HO}:upd (upd H a o) a u=upd H a u:=by
 funext b;unfold upd;split<;>rfl
def ziT{H:Hp}{a b:AI}{o u:HO}(h:H a=AA o)(h':H b=AA u)(d:o≠u):a≠b:=by
 intro e;subst e;rw[h]at h';exact d (AW h')
def zb{H:Hp}{a b:AI}{o:HO}(h:H a=AA o)(h':H b=AF):a≠b:=by
 intro e;subst e;rw[h]at h';cases h'
mutual
def NKr(H:Hp):NK->V->Prop
 |.a k,v=>v=kV k
 |.t l,v=>∃(b:AI) (xs:List V),v=.ref b/\H b=AA (.tup xs)/\NKs H l xs
def NKs(H:Hp):List NK->List V->Prop
 |[],xs=>xs=[]
 |k::l,xs=>∃y ys,xs=y::ys/\NKr H k y/\NKs H l ys
end
def KyR(H:Hp)(l:List NK)(b:AI):Prop:=NKr H (.t l) (.ref b)/\yc2 l
mutual
theorem NKr.stay{H H':Hp}(k:∀b xs,H b=AA (.tup xs)->H' b=AA (.tup xs)):∀(a:NK) (v:V),NKr H a v->NKr H' a v
 |.a _,_,x=>x
 |.t l,v,x=>by
  let⟨b,xs,e,g,hs⟩:=x;exact⟨b,xs,e,k _ _ g,NKs.stay k l xs hs⟩
theorem NKs.stay{H H':Hp}(k:∀b xs,H b=AA (.tup xs)->H' b=AA (.tup xs)):∀(a:List NK) (xs:List V),NKs H a xs->NKs H' a xs
 |[],_,x=>x
 |a::l,xs,x=>by
  let⟨y,ys,e,h1,h2⟩:=x;exact⟨y,ys,e,NKr.stay k a y h1,NKs.stay k l ys h2⟩
end
theorem KyR.stay{H H':Hp}{l:List NK}{b:AI}(x:KyR H l b)(k:∀b xs,H b=AA (.tup xs)->H' b=AA (.tup xs)):KyR H' l b:=⟨NKr.stay k _ _ x.1,x.2⟩
section
variable (P:AT)(w:A3)
def yp(H:Hp)(h:Ah)(a:AI):HO->Prop
 |.lst xs=>xs.length<=sizeLine/\∃(its:List AD) (n:Nat),Vals xs its/\h.get? a=AA {cls:=.type "list",data:=.seq its.toArray n}
 |.tup xs=>xs.length<=sizeLine/\∃its:List AD,Vals xs its/\h.get? a=AA {cls:=.type "tuple",data:=.seq its.toArray}
 |.dK kvs=>kvs.length<=sizeLine/\(a==sysModules)=AH/\∃vs,KV kvs vs/\h.DictOf (yx P w) a vs
 |.dT kvs=>kvs.length<=sizeLine/\(a==sysModules)=AH/\∃xs:List (List NK×AI×AD),
   FQ (λ(p:List NK×V) (q:List NK×AI×AD)=>p.1=q.1/\KyR H p.1 q.2.1/\RelV p.2 q.2.2) kvs xs /\
   ∃o es ep,h.get? a=AA o/\o.ExactDict/\o.data=.dict es ep/\es.toList=xs.map (entryOfKey (yR P w))/\(xs.map (·.1)).Nodup
 |.set S n=>h.SetOf (intKind P w) a S n
 |.ins C dx fs=>H dx=AA (.own a)/\fs.length<=1000/\dx≠a/\h.get? a=AA (EN C dx) /\
   ∃mA,h.Ns1 dx mA/\(∀f,yaX (fs.lookup f) (mA f))/\PySem.Within mA (fs.map (·.1))
 |.own _=>∃o,h.get? a=AA o
 |.xd fs=>∃mA,h.Ns1 a mA/\∀f,yaX (fs.lookup f) (mA f)
 |.rng lo hi=>∃t u v,h.get? a=AA {cls:=.type "range",data:=.fields #[.int lo t,.int hi u,.int 1 v]}
 |.frz o u=>h.get? a=AA o/\yp H h a u
 |.tbl ps=>h.get? a=AA {cls:=.none,data:=.fields ps}
 |.met f x=>h.get? a=AA (D6 (.ref f) (.ref x))
 |.ext φ=>φ h/\(∃o,h.get? a=AA o)/\∀h1 h2:Ah,φ h1->(∀o,h1.get? a=AA o->h2.get? a=AA o)->φ h2
def HOk(H:Hp)(h:Ah):Prop:=∀a o,H a=AA o->yp P w H h a o
end
section
variable {P:AT}{w:A3}{H H':Hp}{h h':Ah}{a:AI}{o:HO}
theorem yp.lt(x:yp P w H h a o):a<h.objs.size:=by
 cases o with
 |lst xs=>let⟨_,_,_,_,e⟩:=x;exact AO e
 |tup xs=>let⟨_,_,_,p⟩:=x;exact AO p
 |dK kvs=>let⟨_,_,_,_,o,_,_,e,_⟩:=x;exact AO e
 |dT kvs=>let⟨_,_,_,_,o,_,_,e,_⟩:=x;exact AO e
 |set S n=>let⟨o,_,_,_,e,_⟩:=x;exact AO e
 |ins C dx fs=>let⟨_,_,_,e,_⟩:=x;exact AO e
 |own y=>let⟨_,e⟩:=x;exact AO e
 |xd fs=>let⟨_,⟨_,_,_,e,_⟩,_⟩:=x;exact AO e
 |rng lo hi=>let⟨_,_,_,e⟩:=x;exact AO e
 |frz ob u=>let⟨e,_⟩:=x;exact AO e
 |tbl ps=>exact AO (show h.get? a=AA _ from x)
 |met f y=>exact AO (show h.get? a=AA _ from x)
 |ext φ=>let⟨_,⟨_,e⟩,_⟩:=x;exact AO e
theorem Paired.mapP{α β:Type}{F G:α->β->Prop}:∀{l₁:List α} {l₂:List β},FQ F l₁ l₂->(∀a b,F a b->G a b)->FQ G l₁ l₂
 |_,_,.nil,_=>.nil
 |_,_,.cons r t,f=>.cons (f _ _ r) (Paired.mapP t f)
theorem yp.stay(x:yp P w H h a o)(k:∀b u,(b=a \/ H b=AA (.own a))->h.get? b=AA u->h'.get? b=AA u)
  (ho:∀b,H b=AA (.own a)->H' b=AA (.own a)) (ht:∀b xs,H b=AA (.tup xs)->H' b=AA (.tup xs)):yp P w H' h' a o:=by
 induction o with
 |lst xs=>let⟨z,its,n,r,e⟩:=x;exact⟨z,its,n,r,k _ _ (.inl rfl) e⟩
 |tup xs=>let⟨z,its,r,e⟩:=x;exact⟨z,its,r,k _ _ (.inl rfl) e⟩
 |dK kvs=>let⟨z,y,vs,r,ob,es,ep,e,c⟩:=x;exact⟨z,y,vs,r,ob,es,ep,k _ _ (.inl rfl) e,c⟩
 |dT kvs=>
  let⟨z,y,xs,r,ob,es,ep,e,c⟩:=x;exact⟨z,y,xs,Paired.mapP r λp q z=>⟨z.1,z.2.1.stay ht,z.2.2⟩,ob,es,ep,k _ _ (.inl rfl) e,c⟩
 |set S n=>let⟨ob,es,ep,t,e,c⟩:=x;exact⟨ob,es,ep,t,k _ _ (.inl rfl) e,c⟩
 |ins C dx fs=>
  let⟨d,z,ne,e,mA,⟨od,es,ep,e2,c⟩,r⟩:=x;exact⟨ho _ d,z,ne,k _ _ (.inl rfl) e,mA,⟨od,es,ep,k _ _ (.inr d) e2,c⟩,r⟩
 |own y=>let⟨ob,e⟩:=x;exact⟨ob,k _ _ (.inl rfl) e⟩
 |xd fs=>let⟨mA,⟨od,es,ep,e,c⟩,r⟩:=x;exact⟨mA,⟨od,es,ep,k _ _ (.inl rfl) e,c⟩,r⟩
 |rng lo hi=>let⟨t,u,v,e⟩:=x;exact⟨t,u,v,k _ _ (.inl rfl) e⟩
 |frz ob u ih=>let⟨e,q⟩:=x;exact⟨k _ _ (.inl rfl) e,ih q⟩
 |tbl ps=>
  have e:h.get? a=AA {cls:=.none,data:=.fields ps}:=x;show h'.get? a=AA {cls:=.none,data:=.fields ps};exact k a _ (.inl rfl) e
 |met f y=>
  have e:h.get? a=AA (D6 (.ref f) (.ref y)):=x;show h'.get? a=AA (D6 (.ref f) (.ref y));exact k a _ (.inl rfl) e
 |ext φ=>let⟨p,⟨o,e⟩,st⟩:=x;exact⟨st _ _ p λo q=>k _ _ (.inl rfl) q,⟨o,k _ _ (.inl rfl) e⟩,st⟩
theorem HOk.lt(x:HOk P w H h)(e:H a=AA o):a<h.objs.size:=(x a o e).lt
theorem HOk.fresh(x:HOk P w H h)(e:h.objs.size<=a):H a=none:=by
 cases q:H a with
 |none=>rfl
 |some u=>exact absurd (AY (x.lt q) e) (Br _)
theorem HOk.kept(x:HOk P w H h)(k:∀b u,h.get? b=AA u->h'.get? b=AA u):HOk P w H h':=λa o e=>
 (x a o e).stay (λb u _ q=>k b u q) (λ_ q=>q) λ_ _ q=>q
theorem HOk.laid(x:HOk P w H h)(k:∀b u,h.get? b=AA u->h'.get? b=AA u)(hp:h.objs.size<=a)(new:yp P w (upd H a o) h' a o):HOk P w (upd H a o) h':=λb u e=>by
 have hn:=x.fresh hp
 by_cases hb:b=a
 .subst hb;rw[zc]at e;cases e;exact new
 .rw[za hb]at e;exact(x b u e).stay (λc v _ q=>k c v q) (λc q=>by rw[za (zb q hn)];exact q) λc xs q=>by rw[za (zb q hn)];exact q
end
def Rd(H:Hp)(a:AI)(u:HO):Prop:=H a=AA u \/ ∃o,H a=AA (.frz o u)
theorem Rd.of{H:Hp}{a:AI}{u:HO}(h:H a=AA u):Rd H a u:=.inl h
theorem Rd.ok{P:AT}{w:A3}{H:Hp}{h:Ah}{a:AI}{u:HO}(r:Rd H a u)(x:HOk P w H h):yp P w H h a u:=by
 rcases r with r|⟨o,r⟩
 .exact x a u r
 .let⟨_,q⟩:=x a _ r;exact q
def Mut:Option HO->Prop
 |some (.lst _)=>True
 |some (.dK _)=>True
 |some (.dT _)=>True
 |some (.set _ _)=>True
 |some (.ins _ _ _)=>True
 |some (.ext _)=>True
 |_=>False
section
variable {P:AT}{w:A3}{H:Hp}{h h':Ah}{x e:AI}{o':HO}
theorem HOk.write(ok:HOk P w H h)(mu:Mut (H x))(he:e=x \/ H e=AA (.own x))(k:∀b u,b≠e->h.get? b=AA u->h'.get? b=AA u)(heo:∃u,h'.get? e=AA u)
  (new:yp P w (upd H x o') h' x o'):HOk P w (upd H x o') h':=λb u q=>by
 have nown:∀c y,H c=AA (.own y)->c≠x:=λc y r z=>by subst z;rw[r]at mu;exact mu
 have ntup:∀c xs,H c=AA (.tup xs)->c≠x:=λc xs r z=>by subst z;rw[r]at mu;exact mu
 by_cases hb:b=x
 .subst hb;rw[zc]at q;cases q;exact new
 .rw[za hb]at q
  by_cases hbe:b=e
  .have q':H b=AA (.own x):=by
    rcases he with z|z
    .exact absurd (hbe.trans z) hb
    .rw[hbe];exact z
   rw[q]at q';cases q';let⟨v,hv⟩:=heo;exact⟨v,by rw[hbe];exact hv⟩
  .refine(ok b u q).stay (λc v hc r=>k c v ?_ r) (λc r=>by rw[za (nown c b r)];exact r) λc xs r=>by rw[za (ntup c xs r)];exact r
   rcases hc with rfl|hc
   .exact hbe
   .rintro rfl
    rcases he with z|z
    .exact nown c b hc z
    .rw[hc]at z;cases z;exact hb rfl
end
structure Un(fs ex:List AI)(H H':Hp)(h h':Ah):Prop where
 keep:∀b o,h.get? b=AA o->H b=AF->b∉fs->b∉ex->h'.get? b=AA o
 slot:∀b o,h.get? b=AA o->H b=AF->b∈fs->b∉ex->∃sl,h'.get? b=AA {o with slots:=sl}
 free:∀b o,h.get? b=AA o->H b=AF->b∉ex->H' b=AF
 there:∀b o,h.get? b=AA o->b∉ex->∃o',h'.get? b=AA o'
 tups:∀b xs,H b=AA (.tup xs)->H' b=AA (.tup xs)
 frzs:∀b o u,H b=AA (.frz o u)->H' b=AA (.frz o u)
 tbls:∀b ps,H b=AA (.tbl ps)->∃more,H' b=AA (.tbl (ps++more))
section
variable {fs fs' ex ex':List AI}{H H1 H2:Hp}{h h1 h2 h':Ah}{a x e:AI}{o:HO}
theorem Un.any(u:Un fs ex H H1 h h1){b:AI}{ob:B6}(q:h.get? b=AA ob)(n:H b=AF)(hx:b∉ex):∃sl,h1.get? b=AA {ob with slots:=sl}:=by
 by_cases hb:b∈fs
 .exact u.slot b ob q n hb hx
 .exact⟨ob.slots,u.keep b ob q n hb hx⟩
theorem Un.kept(k:∀b u,h.get? b=AA u->h'.get? b=AA u):Un fs ex H H h h':=
 ⟨λb ob q _ _ _=>k b ob q,λb ob q _ _ _=>⟨ob.slots,k b ob q⟩,λ_ _ _ n _=>n,λb ob q _=>⟨ob,k b ob q⟩,λ_ _ q=>q,λ_ _ _ q=>q,λ_ ps q=>⟨#[],by rw[q];simp⟩⟩
theorem Un.refl:Un fs ex H H h h:=Un.kept λ_ _ q=>q
theorem Un.laid(k:∀b u,h.get? b=AA u->h'.get? b=AA u)(hp:h.objs.size<=a)(hn:H a=AF):Un fs ex H (upd H a o) h h' where
 keep:=λb u q _ _ _=>k b u q
 slot:=λb u q _ _ _=>⟨u.slots,k b u q⟩
 free:=λb u q n _=>by rw[za (A0 (AY (AO q) hp))];exact n
 there:=λb u q _=>⟨u,k b u q⟩
 tups:=λb xs q=>by rw[za (zb q hn)];exact q
 frzs:=λb u xs q=>by rw[za (zb q hn)];exact q
 tbls:=λb ps q=>⟨#[],by rw[za (zb q hn),q];simp⟩
theorem Un.write(mu:Mut (H x))(he:e=x \/ H e=AA (.own x))(k:∀b u,b≠e->h.get? b=AA u->h'.get? b=AA u)(heo:∃u,h'.get? e=AA u):Un fs ex H (upd H x o) h h':=by
 have hx:∀b,H b=AF->b≠x:=λb n z=>by subst z;rw[n]at mu;exact mu
 have hb:∀b,H b=AF->b≠e:=λb n z=>by
  subst z;rcases he with r|r
  .exact hx b n r
  .rw[n]at r;cases r
 have hm:∀b u,H b=AA u->¬Mut (AA u)->b≠x:=λb u q nm z=>by subst z;rw[q]at mu;exact nm mu
 refine⟨λb u q n _ _=>k b u (hb b n) q,λb u q n _ _=>⟨u.slots,k b u (hb b n) q⟩,λb u q n _=>by rw[za (hx b n)];exact n,λb u q _=>?_,
  λb xs q=>by rw[za (hm b _ q λz=>z)];exact q,λb u xs q=>by rw[za (hm b _ q λz=>z)];exact q,λb ps q=>⟨#[],by rw[za (hm b _ q λz=>z),q];simp⟩⟩
 by_cases hbe:b=e
 .subst hbe;exact heo
 .exact⟨u,k b u hbe q⟩
end
def trk(h:Ah)(H:Hp):List Addr:=(Dw h.objs.size).filter λa=>(H a).isSome
def ybo(h:Ah)(H:Hp):Heap:=CS h (trk h H)
def zdH(h:Ah)(H:Hp):(ybo h H).objs.size=h.objs.size:=PySem.W.hideAll_size _ _
def zeu{h:Ah}{H:Hp}{b:AI}{o:B6}(e:h.get? b=AA o)(n:H b=AF):(ybo h H).get? b=AA o:=
 Eb _ e λhm=>by
  have q:(H b).isSome=true:=(F3.mp hm).2;rw[n]at q;simp at q
def zfV{h:Ah}{H:Hp}{b:AI}{o:B6}(e:(ybo h H).get? b=AA o):h.get? b=AA o/\H b=none:=by
 have e':h.get? b=AA o:=Et (trk h H) e;refine⟨e',?_⟩
 cases q:H b with
 |none=>rfl
 |some x=>
  have hm:b∈trk h H:=F3.mpr ⟨Fe.mpr (AO e'),by simp[q]⟩;have z:(ybo h H).get? b=none:=PySem.W.hideAll_none (trk h H) hm;rw[z]at e;cases e
structure Mod(K:AE)(mg:AR->Option AD)(base:Ah):Prop where
 kin:K.In base
 glob:base.Ns mainGlobals mg
 blt:∃mb,base.Ns builtinsNs mb/\∀x:AR,x ≠ "__name__"->mb x=bootBuiltins x
 nolimit:base.NoLimit
structure Cx where
 prog:AT
 w:A3
 K:AE
 mg:AR->Option AD
 base:Ah
 A:A5
 N:List AR
 s₀:AG
 H₀:Hp
 env:Env
 outer:List Env
 stack:List Env
 ex:List AI
 fn:AR->Bool
 calm:Bool
 pn:List (AI×B6)
 xe:AD->AG->Prop
def frs(l:List Env):List Addr:=l.filterMap (·.frame)
abbrev Cx.fs(X:Cx):List Addr:=frs X.outer
def Vis(sc:BB)(x:AR):Prop:=sc.names.lookup x=AA .local \/ sc.names.lookup x=AA .cell \/ sc.names.lookup x=AA .free
def Loc(sc:BB)(x:AR):Prop:=sc.names.lookup x=AA .local \/ sc.names.lookup x=AA .cell
def Look(env:Env)(h:Ah)(m:AR->Option AD)(x:AR)(u:AD):Prop:=
 (env.kindOf x=AA .local/\m x=AA u) \/ ((env.kindOf x=AA .cell \/ env.kindOf x=AA .free)/\∃c,env.cells.lookup x=AA c/\h.IsCell c (AA u))
structure Cx.Ok(X:Cx):Prop where
 mod:Mod X.K X.mg X.base
 kind:X.env.scope.kind=.function
 glob:X.env.globals=mainGlobals
 blt:X.env.builtins=builtinsNs
 above:X.s₀.heap.objs.size<=X.env.locals
 inj:∀x y c,X.env.cells.lookup x=AA c->X.env.cells.lookup y=AA c->x=y
 has:∀x,(X.env.kindOf x=AA .cell \/ X.env.kindOf x=AA .free)->∃c,X.env.cells.lookup x=AA c
 cab:∀x c,X.fn x=AC->X.env.cells.lookup x=AA c->X.s₀.heap.objs.size<=c
 hd:X.calm=AC->X.A.handled=AF
 frames:X.A.frames=AA X.stack
 stk:X.stack=X.outer \/ (X.stack=X.env::X.outer/\X.env.frame=AA X.env.locals)
 exf:∀b∈X.ex,b≠X.env.locals/\∀x c,X.env.cells.lookup x=AA c->c≠b
 bs:∀b o,X.base.get? b=AA o->X.s₀.heap.get? b=AA o/\X.H₀ b=AF
 bsz:X.base.objs.size<=X.s₀.heap.objs.size
 noex:∀b o,X.base.get? b=AA o->b∉X.ex
 exfs:∀b∈X.ex,b∉X.fs
 funs:X.s₀.heap.FunFrames X.base X.outer
 frf:∀b∈X.fs,X.H₀ b=AF
structure Inv(X:Cx)(π:List (AI×B6))(σ:List (Option V))(H:Hp)(s:AG):Prop where
 ok:X.Ok
 os:s.os=X.s₀.os
 bare:Cu s.gens
 base:Un X.fs X.ex X.H₀ H X.s₀.heap s.heap
 loc:∃m,s.heap.Ns X.env.locals m/\∀(i:Nat) (x:AR) (v:V),X.N[i]?=AA x->σ[i]?=AA (AA v)->Vis X.env.scope x->∃u,RelV v u/\Look X.env s.heap m x u
 cell:∀x c,X.env.cells.lookup x=AA c->∃v,s.heap.IsCell c v
 free:H X.env.locals=AF
 freeC:∀x c,X.env.cells.lookup x=AA c->H c=AF
 pin:∀p∈X.pn++π,s.heap.get? p.1=AA p.2/\H p.1=AF/\p.1≠X.env.locals/\p.1∉X.fs/\∀v,p.2.data ≠ .cell v
 hok:HOk X.prog X.w H s.heap
 len:σ.length=X.N.length
section
variable {X:Cx}{π:List (AI×B6)}{σ:List (Option V)}{H H':Hp}{s:AG}{h':Ah}
theorem Cx.Ok.nofr(ok:X.Ok){b:AI}{o:B6}(e:X.base.get? b=AA o):b∉X.fs:=λhb=>by
 have:=(ok.funs.mem hb).1;rw[e]at this;cases this
theorem Inv.bs(I:Inv X π σ H s):∀b o,X.base.get? b=AA o->s.heap.get? b=AA o/\H b=none:=λb o e=>
 ⟨I.base.keep b o (I.ok.bs b o e).1 (I.ok.bs b o e).2 (I.ok.nofr e) (I.ok.noex b o e),I.base.free b o (I.ok.bs b o e).1 (I.ok.bs b o e).2 (I.ok.noex b o e)⟩
theorem Inv.bk(I:Inv X π σ H s):∀b o,X.base.get? b=AA o->s.heap.get? b=AA o:=λb o e=>(I.bs b o e).1
theorem Inv.mod(I:Inv X π σ H s):Mod X.K X.mg X.base:=I.ok.mod
theorem Inv.kIn(I:Inv X π σ H s):X.K.In s.heap:=I.ok.mod.kin.keeps I.bk
theorem Inv.lt(I:Inv X π σ H s):X.env.locals<s.heap.objs.size:=let ⟨_,hn,_⟩:=I.loc;hn.lt
theorem Inv.sz(I:Inv X π σ H s):X.s₀.heap.objs.size<=s.heap.objs.size:=BS I.ok.above (FA I.lt)
theorem Inv.nofs(I:Inv X π σ H s){a:AI}(h:s.heap.objs.size<=a):a∉X.fs:=λhb=>by
 let⟨_,o,ho,_⟩:=I.ok.funs.mem hb;exact absurd (AY (AO ho) (BS I.sz h)) (Br _)
theorem Inv.cne(I:Inv X π σ H s):∀x c,X.env.cells.lookup x=AA c->c≠X.env.locals:=λx c e z=>by
 let⟨v,o,ho,hd⟩:=I.cell x c e;let⟨m,⟨o',es,ep,ho',hd',_⟩,_⟩:=I.loc;rw[z,ho']at ho;cases ho;rw[hd']at hd;cases hd
theorem Inv.funs(I:Inv X π σ H s):s.heap.FunFrames X.base X.outer:=by
 have all:∀(l:List Env),(∀b∈frs l,b∈X.fs)->X.s₀.heap.FunFrames X.base l->s.heap.FunFrames X.base l:=by
  intro l
  induction l with
  |nil=>intro _ _;trivial
  |cons env r ih=>
   intro hs hl;let⟨hk,⟨L,o,hf,hn,ho,hd⟩,hr⟩:=hl;have hL:L∈X.fs:=hs L (by unfold frs;rw[Bu,hf];exact Ai);let⟨sl,e⟩:=I.base.slot L o ho (I.ok.frf L hL) hL λz=>I.ok.exfs L z hL;exact⟨hk,⟨L,_,hf,hn,e,hd⟩,ih (λb hb=>hs b (by unfold frs;rw[Bu,hf];exact AZ _ hb)) hr⟩
 exact all X.outer (λ_ hb=>hb) I.ok.funs
theorem Inv.stack(I:Inv X π σ H s):s.heap.FunFrames X.base X.stack:=by
 rcases I.ok.stk with e|⟨e,hf⟩
 .rw[e];exact I.funs
 .rw[e];let⟨m,hn,_⟩:=I.loc;refine .cons (by rw[I.ok.kind];decide) hf hn ?_ I.funs;exact Heap.get?_none_of_le (BS I.ok.bsz I.ok.above)
theorem Inv.stkSub(I:Inv X π σ H s):∀b∈frs X.stack,b∈X.env.locals::X.fs:=λb hb=>by
 rcases I.ok.stk with e|⟨e,hf⟩
 .rw[e]at hb;exact AZ _ hb
 .rw[e]at hb;unfold frs at hb;rw[Bu,hf]at hb;exact hb
theorem Inv.stkFree(I:Inv X π σ H s):∀b∈frs X.stack,H b=none:=λb hb=>by
 rcases Ac.mp (I.stkSub b hb)with e|hb
 .rw[e];exact I.free
 .let⟨_,o,ho,_⟩:=I.ok.funs.mem hb;exact I.base.free b o ho (I.ok.frf b hb) λz=>I.ok.exfs b z hb
theorem Inv.step{g':Array GenState}{t':Nat}{d':Drawn}{ch:List AI}(I:Inv X π σ H s)
  (hch:∀b∈ch,(b∈X.ex \/ X.s₀.heap.objs.size<=b)/\b≠X.env.locals/\(∀x c,X.env.cells.lookup x=AA c->c≠b)/\∀p∈X.pn++π,p.1≠b)
  (keep:∀b o,b≠X.env.locals->b∉X.fs->b∉ch->s.heap.get? b=AA o->H b=AF->h'.get? b=AA o)
  (slot:∀b o,b≠X.env.locals->b∈X.fs->b∉ch->s.heap.get? b=AA o->H b=AF->∃sl,h'.get? b=AA {o with slots:=sl}) (free:∀b o,b∉ch->s.heap.get? b=AA o->H b=AF->H' b=AF)
  (there:∀b o,b∉ch->s.heap.get? b=AA o->∃o',h'.get? b=AA o')
  (tups:∀b xs,H b=AA (.tup xs)->H' b=AA (.tup xs)) (frzs:∀b o u,H b=AA (.frz o u)->H' b=AA (.frz o u)) (tbls:∀b ps,H b=AA (.tbl ps)->∃more,H' b=AA (.tbl (ps++more)))
  (ns:∀m,s.heap.Ns X.env.locals m->h'.Ns X.env.locals m) (hok:HOk X.prog X.w H' h') (hg:Cu g'):
  Inv X π σ H' {s with heap:=h',gens:=g',drawn:=d',toks:=t'}:=by
 have neL:∀b o,X.s₀.heap.get? b=AA o->b≠X.env.locals:=λb o e=>A0 (AY (AO e) I.ok.above);have neC:∀b o,X.s₀.heap.get? b=AA o->b∉X.ex->b∉ch:=λb o e hx hb=>by
  rcases (hch b hb).1 with z|z
  .exact hx z
  .exact absurd (AY (AO e) z) (Br _)
 have cellK:∀x c,X.env.cells.lookup x=AA c->∀v,s.heap.IsCell c v->h'.IsCell c v:=λx c e v ⟨o,ho,hd⟩=>by
  have nch:c∉ch:=λz=>(hch c z).2.2.1 x c e rfl
  by_cases hc:c∈X.fs
  .let⟨sl,q⟩:=slot c o (I.cne x c e) hc nch ho (I.freeC x c e);exact⟨_,q,hd⟩
  .exact⟨o,keep c o (I.cne x c e) hc nch ho (I.freeC x c e),hd⟩
 refine⟨I.ok,I.os,hg,⟨λb o e n hb hx=>?_,λb o e n hb hx=>?_,λb o e n hx=>?_,λb o e hx=>?_,λb xs e=>tups b xs (I.base.tups b xs e),λb o xs e=>frzs b o xs (I.base.frzs b o xs e),λb ps e=>?_⟩,?_,λx c e=>?_,?_,λx c e=>?_,λp hp=>?_,hok,I.len⟩
 .exact keep b o (neL b o e) hb (neC b o e hx) (I.base.keep b o e n hb hx) (I.base.free b o e n hx)
 .let⟨sl,e1⟩:=I.base.slot b o e n hb hx;let⟨sl',e2⟩:=slot b _ (neL b o e) hb (neC b o e hx) e1 (I.base.free b o e n hx);exact⟨sl',e2⟩
 .let⟨o',e1⟩:=I.base.there b o e hx;exact free b o' (neC b o e hx) e1 (I.base.free b o e n hx)
 .let⟨o',e1⟩:=I.base.there b o e hx;exact there b o' (neC b o e hx) e1
 .let⟨m1,e1⟩:=I.base.tbls b ps e;let⟨m2,e2⟩:=tbls b _ e1;exact⟨m1++m2,by rw[e2,DO]⟩
 .let⟨m,hn,hl⟩:=I.loc;refine⟨m,ns m hn,λi x v e1 e2 e3=>?_⟩;let⟨u,r,l⟩:=hl i x v e1 e2 e3;refine⟨u,r,?_⟩;rcases l with l|⟨k,c,e,z⟩
  .exact .inl l
  .exact .inr ⟨k,c,e,cellK x c e _ z⟩
 .let⟨v,z⟩:=I.cell x c e;exact⟨v,cellK x c e v z⟩
 .let⟨m,⟨o,_,_,ho,_⟩,_⟩:=I.loc;exact free _ o (λz=>(hch _ z).2.1 rfl) ho I.free
 .let⟨v,o,ho,hd⟩:=I.cell x c e;exact free c o (λz=>(hch c z).2.2.1 x c e rfl) ho (I.freeC x c e)
 .let⟨e,n,ne,nf,d⟩:=I.pin p hp;have nch:p.1∉ch:=λz=>(hch p.1 z).2.2.2 p hp rfl;exact⟨keep p.1 p.2 ne nf nch e n,free p.1 p.2 nch e n,ne,nf,d⟩
theorem Inv.un{t':Nat}(I:Inv X π σ H s)(u:Un X.fs [] H H' s.heap h')(hok:HOk X.prog X.w H' h'):Inv X π σ H' {s with heap:=h',toks:=t'}:=by
 let⟨m,⟨o,es,ep,ho,r⟩,_⟩:=id I.loc;let⟨sl,hL⟩:=u.any ho I.free (by simp);exact I.step (g':=s.gens) (d':=s.drawn) (ch:=[]) (λ_ z=>nomatch z) (λb o _ hb _ e n=>u.keep b o e n hb (by simp)) (λb o _ hb _ e n=>u.slot b o e n hb (by simp)) (λb o _ e n=>u.free b o e n (by simp)) (λb o _ e=>u.there b o e (by simp)) u.tups u.frzs u.tbls (λm' hm=>by
  let⟨o',es',ep',ho',r'⟩:=hm;rw[ho]at ho';cases ho';exact⟨_,es',ep',hL,r'⟩) hok I.bare
theorem Inv.call{g':Array GenState}{t':Nat}{d':Drawn}{ch:List AI}(I:Inv X π σ H s)(u:Un (frs X.stack) ch H H' s.heap h')(hok:HOk X.prog X.w H' h')(hg:Cu g')
  (hch:∀b∈ch,(b∈X.ex \/ X.s₀.heap.objs.size<=b)/\b≠X.env.locals/\(∀x c,X.env.cells.lookup x=AA c->c≠b)/\∀p∈X.pn++π,p.1≠b):
  Inv X π σ H' {s with heap:=h',gens:=g',drawn:=d',toks:=t'}:=by
 let⟨m,⟨o,es,ep,ho,r⟩,_⟩:=id I.loc;let⟨sl,hL⟩:=u.any ho I.free λz=>(hch _ z).2.1 rfl;exact I.step (ch:=ch) hch (λb o hL hb hc e n=>u.keep b o e n (λz=>(Ac.mp (I.stkSub b z)).elim hL hb) hc) (λb o _ _ hc e n=>u.any e n hc) (λb o hc e n=>u.free b o e n hc) (λb o hc e=>u.there b o e hc) u.tups u.frzs u.tbls (λm' hm=>by
  let⟨o',es',ep',ho',r'⟩:=hm;rw[ho]at ho';cases ho';exact⟨_,es',ep',hL,r'⟩) hok hg
theorem Inv.turned{t':Nat}{it:AI}(I:Inv X π σ H s)(k:∀b o,b≠it->s.heap.get? b=AA o->h'.get? b=AA o)(hn:H it=AF)(hL:it≠X.env.locals)
  (h1:it∈X.ex \/ X.s₀.heap.objs.size<=it) (h2:∀x c,X.env.cells.lookup x=AA c->c≠it) (h3:∀p∈X.pn++π,p.1≠it):Inv X π σ H {s with heap:=h',toks:=t'}:=by
 have nit:∀b u,H b=AA u->b≠it:=λb u e z=>by rw[z,hn]at e;cases e
 refine I.step (g':=s.gens) (d':=s.drawn) (ch:=[it]) (λb hb=>?_) (λb o _ _ hc e _=>k b o (λz=>hc (by simp[z])) e) (λb o _ _ hc e _=>⟨o.slots,k b o (λz=>hc (by simp[z])) e⟩) (λ_ _ _ _ n=>n)
  (λb o hc e=>⟨o,k b o (λz=>hc (by simp[z])) e⟩) (λ_ _ e=>e) (λ_ _ _ e=>e) (λb ps e=>⟨#[],by rw[e];simp⟩) (λm hm=>?_) (λb u e=>?_) I.bare
 .have e:b=it:=by simpa using hb
  subst e;exact⟨h1,hL,h2,h3⟩
 .let⟨o,es,ep,ho,r⟩:=hm;exact⟨o,es,ep,k _ o (B1 hL) ho,r⟩
 .refine(I.hok b u e).stay (λc v hc q=>k c v ?_ q) (λ_ q=>q) λ_ _ q=>q;rcases hc with z|z
  .rw[z];exact nit b u e
  .exact nit c _ z
theorem Inv.tok(I:Inv X π σ H s)(t:Nat):Inv X π σ H {s with toks:=t}:=I.un (h':=s.heap) (t':=t) Un.refl I.hok
theorem Inv.kept{t':Nat}(I:Inv X π σ H s)(k:∀b u,s.heap.get? b=AA u->h'.get? b=AA u):Inv X π σ H {s with heap:=h',toks:=t'}:=I.un (Un.kept k) (I.hok.kept k)
theorem Inv.laid{a:AI}{o:HO}{t':Nat}(I:Inv X π σ H s)(k:∀b u,s.heap.get? b=AA u->h'.get? b=AA u)(hp:s.heap.objs.size<=a)(new:yp X.prog X.w (upd H a o) h' a o):
  Inv X π σ (upd H a o) {s with heap:=h',toks:=t'}:=I.un (Un.laid k hp (I.hok.fresh hp)) (I.hok.laid k hp new)
theorem Inv.write{x e:AI}{o:HO}{t':Nat}(I:Inv X π σ H s)(mu:Mut (H x))(he:e=x \/ H e=AA (.own x))(k:∀b u,b≠e->s.heap.get? b=AA u->h'.get? b=AA u)(heo:∃u,h'.get? e=AA u)
  (new:yp X.prog X.w (upd H x o) h' x o):Inv X π σ (upd H x o) {s with heap:=h',toks:=t'}:=I.un (Un.write mu he k heo) (I.hok.write mu he k heo new)
theorem Inv.pins_of{pins':List (AI×B6)}(I:Inv X π σ H s)(h:∀p∈pins',s.heap.get? p.1=AA p.2/\H p.1=AF/\p.1≠X.env.locals/\p.1∉X.fs/\∀v,p.2.data ≠ .cell v):Inv X pins' σ H s:=
 ⟨I.ok,I.os,I.bare,I.base,I.loc,I.cell,I.free,I.freeC,λp hp=>(CT.mp hp).elim (λz=>I.pin p (E1 _ z)) (h p),I.hok,I.len⟩
def zcf{N:List AR}(hN:N.Nodup){i j:Nat}{x:AR}(a:N[i]?=AA x)(b:N[j]?=AA x):i=j:=by
 let⟨h1,e1⟩:=Am.mp a;let⟨h2,e2⟩:=Am.mp b;exact(List.getElem_inj hN).mp (e1.trans e2.symm)
def zdu{M:Model}{A:A5}{E:AD->AG->Prop}{i:Nat}{x:AR}{v:V}{u:AD}{Q:Unit->AG->Prop}(I:Inv X π σ H s)(hN:X.N.Nodup)(hi:X.N[i]?=AA x)(hx:Loc X.env.scope x)(r:RelV v u)
  (h:∀s',Inv X π (σ.set i (AA v)) H s'->(∃a,By a s.heap s'.heap/\(a=X.env.locals \/ X.env.cells.lookup x=AA a))->Q () s') (hf:X.fn x=AC \/ X.env.scope.names.lookup x=AA .local:=by first|exact .inl rfl|exact .inr rfl|assumption):AN M A (storeName X.env x u) Q E s:=by
 let⟨m,hn,hl⟩:=id I.loc;have hcls:(X.env.scope.kind==.class || (X.env.scope.kind==.module&&X.env.locals != X.env.globals))=false:=by rw[I.ok.kind];rfl
 have hiσ:i<σ.length:=by rw[I.len];exact(Am.mp hi).1
 have cne:=I.cne;have tracked:∀{a:AI} {h':Ah},(∃o,s.heap.get? a=AA o/\H a=AF)->By a s.heap h'->HOk X.prog X.w H h':=λ{a h'} ha hs b ob e=>by
  let⟨_,_,hfree⟩:=ha;refine(I.hok b ob e).stay (λc w' hc q=>(hs.2 c ?_).trans q) (λ_ q=>q) λ_ _ q=>q
  rintro rfl
  rcases hc with rfl|hc
  .rw[hfree]at e;cases e
  .rw[hfree]at hc;cases hc
 rcases hx with hk|hk
 .refine wpAny_storeName_local hk hn (λh' hn' hs=>?_) hcls;let⟨oL,_,_,hoL,_⟩:=id hn;refine h _ ⟨I.ok,I.os,I.bare,⟨λb o e n hb hx=>?_,λb o e n hb hx=>?_,I.base.free,λb o e hx=>?_,I.base.tups,I.base.frzs,I.base.tbls⟩,⟨_,hn',λj y v' e1 e2 e3=>?_⟩,λy c e=>?_,I.free,I.freeC,λp hp=>?_,tracked ⟨oL,hoL,I.free⟩ hs,by simpa using I.len⟩ ⟨_,hs,.inl rfl⟩
  .exact(hs.2 b (A0 (AY (AO e) I.ok.above))).trans (I.base.keep b o e n hb hx)
  .let⟨sl,e1⟩:=I.base.slot b o e n hb hx;exact⟨sl,(hs.2 b (A0 (AY (AO e) I.ok.above))).trans e1⟩
  .let⟨o',e1⟩:=I.base.there b o e hx;exact⟨o',(hs.2 b (A0 (AY (AO e) I.ok.above))).trans e1⟩
  .by_cases hj:j=i
   .subst hj;rw[hi]at e1;cases e1;rw[BF hiσ]at e2
    cases e2
    exact⟨u,r,.inl ⟨hk,by simp⟩⟩
   .rw[An (B1 hj)]at e2;let⟨u',r',q⟩:=hl j y v' e1 e2 e3;refine⟨u',r',?_⟩;rcases q with⟨k,e⟩|⟨k,c,e,z⟩
    .refine .inl ⟨k,?_⟩;have:y≠x:=λe=>hj (zcf hN e1 (e ▸ hi));simp[this,e]
    .exact .inr ⟨k,c,e,z.sameBut hs (cne y c e)⟩
  .let⟨w',z⟩:=I.cell y c e;exact⟨w',z.sameBut hs (cne y c e)⟩
  .let⟨e,n,ne,nf,d⟩:=I.pin p hp;exact⟨(hs.2 p.1 ne).trans e,n,ne,nf,d⟩
 .have hfn:X.fn x=true:=by
   rcases hf with z|z
   .exact z
   .rw[z]at hk;cases hk
  let⟨c,hc⟩:=I.ok.has x (.inl hk);let⟨w',z⟩:=I.cell x c hc;refine wpAny_storeName_cell I.ok.kind hk hc z (λh' hc' hs=>?_);let⟨oc,hoc,hocd⟩:=id z;refine h {s with heap:=h'} ⟨I.ok,I.os,I.bare,⟨λb o e n hb hx=>?_,λb o e n hb hx=>?_,I.base.free,λb o e hx=>?_,I.base.tups,I.base.frzs,I.base.tbls⟩,⟨m,hn.sameBut hs (B1 (cne x c hc)),λj y v' e1 e2 e3=>?_⟩,λy c' e=>?_,I.free,I.freeC,λp hp=>?_,tracked ⟨oc,hoc,I.freeC x c hc⟩ hs,by simpa using I.len⟩ ⟨c,hs,.inr hc⟩
  .exact(hs.2 b (A0 (AY (AO e) (I.ok.cab x c hfn hc)))).trans (I.base.keep b o e n hb hx)
  .let⟨sl,e1⟩:=I.base.slot b o e n hb hx;exact⟨sl,(hs.2 b (A0 (AY (AO e) (I.ok.cab x c hfn hc)))).trans e1⟩
  .let⟨o',e1⟩:=I.base.there b o e hx;exact⟨o',(hs.2 b (A0 (AY (AO e) (I.ok.cab x c hfn hc)))).trans e1⟩
  .by_cases hj:j=i
   .subst hj;rw[hi]at e1;cases e1;rw[BF hiσ]at e2
    cases e2
    exact⟨u,r,.inr ⟨.inl hk,c,hc,hc'⟩⟩
   .rw[An (B1 hj)]at e2;let⟨u',r',q⟩:=hl j y v' e1 e2 e3;refine⟨u',r',?_⟩;rcases q with q|⟨k,c',e,z'⟩
    .exact .inl q
    .refine .inr ⟨k,c',e,z'.sameBut hs ?_⟩
     rintro rfl
     exact hj (zcf hN e1 (I.ok.inj _ _ _ e hc ▸ hi))
  .by_cases hcc:c'=c
   .subst hcc;exact⟨_,hc'⟩
   .let⟨w2,z2⟩:=I.cell y c' e;exact⟨w2,z2.sameBut hs hcc⟩
  .let⟨e,n,ne,nf,d⟩:=I.pin p hp;refine⟨(hs.2 p.1 ?_).trans e,n,ne,nf,d⟩;intro q;rw[q,hoc]at e;have q':oc=p.2:=AW e;exact d w' (by rw[<-q'];exact hocd)
def zG{M:Model}{A:A5}{E:AD->AG->Prop}{i:Nat}{x:AR}{v:V}{u:AD}{Q:Unit->AG->Prop}(I:Inv X π σ H s)(hN:X.N.Nodup)(hi:X.N[i]?=AA x)(hx:Loc X.env.scope x)(r:RelV v u)
  (h:∀s',Inv X π (σ.set i (AA v)) H s'->Q () s') (hf:X.fn x=AC \/ X.env.scope.names.lookup x=AA .local:=by first|exact .inl rfl|exact .inr rfl|assumption):AN M A (storeName X.env x u) Q E s:=
 zdu I hN hi hx r (λs' I' _=>h s' I') hf
theorem Inv.call'{s':AG}{ch:List AI}(I:Inv X π σ H s)(ho:s'.os=s.os)(u:Un (frs X.stack) ch H H' s.heap s'.heap)(hok:HOk X.prog X.w H' s'.heap)(hg:Cu s'.gens)
  (hch:∀b∈ch,(b∈X.ex \/ X.s₀.heap.objs.size<=b)/\b≠X.env.locals/\(∀x c,X.env.cells.lookup x=AA c->c≠b)/\∀p∈X.pn++π,p.1≠b):Inv X π σ H' s':=by
 let⟨h',g',d',t',o'⟩:=s';have e:o'=s.os:=ho;subst e;exact I.call (g':=g') (t':=t') (d':=d') u hok hg hch
end
abbrev XK:=AD->Option AI->Hp->Prop
abbrev St:=List (Option V)
abbrev VK:=V->Hp->Prop
abbrev TE:=St->Hp->VK->Prop
abbrev TT:=St->Hp->(Bool->Hp->Prop)->Prop
abbrev TA:=St->Hp->(List V->Hp->Prop)->Prop
structure Ends where
 nx:St->Hp->Prop
 rt:VK
 bk:St->Hp->Prop:=λ_ _=>False
 ct:St->Hp->Prop:=λ_ _=>False
abbrev TS:=Ends->St->Hp->Prop
def EP(X:Cx)(π:List (AI×B6))(σ:St)(Q:VK)(u:AD)(s':AG):Prop:=∃v H',Inv X π σ H' s'/\RelV v u/\Q v H'
def TP(X:Cx)(π:List (AI×B6))(σ:St)(Q:Bool->Hp->Prop)(b:Bool)(s':AG):Prop:=∃H',Inv X π σ H' s'/\Q b H'
def AP(X:Cx)(π:List (AI×B6))(σ:St)(Q:List V->Hp->Prop)(us:List AD)(s':AG):Prop:=∃vs H',Inv X π σ H' s'/\Vals vs us/\Q vs H'
def SP(X:Cx)(π:List (AI×B6))(D:Ends)(f:Flow)(s':AG):Prop:=
 match f with
 |.next=>∃σ' H',Inv X π σ' H' s'/\D.nx σ' H'
 |.brk=>∃σ' H',Inv X π σ' H' s'/\D.bk σ' H'
 |.cont=>∃σ' H',Inv X π σ' H' s'/\D.ct σ' H'
 |.ret u=>∃v σ' H',Inv X π σ' H' s'/\RelV v u/\D.rt v H'
def PE(X:Cx)(e:AM)(t:TE):Prop:=
 ∀(π:List (AI×B6)) (s:AG) (σ:St) (H:Hp) (Q:VK),Inv X π σ H s->t σ H Q->AN (model X.prog X.w) X.A (eval e X.env) (EP X π σ Q) X.xe s
def PT(X:Cx)(e:AM)(t:TT):Prop:=
 ∀(π:List (AI×B6)) (s:AG) (σ:St) (H:Hp) (Q:Bool->Hp->Prop),Inv X π σ H s->t σ H Q->AN (model X.prog X.w) X.A (isTrue e X.env (eval e X.env)) (TP X π σ Q) X.xe s
def PW(X:Cx)(e:AM)(t:TT):Prop:=
 ∀(whole:Gd AD) (π:List (AI×B6)) (s:AG) (σ:St) (H:Hp) (Q:Bool->Hp->Prop),Inv X π σ H s->t σ H Q->AN (model X.prog X.w) X.A (isTrue e X.env whole) (TP X π σ Q) X.xe s
theorem PW.pt{X:Cx}{e:AM}{t:TT}(h:PW X e t):PT X e t:=h _
def PA(X:Cx)(es:List AM)(t:TA):Prop:=
 ∀(pos:Bd) (π:List (AI×B6)) (s:AG) (σ:St) (H:Hp) (Q:List V->Hp->Prop),Inv X π σ H s->t σ H Q->AN (model X.prog X.w) X.A (spliced (backTo pos (starEach es X.env))) (AP X π σ Q) X.xe s
def PS(X:Cx)(st:Bb)(t:TS):Prop:=
 ∀(π:List (AI×B6)) (s:AG) (σ:St) (H:Hp) (D:Ends),Inv X π σ H s->t D σ H->AN (model X.prog X.w) X.A (exec st X.env) (SP X π D) X.xe s
def PSs(X:Cx)(st:List Bb)(t:TS):Prop:=
 ∀(π:List (AI×B6)) (s:AG) (σ:St) (H:Hp) (D:Ends),Inv X π σ H s->t D σ H->AN (model X.prog X.w) X.A (execs st X.env) (SP X π D) X.xe s
theorem thn{α:Type}{t:Gd α}{Q Q':α->AG->Prop}{M:Model}{A:A5}{E:AD->AG->Prop}{s:AG}(h:AN M A t Q E s)(hQ:∀a s,Q a s->Q' a s):AN M A t Q' E s:=BW h hQ λ_ _ x=>x
section
variable {X:Cx}
theorem bin{a b:AM}{ta tb:TE}(ha:PE X a ta)(hb:PE X b tb){π:List (AI×B6)}{s:AG}{σ:St}{H:Hp}{R:V->V->Hp->Prop}(I:Inv X π σ H s)(h:ta σ H λx H1=>tb σ H1 λy H2=>R x y H2)
  {α:Type} {Q:α->AG->Prop} {f:AD->AD->Gd α}
  (hf:∀v u s2 x y H2,Inv X π σ H2 s2->RelV x v->RelV y u->R x y H2->AN (model X.prog X.w) X.A (f v u) Q X.xe s2):
  AN (model X.prog X.w) X.A (eval a X.env) (λv s₁=>AN (model X.prog X.w) X.A (eval b X.env) (λu s₂=>AN (model X.prog X.w) X.A (f v u) Q X.xe s₂) X.xe s₁) X.xe s:=by
 refine thn (ha π s σ H _ I h) λv s1 kq=>?_;let⟨x,H1,I1,r1,q1⟩:=kq;refine thn (hb π s1 σ H1 _ I1 q1) λu s2 kq=>?_;let⟨y,H2,I2,r2,q2⟩:=kq;exact hf v u s2 x y H2 I2 r1 r2 q2
def ybj(i:Nat):TE:=λσ H Q=>∃v,σ[i]?=AA (AA v)/\Q v H
def tC(v:V):TE:=λ_ H Q=>Q v H
def zb6{i:Nat}{x:AR}{pos:Bd}(hN:X.N[i]?=AA x)(hv:Vis X.env.scope x)(hd:(x==("__debug__":AR))=false:=by decide)(hcd:(x==("__classdict__":AR))=false:=by decide):PE X (.Name x pos) (ybj i):=by
 intro π s σ H Q I h;let⟨v,e,h⟩:=h;let⟨m,hn,hl⟩:=I.loc;let⟨u,r,l⟩:=hl i x v hN e hv;have fin:EP X π σ Q u s:=⟨v,H,I,r,h⟩;rcases l with⟨hk,hm⟩|⟨hk,c,hc,hcell⟩
 .exact Ff (E2 I.ok.kind hk hn hm fin) hd
 .rcases hk with hk|hk
  .exact Ff (Ec I.ok.kind hk hc hcell fin) hd
  .exact Ff (wpAny_loadName_free I.ok.kind hk hc hcell fin hcd) hd
def zcp{i j pos}:PE X (.Constant (.int i) j pos) (tC (.int i)):=λ_ _ _ H _ I h=>wpAny_Constant_int ⟨.int i,H,I.tok _,⟨_,rfl⟩,h⟩
def zfX{b j pos}:PE X (.Constant (.bool b) j pos) (tC (.bl b)):=λ_ _ _ H _ I h=>Constant_bool ⟨.bl b,H,I,rfl,h⟩
def zgi{j pos}:PE X (.Constant .none j pos) (tC .non):=λ_ _ _ H _ I h=>Constant_none ⟨.non,H,I,rfl,h⟩
def zdG{x j pos}:PE X (.Constant (.str x) j pos) (tC (.str x)):=λ_ _ _ H _ I h=>Calls.Constant_str ⟨.str x,H,I.tok _,⟨_,rfl⟩,h⟩
def Gl(X:Cx)(x:AR):Prop:=X.env.kindOf x=AA .globalImplicit
def za3{E:AD->AG->Prop}{π:List (AI×B6)}{s:AG}{σ:St}{H:Hp}{x:AR}{u:AD}{pos:Bd}{Q:AD->AG->Prop}(I:Inv X π σ H s)(hg:Gl X x)(hm:X.mg x=AA u)(h:Q u s)
  (hd:(x==("__debug__":AR))=false:=by decide):AN (model X.prog X.w) X.A (eval (.Name x pos) X.env) Q E s:=
 DP I.ok.kind hg (Calls.loadGlobal_global (by rw[I.ok.glob];exact I.mod.glob.keeps I.bk) hm h) hd
def zbB{E:AD->AG->Prop}{π:List (AI×B6)}{s:AG}{σ:St}{H:Hp}{x:AR}{u:AD}{pos:Bd}{Q:AD->AG->Prop}(I:Inv X π σ H s)(hg:Gl X x)(hm:X.mg x=AF)(hv:bootBuiltins x=AA u)(h:Q u s)
  (hn:x ≠ "__name__":=by decide) (hd:(x==("__debug__":AR))=false:=by decide):AN (model X.prog X.w) X.A (eval (.Name x pos) X.env) Q E s:=by
 let⟨mb,h1,h2⟩:=I.mod.blt;exact DP I.ok.kind hg (Calls.loadGlobal_builtin (by rw[I.ok.glob];exact I.mod.glob.keeps I.bk) hm (by rw[I.ok.blt];exact h1.keeps I.bk) ((h2 x hn).trans hv) h) hd
def zdA{x:AR}{v:V}{u:AD}{pos:Bd}(hg:Gl X x)(hm:X.mg x=AA u)(r:RelV v u)(hd:(x==("__debug__":AR))=false:=by decide):PE X (.Name x pos) (tC v):=
 λ_ _ _ H _ I h=>za3 I hg hm ⟨v,H,I,r,h⟩ hd
def zfS{x:AR}{v:V}{u:AD}{pos:Bd}(hg:Gl X x)(hm:X.mg x=AF)(hv:bootBuiltins x=AA u)(r:RelV v u)(hn:x ≠ "__name__":=by decide)(hd:(x==("__debug__":AR))=false:=by decide):PE X (.Name x pos) (tC v):=
 λ_ _ _ H _ I h=>zbB I hg hm hv ⟨v,H,I,r,h⟩ hn hd
variable {a b:AM}{ta tb:TE}{pos:Bd}
variable {tA tB':TT}{rest:List AM}
def ye3(t u:TT):TT:=λσ H Q=>t σ H λc H1=>if c=AC then u σ H1 Q else Q AH H1
def tOr(t u:TT):TT:=λσ H Q=>t σ H λc H1=>if c=AC then Q AC H1 else u σ H1 Q
def yfT(t:TT):TT:=λσ H Q=>t σ H λc H1=>Q (!c) H1
def zfL(ha:PT X a tA):PW X (.BoolOp .And [a] pos) tA:=by
 intro wh π s σ H Q I h;refine isTrue_and (thn (ha π s σ H Q I h) λc s1 e=>?_)
 cases c with
 |true=>exact isTrue_and_nil e
 |false=>exact e
def ziw(ha:PT X a tA):PW X (.BoolOp .Or [a] pos) tA:=by
 intro wh π s σ H Q I h;refine isTrue_or (thn (ha π s σ H Q I h) λc s1 e=>?_)
 cases c with
 |false=>exact isTrue_or_nil e
 |true=>exact e
def zhr(ha:PT X a tA)(hb:PW X (.BoolOp .And (b::rest) pos) tB'):PW X (.BoolOp .And (a::b::rest) pos) (ye3 tA tB'):=by
 intro wh π s σ H Q I h;refine isTrue_and (thn (ha π s σ H _ I h) λc s1 kq=>?_);let⟨H1,I1,q1⟩:=kq
 cases c with
 |true=>exact hb wh π s1 σ H1 Q I1 q1
 |false=>exact⟨H1,I1,q1⟩
def ziG(ha:PT X a tA)(hb:PW X (.BoolOp .Or (b::rest) pos) tB'):PW X (.BoolOp .Or (a::b::rest) pos) (tOr tA tB'):=by
 intro wh π s σ H Q I h;refine isTrue_or (thn (ha π s σ H _ I h) λc s1 kq=>?_);let⟨H1,I1,q1⟩:=kq
 cases c with
 |true=>exact⟨H1,I1,q1⟩
 |false=>exact hb wh π s1 σ H1 Q I1 q1
def zhp(ha:PT X a tA):PT X (.UnaryOp .Not a pos) (yfT tA):=by
 intro π s σ H Q I h;exact isTrue_not (ha π s σ H (λc H1=>Q (!c) H1) I h)
def ydR(ta tb:TE):TE:=λσ H Q=>ta σ H λx H1=>∃c,x=.bl c/\if c=AC then tb σ H1 Q else Q (.bl AH) H1
def yfp(ta tb:TE):TE:=λσ H Q=>ta σ H λx H1=>∃c,x=.bl c/\if c=AC then Q (.bl AC) H1 else tb σ H1 Q
def yc8(ta:TE):TE:=λσ H Q=>ta σ H λx H1=>∃c,x=.bl c/\Q (.bl (!c)) H1
def zhC{op}{t:TE}(h:PE X a t):PE X (.BoolOp op [a] pos) t:=λπ s σ H Q I hw=>BoolOp_one (h π s σ H Q I hw)
def zh6(ha:PE X a ta)(hb:PE X (.BoolOp .And (b::rest) pos) tb):PE X (.BoolOp .And (a::b::rest) pos) (ydR ta tb):=by
 intro π s σ H Q I h;refine BoolOp_and (thn (ha π s σ H _ I h) λv s1 kq=>?_);let⟨x,H1,I1,r1,q1⟩:=kq;let⟨c,rfl,q1⟩:=q1
 cases r1
 refine BJ ?_
 cases c with
 |true=>exact hb π s1 σ H1 Q I1 q1
 |false=>exact⟨.bl AH,H1,I1,rfl,q1⟩
def ziN(ha:PE X a ta)(hb:PE X (.BoolOp .Or (b::rest) pos) tb):PE X (.BoolOp .Or (a::b::rest) pos) (yfp ta tb):=by
 intro π s σ H Q I h;refine BoolOp_or (thn (ha π s σ H _ I h) λv s1 kq=>?_);let⟨x,H1,I1,r1,q1⟩:=kq;let⟨c,rfl,q1⟩:=q1
 cases r1
 refine BJ ?_
 cases c with
 |false=>exact hb π s1 σ H1 Q I1 q1
 |true=>exact⟨.bl AC,H1,I1,rfl,q1⟩
def ziv(ha:PE X a ta):PE X (.UnaryOp .Not a pos) (yc8 ta):=by
 intro π s σ H Q I h;refine UnaryOp_ (thn (ha π s σ H _ I h) λv s1 kq=>?_);let⟨x,H1,I1,r1,q1⟩:=kq;let⟨c,rfl,q1⟩:=q1
 cases r1
 exact not_of (BJ ⟨.bl (!c),H1,I1,rfl,q1⟩)
def tIf(t:TT)(ta tb:TE):TE:=λσ H Q=>t σ H λc H1=>if c=AC then ta σ H1 Q else tb σ H1 Q
def zeP{c:AM}(hc:PT X c tA)(ha:PE X a ta)(hb:PE X b tb):PE X (.IfExp c a b pos) (tIf tA ta tb):=by
 intro π s σ H Q I h;refine wpAny_IfExp (thn (hc π s σ H _ I h) λd s1 kq=>?_);let⟨H1,I1,q1⟩:=kq
 cases d with
 |true=>exact ha π s1 σ H1 Q I1 q1
 |false=>exact hb π s1 σ H1 Q I1 q1
end
def SqL(K:AE)(H:Hp)(a:AI)(xs:List V):Prop:=
 Rd H a (.lst xs) \/
  ∃(o:B6) (its:Array AD) (n:Nat),K.lookup a=AA o/\o.cls=.type "list"/\o.dict=AF/\o.data=.seq its n/\its.size<=sizeLine/\Vals xs its.toList
def SqT(K:AE)(H:Hp)(a:AI)(xs:List V):Prop:=
 Rd H a (.tup xs) \/
  ∃(o:B6) (its:Array AD) (n:Nat),K.lookup a=AA o/\o.cls=.type "tuple"/\o.data=.seq its n/\its.size<=sizeLine/\Vals xs its.toList
def yfM:AD->Option V
 |.none=>AA .non
 |.bool b=>AA (.bl b)
 |.int i _=>AA (.int i)
 |.str x _=>AA (.str x)
 |.bytes b _=>AA (.byt b)
 |.float b _=>AA (.flt b)
 |.ref a=>AA (.ref a)
 |.type n=>AA (.ty n)
 |_=>AF
theorem RelV.abs{x:V}{u:AD}(r:RelV x u):yfM u=AA x:=by
 cases x with
 |non=>cases r;rfl
 |bl _=>cases r;rfl
 |int _=>let⟨t,rfl⟩:=r;rfl
 |str _=>let⟨t,rfl⟩:=r;rfl
 |byt _=>let⟨t,rfl⟩:=r;rfl
 |flt _=>let⟨t,rfl⟩:=r;rfl
 |ref _=>cases r;rfl
 |ty _=>cases r;rfl
theorem RelV.inj{x y:V}{u:AD}(r:RelV x u)(q:RelV y u):x=y:=AW (r.abs.symm.trans q.abs)
theorem Vals.inj:∀{xs ys:List V} {us:List AD},Vals xs us->Vals ys us->xs=ys
 |_,_,_,.nil,.nil=>rfl
 |_,_,_,.cons r t,.cons r' t'=>by rw[r.inj r',Vals.inj t t']
section
variable {X:Cx}{π:List (AI×B6)}{σ:St}{H:Hp}{s:AG}{a:AI}{xs ys:List V}
theorem SqL.of{K:AE}(h:H a=AA (.lst xs)):SqL K H a xs:=.inl (.inl h)
theorem Inv.list(I:Inv X π σ H s)(h:SqL X.K H a xs):∃its:List AD,Vals xs its/\PlainL s.heap a its.toArray/\xs.length<=sizeLine:=by
 rcases h with h|⟨o,its,n,hk,hc,hd,hs,hz,r⟩
 .let⟨z,its,n,r,e⟩:=h.ok I.hok;exact⟨its,r,⟨_,n,e,rfl,rfl,rfl⟩,z⟩
 .refine⟨its.toList,r,⟨o,n,I.kIn a o hk,hc,hd,by simpa using hs⟩,?_⟩;have e:=r.length;erw[DG]at e;lia
theorem Inv.tuple(I:Inv X π σ H s)(h:SqT X.K H a xs):∃its:List AD,Vals xs its/\IsTup s.heap a its.toArray/\xs.length<=sizeLine:=by
 rcases h with h|⟨o,its,n,hk,hc,hs,hz,r⟩
 .let⟨z,its,r,p⟩:=h.ok I.hok;exact⟨its,r,⟨_,p,rfl,_,rfl⟩,z⟩
 .refine⟨its.toList,r,⟨o,I.kIn a o hk,hc,n,by simpa using hs⟩,?_⟩;have e:=r.length;erw[DG]at e;lia
theorem Inv.list_inj(I:Inv X π σ H s)(h:SqL X.K H a xs)(h':SqL X.K H a ys):xs=ys:=by
 let⟨its,r,⟨o,n,e,_,_,d⟩,_⟩:=I.list h;let⟨its',r',⟨o',n',e',_,_,d'⟩,_⟩:=I.list h';rw[e]at e';cases e';rw[d]at d';injection d' with d1 _;have:its=its':=by simpa using congrArg Ez d1
 subst this;exact r.inj r'
theorem Inv.tuple_inj(I:Inv X π σ H s)(h:SqT X.K H a xs)(h':SqT X.K H a ys):xs=ys:=by
 let⟨its,r,⟨o,e,_,n,d⟩,_⟩:=I.tuple h;let⟨its',r',⟨o',e',_,n',d'⟩,_⟩:=I.tuple h';rw[e]at e';cases e';rw[d]at d';injection d' with d1 _;have:its=its':=by simpa using congrArg Ez d1
 subst this;exact r.inj r'
end
section
variable {X:Cx}{π:List (AI×B6)}{σ:St}{H:Hp}{s:AG}{E:AD->AG->Prop}
end
section
variable {X:Cx}{st:Bb}{rest:List Bb}{t u:TS}{e:AM}{te:TE}{pos:Bd}
def ydl:TS:=λD σ H=>D.nx σ H
def yfW(t u:TS):TS:=λD σ H=>t {D with nx:=u D} σ H
def zgt:PSs X [] ydl:=λ_ _ σ H _ I h=>EO ⟨σ,H,I,h⟩
def zeN(h1:PS X st t)(h2:PSs X rest u):PSs X (st::rest) (yfW t u):=by
 intro π s σ H D I h;refine wpAny_execs_cons (thn (h1 π s σ H {D with nx:=u D} I h) λf s1 q=>?_)
 cases f with
 |next=>
  let⟨σ',H',I',q⟩:=q;exact h2 π s1 σ' H' D I' q
 |ret v=>exact q
 |brk=>exact q
 |cont=>exact q
theorem Inv.quiet{π:List (AI×B6)}{σ:St}{H:Hp}{s:AG}(I:Inv X π σ H s):interactive X.env=false:=by simp[interactive,I.ok.kind]
def ydT(te:TE):TS:=λD σ H=>te σ H λ_ H1=>D.nx σ H1
def zfY(he:PE X e te)(hs:swapsWith e AF pos.line X.env=pure false:=by rfl):PS X (.Expr e pos) (ydT te):=by
 intro π s σ H D I h;exact wpAny_Expr_any (thn (he π s σ H _ I h) λv s1 ⟨x,H1,I1,r1,q1⟩=>⟨σ,H1,I1,q1⟩) I.quiet hs
def yfQ(te:TE):TS:=λD σ H=>te σ H D.rt
def zir(he:PE X e te):PS X (.Return (AA e) pos) (yfQ te):=by
 intro π s σ H D I h;exact wpAny_Return_some (thn (he π s σ H _ I h) λv s1 ⟨x,H1,I1,r1,q1⟩=>⟨x,σ,H1,I1,r1,q1⟩)
def ydd:TS:=λD _ H=>D.rt .non H
def zg6:PS X (.Return AF pos) ydd:=λ_ _ σ H _ I h=>wpAny_Return_none ⟨.non,σ,H,I,rfl,h⟩
def yeH(c:TT)(t u:TS):TS:=λD σ H=>c σ H λb H1=>if b=AC then t D σ H1 else u D σ H1
def zi2{c:AM}{a b:List Bb}{tc:TT}(hc:PT X c tc)(ha:PSs X a t)(hb:PSs X b u):PS X (.If c a b pos) (yeH tc t u):=by
 intro π s σ H D I h;refine wpAny_If (thn (hc π s σ H _ I h) λd s1 kq=>?_);let⟨H1,I1,q1⟩:=kq
 cases d with
 |true=>exact ha π s1 σ H1 D I1 q1
 |false=>exact hb π s1 σ H1 D I1 q1
end
abbrev TG:=V->St->Hp->(St->Hp->Prop)->Prop
abbrev TGs:=List V->St->Hp->(St->Hp->Prop)->Prop
def PG(X:Cx)(target:AM)(t:TG):Prop:=
 ∀(π:List (AI×B6)) (s:AG) (σ:St) (H:Hp) (v:V) (u:AD) (Q:St->Hp->Prop),Inv X π σ H s->RelV v u->t v σ H Q ->
  AN (model X.prog X.w) X.A (assign target X.env u) (λ_ s'=>∃σ' H',Inv X π σ' H' s'/\Q σ' H') X.xe s
def PGs(X:Cx)(ts:List AM)(t:TGs):Prop:=
 ∀(π:List (AI×B6)) (s:AG) (σ:St) (H:Hp) (vs:List V) (us:List AD) (Q:St->Hp->Prop),Inv X π σ H s->Vals vs us->t vs σ H Q ->
  AN (model X.prog X.w) X.A (assignInOrder ((assignEach ts X.env).map (·.2)) us) (λ_ s'=>∃σ' H',Inv X π σ' H' s'/\Q σ' H') X.xe s
abbrev ydX:=V->V->V->Hp->(Hp->Prop)->Prop
def yer(X:Cx)(t:ydX):Prop:=
 ∀(π:List (AI×B6)) (s:AG) (σ:St) (H:Hp) (o i v:V) (ov iv u:AD) (Q:Hp->Prop),Inv X π σ H s->RelV o ov->RelV i iv->RelV v u->t o i v H Q ->
  AN (model X.prog X.w) X.A (setItem ov iv u) (λ_ s'=>∃H',Inv X π σ H' s'/\Q H') X.xe s
abbrev TIp:=V->V->Hp->VK->Prop
def PIp(X:Cx)(op:Di)(t:TIp):Prop:=
 ∀(π:List (AI×B6)) (s:AG) (σ:St) (H:Hp) (x y:V) (v u:AD) (Q:VK),Inv X π σ H s->RelV x v->RelV y u->t x y H Q ->
  AN (model X.prog X.w) X.A (inplaceOp op v u) (EP X π σ Q) X.xe s
section
variable {X:Cx}{pos:Bd}
def ya0(i:Nat):TG:=λv σ H Q=>Q (σ.set i (AA v)) H
def zbR{i:Nat}{x:AR}(hN:X.N.Nodup)(hi:X.N[i]?=AA x)(hx:Loc X.env.scope x)(hf:X.fn x=AC \/ X.env.scope.names.lookup x=AA .local:=by first|exact .inl rfl|exact .inr rfl|assumption):PG X (.Name x pos) (ya0 i):=by
 intro π s σ H v u Q I r h;exact FB (zG I hN hi hx r (λs' I'=>⟨_,H,I',h⟩) hf)
def yfy:TGs:=λvs σ H Q=>vs=[]/\Q σ H
def ydD(t:TG)(u:TGs):TGs:=λvs σ H Q=>∃v r,vs=v::r/\t v σ H λσ' H'=>u r σ' H' Q
def zg9:PGs X [] yfy:=by
 intro π s σ H vs us Q I r h;let⟨e,h⟩:=h;subst e
 cases r
 exact FD ⟨σ,H,I,h⟩
def zeH{e:AM}{es:List AM}{t:TG}{u:TGs}(h1:PG X e t)(h2:PGs X es u)
  (hs:(assignEach (e::es) X.env).map (·.2)=assign e X.env::(assignEach es X.env).map (·.2):=by rfl):PGs X (e::es) (ydD t u):=by
 intro π s σ H vs us Q I r h;let⟨v,vr,e1,h⟩:=h;subst e1
 cases r with
 |cons r rr=>
  rw[hs];refine DQ (thn (h1 π s σ H _ _ _ I r h) λ_ s1 kq=>?_);let⟨σ1,H1,I1,q1⟩:=kq;exact h2 π s1 σ1 H1 _ _ Q I1 rr q1
def ye2(K:AE)(n:Nat)(t:TGs):TG:=λv σ H Q=>∃a xs,v=.ref a/\SqT K H a xs/\xs.length=n/\t xs σ H Q
def zgL{es:List AM}{k:Nat}{t:TGs}{n:Nat}(hc:X.calm=AC)(h:PGs X es t)
  (hn:(assignEach es X.env).length=n:=by rfl) (hst:(assignEach es X.env).findIdx? (·.1)=none:=by rfl):PG X (.Tuple es k pos) (ye2 X.K n t):=by
 intro π s σ H v u Q I r hw;let⟨a,xs,e1,hq,hl,hw⟩:=hw;subst e1
 cases r
 let⟨its,rv,ht,hz⟩:=I.tuple hq;refine assign_Tuple_tuple (I.ok.hd hc) ht (by simp[hn,<-hl,rv.length]) hst λh' hx=>?_;have I1:Inv X π σ H {s with heap:=h'}:=I.kept (t':=s.toks) λb o e=>hx b o (A0 (AO e)) e;exact h π _ σ H xs _ Q I1 (by simpa using rv) hw
def yd2(to ti:TE)(t:ydX):TG:=λv σ H Q=>to σ H λo H1=>ti σ H1 λi H2=>t o i v H2 λH3=>Q σ H3
def zfm{o i:AM}{to ti:TE}{t:ydX}(ho:PE X o to)(hi:PE X i ti)(hs:yer X t)
  (ha:∀v,assign (.Subscript o i pos) X.env v=(do
   let ov <-holding [v] (eval o X.env)
   let iv <-holding [v,ov] (eval i X.env)
   standAt pos
   holding [v,ov,iv] (setItem ov iv v)
   release [v,ov,iv] []):=by intro _;rfl):PG X (.Subscript o i pos) (yd2 to ti t):=by
 intro π s σ H v u Q I r h;rw[ha];refine AB (BD (thn (ho π s σ H _ I h) λov s1 kq=>?_));let⟨x,H1,I1,r1,q1⟩:=kq;refine AB (BD (thn (hi π s1 σ H1 _ I1 q1) λiv s2 kq=>?_));let⟨y,H2,I2,r2,q2⟩:=kq;refine AB (Cv (AB (BD (thn (hs π s2 σ H2 x y v ov iv u _ I2 r1 r2 r q2) λ_ s3 kq=>?_))));let⟨H3,I3,q3⟩:=kq;exact wpAny_release ⟨σ,H3,I3,q3⟩
def ydI(te:TE)(g:TG):TS:=λD σ H=>te σ H λx H1=>g x σ H1 D.nx
def zfo{tg e:AM}{te:TE}{g:TG}(he:PE X e te)(hg:PG X tg g)(hs:swapsWithSole [tg] e pos.line X.env=pure false:=by rfl)(hw:swappedStores [tg] e X.env=pure none:=by rfl)
  (h1:(assignEach [tg] X.env).map (·.2)=[assign tg X.env]:=by rfl):PS X (.Assign [tg] e pos) (ydI te g):=by
 intro π s σ H D I h;refine wpAny_Assign_stores (thn (he π s σ H _ I h) λv s1 kq=>?_) hs hw;let⟨x,H1,I1,r1,q1⟩:=kq;rw[h1];exact thn (hg π s1 σ H1 x v _ I1 r1 q1) λ_ s2 q=>q
def zhv{i:Nat}{x:AR}{e:AM}{te:TE}{pos':Bd}(hN:X.N.Nodup)(hi:X.N[i]?=AA x)(hx:Loc X.env.scope x)(he:PE X e te)(hs:swapsWith e (AA (.Name x pos')) pos.line X.env=pure false:=by rfl)(hf:X.fn x=AC \/ X.env.scope.names.lookup x=AA .local:=by first|exact .inl rfl|exact .inr rfl|assumption):
  PS X (.Assign [.Name x pos'] e pos) (ydI te (ya0 i)):=by
 intro π s σ H D I h;refine wpAny_Assign_Name (thn (he π s σ H _ I h) λv s1 kq=>?_) hs;let⟨y,H1,I1,r1,q1⟩:=kq;exact zG I1 hN hi hx r1 (λs2 I2=>⟨_,H1,I2,q1⟩) hf
def yep(i j:Nat)(ta:TA):TS:=λD σ H=>ta σ H λvs H1=>∃v w,vs=[v,w]/\D.nx ((σ.set i (AA v)).set j (AA w)) H1
def ziu{i j:Nat}{x y:AR}{a b:AM}{ta:TA}{px py pt:Bd}{kt k2 pt2}(hc:X.calm=AC)(hN:X.N.Nodup)(hi:X.N[i]?=AA x)(hj:X.N[j]?=AA y)(hij:i≠j)
  (hx:X.env.scope.names.lookup x=AA .local) (hy:X.env.scope.names.lookup y=AA .local) (ha:PA X [a,b] ta)
  (hw:swappedStores [.Tuple [.Name x px,.Name y py] kt pt] (.Tuple [a,b] k2 pt2) X.env=pure (AA [x,y]))
  (hs:swapsWithSole [.Tuple [.Name x px,.Name y py] kt pt] (.Tuple [a,b] k2 pt2) pos.line X.env=pure false:=by rfl):
  PS X (.Assign [.Tuple [.Name x px,.Name y py] kt pt] (.Tuple [a,b] k2 pt2) pos) (yep i j ta):=by
 intro π s σ H D I h;rw[exec_Assign_arm];refine AB (Cv ?_);rw[hs];refine AB (AK ?_);rw[if_neg ⋯];refine AB (Tuple_ (thn (ha _ π s σ H _ I h) λus s1 kq=>?_));let⟨vs,H1,I1,r1,q1⟩:=kq;let⟨v,w,e1,q1⟩:=q1;subst e1;obtain⟨u1,u2,rfl,rv,rw'⟩:∃u1 u2,us=[u1,u2]/\RelV v u1/\RelV w u2:=by
  cases r1 with
  |cons p q=>
   cases q with
   |cons p' q'=>
    cases q'
    exact⟨_,_,rfl,p,p'⟩
 refine Au ?_ (by show 2<=sizeLine;decide);have I2:Inv X π σ H1 {s1 with heap:=s1.heap.push {cls:=.type "tuple",data:=.seq [u1,u2].toArray} }:=I1.kept (t':=s1.toks) λb o e=>AL _ e;rw[hw];refine AB (AK ?_);show AN (model X.prog X.w) X.A (do rule "assign.swapped-stores";let items <-unpackItems (.ref s1.heap.objs.size) 2 AF;assignInOrder [λv=>bindName X.env y v,λv=>bindName X.env x v] items.reverse;pure GT) _ _ _;refine AB (Dx (AB (unpackItems_tuple (items:=#[u1,u2]) (I.ok.hd hc) (IsTup.new s1.heap _) λh' hx'=>?_)));have I3:=I2.kept (h':=h') (t':=s1.toks) λb o e=>hx' b o (A0 (AO e)) e;show AN _ _ (assignInOrder [λv=>bindName X.env y v,λv=>bindName X.env x v] [u2,u1] >>= λ_=>pure GT) _ _ _;refine AB (DQ (wpAny_bindName (zG I3 hN hj (.inl hy) rw' (λs2 I4=>?_) (.inr hy))));refine DQ (wpAny_bindName (zG I4 hN hi (.inl hx) rv (λs3 I5=>FD (AK ?_)) (.inr hx)));rw[List.set_comm _ _ (B1 hij)]at I5;exact⟨_,H1,I5,q1⟩
def yfL(i:Nat)(te:TE)(ti:TIp):TS:=λD σ H=>∃x,σ[i]?=AA (AA x)/\te σ H λy H1=>ti x y H1 λz H2=>D.nx (σ.set i (AA z)) H2
def zgO{i:Nat}{x:AR}{e:AM}{te:TE}{op:Di}{ti:TIp}{pos':Bd}(hN:X.N.Nodup)(hi:X.N[i]?=AA x)(hx:Loc X.env.scope x)(he:PE X e te)(ho:PIp X op ti)(hf:X.fn x=AC \/ X.env.scope.names.lookup x=AA .local:=by first|exact .inl rfl|exact .inr rfl|assumption):
  PS X (.AugAssign (.Name x pos') op e pos) (yfL i te ti):=by
 intro π s σ H D I h;let⟨v,e1,h⟩:=h;let⟨m,hn,hl⟩:=I.loc;have vis:Vis X.env.scope x:=by rcases hx with k|k;exact .inl k;exact .inr (.inl k)
 let⟨u,r,l⟩:=hl i x v hi e1 vis;refine wpAny_AugAssign_Name ?_;have go:AN (model X.prog X.w) X.A (eval e X.env) (λw s₂=>AN (model X.prog X.w) X.A (inplaceOp op u w) (λr s₃=>AN (model X.prog X.w) X.A (storeName X.env x r) (λ_=>SP X π D .next) X.xe s₃) X.xe s₂) X.xe s:=by
  refine thn (he π s σ H _ I h) λw s1 kq=>?_;let⟨y,H1,I1,r1,q1⟩:=kq;refine thn (ho π s1 σ H1 v y u w _ I1 r r1 q1) λz s2 kq=>?_;let⟨zv,H2,I2,r2,q2⟩:=kq;exact zG I2 hN hi hx r2 (λs3 I3=>⟨_,H2,I3,q2⟩) hf
 rcases l with⟨hk,hm⟩|⟨hk,c,hc,hcell⟩
 .exact E2 I.ok.kind hk hn hm go
 .rcases hk with hk|hk
  .exact Ec I.ok.kind hk hc hcell go
  .rcases hx with k|k
   .have:X.env.scope.names.lookup x=AA .free:=hk;rw[k]at this;cases this
   .have:X.env.scope.names.lookup x=AA .free:=hk;rw[k]at this;cases this
def ipI(f:Int->Int->Int):TIp:=λx y H Q=>∃i j,x=.int i/\y=.int j/\Q (.int (f i j)) H
def zit:PIp X .Add (ipI λi j=>i+j):=by
 intro π s σ H x y v u Q I r1 r2 h;let⟨i,j,e1,e2,q⟩:=h;subst e1;subst e2;let⟨t,rfl⟩:=r1;let⟨t',rfl⟩:=r2;exact iadd_int ⟨.int _,H,I.tok _,⟨_,rfl⟩,q⟩
end
section
variable {X:Cx}{pos:Bd}
def ycH(c:TT)(tb:TS):TS:=λD σ H=>∃W:Nat->St->Hp->Prop,(∃m,W m σ H)/\∀m σ H,W m σ H ->
 c σ H λb H1=>if b=AC then ∃N:St->Hp->Prop,(∀σ' H',N σ' H'->∃m',m' < m/\W m' σ' H')/\tb {D with nx:=N,ct:=N,bk:=D.nx} σ H1 else D.nx σ H1
def zeW{c:AM}{body:List Bb}{tc:TT}{tb:TS}(hp:Dj (model X.prog X.w) X.A X.env X.xe)(hc:PT X c tc)(hb:PSs X body tb):PS X (.While c body [] pos) (ycH tc tb):=by
 intro π s σ H D I h;let⟨W,⟨m0,w0⟩,turn⟩:=h;refine wpAny_While (codeAny_whileLoop (λn s'=>∃σ' H',Inv X π σ' H' s'/\W n σ' H') ?_ m0 ⟨σ,H,I,w0⟩)
 rintro n s1 ⟨σ1,H1,I1,w1⟩
 refine Bm hp (thn (hc π s1 σ1 H1 _ I1 (turn n σ1 H1 w1)) λb s2 kq=>?_);let⟨H2,I2,q2⟩:=kq
 cases b with
 |true=>
  let⟨N,hN,q2⟩:=q2;rw[if_pos rfl];refine Bm hp (thn (hb π s2 σ1 H2 _ I2 q2) λf s3 q3=>?_)
  cases f with
  |next=>
   let⟨σ3,H3,I3,n3⟩:=q3;let⟨m',hm,w3⟩:=hN σ3 H3 n3;exact⟨m',hm,σ3,H3,I3,w3⟩
  |cont=>
   let⟨σ3,H3,I3,n3⟩:=q3;let⟨m',hm,w3⟩:=hN σ3 H3 n3;exact⟨m',hm,σ3,H3,I3,w3⟩
  |brk=>exact q3
  |ret v=>exact q3
 |false=>
  rw[if_neg AQ];exact EO ⟨σ1,H2,I2,q2⟩
end
structure It where
 go:Nat->Hp->Prop
 yld:Nat->Hp->V->Hp->Prop
 stop:Nat->Hp->Prop
def yaH(X:Cx)(π:List (AI×B6))(H:Hp)(b:AI):Prop:=
 H b=AF/\b≠X.env.locals/\b∉X.fs/\(b∈X.ex \/ X.s₀.heap.objs.size<=b)/\(∀x c,X.env.cells.lookup x=AA c->c≠b)/\∀p∈X.pn++π,p.1≠b
theorem Inv.fpOk{X:Cx}{π:List (AI×B6)}{σ:St}{H H':Hp}{s:AG}{b:AI}(I:Inv X π σ H s)(hb:s.heap.objs.size<=b)(hn:H' b=AF):yaH X π H' b:=by
 refine⟨hn,Dy (AY I.lt hb),I.nofs hb,.inr (BS I.sz hb),λx c e z=>?_,λp hp z=>?_⟩
 .let⟨v,q⟩:=I.cell x c e;exact absurd (AY q.lt (by rw[z];exact hb)) (Br _)
 .exact absurd (AY (AO (I.pin p hp).1) (by rw[z];exact hb)) (Br _)
structure Turn(P:AT)(w:A3)(K:AE)(tg:AM)(J:It)(fp:List AI)(it:AI)(tn:Nat->Ah->Prop):Prop where
 mem:it∈fp
 obj:∀i h,tn i h->∀b∈fp,∃o,h.get? b=AA o/\∀v,o.data ≠ .cell v
 keep:∀i h h',tn i h->(∀b∈fp,∀o,h.get? b=AA o->h'.get? b=AA o)->tn i h'
 item:∀(X:Cx),X.prog=P->X.w=w->X.K=K->X.calm=AC->∀(i:Nat) (π:List (AI×B6)) (s:AG) (σ:St) (H:Hp) (E:AD->AG->Prop),Inv X π σ H s->(∀b∈fp,yaH X π H b)->tn i s.heap->J.go i H ->
  AN (model P w) X.A (pyNext (.ref it)) (λr s1=>∃u,r=AA u /\
   AN (model P w) X.A (letOwnedTupleGo tg (.ref it) u) (λ_ s2=>∃x H',Inv X π σ H' s2/\RelV x u/\J.yld i H x H'/\tn (i+1) s2.heap/\∀b∈fp,H' b=AF) E s1) E s
 done:∀(X:Cx),X.prog=P->X.w=w->X.K=K->X.calm=AC->∀(i:Nat) (π:List (AI×B6)) (s:AG) (σ:St) (H:Hp) (E:AD->AG->Prop),Inv X π σ H s->(∀b∈fp,yaH X π H b)->tn i s.heap->J.stop i H ->
  AN (model P w) X.A (pyNext (.ref it)) (λr s1=>r=AF/\Inv X π σ H s1) E s
 self:∀(A:A5) (i:Nat) (s:AG) (Q:AD->AG->Prop) (E:AD->AG->Prop),tn i s.heap->Q (.ref it) s->AN (model P w) A (pyIter (.ref it)) Q E s
abbrev TI:=St->Hp->(It->Hp->Prop)->Prop
def PIE(X:Cx)(π:List (AI×B6))(σ:St)(tg:AM)(R:It->Hp->Prop)(itv:AD)(s2:AG):Prop:=
 ∃(it:AI) (fp:List AI) (tn:Nat->Ah->Prop) (J:It) (H':Hp),itv=.ref it/\Inv X π σ H' s2/\Turn X.prog X.w X.K tg J fp it tn/\tn 0 s2.heap/\(∀b∈fp,yaH X π H' b)/\R J H'
def PI(X:Cx)(tg iter:AM)(wi:TI):Prop:=
 ∀(π:List (AI×B6)) (s:AG) (σ:St) (H:Hp) (R:It->Hp->Prop),Inv X π σ H s->wi σ H R ->
  AN (model X.prog X.w) X.A (eval iter X.env) (λv s1=>AN (model X.prog X.w) X.A (pyIter v) (PIE X π σ tg R) X.xe s1) X.xe s
def zeC{M:Model}{A:A5}{E:AD->AG->Prop}{s:AG}{tg:AM}{it:AI}{u:AD}{o:B6}{n:String}{vs:Array AD}{Q:Unit->AG->Prop}(ho:s.heap.get? it=AA o)(hc:o.cls=.type n)(hd:o.data=.fields vs)
  (hn:["enumerate","zip","dict_itemiterator","dict_reverseitemiterator","odict_iterator","itertools.zip_longest","itertools.pairwise"].contains n=AH) (hQ:Q () s):AN M A (letOwnedTupleGo tg (.ref it) u) Q E s:=by
 unfold letOwnedTupleGo
 cases tg<;>first
  |exact AK hQ
  | (cases u<;>first
    |exact AK hQ
    | (refine AB (wpAny_load ho ?_)
       rw[hc,hd];show AN M A (if (["enumerate","zip","dict_itemiterator","dict_reverseitemiterator","odict_iterator","itertools.zip_longest","itertools.pairwise"].contains n&&vs[0]? == AA (rawInt _))=AC then _ else _) Q E s;rw[if_neg (by intro h;rw[hn,DR]at h;cases h)];exact AK hQ))
def Itl(K:AE)(a:AI):It:=
 ⟨λi H=>∃xs x,SqL K H a xs/\xs[i]?=AA x,λi H x H'=>H'=H/\∀xs,SqL K H a xs->xs[i]?=AA x,λi H=>∃xs,SqL K H a xs/\xs.length<=i⟩
def Itt(K:AE)(a:AI):It:=
 ⟨λi H=>∃xs x,SqT K H a xs/\xs[i]?=AA x,λi H x H'=>H'=H/\∀xs,SqT K H a xs->xs[i]?=AA x,λi H=>∃xs,SqT K H a xs/\xs.length<=i⟩
def Itr(lo:Int)(n:Nat):It:=⟨λi _=>i<n,λi H x H'=>H'=H/\x=.int (lo+i),λi _=>n<=i⟩
def zdJ{P:AT}{w:A3}{K:AE}{tg:AM}(a it:AI):Turn P w K tg (Itl K a) [it] it (λi h=>h.IsListIter it a i) where
 mem:=by simp
 obj:=λi h st b hb=>by
  have e:b=it:=by simpa using hb
  subst e;let⟨o,e,c,d⟩:=st;exact⟨o,e,λv z=>by rw[d]at z;cases z⟩
 keep:=λi h h' st k=>st.at λo e=>k it (by simp) o e
 item:=by
  intro X hP hw hK hc i π s σ H E I hf st hg;subst hP hw hK;let⟨xs,x,hq,hx⟩:=hg;let⟨its,rv,p,hz⟩:=I.list hq;let⟨u,hu,ru⟩:=rv.get hx;let⟨f0,f1,f2,f3,f4,f5⟩:=hf it (by simp);refine Dz st p.isList (x:=u) (by simpa using hu) λh' st' sb=>?_;have I1:Inv X π σ H {s with heap:=h'}:=I.turned (t':=s.toks) (λb o hb e=>(sb.2 b hb).trans e) f0 f1 f3 f4 f5;let⟨o,e,c,d⟩:=id st';exact⟨u,rfl,zeC (s:={s with heap:=h'}) e c d ⋯ ⟨x,H,I1,ru,⟨rfl,λys hy=>by rw[I.list_inj hy hq];exact hx⟩,st',λb hb=>(hf b hb).1⟩⟩
 done:=by
  intro X hP hw hK hc i π s σ H E I hf st hg;subst hP hw hK;let⟨xs,hq,hx⟩:=hg;let⟨its,rv,p,hz⟩:=I.list hq;let⟨f0,f1,f2,f3,f4,f5⟩:=hf it (by simp);have hl:=rv.length;exact ET (I.ok.hd hc) st p.isList (by simp;lia) λh' eb=>⟨rfl,I.turned (t':=s.toks) (λb o hb e=>eb b o hb e) f0 f1 f3 f4 f5⟩
 self:=λ_ _ _ _ _ st h=>wpAny_pyIter_listiter st h
def zcD{P:AT}{w:A3}{K:AE}{tg:AM}(a it:AI):Turn P w K tg (Itt K a) [it] it (λi h=>h.IsTupleIter it a i) where
 mem:=by simp
 obj:=λi h st b hb=>by
  have e:b=it:=by simpa using hb
  subst e;let⟨o,e,c,d⟩:=st;exact⟨o,e,λv z=>by rw[d]at z;cases z⟩
 keep:=λi h h' st k=>st.at λo e=>k it (by simp) o e
 item:=by
  intro X hP hw hK hc i π s σ H E I hf st hg;subst hP hw hK;let⟨xs,x,hq,hx⟩:=hg;let⟨its,rv,p,hz⟩:=I.tuple hq;let⟨u,hu,ru⟩:=rv.get hx;let⟨f0,f1,f2,f3,f4,f5⟩:=hf it (by simp);refine wpAny_pyNext_tuple_item st (show s.heap.IsTuple a its.toArray from p) (x:=u) (by simpa using hu) λh' st' sb=>?_;have I1:Inv X π σ H {s with heap:=h'}:=I.turned (t':=s.toks) (λb o hb e=>(sb.2 b hb).trans e) f0 f1 f3 f4 f5;let⟨o,e,c,d⟩:=id st';exact⟨u,rfl,zeC (s:={s with heap:=h'}) e c d ⋯ ⟨x,H,I1,ru,⟨rfl,λys hy=>by rw[I.tuple_inj hy hq];exact hx⟩,st',λb hb=>(hf b hb).1⟩⟩
 done:=by
  intro X hP hw hK hc i π s σ H E I hf st hg;subst hP hw hK;let⟨xs,hq,hx⟩:=hg;let⟨its,rv,p,hz⟩:=I.tuple hq;let⟨f0,f1,f2,f3,f4,f5⟩:=hf it (by simp);have hl:=rv.length;exact wpAny_pyNext_tuple_end (I.ok.hd hc) st (show s.heap.IsTuple a its.toArray from p) (by simp;lia) λh' eb=>⟨rfl,I.turned (t':=s.toks) (λb o hb e=>eb b o hb e) f0 f1 f3 f4 f5⟩
 self:=λ_ _ _ _ _ st h=>wpAny_pyIter_tupleiter st h
def zcz{P:AT}{w:A3}{K:AE}{tg:AM}(it:AI)(lo:Int)(n:Nat):Turn P w K tg (Itr lo n) [it] it (λi h=>IsRangeIter h it (lo+(i:Nat)*1) ((n:Int)-(i:Nat)) 1) where
 mem:=by simp
 obj:=λi h st b hb=>by
  have e:b=it:=by simpa using hb
  subst e;exact⟨_,st,λv z=>by
   have z':Data.fields _=Data.cell v:=z
   cases z'⟩
 keep:=λi h h' st k=>k it (by simp) _ st
 item:=by
  intro X hP hw hK hc i π s σ H E I hf st hg;subst hP hw hK;let⟨f0,f1,f2,f3,f4,f5⟩:=hf it (by simp);have W:=Walks.range (prog:=X.prog) (w:=X.w) (I.ok.hd hc) it lo 1 n;refine W.item i s _ _ hg st λv h' tk hv st' kk=>?_;let⟨t,rfl⟩:=hv;have I1:Inv X π σ H {s with heap:=h',toks:=tk}:=I.turned (λb o hb e=>kk b o (by simpa using hb) e) f0 f1 f3 f4 f5;refine⟨_,rfl,zeC (s:={s with heap:=h',toks:=tk}) (n:="range_iterator") st' rfl rfl ⋯ ⟨.int (lo+i),H,I1,⟨t,?_⟩,⟨rfl,rfl⟩,st',λb hb=>(hf b hb).1⟩⟩;rw[G9]
 done:=by
  intro X hP hw hK hc i π s σ H E I hf st hg;subst hP hw hK;let⟨f0,f1,f2,f3,f4,f5⟩:=hf it (by simp);exact wpAny_pyNext_range_end (I.ok.hd hc) st (by have:n<=i:=hg;lia) λh' eb=>⟨rfl,I.turned (t':=s.toks) (λb o hb e=>eb b o hb e) f0 f1 f3 f4 f5⟩
 self:=λ_ _ _ _ _ st h=>wpAny_pyIter_rangeiter st h
section
variable {X:Cx}{tg:AM}
def zeR{π:List (AI×B6)}{σ:St}{H:Hp}{s:AG}{R:It->Hp->Prop}{E:AD->AG->Prop}{lo hi:Int}{t u v:Gh}{tk:Nat}(I:Inv X π σ H s)(h1:-(2^62)<=lo)(h2:lo<2^62)(h3:-(2^62)<=hi)(h4:hi<2^62)
  (q:R (Itr lo (hi-lo).toNat) H):AN (model X.prog X.w) X.A (pyIter (.ref s.heap.objs.size)) (PIE X π σ tg R) E {s with heap:=s.heap.push {cls:=.type "range",data:=.fields #[.int lo t,.int hi u,.int 1 v]},toks:=tk}:=by
 refine wpAny_pyIter_range (IsRange.new ..) (small_one h1 h2 h3 h4) ?_;have I1:Inv X π σ H {s with heap:=s.heap.push {cls:=.type "range",data:=.fields #[.int lo t,.int hi u,.int 1 v]},toks:=tk}:=I.kept λb o e=>AL _ e;refine⟨(s.heap.push {cls:=.type "range",data:=.fields #[.int lo t,.int hi u,.int 1 v]}).objs.size,[(s.heap.push {cls:=.type "range",data:=.fields #[.int lo t,.int hi u,.int 1 v]}).objs.size],_,_,H,rfl,
  I1.kept (t':=tk) λb o e=>AL _ e,zcz _ lo (hi-lo).toNat,?_,λb hb=>?_,q⟩
 .have e1:lo+((0:Nat):Int)*1=lo:=by simp
  have e2:(((hi-lo).toNat:Nat):Int)-((0:Nat):Int)=GU lo hi 1:=by rw[rangeSize_one];split<;>lia
  show IsRangeIter _ _ (lo+((0:Nat):Int)*1) ((((hi-lo).toNat:Nat):Int)-((0:Nat):Int)) 1;rw[e1,e2];exact AX _ rfl
 .have e:b=(s.heap.push {cls:=.type "range",data:=.fields #[.int lo t,.int hi u,.int 1 v]}).objs.size:=by simpa using hb
  subst e;exact I1.fpOk (AS _) (I1.hok.fresh (AS _))
def ydf(ta:TA):TI:=λσ H R=>ta σ H λvs H1=>∃j:Int,vs=[.int j]/\-(2^62)<=j/\j<2^62/\R (Itr 0 j.toNat) H1
def zdE{a:AM}{ta:TA}{p pos:Bd}(hg:Gl X "range")(hm:X.mg "range"=AF)(ha:PA X [a] ta)(hs:starEach [a] X.env=[(AH,eval a X.env)]:=by rfl):PI X tg (.Call (.Name "range" p) [a] [] pos) (ydf ta):=by
 intro π s σ H R I h;refine Call_ (zbB I hg hm boot_range (CF (thn (ha pos π s σ H _ I h) λus s1 kq=>?_) hs rfl));let⟨vs,H1,I1,r1,q1⟩:=kq;let⟨j,e,q1,q2,q⟩:=q1;subst e
 cases r1 with
 |cons r rr=>
  cases rr
  let⟨t,rfl⟩:=r;exact call_range_1 (zeR I1 ∅ ∅ q1 q2 (by simpa using q))
def yeE(wi:TI)(g:TG)(tb:TS):TS:=λD σ H=>wi σ H λJ H1=>∃W:Nat->Nat->St->Hp->Prop,(∃m,W 0 m σ H1)/\∀i m σ H,W i m σ H ->
 (J.stop i H/\D.nx σ H) \/ (J.go i H/\∃N:St->Hp->Prop,(∀σ' H',N σ' H'->∃m',m' < m/\W (i+1) m' σ' H')/\∀x H',J.yld i H x H'->g x σ H' λσ2 H2=>tb {D with nx:=N,ct:=N,bk:=D.nx} σ2 H2)
def yaB(fp:List AI)(h:Ah):List (AI×B6):=fp.filterMap λb=>(h.get? b).map λo=>(b,o)
def zH{fp:List AI}{h:Ah}{b:AI}{o:B6}(hb:b∈fp)(e:h.get? b=AA o):(b,o)∈yaB fp h:=DS.mpr ⟨b,hb,by rw[e];rfl⟩
def zdv{fp:List AI}{h:Ah}{p:AI×B6}(hp:p∈yaB fp h):p.1∈fp/\h.get? p.1=AA p.2:=by
 let⟨b,hb,e⟩:=DS.mp hp
 cases q:h.get? b with
 |none=>rw[q]at e;cases e
 |some o=>
  rw[q]at e;have e':(b,o)=p:=AW e;subst e';exact⟨hb,q⟩
theorem Inv.pinned{π:List (AI×B6)}{σ:St}{H:Hp}{s:AG}{fp:List AI}(I:Inv X π σ H s)(hf:∀b∈fp,yaH X π H b)(ho:∀b∈fp,∃o,s.heap.get? b=AA o/\∀v,o.data ≠ .cell v):Inv X (π++yaB fp s.heap) σ H s:=
 I.pins_of λp hp=>(CT.mp hp).elim (λz=>I.pin p (A9 _ z)) λz=>by
  let⟨hb,e⟩:=zdv z;let⟨f0,f1,f2,_⟩:=hf p.1 hb;let⟨o,e',d⟩:=ho p.1 hb;rw[e]at e';cases e';exact⟨e,f0,f1,f2,d⟩
theorem Inv.unpinned{π pl:List (AI×B6)}{σ:St}{H:Hp}{s:AG}(I:Inv X (π++pl) σ H s):Inv X π σ H s:=I.pins_of λp hp=>I.pin p (A9 _ (E1 _ hp))
def zhq{iter:AM}{body:List Bb}{wi:TI}{g:TG}{tb:TS}{pos:Bd}(hp:Dj (model X.prog X.w) X.A X.env X.xe)(hc:X.calm=AC)(hi:PI X tg iter wi)(hg:PG X tg g)(hb:PSs X body tb)
  (hs:∀x,foldedSetIterable iter X.env x=pure x:=by intro _;rfl):PS X (.For tg iter body [] pos) (yeE wi g tb):=by
 intro π s σ H D I h;refine wpAny_For (thn (hi π s σ H _ I h) λv s1 h1=>thn h1 λitv s2 h2=>?_) hs;let⟨it,fp,tn,J,H2,e,I2,T,st2,f2,W,⟨m0,w0⟩,turn⟩:=h2;subst e;have stat:∀{H':Hp},(∀b∈fp,H' b=AF)->∀b∈fp,yaH X π H' b:=λhn b hb=>⟨hn b hb,(f2 b hb).2⟩;refine codeAny_forLoop_any (λn s'=>∃i σ' H',Inv X π σ' H' s'/\tn i s'.heap/\(∀b∈fp,H' b=AF)/\W i n σ' H') ?_ m0 ⟨0,σ,H2,I2,st2,λb hb=>(f2 b hb).1,w0⟩
 rintro n s3 ⟨i,σ3,H3,I3,st3,fr3,w3⟩
 rcases turn i n σ3 H3 w3 with⟨stop,qn⟩|⟨go,N,hN,step⟩
 .refine Bm hp (thn (T.done X rfl rfl rfl hc i π s3 σ3 H3 X.xe I3 (stat fr3) st3 stop) λr s4 kq=>?_);let⟨hr,I4⟩:=kq;subst hr;exact EO ⟨σ3,H3,I4,qn⟩
 .refine Bm hp (thn (T.item X rfl rfl rfl hc i π s3 σ3 H3 X.xe I3 (stat fr3) st3 go) λr s4 kq=>?_);let⟨u,hr,h4⟩:=kq;subst hr;refine Bm hp (thn h4 λ_ s5 kq=>?_);let⟨x,H5,I5,r5,y5,st5,fr5⟩:=kq;have I5':=I5.pinned (stat fr5) (T.obj _ _ st5);refine Bm hp (thn (hg _ s5 σ3 H5 x u _ I5' r5 (step x H5 y5)) λ_ s6 kq=>?_);let⟨σ6,H6,I6,q6⟩:=kq;refine Bm hp (thn (hb _ s6 σ6 H6 _ I6 q6) λf s7 q7=>?_);have again:∀{σ7:St} {H7:Hp},Inv X (π++yaB fp s5.heap) σ7 H7 s7->N σ7 H7->∃m,m<n/\∃i σ' H',Inv X π σ' H' s7/\tn i s7.heap/\(∀b∈fp,H' b=AF)/\W i m σ' H':=λ{σ7 H7} I7 n7=>by
   let⟨m',hm,w7⟩:=hN σ7 H7 n7;refine⟨m',hm,i+1,σ7,H7,I7.unpinned,T.keep _ _ _ st5 λb hb o e=>(I7.pin (b,o) (A9 _ (A9 _ (zH hb e)))).1,λb hb=>?_,w7⟩;let⟨o,e,d⟩:=T.obj _ _ st5 b hb;exact(I7.pin (b,o) (A9 _ (A9 _ (zH hb e)))).2.1
  cases f with
  |next=>let⟨σ7,H7,I7,n7⟩:=q7;exact again I7 n7
  |cont=>let⟨σ7,H7,I7,n7⟩:=q7;exact again I7 n7
  |brk=>let⟨σ7,H7,I7,q7⟩:=q7;exact⟨σ7,H7,I7.unpinned,q7⟩
  |ret v=>let⟨x7,σ7,H7,I7,r7,q7⟩:=q7;exact⟨x7,σ7,H7,I7.unpinned,r7,q7⟩
end
abbrev R2:=V->V->Hp->VK->Prop
def OpR(X:Cx)(f:AD->AD->Gd AD)(r:R2):Prop:=
 ∀(π:List (AI×B6)) (s:AG) (σ:St) (H:Hp) (x y:V) (v u:AD) (Q:VK),Inv X π σ H s->RelV x v->RelV y u->r x y H Q ->
  AN (model X.prog X.w) X.A (f v u) (EP X π σ Q) X.xe s
def UnR(X:Cx)(f:AD->Gd AD)(r:V->Hp->VK->Prop):Prop:=
 ∀(π:List (AI×B6)) (s:AG) (σ:St) (H:Hp) (x:V) (v:AD) (Q:VK),Inv X π σ H s->RelV x v->r x H Q ->
  AN (model X.prog X.w) X.A (f v) (EP X π σ Q) X.xe s
def yM(X:Cx)(f:AD)(r:List V->Hp->VK->Prop):Prop:=
 ∀(π:List (AI×B6)) (s:AG) (σ:St) (H:Hp) (xs:List V) (us:List AD) (Q:VK),Inv X π σ H s->Vals xs us->r xs H Q ->
  AN (model X.prog X.w) X.A (call f us) (EP X π σ Q) X.xe s
def yfP(X:Cx)(r:V->Hp->(Bool->Hp->Prop)->Prop):Prop:=
 ∀(π:List (AI×B6)) (s:AG) (σ:St) (H:Hp) (x:V) (v:AD) (Q:Bool->Hp->Prop),Inv X π σ H s->RelV x v->r x H Q ->
  AN (model X.prog X.w) X.A (truthy v) (TP X π σ Q) X.xe s
def tOp(r:R2)(ta tb:TE):TE:=λσ H Q=>ta σ H λx H1=>tb σ H1 λy H2=>r x y H2 Q
def tUn(r:V->Hp->VK->Prop)(ta:TE):TE:=λσ H Q=>ta σ H λx H1=>r x H1 Q
def rI(C:Int->Int->Prop)(g:Int->Int->V):R2:=λx y H Q=>∃i j,x=.int i/\y=.int j/\C i j/\Q (g i j) H
def rI0(g:Int->Int->V):R2:=λx y H Q=>∃i j,x=.int i/\y=.int j/\Q (g i j) H
def rU(g:Int->V):V->Hp->VK->Prop:=λx H Q=>∃i,x=.int i/\Q (g i) H
section
variable {X:Cx}{a b c:AM}{ta tb tc:TE}{pos:Bd}
def zcA(ha:PE X a ta)(hb:PE X b tb){π:List (AI×B6)}{s:AG}{σ:St}{H:Hp}{R:V->V->Hp->Prop}(I:Inv X π σ H s)
  (h:ta σ H λx H1=>tb σ H1 λy H2=>R x y H2) {Q:AD->AG->Prop} {f:AD->AD->Gd AD}
  (hf:∀v u s2 x y H2,Inv X π σ H2 s2->RelV x v->RelV y u->R x y H2->AN (model X.prog X.w) X.A (f v u) Q X.xe s2):
  AN (model X.prog X.w) X.A (eval a X.env) (λv s₁=>AN (model X.prog X.w) X.A (eval b X.env) (λu s₂=>AN (model X.prog X.w) X.A (f v u) Q X.xe s₂) X.xe s₁) X.xe s:=by
 refine thn (ha π s σ H _ I h) λv s1 kq=>?_;let⟨x,H1,I1,r1,q1⟩:=kq;refine thn (hb π s1 σ H1 _ I1 q1) λu s2 kq=>?_;let⟨y,H2,I2,r2,q2⟩:=kq;exact hf v u s2 x y H2 I2 r1 r2 q2
def zhe{op:Di}{r:R2}(ho:OpR X (binaryOp op) r)(ha:PE X a ta)(hb:PE X b tb):PE X (.BinOp a op b pos) (tOp r ta tb):=by
 intro π s σ H Q I h;exact wpAny_BinOp (zcA ha hb I h λv u s2 x y H2 I2 rx ry q=>ho π s2 σ H2 x y v u Q I2 rx ry q)
def ziU{op:UnaryOp}{r:V->Hp->VK->Prop}(ho:UnR X (unaryOp op) r)(ha:PE X a ta):PE X (.UnaryOp op a pos) (tUn r ta):=by
 intro π s σ H Q I h;exact UnaryOp_ (thn (ha π s σ H _ I h) λv s1 ⟨x,H1,I1,r1,q1⟩=>ho π s1 σ H1 x v Q I1 r1 q1)
theorem opI{f:AD->AD->Gd AD}{C:Int->Int->Prop}{g:Int->Int->Int}
  (rule:∀(i j:Int) (t u:Gh) (s:AG) (Q:AD->AG->Prop) (E:AD->AG->Prop),C i j->Q (.int (g i j) s.toks) {s with toks:=s.toks+1}->AN (model X.prog X.w) X.A (f (.int i t) (.int j u)) Q E s):
  OpR X f (rI C λi j=>.int (g i j)):=by
 intro π s σ H x y v u Q I rx ry h;let⟨i,j,rfl,rfl,hc,q⟩:=h;let⟨t,rfl⟩:=rx;let⟨t',rfl⟩:=ry;exact rule i j t t' s _ _ hc ⟨.int (g i j),H,I.tok _,⟨_,rfl⟩,q⟩
def zdT{f:AD->AD->Gd AD}{g:Int->Int->Int}
  (rule:∀(i j:Int) (t u:Gh) (s:AG) (Q:AD->AG->Prop) (E:AD->AG->Prop),Q (.int (g i j) s.toks) {s with toks:=s.toks+1}->AN (model X.prog X.w) X.A (f (.int i t) (.int j u)) Q E s):
  OpR X f (rI0 λi j=>.int (g i j)):=by
 intro π s σ H x y v u Q I rx ry h;let⟨i,j,rfl,rfl,q⟩:=h;let⟨t,rfl⟩:=rx;let⟨t',rfl⟩:=ry;exact rule i j t t' s _ _ ⟨.int (g i j),H,I.tok _,⟨_,rfl⟩,q⟩
def zcl{f:AD->AD->Gd AD}{g:Int->Int->Bool}
  (rule:∀(i j:Int) (t u:Gh) (s:AG) (Q:AD->AG->Prop) (E:AD->AG->Prop),Q (.bool (g i j)) s->AN (model X.prog X.w) X.A (f (.int i t) (.int j u)) Q E s):
  OpR X f (rI0 λi j=>.bl (g i j)):=by
 intro π s σ H x y v u Q I rx ry h;let⟨i,j,rfl,rfl,q⟩:=h;let⟨t,rfl⟩:=rx;let⟨t',rfl⟩:=ry;exact rule i j t t' s _ _ ⟨.bl (g i j),H,I,rfl,q⟩
def yey(i j:Int):Prop:=0<=j/\j<=1000000/\i.natAbs<2^64
def ycc(i j:Int):Prop:=(-(2^64)<i/\i<2^64) \/ (-(2^64)<j/\j<2^64)
theorem ycc.ok{i j:Int}(h:ycc i j):IntMulOk i j:=by
 rcases h with⟨h1,h2⟩|⟨h1,h2⟩
 .exact .of_left (intBits_le_64 h1 h2)
 .exact .of_right (intBits_le_64 h1 h2)
def zh9:OpR X (binaryOp .Add) (rI0 λi j=>.int (i+j)):=zdT λ_ _ _ _ _ _ _ q=>add_int q
def zg5:OpR X (binaryOp .Sub) (rI0 λi j=>.int (i-j)):=zdT λ_ _ _ _ _ _ _ q=>sub_int q
def zhg:OpR X (binaryOp .Mult) (rI ycc λi j=>.int (i*j)):=opI λ_ _ _ _ _ _ _ hc q=>mul_int q hc.ok
def zgM:OpR X (binaryOp .Mod) (rI (λ_ j=>0<j) λi j=>.int (i%j)):=opI λi j _ _ _ _ _ hc q=>by
 have h1:(0:Int)<j:=hc;exact mod_int' ∅ (by rw[Int.fmod_eq_emod_of_nonneg i ∅];exact q)
def zhW:OpR X (binaryOp .Pow) (rI yey λi j=>.int (i^j.toNat)):=opI λ_ _ _ _ _ _ _ hc q=>pow_int_small hc.1 hc.2.1 hc.2.2 q
theorem unI{f:AD->Gd AD}{g:Int->Int}
  (rule:∀(i:Int) (t:Gh) (s:AG) (Q:AD->AG->Prop) (E:AD->AG->Prop),Q (.int (g i) s.toks) {s with toks:=s.toks+1}->AN (model X.prog X.w) X.A (f (.int i t)) Q E s):
  UnR X f (rU λi=>.int (g i)):=by
 intro π s σ H x v Q I rx h;let⟨i,rfl,q⟩:=h;let⟨t,rfl⟩:=rx;exact rule i t s _ _ ⟨.int (g i),H,I.tok _,⟨_,rfl⟩,q⟩
def zh1:UnR X (unaryOp .USub) (rU λi=>.int (-i)):=unI λ_ _ _ _ _ q=>neg_int q
def zdC:OpR X (binaryOp .Add) (λx y H Q=>∃i k,x=.int i/\y=.bl k/\Q (.int (i+b2i k)) H):=by
 intro π s σ H x y v u Q I rx ry h;let⟨i,k,rfl,rfl,q⟩:=h;let⟨t,rfl⟩:=rx
 cases ry
 exact add_int_bool ⟨.int (i+b2i k),H,I.tok _,⟨_,rfl⟩,q⟩
end
def ye4:V->V->Bool
 |.non,.non=>AC | .non,.int _=>AC | .int _,.non=>AC | .non,.bl _=>AC | .bl _,.non=>AC | .non,.str _=>AC | .str _,.non=>AC
 |.int _,.int _=>AC | .bl _,.bl _=>AC | .str _,.str _=>AC | .byt _,.byt _=>AC
 |.int _,.str _=>AC | .str _,.int _=>AC | .bl _,.str _=>AC | .str _,.bl _=>AC
 |_,_=>AH
def rNe:R2:=λx y H Q=>ye4 x y=AC/\Q (.bl (!decide (x=y))) H
def zc4{i j:Int}:decide (V.int i=V.int j)=(i==j):=by
 rw[CB];simp
def zim{i j:Bool}:decide (V.bl i=V.bl j)=(i==j):=by
 rw[CB];simp
def zgd{i j:AR}:decide (V.str i=V.str j)=(i==j):=by
 rw[CB];simp
def zfQ{i j:Array UInt8}:decide (V.byt i=V.byt j)=(i.toList==j.toList):=by
 rw[CB]
 cases i
 cases j
 simp
section
variable {X:Cx}{a b c:AM}{ta tb tc:TE}{pos:Bd}
def zg{π:List (AI×B6)}{σ:St}{H:Hp}{s:AG}{Q:VK}{k k':Bool}(I:Inv X π σ H s)(q:Q (.bl k) H)(e:k=k'):EP X π σ Q (.bool k') s:=by
 subst e;exact⟨.bl k,H,I,rfl,q⟩
def ziI:OpR X (compareOp .NotEq) rNe:=by
 intro π s σ H x y v u Q I rx ry h;let⟨hs,q⟩:=h
 cases x with
 |non=>
  cases rx
  cases y with
  |non=>cases ry;exact Fq (zg I q (by simp))
  |bl j=>cases ry;exact Ft (zg I q (by simp))
  |int j=>let⟨t',rfl⟩:=ry;exact GA (zg I q (by simp))
  |str j=>let⟨t',rfl⟩:=ry;exact GB (zg I q (by simp))
  |_=>exact absurd (show AH=AC from hs) AQ
 |bl i=>
  cases rx
  cases y with
  |non=>cases ry;exact Fu (zg I q (by simp))
  |bl j=>cases ry;exact ne_bool (zg I q (congrArg not zim))
  |str j=>let⟨t',rfl⟩:=ry;exact Fv (zg I q (by simp))
  |_=>exact absurd (show AH=AC from hs) AQ
 |int i=>
  let⟨t,rfl⟩:=rx
  cases y with
  |non=>cases ry;exact GE (zg I q (by simp))
  |int j=>let⟨t',rfl⟩:=ry;exact ne_int (zg I q (congrArg not zc4))
  |str j=>let⟨t',rfl⟩:=ry;exact GF (zg I q (by simp))
  |_=>exact absurd (show AH=AC from hs) AQ
 |str i=>
  let⟨t,rfl⟩:=rx
  cases y with
  |non=>cases ry;exact GG (zg I q (by simp))
  |bl j=>cases ry;exact Fw (zg I q (by simp))
  |int j=>let⟨t',rfl⟩:=ry;exact GH (zg I q (by simp))
  |str j=>let⟨t',rfl⟩:=ry;exact ne_str (zg I q (congrArg not zgd))
  |_=>exact absurd (show AH=AC from hs) AQ
 |byt i=>
  let⟨t,rfl⟩:=rx
  cases y with
  |byt j=>let⟨t',rfl⟩:=ry;exact PySem.W.ne_bytes (zg I q (congrArg not zfQ))
  |_=>exact absurd (show AH=AC from hs) AQ
 |_=>cases y<;>exact absurd (show AH=AC from hs) AQ
def ziY:OpR X (compareOp .Lt) (rI0 λi j=>.bl (decide (i<j))):=zcl λ_ _ _ _ _ _ _ q=>lt_int q
def ziW:OpR X (compareOp .LtE) (rI0 λi j=>.bl (decide (i<=j))):=zcl λ_ _ _ _ _ _ _ q=>le_int q
def zi4:OpR X (compareOp .Gt) (rI0 λi j=>.bl (decide (j<i))):=zcl λ_ _ _ _ _ _ _ q=>gt_int q
def ziL:OpR X (compareOp .GtE) (rI0 λi j=>.bl (decide (j<=i))):=zcl λ_ _ _ _ _ _ _ q=>ge_int q
def zdX:OpR X (compareOp .Lt) (λx y H Q=>∃i j,x=.str i/\y=.str j/\Q (.bl (decide (i.cps.toList<j.cps.toList))) H):=by
 intro π s σ H x y v u Q I rx ry h;let⟨i,j,rfl,rfl,q⟩:=h;let⟨t,rfl⟩:=rx;let⟨t',rfl⟩:=ry;exact lt_str (zg I q rfl)
def zcZ:OpR X (compareOp .In) (λx y H Q=>∃i j,x=.str i/\y=.str j/\Q (.bl (!(Dl j i 0 j.length 1).isEmpty)) H):=by
 intro π s σ H x y v u Q I rx ry h;let⟨i,j,rfl,rfl,q⟩:=h;let⟨t,rfl⟩:=rx;let⟨t',rfl⟩:=ry;exact in_str (zg I q rfl)
def zf9{op:Eh}{r:R2}(ho:OpR X (compareOp op) r)(ha:PE X a ta)(hb:PE X b tb)(hm:behindInMarks op b=AH):PE X (.Compare a [op] [b] pos) (tOp r ta tb):=by
 intro π s σ H Q I h;exact wpAny_Compare1 (zcA ha hb I h λv u s2 x y H2 I2 rx ry q=>ho π s2 σ H2 x y v u Q I2 rx ry q) hm
def ybI(t:TE):TT:=λσ H Q=>t σ H λx H'=>∃k,x=.bl k/\Q k H'
def zbG{op:Eh}{r:R2}(ho:OpR X (compareOp op) r)(ha:PE X a ta)(hb:PE X b tb)(hm:behindInMarks op b=AH):PT X (.Compare a [op] [b] pos) (ybI (tOp r ta tb)):=by
 intro π s σ H Q I h;refine wpAny_isTrue_Compare1 (thn (ha π s σ H _ I h) λv s1 ⟨x,H1,I1,r1,q1⟩=>thn (hb π s1 σ H1 _ I1 q1) λu s2 ⟨y,H2,I2,r2,q2⟩=>
  thn (ho π s2 σ H2 x y v u _ I2 r1 r2 q2) λc s3 ⟨z,H3,I3,r3,k,e,q3⟩=>?_) hm
 subst e
 cases r3
 exact BJ ⟨H3,I3,q3⟩
def ybE(r r':R2)(ta tb tc:TE):TE:=λσ H Q=>ta σ H λx H1=>tb σ H1 λy H2=>r x y H2 λz H3=>∃k,z=.bl k /\
 (if k=AC then tc σ H3 λw' H4=>r' y w' H4 Q else Q (.bl AH) H3)
def zeE{op op':Eh}{r r':R2}(ho:OpR X (compareOp op) r)(ho':OpR X (compareOp op') r')(ha:PE X a ta)(hb:PE X b tb)(hc:PE X c tc)
  (hm:lastMarks [op,op'] [b,c]=false:=by with_unfolding_all rfl):PE X (.Compare a [op,op'] [b,c] pos) (ybE r r' ta tb tc):=by
 intro π s σ H Q I h;refine Compare_chain (thn (ha π s σ H _ I h) λv s1 ⟨x,H1,I1,r1,q1⟩=>chain_link (thn (hb π s1 σ H1 _ I1 q1) λu s2 ⟨y,H2,I2,r2,q2⟩=>
  thn (ho π s2 σ H2 x y v u _ I2 r1 r2 q2) λd s3 ⟨z,H3,I3,r3,k,e,q3⟩=>?_)) hm
 subst e
 cases r3
 refine BJ ?_
 cases k with
 |false=>exact ite_ff ⟨.bl AH,H3,I3,rfl,q3⟩
 |true=>exact ite_tt (chain_last (thn (hc π s3 σ H3 _ I3 q3) λw' s4 ⟨z',H4,I4,r4,q4⟩=>ho' π s4 σ H4 y z' u w' Q I4 r2 r4 q4))
def zew{op op':Eh}{r r':R2}(ho:OpR X (compareOp op) r)(ho':OpR X (compareOp op') r')(ha:PE X a ta)(hb:PE X b tb)(hc:PE X c tc)
  (hm:lastMarks [op,op'] [b,c]=false:=by with_unfolding_all rfl):PT X (.Compare a [op,op'] [b,c] pos) (ybI (ybE r r' ta tb tc)):=by
 intro π s σ H Q I h;refine isTrue_chain (thn (ha π s σ H _ I h) λv s1 ⟨x,H1,I1,r1,q1⟩=>test_link (thn (hb π s1 σ H1 _ I1 q1) λu s2 ⟨y,H2,I2,r2,q2⟩=>
  thn (ho π s2 σ H2 x y v u _ I2 r1 r2 q2) λd s3 ⟨z,H3,I3,r3,k,e,q3⟩=>?_)) hm
 subst e
 cases r3
 refine BJ ?_
 cases k with
 |false=>
  let⟨k',e',q'⟩:=q3
  cases e'
  exact ite_ff ⟨H3,I3,q'⟩
 |true=>
  refine ite_tt (test_last (thn (hc π s3 σ H3 _ I3 q3) λw' s4 kq=>?_));let⟨z',H4,I4,r4,q4⟩:=kq;refine thn (ho' π s4 σ H4 y z' u w' _ I4 r2 r4 q4) λd' s5 kq=>?_;let⟨z2,H5,I5,r5,k2,e2,q5⟩:=kq;subst e2
  cases r5
  exact BJ ⟨H5,I5,q5⟩
def ydP(K:AE)(x:V)(H:Hp)(k:Bool):Prop:=
 match x with
 |.non=>k=AH
 |.bl b=>k=b
 |.int i=>k=(i != 0)
 |.str y=>y.length<=sizeLine/\k=((y.length:Int) != 0)
 |.byt y=>y.size<=sizeLine/\k=((y.size:Int) != 0)
 |.ref p=>(∃xs,SqL K H p xs/\k=!xs.isEmpty) \/ (∃xs,SqT K H p xs/\k=!xs.isEmpty) \/ ∃kvs,H p=AA (.dK kvs)/\k=!kvs.isEmpty
 |_=>False
def zcH{κ:Type}{kvs:List (κ×V)}{vs:List (κ×AD)}(r:KV kvs vs):(!vs.isEmpty)=!kvs.isEmpty:=by
 cases r<;>rfl
def zaK{xs:List V}{its:List AD}(r:Vals xs its):(!its.toArray.isEmpty)=!xs.isEmpty:=by
 cases r<;>simp
def zaC:(sizeLine:Nat)<2^63:=by rw[Av];decide
def zhQ:yfP X (λx H Q=>∃k,ydP X.K x H k/\Q k H):=by
 intro π s σ H x v Q I rx h;let⟨k,e,q⟩:=h;have hl:=zaC;have hs:sizeLine=16777216:=Av
 cases x with
 |non=>
  cases rx
  have e':k=false:=e;subst e';exact truthy_none ⟨H,I,q⟩
 |bl b=>
  cases rx
  have e':k=b:=e;subst e';exact BJ ⟨H,I,q⟩
 |int i=>
  let⟨t,rfl⟩:=rx;have e':k=(i != 0):=e;subst e';exact PySem.P.truthy_int ⟨H,I,q⟩
 |str y=>
  let⟨t,rfl⟩:=rx;obtain⟨hy,e'⟩:y.length<=sizeLine/\k=((y.length:Int) != 0):=e;subst e';exact PySem.P.truthy_str ∅ ⟨H,I.tok _,q⟩
 |byt y=>
  let⟨t,rfl⟩:=rx;obtain⟨hy,e'⟩:y.size<=sizeLine/\k=((y.size:Int) != 0):=e;subst e';exact PySem.W.truthy_bytes ∅ ⟨H,I.tok _,q⟩
 |ref p=>
  cases rx
  have e':(∃xs,SqL X.K H p xs/\k=!xs.isEmpty) \/ (∃xs,SqT X.K H p xs/\k=!xs.isEmpty) \/ ∃kvs,H p=AA (.dK kvs)/\k=!kvs.isEmpty:=e;rcases e' with⟨xs,hx,e'⟩|⟨xs,hx,e'⟩|⟨kvs,hx,e'⟩
  .subst e';let⟨its,r,pl,hz⟩:=I.list hx;have hlen:=r.length;exact wpAny_truthy_list pl.isList (by erw[AU];lia) ⟨H,I.tok _,by rw[zaK r];exact q⟩
  .subst e';let⟨its,r,pl,hz⟩:=I.tuple hx;have hlen:=r.length;exact truthy_tuple pl (by erw[AU];lia) ⟨H,I.tok _,by rw[zaK r];exact q⟩
  .subst e';obtain⟨hz,hS,vs,r,m⟩:kvs.length<=sizeLine/\(p==sysModules)=AH/\∃vs,KV kvs vs/\s.heap.DictOf (yx X.prog X.w) p vs:=I.hok p _ hx;have hlen:kvs.length=vs.length:=Bq r;exact wpAny_truthy_dict hS m ∅ ⟨H,I.tok _,by rw[zcH r];exact q⟩
 |_=>exact(show False from e).elim
def zeX(ha:PE X a ta)(he:∀whole,isTrue a X.env whole=(do let v <-whole;standAt a.pos;holding [v] (truthy v))):
  PT X a (λσ H Q=>ta σ H λx H'=>∃k,ydP X.K x H' k/\Q k H'):=by
 intro π s σ H Q I h;exact isTrue_plain (thn (ha π s σ H _ I h) λv s1 ⟨x,H1,I1,r1,q1⟩=>zhQ π s1 σ H1 x v Q I1 r1 q1) (he _)
def zcG:OpR X (binaryOp .Add) (λx y H Q=>∃i j,x=.str i/\y=.str j/\i.length+j.length<=sizeLine/\Q (.str (i++j)) H):=by
 intro π s σ H x y v u Q I rx ry h;let⟨i,j,rfl,rfl,hz,q⟩:=h;let⟨t,rfl⟩:=rx;let⟨t',rfl⟩:=ry;exact add_str (λt' tk=>⟨.str (i++j),H,I.tok _,⟨_,rfl⟩,q⟩) hz
theorem vals1{x:V}{us:List AD}(r:Vals [x] us):∃u,us=[u]/\RelV x u:=by
 cases r with
 |cons r1 r2=>cases r2;exact⟨_,rfl,r1⟩
theorem vals2{x y:V}{us:List AD}(r:Vals [x,y] us):∃u w',us=[u,w']/\RelV x u/\RelV y w':=by
 cases r with
 |cons r1 r2=>
  cases r2 with
  |cons r3 r4=>cases r4;exact⟨_,_,rfl,r1,r3⟩
def zeV:yM X (.builtin "abs") (λxs H Q=>∃i,xs=[.int i]/\Q (.int (if i<0 then -i else i)) H):=by
 intro π s σ H xs us Q I r h;let⟨i,rfl,q⟩:=h;let⟨u,rfl,t,rfl⟩:=vals1 r;exact call_abs_int λu tk=>⟨.int (if i<0 then -i else i),H,I.tok _,⟨_,rfl⟩,q⟩
def zbC:yM X (.type "int") (λxs H Q=>(∃i,xs=[.int i]/\Q (.int i) H) \/ ∃k,xs=[.bl k]/\Q (.int (if k then 1 else 0)) H):=by
 intro π s σ H xs us Q I r h;rcases h with⟨i,rfl,q⟩|⟨k,rfl,q⟩
 .let⟨u,rfl,t,rfl⟩:=vals1 r;exact call_int_int ⟨.int i,H,I,⟨_,rfl⟩,q⟩
 .let⟨u,rfl,r1⟩:=vals1 r
  cases r1
  exact call_int_bool ⟨.int (if k then 1 else 0),H,I.tok _,⟨_,rfl⟩,q⟩
end
structure ycV(h:Ah)(x dx C:AI)(mA:AR->Option AD):Prop where
 obj:h.get? x=AA (EN C dx)
 ns:h.Ns1 dx mA
 ne:dx≠x
def zc6{h:Ah}{dx:AI}{mA:AR->Option AD}(n:h.Ns1 dx mA):∃od,h.get? dx=AA od/\∀name,E3 name od=AA (mA name):=by
 let⟨o,es,ep,ho,hd,hk,_,hm⟩:=n;refine⟨o,ho,λname=>?_⟩;have e:=hm name;unfold nsFind findBy at e;rw[<-Array.find?_toList]at e;unfold E3;rw[hd];dsimp only;split
 .rename_i y q;rw[q]at e;exact congrArg AA e
 .rename_i q;rw[q]at e;have a:es.toList.any (·.refKey)=false:=by
   rw[List.any_eq_false];intro y hy;let⟨z,t,hkey⟩:=hk y (Array.mem_toList_iff.mp hy);simp[DictEntry.refKey,hkey]
  have a':¬es.toList.any (·.refKey)=true:=by rw[a];exact AQ
  rw[if_neg a'];exact congrArg AA e
theorem ycV.look{h:Ah}{x dx C:AI}{mA:AR->Option AD}(I:ycV h x dx C mA):∃od,PySem.W.InstAt h x (EN C dx) C (AA od)/\∀name,E3 name od=AA (mA name):=
 let ⟨od,ho,hl⟩:=zc6 I.ns
 ⟨od,⟨I.obj,rfl,rfl,ho⟩,hl⟩
section
variable {prog:AT}{w:A3}{A:A5}{E:AD->AG->Prop}{s:AG}{K:AE}{x dx C f:AI}{mA:AR->Option AD}{name:AR}{v:AD}
end
def ydE(f:AR)(v:V):List (AR×V)->List (AR×V)
 |[]=>[(f,v)]
 |(g,x)::r=>if g=f then(g,v)::r else(g,x)::ydE f v r
theorem yaX.some_of{v:V}{o:Option AD}(r:yaX (AA v) o):∃u,o=AA u/\RelV v u:=by
 cases o with
 |none=>exact(show False from r).elim
 |some u=>exact⟨u,rfl,r⟩
section
variable {P:AT}{w:A3}{H H':Hp}{h h':Ah}{a C dx:AI}{fs fs':List (AR×V)}
end
structure Cls(K:AE)(C:AI):Prop where
 pg:Dm K C FR=AC
 hd:FE K C=AC
 po:FF K C=AC
 sa:Ad K (.ref C) "__setattr__"=AA (AA (.builtin "object.__setattr__"))
theorem Cls.get{K:AE}{C:AI}(c:Cls K C)(f:AR):Dm K C f=true:=c.pg
def yaD(K:AE)(C:AI)(f:AR):Prop:=Ad K (.ref C) f=AA AF
structure Con(K:AE)(C:AI)(f:AR)(v:V)(u:AD):Prop where
 at_:Ad K (.ref C) f=AA (AA u)
 rel:RelV v u
 get:PySem.W.specialIn K u "__get__"=AA AF
 cp:PySem.W.copiedNames.contains f=AH
structure Meth(K:AE)(C:AI)(m:AR)(f:AI):Prop where
 at_:Ad K (.ref C) m=AA (AA (.ref f))
 fn:C5 K (.ref f)=AC
 kp:Aa K (.ref f)=AC
section
variable {X:Cx}{π:List (AI×B6)}{σ:St}{H:Hp}{s:AG}{a C dx:AI}{fs:List (AR×V)}{f:AR}{v:V}{A:A5}{E:AD->AG->Prop}
end
section
variable {X:Cx}{o e value:AM}{f:AR}{pos pos' tpos:Bd}{ta tv:TE}
end
section
variable {X:Cx}{π:List (AI×B6)}{σ:St}{H:Hp}{s:AG}{A:A5}{E:AD->AG->Prop}{Q:AD->AG->Prop}{c:AD}{b:Bool}
end
structure yao(k:Nat)(A:A5):Prop where
 hd:A.handled=AF
 dp:A.depth+3*k+5<recursionLimit
 un:A.units+16*k+200<cLine
theorem yao.mono{j k:Nat}{A:A5}(r:yao k A)(h:j<=k):yao j A:=⟨r.hd,by have:=r.dp;lia,by have:=r.un;lia⟩
theorem yao.deeper{k:Nat}{A:A5}(r:yao (k+1) A)(env:Env):yao k (A.deeper env):=
 ⟨r.hd,by have:=r.dp;show A.depth+1+3*k+5<_;lia,by have:=r.un;show A.units+3+16*k+200<_;lia⟩
theorem yao.depth{k:Nat}{A:A5}(r:yao k A):A.depth<recursionLimit:=by have:=r.dp;lia
def ycU:TA:=λ_ H Q=>Q [] H
def ybu(ta:TE)(tr:TA):TA:=λσ H Q=>ta σ H λx H1=>tr σ H1 λxs H2=>Q (x::xs) H2
section
variable {X:Cx}{e:AM}{es:List AM}{te:TE}{t:TA}{pos:Bd}
def zbf:PA X [] ycU:=λ_ _ _ _ H Q I h=>FG ⟨[],H,I,.nil,h⟩
def zn(ha:PE X e te)(hr:PA X es t)(hs:starEach (e::es) X.env=(AH,eval e X.env)::starEach es X.env:=by rfl):PA X (e::es) (ybu te t):=by
 intro pos π s σ H Q I h;rw[hs];show AN _ _ (spliced ((AH,eval e X.env)::backTo pos (starEach es X.env))) _ _ s;refine DU (thn (ha π s σ H _ I h) λu s1 kq=>?_);let⟨x,H1,I1,r1,q1⟩:=kq;exact thn (hr pos π s1 σ H1 _ I1 q1) λus s2 ⟨xs,H2,I2,r2,q2⟩=>⟨x::xs,H2,I2,.cons r1 r2,q2⟩
def yel(t:TA):TE:=λσ H Q=>t σ H λxs H1=>xs.length<=sizeLine/\∀p,H1 p=AF->Q (.ref p) (upd H1 p (.tup xs))
def yfF(t:TA):TE:=λσ H Q=>t σ H λxs H1=>xs.length<=sizeLine/\∀p,H1 p=AF->Q (.ref p) (upd H1 p (.lst xs))
def ze0{x1}(h:PA X es t):PE X (.Tuple es x1 pos) (yel t):=by
 intro π s σ H Q I hq;refine wpAny_Tuple_spliced (thn (h pos π s σ H _ I hq) λus s1 kq=>?_);let⟨xs,H1,I1,r,z,q⟩:=kq;refine ⟨by rw[<-r.length];exact z,?_⟩;have hf:H1 s1.heap.objs.size=none:=I1.hok.fresh (AS _);refine⟨.ref s1.heap.objs.size,upd H1 s1.heap.objs.size (.tup xs),I1.laid (t':=s1.toks) (λb u e=>AL _ e) (AS _) ?_,rfl,q _ hf⟩;exact⟨z,us,r,AX _ rfl⟩
def zeY(h:PA X es t):PE X (.List es pos) (yfF t):=by
 intro π s σ H Q I hq;refine wpAny_List_spliced (thn (h pos π s σ H _ I hq) λus s1 kq=>?_);let⟨xs,H1,I1,r,z,q⟩:=kq;refine ⟨by rw[<-r.length];exact z,?_⟩;have hf:H1 s1.heap.objs.size=none:=I1.hok.fresh (AS _);refine⟨.ref s1.heap.objs.size,upd H1 s1.heap.objs.size (.lst xs),I1.laid (t':=s1.toks) (λb u e=>AL _ e) (AS _) ?_,rfl,q _ hf⟩;exact⟨z,us,0,r,AX _ rfl⟩
end
abbrev Sp:=List V->Hp->VK->XK->Prop
abbrev CXT:=List Env->Hp->AG->XK->AD->AG->Prop
structure yb7(P:AT)(w:A3)(K:AE)(mg:AR->Option AD)(base:Ah)(A:A5)(outer:List Env)(s:AG)(H:Hp):Prop where
 frames:A.frames=AA outer
 mod:Mod K mg base
 bs:∀b o,base.get? b=AA o->s.heap.get? b=AA o/\H b=AF
 bsz:base.objs.size<=s.heap.objs.size
 funs:s.heap.FunFrames base outer
 frf:∀b∈frs outer,H b=AF
 hok:HOk P w H s.heap
 bare:Cu s.gens
def CE(outer:List Env)(P:AT)(w:A3)(H:Hp)(s:AG)(Q:VK)(u:AD)(s':AG):Prop:=
 ∃v H',s'.os=s.os/\Cu s'.gens/\Un (frs outer) [] H H' s.heap s'.heap/\HOk P w H' s'.heap/\RelV v u/\Q v H'
def CR(CX:CXT)(outer:List Env)(P:AT)(w:A3)(H:Hp)(s:AG)(Q:VK)(E:XK)(r:FT)(s':AG):Prop:=
 match r with
 |.ok (.ret u)=>CE outer P w H s Q u s'
 |.ok _=>False
 |.error e=>CX outer H s E e s'
structure yau(P:AT)(w:A3)(K:AE)(mg:AR->Option AD)(base:Ah)(CX:CXT)(k:Nat)(f:AI)(fd:Af)(ps:List AR)(sp:Sp):Prop where
 len:∀vs H Q E,sp vs H Q E->vs.length=ps.length
 run:∀(A:A5) (outer:List Env) (s:AG) (H:Hp) (args:Args) (us:List AD) (vs:List V) (Q:VK) (E:XK),yao k A->yb7 P w K mg base A outer s H->EA s fd args (ps.zip us)->Vals vs us->sp vs H Q E ->
  codeAny (model P w) A (.call (.ref f) args) (CR CX outer P w H s Q E) s
theorem yau.imp{P:AT}{w:A3}{K:AE}{mg:AR->Option AD}{base:Ah}{CX:CXT}{k:Nat}{f:AI}{fd:Af}{ps:List AR}{sp sp':Sp}(F:yau P w K mg base CX k f fd ps sp)
  (h:∀vs H Q E,sp' vs H Q E->sp vs H Q E):yau P w K mg base CX k f fd ps sp':=
 ⟨λvs H Q E q=>F.len vs H Q E (h _ _ _ _ q),λA outer s H args us vs Q E hr he hb hv hs=>F.run A outer s H args us vs Q E hr he hb hv (h _ _ _ _ hs)⟩
section
variable {X:Cx}{π:List (AI×B6)}{σ:St}{H:Hp}{s s':AG}
theorem Inv.env0(I:Inv X π σ H s):yb7 X.prog X.w X.K X.mg X.base X.A X.stack s H:=
 ⟨I.ok.frames,I.ok.mod,I.bs,BS I.ok.bsz I.sz,I.stack,I.stkFree,I.hok,I.bare⟩
theorem Inv.after{Q:VK}{u:AD}(I:Inv X π σ H s)(h:CE X.stack X.prog X.w H s Q u s'):EP X π σ Q u s':=by
 let⟨v,H',os,bare,un,hok,r,q⟩:=h;let⟨hh,g,d,t,os'⟩:=s';obtain rfl:os'=s.os:=os;exact⟨v,H',I.call (h':=hh) (g':=g) (d':=d) (t':=t) (ch:=[]) un hok bare (λb z=>absurd z (by simp)),r,q⟩
end
def Binds(K:AE)(fd:Af)(ps:List AR)(ds:List AD):Prop:=
 ∀(s:AG) (us:List AD),K.In s.heap->(us++ds).length=ps.length->EA s fd ⟨us,[]⟩ (ps.zip (us++ds))
theorem Binds.all{K:AE}{fd:Af}{ps:List AR}(h:∀us:List AD,us.length=ps.length->bindArgs fd ⟨us,[]⟩=pure (ps.zip us)):Binds K fd ps []:=λs us _ hl=>by
 rw[DA]at hl ⊢;exact .of_eq (h us hl)
def yct(CX:CXT)(X:Cx)(E:XK):Prop:=∀(π:List (AI×B6)) (σ:St) (H:Hp) (s:AG) (e:AD) (s':AG),Inv X π σ H s->CX X.stack H s E e s'->X.xe e s'
section
variable {X:Cx}{CX:CXT}{k:Nat}{f C:AI}{fd:Af}{ps:List AR}{sp:Sp}{dvs:List V}{ds:List AD}{E:XK}{x m:AR}{p pos apos:Bd}{e o:AM}{es:List AM}{ta:TE}{t:TA}
structure Mk(K:AE)(C f:AI):Prop where
 makes:EQ K C=AC
 init:Ad K (.ref C) "__init__"=AA (AA (.ref f))
 fn:C5 K (.ref f)=AC
 kp:Aa K (.ref C)=AC
end
def PK(X:Cx)(kws:List Bz)(t:TA):Prop:=
 ∀(pos:Bd) (π:List (AI×B6)) (s:AG) (σ:St) (H:Hp) (Q:List V->Hp->Prop),Inv X π σ H s->t σ H Q->AN (model X.prog X.w) X.A (evalAll ((backToKw pos (keywordEach kws X.env)).map (·.2))) (AP X π σ Q) X.xe s
section
variable {X:Cx}{CX:CXT}{k:Nat}{f C:AI}{fd:Af}{ps ks:List AR}{sp:Sp}{E:XK}{x m:AR}{p pos apos kpos:Bd}{e o:AM}{es:List AM}{kws:List Bz}{te ta:TE}{t tk:TA}{nm:Option AR}
def zhE:PK X [] ycU:=λ_ _ _ _ H Q I h=>wpAny_evalAll_nil ⟨[],H,I,.nil,h⟩
def zgb(ha:PE X e te)(hr:PK X kws t):PK X (⟨nm,e,kpos⟩ :: kws) (ybu te t):=by
 intro pos π s σ H Q I h;show AN _ _ (evalAll ((do let v <-eval e X.env;standAt pos;pure v)::(backToKw pos (keywordEach kws X.env)).map (·.2))) _ _ s;refine wpAny_evalAll_cons (AB (thn (ha π s σ H _ I h) λu s1 kq=>?_));let⟨x,H1,I1,r1,q1⟩:=kq;refine AB (Cv (AK ?_));exact thn (hr pos π s1 σ H1 _ I1 q1) λus s2 ⟨xs,H2,I2,r2,q2⟩=>⟨x::xs,H2,I2,.cons r1 r2,q2⟩
structure yaV(K:AE)(fd:Af)(ps ks:List AR)(g:List AD->List AD->List AD)(gV:List V->List V->List V):Prop where
 to:∀(s:AG) (us ws:List AD),K.In s.heap->(g us ws).length=ps.length->EA s fd ⟨us,ks.zip ws⟩ (ps.zip (g us ws))
 rel:∀{vs:List V} {us:List AD} {zs:List V} {ws:List AD},Vals vs us->Vals zs ws->Vals (gV vs zs) (g us ws)
variable {g:List AD->List AD->List AD}{gV:List V->List V->List V}
end
structure yX(N P:List AR)(sc:BB):Prop where
 kind:sc.kind=.function
 co:sc.isCoroutine=AH
 gen:sc.isGenerator=AH
 nd:N.Nodup
 pre:N.take P.length=P
 par:∀x∈P,sc.names.lookup x=AA .local \/ sc.names.lookup x=AA .cell
 nofree:∀y∈sc.names,y.2 ≠ .free
def zbe{kindOf:AR->Option C6}{x:AR}:∀{binds:List (AR×AD)} {m:AR->Option AD},(∀v,(x,v)∉binds)->bindL kindOf binds m x=m x
 |[],_,_=>rfl
 |(n,v)::r,m,h=>by
  unfold bindL;rw[zbe λw hw=>h w (AZ _ hw)];split
  .have:x≠n:=by rintro rfl;exact h v Ai
   simp[this]
  .rfl
def zbw{kindOf:AR->Option C6}{x:AR}:∀{binds:List (AR×AD)} {m:AR->Option AD},(∀v,(x,v)∉binds)->bindC kindOf binds m x=m x
 |[],_,_=>rfl
 |(n,v)::r,m,h=>by
  unfold bindC;rw[zbw λw hw=>h w (AZ _ hw)];split
  .rfl
  .have:x≠n:=by rintro rfl;exact h v Ai
   simp[this]
def zbx{kindOf:AR->Option C6}{x:AR}{v:AD}:∀{P:List AR} {vs:List AD} {i:Nat} {m:AR->Option AD},P.Nodup->P[i]?=AA x->vs[i]?=AA v->kindOf x=AA .local ->
  bindL kindOf (P.zip vs) m x=AA v
 |[],_,_,_,_,h,_,_=>by simp at h
 |_::_,[],_,_,_,_,h,_=>by simp at h
 |p::P,w::vs,0,m,nd,h1,h2,hk=>by
  simp at h1 h2;subst h1;subst h2;show bindL kindOf ((p,w)::P.zip vs) m p=_;unfold bindL;rw[zbe λv hv=>(CU.mp nd).1 (DB hv).1,if_pos hk];simp
 |p::P,w::vs,i+1,m,nd,h1,h2,hk=>by
  show bindL kindOf ((p,w)::P.zip vs) m x=_;unfold bindL;exact zbx (i:=i) (CU.mp nd).2 (by simpa using h1) (by simpa using h2) hk
def zbb{kindOf:AR->Option C6}{x:AR}{v:AD}:∀{P:List AR} {vs:List AD} {i:Nat} {m:AR->Option AD},P.Nodup->P[i]?=AA x->vs[i]?=AA v->kindOf x≠AA .local ->
  bindC kindOf (P.zip vs) m x=AA v
 |[],_,_,_,_,h,_,_=>by simp at h
 |_::_,[],_,_,_,_,h,_=>by simp at h
 |p::P,w::vs,0,m,nd,h1,h2,hk=>by
  simp at h1 h2;subst h1;subst h2;show bindC kindOf ((p,w)::P.zip vs) m p=_;unfold bindC;rw[zbw λv hv=>(CU.mp nd).1 (DB hv).1,if_neg hk];simp
 |p::P,w::vs,i+1,m,nd,h1,h2,hk=>by
  show bindC kindOf ((p,w)::P.zip vs) m x=_;unfold bindC;exact zbb (i:=i) (CU.mp nd).2 (by simpa using h1) (by simpa using h2) hk
def start(N:List AR)(vs:List V):St:=vs.map AA++Aj (N.length-vs.length) AF
def yag(CX:CXT)(P:AT)(w:A3)(K:AE)(mg:AR->Option AD)(base:Ah)(N:List AR)(qual:AR)(scope:BB)(f:AI)(cd:AD)(A:A5)(outer:List Env)(s:AG)(H:Hp)(E:XK):Cx where
 prog:=P
 w:=w
 K:=K
 mg:=mg
 base:=base
 A:=A.deeper (envOfC qual scope s.heap.objs.size f cd)
 N:=N
 s₀:=s
 H₀:=H
 env:=envOfC qual scope s.heap.objs.size f cd
 outer:=outer
 stack:=envOfC qual scope s.heap.objs.size f cd::outer
 ex:=[]
 calm:=AC
 fn:=λ_=>AC
 pn:=[]
 xe:=λe s'=>AN (model P w) (A.deeper (envOfC qual scope s.heap.objs.size f cd)) («leaving» (envOfC qual scope s.heap.objs.size f cd) e) (λ_ s''=>CX outer H s E e s'') (λe' s''=>CX outer H s E e' s'') s'
def zca{sc:BB}{n:Nat}{x:AR}(h:sc.names.lookup x=AA .cell):∃c,(cellsFrom n sc.names []).lookup x=AA c:=by
 have q:=C7 sc.names n [] (.inl h);exact A1.mp q
def zbp{CX:CXT}{P:AT}{w:A3}{K:AE}{mg:AR->Option AD}{base:Ah}{N ps:List AR}{qual:AR}{scope:BB}{f:AI}{cd:AD}{A:A5}{outer:List Env}{s s1:AG}{H:Hp}{E:XK}{us:List AD}{vs:List V}
  (S:yX N ps scope) (hd:A.handled=AF) (e0:yb7 P w K mg base A outer s H) (hl:vs.length=ps.length) (r:Vals vs us)
  (x:InCallC s s.heap.objs.size (bindL (envOfC qual scope s.heap.objs.size f cd).kindOf (ps.zip us) λ_=>AF) (cellsFrom (s.heap.objs.size+1) scope.names []) (bindC (envOfC qual scope s.heap.objs.size f cd).kindOf (ps.zip us) λ_=>AF) s1):
  Inv (yag CX P w K mg base N qual scope f cd A outer s H E) [] (start N vs) H s1:=by
 have hpl:ps.length<=N.length:=by have:=congrArg B4 S.pre;rw[Dn]at this;lia
 let⟨h1,tk,rfl,hk⟩:=x.done;have noA:∀b:AI,b∉(yag CX P w K mg base N qual scope f cd A outer s H E).ex:=λb z=>absurd (show b∈([]:List AI)from z) (by simp);refine⟨⟨e0.mod,S.kind,rfl,rfl,AS _,λy z c h1 h2=>?_,λy hy=>?_,λy c _ h=>?_,λ_=>hd,Around.frames_deeper e0.frames,.inr ⟨rfl,rfl⟩,λb z=>absurd z (noA b),e0.bs,e0.bsz,λb _ _=>noA b,λb z=>absurd z (noA b),e0.funs,e0.frf⟩,
  rfl,e0.bare,Un.kept hk,⟨_,x.toInCall.ns,λi y v h1 h2 h3=>?_⟩,λy c h=>⟨_,x.cell y c h⟩,e0.hok.fresh (AS _),λy c h=>?_,λp hp=>absurd (show p∈([]:List (AI×B6))from hp) (by simp),e0.hok.kept hk,?_⟩
 .exact name_of_addr x.apart (Bv h1) (Bv h2)
 .have hy:scope.names.lookup y=AA .cell \/ scope.names.lookup y=AA .free:=hy;rcases hy with hy|hy
  .exact zca hy
  .exact absurd rfl (S.nofree _ (Bv hy))
 .exact FA (x.above y c (Bv h))
 .have hi:i<vs.length:=by
   unfold start at h2
   by_cases hi:i<vs.length
   .exact hi
   .rw[Ab (by simpa using hi)]at h2;rw[Do]at h2;split at h2<;>cases h2
  have ha:vs[i]?=AA v:=by
   unfold start at h2;rw[A7 (by simpa using hi),BA]at h2
   cases e:vs[i]? with
   |none=>rw[e]at h2;cases h2
   |some a=>rw[e]at h2;cases h2;rfl
  let⟨u,hu,rv⟩:=r.get ha;have hp:ps[i]?=AA y:=by
   rw[<-S.pre,List.getElem?_take_of_lt ∅];exact h1
  have ndP:ps.Nodup:=by rw[<-S.pre];exact S.nd.sublist (List.take_sublist _ _)
  refine⟨u,rv,?_⟩;rcases S.par y (AV hp)with k|k
  .exact .inl ⟨k,zbx ndP hp hu k⟩
  .let⟨c,e⟩:=zca (n:=s.heap.objs.size+1) k;refine .inr ⟨.inl k,c,e,?_⟩;have q:=x.cell y c e;rw[zbb ndP hp hu (by show scope.names.lookup y≠_;rw[k];decide)]at q;exact q
 .exact e0.hok.fresh (FA (x.above y c (Bv h)))
 .unfold start;show _=N.length;rw[BX,BN,List.length_replicate];lia
def ziM{CX:CXT}{P:AT}{w:A3}{K:AE}{mg:AR->Option AD}{base:Ah}{k:Nat}{f:AI}{name qual:AR}{params:Arguments}{body:List Bb}{scope:BB}{dV kV doc pm cdv ct oc:AD}{an od:Option AI}
  {osl:Array (Option AD)} {N ps:List AR} {sp:Sp} (lk:K.lookup f=AA ⟨oc,od,.func (BG name qual params body scope dV kV doc pm an cdv ct),osl⟩) (hcd:Bf K cdv qual=AC) (S:yX N ps scope)
  (len:∀vs H Q E,sp vs H Q E->vs.length=ps.length)
  (hbody:∀(A:A5) (outer:List Env) (s:AG) (H:Hp) (vs:List V) (Q:VK) (E:XK),yao k (A.deeper (envOfC qual scope s.heap.objs.size f cdv))->sp vs H Q E ->
   ∃t,PSs (yag CX P w K mg base N qual scope f cdv A outer s H E) body t/\t {nx:=λ_ H'=>Q .non H',rt:=Q} (start N vs) H):
  yau P w K mg base CX (k+1) f (BG name qual params body scope dV kV doc pm an cdv ct) ps sp:=by
 refine⟨len,λA outer s H args us vs Q E hr e0 hb r hsp=>?_⟩;have hl:=len _ _ _ _ hsp;have KX:K.In s.heap:=e0.mod.kin.keeps λb o e=>(e0.bs b o e).1;have lim:s.heap.NoLimit:=e0.mod.nolimit.keeps λb o e=>(e0.bs b o e).1;have hkind:∀y∈ps.zip us,scope.names.lookup y.1=AA .local \/ (scope.names.lookup y.1=AA .cell/\((cellsFrom (s.heap.objs.size+1) scope.names []).lookup y.1).isSome=AC):=λ⟨n,v⟩ hy=>by
  rcases S.par n (DB hy).1 with q|q
  .exact .inl q
  .exact .inr ⟨q,C7 _ _ _ (.inl q)⟩
 refine EU hr.depth (KX _ _ lk) rfl S.co S.gen rfl (Eu KX hcd) (hb _ _ _ _ ?_);refine DV S.kind hkind λenv he s1 x=>?_;subst he;refine⟨lim.keeps x.toInCall.keep,codeAny_func ?_⟩;let⟨t,ht,hq⟩:=hbody A outer s H vs Q E (hr.deeper _) hsp;have I:Inv (yag CX P w K mg base N qual scope f cdv A outer s H E) [] (start N vs) H s1:=zbp S hr.hd e0 hl r x;refine BW (ht [] s1 (start N vs) H _ I hq) (λfl s' hs=>?_) λe s' hs=>hs;have fin:∀{σ':St} {H':Hp} {v:V} {u:AD},Inv (yag CX P w K mg base N qual scope f cdv A outer s H E) [] σ' H' s'->RelV v u->Q v H'->CE outer P w H s Q u s':=
  λ{σ' H' v u} J rv q=>⟨v,H',J.os,J.bare,J.base,J.hok,rv,q⟩
 cases fl with
 |ret u=>
  let⟨v,σ',H',J,rv,q⟩:=hs;exact fin J rv q
 |next=>
  let⟨σ',H',J,q⟩:=hs;exact fin (v:=V.non) (u:=BI) J rfl q
 |brk=>
  let⟨_,_,_,q⟩:=hs;exact BY q
 |cont=>
  let⟨_,_,_,q⟩:=hs;exact BY q
section
variable {X:Cx}{x:AR}{p pos:Bd}{e:AM}{es:List AM}{t:TA}{id T:String}{r:List V->Hp->VK->Prop}
def tCB(r:List V->Hp->VK->Prop)(t:TA):TE:=λσ H Q=>t σ H λvs H1=>r vs H1 Q
def za4(hc:yM X (.builtin id) r)(hg:Gl X x)(hm:X.mg x=AF)(hv:bootBuiltins x=AA (.builtin id))(ha:PA X (e::es) t)(hn:x ≠ "__name__":=by decide)(hdb:(x==("__debug__":AR))=false:=by decide)
  (he:starEach (e::es) X.env=(AH,eval e X.env)::starEach es X.env:=by rfl) (hpl:(backTo pos (starEach es X.env)).any (·.1)=false:=by rfl):PE X (.Call (.Name x p) (e::es) [] pos) (tCB r t):=by
 intro π s σ H Q I h;refine Bg (zbB I hg hm hv ?_ hn hdb);exact FU (thn (ha pos π s σ H _ I h) λus s1 ⟨vs,H1,I1,r1,q1⟩=>hc π s1 σ H1 vs us Q I1 r1 q1) he hpl
def zam(hc:yM X (.type T) r)(hg:Gl X x)(hm:X.mg x=AF)(hv:bootBuiltins x=AA (.type T))(ha:PA X (e::es) t)(hn:x ≠ "__name__":=by decide)(hdb:(x==("__debug__":AR))=false:=by decide)
  (he:starEach (e::es) X.env=(AH,eval e X.env)::starEach es X.env:=by rfl) (hpl:(backTo pos (starEach es X.env)).any (·.1)=false:=by rfl):PE X (.Call (.Name x p) (e::es) [] pos) (tCB r t):=by
 intro π s σ H Q I h;refine Bg (zbB I hg hm hv ?_ hn hdb);exact CF (thn (ha pos π s σ H _ I h) λus s1 ⟨vs,H1,I1,r1,q1⟩=>hc π s1 σ H1 vs us Q I1 r1 q1) he hpl
end
end L2
namespace HT
open PySem PyProof.Rows
section
open PySem.SeqAt
open PySem.AutoSeq1 (wpAny_loadPart')
open PySem.MeetsSeq PySem.MeetsSeq2 PySem.MeetsSeq3
end
section
variable {prog:AT}{w:A3}{A:A5}{E:AD->AG->Prop}{s:AG}
theorem cat_tup{t b:AI}{vs ws:List AD}{Q:AD->AG->Prop}(ht:IsTup s.heap t vs.toArray)(hb:IsTup s.heap b ws.toArray)(hv:vs≠[])
  (h1:ws=[]->Q (.ref t) s) (h2:ws≠[]->Q (.ref s.heap.objs.size) {s with heap:=s.heap.push {cls:=.type "tuple",data:=.seq (vs++ws).toArray} })
  (hsz:vs.length+ws.length<=sizeLine):AN (model prog w) A (binaryOp .Add (.ref t) (.ref b)) Q E s:=by
 let⟨⟨cls,dd,data,sl⟩,ho,hc,n,hd⟩:=id ht;let⟨⟨cls2,dd2,data2,sl2⟩,ho2,hc2,n2,hd2⟩:=id hb;simp only at hc hd hc2 hd2;subst hc hd hc2 hd2;have e:vs.toArray++ws.toArray=(vs++ws).toArray:=by simp
 by_cases hw:ws=[]
 .exact FH ⟨_,ho,rfl⟩ ⟨_,ho2,rfl⟩ Dp Ei C8 C2 (CP _ _)
   (tuple_addW1 t b vs.toArray ws.toArray n n2 dd dd2 sl sl2 (by simpa using hv) (by simp[hw])) ⟨ho,ho2,h1 hw⟩
 .refine FH ⟨_,ho,rfl⟩ ⟨_,ho2,rfl⟩ Dp Ei C8 C2 (CP _ _)
   (tuple_addW2 t b vs.toArray ws.toArray n n2 dd dd2 sl sl2 (by simpa using hv) (by simpa using hw) (by rw[AU,AU];exact hsz)) ⟨ho,ho2,?_⟩
  rw[e];exact h2 hw
def sIx(n d:Nat):Option Int->Nat
 |none=>d
 |some v=>if v<0 then(v+(n:Int)).toNat else min v.toNat n
theorem sIx_le(n d:Nat)(hd:d<=n)(o:Option Int):sIx n d o<=n:=by
 cases o with
 |none=>exact hd
 |some v=>
  show (if v<0 then(v+(n:Int)).toNat else min v.toNat n)<=n
  by_cases hv:v<0
  .rw[if_pos hv];lia
  .rw[if_neg hv];exact Nat.min_le_right _ _
def zc8(v:Int)(n d:Nat):(if v<0 then max (v+(n:Int)) 0 else min v (n:Int))=((sIx n d (AA v):Nat):Int):=by
 show (if v<0 then max (v+(n:Int)) 0 else min v (n:Int))=(((if v<0 then(v+(n:Int)).toNat else min v.toNat n):Nat):Int)
 by_cases hv:v<0
 .simp only[if_pos hv];lia
 .simp only[if_neg hv];lia
def zcL(lo hi:Option Int)(n:Nat):CM lo hi 1 (n:Int)=(((sIx n 0 lo:Nat):Int),((sIx n n hi:Nat):Int)):=by
 have h1:¬((1:Int)<0):=by lia
 unfold CM;erw[h1,if_false];refine Prod.ext ?_ ?_
 .cases lo with
  |none=>rfl
  |some v=>exact zc8 v n 0
 .cases hi with
  |none=>rfl
  |some v=>exact zc8 v n n
def zcB(i j:Nat):Bk (i:Int) (j:Int) 1=j-i:=by
 unfold Bk;have h1:(1:Int) > 0:=by lia
 erw[h1,if_true,Int.ediv_one];split<;>lia
def zaP{v:AD}{o:Option Int}{Q:Option Int->AG->Prop}(p:EB v o)(h:Q o s):AN (model prog w) A (F4 v) Q E s:=by
 cases p with
 |none=>exact slicePart_none h
 |int i t=>exact slicePart_int h
theorem sliceApplied_gen{sl:AI}{vl vu:AD}{lo hi:Option Int}{n:Nat}{Q:Int×Int×Nat->AG->Prop}(hs:s.heap.IsSliceOf sl vl vu .none)(pl:EB vl lo)(pu:EB vu hi)
  (h:Q (((sIx n 0 lo:Nat):Int),1,sIx n n hi-sIx n 0 lo) s):AN (model prog w) A (DW (.ref sl) (pure (n:Int))) Q E s:=by
 let⟨os,hos,hcs,hds⟩:=id hs;unfold DW Fx;refine AB (AB (Bw hos hds (x:=vl) rfl (AB (Bw hos hds (x:=vu) rfl (AB (Bw hos hds (x:=.none) rfl (AK ?_)))))));refine AB (slicePart_none ?_);show AN _ _ (if ((1:Int)==0)=AC then _ else _) _ _ s;rw[if_neg ⋯];refine AB (zaP pl (AB (zaP pu (AB (AK ?_)))));show AN _ _ (match CM lo hi 1 (n:Int)with|(lo,hi)=>pure (lo,(1:Int),Bk lo hi 1)) _ _ s;rw[zcL lo hi n];show AN _ _ (pure (((sIx n 0 lo:Nat):Int),(1:Int),Bk ((sIx n 0 lo:Nat):Int) ((sIx n n hi:Nat):Int) 1)) _ _ s;rw[zcB];exact AK h
def zel(xs:Array AD)(i k:Nat):((Dw k).filterMap λ(m:Nat)=>xs[((i:Int)+(m:Int)*1).toNat]?).toArray=((xs.toList.drop i).take k).toArray:=by
 have e:(λ(m:Nat)=>xs[((i:Int)+(m:Int)*1).toNat]?)=λm=>xs[i+m]?:=by
  funext m
  have:((i:Int)+(m:Int)*1).toNat=i+m:=by lia
  rw[this]
 rw[e];have:=pick_run xs i k;rw[List.filterMap_map]at this;have e2:((λx=>xs[x]?) ∘ λx=>i+x)=λm=>xs[i+m]?:=rfl;rw[e2]at this;rw[this]
theorem getItem_tuple_cut{t sl:AI}{items:Array AD}{vl vu:AD}{lo hi:Option Int}{Q:AD->AG->Prop}(ht:IsTup s.heap t items)(hs:s.heap.IsSliceOf sl vl vu .none)(pl:EB vl lo)(pu:EB vu hi)
  (hw:¬(sIx items.size 0 lo=0/\sIx items.size items.size hi=items.size))
  (h:Q (.ref s.heap.objs.size) {s with heap:=s.heap.push {cls:=.type "tuple",data:=.seq ((items.toList.drop (sIx items.size 0 lo)).take (sIx items.size items.size hi-sIx items.size 0 lo)).toArray} })
  (hsz:items.size<=sizeLine):AN (model prog w) A (getItem (.ref t) (.ref sl)) Q E s:=by
 have htake:sizeOk (.seq ((items.toList.drop (sIx items.size 0 lo)).take (sIx items.size items.size hi-sIx items.size 0 lo)).toArray):=by
  show ((items.toList.drop (sIx items.size 0 lo)).take (sIx items.size items.size hi-sIx items.size 0 lo)).toArray.size<=sizeLine;rw[AU,Dn,Dq,DG];lia
 have hj:sIx items.size items.size hi<=items.size:=sIx_le _ _ (AS _) hi;let⟨os,hos,hcs,hds⟩:=id hs;have hTs:s.TypeIs (.ref sl) "slice":=⟨os,hos,hcs⟩;unfold getItem
 try with_reducible refine BD ?_
 first|refine AB (AK ?_)|skip
 refine AB (FI ht.typeIs ⋯ ?_);refine AB (BO (name:=Ar "__getitem__") ht.typeIs Ak
  (BH Ak ht.typeIs Ed ?_ (Ew _ _)))
 show AN _ _ (CG (.ref t) >>= _) _ _ s;refine AB (Ea ht ?_);refine AB (DI hTs ?_);rw[if_pos ⋯];refine AB (sliceApplied_gen hs pl pu ?_);have hno:¬((((sIx items.size 0 lo:Nat):Int)==0&&(1:Int)==1&&(sIx items.size items.size hi-sIx items.size 0 lo)==items.size)=AC):=by
  intro q;rw[AJ,AJ]at q;have q1:((sIx items.size 0 lo:Nat):Int)=0:=eq_of_beq q.1.1;have q2:sIx items.size items.size hi-sIx items.size 0 lo=items.size:=eq_of_beq q.2;exact hw ⟨by lia,by lia⟩
 show AN _ _ (if (((sIx items.size 0 lo:Nat):Int)==0&&(1:Int)==1&&(sIx items.size items.size hi-sIx items.size 0 lo)==items.size)=AC then _ else _) _ _ s;rw[if_neg hno,zel]
 first
  |exact AB (m:=Bs _) (Au (AK ⟨_,rfl,AK h⟩) htake)
  |exact AB (m:=Bs _) (Au (AB (AK (AK ⟨_,rfl,AK h⟩))) htake)
  |exact AB (AB (m:=Bs _) (Au (AK (AK ⟨_,rfl,AK h⟩)) htake))
  |exact AB (AB (m:=Bs _) (Au (AK ⟨_,rfl,AK h⟩) htake))
end
end HT
namespace L2
open PySem PySem.Spec PyProof.Rows
abbrev TO:=St->Hp->(Option Int->Hp->Prop)->Prop
def PO(X:Cx)(e:Option AM)(t:TO):Prop:=
 ∀(π:List (AI×B6)) (s:AG) (σ:St) (H:Hp) (Q:Option Int->Hp->Prop),Inv X π σ H s->t σ H Q ->
  AN (model X.prog X.w) X.A (evalPart e X.env) (λu s'=>∃o H',Inv X π σ H' s'/\EB u o/\Q o H') X.xe s
def ybO:TO:=λ_ H Q=>Q AF H
section
variable {X:Cx}{e:AM}{te:TE}{lo hi:Option AM}{tl th:TO}{pos p2:Bd}
def zfP:PO X AF ybO:=by
 intro π s σ H Q I h;rw[evalPart_none];exact AK ⟨AF,H,I,.none,h⟩
def SlR(X:Cx)(r:V->Option Int->Option Int->Hp->VK->Prop):Prop:=
 ∀(π:List (AI×B6)) (s:AG) (σ:St) (H:Hp) (x:V) (v vl vu:AD) (lo hi:Option Int) (sl:AI) (Q:VK),Inv X π σ H s->RelV x v->s.heap.IsSliceOf sl vl vu .none->EB vl lo->EB vu hi->r x lo hi H Q ->
  ∃T id,typeLookup (.type T) "__getitem__"=pure (AA (.builtin id))/\s.TypeIs v T/\AN (model X.prog X.w) X.A (getItem v (.ref sl)) (EP X π σ Q) X.xe s
def tSl(r:V->Option Int->Option Int->Hp->VK->Prop)(te:TE)(tl th:TO):TE:=λσ H Q=>te σ H λx H1=>tl σ H1 λl H2=>th σ H2 λu H3=>r x l u H3 Q
def zen{r:V->Option Int->Option Int->Hp->VK->Prop}(hr:SlR X r)(he:PE X e te)(hl:PO X lo tl)(hu:PO X hi th):PE X (.Subscript e (.Slice lo hi AF p2) pos) (tSl r te tl th):=by
 intro π s σ H Q I h;refine Fg (thn (he π s σ H _ I h) λv s1 kq=>?_);let⟨x,H1,I1,r1,q1⟩:=kq;refine wpAny_Slice (thn (hl π s1 σ H1 _ I1 q1) λvl s2 kq=>?_);let⟨l,H2,I2,pl,q2⟩:=kq;refine thn (hu π s2 σ H2 _ I2 q2) λvu s3 kq=>?_;let⟨u,H3,I3,pu,q3⟩:=kq;rw[evalPart_none];refine AK ?_;have I4:Inv X π σ H3 {s3 with heap:=s3.heap.push {cls:=.type "slice",data:=.fields #[vl,vu,.none]} }:=I3.kept (t':=s3.toks) λb ob q=>AL _ q;let⟨T,id,hT,ht,hg⟩:=hr π {s3 with heap:=s3.heap.push {cls:=.type "slice",data:=.fields #[vl,vu,.none]} } σ H3 x v vl vu l u s3.heap.objs.size Q I4 r1 (Ge ..) pl pu q3;show AN (model X.prog X.w) X.A (subscriptTail e (.Slice lo hi AF p2) v (.ref s3.heap.objs.size)) (EP X π σ Q) X.xe {s3 with heap:=s3.heap.push {cls:=.type "slice",data:=.fields #[vl,vu,.none]} };exact tail_any (ops:=[.ref s3.heap.objs.size,v]) ht hT hg (by with_unfolding_all rfl)
def ybx(xs:List V)(lo hi:Option Int):List V:=(xs.drop (HT.sIx xs.length 0 lo)).take (HT.sIx xs.length xs.length hi-HT.sIx xs.length 0 lo)
def zaw(xs:List V)(lo hi:Option Int):(ybx xs lo hi).length<=xs.length:=by
 unfold ybx;rw[Dn,Dq];lia
def yf1(K:AE):V->Option Int->Option Int->Hp->VK->Prop:=λx lo hi H Q=>∃a xs,x=.ref a/\SqT K H a xs /\
 ¬(HT.sIx xs.length 0 lo=0/\HT.sIx xs.length xs.length hi=xs.length)/\∀p,H p=AF->Q (.ref p) (upd H p (.tup (ybx xs lo hi)))
def ziy:SlR X (yf1 X.K):=by
 intro π s σ H x v vl vu lo hi sl Q I rx hs pl pu h;let⟨a,xs,rfl,hx,hw,q⟩:=h
 cases rx
 let⟨its,r,ht,hz⟩:=I.tuple hx;have hlen:its.toArray.size=xs.length:=by rw[AU];exact r.length.symm
 refine⟨"tuple",_,Ak.lookup,ht.typeIs,?_⟩;refine HT.getItem_tuple_cut ht hs pl pu (by rw[hlen];exact hw) ?_ (by rw[hlen];exact hz);rw[hlen];refine⟨.ref s.heap.objs.size,_,I.laid (t':=s.toks) (o:=.tup (ybx xs lo hi)) (λb ob q=>AL _ q) (AS _) ?_,rfl,q _ (I.hok.fresh (AS _))⟩;exact⟨BS (zaw xs lo hi) hz,_,(r.drop (HT.sIx xs.length 0 lo)).take (HT.sIx xs.length xs.length hi-HT.sIx xs.length 0 lo),AX _ rfl⟩
def ydz(K:AE):R2:=λx y H Q=>∃a b xs ys,x=.ref a/\y=.ref b/\SqT K H a xs/\SqT K H b ys/\xs≠[]/\xs.length+ys.length<=sizeLine /\
 (ys=[]->Q (.ref a) H)/\(ys≠[]->∀p,H p=AF->Q (.ref p) (upd H p (.tup (xs++ys))))
theorem Vals.nil_iff{xs:List V}{us:List AD}(r:Vals xs us):us=[] ↔ xs=[]:=by
 cases r with
 |nil=>simp
 |cons _ _=>simp
def zgr:OpR X (binaryOp .Add) (ydz X.K):=by
 intro π s σ H x y v u Q I rx ry h;let⟨a,b,xs,ys,rfl,rfl,ha,hb,hx,hz,q1,q2⟩:=h
 cases rx
 cases ry
 let⟨its,r1,p1,_⟩:=I.tuple ha;let⟨its2,r2,p2,_⟩:=I.tuple hb;refine HT.cat_tup p1 p2 (λz=>hx (r1.nil_iff.mp z)) (λz=>⟨.ref a,H,I,rfl,q1 (r2.nil_iff.mp z)⟩) (λz=>?_) (by rw[<-r1.length,<-r2.length];exact hz);refine⟨.ref s.heap.objs.size,_,I.laid (t':=s.toks) (o:=.tup (xs++ys)) (λb ob q=>AL _ q) (AS _) ?_,rfl,q2 (λw=>z (r2.nil_iff.mpr w)) _ (I.hok.fresh (AS _))⟩;exact⟨by rw[BX];exact hz,_,r1.append r2,AX _ rfl⟩
end
def ixN(n:Nat)(i:Int):Option Nat:=if 0<=i then(if i<n then AA i.toNat else AF)else if -(n:Int)<=i then AA (i+n).toNat else AF
def atI{α:Type}(xs:List α)(i:Int):Option α:=(ixN xs.length i).bind λj=>xs[j]?
def zcS{n:Nat}{i:Int}{j:Nat}(h:ixN n i=AA j):seqIndex? i n=AA j/\j<n/\-(n:Int)<=i/\i<n:=by
 unfold ixN at h
 by_cases h0:0<=i
 .rw[if_pos h0]at h
  by_cases h1:i<n
  .rw[if_pos h1]at h;have e:i.toNat=j:=AW h;exact⟨by rw[F0 h0 h1,e],by lia,by lia,h1⟩
  .rw[if_neg h1]at h;cases h
 .rw[if_neg h0]at h
  by_cases h1:-(n:Int)<=i
  .rw[if_pos h1]at h;have e:(i+n).toNat=j:=AW h;exact⟨by rw[seqIndex_neg ∅ h1,e],by lia,h1,by lia⟩
  .rw[if_neg h1]at h;cases h
def zbZ{α:Type}{xs:List α}{i:Int}{v:α}(h:atI xs i=AA v):∃j,seqIndex? i xs.length=AA j/\xs[j]?=AA v/\j<xs.length/\-(xs.length:Int)<=i/\i<xs.length:=by
 unfold atI at h
 cases e:ixN xs.length i with
 |none=>rw[e]at h;cases h
 |some j=>
  rw[e]at h;let⟨h1,h2,h3,h4⟩:=zcS e;exact⟨j,h1,h,h2,h3,h4⟩
def yaL(b:AM):Prop:=∀o i,subscripted b AH o i=operate [o,i] (getItem o i)
def IxR(X:Cx)(r:R2):Prop:=
 ∀(value slice:AM) (π:List (AI×B6)) (s:AG) (σ:St) (H:Hp) (x y:V) (v u:AD) (Q:VK),Inv X π σ H s->RelV x v->RelV y u->r x y H Q ->
  subscripted slice AH v u=operate [v,u] (getItem v u)->AN (model X.prog X.w) X.A (subscriptTail value slice v u) (EP X π σ Q) X.xe s
def MtR(X:Cx)(id:String)(r:V->List V->Hp->VK->Prop):Prop:=
 ∀(π:List (AI×B6)) (s:AG) (σ:St) (H:Hp) (x:V) (xs:List V) (v:AD) (us:List AD) (Q:VK),Inv X π σ H s->RelV x v->Vals xs us->r x xs H Q ->
  AN (model X.prog X.w) X.A (call (.builtin id) (v::us)) (EP X π σ Q) X.xe s
section
variable {X:Cx}{a b:AM}{ta tb:TE}{pos:Bd}
theorem IxR.or{r r':R2}(h:IxR X r)(h':IxR X r'):IxR X (λx y H Q=>r x y H Q \/ r' x y H Q):=by
 intro value slice π s σ H x y v u Q I rx ry q hs;rcases q with q|q
 .exact h value slice π s σ H x y v u Q I rx ry q hs
 .exact h' value slice π s σ H x y v u Q I rx ry q hs
def ziP{r:R2}(hr:IxR X r)(ha:PE X a ta)(hb:PE X b tb)(hs:yaL b):PE X (.Subscript a b pos) (tOp r ta tb):=by
 intro π s σ H Q I h;exact Fg (zcA ha hb I h λv u s2 x y H2 I2 rx ry q=>hr a b π s2 σ H2 x y v u Q I2 rx ry q (hs _ _))
def yd9(K:AE):R2:=λx y H Q=>∃p xs i v,x=.ref p/\y=.int i/\SqL K H p xs/\atI xs i=AA v/\Q v H
def yeB(K:AE):R2:=λx y H Q=>∃p xs i v,x=.ref p/\y=.int i/\SqT K H p xs/\atI xs i=AA v/\Q v H
def yee:R2:=λx y H Q=>∃z i c,x=.str z/\y=.int i/\z.length<=sizeLine/\atI z.cps.toList i=AA c/\Q (.str ⟨#[c]⟩) H
def zhG:IxR X (yd9 X.K):=by
 intro value slice π s σ H x y v u Q I rx ry h hs;let⟨p,xs,i,z,rfl,rfl,hq,he,q⟩:=h
 cases rx
 let⟨t,rfl⟩:=ry;let⟨its,r,pl,hz⟩:=I.list hq;let⟨j,h1,h2,h3,h4,h5⟩:=zbZ he;let⟨w,ew,rw'⟩:=r.get h2;have hl:=r.length;have hn:=zaC;have fin:EP X π σ Q w s:=⟨z,H,I,rw',q⟩
 by_cases h0:0<=i
 .have hj:i.toNat=j:=by
   rw[F0 h0 h5]at h1;exact AW h1
  exact item_listR pl.isList h0 ∅ (by rw[hj];simpa using ew) fin hs
 .have hj:(i+(its.toArray.size:Int)).toNat=j:=by
   rw[seqIndex_neg ∅ h4]at h1;rw[AU,<-hl];exact AW h1
  exact EC (x:=w) pl.isList.typeIs FJ.lookup
   (wpAny_getItem_list_neg (Q:=λr s'=>r=w/\EP X π σ Q r s') pl.isList ∅ (by rw[AU]<;>lia) ∅ (by rw[hj];simpa using ew) ⟨rfl,fin⟩) hs
def zhM:IxR X (yeB X.K):=by
 intro value slice π s σ H x y v u Q I rx ry h hs;let⟨p,xs,i,z,rfl,rfl,hq,he,q⟩:=h
 cases rx
 let⟨t,rfl⟩:=ry;let⟨its,r,pl,hz⟩:=I.tuple hq;let⟨j,h1,h2,h3,h4,h5⟩:=zbZ he;let⟨w,ew,rw'⟩:=r.get h2;have hl:=r.length;have hn:=zaC;have fin:EP X π σ Q w s:=⟨z,H,I,rw',q⟩;exact EC (x:=w) pl.typeIs Ak.lookup
  (getItem_tuple (j:=j) (Q:=λr s'=>r=w/\EP X π σ Q r s') pl ∅ ∅ (by rw[AU,<-hl];exact h1) (by simpa using ew) ⟨rfl,fin⟩) hs
def zgS:IxR X yee:=by
 intro value slice π s σ H x y v u Q I rx ry h hs;let⟨z,i,c,rfl,rfl,hz,he,q⟩:=h;let⟨t,rfl⟩:=rx;let⟨t',rfl⟩:=ry;let⟨j,h1,h2,h3,h4,h5⟩:=zbZ he;have hl:z.cps.toList.length=z.length:=by simp[Str.length]
 rw[hl]at h1 h4 h5;have hn:=zaC;exact tail_any (Fh s z t) slot_str_getitem.lookup (getItem_str (c:=c) (by
  have e1:decide (i < -(2^63:Int))=false:=decide_eq_false ∅;have e2:decide (i ≥ 2^63)=false:=decide_eq_false ∅;rw[e1,e2,GI]) (by rw[h1];simpa using h2) ⟨.str ⟨#[c]⟩,H,I.tok _,⟨_,rfl⟩,q⟩) hs
def rIx(K:AE):R2:=λx y H Q=>yd9 K x y H Q \/ yeB K x y H Q \/ yee x y H Q
def zct:IxR X (rIx X.K):=zhG.or (zhM.or zgS)
def zcM(its:List AD)(n j:Nat)(u:AD):Aw (·.setIfInBounds j u) {cls:=.type "list",data:=.seq its.toArray n}={cls:=.type "list",data:=.seq (its.set j u).toArray n}:=by
 simp[Aw]
theorem Inv.lst{π:List (AI×B6)}{σ:St}{H:Hp}{s:AG}{p:AI}{xs:List V}(I:Inv X π σ H s)(h:H p=AA (.lst xs)):
  ∃(its:List AD) (n:Nat),Vals xs its/\s.heap.get? p=AA {cls:=.type "list",data:=.seq its.toArray n}/\xs.length<=sizeLine:=by
 let⟨z,its,n,r,e⟩:=I.hok p _ h;exact⟨its,n,r,e,z⟩
theorem Inv.lstUpd{π:List (AI×B6)}{σ:St}{H:Hp}{s:AG}{p:AI}{xs ys:List V}{its its':List AD}{n n':Nat}{f:B6->B6}(I:Inv X π σ H s)(h:H p=AA (.lst xs))
  (ho:s.heap.get? p=AA {cls:=.type "list",data:=.seq its.toArray n}) (hf:f {cls:=.type "list",data:=.seq its.toArray n}={cls:=.type "list",data:=.seq its'.toArray n'}) (r:Vals ys its') (hz:ys.length<=sizeLine) (t:Nat):
  Inv X π σ (upd H p (.lst ys)) {s with heap:=s.heap.update p f,toks:=t}:=by
 have e:(s.heap.update p f).get? p=AA {cls:=.type "list",data:=.seq its'.toArray n'}:=by
  rw[Cg f ho (by rw[hf]<;>rfl),hf]
 refine I.write (x:=p) (e:=p) (by rw[h];trivial) (.inl rfl) (λb u hb q=>(C9 _ _ (B1 hb)).trans q) ⟨_,e⟩ ?_;exact⟨hz,its',n',r,e⟩
def ycp:V->V->V->Hp->(Hp->Prop)->Prop:=λo i v H Q=>∃p xs k j,o=.ref p/\i=.int k/\H p=AA (.lst xs)/\ixN xs.length k=AA j/\Q (upd H p (.lst (xs.set j v)))
def zcu:yer X ycp:=by
 intro π s σ H o i v ov iv u Q I ro ri rv h;let⟨p,xs,k,j,rfl,rfl,hp,hj,q⟩:=h
 cases ro
 let⟨t,rfl⟩:=ri;let⟨its,n,r,ho,hz⟩:=I.lst hp;let⟨h1,h2,h3,h4⟩:=zcS hj;have hl:=r.length;have hn:=zaC;have I':Inv X π σ (upd H p (.lst (xs.set j v))) {s with heap:=s.heap.update p (Aw (·.setIfInBounds j u))}:=
  I.lstUpd hp ho (zcM its n j u) (r.set rv j) (by rw[BE];exact hz) s.toks
 by_cases h0:0<=k
 .have hk:k.toNat=j:=by
   rw[F0 h0 h4]at h1;exact AW h1
  exact PySem.W.ki_setAt ho h0 ∅ (by rw[AU,<-hl];exact h4) (by rw[hk];exact⟨_,I',q⟩)
 .have hk:(k+(its.toArray.size:Int)).toNat=j:=by
   rw[seqIndex_neg ∅ h3]at h1;rw[AU,<-hl];exact AW h1
  exact PySem.W.ki_setBack ho ∅ (by rw[AU,<-hl];exact h3) ∅ (by rw[hk];exact⟨_,I',q⟩)
def zbs(lo hi:Option Int)(n:Nat):(sliceBounds lo hi AF n).1=((HT.sIx n 0 lo:Nat):Int)/\(sliceBounds lo hi AF n).2.1=((HT.sIx n n hi:Nat):Int)/\(sliceBounds lo hi AF n).2.2=1:=by
 refine⟨?_,?_,rfl⟩
 .cases lo with
  |none=>simp[sliceBounds,HT.sIx]
  |some i=>
   erw[sliceBounds,HT.sIx,FV,show (1:Int) > 0 by decide,if_true]
   by_cases h:i<0
   .simp only[h,if_true]<;>lia
   .simp only[h,if_false]<;>lia
 .cases hi with
  |none=>simp[sliceBounds,HT.sIx]
  |some i=>
   erw[sliceBounds,HT.sIx,FV,show (1:Int) > 0 by decide,if_true]
   by_cases h:i<0
   .simp only[h,if_true]<;>lia
   .simp only[h,if_false]<;>lia
def zaX(its:List AD)(lo hi:Option Int):slicePick its.toArray lo hi AF=((its.drop (HT.sIx its.length 0 lo)).take (HT.sIx its.length its.length hi-HT.sIx its.length 0 lo)).toArray:=by
 let⟨h1,h2,h3⟩:=zbs lo hi its.toArray.size;unfold slicePick;rw[h1,h2,h3];erw[sliceRange_one,pick_run,AU]<;>rfl
def yeL(K:AE):V->Option Int->Option Int->Hp->VK->Prop:=λx lo hi H Q=>∃a xs,x=.ref a/\SqL K H a xs/\∀p,H p=AF->Q (.ref p) (upd H p (.lst (ybx xs lo hi)))
def zd3:SlR X (yeL X.K):=by
 intro π s σ H x v vl vu lo hi sl Q I rx hs pl pu h;let⟨a,xs,rfl,hx,q⟩:=h
 cases rx
 let⟨its,r,ht,hz⟩:=I.list hx;have hlen:=r.length;refine⟨"list",_,FJ.lookup,ht.isList.typeIs,?_⟩;refine wpAny_getItem_list_slice ht.isList hs pl pu .none (by simp) ?_ (by rw[AU]<;>lia);rw[zaX,<-hlen];refine⟨.ref s.heap.objs.size,_,I.laid (t':=s.toks) (o:=.lst (ybx xs lo hi)) (λb ob q=>AL _ q) (AS _) ?_,rfl,q _ (I.hok.fresh (AS _))⟩;exact⟨BS (zaw xs lo hi) hz,_,0,(r.drop (HT.sIx xs.length 0 lo)).take (HT.sIx xs.length xs.length hi-HT.sIx xs.length 0 lo),AX _ rfl⟩
def yar:V->Bool
 |.non=>AC
 |.bl _=>AC
 |.int _=>AC
 |.str _=>AC
 |_=>AH
def eqV:V->V->Bool
 |.non,.non=>AC
 |.bl a,.bl b=>a==b
 |.bl a,.int b=>(if a then 1 else 0)==b
 |.int a,.bl b=>a==(if b then 1 else 0)
 |.int a,.int b=>a==b
 |.str a,.str b=>a==b
 |_,_=>AH
def ziq{A:A5}{s:AG}{y x:V}{u v:AD}(ry:RelV y u)(rx:RelV x v)(fy:yar y=AC)(fx:yar x=AC):Gf A s u v (eqV y x):=by
 cases y with
 |non=>
  cases ry
  cases x with
  |non=>cases rx;exact SeqAt.EqAt.same _
  |bl b=>cases rx;exact SeqAt.EqAt.none_bool b
  |int b=>let⟨t,rfl⟩:=rx;exact SeqAt.EqAt.none_int b t
  |str b=>let⟨t,rfl⟩:=rx;exact SeqAt.EqAt.none_str b t
  |_=>exact absurd (show AH=AC from fx) AQ
 |bl a=>
  cases ry
  cases x with
  |non=>cases rx;exact SeqAt.EqAt.bool_none a
  |bl b=>cases rx;exact SeqAt.EqAt.bool_bool a b
  |int b=>let⟨t,rfl⟩:=rx;exact SeqAt.EqAt.bool_int a b t
  |str b=>let⟨t,rfl⟩:=rx;exact SeqAt.EqAt.bool_str a b t
  |_=>exact absurd (show AH=AC from fx) AQ
 |int a=>
  let⟨t',rfl⟩:=ry
  cases x with
  |non=>cases rx;exact SeqAt.EqAt.int_none a t'
  |bl b=>cases rx;exact SeqAt.EqAt.int_bool a t' b
  |int b=>let⟨t,rfl⟩:=rx;exact SeqAt.EqAt.int_int a t' b t
  |str b=>let⟨t,rfl⟩:=rx;exact Eo a t' b t
  |_=>exact absurd (show AH=AC from fx) AQ
 |str a=>
  let⟨t',rfl⟩:=ry
  cases x with
  |non=>cases rx;exact SeqAt.EqAt.str_none a t'
  |bl b=>cases rx;exact SeqAt.EqAt.str_bool a t' b
  |int b=>let⟨t,rfl⟩:=rx;exact Ep a t' b t
  |str b=>let⟨t,rfl⟩:=rx;exact SeqAt.EqAt.str_str a t' b t
  |_=>exact absurd (show AH=AC from fx) AQ
 |_=>exact absurd (show AH=AC from fy) AQ
def eqU(x:V)(u:AD):Bool:=match u with
 |.none=>eqV .non x
 |.bool b=>eqV (.bl b) x
 |.int i _=>eqV (.int i) x
 |.str z _=>eqV (.str z) x
 |_=>AH
def zfa{x y:V}{u:AD}(r:RelV y u)(f:yar y=AC):eqU x u=eqV y x:=by
 cases y with
 |non=>cases r;rfl
 |bl b=>cases r;rfl
 |int i=>let⟨t,rfl⟩:=r;rfl
 |str z=>let⟨t,rfl⟩:=r;rfl
 |_=>exact absurd (show AH=AC from f) AQ
def zbJ{x:V}:∀{xs:List V} {us:List AD},Vals xs us->xs.all yar=AC->us.any (eqU x)=xs.any λy=>eqV y x
 |_,_,.nil,_=>rfl
 |y::xs,u::us,.cons r t,f=>by
  rw[Al,AJ]at f;rw[Bc,Bc,zfa r f.1,zbJ t f.2]
def zaY{A:A5}{s:AG}{x:V}{v:AD}(rx:RelV x v)(fx:yar x=AC):∀{xs:List V} {us:List AD},Vals xs us->xs.all yar=AC->∀u∈us,Gf A s u v (eqU x u)
 |_,_,.nil,_=>λu hu=>by cases hu
 |y::xs,u::us,.cons r t,f=>λu' hu=>by
  rw[Al,AJ]at f;rcases Ac.mp hu with rfl|hu
  .rw[zfa r f.1];exact ziq r rx f.1 fx
  .exact zaY rx fx t f.2 u' hu
def inV(x:V)(xs:List V):Bool:=xs.any λy=>eqV y x
def rIn(K:AE)(neg:Bool):R2:=λx y H Q=>∃p xs,y=.ref p/\(SqL K H p xs \/ SqT K H p xs)/\yar x=AC/\xs.all yar=AC/\Q (.bl (if neg then !inV x xs else inV x xs)) H
def zbm:OpR X (compareOp .In) (rIn X.K AH):=by
 intro π s σ H x y v u Q I rx ry h;let⟨p,xs,rfl,hq,fx,fs,q⟩:=h
 cases ry
 rcases hq with hq|hq
 .let⟨its,r,pl,hz⟩:=I.list hq;refine SeqAt.in_listAt (eqU x) pl.isList (λw hw=>zaY rx fx r fs w (by simpa using hw)) ⟨.bl _,H,I,rfl,?_⟩;rw[show its.toArray.any (eqU x)=its.any (eqU x)by simp,zbJ r fs];exact q
 .let⟨its,r,pl,hz⟩:=I.tuple hq;refine SeqAt.in_tupleAt (eqU x) pl (λw hw=>zaY rx fx r fs w (by simpa using hw)) ⟨.bl _,H,I,rfl,?_⟩;rw[show its.toArray.any (eqU x)=its.any (eqU x)by simp,zbJ r fs];exact q
def zbu:yM X (.builtin "len") (λxs H Q=>∃p ys,xs=[.ref p]/\(SqL X.K H p ys \/ SqT X.K H p ys)/\Q (.int ys.length) H):=by
 intro π s σ H xs us Q I r h;let⟨p,ys,rfl,hq,q⟩:=h;let⟨u,rfl,rx⟩:=vals1 r
 cases rx
 have hn:=zaC;rcases hq with hq|hq
 .let⟨its,r',pl,hz⟩:=I.list hq;have hlen:=r'.length;exact Calls.call_len_list pl.isList (by erw[AU]<;>lia) ⟨.int ys.length,H,I.tok _,⟨s.toks+1,by rw[AU,hlen]⟩,q⟩
 .let⟨its,r',pl,hz⟩:=I.tuple hq;have hlen:=r'.length;exact len_tuple pl (by erw[AU]<;>lia) ⟨.int ys.length,H,I.tok _,⟨s.toks+1,by rw[AU,hlen]⟩,q⟩
def zby:yM X (.builtin "len") (λxs H Q=>∃z,xs=[.str z]/\z.length<=sizeLine/\Q (.int z.length) H):=by
 intro π s σ H xs us Q I r h;let⟨z,rfl,hz,q⟩:=h;let⟨u,rfl,t,rfl⟩:=vals1 r;have hn:=zaC;exact len_str ∅ ⟨.int z.length,H,I.tok _,⟨_,rfl⟩,q⟩
def zV:yM X (.type "tuple") (λxs H Q=>∃p ys,xs=[.ref p]/\((SqL X.K H p ys/\∀l,H l=AF->Q (.ref l) (upd H l (.tup ys))) \/ (SqT X.K H p ys/\Q (.ref p) H))):=by
 intro π s σ H xs us Q I r h;let⟨p,ys,rfl,h⟩:=h;let⟨u,rfl,rx⟩:=vals1 r
 cases rx
 rcases h with⟨hq,q⟩|⟨hq,q⟩
 .let⟨its,r',pl,hz⟩:=I.list hq;have hlen:=r'.length;refine call_tuple_list pl.isList (λh' kp=>?_) (by erw[AU]<;>lia);have I1:Inv X π σ H {s with heap:=h'}:=I.kept (t':=s.toks) kp;have I2:Inv X π σ (upd H h'.objs.size (.tup ys)) {s with heap:=h'.push {cls:=.type "tuple",data:=.seq its.toArray} }:=
   I1.laid (t':=s.toks) (λb o e=>AL _ e) (AS _) (show yp X.prog X.w _ _ _ (.tup ys)from ⟨hz,its,r',AX _ rfl⟩)
  exact⟨.ref h'.objs.size,_,I2,rfl,q _ (I1.hok.fresh (AS _))⟩
 .let⟨its,r',pl,hz⟩:=I.tuple hq;exact call_tuple_same pl ⟨.ref p,H,I,rfl,q⟩
def tyV(K:AE)(T:String)(x:V)(H:Hp):Prop:=match x with
 |.str _=>T="str"
 |.int _=>T="int"
 |.ref p=>(T="list"/\∃xs,SqL K H p xs) \/ (T="tuple"/\∃o,K.lookup p=AA o/\o.cls=.type "tuple"/\o.dict=AF) \/
   (T="dict"/\((∃kvs,H p=AA (.dK kvs)) \/ ∃kvs,H p=AA (.dT kvs))) \/ (T="set"/\∃S n,H p=AA (.set S n))
 |_=>False
def zht{π:List (AI×B6)}{σ:St}{H:Hp}{s:AG}{T:String}{x:V}{v:AD}(I:Inv X π σ H s)(r:RelV x v)(ty:tyV X.K T x H):
  s.TypeIs v T/\∀a,v=.ref a->∃ob,s.heap.get? a=AA ob/\ob.dict=none:=by
 cases x with
 |str z=>
  let⟨t,rfl⟩:=r
  cases (show T="str" from ty)
  exact⟨Fh s z t,λ_ e=>nomatch e⟩
 |int i=>
  let⟨t,rfl⟩:=r
  cases (show T="int" from ty)
  exact⟨typeIs_int s i t,λ_ e=>nomatch e⟩
 |ref p=>
  cases r
  rcases ty with⟨rfl,xs,hq⟩|⟨rfl,o,hk,hc,hd⟩|⟨rfl,hk⟩|⟨rfl,S,n,hk⟩
  .let⟨its,_,pl,_⟩:=I.list hq;refine⟨pl.isList.typeIs,λa e=>?_⟩
   cases e
   let⟨o,n,e,c,hd,_⟩:=pl;exact⟨o,e,hd⟩
  .refine⟨⟨o,I.kIn p o hk,hc⟩,λa e=>?_⟩
   cases e
   exact⟨o,I.kIn _ o hk,hd⟩
  .have z:∃o,s.heap.get? p=AA o/\o.ExactDict:=by
    rcases hk with⟨kvs,hk⟩|⟨kvs,hk⟩
    .let⟨_,_,_,_,o,_,_,e,ex,_⟩:=I.hok p _ hk;exact⟨o,e,ex⟩
    .let⟨_,_,_,_,o,_,_,e,ex,_⟩:=I.hok p _ hk;exact⟨o,e,ex⟩
   let⟨o,e,ex⟩:=z;refine⟨⟨o,e,ex.1⟩,λa e2=>?_⟩
   cases e2
   exact⟨o,e,ex.2.1⟩
  .let⟨o,_,_,_,e,ex,_⟩:=I.hok p _ hk;refine⟨⟨o,e,ex.1⟩,λa e2=>?_⟩
   cases e2
   exact⟨o,e,ex.2.1⟩
 |_=>exact BY ty
def tBM(K:AE)(T:String)(r:V->List V->Hp->VK->Prop)(to:TE)(t:TA):TE:=λσ H Q=>to σ H λx H1=>tyV K T x H1/\t σ H1 λxs H2=>r x xs H2 Q
variable {o e:AM}{es:List AM}{to:TE}{t:TA}{name:AR}{apos cpos:Bd}{T id:String}{r:V->List V->Hp->VK->Prop}
def ziX(pa:PlainAttrs T)(slot:Slot T name id)(hty:typeOf (.builtin id)=pure (.type "method_descriptor"))(hm:MtR X id r)(ho:PE X o to)(ha:PA X (e::es) t)
  (hbase:attributeBase o name X.env (eval o X.env)=eval o X.env:=by rfl)
  (hfew:((backTo cpos (starEach (e::es) X.env)).all (λx=>!x.1)&&(backToKw cpos (keywordEach [] X.env)).all (λx=>x.1.isSome)
   && decide ((e::es).length+([]:List Bz).length+(if ([]:List Bz).isEmpty then 0 else 1)<30))=true:=by rfl)
  (hline:(apos.endLine==cpos.line)=true:=by rfl) (hs:starEach (e::es) X.env=(AH,eval e X.env)::starEach es X.env:=by rfl) (hplain:(backTo cpos (starEach es X.env)).any (·.1)=false:=by rfl):
  PE X (.Call (.Attribute o name apos) (e::es) [] cpos) (tBM X.K T r to t):=by
 intro π s σ H Q I h;refine wpAny_Call_method_late hbase hfew hline rfl (thn (ho π s σ H _ I h) λv s1 kq=>?_);let⟨x,H1,I1,r1,ty,q1⟩:=kq;let⟨h1,h2⟩:=zht I1 r1 ty;refine⟨T,id,pa,slot,hty,h1,h2,?_⟩;have hA:=ha cpos π s1 σ H1 _ I1 q1;rw[hs]at hA ⊢;refine ED (by show (AH || (backTo cpos (starEach es X.env)).any (·.1))=AH;rw[hplain]<;>rfl) (E4 ?_);exact thn hA λus s2 ⟨vs,H2,I2,r2,q2⟩=>hm π s2 σ H2 x vs v us Q I2 r1 r2 q2
/- xs.append(e),list.index on a module's tuple .. are MtR facts of 06m -/
end
def MtM(X:Cx)(id:String)(r:V->List V->Hp->VK->Prop):Prop:=
 ∀(π:List (AI×B6)) (s:AG) (σ:St) (H:Hp) (x:V) (xs:List V) (v:AD) (us:List AD) (Q:VK),Inv X π σ H s->RelV x v->Vals xs us->r x xs H Q ->
  AN (model X.prog X.w) X.A (call (.builtin id) (v::us)) (EP X π σ Q) X.xe s
theorem Vals.one:∀{x:V} {us:List AD},Vals [x] us->∃u,us=[u]/\RelV x u
 |_,_,.cons r .nil=>⟨_,rfl,r⟩
theorem Vals.reverse{xs:List V}{us:List AD}(h:Vals xs us):Vals xs.reverse us.reverse:=by
 induction h with
 |nil=>exact .nil
 |cons r t ih=>rw[Ca,Ca];exact Vals.append ih (.cons r .nil)
section
variable {X:Cx}{π:List (AI×B6)}{σ:St}{H:Hp}{s:AG}{l b:AI}{xs ys zs:List V}
theorem Inv.lset{its its':List AD}{n:Nat}{f:Array AD->Array AD}{t':Nat}(I:Inv X π σ H s)(hH:H l=AA (.lst xs))
  (e:s.heap.get? l=AA {cls:=.type "list",data:=.seq its.toArray n}) (hf:f its.toArray=its'.toArray) (hv:Vals ys its') (hz:ys.length<=sizeLine):
  Inv X π σ (upd H l (.lst ys)) {s with heap:=s.heap.update l (Aw f),toks:=t'}:=by
 have q:=PySem.IsL.update e f;rw[hf]at q;refine I.write (x:=l) (e:=l) (by rw[hH];exact trivial) (.inl rfl) (λb' u hb hu=>(C9 s.heap (Aw f) (B1 hb)).trans hu) ⟨_,q⟩ ?_;exact⟨hz,its',_,hv,q⟩
theorem Inv.lnew{its:List AD}{t':Nat}(I:Inv X π σ H s)(hv:Vals ys its)(hz:ys.length<=sizeLine):
  Inv X π σ (upd H s.heap.objs.size (.lst ys)) {s with heap:=s.heap.push {cls:=.type "list",data:=.seq its.toArray},toks:=t'}:=
 I.laid (λ_ _ q=>AL _ q) (AS _) ⟨hz,its,0,hv,AX _ rfl⟩
theorem Inv.fresh(I:Inv X π σ H s):H s.heap.objs.size=none:=I.hok.fresh (AS _)
theorem Inv.lstM(I:Inv X π σ H s)(hH:H l=AA (.lst xs)):xs.length<=sizeLine/\∃(its:List AD) (n:Nat),Vals xs its/\xs.length=its.length/\s.heap.get? l=AA {cls:=.type "list",data:=.seq its.toArray n}:=by
 let⟨z,its,n,r,e⟩:=I.hok l _ hH;exact⟨z,its,n,r,r.length,e⟩
end
section
variable {X:Cx}
def ybX:V->List V->Hp->VK->Prop:=λx vs H Q=>∃l xs y,x=.ref l/\vs=[y]/\H l=AA (.lst xs)/\xs.length<sizeLine/\Q .non (upd H l (.lst (xs++[y])))
def zbt:MtM X "list.append" ybX:=by
 intro π s σ H x vs v us Q I rx rv h;let⟨l,xs,y,rfl,rfl,hH,hz,q⟩:=h
 cases rx
 let⟨u,rfl,ru⟩:=rv.one;let⟨z,its,n,r,hl,e⟩:=I.lstM hH;refine call_meets EV ⟨_,e,rfl⟩ F.entry_list_append (F.args_list_append_2 _ _) (PySem.list_append l its.toArray n u (by rw[AU];lia)) ⟨e,?_⟩;refine⟨.non,_,I.lset (its':=its++[u]) hH e (by simp) (r.append (.cons ru .nil)) ?_,rfl,q⟩;rw[BX,List.length_singleton];lia
def yeJ:R2:=λx y H Q=>∃l b xs zs,x=.ref l/\y=.ref b/\H l=AA (.lst xs)/\H b=AA (.lst zs)/\xs.length+zs.length<=sizeLine/\∀p,H p=AF->Q (.ref p) (upd H p (.lst (xs++zs)))
def ze7:OpR X (binaryOp .Add) yeJ:=by
 intro π s σ H x y v u Q I rx ry h;let⟨l,b,xs,zs,rfl,rfl,hH,hB,hz,q⟩:=h
 cases rx
 cases ry
 let⟨z,its,n,r,hl,e⟩:=I.lstM hH;let⟨z2,its2,n2,r2,hl2,e2⟩:=I.lstM hB;refine PySem.P.add_list e e2 ?_ (by rw[AU,AU];lia);have ea:its.toArray++its2.toArray=(its++its2).toArray:=by simp
 rw[ea];exact⟨.ref _,_,I.lnew (t':=s.toks) (r.append r2) (by rw[BX];lia),rfl,q _ I.fresh⟩
end
section
variable {prog:AT}{w:A3}{A:A5}{E:AD->AG->Prop}{s:AG}
end
section
variable {X:Cx}
end
end L2
namespace Att
open PySem PySem.W PySem.Calls PyProof.Rows
def zas{P:Params}{h:Ah}:∀(ns:List Int) (vs:List AD),WellAll P h vs (ns.map Gk)->Fa vs ns:=by
 intro ns
 induction ns with
 |nil=>
  intro vs w;rw[CA]at w
  cases w
  exact .nil
 |cons n ns ih=>
  intro vs w;rw[A2]at w
  cases w with
  |cons a b=>
   cases a
   exact .cons _ _ (ih _ b)
def zcP{l:Du}{n:Nat}(hn:l.most=AA n){P:Params}{h:Ah}{args:List WData}{vals:List AD}
  (hpre:l.row.toRowW.claim.pre args=AC) (hwl:WellAll P h vals args):
  ∃a vs ns,vals=[A8 a]/\args=[WData.list (ns.map Gk)]/\h.get? a=AA {cls:=.type "list",data:=.seq vs.toArray}/\Fa vs ns/\ns.length<=n:=by
 have hsh:WShape.hasAll [] args [.list .int]=true:=(pre_splitW hpre).1;have hc:l.pre.holds [] {args:=args}=true:=(pre_splitW hpre).2;let⟨d,r,rfl,h1,h2⟩:=hasAllW_cons hsh;obtain rfl:=hasAllW_nil h2;let⟨xs,rfl,h3⟩:=hasW_list h1;let⟨ns,rfl⟩:=items_int h3;have hlen:ns.length<=n:=by
  unfold OpenLaw.pre at hc;have h4:(WTm.not (.lt (.lit (.int (n:Int))) (.len (.arg 0)))).holds [] {args:=[.list (ns.map .int)]}=true:=by
   have h4:=(holds_andW hc).1;rw[hn]at h4;exact h4
  have h5:=condW_of h4 (w_not (w_lt w_lit (w_len_list (w_arg rfl))));rw[BN]at h5;refine Nat.le_of_not_lt λq=>?_;have q':(n:Int)<((ns.length:Nat):Int):=by lia
  first
   |(rw[decide_eq_true q']at h5;exact absurd h5 ⋯)
   |(simp at h5;lia)
 cases hwl with
 |cons w1 w2=>
  cases w2
  cases w1 with
  |list ho hall=>exact⟨_,_,ns,rfl,rfl,ho,zas ns _ hall,hlen⟩
def zdU(l:Du)(args:List WData):l.row.toRowW.claim.post args (.bool AC) args=true:=
 postW_of (r:=l.row.toRowW) (X:=(AC==AC))
  (show Gg [] (.bool AC) .bool=AC by first|rfl|decide|simp[Gg,WShape.arms,WShape.armsAll])
  (show (WTm.eq .res (.lit (.bool AC))).value [] {args:=args,res:=AA (.bool AC),after:=args}=AA (.bool (AC==AC))from w_eq_bool (w_res rfl) w_lit) rfl
theorem attach_call{l:Du}{n:Nat}{q:AT}{loose:List AR}{XP:(AR->Option AD)->Ah->Prop}{YP:A3->Ah->Prop}{d:DefRec}
  (hn:l.most=AA n) (hdf:d.params.defaults=[])
  (call:∀(w:A3) (s₀ s₁:AG) (mg mb:AR->Option AD) (fa:AI) (o:B6) (pm cd doc:AD) (a:AI) (vs:List AD) (ns:List Int),
   Ground q loose [] XP w s₀ mg mb s₁.heap->YP w s₁.heap ->
   s₁.heap.get? fa=AA o->o.data=.func (docDef d.name d.params d.body d.scope pm cd doc)->s₁.heap.CodeRec cd d.name->mg d.name=AA (.ref fa) ->
   s₁.heap.get? a=AA {cls:=.type "list",data:=.seq vs.toArray}->Fa vs ns->ns.length<=n->s₁.gens=#[] ->
   codeAny (model l.prog w) callerA (.call (.ref fa) ⟨[.ref a],[]⟩) (λr s'=>r=.ok (.ret (.bool AC))/\OldK s₁.heap s'.heap/\s'.os=s₁.os/\Cu s'.gens) s₁):
  Fb q loose XP YP l.row.toRowW d [] (λf vs=>Fi f vs):=by
 intro w s₀ s₁ mg mb G Y fa o pm cd doc dV kV ho hd hcd hD hmg hg args vals as hpre hlay hrd hwl hlo;obtain rfl:dV=.none:=Dflts.none hD hdf;obtain rfl:kV=.none:=Dflts.noKw hD;let⟨a,vs,ns,rfl,rfl,hobj,hints,hlen⟩:=zcP hn hpre hwl;refine enter_call (EF (call w s₀ s₁ mg mb fa o pm cd doc a vs ns G Y ho (fd_plain hd) hcd hmg hobj hints hlen hg) λr s' hq=>?_);let⟨rfl,h2,h3,h4⟩:=hq;exact⟨.inl ⟨.bool AC,.bool AC,[],rfl,λ_=>rfl,.bool AC,zdU l _,λ_=>⟨Gi,λ_ hm=>(nomatch hm)⟩⟩,h2,h3,h4⟩
section
variable {prog:AT}{w:A3}{A:A5}{E:AD->AG->Prop}{s:AG}{K:AE}
end
end Att
namespace L2
open PySem PySem.Spec PyProof.Rows
def zbd:∀{vs:List AD} {ns:List Int},Fa vs ns->Vals (ns.map V.int) vs
 |_,_,.nil=>.nil
 |_,_,.cons n t h=>.cons ⟨t,rfl⟩ (zbd h)
def Only(H:Hp):Prop:=∀b,H b=AF \/ ∃o xs,H b=AA (.frz o (.lst xs))
def zep{P:AT}{w:A3}{K:AE}{mg mb:AR->Option AD}{CX:CXT}{k:Nat}{fa a:AI}{fd:Af}{x:AR}{sp:Sp}{s₁:AG}{vs:List AD}{ns:List Int}
  (KX:K.In s₁.heap) (hns:s₁.heap.Ns mainGlobals mg) (hb:s₁.heap.Ns builtinsNs mb) (hbb:∀x:AR,x ≠ "__name__"->mb x=bootBuiltins x) (hlim:s₁.heap.NoLimit) (hg:s₁.gens=#[])
  (ha:s₁.heap.get? a=AA {cls:=.type "list",data:=.seq vs.toArray}) (hi:Fa vs ns) (hl:ns.length<=sizeLine) (hr:yao k callerA)
  (F:∀base:Ah,K.In base->base.Ns mainGlobals mg->yau P w K mg base CX k fa fd [x] sp) (hbind:∀(s:AG) (u:AD),EA s fd ⟨[u],[]⟩ [(x,u)])
  (hsp:∀H:Hp,Only H->SqL K H a (ns.map V.int)->sp [.ref a] H (λv _=>v=.bl AC) λ_ _ _=>False)
  (hCX:∀H e s',CX [] H s₁ (λ_ _ _=>False) e s'->False):
  codeAny (model P w) callerA (.call (.ref fa) ⟨[.ref a],[]⟩) (λr s'=>r=.ok (.ret (.bool AC))/\OldK s₁.heap s'.heap/\s'.os=s₁.os/\Cu s'.gens) s₁:=by
 have rv:=zbd hi;have lenV:=hi.length;have core:∀H:Hp,Only H->SqL K H a (ns.map V.int)->HOk P w H s₁.heap->(∀b,H b≠AF->b=a)->(H a≠AF->K.lookup a=AF) ->
   codeAny (model P w) callerA (.call (.ref fa) ⟨[.ref a],[]⟩) (λr s'=>r=.ok (.ret (.bool AC))/\OldK s₁.heap s'.heap/\s'.os=s₁.os/\Cu s'.gens) s₁:=by
  intro H hO hS hok hA hK;have base_of:∀{b:AI} {o:B6},s₁.heap.get? b=AA o->H b=AF->(ybo s₁.heap H).get? b=AA o:=λe n=>zeu e n;have noA:∀{b:AI} {o:B6} {es:Array BU} {ep:Nat},s₁.heap.get? b=AA o->o.data=.dict es ep->H b=none:=λ{b o es ep} e d=>by
   cases q:H b with
   |none=>rfl
   |some u=>
    have e':b=a:=hA b (by rw[q];simp);subst e';rw[ha]at e;cases e;have d':Data.seq vs.toArray _=Data.dict es ep:=d
    cases d'
  have nsK:∀{b:AI} {m:AR->Option AD},s₁.heap.Ns b m->(ybo s₁.heap H).Ns b m:=λ{b m} ⟨o,es,ep,e,d,r⟩=>⟨o,es,ep,base_of e (noA e d),d,r⟩;have hKb:K.In (ybo s₁.heap H):=λb o e=>base_of (KX b o e) (by
   cases q:H b with
   |none=>rfl
   |some u=>
    have e':b=a:=hA b (by rw[q];simp);subst e';rw[hK (by rw[q];simp)]at e;cases e)
  have hM:Mod K mg (ybo s₁.heap H):=⟨hKb,nsK hns,⟨mb,nsK hb,hbb⟩,let ⟨mc,h1,h2⟩:=hlim;⟨mc,nsK h1,h2⟩⟩;have e0:yb7 P w K mg (ybo s₁.heap H) callerA [] s₁ H:=⟨rfl,hM,λb o e=>zfV e,GY (zdH _ _),trivial,λb hb=>absurd (show b∈([]:List AI)from hb) (by simp),hok,.of_eq hg⟩;refine EF ((F _ hKb (nsK hns)).run callerA [] s₁ H ⟨[.ref a],[]⟩ [.ref a] [.ref a] _ _ hr e0 (hbind s₁ (.ref a)) (.cons rfl .nil) (hsp H hO hS)) λr s' h=>?_
  cases r with
  |error e=>exact(hCX H e s' h).elim
  |ok fl=>
   cases fl with
   |next=>exact BY h
   |brk=>exact BY h
   |cont=>exact BY h
   |ret u=>
    let⟨v,H',os,bare,un,hok',r',q⟩:=h;have q':v=.bl true:=q;subst q';obtain rfl:u=Dv true:=r';refine⟨rfl,OldK.of_keep λb o e=>?_,os,bare⟩
    cases q:H b with
    |none=>exact un.keep b o e q (by intro z;exact absurd (show b∈([]:List AI)from z) (by simp)) (by simp)
    |some u=>
     rcases hO b with z|⟨ob,xs,z⟩
     .rw[q]at z;cases z
     .have z2:=un.frzs b ob _ z;let⟨e1,_⟩:=hok b _ z;let⟨e2,_⟩:=hok' b _ z2;rw[e]at e1;cases e1;exact e2
 cases hk:K.lookup a with
 |some o=>
  have e:=KX a o hk;rw[ha]at e
  cases e
  refine core (λ_=>AF) (λ_=>.inl rfl) (.inr ⟨_,vs.toArray,_,hk,rfl,rfl,rfl,by rw[AU,lenV];exact hl,by simpa using rv⟩) (λb u z=>by have z':(AF:Option HO)=AA u:=z;cases z') (λb z=>absurd rfl z) λz=>absurd rfl z
 |none=>
  refine core (λb=>if b=a then AA (.frz {cls:=.type "list",data:=.seq vs.toArray} (.lst (ns.map V.int)))else AF) (λb=>?_) (.inl (.inr ⟨{cls:=.type "list",data:=.seq vs.toArray},if_pos rfl⟩)) (λb u z=>?_) (λb z=>?_) λ_=>hk
  .by_cases hb:b=a
   .exact .inr ⟨_,_,if_pos hb⟩
   .exact .inl (if_neg hb)
  .by_cases hb:b=a
   .have z':=(if_pos hb).symm.trans z
    cases z'
    subst hb;exact⟨ha,by rw[BN];exact hl,vs,_,rv,ha⟩
   .have z':=(if_neg hb).symm.trans z
    cases z'
  .by_cases hb:b=a
   .exact hb
   .exact absurd (if_neg hb) z
theorem walk_of{l:Du}{n k:Nat}{q:AT}{loose:List AR}{XP:(AR->Option AD)->Ah->Prop}{YP:A3->Ah->Prop}{d:DefRec}{K:Params->AE}{CX:A3->CXT}{sp:A3->Sp}{x:AR}
  (hn:l.most=AA n) (hn2:n<=sizeLine) (hdf:d.params.defaults=[]) (hr:yao k callerA)
  (hY:∀(w:A3) (h:Ah),YP w h->(K w.params).In h)
  (F:∀(w:A3) (mg:AR->Option AD) (fa:AI) (h:Ah),(K w.params).In h->h.Ns mainGlobals mg->mg d.name=AA (.ref fa) ->
   ∃fd:Af,(∀(s:AG) (u:AD),EA s fd ⟨[u],[]⟩ [(x,u)]) /\
    ∀base:Ah,(K w.params).In base->base.Ns mainGlobals mg->yau l.prog w (K w.params) mg base (CX w) k fa fd [x] (sp w))
  (hsp:∀(w:A3) (H:Hp) (a:AI) (ns:List Int),ns.length<=n->Only H->SqL (K w.params) H a (ns.map V.int)->sp w [.ref a] H (λv _=>v=.bl AC) λ_ _ _=>False)
  (hCX:∀(w:A3) (H:Hp) (s:AG) (e:AD) (s':AG),CX w [] H s (λ_ _ _=>False) e s'->False):
  Fb q loose XP YP l.row.toRowW d [] (λf vs=>Fi f vs):=by
 refine Att.attach_call hn hdf λw s₀ s₁ mg mb fa o pm cd doc a vs ns G Y ho hd hcd hmg hobj hints hlen hg=>?_;have KX:=hY w _ Y;let⟨fd,hb,hF⟩:=F w mg fa _ KX G.T.g hmg;exact zep KX G.T.g G.T.b G.T.builtins G.T.nolimit hg hobj hints (BS hlen hn2) hr hF hb (λH hO hS=>hsp w H a ns hlen hO hS) λH e s'=>hCX w H s₁ e s'
def yE(s:Bb):Arguments:=match s with
 |.FunctionDef _ a _ _ _ _ _ _ _ _=>a
 |_=>{posonlyargs:=[],args:=[],vararg:=AF,kwonlyargs:=[],kw_defaults:=[],kwarg:=AF,defaults:=[]}
def yq(s:Bb):List Stmt:=match s with
 |.FunctionDef _ _ b _ _ _ _ _ _ _=>b
 |_=>[]
def ye(s:Bb):Scope:=match s with
 |.FunctionDef _ _ _ _ _ _ sc _ _ _=>sc
 |_=>{kind:=.function,names:=[],isGenerator:=AH,isCoroutine:=AH}
abbrev CX0:CXT:=λ_ _ _ _ _ _=>False
abbrev E0:XK:=λ_ _ _=>False
structure Fun(K:AE)(x qual:AR)(st:Bb)(f:AI)(fd:Af):Prop where
 ex:∃(oc:AD) (od:Option AI) (kV doc pm:AD) (an:Option AI) (cdv ct:AD) (osl:Array (Option AD)),
  fd=BG x qual (yE st) (yq st) (ye st) .none kV doc pm an cdv ct/\K.lookup f=AA ⟨oc,od,.func fd,osl⟩/\Bf K cdv qual=AC
 kp:Aa K (.ref f)=AC
section
variable {P:AT}{w:A3}{K:AE}{mg:AR->Option AD}{base:Ah}
theorem Fun.binds{x qual:AR}{st:Bb}{f:AI}{fd:Af}{ps:List AR}(F:Fun K x qual st f fd)
  (h:∀(kV doc pm:AD) (an:Option AI) (cdv ct:AD) (us:List AD),us.length=ps.length->bindArgs (BG x qual (yE st) (yq st) (ye st) .none kV doc pm an cdv ct) ⟨us,[]⟩=pure (ps.zip us)):Binds K fd ps []:=by
 let⟨oc,od,kV,doc,pm,an,cdv,ct,osl,rfl,lk,hcd⟩:=F.ex;exact .all (h kV doc pm an cdv ct)
end
section
variable {X:Cx}
end
end L2
namespace WE
open PySem PySem.Spec PyProof.Rows
open AutoSeq1 (wpAny_loadPart')
section
variable {pg:AT}{wd:A3}{A:A5}{Er:AD->AG->Prop}{s:AG}
def zcF{it t:AI}{i:Nat}{xs:Array AD}{x:AD}{Q:AD->AG->Prop}(hi:s.heap.IsTupleIter it t i)(ht:s.heap.IsTuple t xs)(hx:xs[i]?=AA x)
  (k:∀h',h'.IsTupleIter it t (i+1)->By it s.heap h'->Q x {s with heap:=h'}):AN (model pg wd) A (Bl (.ref it)) Q Er s:=by
 let⟨oi,gi,ci,di⟩:=id hi;let⟨ot,gt,_,nt,dt⟩:=ht;unfold Bl;refine AB (BO (name:=Ar "__next__") hi.typeIs Bi (BH Bi hi.typeIs DJ ?_ (DC _)));show AN _ _ (field (.ref it) 0 >>= _) _ _ _;refine AB (Bw gi di (x:=.ref t) rfl ?_);show AN _ _ (if (A8 t==BI)=AC then _ else _) _ _ _;rw[if_neg (show ¬((A8 t==BI)=AC)from λz=>AQ z)];show AN _ _ (field (.ref it) 1 >>= _) _ _ _;refine AB (Bw gi di (x:=.int i 0) rfl ?_);show AN _ _ (seqItems? (.ref t) >>= _) _ _ _;refine AB (DN gt dt ?_);erw[Cb,hx];refine AB (Cc gi di (by simp) (AK ⟨x,rfl,AK (k _ ?_ (CO ..))⟩));refine⟨_,Cg _ gi (EW (C0 di _)),(FK ..).trans ci,?_⟩;rw[C0 di];simp[rawInt]
def zdq{it t:AI}{i:Nat}{xs:Array AD}{Q:AD->AG->Prop}(hh:A.handled=AF)(hi:s.heap.IsTupleIter it t i)(ht:s.heap.IsTuple t xs)(hx:xs[i]?=AF)
  (k:∀h' e,Ga it s.heap h'->(∃o,h'.get? e=AA o/\o.cls=.type "StopIteration")->Er (.ref e) {s with heap:=h'}):AN (model pg wd) A (Bl (.ref it)) Q Er s:=by
 let⟨oi,gi,ci,di⟩:=id hi;let⟨ot,gt,_,nt,dt⟩:=ht;unfold Bl;refine AB (BO (name:=Ar "__next__") hi.typeIs Bi (BH Bi hi.typeIs DJ ?_ (DC _)));show AN _ _ (field (.ref it) 0 >>= _) _ _ _;refine AB (Bw gi di (x:=.ref t) rfl ?_);show AN _ _ (if (A8 t==BI)=AC then _ else _) _ _ _;rw[if_neg (show ¬((A8 t==BI)=AC)from λz=>AQ z)];show AN _ _ (field (.ref it) 1 >>= _) _ _ _;refine AB (Bw gi di (x:=.int i 0) rfl ?_);show AN _ _ (seqItems? (.ref t) >>= _) _ _ _;refine AB (DN gt dt ?_);erw[Cb,hx];refine AB (Dx (AB (Cc gi di (by simp) ?_)));show AN _ _ (newExc (.type "StopIteration") [] >>= _) _ _ _;refine AB ?_;erw[newExc,newTuple];refine AB (Au ?_ (by size_fits));refine AB (m:=firstArgMember _ _) (wpAny_of_eq (a:=BI) (by first|rfl|(erw[firstArgMember];rfl)) ?_);refine Au ?_ (by size_fits);erw[raiseNew];refine AB (wpAny_handled ?_);first|rw[show A.in1.handled=AF from hh]|rw[hh]
 refine AB (AK (wpAny_throw ?_));exact k _ _ (((CO ..).extBut.push _).push _) ⟨_,AX _ rfl,rfl⟩
end
theorem draws_tuple{pg:AT}{wd:A3}{A:A5}(hh:A.handled=AF)(it t:AI)(hne:t≠it)(xs:Array AD):
  Draws pg wd A it [it,t] xs.size (λi v=>xs[i]?=AA v) (λi h=>h.IsTupleIter it t i/\h.IsTuple t xs) where
 live:=λ_ _ st=>let ⟨o,g,_⟩:=st.1;⟨o,g⟩
 frame:=λ_ _ _ st kp=>⟨let ⟨o,g,r⟩:=st.1;⟨o,kp it (by simp) o g,r⟩,let ⟨o,g,r⟩:=st.2;⟨o,kp t (by simp) o g,r⟩⟩
 item:=λi s Q E hi st hQ=>zcF st.1 st.2 (x:=xs[i]) (by simp[hi]) λh' hit' hs'=>hQ _ h' s.toks (by simp[hi]) ⟨hit',st.2.extBut hs'.extBut hne⟩ hs'
 done:=λs Q E st hE=>zdq hh st.1 st.2 (by simp) hE
def zb2(l:AI)(xs:Array AD)(n:Nat)(dc:Option AI)(sl:Array (Option AD)):
  Meets (EG.«enumerate.__new__» ⟨[.type "enumerate",.ref l],[]⟩) (λ_ R s=>s.heap.get? l=AA {cls:=.type "tuple",dict:=dc,data:=.seq xs n,slots:=sl} /\
   R (.ok (.ret (.ref (s.heap.push {cls:=.type "tuple_iterator",data:=.fields #[.ref l,.int 0 0]}).objs.size)))
    {s with heap:=(s.heap.push {cls:=.type "tuple_iterator",data:=.fields #[.ref l,.int 0 0]}).push {cls:=.type "enumerate",data:=.fields #[.none,.bool AH,.ref s.heap.objs.size,rawInt 0,.none,.none]} }):=
 .of_wp λprog w A R s h=>by
  let⟨hp,g,d,tk,os⟩:=s;let⟨gl,h⟩:=h;have hsub:=sub_enumerate;have hT:Heap.IsTuple (Shared.heap ⟨hp,g,d,tk,os⟩) l xs:=⟨_,gl,rfl,n,rfl⟩
  wp_walk using wpAny_loadPart' gl
  refine wpAny_stack_any λst=>AK ?_;split
  .rename_i c _ _ _ _ _
   cases (c==Fd "enumerate")
   .wp_walk using wpAny_loadPart' gl,C1 hT
    exact⟨_,rfl,h⟩
   .wp_walk using wpAny_loadPart' gl,C1 hT
    exact⟨_,rfl,h⟩
  .wp_walk using wpAny_loadPart' gl,C1 hT
   exact⟨_,rfl,h⟩
theorem call_enumT{pg:AT}{wd:A3}{A:A5}{Er:AD->AG->Prop}{s:AG}{l:AI}{xs:Array AD}{Q:AD->AG->Prop}(hT:s.heap.IsTuple l xs)
  (k:∀h',IsEnum h' (s.heap.objs.size+1) s.heap.objs.size 0 .none->h'.IsTupleIter s.heap.objs.size l 0->h'.objs.size=s.heap.objs.size+2 ->
   (∀b o,s.heap.get? b=AA o->h'.get? b=AA o)->Q (.ref (s.heap.objs.size+1)) {s with heap:=h'}):AN (model pg wd) A (call (.type "enumerate") [.ref l]) Q Er s:=by
 let⟨⟨c,dct,dt,sl⟩,gl,hc,n,hd⟩:=hT
 cases (show c=.type "tuple" from hc)
 cases (show dt=.seq xs n from hd)
 refine callType_new F.called_enumerate ⋯ (F.typeCall_enumerate_1 _) (F.newCall_enumerate_1 _) (λobj=>F.args_object_init_2 obj _) F.entry_enumerate_new (zb2 l xs n dct sl) ⟨gl,?_⟩;have hz:(s.heap.push {cls:=.type "tuple_iterator",data:=.fields #[.ref l,.int 0 0]}).objs.size=s.heap.objs.size+1:=Fj ..;show _/\_;rw[hz];have he:IsEnum ((s.heap.push {cls:=.type "tuple_iterator",data:=.fields #[.ref l,.int 0 0]}).push {cls:=.type "enumerate",data:=.fields #[.none,.bool AH,.ref s.heap.objs.size,rawInt 0,.none,.none]}) (s.heap.objs.size+1) s.heap.objs.size 0 .none:=by
  have q:=AX (s.heap.push {cls:=.type "tuple_iterator",data:=.fields #[.ref l,.int 0 0]}) (o:={cls:=.type "enumerate",data:=.fields #[.none,.bool AH,.ref s.heap.objs.size,rawInt 0,.none,.none]}) rfl;rw[hz]at q;exact q
 exact⟨⟨_,he,rfl⟩,k _ he ⟨_,AL _ (AX _ rfl),rfl,rfl⟩ (by rw[Fj,hz]) λb o y=>AL _ (AL _ y)⟩
end WE
namespace L2
open PySem PySem.Spec PyProof.Rows
section
variable {X:Cx}
def ycE(i j:Int):Prop:=0<j/\j<10000000000000000000000000000000000000000000000000000000000000000000000
def zer:OpR X (binaryOp .FloorDiv) (rI ycE λi j=>.int (i/j)):=opI λi j _ _ _ _ _ hc q=>by
 let⟨h1,h2⟩:=hc;refine floordiv_int ∅ (by rw[Int.fdiv_eq_ediv_of_nonneg i ∅];exact q) (.inl (PyProof.noPylong_of_log2 ?_));have h0:j.natAbs≠0:=by lia
 refine AY ((Nat.log2_lt h0).mpr (?_:j.natAbs<2^250)) ⋯;have e:(10000000000000000000000000000000000000000000000000000000000000000000000:Nat)<2^250:=by decide
 lia
end
section
variable {X:Cx}{π:List (AI×B6)}{σ:St}{H:Hp}{s:AG}{h':Ah}
theorem Inv.turnLaid{t':Nat}{ch:List AI}{T:AI}{o:HO}(I:Inv X π σ H s)(hf:∀b∈ch,yaH X π H b)(k:∀b u,b∉ch->s.heap.get? b=AA u->h'.get? b=AA u)
  (hp:s.heap.objs.size<=T) (new:yp X.prog X.w (upd H T o) h' T o):Inv X π σ (upd H T o) {s with heap:=h',toks:=t'}:=by
 have hn:H T=none:=I.hok.fresh hp;have nch:∀b u,H b=AA u->b∉ch:=λb u e z=>by
  have q:=(hf b z).1;rw[e]at q
  cases q
 refine I.step (g':=s.gens) (d':=s.drawn) (ch:=ch) (λb hb=>?_) (λb u _ _ hc e _=>k b u hc e) (λb u _ _ hc e _=>⟨u.slots,k b u hc e⟩) (λb u _ e n=>?_) (λb u hc e=>⟨u,k b u hc e⟩) (λb xs e=>?_) (λb u v e=>?_) (λb ps e=>⟨#[],?_⟩) (λm hm=>?_) (λb u e=>?_) I.bare
 .let⟨f0,f1,f2,f3,f4,f5⟩:=hf b hb;exact⟨f3,f1,f4,f5⟩
 .rw[za (A0 (AY (AO e) hp))];exact n
 .rw[za (zb e hn)];exact e
 .rw[za (zb e hn)];exact e
 .rw[za (zb e hn),e];simp
 .let⟨ob,es,ep,ho,r⟩:=hm;exact⟨ob,es,ep,k _ ob (λz=>(hf _ z).2.1 rfl) ho,r⟩
 .by_cases hb:b=T
  .subst hb;rw[zc]at e
   cases e
   exact new
  .rw[za hb]at e;refine(I.hok b u e).stay (λc v hc q=>k c v ?_ q) (λc q=>by rw[za (zb q hn)];exact q) λc xs q=>by rw[za (zb q hn)];exact q
   rcases hc with z|z
   .rw[z];exact nch b u e
   .exact nch c _ z
theorem Inv.turnedL{t':Nat}{ch:List AI}(I:Inv X π σ H s)(hf:∀b∈ch,yaH X π H b)(k:∀b u,b∉ch->s.heap.get? b=AA u->h'.get? b=AA u):Inv X π σ H {s with heap:=h',toks:=t'}:=by
 have nch:∀b u,H b=AA u->b∉ch:=λb u e z=>by
  have q:=(hf b z).1;rw[e]at q
  cases q
 refine I.step (g':=s.gens) (d':=s.drawn) (ch:=ch) (λb hb=>?_) (λb u _ _ hc e _=>k b u hc e) (λb u _ _ hc e _=>⟨u.slots,k b u hc e⟩) (λ_ _ _ _ n=>n) (λb u hc e=>⟨u,k b u hc e⟩) (λ_ _ e=>e) (λ_ _ _ e=>e) (λb ps e=>⟨#[],by rw[e];simp⟩) (λm hm=>?_) (λb u e=>?_) I.bare
 .let⟨f0,f1,f2,f3,f4,f5⟩:=hf b hb;exact⟨f3,f1,f4,f5⟩
 .let⟨ob,es,ep,ho,r⟩:=hm;exact⟨ob,es,ep,k _ ob (λz=>(hf _ z).2.1 rfl) ho,r⟩
 .refine(I.hok b u e).stay (λc v hc q=>k c v ?_ q) (λ_ q=>q) λ_ _ q=>q;rcases hc with z|z
  .rw[z];exact nch b u e
  .exact nch c _ z
end
def Ite(K:AE)(a:AI):It:=
 ⟨λi H=>∃xs x,SqT K H a xs/\xs[i]?=AA x,λi H x H'=>∃T,H T=AF/\x=.ref T/\∀xs y,SqT K H a xs->xs[i]?=AA y->H'=upd H T (.tup [.int i,y]),λi H=>∃xs,SqT K H a xs/\xs.length=i⟩
def zaN{h:Ah}{a b:AI}{o u:B6}(x:h.get? a=AA o)(y:h.get? b=AA u)(z:o.cls≠u.cls):a≠b:=λe=>by
 subst e;rw[x]at y
 cases y
 exact z rfl
def zcy{P:AT}{w:A3}{K:AE}{es:List AM}{kk:Nat}{pos:Bd}(a e it:AI):
  Turn P w K (.Tuple es kk pos) (Ite K a) [e,it] e (λi h=>(∃old,IsEnum h e it i old)/\h.IsTupleIter it a i) where
 mem:=by simp
 obj:=λi h st b hb=>by
  let⟨⟨old,he⟩,oi,gi,ci,di⟩:=st;rcases Ac.mp hb with z|z
  .subst z;exact⟨_,he,λv y=>nomatch y⟩
  .have z:b=it:=by simpa using z
   subst z;exact⟨oi,gi,λv y=>by rw[di]at y;cases y⟩
 keep:=λi h h' st k=>by
  let⟨⟨old,he⟩,oi,gi,r⟩:=st;exact⟨⟨old,k e (by simp) _ he⟩,oi,k it (by simp) _ gi,r⟩
 item:=by
  intro X hP hw hK hc i π s σ H E I hf st hg;subst hP hw hK;let⟨xs,x,hq,hx⟩:=hg;let⟨its,rv,p,hz⟩:=I.tuple hq;let⟨⟨old,he⟩,hi⟩:=st;let⟨oi,gi,ci,di⟩:=id hi;let⟨oa,ga,ca,na,da⟩:=id p;have nai:a≠it:=zaN ga gi (by rw[ca,ci];exact λz=>absurd (Ax z) ⋯);have nei:e≠it:=zaN he gi (by rw[ci];exact λz=>absurd (Ax z) ⋯);have nea:e≠a:=zaN he ga (by rw[ca];exact λz=>absurd (Ax z) ⋯);have hl:=rv.length;have hil:i<its.toArray.size:=by
   have:=(Am.mp hx).1;simpa using (by lia:i<its.length)
  have W:=FL (prog:=X.prog) (w:=X.w) (A:=X.A) (WE.draws_tuple (pg:=X.prog) (wd:=X.w) (A:=X.A.in1) (I.ok.hd hc) it a nai its.toArray) e nei (by simp[nei,nea]) (by simp);refine wpAny_pyNext_enum_itemD (WE.draws_tuple (pg:=X.prog) (wd:=X.w) (A:=X.A.in1) (I.ok.hd hc) it a nai its.toArray) he ⟨hi,p⟩ hil nei (by simp[nei,nea]) λy h1 tk hy ho hs' hT hsz' kp'=>⟨_,rfl,?_⟩;obtain⟨T,eT⟩:∃T,s.heap.objs.size=T:=⟨_,rfl⟩;have hsz:s.heap.objs.size<=T:=GY eT;have kp:∀b o,b∉[e,it]->s.heap.get? b=AA o->h1.get? b=AA o:=λb o hb y=>kp' b o (λe'=>hb (by simp[e'])) (λe'=>hb (by simp[e'])) y;have mid:(∃x,IsEnumOut h1 e it ((i:Int)+1) x s.heap.objs.size)/\(h1.IsTupleIter it a (i+1)/\h1.IsTuple a its.toArray)/\s.heap.objs.size≠e/\s.heap.objs.size≠it:=⟨⟨_,ho⟩,hs',Dy (AO he),Dy (AO gi)⟩;rw[eT]at mid hT ⊢;refine W.go es kk pos i T _ _ E mid λh2 st2 kp2=>?_;let⟨u,hu,ru⟩:=rv.get hx;have ey:y=u:=AW (hy.symm.trans (by simpa using hu));subst ey;have hch:∀b o,b∉[e,it]->s.heap.get? b=AA o->h2.get? b=AA o:=λb o hb q=>kp2 b o hb (kp b o hb q);have hTw:=W.apart i T h1 mid;have new:yp X.prog X.w (upd H T (.tup [.int i,x])) h2 T (.tup [.int i,x]):=by
   exact⟨by show 2<=sizeLine;decide,[.int i tk,y],.cons ⟨tk,rfl⟩ (.cons ru .nil),kp2 T _ hTw hT⟩
  have I2:=I.turnLaid (t':=tk+1) hf hch hsz new;refine⟨.ref T,_,I2,rfl,⟨T,I.hok.fresh hsz,rfl,λys z hy' hz'=>?_⟩,⟨st2.1,st2.2.1⟩,λb hb=>?_⟩
  .rw[I.tuple_inj hy' hq]at hz';rw[hx]at hz'
   cases hz'
   rfl
  .rw[za (λz:b=T=>hTw (z ▸ hb))];exact(hf b hb).1
 done:=by
  intro X hP hw hK hc i π s σ H E I hf st hg;subst hP hw hK;let⟨xs,hq,hx⟩:=hg;let⟨its,rv,p,hz⟩:=I.tuple hq;let⟨⟨old,he⟩,hi⟩:=st;let⟨oi,gi,ci,di⟩:=id hi;let⟨oa,ga,ca,na,da⟩:=id p;have nai:a≠it:=zaN ga gi (by rw[ca,ci];exact λz=>absurd (Ax z) ⋯);have nei:e≠it:=zaN he gi (by rw[ci];exact λz=>absurd (Ax z) ⋯);have nea:e≠a:=zaN he ga (by rw[ca];exact λz=>absurd (Ax z) ⋯);have hl:=rv.length;have W:=FL (prog:=X.prog) (w:=X.w) (A:=X.A) (WE.draws_tuple (pg:=X.prog) (wd:=X.w) (A:=X.A.in1) (I.ok.hd hc) it a nai its.toArray) e nei (by simp[nei,nea]) (by simp);have en:its.toArray.size=i:=by simp;lia
  refine W.done s _ E (by rw[en];exact⟨⟨old,he⟩,hi,p⟩) λh2 tk kp=>⟨rfl,I.turnedL (t':=tk) hf kp⟩
 self:=λ_ _ _ _ _ st q=>by
  let⟨⟨old,he⟩,_⟩:=st;exact FM he q
def yfK(K:AE)(ta:TA):TI:=λσ H R=>ta σ H λvs H1=>∃a,vs=[.ref a]/\(∃xs,SqT K H1 a xs)/\R (Ite K a) H1
def zes{X:Cx}{a:AM}{es:List AM}{kk:Nat}{tp:Bd}{ta:TA}{p pos:Bd}(hg:Gl X "enumerate")(hm:X.mg "enumerate"=AF)(ha:PA X [a] ta)(hs:starEach [a] X.env=[(AH,eval a X.env)]:=by rfl):
  PI X (.Tuple es kk tp) (.Call (.Name "enumerate" p) [a] [] pos) (yfK X.K ta):=by
 intro π s σ H R I h;refine Bg (zbB I hg hm boot_enumerate ?_);refine CF (thn (ha pos π s σ H _ I h) λus s1 kq=>?_) hs rfl;let⟨vs,H1,I1,r1,q1⟩:=kq;let⟨l,rfl,⟨xs,hq⟩,q⟩:=q1;let⟨u,rfl,ru⟩:=Vals.one r1
 cases (show u=A8 l from ru)
 let⟨its,rv,pt,hz⟩:=I1.tuple hq;refine WE.call_enumT (show s1.heap.IsTuple l its.toArray from pt) λh1 he hi hsz kp=>?_;refine FM he ?_;refine⟨_,[s1.heap.objs.size+1,s1.heap.objs.size],_,_,H1,rfl,I1.kept (t':=s1.toks) kp,zcy l _ s1.heap.objs.size,⟨⟨_,he⟩,hi⟩,λb hb=>?_,q⟩;have hb2:s1.heap.objs.size<=b:=by
  rcases Ac.mp hb with z|z
  .subst z;exact Cw _
  .have z:b=s1.heap.objs.size:=by simpa using z
   subst z;exact AS _
 exact I1.fpOk hb2 (I1.hok.fresh hb2)
abbrev No:AD->AG->Prop:=λ_ _=>False
abbrev ycM(ifs:List AM)(env:Env):Gd Bool:=forIn ifs AC λc r=>if r=AC then do let ok <-isTrue c env (eval c env);pure (Cz ok)else pure (Cz r)
section
variable {pg:AT}{wd:A3}{A:A5}{R:FT->AG->Prop}{s:AG}
def zea{elt tg iter:AM}{ifs:List AM}{sc:BB}{pos:Bd}{it acc:AD}{env:Env}(I:Nat->AG->Prop)
  (turn:∀n s,I n s->AN (model pg wd) A (pyNext it) (λr s1=>match r with
   |none=>R (.ok .next) s1
   |some v=>AN (model pg wd) A (letOwnedTupleGo tg it v) (λ_ s2=>AN (model pg wd) A (assign tg env v) (λ_ s3=>AN (model pg wd) A (ycM ifs env) (λok s4=>
     if ok=AC then AN (model pg wd) A (eval elt env) (λx s5=>AN (model pg wd) A (call (.builtin "list.append") [acc,x]) (λ_ s6=>∃m,m<n/\I m s6) No s5) No s4
     else ∃m,m<n/\I m s4) No s3) No s2) No s1) No s)
  (n:Nat) (h:I n s):codeAny (model pg wd) A (.compLoop (.ListComp elt [⟨tg,iter,ifs,0⟩] sc pos) 0 it acc env) R s:=by
 refine codeAny_loop rfl I (λn s hI=>?_) n h;show AN _ A ((compTurn (.ListComp elt [⟨tg,iter,ifs,0⟩] sc pos) 0 it acc env).onRaise (λx=>do noteFrame x env;theTreesLotGoes x)) _ _ s;refine wpAny_noted ?_;rw[compTurn_list];refine AB (Cv (AB (BW (turn n s hI) (λr s1 h1=>?_) λ_ _ f=>f.elim)))
 cases r with
 |none=>exact AK h1
 |some v=>
  refine AB (BW h1 (λ_ s2 h2=>AB (BW h2 (λ_ s3 h3=>AB (BW h3 (λok s4 h4=>?_) λ_ _ f=>f.elim)) λ_ _ f=>f.elim)) λ_ _ f=>f.elim)
  cases ok with
  |false=>exact AK ⟨rfl,h4⟩
  |true=>exact AB (AB (BW h4 (λx s5 h5=>AB (BW h5 (λ_ s6 h6=>AK (AK ⟨rfl,h6⟩)) λ_ _ f=>f.elim)) λ_ _ f=>f.elim))
end
def yJ(env:Env)(r:List (AR×AI))(x:AR×C6):List (AR×AI):=if x.2=.free then(x.1,(env.cells.lookup x.1).getD 0)::r else r
def ycA(sc:BB)(env:Env):List (AR×AI):=sc.names.foldl (yJ env) []
def zcI{α β:Type}{l:List α}{f:α->β->Gd (ForInStep β)}{g:β->α->β}(h:∀x∈l,∀c,f x c=pure (.yield (g c x))):∀c:β,forIn l c f=pure (l.foldl g c):=by
 induction l with
 |nil=>exact λ_=>rfl
 |cons x l ih=>
  intro c;rw[EM,h x Ai,pure_bind,CV];exact ih (λy hy=>h y (AZ _ hy)) (g c x)
def zz{sc:BB}{env:Env}(hf:∀y∈sc.names,y.2=.free->∃c,env.cells.lookup y.1=AA c):closureFor sc env=pure (ycA sc env):=by
 erw[closureFor];rw[zcI (g:=yJ env) (λx hx c=>?_)]
 .rfl
 .let⟨n,k⟩:=x
  by_cases hk:k=.free
  .subst hk;let⟨a,ha⟩:=hf _ hx rfl;have ha':env.cells.lookup n=AA a:=ha;simp[yJ,cellOf,ha']
  .have hb:(k==CD)=false:=by simpa using hk
   simp[yJ,hk,hb]
def zaH{env:Env}:∀(l:List (AR×C6)) (r:List (AR×AI)),(∀y∈l,y.2=.free->∃c,env.cells.lookup y.1=AA c)->(∀x c,r.lookup x=AA c->env.cells.lookup x=AA c) ->
  ∀x c,(l.foldl (yJ env) r).lookup x=AA c->env.cells.lookup x=AA c
 |[],r,_,h=>h
 |y::l,r,hf,h=>by
  refine zaH l (yJ env r y) (λz hz=>hf z (AZ _ hz)) λx c e=>?_;unfold yJ at e
  by_cases hk:y.2=.free
  .let⟨a,ha⟩:=hf y Ai hk;rw[if_pos hk,BP]at e
   cases hx:x==y.1 with
   |true=>
    rw[hx,ha]at e;rw[eq_of_beq hx,ha];exact e
   |false=>
    rw[hx]at e;exact h x c e
  .rw[if_neg hk]at e;exact h x c e
def zai{env:Env}{x:AR}:∀(l:List (AR×C6)) (r:List (AR×AI)),(∃c,r.lookup x=AA c)->∃c,(l.foldl (yJ env) r).lookup x=AA c
 |[],r,h=>h
 |y::l,r,h=>by
  refine zai l (yJ env r y) ?_;unfold yJ
  by_cases hk:y.2=.free
  .rw[if_pos hk,BP]
   cases hx:x==y.1 with
   |true=>exact⟨_,rfl⟩
   |false=>exact h
  .rw[if_neg hk];exact h
def zW{env:Env}:∀(l:List (AR×C6)) (r:List (AR×AI)),∀y∈l,y.2=.free->∃c,(l.foldl (yJ env) r).lookup y.1=AA c
 |[],_,y,hy,_=>nomatch hy
 |z::l,r,y,hy,hk=>by
  rcases Ac.mp hy with e|e
  .subst e;refine zai l (yJ env r y) ?_;unfold yJ;rw[if_pos hk,BP,beq_self_eq_true];exact⟨_,rfl⟩
  .exact zW l (yJ env r z) y e hk
theorem mem_of_lookup{β:Type}{x:AR}{k:β}:∀{l:List (AR×β)},l.lookup x=AA k->(x,k)∈l
 |[],h=>nomatch h
 |y::l,h=>by
  rw[BP]at h
  cases hx:x==y.1 with
  |true=>
   rw[hx]at h
   cases h
   rw[eq_of_beq hx];exact Ai
  |false=>
   rw[hx]at h;exact AZ _ (mem_of_lookup h)
def ycb(env:Env)(x:AR)(k:C6):NameKind:=if (k==.free&&env.scope.kind==.function&&env.kindOf x==AA .cell)=AC then .cell else k
def zaM{sc:BB}{env:Env}(x:AR):(relabel sc env).names.lookup x=(sc.names.lookup x).map (ycb env x):=by
 unfold relabel;show (sc.names.map λ(n,k)=>if (k==CD&&env.scope.kind==.function&&env.kindOf n==AA .cell)then(n,Ej)else(n,k)).lookup x=_
 induction sc.names with
 |nil=>rfl
 |cons y l ih=>
  let⟨n,k⟩:=y;rw[A2];show F1 x ((if (k==CD&&env.scope.kind==.function&&env.kindOf n==AA .cell)=AC then(n,Ej)else(n,k))::_)=_
  cases hx:x==n with
  |true=>
   have e:=eq_of_beq hx;subst e
   by_cases hc:(k==CD&&env.scope.kind==.function&&env.kindOf x==AA .cell)=AC
   .rw[if_pos hc,BP,beq_self_eq_true];simp[ycb,hc]
   .rw[if_neg hc,BP,beq_self_eq_true];simp[ycb,hc]
  |false=>
   by_cases hc:(k==CD&&env.scope.kind==.function&&env.kindOf n==AA .cell)=AC
   .rw[if_pos hc];erw[BP,hx];exact ih
   .rw[if_neg hc];erw[BP,hx];exact ih
structure CI where
 C:AI
 s:AG
 H:Hp
 fp:List AI
def cxC(X:Cx)(sc:BB)(NC:List AR)(j:CI):Cx where
 prog:=X.prog
 w:=X.w
 K:=X.K
 mg:=X.mg
 base:=X.base
 A:=X.A
 N:=NC
 s₀:=j.s
 H₀:=j.H
 env:=compEnvC sc (ycA sc X.env) j.C X.env
 outer:=X.stack
 stack:=X.stack
 ex:=j.fp
 fn:=λ_=>AH
 calm:=X.calm
 pn:=[]
 xe:=No
def inn(slots:List (Option Nat))(σ:St):St:=slots.map λo=>o.bind λj=>(σ[j]?).join
structure yC(X:Cx)(sc:BB)(NC:List AR)(slots:List (Option Nat)):Prop where
 kind:sc.kind=.function
 names:∀y∈sc.names,y.2=.local->sc.names.lookup y.1=AA .local
 nocell:∀y∈sc.names,y.2 ≠ .cell
 free:∀y∈sc.names,y.2=.free->X.env.scope.names.lookup y.1=AA .cell
 slot:∀(i:Nat) (x:AR) (j:Nat),NC[i]?=AA x->slots[i]?=AA (AA j)->X.N[j]?=AA x/\sc.names.lookup x=AA .free
 len:slots.length=NC.length
def zhN{X:Cx}{sc:BB}{NC:List AR}{slots:List (Option Nat)}(N:List AR)(so:BB)(hN:X.N=N)(hs:X.env.scope=so)(kind:sc.kind=.function)
  (names:∀y∈sc.names,y.2=.local->sc.names.lookup y.1=AA .local) (nocell:∀y∈sc.names,y.2 ≠ .cell) (free:∀y∈sc.names,y.2=.free->so.names.lookup y.1=AA .cell)
  (slot:∀p∈NC.zip slots,(p.2.all λj=>decide (N[j]?=AA p.1/\sc.names.lookup p.1=AA .free))=AC) (len:slots.length=NC.length):yC X sc NC slots:=by
 subst hN hs;refine⟨kind,names,nocell,free,λi x j e1 e2=>?_,len⟩;have hm:(x,AA j)∈NC.zip slots:=AV (i:=i) (by rw[List.getElem?_zip_eq_some];exact⟨e1,e2⟩);have:=slot _ hm;simpa using this
section
variable {X:Cx}{sc:BB}{NC:List AR}{slots:List (Option Nat)}{π:List (AI×B6)}{σ:St}{H:Hp}{s:AG}
theorem yC.cells(O:yC X sc NC slots)(ok:X.Ok):∀y∈sc.names,y.2=.free->∃c,X.env.cells.lookup y.1=AA c:=λy hy hk=>ok.has y.1 (.inl (O.free y hy hk))
theorem yC.sub(O:yC X sc NC slots)(ok:X.Ok):∀x c,(ycA sc X.env).lookup x=AA c->X.env.cells.lookup x=AA c:=zaH sc.names [] (O.cells ok) λ_ _ e=>nomatch e
theorem yC.rel(O:yC X sc NC slots)(ok:X.Ok){x:AR}(h:sc.names.lookup x=AA .free):(relabel sc X.env).names.lookup x=AA .cell:=by
 rw[zaM,h];have e:X.env.kindOf x=AA .cell:=O.free _ (mem_of_lookup h) rfl;simp[ycb,ok.kind,e]
def zcK(I:Inv X π σ H s)(O:yC X sc NC slots){fp:List AI}(hf:∀b∈fp,yaH X π H b)(hob:∀b∈fp,∃o,s.heap.get? b=AA o){h1:Ah}{t':Nat}{m:AR->Option AD}(hns:h1.Ns s.heap.objs.size m)
  (hk:∀b o,s.heap.get? b=AA o->h1.get? b=AA o):Inv (cxC X sc NC ⟨s.heap.objs.size,s,H,fp⟩) [] (inn slots σ) H {s with heap:=h1,toks:=t'}:=by
 have sub:=O.sub I.ok;have fss:∀b,b≠X.env.locals->b∉X.fs->b∉frs X.stack:=λb h1 h2 hb=>(Ac.mp (I.stkSub b hb)).elim h1 h2;have ltC:∀x c,(ycA sc X.env).lookup x=AA c->c<s.heap.objs.size:=λx c e=>by
  let⟨v,q⟩:=I.cell x c (sub x c e);exact q.lt
 refine⟨⟨I.ok.mod,O.kind,I.ok.glob,I.ok.blt,AS _,λx y c e1 e2=>I.ok.inj x y c (sub x c e1) (sub y c e2),λx hx=>?_,λ_ _ z=>(nomatch z),I.ok.hd,I.ok.frames,.inl rfl,λb hb=>⟨?_,λx c e=>(hf b hb).2.2.2.2.1 x c (sub x c e)⟩,I.bs,BS I.ok.bsz I.sz,λb o e hb=>?_,λb hb=>fss b (hf b hb).2.1 (hf b hb).2.2.1,I.stack,I.stkFree⟩,
  rfl,I.bare,Un.kept hk,⟨m,hns,λi x v e1 e2 e3=>?_⟩,λx c e=>?_,I.hok.fresh (AS _),λx c e=>I.freeC x c (sub x c e),λp hp=>(nomatch hp),I.hok.kept hk,?_⟩
 .have hx':(relabel sc X.env).names.lookup x=AA .cell \/ (relabel sc X.env).names.lookup x=AA .free:=hx;rw[zaM]at hx'
  cases q:sc.names.lookup x with
  |none=>
   rw[q]at hx';rcases hx' with z|z<;>cases z
  |some k=>
   have hm:=mem_of_lookup q;have hkf:k=.free:=by
    rw[q]at hx';have nc:=O.nocell _ hm
    by_cases hk:k=.free
    .exact hk
    .exfalso;have hb:(k==CD)=false:=by simpa using hk
     rcases hx' with z|z
     .simp[ycb,hb]at z;exact nc z
     .simp[ycb,hb]at z;exact hk z
   subst hkf;exact zW sc.names [] _ hm rfl
 .let⟨o,e⟩:=hob b hb;exact A0 (AO e)
 .rcases (hf b hb).2.2.2.1 with z|z
  .exact I.ok.noex b o e z
  .exact absurd (AY (AO e) (BS I.ok.bsz z)) (Br _)
 .obtain⟨j,e4,e5⟩:∃j,slots[i]?=AA (AA j)/\σ[j]?=AA (AA v):=by
   have e2':(slots.map λo=>o.bind λj=>(σ[j]?).join)[i]?=AA (AA v):=e2;rw[BA]at e2'
   cases q:slots[i]? with
   |none=>
    rw[q]at e2'
    cases e2'
   |some o=>
    rw[q]at e2'
    cases o with
    |none=>cases e2'
    |some j=>
     refine⟨j,rfl,?_⟩;have e6:(σ[j]?).join=AA v:=AW e2'
     cases q2:σ[j]? with
     |none=>
      rw[q2]at e6
      cases e6
     |some w=>
      rw[q2]at e6;have e7:w=AA v:=e6;rw[e7]
  let⟨e6,e7⟩:=O.slot i x j e1 e4;have kc:X.env.scope.names.lookup x=AA .cell:=O.free _ (mem_of_lookup e7) rfl;let⟨m0,hn0,hl⟩:=I.loc;let⟨u,r,lk⟩:=hl j x v e6 e5 (.inr (.inl kc));refine⟨u,r,.inr ⟨.inl (O.rel I.ok e7),?_⟩⟩;rcases lk with⟨z,_⟩|⟨_,c,hc,o,ho,hd⟩
  .rw[show X.env.kindOf x=AA .cell from kc]at z
   cases z
  .let⟨c',hc'⟩:=zW (env:=X.env) sc.names [] _ (mem_of_lookup e7) rfl;have e8:c'=c:=AW ((sub x c' hc').symm.trans hc);subst e8;exact⟨c',hc',o,hk _ _ ho,hd⟩
 .let⟨v,o,ho,hd⟩:=I.cell x c (sub x c e);exact⟨v,o,hk _ _ ho,hd⟩
 .show (slots.map λo=>o.bind λj=>(σ[j]?).join).length=NC.length;rw[BN,O.len]
def zcJ(I:Inv X π σ H s){fp:List AI}(hf:∀b∈fp,yaH X π H b){C:AI}(hC:s.heap.objs.size<=C){pl:List (AI×B6)}{σ':St}{H':Hp}{s':AG}(J:Inv (cxC X sc NC ⟨C,s,H,fp⟩) pl σ' H' s')
  {h2:Ah} (hb:By C s'.heap h2):Inv X π σ H' {s' with heap:=h2}:=by
 have nC:∀b o,s.heap.get? b=AA o->b≠C:=λb o e=>A0 (AY (AO e) hC);have B:Un (frs X.stack) fp H H' s.heap s'.heap:=J.base;have fC:H' C=none:=J.free;refine I.call' (ch:=fp) J.os ⟨λb o e n h3 h4=>(hb.2 b (nC b o e)).trans (B.keep b o e n h3 h4),λb o e n h3 h4=>?_,B.free,λb o e h4=>?_,B.tups,B.frzs,B.tbls⟩ (λb u e=>?_) J.bare λb h3=>⟨(hf b h3).2.2.2.1,(hf b h3).2.1,(hf b h3).2.2.2.2.1,(hf b h3).2.2.2.2.2⟩
 .let⟨sl,q⟩:=B.slot b o e n h3 h4;exact⟨sl,(hb.2 b (nC b o e)).trans q⟩
 .let⟨o',q⟩:=B.there b o e h4;exact⟨o',(hb.2 b (nC b o e)).trans q⟩
 .refine(J.hok b u e).stay (λc v hc q=>(hb.2 c λz=>?_).trans q) (λ_ q=>q) λ_ _ q=>q;subst z;rcases hc with z|z
  .rw[z,e]at fC
   cases fC
  .rw[z]at fC
   cases fC
end
def PTs(X:Cx)(ifs:List AM)(t:TT):Prop:=
 ∀(π:List (AI×B6)) (s:AG) (σ:St) (H:Hp) (Q:Bool->Hp->Prop),Inv X π σ H s->t σ H Q->AN (model X.prog X.w) X.A (ycM ifs X.env) (TP X π σ Q) X.xe s
def ydH:TT:=λ_ H Q=>Q AC H
def zd7{X:Cx}:PTs X [] ydH:=λ_ _ _ H _ I h=>wpAny_tests_nil ⟨H,I,h⟩
def zcX{X:Cx}{c:AM}{t:TT}(h:PT X c t):PTs X [c] t:=λπ s σ H Q I q=>wpAny_tests_one (h π s σ H Q I q)
def ybW(J:It)(D:AI)(g:TG)(ti:TT)(te:TE)(W:Nat->Nat->St->List V->Hp->Prop)(Q:Hp->Prop):Prop:=
 ∀i m σc ys H2,W i m σc ys H2->H2 D=AA (.lst ys)/\((J.stop i H2/\Q H2) \/ (J.go i H2/\ys.length<sizeLine/\∃N:St->List V->Hp->Prop,(∀σ' ys' H',N σ' ys' H'->∃m',m' < m/\W (i+1) m' σ' ys' H') /\
  ∀x H3,J.yld i H2 x H3->g x σc H3 λσ4 H4=>ti σ4 H4 λb H5=>if b=AC then te σ4 H5 λy H6=>H6 D=AA (.lst ys)/\N σ4 (ys++[y]) (upd H6 D (.lst (ys++[y])))else N σ4 ys H5))
def ybb(slots:List (Option Nat))(wi:TI)(g:TG)(ti:TT)(te:TE):TE:=λσ H Q=>wi σ H λJ H1=>∀D,H1 D=AF->∃W:Nat->Nat->St->List V->Hp->Prop,(∃m,W 0 m (inn slots σ) [] (upd H1 D (.lst [])))/\ybW J D g ti te W (Q (.ref D))
section
variable {X:Cx}{sc:BB}{NC:List AR}{slots:List (Option Nat)}{elt tg iter:AM}{ifs:List AM}{pos:Bd}{g:TG}{ti:TT}{te:TE}
def zeh(hc:X.calm=AC)(hg:∀j,PG (cxC X sc NC j) tg g)(ht:∀j,PTs (cxC X sc NC j) ifs ti)(he:∀j,PE (cxC X sc NC j) elt te){cj:CI}{it D:AI}{tn:Nat->Ah->Prop}{J:It}
  {W:Nat->Nat->St->List V->Hp->Prop} {Q:Hp->Prop} {R:FT->AG->Prop} {s:AG} {σc:St} {ys:List V} {H:Hp} (T:Turn X.prog X.w X.K tg J cj.fp it tn)
  (I:Inv (cxC X sc NC cj) [] σc H s) (hf:∀b∈cj.fp,yaH (cxC X sc NC cj) [] H b) (st:tn 0 s.heap) {m:Nat} (w0:W 0 m σc ys H) (step:ybW J D g ti te W Q)
  (fin:∀σ' H' s',Inv (cxC X sc NC cj) [] σ' H' s'->Q H'->R (.ok .next) s'):
  codeAny (model X.prog X.w) X.A (.compLoop (.ListComp elt [⟨tg,iter,ifs,0⟩] sc pos) 0 (.ref it) (.ref D) (cxC X sc NC cj).env) R s:=by
 have stat:∀{H':Hp},(∀b∈cj.fp,H' b=AF)->∀b∈cj.fp,yaH (cxC X sc NC cj) [] H' b:=λhn b hb=>⟨hn b hb,(hf b hb).2⟩;refine zea (λn s'=>∃i σ' ys' H',Inv (cxC X sc NC cj) [] σ' H' s'/\tn i s'.heap/\(∀b∈cj.fp,H' b=AF)/\W i n σ' ys' H') ?_ m ⟨0,σc,ys,H,I,st,λb hb=>(hf b hb).1,w0⟩
 rintro n s3 ⟨i,σ3,ys3,H3,I3,st3,fr3,w3⟩
 let⟨hD,q⟩:=step i n σ3 ys3 H3 w3;rcases q with⟨stop,qn⟩|⟨go,hz,N,hN,turn⟩
 .refine thn (T.done (cxC X sc NC cj) rfl rfl rfl hc i [] s3 σ3 H3 No I3 (stat fr3) st3 stop) λr s4 kq=>?_;let⟨hr,I4⟩:=kq;subst hr;exact fin σ3 H3 s4 I4 qn
 .refine thn (T.item (cxC X sc NC cj) rfl rfl rfl hc i [] s3 σ3 H3 No I3 (stat fr3) st3 go) λr s4 kq=>?_;let⟨u,hr,h4⟩:=kq;subst hr;refine thn h4 λ_ s5 kq=>?_;let⟨x,H5,I5,r5,y5,st5,fr5⟩:=kq;have I5':=I5.pinned (stat fr5) (T.obj _ _ st5);refine thn (hg cj _ s5 σ3 H5 x u _ I5' r5 (turn x H5 y5)) λ_ s6 kq=>?_;let⟨σ6,H6,I6,q6⟩:=kq;refine thn (ht cj _ s6 σ6 H6 _ I6 q6) λok s7 kq=>?_;let⟨H7,I7,q7⟩:=kq;have again:∀{σ8:St} {ys8:List V} {H8:Hp} {s8:AG},Inv (cxC X sc NC cj) ([]++yaB cj.fp s5.heap) σ8 H8 s8->N σ8 ys8 H8->∃m,m<n/\∃i σ' ys' H',Inv (cxC X sc NC cj) [] σ' H' s8/\tn i s8.heap/\(∀b∈cj.fp,H' b=AF)/\W i m σ' ys' H':=λ{σ8 ys8 H8 s8} I8 n8=>by
   let⟨m',hm,w8⟩:=hN σ8 ys8 H8 n8;refine⟨m',hm,i+1,σ8,ys8,H8,I8.unpinned,T.keep _ _ _ st5 λb hb o e=>(I8.pin (b,o) (A9 _ (A9 _ (zH hb e)))).1,λb hb=>?_,w8⟩;let⟨o,e,d⟩:=T.obj _ _ st5 b hb;exact(I8.pin (b,o) (A9 _ (A9 _ (zH hb e)))).2.1
  cases ok with
  |false=>
   rw[if_neg AQ]at q7 ⊢;exact again I7 q7
  |true=>
   rw[if_pos rfl]at q7 ⊢;refine thn (he cj _ s7 σ6 H7 _ I7 q7) λy s8 kq=>?_;let⟨v,H8,I8,r8,hD8,q8⟩:=kq;refine thn (zbt (X:=cxC X sc NC cj) _ s8 σ6 H8 (.ref D) [v] (.ref D) [y] (λz H'=>z=.non/\H'=upd H8 D (.lst (ys3++[v]))) I8 rfl (.cons r8 .nil) ⟨D,ys3,v,rfl,rfl,hD8,hz,rfl,rfl⟩) λz s9 kq=>?_;let⟨zv,H9,I9,r9,e1,e2⟩:=kq;subst e2;exact again I9 q8
def zaO(hc:X.calm=AC)(O:yC X sc NC slots)(hg:∀j,PG (cxC X sc NC j) tg g)(ht:∀j,PTs (cxC X sc NC j) ifs ti)(he:∀j,PE (cxC X sc NC j) elt te){π:List (AI×B6)}{s:AG}{σ:St}{H:Hp}(I:Inv X π σ H s)
  {it:AI} {fp:List AI} {tn:Nat->Ah->Prop} {J:It} (T:Turn X.prog X.w X.K tg J fp it tn) (st:tn 0 s.heap) (hf:∀b∈fp,yaH X π H b) {Q:VK}
  (h:∀D,H D=AF->∃W:Nat->Nat->St->List V->Hp->Prop,(∃m,W 0 m (inn slots σ) [] (upd H D (.lst [])))/\ybW J D g ti te W (Q (.ref D))) {RR:AD->AI->FT->AG->Prop}
  (fin:∀D C s' H',Q (.ref D) H'->(∃o m,s'.heap.get? C=AA o/\s'.heap.Ns C m/\∀v,o.data ≠ .cell v)->yaH X π H' C->(∀h2,By C s'.heap h2->Inv X π σ H' {s' with heap:=h2})->RR (.ref D) C (.ok .next) s'):
  AN (model X.prog X.w) X.A (newList []) (λacc s3=>AN (model X.prog X.w) X.A (newFunctionEnv sc X.env.globals (ycA sc X.env) [] X.env.qual AF .none (AA X.env)) (λcenv s4=>
   codeAny (model X.prog X.w) X.A (.compStart (.ListComp elt [⟨tg,iter,ifs,0⟩] sc pos) 0 (.ref it) acc {cenv with scope:=relabel sc X.env}) (RR acc cenv.locals) s4) X.xe s3) X.xe s:=by
 refine Au (wpAny_newFunctionEnv O.nocell (by intro y hy;simp at hy) (λh1 hns1 hsb1=>?_) O.kind);dsimp only at hns1 hsb1 ⊢;have hDn:H s.heap.objs.size=none:=I.hok.fresh (AS _);let⟨W,⟨m,w0⟩,step⟩:=h s.heap.objs.size hDn;obtain⟨s3,hs3⟩:∃x:AG,x=({s with heap:=s.heap.push {cls:=.type "list",dict:=AF,data:=.seq ([]:List AD).toArray} }:AG):=⟨_,rfl⟩;have e3:s3.heap=s.heap.push {cls:=.type "list",dict:=AF,data:=.seq ([]:List AD).toArray}:=by rw[hs3]
 rw[<-e3]at hns1 hsb1;have hp3:∀b o,s.heap.get? b=AA o->s3.heap.get? b=AA o:=λb o e=>by
  rw[e3];exact AL _ e
 have I3:Inv X π σ (upd H s.heap.objs.size (.lst [])) s3:=by
  have q:=I.laid (a:=s.heap.objs.size) (o:=.lst []) (h':=s3.heap) (t':=s.toks) hp3 (AS _) ⟨BK _,[],_,.nil,by rw[e3];exact AX _ rfl⟩;rw[hs3]at q ⊢;exact q
 have hf3:∀b∈fp,yaH X π (upd H s.heap.objs.size (.lst [])) b:=λb hb=>by
  let⟨o,e,_⟩:=T.obj _ _ st b hb;refine⟨?_,(hf b hb).2⟩;rw[za (A0 (AO e))];exact(hf b hb).1
 have st3:tn 0 s3.heap:=T.keep _ _ _ st λb _ o e=>hp3 b o e;have hob:∀b∈fp,∃o,s3.heap.get? b=AA o:=λb hb=>by
  let⟨o,e,_⟩:=T.obj _ _ st3 b hb;exact⟨o,e⟩
 have hk1:∀b o,s3.heap.get? b=AA o->h1.get? b=AA o:=λb o e=>hsb1.extBut b o (A0 (AO e)) (AL _ e);have J1:=zcK (t':=s3.toks+([]:List (AR×AD)).length) I3 O hf3 hob hns1 hk1;have hfc:∀b∈fp,yaH (cxC X sc NC ⟨s3.heap.objs.size,s3,upd H s.heap.objs.size (.lst []),fp⟩) [] (upd H s.heap.objs.size (.lst [])) b:=λb hb=>
  ⟨(hf3 b hb).1,(J1.ok.exf b hb).1,J1.ok.exfs b hb,.inl hb,(J1.ok.exf b hb).2,λp hp=>nomatch hp⟩
 have loop:codeAny (model X.prog X.w) X.A (.compLoop (.ListComp elt [⟨tg,iter,ifs,0⟩] sc pos) 0 (.ref it) (.ref s.heap.objs.size) (cxC X sc NC ⟨s3.heap.objs.size,s3,upd H s.heap.objs.size (.lst []),fp⟩).env) (RR (.ref s.heap.objs.size) s3.heap.objs.size)
   {s3 with heap:=h1,toks:=s3.toks+([]:List (AR×AD)).length}:=by
  refine zeh (D:=s.heap.objs.size) (Q:=Q (.ref s.heap.objs.size)) hc hg ht he T J1 hfc (T.keep _ _ _ st3 λb _ o e=>hk1 b o e) w0 step λσ' H' s' J' q'=>?_;have fC:H' s3.heap.objs.size=none:=J'.free;refine fin _ _ s' H' q' ?_ (I3.fpOk (AS _) fC) λh2 hb=>zcJ I3 hf3 (AS _) J' hb;let⟨m',hn',_⟩:=J'.loc;let⟨o,es,ep,ho,hd,r⟩:=id hn';exact⟨o,m',ho,hn',λv z=>by rw[hd]at z;cases z⟩
 have self:=λ(RQ:AD->AG->Prop) (EE:AD->AG->Prop)=>T.self X.A 0 {s3 with heap:=h1,toks:=s3.toks+([]:List (AR×AD)).length} RQ EE (T.keep _ _ _ st3 λb _ o e=>hk1 b o e);subst hs3;exact codeAny_compStart_list loop (self _ _ loop)
variable {wi:TI}
def zb0(hc:X.calm=AC)(O:yC X sc NC slots)(hi:PI X tg iter wi)(hg:∀j,PG (cxC X sc NC j) tg g)(ht:∀j,PTs (cxC X sc NC j) ifs ti)(he:∀j,PE (cxC X sc NC j) elt te)
  (hs:∀x,foldedSetIterable iter X.env x=pure x:=by intro _;rfl):PE X (.ListComp elt [⟨tg,iter,ifs,0⟩] sc pos) (ybb slots wi g ti te):=by
 intro π s σ H Q I h;rw[eval_ListComp];refine Da (use:=AF) rfl hs (zz (O.cells I.ok)) O.kind O.names (thn (hi π s σ H _ I h) λv s1 h1=>thn h1 λitv s2 h2=>?_);let⟨it,fp,tn,J,H2,rfl,I2,T,st2,f2,q2⟩:=h2;refine zaO hc O hg ht he I2 T st2 f2 q2 λD C s' H' q' ⟨o,m,ho,hn,_⟩ _ out=>⟨m,hn,λh2 hb=>⟨.ref D,H',out h2 hb,rfl,q'⟩⟩
def zgy{i:Nat}{x:AR}{px spos:Bd}(hN:X.N.Nodup)(hix:X.N[i]?=AA x)(hx:Loc X.env.scope x)(hc:X.calm=AC)(O:yC X sc NC slots)(hi:PI X tg iter wi)(hg:∀j,PG (cxC X sc NC j) tg g)(ht:∀j,PTs (cxC X sc NC j) ifs ti)(he:∀j,PE (cxC X sc NC j) elt te)
  (hsw:swapsWith (.ListComp elt [⟨tg,iter,ifs,0⟩] sc pos) (AA (.Name x px)) spos.line X.env=pure true:=by rfl) (hs:∀x,foldedSetIterable iter X.env x=pure x:=by intro _;rfl)
  (hf:X.fn x=AC \/ X.env.scope.names.lookup x=AA .local:=by first|exact .inl rfl|exact .inr rfl|assumption):PS X (.Assign [.Name x px] (.ListComp elt [⟨tg,iter,ifs,0⟩] sc pos) spos) (ydI (ybb slots wi g ti te) (ya0 i)):=by
 intro π s σ H Dd I h;rw[exec_Assign_Name_used _ _ _ _ hsw,arm_evalThenUse_ListComp];refine AB (Cv (AB (AB ?_)));refine Da (Q:=λ_ s'=>AN (model X.prog X.w) X.A (pure ()) (λ_ s''=>AN (model X.prog X.w) X.A (pure GT) (SP X π Dd) X.xe s'') X.xe s') rfl hs (zz (O.cells I.ok)) O.kind O.names (thn (hi π s σ H _ I h) λv s1 h1=>thn h1 λitv s2 h2=>?_);let⟨it,fp,tn,J,H2,rfl,I2,T,st2,f2,q2⟩:=h2;refine zaO (Q:=λx H1=>ya0 i x σ H1 Dd.nx) hc O hg ht he I2 T st2 f2 q2 λD C s' H' q' ⟨o,m,ho,hn,hd⟩ FC out=>?_;have I':Inv X π σ H' s':=out s'.heap (Gj ..);have Ip:Inv X (π++[(C,o)]) σ H' s':=I'.pins_of λp hp=>(CT.mp hp).elim (λz=>I'.pin p (A9 _ z)) λz=>by
  have e:p=(C,o):=by simpa using z
  subst e;exact⟨ho,FC.1,FC.2.1,FC.2.2.1,hd⟩
 show AN (model X.prog X.w) X.A (assign (.Name x px) X.env (.ref D)) _ _ s';refine FB (zG Ip hN hix hx (show RelV (.ref D) (.ref D)from rfl) (λs6 I6=>?_) hf);have g6:=(I6.pin (C,o) (A9 _ (A9 _ Ai))).1;let⟨o',es,ep,ho',r⟩:=hn;rw[ho]at ho'
 cases ho'
 refine⟨m,⟨o,es,ep,g6,r⟩,λh2 hb=>AK (AK ?_)⟩;exact⟨_,H',I6.unpinned.turned (t':=s6.toks) (λb u hb' e=>(hb.2 b hb').trans e) FC.1 FC.2.1 FC.2.2.2.1 FC.2.2.2.2.1 FC.2.2.2.2.2,q'⟩
end
def zcq:∀{bs:List Bool} {us:List AD},Vals (bs.map V.bl) us->LSm.BoolsAre us bs
 |[],_,.nil=>.nil
 |b::bs,_,.cons r q=>by
  cases (show _=Dv b from r)
  exact .cons b (zcq q)
section
variable {X:Cx}
def yeC(K:AE):List V->Hp->VK->Prop:=λxs H Q=>∃(l:AI) (bs:List Bool),xs=[.ref l]/\SqL K H l (bs.map V.bl)/\Q (.bl (bs.all id)) H
def zeB(hc:X.calm=AC):yM X (.builtin "all") (yeC X.K):=by
 intro π s σ H xs us Q I r h;let⟨l,bs,rfl,hq,q⟩:=h;let⟨u,rfl,ru⟩:=Vals.one r
 cases (show u=A8 l from ru)
 let⟨its,rv,pl,hz⟩:=I.list hq;have hb:=zcq rv;have hl:=pl.isList;have hlt:l<s.heap.objs.size:=by
  let⟨_,e,_⟩:=hl;exact AO e
 refine call_all_walk (D7 hl ?_);refine⟨s.heap.objs.size,[s.heap.objs.size,l],[s.heap.objs.size],its.toArray.size,_,_,λi=>(bs[i]?).getD AC,rfl,Walks.list (A:=X.A.in1) (I.ok.hd hc) _ l (A0 hlt) its.toArray,⟨⟨_,AX _ rfl,rfl,rfl⟩,hl.push _⟩,λi v s' Q' E' hP hQ=>?_,λh' tk hk=>?_⟩
 .let⟨b,e,rfl⟩:=hb.get i v (by simpa using hP);erw[e,BQ]at hQ;exact BJ hQ
 .have e:((Dw its.toArray.size).all λi=>(bs[i]?).getD AC)=bs.all id:=by
   rw[AU,hb.length];exact LSm.range_all bs
  rw[e];exact⟨.bl _,H,I.kept (t':=tk) (LSm.kept_iter hk),rfl,q⟩
end
section
variable {X:Cx}{π:List (AI×B6)}{σ:St}{H:Hp}{s:AG}
end
section
variable {X:Cx}{a:AM}{ta:TE}{K:AE}
end
end L2
namespace L2
end L2
namespace L2
open PySem PySem.Spec PyProof.Rows
def CX1(P:AT)(w:A3):CXT:=λouter H s E e s'=>∃(a:AI) (cls a0:AD) (H':Hp) (B:Ah),e=.ref a/\s'.os=s.os/\Cu s'.gens/\GZ B outer a cls a0 s'.heap/\HOk P w H' s'.heap/\Un (frs outer) [] H H' s.heap s'.heap /\
 (∀b o,s.heap.get? b=AA o->H b=AF->b∉frs outer->B.get? b=AA o)/\(∀b u,H' b=AA u->∃o,B.get? b=AA o)/\(∀b o,s.heap.get? b=AA o->b∉frs outer->∃o',B.get? b=AA o')/\E cls AF H'
theorem yp.there{P:AT}{w:A3}{H:Hp}{h:Ah}{a:AI}{o:HO}(x:yp P w H h a o):∃ob,h.get? a=AA ob:=by
 induction o with
 |lst xs=>let⟨_,_,_,_,e⟩:=x;exact⟨_,e⟩
 |tup xs=>let⟨_,_,_,e⟩:=x;exact⟨_,e⟩
 |dK kvs=>let⟨_,_,_,_,ob,_,_,e,_⟩:=x;exact⟨ob,e⟩
 |dT kvs=>let⟨_,_,_,_,ob,_,_,e,_⟩:=x;exact⟨ob,e⟩
 |set S n=>let⟨ob,_,_,_,e,_⟩:=x;exact⟨ob,e⟩
 |ins C dx fs=>let⟨_,_,_,e,_⟩:=x;exact⟨_,e⟩
 |own y=>exact x
 |xd fs=>let⟨_,⟨ob,_,_,e,_⟩,_⟩:=x;exact⟨ob,e⟩
 |rng lo hi=>let⟨_,_,_,e⟩:=x;exact⟨_,e⟩
 |frz ob u ih=>exact⟨ob,x.1⟩
 |tbl ps=>exact⟨_,x⟩
 |met f y=>exact⟨_,x⟩
 |ext φ=>exact x.2.1
theorem HOk.inB{P:AT}{w:A3}{H:Hp}{h h' B:Ah}(ok:HOk P w H h)(hB:B.StaysIn h)(hB':B.StaysIn h')(tr:∀b u,H b=AA u->∃o,B.get? b=AA o):HOk P w H h':=λa o e=>
 (ok a o e).stay (λb u hb q=>by
  have hb':∃o,B.get? b=AA o:=by
   rcases hb with z|z
   .rw[z];exact tr a o e
   .exact tr b _ z
  let⟨o',q'⟩:=hb';have:=hB b o' q';rw[q]at this
  cases this
  exact hB' b u q') (λ_ q=>q) λ_ _ q=>q
section
variable {P:AT}{w:A3}{K:AE}{mg:AR->Option AD}{base:Ah}{N:List AR}{qual:AR}{scope:BB}{f:AI}{cd:AD}{A:A5}{outer:List Env}{s₀:AG}{H₀:Hp}{E:XK}
 {π:List (AI×B6)} {σ:St} {H:Hp} {s:AG}
def zdK{h':Ah}{e:AI}{cls:AD}{vs:List AD}(I:Inv (yag (CX1 P w) P w K mg base N qual scope f cd A outer s₀ H₀ E) π σ H s)(hx:Fk s.heap h' e cls vs)(hE:E cls AF H):
  (yag (CX1 P w) P w K mg base N qual scope f cd A outer s₀ H₀ E).xe (.ref e) {s with heap:=h'}:=by
 have stk:s.heap.FunFrames base (envOfC qual scope s₀.heap.objs.size f cd::outer):=I.stack;have hst:∀b,b∈frs (envOfC qual scope s₀.heap.objs.size f cd::outer)->b=s₀.heap.objs.size \/ b∈frs outer:=λb hb=>by
  have hb':b∈s₀.heap.objs.size::frs outer:=hb;exact Ac.mp hb'
 have inB:∀b o,s.heap.get? b=AA o->b∉frs (envOfC qual scope s₀.heap.objs.size f cd::outer)->(CS s.heap (frs (envOfC qual scope s₀.heap.objs.size f cd::outer))).get? b=AA o:=λb o q n=>Eb _ q n;have hB:(CS s.heap (frs (envOfC qual scope s₀.heap.objs.size f cd::outer))).StaysIn s.heap:=λb o q=>Et _ q;have bse:Un (frs outer) [] H₀ H s₀.heap s.heap:=I.base;have lt:∀b o,s₀.heap.get? b=AA o->b≠s₀.heap.objs.size:=λb o q=>A0 (AO q);have tr:∀b u,H b=AA u->∃o,(CS s.heap (frs (envOfC qual scope s₀.heap.objs.size f cd::outer))).get? b=AA o:=λb u q=>by
  let⟨o,ho⟩:=yp.there (I.hok b u q);exact⟨o,inB b o ho λhb=>by
   have:=I.stkFree b hb;rw[q]at this
   cases this⟩
 refine wpAny_leaves_madeW (base:=CS s.heap (frs (envOfC qual scope s₀.heap.objs.size f cd::outer))) (h:=s.heap) I.ok.frames rfl hB (PySem.W.funFrames_hide stk λenv he a ha=>DS.mpr ⟨env,he,ha⟩) hx λh'' t fl tu tn up=>?_;have up':s.heap.UpToSlots h'':=(GV hx.keeps).trans up;refine⟨e,cls,_,H,_,rfl,I.os,I.bare,fl,HOk.inB I.hok hB fl.1 tr,⟨λb o q n hb _=>?_,λb o q n hb _=>?_,bse.free,λb o q _=>?_,bse.tups,bse.frzs,bse.tbls⟩,λb o q n hb=>?_,tr,λb o q hb=>?_,hE⟩
 .refine fl.1 b o (inB b o (bse.keep b o q n hb (by simp)) λz=>?_);rcases hst b z with z|z
  .exact lt b o q z
  .exact hb z
 .let⟨sl,q1⟩:=bse.slot b o q n hb (by simp);let⟨_,o',ho',hd⟩:=Bj stk (show b∈Cd (λ(z:Env)=>z.frame) _ from AZ _ hb);let⟨sl',q2⟩:=up' b _ q1 (by rw[ho']at q1;cases q1;exact hd);exact⟨sl',q2⟩
 .let⟨o',q1⟩:=bse.there b o q (by simp)
  by_cases hb:b∈frs (envOfC qual scope s₀.heap.objs.size f cd::outer)
  .let⟨_,o2,ho',hd⟩:=Bj stk hb;let⟨sl',q2⟩:=up' b _ ho' hd;exact⟨_,q2⟩
  .exact⟨o',fl.1 b o' (inB b o' q1 hb)⟩
 .refine inB b o (bse.keep b o q n hb (by simp)) λz=>?_;rcases hst b z with z|z
  .exact lt b o q z
  .exact hb z
 .let⟨o',q1⟩:=bse.there b o q (by simp);refine⟨o',inB b o' q1 λz=>?_⟩;rcases hst b z with z|z
  .exact lt b o q z
  .exact hb z
def zhS:yct (CX1 P w) (yag (CX1 P w) P w K mg base N qual scope f cd A outer s₀ H₀ E) E:=by
 intro π σ H s e s' I h;let⟨a,cls,a0,H',B,rfl,os,bare,fl,hok,un,hB,tr,hT,hE⟩:=h;have bse:Un (frs outer) [] H₀ H s₀.heap s.heap:=I.base;have lt:∀b o,s₀.heap.get? b=AA o->b≠s₀.heap.objs.size:=λb o q=>A0 (AO q);have hst:∀b,b∈frs (envOfC qual scope s₀.heap.objs.size f cd::outer)->b=s₀.heap.objs.size \/ b∈frs outer:=λb hb=>by
  have hb':b∈s₀.heap.objs.size::frs outer:=hb;exact Ac.mp hb'
 have un':Un (frs (envOfC qual scope s₀.heap.objs.size f cd::outer)) [] H H' s.heap s'.heap:=un;have kB:∀b o,s₀.heap.get? b=AA o->H₀ b=AF->b∉frs outer->B.get? b=AA o:=λb o q n hb=>hB b o (bse.keep b o q n hb (by simp)) (bse.free b o q n (by simp)) λz=>by
  rcases hst b z with z|z
  .exact lt b o q z
  .exact hb z
 have kT:∀b o,s₀.heap.get? b=AA o->b∉frs outer->∃o',B.get? b=AA o':=λb o q hb=>by
  let⟨o',q1⟩:=bse.there b o q (by simp);refine hT b o' q1 λz=>?_;rcases hst b z with z|z
  .exact lt b o q z
  .exact hb z
 refine wpAny_leaves_onW I.ok.frames rfl fl λh'' fl' up=>?_;refine⟨a,cls,a0,H',B,rfl,os.trans I.os,bare,fl',HOk.inB hok fl.1 fl'.1 tr,⟨λb o q n hb _=>fl'.1 b o (kB b o q n hb),λb o q n hb _=>?_,λb o q n _=>?_,λb o q _=>?_,λb xs q=>un'.tups b xs (bse.tups b xs q),λb o u q=>un'.frzs b o u (bse.frzs b o u q),λb ps q=>?_⟩,kB,tr,kT,hE⟩
 .let⟨sl,q1⟩:=bse.slot b o q n hb (by simp);have n1:=bse.free b o q n (by simp);let⟨sl1,q2⟩:=un'.slot b _ q1 n1 (AZ _ hb) (by simp);let⟨_,o',ho',hd⟩:=Bj fl.2.2.1 (show b∈Cd (λ(z:Env)=>z.frame) _ from AZ _ hb);let⟨sl',q3⟩:=up b _ q2 (by rw[ho']at q2;cases q2;exact hd);exact⟨sl',q3⟩
 .let⟨o',q1⟩:=bse.there b o q (by simp);exact un'.free b o' q1 (bse.free b o q n (by simp)) (by simp)
 .let⟨o',q1⟩:=bse.there b o q (by simp);let⟨o2,q2⟩:=un'.there b o' q1 (by simp)
  by_cases hb:b∈frs outer
  .let⟨_,o3,ho3,hd⟩:=Bj fl.2.2.1 (show b∈Cd (λ(z:Env)=>z.frame) _ from AZ _ hb);let⟨sl',q3⟩:=up b _ ho3 hd;exact⟨_,q3⟩
  .let⟨o4,q4⟩:=kT b o q hb;exact⟨o4,fl'.1 b o4 q4⟩
 .let⟨m1,e1⟩:=bse.tbls b ps q;let⟨m2,e2⟩:=un'.tbls b _ e1;exact⟨m1++m2,by rw[e2,DO]⟩
end
section
variable {X:Cx}{e:AM}{es:List AM}{te:TE}
end
section
variable {X:Cx}{e:AM}{es:List AM}{t:TA}{E:XK}
end
structure ydu(K:AE)(C:AI):Prop where
 ga:Ad K (.ref C) "__getattribute__"=AA (AA (.builtin "BaseException.__getattribute__"))
 gh:Ad K (.ref C) "__getattr__"=AA AF
 cl:Ad K (.ref C) "__class__"=AA (AA (.builtin "object.__class__"))
 sb:GJ K (.ref C) (.type "BaseException")=AA AC
 mo:GL K C (.type "object")=AA AC
 ct:∃cd,GM K C=AA cd
section
variable {pg:AT}{wd:A3}{A:A5}{E:AD->AG->Prop}{h:Ah}{g:Array GenState}{d:Drawn}{t:Nat}{os:OsState}{a C:AI}{o:B6}{K:AE}
end
def yeD(a C:AI):Ah->Prop:=λh=>∃o,h.get? a=AA o/\o.cls=.ref C
section
variable {X:Cx}
end
section
variable {X:Cx}{π:List (AI×B6)}{σ:St}{H:Hp}{s:AG}
end
section
variable {X:Cx}{π:List (AI×B6)}{σ:St}{H:Hp}{s:AG}
end
section
variable {X:Cx}{body suite:List Bb}{b₀:Bb}{x n:AR}{np hpos pos:Bd}{tb:XK->TS}{ts:TS}{W:AI}{i:Nat}
end
structure yW(k:Nat)(A:A5):Prop where
 dp:A.depth+3*k+5<recursionLimit
 un:A.units+16*k+200<cLine
theorem yao.h{k:Nat}{A:A5}(r:yao k A):yW k A:=⟨r.dp,r.un⟩
theorem yW.deeper{k:Nat}{A:A5}(r:yW (k+1) A)(env:Env):yW k (A.deeper env):=⟨by have:=r.dp;show A.depth+1+3*k+5<_;lia,by have:=r.un;show A.units+3+16*k+200<_;lia⟩
structure ybh(P:AT)(w:A3)(K:AE)(mg:AR->Option AD)(base:Ah)(k:Nat)(f:AI)(fd:Af)(ps:List AR)(sp:Sp):Prop where
 len:∀vs H Q E,sp vs H Q E->vs.length=ps.length
 run:∀(A:A5) (outer:List Env) (s:AG) (H:Hp) (args:Args) (us:List AD) (vs:List V) (Q:VK),yW k A->yb7 P w K mg base A outer s H->EA s fd args (ps.zip us)->Vals vs us->sp vs H Q E0 ->
  codeAny (model P w) A (.call (.ref f) args) (CR CX0 outer P w H s Q E0) s
abbrev ya3(P:AT)(w:A3)(K:AE)(mg:AR->Option AD)(base:Ah)(N:List AR)(qual:AR)(scope:BB)(f:AI)(cd:AD)(A:A5)(outer:List Env)(s:AG)(H:Hp):Cx:=
 {yag CX0 P w K mg base N qual scope f cd A outer s H E0 with calm:=AH,xe:=No}
theorem Inv.calmless{X:Cx}{π:List (AI×B6)}{σ:St}{H:Hp}{s:AG}(I:Inv X π σ H s)(A:A5)(E:AD->AG->Prop)(hf:A.frames=X.A.frames):Inv {X with A:=A,calm:=AH,xe:=E} π σ H s:=
 ⟨⟨I.ok.mod,I.ok.kind,I.ok.glob,I.ok.blt,I.ok.above,I.ok.inj,I.ok.has,I.ok.cab,(λz=>nomatch z),hf.trans I.ok.frames,I.ok.stk,I.ok.exf,I.ok.bs,I.ok.bsz,I.ok.noex,I.ok.exfs,I.ok.funs,I.ok.frf⟩,I.os,I.bare,I.base,I.loc,I.cell,I.free,I.freeC,I.pin,I.hok,I.len⟩
section
variable {P:AT}{w:A3}{K:AE}{mg:AR->Option AD}{base:Ah}
theorem Fun.okH{x qual:AR}{st:Bb}{f:AI}{fd:Af}{N ps:List AR}{k:Nat}{sp:Sp}(F:Fun K x qual st f fd)(S:yX N ps (ye st))(len:∀vs H Q E,sp vs H Q E->vs.length=ps.length)
  (hbody:∀(cdv:AD) (A:A5) (outer:List Env) (s:AG) (H:Hp) (vs:List V) (Q:VK),yW k (A.deeper (envOfC qual (ye st) s.heap.objs.size f cdv))->sp vs H Q E0 ->
   ∃t,PSs (ya3 P w K mg base N qual (ye st) f cdv A outer s H) (yq st) t/\t {nx:=λ_ H'=>Q .non H',rt:=Q} (start N vs) H):ybh P w K mg base (k+1) f fd ps sp:=by
 let⟨oc,od,kV,doc,pm,an,cdv,ct,osl,rfl,lk,hcd⟩:=F.ex;refine⟨len,λA outer s H args us vs Q hr e0 hb r hsp=>?_⟩;have hl:=len _ _ _ _ hsp;have KX:K.In s.heap:=e0.mod.kin.keeps λb o e=>(e0.bs b o e).1;have lim:s.heap.NoLimit:=e0.mod.nolimit.keeps λb o e=>(e0.bs b o e).1;have hkind:∀y∈ps.zip us,(ye st).names.lookup y.1=AA .local \/ ((ye st).names.lookup y.1=AA .cell/\((cellsFrom (s.heap.objs.size+1) (ye st).names []).lookup y.1).isSome=AC):=λ⟨n,v⟩ hy=>by
  rcases S.par n (DB hy).1 with q|q
  .exact .inl q
  .exact .inr ⟨q,C7 _ _ _ (.inl q)⟩
 refine EU (by have:=hr.dp;lia) (KX _ _ lk) rfl S.co S.gen rfl (Eu KX hcd) (hb _ _ _ _ ?_);refine DV S.kind hkind λenv he s1 x=>?_;subst he;refine⟨lim.keeps x.toInCall.keep,codeAny_func ?_⟩;let⟨t,ht,hq⟩:=hbody cdv A outer s H vs Q (hr.deeper _) hsp;have e0':yb7 P w K mg base {A with handled:=AF} outer s H:=⟨e0.frames,e0.mod,e0.bs,e0.bsz,e0.funs,e0.frf,e0.hok,e0.bare⟩;have I0:Inv (yag CX0 P w K mg base N qual (ye st) f cdv {A with handled:=AF} outer s H E0) [] (start N vs) H s1:=zbp S rfl e0' hl r x;have I:Inv (ya3 P w K mg base N qual (ye st) f cdv A outer s H) [] (start N vs) H s1:=I0.calmless (A.deeper (envOfC qual (ye st) s.heap.objs.size f cdv)) No rfl;refine BW (ht [] s1 (start N vs) H _ I hq) (λfl s' hs=>?_) λe s' z=>z.elim;have fin:∀{σ':St} {H':Hp} {v:V} {u:AD},Inv (ya3 P w K mg base N qual (ye st) f cdv A outer s H) [] σ' H' s'->RelV v u->Q v H'->CE outer P w H s Q u s':=
  λ{σ' H' v u} J rv q=>⟨v,H',J.os,J.bare,J.base,J.hok,rv,q⟩
 cases fl with
 |ret u=>
  let⟨v,σ',H',J,rv,q⟩:=hs;exact fin J rv q
 |next=>
  let⟨σ',H',J,q⟩:=hs;exact fin (v:=V.non) (u:=BI) J rfl q
 |brk=>
  let⟨_,_,_,q⟩:=hs;exact BY q
 |cont=>
  let⟨_,_,_,q⟩:=hs;exact BY q
end
section
variable {X:Cx}{k:Nat}{f:AI}{fd:Af}{ps:List AR}{sp:Sp}{x:AR}{p pos:Bd}{e:AM}{es:List AM}{t:TA}
end
section
variable {P:AT}{w:A3}{K:AE}{mg:AR->Option AD}{base:Ah}
theorem own1{N:List AR}{qual:AR}{scope:BB}{f:AI}{cd:AD}{A:A5}{outer:List Env}{s:AG}{H:Hp}{E:XK}{CX:CXT}:
  Dj (model (yag CX P w K mg base N qual scope f cd A outer s H E).prog (yag CX P w K mg base N qual scope f cd A outer s H E).w) (yag CX P w K mg base N qual scope f cd A outer s H E).A (yag CX P w K mg base N qual scope f cd A outer s H E).env (yag CX P w K mg base N qual scope f cd A outer s H E).xe:=
 PassesOwn.leaving
end
section
variable {X:Cx}
end
section
variable {X:Cx}
end
section
variable {κ:Type}[DecidableEq κ]
def yaf(kvs:List (κ×V))(k:κ):Option V:=(kvs.find? λkv=>decide (kv.1=k)).map (·.2)
def putK(kvs:List (κ×V))(k:κ)(v:V):List (κ×V):=
 if (kvs.any λkv=>decide (kv.1=k))=AC then kvs.map (λkv=>if kv.1=k then(kv.1,v)else kv)else kvs++[(k,v)]
def zq{p:κ×V}{r:List (κ×V)}{k:κ}(e:p.1=k):yaf (p::r) k=AA p.2:=by simp[yaf,B9,e]
def zu{p:κ×V}{r:List (κ×V)}{k:κ}(e:¬p.1=k):yaf (p::r) k=yaf r k:=by simp[yaf,B9,e]
def zch(k:κ):∀kvs:List (κ×V),(kvs.any λkv=>decide (kv.1=k))=(yaf kvs k).isSome
 |[]=>rfl
 |p::r=>by
  rw[Bc]
  by_cases e:p.1=k
  .simp only[zq e,decide_eq_true e,G0,Option.isSome_some]
  .rw[zu e,decide_eq_false e,GN];exact zch k r
def zw(kvs:List (κ×V))(k:κ)(v:V):(putK kvs k v).length<=kvs.length+1:=by
 unfold putK;split
 .rw[BN];lia
 .rw[BX,Ag,Bn];lia
theorem yaX.isSome_eq{o:Option V}{u:Option AD}(r:yaX o u):o.isSome=u.isSome:=by
 cases o with
 |none=>cases u with
  |none=>rfl
  |some _=>exact(show False from r).elim
 |some _=>cases u with
  |none=>exact(show False from r).elim
  |some _=>rfl
theorem yaX.getD{o:Option V}{u:Option AD}{d:V}{d':AD}(r:yaX o u)(rd:RelV d d'):RelV (o.getD d) (u.getD d'):=by
 cases o with
 |none=>cases u with
  |none=>exact rd
  |some _=>exact(show False from r).elim
 |some _=>cases u with
  |none=>exact(show False from r).elim
  |some _=>exact r
theorem KV.val{kvs:List (κ×V)}{vs:List (κ×AD)}(r:KV kvs vs)(k:κ):yaX (yaf kvs k) (valueAt vs k):=by
 unfold KV at r
 induction r with
 |nil=>exact Ba
 |@cons p q ps qs h t ih=>
  let⟨h1,h2⟩:=h
  by_cases e:p.1=k
  .have e':q.1=k:=h1.symm.trans e;have b:valueAt (q::qs) k=AA q.2:=by simp[valueAt,B9,e']
   rw[zq e,b];exact h2
  .have e':¬q.1=k:=λz=>e (h1.trans z);have b:valueAt (q::qs) k=valueAt qs k:=by simp[valueAt,B9,e']
   rw[zu e,b];exact ih
theorem KV.any{kvs:List (κ×V)}{vs:List (κ×AD)}(r:KV kvs vs)(k:κ):(kvs.any λkv=>decide (kv.1=k))=vs.any λkv=>decide (kv.1=k):=by
 unfold KV at r
 induction r with
 |nil=>rfl
 |cons h t ih=>rw[Bc,Bc,ih,h.1]
theorem KV.repl{kvs:List (κ×V)}{vs:List (κ×AD)}(r:KV kvs vs)(k:κ){y:V}{u:AD}(ry:RelV y u):
  KV (kvs.map λkv=>if kv.1=k then(kv.1,y)else kv) (vs.map λkv=>if kv.1=k then(kv.1,u)else kv):=by
 unfold KV at r ⊢
 induction r with
 |nil=>exact .nil
 |@cons p q ps qs h t ih=>
  rw[A2,A2];refine .cons ?_ ih;let⟨h1,h2⟩:=h
  by_cases e:p.1=k
  .rw[if_pos e,if_pos (h1.symm.trans e)];exact⟨h1,ry⟩
  .rw[if_neg e,if_neg (λz=>e (h1.trans z))];exact⟨h1,h2⟩
theorem KV.put{kvs:List (κ×V)}{vs:List (κ×AD)}(r:KV kvs vs)(k:κ){y:V}{u:AD}(ry:RelV y u):KV (putK kvs k y) (stored vs k u):=by
 unfold putK stored;rw[r.any k]
 by_cases e:(vs.any λkv=>decide (kv.1=k))=AC
 .rw[if_pos e,if_pos e];exact r.repl k ry
 .rw[if_neg e,if_neg e];exact Gb r ⟨rfl,ry⟩
theorem KV.length{kvs:List (κ×V)}{vs:List (κ×AD)}(r:KV kvs vs):kvs.length=vs.length:=Bq r
end
def zdO{P:AT}{w:A3}{k:Key}{u:AD}(r:RelV (kV k) u):(yx P w).is k u=true:=by
 cases k with
 |inl i=>let⟨t,e⟩:=(show ∃t,u=GR i t from r);subst e;exact zbM P w i t
 |inr x=>let⟨t,e⟩:=(show ∃t,u=GS x t from r);subst e;exact zbS P w x t
abbrev KT(H:Hp):List (List NK×V)->List (List NK×AI×AD)->Prop:=FQ λp q=>p.1=q.1/\KyR H p.1 q.2.1/\RelV p.2 q.2.2
theorem KT.val{H:Hp}{kvs:List (List NK×V)}{xs:List (List NK×AI×AD)}(r:KT H kvs xs)(k:List NK):yaX (yaf kvs k) ((atKey xs k).map (·.2)):=by
 induction r with
 |nil=>exact Ba
 |@cons p q ps qs h t ih=>
  let⟨h1,_,h2⟩:=h
  by_cases e:p.1=k
  .have e':q.1=k:=h1.symm.trans e;have b:atKey (q::qs) k=AA q.2:=by simp[atKey,B9,e']
   rw[zq e,b];exact h2
  .have e':¬q.1=k:=λz=>e (h1.trans z);have b:atKey (q::qs) k=atKey qs k:=by simp[atKey,B9,e']
   rw[zu e,b];exact ih
theorem KT.repl{H:Hp}{kvs:List (List NK×V)}{xs:List (List NK×AI×AD)}(r:KT H kvs xs)(k:List NK){y:V}{u:AD}(ry:RelV y u):
  KT H (kvs.map λkv=>if kv.1=k then(kv.1,y)else kv) (xs.map (putAt k u)):=by
 induction r with
 |nil=>exact .nil
 |@cons p q ps qs h t ih=>
  rw[A2,A2];refine .cons ?_ ih;let⟨h1,h2,h3⟩:=h;unfold putAt
  by_cases e:p.1=k
  .rw[if_pos e,if_pos (h1.symm.trans e)];exact⟨h1,h2,ry⟩
  .rw[if_neg e,if_neg (λz=>e (h1.trans z))];exact⟨h1,h2,h3⟩
theorem KT.put{H:Hp}{kvs:List (List NK×V)}{xs:List (List NK×AI×AD)}(r:KT H kvs xs)(k:List NK){b:AI}{y:V}{u:AD}(hb:KyR H k b)(ry:RelV y u):
  KT H (putK kvs k y) (storedH xs k b u):=by
 have e:(kvs.any λkv=>decide (kv.1=k))=(atKey xs k).isSome:=by
  rw[zch,(r.val k).isSome_eq,Option.isSome_map]
 unfold putK storedH;rw[e]
 by_cases q:(atKey xs k).isSome=AC
 .rw[if_pos q,if_pos q];exact r.repl k ry
 .rw[if_neg q,if_neg q];exact Gb r ⟨rfl,hb,ry⟩
theorem KT.keeps{H H':Hp}{kvs:List (List NK×V)}{xs:List (List NK×AI×AD)}(r:KT H kvs xs)(ht:∀b ys,H b=AA (.tup ys)->H' b=AA (.tup ys)):KT H' kvs xs:=
 Paired.mapP r λ_ _ z=>⟨z.1,z.2.1.stay ht,z.2.2⟩
section
variable {P:AT}{w:A3}{H:Hp}{h:Ah}{a:AI}
def zhx{u:HO}(ok:HOk P w H h)(e:Rd H a u):yp P w H h a u:=e.ok ok
def zcQ{kvs:List (Key×V)}(ok:HOk P w H h)(e:Rd H a (.dK kvs)):kvs.length<=sizeLine/\(a==sysModules)=AH/\∃vs,KV kvs vs/\h.DictOf (yx P w) a vs:=
 show yp P w H h a (.dK kvs)from zhx ok e
def zh8{kvs:List (Key×V)}(ok:HOk P w H h)(e:H a=AA (.dK kvs)):kvs.length<=sizeLine/\(a==sysModules)=AH/\∃vs,KV kvs vs/\h.DictOf (yx P w) a vs:=zcQ ok (.inl e)
mutual
theorem zhK(ok:HOk P w H h):∀(k:NK) (v:V) (u:AD),NKr H k v->RelV v u->NI h k u
 |.a k,v,u,x,r=>by cases (show v=kV k from x);exact zdO (P:=P) (w:=w) r
 |.t l,v,u,x,r=>by
  let⟨b,xs,rfl,g,hs⟩:=x
  cases (show u=A8 b from r)
  let⟨_,its,rv,h1⟩:=(show yp P w H h b (.tup xs)from ok b _ g);exact⟨b,its,rfl,h1,zfh ok l xs its hs rv⟩
theorem zfh(ok:HOk P w H h):∀(l:List NK) (xs:List V) (us:List AD),NKs H l xs->Vals xs us->NIs h l us
 |[],xs,us,x,r=>by cases (show xs=[]from x);cases r;rfl
 |k::l,xs,us,x,r=>by
  let⟨y,ys,rfl,h1,h2⟩:=x
  cases r with
  |cons r t=>exact⟨_,_,rfl,zhK ok k y _ h1 r,zfh ok l ys _ h2 t⟩
end
def zbz{ks:List NK}(ok:HOk P w H h)(e:KyR H ks a):(yR P w).is h ks a:=⟨zhK ok _ _ _ e.1 rfl,e.2⟩
def zdn{kvs:List (List NK×V)}(ok:HOk P w H h)(e:Rd H a (.dT kvs)):kvs.length<=sizeLine/\(a==sysModules)=AH /\
  ∃xs,KT H kvs xs/\h.DictOfH (yR P w) a xs:=by
 let⟨z,y,xs,r,o,es,ep,h1,h2,h3,h4,h5⟩:=(show yp P w H h a (.dT kvs)from zhx ok e);refine⟨z,y,xs,r,o,es,ep,h1,h2,h3,h4,λx hx=>?_,h5⟩;have all:∀{l:List (List NK×V)} {m:List (List NK×AI×AD)},KT H l m->∀x∈m,(yR P w).is h x.1 x.2.1:=by
  intro l m q
  induction q with
  |nil=>intro x hx;exact nomatch hx
  |@cons p q ps qs hq t ih=>
   intro x hx;rcases Ac.mp hx with e|hx
   .subst e;exact zbz ok (by rw[<-hq.1];exact hq.2.1)
   .exact ih x hx
 exact all r x hx
def zgo{kvs:List (List NK×V)}(ok:HOk P w H h)(e:H a=AA (.dT kvs)):kvs.length<=sizeLine/\(a==sysModules)=AH /\
  ∃xs,KT H kvs xs/\h.DictOfH (yR P w) a xs:=zdn ok (.inl e)
end
def yb5(H:Hp)(a:AI)(y:V)(r:Option V):Prop:=
 (∃kvs k,Rd H a (.dK kvs)/\y=kV k/\r=yaf kvs k) \/ ∃kvs k b,Rd H a (.dT kvs)/\y=.ref b/\KyR H k b/\r=yaf kvs k
def yew(H:Hp)(a:AI)(y v:V)(H':Hp):Prop:=
 (∃kvs k,H a=AA (.dK kvs)/\y=kV k/\kvs.length<sizeLine/\H'=upd H a (.dK (putK kvs k v))) \/
 ∃kvs k b,H a=AA (.dT kvs)/\y=.ref b/\KyR H k b/\kvs.length<sizeLine/\H'=upd H a (.dT (putK kvs k v))
section
variable {X:Cx}{π:List (AI×B6)}{σ:St}{H:Hp}{s:AG}{a:AI}{y v:V}{u r:AD}{o:Option V}{A:A5}{E:AD->AG->Prop}
theorem Inv.big(I:Inv X π σ H s):sysModules<s.heap.objs.size:=by
 have h:mainGlobals<s.heap.objs.size:=(I.mod.glob.keeps I.bk).lt;exact Nat.lt_trans ⋯ h
def zdD{Q:AD->AG->Prop}(hu:A.units+16<cLine)(I:Inv X π σ H s)(g:yb5 H a y (AA v))(ry:RelV y u)(h:∀w' s',Inv X π σ H s'->RelV v w'->Q w' s'):
  AN (model X.prog X.w) A (getItem (.ref a) u) Q E s:=by
 rcases g with⟨kvs,k,e,ey,l⟩|⟨kvs,k,b,e,ey,eb,l⟩
 .subst ey;let⟨z,hd,vs,rel,dd⟩:=zcQ I.hok e;let⟨w',hw,rw'⟩:=yaX.some_of (v:=v) (o:=valueAt vs k) (by rw[l];exact rel.val k);exact wpAny_getItem_of (zdO ry) dd.mapOf hw (h w' _ (I.tok _) rw')
 .subst ey
  cases (show u=A8 b from ry)
  let⟨z,hd,xs,rel,dd⟩:=zdn I.hok e;let⟨w',hw,rw'⟩:=yaX.some_of (v:=v) (o:=(atKey xs k).map (·.2)) (by rw[l];exact rel.val k);let⟨p,hp,hp2⟩:=EH.mp hw;refine wpAny_getItem_heap ((show A.in1.units+8<cLine by erw[CK];lia)) (zbz I.hok eb) dd hp ?_;rw[hp2];exact h w' _ (I.tok _) rw'
def zbN{h':Ah}{t':Nat}{ob:HO}(I:Inv X π σ H s)(mu:Mut (H a))(hs:By a s.heap h')(he:∃q,h'.get? a=AA q)(new:yp X.prog X.w (upd H a ob) h' a ob):
  Inv X π σ (upd H a ob) {s with heap:=h',toks:=t'}:=
 I.write (x:=a) (e:=a) mu (.inl rfl) (λb q hb z=>(hs.2 b hb).trans z) he new
def zfp{P:AT}{w:A3}{H':Hp}{h':Ah}{kvs:List (Key×V)}{vs:List (Key×AD)}(z:kvs.length<=sizeLine)(hd:(a==sysModules)=AH)(rel:KV kvs vs)(dd:h'.DictOf (yx P w) a vs):
  yp P w H' h' a (.dK kvs):=⟨z,hd,vs,rel,dd⟩
def zd0{H':Hp}{Q:Unit->AG->Prop}(hu:A.units+16<cLine)(I:Inv X π σ H s)(g:yew H a y v H')(ry:RelV y u)(rv:RelV v r)(h:∀s',Inv X π σ H' s'->Q () s'):
  AN (model X.prog X.w) A (setItem (.ref a) u r) Q E s:=by
 rcases g with⟨kvs,k,e,ey,l,eH⟩|⟨kvs,k,b,e,ey,eb,l,eH⟩
 .subst ey eH;let⟨z,hd,vs,rel,dd⟩:=zh8 I.hok e;have hz:vs.length<=sizeLine:=by rw[<-rel.length];exact z
  have hl:(putK kvs k v).length<=sizeLine:=by have:=zw kvs k v;lia
  refine wpAny_setItem_pairs (hsz:=hz) (zdO ry) dd λh' dd' hs=>h _ ?_;have he:∃q,h'.get? a=AA q:=let ⟨q,_,_,hq,_⟩:=dd';⟨q,hq⟩
  exact zbN I (by rw[e];exact Ba) hs he (zfp hl hd (rel.put k rv) dd')
 .subst ey eH
  cases (show u=A8 b from ry)
  let⟨z,hd,xs,rel,dd⟩:=zgo I.hok e;have hz:xs.length<=sizeLine:=by rw[<-Bq rel];exact z
  have hl:(putK kvs k v).length<=sizeLine:=by have:=zw kvs k v;lia
  refine wpAny_setItem_heap (hsz:=hz) ((show A.in1.units+8<cLine by erw[CK];lia)) (zbz I.hok eb) dd λh' dd' hs=>h _ ?_;let⟨q,es,ep,hq,h2,h3,h4,_,h5⟩:=dd';refine zbN I (by rw[e];exact Ba) hs ⟨q,hq⟩ ⟨hl,hd,_,(rel.put k eb rv).keeps λc ys ec=>?_,q,es,ep,hq,h2,h3,h4,h5⟩;rw[za (ziT ec e (λz=>nomatch z))];exact ec
end
section
variable {X:Cx}{π:List (AI×B6)}{σ:St}{H:Hp}{s:AG}{a:AI}{kvs:List (Key×V)}{k:Key}{u:AD}{A:A5}{E:AD->AG->Prop}
end
def yd6(i:AM):Prop:=∀ov iv,subscripted i AH ov iv=operate [ov,iv] (getItem ov iv)
def zf2{prog:AT}{w:A3}{A:A5}{E:AD->AG->Prop}{s:AG}{env:Env}{value slice:AM}{pos:Bd}{T id:String}{Q:AD->AG->Prop}
  (hl:typeLookup (.type T) "__getitem__"=pure (AA (.builtin id))) (hs:yd6 slice)
  (h:AN (model prog w) A (eval value env) (λo s₁=>AN (model prog w) A (eval slice env) (λi s₂=>s₂.TypeIs o T/\AN (model prog w) A (getItem o i) Q E s₂) E s₁) E s):
  AN (model prog w) A (eval (.Subscript value slice pos) env) Q E s:=by
 refine Fg (BW h (λo s₁ h₁=>BW h₁ (λi s₂ h₂=>?_) λ_ _ x=>x) λ_ _ x=>x);let⟨hT,h₂⟩:=h₂;unfold subscriptTail;refine AB ?_;rw[getitemInPython_of_ne hT.not_modules];refine AB (F2 hT hl ?_);have fin:AN (model prog w) A (subscripted slice AH o i) (λr s₃=>AN (model prog w) A (letTemporaryGo value o r >>= λ_=>pure r) Q E s₃) E s₂:=by
  rw[hs o i];exact wpAny_operating (BW h₂ (λr s₃ h₃=>AB (wpAny_letTemporaryGo (AK h₃))) λ_ _ x=>x)
 first
  |exact AK (AB fin)
  |exact AB (AK (AB fin))
  |exact AB fin
def zbT{X:Cx}{π:List (AI×B6)}{σ:St}{H:Hp}{s:AG}{a:AI}{y:V}{o:Option V}(I:Inv X π σ H s)(g:yb5 H a y o):s.TypeIs (.ref a) "dict":=by
 rcases g with⟨kvs,k,e,_,_⟩|⟨kvs,k,b,e,_,_,_⟩
 .let⟨_,_,vs,_,dd⟩:=zcQ I.hok e;exact dd.typeIs
 .let⟨_,_,xs,_,dd⟩:=zdn I.hok e;exact dd.typeIs
def ybN(td ty:TE):TE:=λσ H Q=>td σ H λx H1=>ty σ H1 λy H2=>∃a v,x=.ref a/\yb5 H2 a y (AA v)/\Q v H2
def ydJ(td ty tv:TE):TS:=λD σ H=>tv σ H λv H1=>td σ H1 λx H2=>ty σ H2 λy H3=>∃a H4,x=.ref a/\yew H3 a y v H4/\D.nx σ H4
section
variable {X:Cx}{o i e value:AM}{pos pos' tpos:Bd}{td ty tv:TE}
def zcV(hu:X.A.units+16<cLine)(ho:PE X o td)(hi:PE X i ty)(hs:yd6 i):PE X (.Subscript o i pos) (ybN td ty):=by
 intro π s σ H Q I h;refine zf2 PySem.F.slot_dict_getitem.lookup hs (thn (ho π s σ H _ I h) λu s1 kq=>?_);let⟨x,H1,I1,rx,q1⟩:=kq;refine thn (hi π s1 σ H1 _ I1 q1) λiv s2 kq=>?_;let⟨y,H2,I2,ry,a,v,ex,g,q2⟩:=kq;subst ex;obtain rfl:u=A8 a:=rx;exact⟨zbT I2 g,zdD hu I2 g ry λw' s3 I3 rw'=>⟨v,H2,I3,rw',q2⟩⟩
def zgc(hu:X.A.units+16<cLine)(ho:PE X o td)(hi:PE X i ty)(hv:PE X value tv)(hs:swapsWith value (AA (.Subscript o i pos')) pos.line X.env=pure AH):
  PS X (.Assign [.Subscript o i pos'] value pos) (ydJ td ty tv):=by
 intro π s σ H D I h;refine wpAny_Assign_Subscript (thn (hv π s σ H _ I h) λr s1 kq=>?_) hs;let⟨v,H1,I1,rv,q1⟩:=kq;refine thn (ho π s1 σ H1 _ I1 q1) λu s2 kq=>?_;let⟨x,H2,I2,rx,q2⟩:=kq;refine thn (hi π s2 σ H2 _ I2 q2) λiv s3 kq=>?_;let⟨y,H3,I3,ry,a,H4,ex,g,q3⟩:=kq;subst ex;obtain rfl:u=A8 a:=rx;exact zd0 hu I3 g ry rv λs4 I4=>⟨σ,H4,I4,q3⟩
end
def zei{P:AT}{w:A3}{H:Hp}(h:Ah)(hb:sysModules<h.objs.size):yp P w H (h.push {cls:=.type "dict",data:=.dict #[]}) h.objs.size (.dK []):=
 ⟨BK _,beq_eq_false_iff_ne.mpr (B1 (A0 hb)),[],.nil,Heap.DictOf.new h⟩
def zeJ{P:AT}{w:A3}{H:Hp}(h:Ah)(hb:sysModules<h.objs.size):yp P w H (h.push {cls:=.type "dict",data:=.dict #[]}) h.objs.size (.dT []):=
 ⟨BK _,beq_eq_false_iff_ne.mpr (B1 (A0 hb)),[],.nil,_,#[],0,AX _ rfl,⟨rfl,rfl,rfl⟩,rfl,rfl,List.nodup_nil⟩
def ycj:TE:=λ_ H Q=>∀p,H p=AF->Q (.ref p) (upd H p (.dT []))
section
variable {X:Cx}{pos:Bd}
def zic:PE X (.Dict [] [] pos) ycj:=λπ s σ H Q I h=>
 wpAny_Dict_empty ⟨.ref s.heap.objs.size,_,I.laid (a:=s.heap.objs.size) (o:=.dT []) (t':=s.toks) (λ_ _ q=>AL _ q) (AS _) (zeJ s.heap I.big),rfl,h _ (I.hok.fresh (AS _))⟩
end
def yaY:List (TE×TE)->St->Hp->(List (V×V)->Hp->Prop)->Prop
 |[],_,H,Q=>Q [] H
 |(tk,tv)::r,σ,H,Q=>tk σ H λx H1=>tv σ H1 λy H2=>yaY r σ H2 λps H3=>Q ((x,y)::ps) H3
abbrev VV:List (V×V)->List (AD×AD)->Prop:=FQ λp q=>RelV p.1 q.1/\RelV p.2 q.2
def PPs(X:Cx)(pos:Bd)(keys:List (Option AM))(values:List AM)(trs:List (TE×TE)):Prop:=
 ∀(π:List (AI×B6)) (s:AG) (σ:St) (H:Hp) (Q:List (V×V)->Hp->Prop),Inv X π σ H s->yaY trs σ H Q ->
  AN (model X.prog X.w) X.A (evalPairs (pairTrees keys values X.env pos)) (λvs s'=>∃ps H',Inv X π σ H' s'/\VV ps vs/\Q ps H') X.xe s
def zge{X:Cx}{pos:Bd}:PPs X pos [] [] []:=λπ s σ H Q I h=>pairTrees_nil_walk ⟨[],H,I,.nil,h⟩
def zed{X:Cx}{pos:Bd}{k v:AM}{ks:List (Option AM)}{vs:List AM}{tk tv:TE}{trs:List (TE×TE)}(hk:PE X k tk)(hv:PE X v tv)(hr:PPs X pos ks vs trs):
  PPs X pos (AA k::ks) (v::vs) ((tk,tv)::trs):=λπ s σ H Q I h=>
 pairTrees_cons_walk (thn (hk π s σ H _ I h) λu s1 ⟨x,H1,I1,rx,q1⟩=>thn (hv π s1 σ H1 _ I1 q1) λw2 s2 ⟨y,H2,I2,ry,q2⟩=>
  thn (hr π s2 σ H2 _ I2 q2) λws s3 ⟨ps,H3,I3,rel,q3⟩=>⟨(x,y)::ps,H3,I3,.cons ⟨rx,ry⟩ rel,q3⟩)
def yai(kvs more:List (Key×V)):List (Key×V):=more.foldl (λacc kv=>putK acc kv.1 kv.2) kvs
theorem KV.merge:∀{more:List (Key×V)} {rs:List (Key×AD)} {kvs:List (Key×V)} {vs:List (Key×AD)},KV more rs->KV kvs vs->KV (yai kvs more) (merged vs rs):=by
 intro more rs kvs vs r;unfold KV at r
 induction r generalizing kvs vs with
 |nil=>intro q;exact q
 |@cons p q ps qs h t ih=>
  intro r0;have e:KV (putK kvs p.1 p.2) (stored vs q.1 q.2):=by
   have:=r0.put p.1 h.2;rw[<-h.1];exact this
  exact ih e
def zS:∀(more kvs:List (Key×V)),(yai kvs more).length<=kvs.length+more.length
 |[],kvs=>by show kvs.length<=kvs.length+0;lia
 |p::r,kvs=>by
  have h1:=zS r (putK kvs p.1 p.2);have h2:=zw kvs p.1 p.2;show (yai (putK kvs p.1 p.2) r).length<=_;rw[Ag];lia
def zaF{P:AT}{w:A3}:∀{kvs:List (Key×V)} {ws:List (AD×AD)},VV (kvs.map λkv=>(kV kv.1,kv.2)) ws->∃rs,Carries (yx P w) ws rs/\KV kvs rs
 |[],_,r=>by rw[CA]at r;cases r;exact⟨[],Ba,.nil⟩
 |p::kvs,_,r=>by
  rw[A2]at r
  cases r with
  |@cons a b as bs h t=>
   let⟨rs,c,q⟩:=zaF (P:=P) (w:=w) t;let⟨b1,b2⟩:=b;exact⟨(p.1,b2)::rs,⟨zdO h.1,rfl,c⟩,.cons ⟨rfl,h.2⟩ q⟩
def yc9(trs:List (TE×TE)):TE:=λσ H Q=>∀p,H p=AF->yaY trs σ (upd H p (.dK [])) λps H2=>H2 p=AA (.dK [])/\∃kvs:List (Key×V),ps=kvs.map (λkv=>(kV kv.1,kv.2))/\kvs.length<=15/\Q (.ref p) (upd H2 p (.dK (yai [] kvs)))
def zfG{X:Cx}{pos:Bd}{keys:List (Option AM)}{values:List AM}{trs:List (TE×TE)}(h:PPs X pos keys values trs)(hall:keys.all (·.isSome)=AC)(hl:keys.length=values.length)(h0:keys≠[])
  (h15:keys.length<=15):PE X (.Dict keys values pos) (yc9 trs):=by
 intro π s σ H Q I q;have hn:=I.hok.fresh (AS s.heap.objs.size);have I1:=I.laid (a:=s.heap.objs.size) (o:=.dK []) (h':=s.heap.push {cls:=.type "dict",data:=.dict #[]}) (t':=s.toks) (λ_ _ q=>AL _ q) (AS _) (zei s.heap I.big);refine wpAny_Dict_walk (knd:=yx X.prog X.w) hall hl h0 h15 (thn (h π _ σ _ _ I1 (q _ hn)) λws s2 kq=>?_);let⟨ps,H2,I2,rel,e,kvs,ep,lk,q2⟩:=kq;subst ep;let⟨rs,c,rk⟩:=zaF (P:=X.prog) (w:=X.w) rel;let⟨z,hd,vs0,r0,dd⟩:=zh8 I2.hok e
 cases r0
 refine⟨rs,c,dd,λh' dd' hs=>⟨.ref s.heap.objs.size,_,?_,rfl,q2⟩⟩;have hz:(yai [] kvs).length<=sizeLine:=by
  have h1:=zS kvs [];rw[Bn]at h1;rw[Av];lia
 have he:∃q,h'.get? s.heap.objs.size=AA q:=let ⟨q,_,_,hq,_⟩:=dd';⟨q,hq⟩
 exact zbN I2 (by rw[e];exact Ba) hs he (zfp hz hd (rk.merge .nil) dd')
structure M2(X:Cx)(o:AM)(m:AR)(apos:Bd)(e f:AM)(cpos:Bd):Prop where
 base:attributeBase o m X.env (eval o X.env)=eval o X.env
 few:((backTo cpos (starEach [e,f] X.env)).all (λx=>!x.1)&&(backToKw cpos (keywordEach [] X.env)).all (λx=>x.1.isSome)
  && decide (([e,f]:List AM).length+([]:List Bz).length+(if ([]:List Bz).isEmpty then 0 else 1)<30))=AC
 line:(apos.endLine==cpos.line)=AC
 trees:backTo cpos (starEach [e,f] X.env)=[(AH,eval e X.env),(AH,eval f X.env)]
def IsD(H:Hp)(a:AI):Prop:=(∃kvs,Rd H a (.dK kvs)) \/ ∃kvs,Rd H a (.dT kvs)
def zhY{X:Cx}{π:List (AI×B6)}{σ:St}{H:Hp}{s:AG}{a:AI}(I:Inv X π σ H s)(d:IsD H a):
  s.TypeIs (.ref a) "dict"/\(∀b,A8 a=.ref b->∃ob,s.heap.get? b=AA ob/\ob.dict=AF)/\(a==sysModules)=false:=by
 rcases d with⟨kvs,e⟩|⟨kvs,e⟩
 .let⟨_,hd,vs,_,dd⟩:=zcQ I.hok e;refine⟨dd.typeIs,λb q=>?_,hd⟩
  cases q
  let⟨ob,_,_,h1,h2,_⟩:=dd;exact⟨ob,h1,h2.2.1⟩
 .let⟨_,hd,xs,_,dd⟩:=zdn I.hok e;refine⟨dd.typeIs,λb q=>?_,hd⟩
  cases q
  let⟨ob,_,_,h1,h2,_⟩:=dd;exact⟨ob,h1,h2.2.1⟩
section
variable {X:Cx}{π:List (AI×B6)}{σ:St}{H:Hp}{s:AG}{a:AI}{y d:V}{u r:AD}{o:Option V}{A:A5}{E:AD->AG->Prop}
def zh3{Q:AD->AG->Prop}(hu:A.units+16<cLine)(I:Inv X π σ H s)(g:yb5 H a y o)(ry:RelV y u)(rd:RelV d r)(h:∀w' s',Inv X π σ H s'->RelV (o.getD d) w'->Q w' s'):
  AN (model X.prog X.w) A (call (.builtin "dict.get") [.ref a,u,r]) Q E s:=by
 rcases g with⟨kvs,k,e,ey,l⟩|⟨kvs,k,b,e,ey,eb,l⟩
 .subst ey;let⟨z,hd,vs,rel,dd⟩:=zcQ I.hok e;refine call_meetsIn Ch dd.typeIs EI (Dr _ _ _) (meets_dict_get_default (yx X.prog X.w) a (zdO ry) hd r) ⟨_,dd.mapOf,h _ _ (I.tok _) ?_⟩;rw[l];exact(rel.val k).getD rd
 .subst ey
  cases (show u=A8 b from ry)
  let⟨z,hd,xs,rel,dd⟩:=zdn I.hok e;refine call_meetsIn Ch dd.typeIs EI (Dr _ _ _) (meetsH_dict_get_default (yR X.prog X.w) a b hd r) ⟨(show A.in1.units+8<cLine by erw[CK];lia),k,xs,zbz I.hok eb,dd,h _ _ (I.tok _) ?_⟩;rw[l];exact(rel.val k).getD rd
end
def ycy(td ty tx:TE):TE:=λσ H Q=>td σ H λx H1=>∃a,x=.ref a/\IsD H1 a/\ty σ H1 λy H2=>tx σ H2 λz H3=>∃o,yb5 H3 a y o/\Q (o.getD z) H3
section
variable {X:Cx}{o e f:AM}{apos cpos:Bd}{td ty tx:TE}
def zeG(hu:X.A.units+16<cLine)(ho:PE X o td)(he:PE X e ty)(hf:PE X f tx)(m:M2 X o "get" apos e f cpos):PE X (.Call (.Attribute o "get" apos) [e,f] [] cpos) (ycy td ty tx):=by
 intro π s σ H Q I h;refine wpAny_Call_method m.base m.few m.line PySem.F.plainAttrs_dict Ch PySem.F.type_dict_get (thn (ho π s σ H _ I h) λu s1 kq=>?_);let⟨x,H1,I1,rx,a,ex,d,q1⟩:=kq;subst ex;obtain rfl:u=A8 a:=rx;let⟨t1,t2,_⟩:=zhY I1 d;refine⟨t1,t2,?_⟩;rw[m.trees];refine ED rfl (E4 (DU (thn (he π s1 σ H1 _ I1 q1) λiv s2 ⟨y,H2,I2,ry,q2⟩=>
  DU (thn (hf π s2 σ H2 _ I2 q2) λfv s3 ⟨z,H3,I3,rz,ov,g,q3⟩=>FG ?_))))
 exact zh3 hu I3 g ry rz λw' s4 I4 rw'=>⟨_,H3,I4,rw',q3⟩
end
section
variable {X:Cx}{π:List (AI×B6)}{σ:St}{H:Hp}{s:AG}{a:AI}{kvs:List (Key×V)}{A:A5}{E:AD->AG->Prop}
end
section
variable {X:Cx}{π:List (AI×B6)}{σ:St}{H:Hp}{s:AG}{a:AI}{y:V}{u:AD}{A:A5}{E:AD->AG->Prop}
end
end L2
namespace IC
open PySem
inductive PV where
 |non|bl (b:Bool)|int (i:Int)|str (x:AR)|tp (k:Bool) (xs:List PV)|lst (xs:List PV)|loc (n:Nat)|exn (c:Nat)|scr (xs:List PV)|fnc (j:Nat)
deriving Inhabited
abbrev PV.tup(xs:List PV):PV:=.tp AH xs
mutual
noncomputable def nL:PV->Bool
 |.loc _=>AH
 |.exn _=>AH
 |.fnc _=>AC
 |.tp _ xs=>nLs xs
 |.lst xs=>nLs xs
 |.scr xs=>nLs xs
 |_=>AC
noncomputable def nLs:List PV->Bool
 |[]=>AC
 |x::xs=>nL x&&nLs xs
end
mutual
noncomputable def shd(n:Nat):PV->Bool
 |.non=>AC
 |.bl _=>AC
 |.int _=>AC
 |.str x=>x.cps.all (· < 0x110000)
 |.tp _ xs=>decide (0<n)&&ya7 (n-1) xs
 |.lst xs=>decide (0<n)&&ya7 (n-1) xs
 |_=>AH
noncomputable def ya7(n:Nat):List PV->Bool
 |[]=>AC
 |x::xs=>shd n x&&ya7 n xs
end
abbrev shp(v:PV):Bool:=shd 60 v
def flat:PV->Bool
 |.non=>AC
 |.bl _=>AC
 |.int _=>AC
 |.str _=>AC
 |_=>AH
def bi(b:Bool):Int:=if b then 1 else 0
mutual
noncomputable def peq:PV->PV->Bool
 |.non,.non=>AC
 |.bl a,.bl b=>a==b
 |.bl a,.int j=>bi a==j
 |.int i,.bl b=>i==bi b
 |.int i,.int j=>i==j
 |.str x,.str y=>x==y
 |.tp _ xs,.tp _ ys=>ya6 xs ys
 |.lst xs,.lst ys=>ya6 xs ys
 |_,_=>AH
noncomputable def ya6:List PV->List PV->Bool
 |[],[]=>AC
 |x::xs,y::ys=>peq x y&&ya6 xs ys
 |_,_=>AH
end
inductive Ob where
 |lst (xs:List PV)|dct (t:Bool) (kvs:List (PV×PV))|dead|ins (c:Nat) (fs:List (AR×PV))
abbrev Env:=List (Option PV)
abbrev SO:=List Ob
inductive R(α:Type) where
 |ok (a:α) (st:SO)|exc (c:Nat) (st:SO)|bad
def R.bind{α β:Type}(r:R α)(k:α->SO->R β):R β:=
 match r with
 |.ok a st=>k a st
 |.exc c st=>.exc c st
 |.bad=>.bad
inductive BOp where
 |add|sub|mul|fdiv|mod|pow|shl|shr|band|bor|bxor
inductive COp where
 |eq|ne|lt|le|gt|ge|is|isnot|isin|notin
inductive Ty where
 |int|bool|str|tuple|list|cls (c:Nat)|val
inductive Blt where
 |len|int|abs|min|max|tuple|list|all|sum|dict|rev|str|any
inductive Mth where
 |append|extend|get|bits|upper|insert|count|index|join|split|sidx|clear
inductive Tg where
 |n (i:Nat)|t (l:List Nat)
set_option genInjectivity false
mutual
inductive Ce where
 |cst (v:PV)
 |var (i:Nat)
 |bin (o:BOp) (a b:Ce)
 |neg (a:Ce)
 |not (a:Ce)
 |and (a b:Ce)
 |or (a b:Ce)
 |cmp (o:COp) (a b:Ce)
 |chain (o p:COp) (a b c:Ce)
 |ite (c a b:Ce)
 |tup (es:Ces)
 |lst (es:Ces)
 |newl (es:Ces)
 |newd (kvs:List (AR×Int))
 |dict0 (t:Bool)
 |idx (a i:Ce)
 |slc (a:Ce) (lo hi:Ce)
 |call (f:Nat) (args:Ces)
 |blt (b:Blt) (args:Ces)
 |mth (m:Mth) (o:Ce) (args:Ces)
 |isi (a:Ce) (t:List Ty)
 |comp (sl:List (Option Nat)) (tg:Tg) (it:Cit) (c:Ce) (e:Ce)
 |nope
 |cml (sl:List (Option Nat)) (tg:Tg) (i:Ce) (e:Ce)
 |srt (a:Ce)
 |dfl (i:Nat)
 |dne (a b:Ce)
inductive Ces where
 |nil
 |cons (e:Ce) (es:Ces)
inductive Cit where
 |seq (e:Ce)
 |range1 (a:Ce)
 |range2 (a b:Ce)
 |rangeD (a b:Ce)
 |enum (e:Ce)
 |zip (a b:Ce)
 |revl (e:Ce)
 |revr (a:Ce)
 |chars (e:Ce)
end
set_option genInjectivity true
abbrev Ce.i(n:Int):Ce:=.cst (.int n)
abbrev Ce.s(x:AR):Ce:=.cst (.str x)
abbrev Ce.v:=Ce.var
abbrev Ces.k:=Ces.cons
abbrev Ces.e:=Ces.nil
mutual
inductive Cs where
 |expr (e:Ce)
 |asg (t:Tg) (e:Ce)
 |six (o i e:Ce)
 |dput (o i e:Ce)
 |aug (i:Nat) (o:BOp) (e:Ce)
 |ret (e:Ce)
 |ite (c:Ce) (a b:Css)
 |for (t:Tg) (it:Cit) (b:Css)
 |while (c:Ce) (b:Css)
 |nope
inductive Css where
 |nil
 |cons (s:Cs) (ss:Css)
end
abbrev Css.k:=Css.cons
abbrev Css.e:=Css.nil
def yal(i j:Int):Bool:=(decide (i.natAbs<18446744073709551616)) || (decide (j.natAbs<18446744073709551616))
def binI(o:BOp)(i j:Int):Option PV:=
 match o with
 |.add=>AA (.int (i+j))
 |.sub=>AA (.int (i-j))
 |.mul=>if yal i j then AA (.int (i*j))else AF
 |.fdiv=>if 0<j/\j<10000000000000000000000000000000000000000000000000000000000000000000000 then AA (.int (i/j))else AF
 |.mod=>if 0<j then AA (.int (i%j))else AF
 |.pow=>if 0<=j/\j<=1000000/\i.natAbs<18446744073709551616 then AA (.int (i^j.toNat))else AF
 |.shl=>if 0<=j/\j<=1000000/\i.natAbs<18446744073709551616 then AA (.int (i*2^j.toNat))else AF
 |.shr=>if 0<=j then AA (.int (i/2^j.toNat))else AF
 |.band=>AA (.int (Builtin.bitAnd i j))
 |.bor=>AA (.int (Builtin.bitOr i j))
 |.bxor=>AA (.int (Builtin.bitXor i j))
def sizeMax:Nat:=16777216
def yc7(k:Bool)(a:List PV)(j:Bool)(b:List PV):PV:=if a.isEmpty then .tp j b else if b.isEmpty then .tp k a else .tup (a++b)
def yu(o:BOp)(x y:PV):Option PV:=
 match x,y with
 |.int i,.int j=>binI o i j
 |.int i,.bl b=>match o with
  |.add=>AA (.int (i+bi b))
  |_=>AF
 |.str a,.str b=>match o with
  |.add=>if a.length+b.length<=sizeMax then AA (.str (a++b))else AF
  |_=>AF
 |.tp k a,.tp j b=>match o with
  |.add=>if a.length+b.length<=sizeMax then AA (yc7 k a j b)else AF
  |_=>AF
 |.lst a,.lst b=>match o with
  |.add=>if a.length+b.length<=sizeMax then AA (.lst (a++b))else AF
  |_=>AF
 |_,_=>AF
def ya5(o:BOp)(x y:PV):Option PV:=
 match x,y with
 |.int i,.int j=>binI o i j
 |_,_=>AF
def isNon:PV->Bool
 |.non=>AC
 |_=>AH
def inL(x:PV):List PV->Bool
 |[]=>AH
 |y::ys=>peq y x || inL x ys
def inS(a b:AR):Bool:=(Dw (b.length+1)).any λi=>decide (i+a.length<=b.length)&&(b.cps.extract i (i+a.length)==a.cps)
def ya1(o:COp)(i j:Int):Option PV:=
 match o with
 |.lt=>AA (.bl (decide (i<j)))
 |.le=>AA (.bl (decide (i<=j)))
 |.gt=>AA (.bl (decide (j<i)))
 |.ge=>AA (.bl (decide (j<=i)))
 |_=>AF
def ydg(o:COp)(a b:AR):Option PV:=
 match o with
 |.lt=>AA (.bl (decide (a.cps.toList<b.cps.toList)))
 |.le=>AA (.bl (!decide (b.cps.toList<a.cps.toList)))
 |_=>AF
def yr(o:COp)(x y:PV):Option PV:=
 match o with
 |.eq=>if shp x&&shp y then AA (.bl (peq x y))else AF
 |.ne=>if shp x&&shp y then AA (.bl (!peq x y))else AF
 |.is=>match y with
  |.non=>AA (.bl (isNon x))
  |.bl b=>match x with
   |.bl a=>AA (.bl (a==b))
   |_=>AF
  |_=>AF
 |.isnot=>match y with
  |.non=>AA (.bl (!isNon x))
  |.bl b=>match x with
   |.bl a=>AA (.bl (!(a==b)))
   |_=>AF
  |_=>AF
 |.isin=>match x,y with
  |.str a,.str b=>AA (.bl (inS a b))
  |x,.tp _ l=>if flat x&&l.all flat then AA (.bl (inL x l))else AF
  |x,.lst l=>if flat x&&l.all flat then AA (.bl (inL x l))else AF
  |_,_=>AF
 |.notin=>match x,y with
  |.str a,.str b=>AA (.bl (!inS a b))
  |x,.tp _ l=>if flat x&&l.all flat then AA (.bl (!inL x l))else AF
  |x,.lst l=>if flat x&&l.all flat then AA (.bl (!inL x l))else AF
  |_,_=>AF
 |o=>match x,y with
  |.int i,.int j=>ya1 o i j
  |.str a,.str b=>ydg o a b
  |_,_=>AF
def yae(st:SO)(x:PV):Option Bool:=
 match x with
 |.non=>AA AH
 |.bl b=>AA b
 |.int i=>AA (i != 0)
 |.str y=>if y.length<=sizeMax then AA ((y.length:Int) != 0)else AF
 |.tp _ xs=>AA (!xs.isEmpty)
 |.lst xs=>AA (!xs.isEmpty)
 |.loc n=>match st[n]? with
  |some (.lst xs)=>AA (!xs.isEmpty)
  |_=>AF
 |_=>AF
def ixI(n:Nat)(i:Int):Option Nat:=if 0<=i then(if i<n then AA i.toNat else AF)else if -(n:Int)<=i then AA (i+n).toNat else AF
def at?{α:Type}(xs:List α)(i:Int):Option α:=(ixI xs.length i).bind λj=>xs[j]?
def look(k:PV):List (PV×PV)->Option PV
 |[]=>AF
 |(a,b)::r=>if peq a k then AA b else look k r
def put(k v:PV)(kvs:List (PV×PV)):List (PV×PV):=
 if (kvs.any λp=>peq p.1 k)=AC then kvs.map (λp=>if peq p.1 k=AC then(p.1,v)else p)else kvs++[(k,v)]
def ybC:PV->Bool
 |.int _=>AC
 |.str _=>AC
 |_=>AH
mutual
noncomputable def ydk(n:Nat):PV->Bool
 |.int _=>AC
 |.str x=>x.cps.all (· < 0x110000)
 |.tp k xs=>!k&&decide (0<n)&&ybd (n-1) xs
 |_=>AH
noncomputable def ybd(n:Nat):List PV->Bool
 |[]=>AC
 |x::xs=>ydk n x&&ybd n xs
end
def isKey(t:Bool)(k:PV):Bool:=
 match t with
 |false=>ybC k
 |true=>match k with
  |.tp AH xs=>ybd 5 xs
  |_=>AH
def yav{α:Type}(xs:List α)(i:PV):Option α:=
 match i with
 |.int k=>at? xs k
 |_=>AF
def idxV(st:SO)(x i:PV):Option PV:=
 match x with
 |.tp _ xs=>yav xs i
 |.lst xs=>yav xs i
 |.str s=>if s.length<=sizeMax then(yav s.cps.toList i).map λc=>.str ⟨#[c]⟩else AF
 |.loc n=>match st[n]? with
  |some (.lst xs)=>yav xs i
  |_=>AF
 |_=>AF
def ya9(n:Nat)(v:Int):Nat:=if v<0 then(v+(n:Int)).toNat else min v.toNat n
def yb1(n:Nat)(lo:Option Int):Nat:=
 match lo with
 |none=>0
 |some i=>ya9 n i
def ycq(n:Nat)(hi:Option Int):Nat:=
 match hi with
 |none=>n
 |some i=>ya9 n i
def cut{α:Type}(xs:List α)(lo hi:Option Int):List α:=(xs.drop (yb1 xs.length lo)).take (ycq xs.length hi-yb1 xs.length lo)
def yby:PV->Option (Option Int)
 |.non=>AA AF
 |.int i=>AA (AA i)
 |_=>AF
def ybK(x:PV)(a b:Option Int):Option PV:=
 match x with
 |.tp k xs=>if yb1 xs.length a=0/\ycq xs.length b=xs.length then AA (.tp k xs)else AA (.tup (cut xs a b))
 |.str s=>if s.length<=sizeMax then AA (.str ⟨(cut s.cps.toList a b).toArray⟩)else AF
 |.lst xs=>AA (.lst (cut xs a b))
 |.scr xs=>AA (.lst (cut xs a b))
 |_=>AF
def ycz(x:PV)(a:Option Int)(hi:PV):Option PV:=
 match yby hi with
 |some b=>ybK x a b
 |none=>AF
def yaE(x:PV)(t:Ty):Bool:=
 match x,t with
 |.int _,.int=>AC
 |.bl _,.int=>AC
 |.bl _,.bool=>AC
 |.str _,.str=>AC
 |.tp _ _,.tuple=>AC
 |.lst _,.list=>AC
 |.exn c,.cls d=>c==d
 |.exn _,.val=>AC
 |_,_=>AH
def ycr:Ty->Bool
 |.cls _=>AH
 |.val=>AH
 |_=>AC
def ybk(x:PV)(ts:List Ty):Option PV:=
 match x with
 |.loc _=>AF
 |.scr _=>AF
 |.fnc _=>AF
 |.exn c=>if ts.all ycr then AF else AA (.bl (ts.any (yaE (.exn c))))
 |x=>match ts with
  |[t]=>if ycr t then AA (.bl (yaE x t))else AF
  |_=>AF
def allB:List PV->Option Bool
 |[]=>AA AC
 |.bl b::r=>match allB r with
  |some c=>AA (b&&c)
  |none=>AF
 |_::_=>AF
def yd0:List PV->Option Int
 |[]=>AA 0
 |.int i::r=>match yd0 r with
  |some c=>AA (i+c)
  |none=>AF
 |_::_=>AF
def yea:List PV->Option Int
 |[]=>AF
 |[.int i]=>AA i
 |.int i::r=>match yea r with
  |some c=>AA (if i<c then c else i)
  |none=>AF
 |_::_=>AF
def seqOf(st:SO):PV->Option (List PV)
 |.tp _ xs=>AA xs
 |.lst xs=>AA xs
 |.loc n=>match st[n]? with
  |some (.lst xs)=>AA xs
  |_=>AF
 |_=>AF
def yt(st:SO):PV->Option (List PV)
 |.lst xs=>AA xs
 |.loc n=>match st[n]? with
  |some (.lst xs)=>AA xs
  |_=>AF
 |_=>AF
def lenV(st:SO)(x:PV):Option PV:=
 match x with
 |.str s=>if s.length<=sizeMax then AA (.int s.length)else AF
 |x=>(seqOf st x).map λxs=>.int xs.length
def yfI(x:PV):Option PV:=
 match x with
 |.int i=>AA (.int i)
 |.bl k=>AA (.int (bi k))
 |_=>AF
def ydq(x:PV):Option PV:=
 match x with
 |.int i=>AA (.int (if i<0 then -i else i))
 |_=>AF
def yfr(x y:PV):Option PV:=
 match x,y with
 |.int i,.int j=>AA (.int (if j<i then j else i))
 |_,_=>AF
def maxV(x y:PV):Option PV:=
 match x,y with
 |.int i,.int j=>AA (.int (if i<j then j else i))
 |_,_=>AF
def yd5(st:SO)(x:PV):Option PV:=
 match x with
 |.tp k xs=>AA (.tp k xs)
 |x=>(yt st x).map .tup
def ydt:PV->Option PV
 |.tp _ xs=>if xs.isEmpty then AF else AA (.tup xs.reverse)
 |.lst xs=>AA (.lst xs.reverse)
 |_=>AF
def anyB:List PV->Option Bool
 |[]=>AA AH
 |.bl b::r=>match anyB r with
  |some c=>AA (b || c)
  |none=>AF
 |_=>AF
def anyI:List PV->Option Bool
 |[]=>AA AH
 |.int i::r=>match anyI r with
  |some c=>AA ((i != 0) || c)
  |none=>AF
 |_=>AF
def yf4:PV->Option PV
 |.int i=>if i=0 then AA (.str "0")else if i=1 then AA (.str "1")else AF
 |_=>AF
def yaG(b:Blt)(st:SO)(vs:List PV):Option PV:=
 match vs with
 |[x]=>match b with
  |.len=>lenV st x
  |.int=>yfI x
  |.abs=>ydq x
  |.max=>(yt st x).bind λxs=>(yea xs).map .int
  |.tuple=>yd5 st x
  |.list=>(seqOf st x).map .lst
  |.all=>(yt st x).bind λxs=>(allB xs).map .bl
  |.sum=>(yt st x).bind λxs=>(yd0 xs).map .int
  |.rev=>ydt x
  |.str=>yf4 x
  |.any=>match x with
   |.tp _ xs=>(anyI xs).map .bl
   |x=>(yt st x).bind λxs=>(anyB xs).map .bl
  |_=>AF
 |[x,y]=>match b with
  |.min=>yfr x y
  |.max=>maxV x y
  |_=>AF
 |_=>AF
def yaq(st:SO):PV->Option (Bool×List (PV×PV))
 |.loc n=>match st[n]? with
  |some (.dct t xs)=>AA (t,xs)
  |_=>AF
 |_=>AF
def yaM(m:Mth)(st:SO)(x:PV):Option Bool:=
 match m with
 |.append=>(yt st x).map λ_=>AC
 |.extend=>(yt st x).map λ_=>AC
 |.insert=>(yt st x).map λ_=>AC
 |.count=>(yt st x).map λ_=>AC
 |.index=>(yt st x).map λ_=>AC
 |.get=>(yaq st x).map λ_=>AC
 |.bits=>match x with
  |.int _=>AA AC
  |_=>AF
 |.upper=>match x with
  |.str _=>AA AC
  |_=>AF
 |.join=>match x with
  |.str _=>AA AC
  |_=>AF
 |.split=>match x with
  |.str _=>AA AC
  |_=>AF
 |.sidx=>match x with
  |.str _=>AA AC
  |_=>AF
 |.clear=>match x with
  |.loc n=>(yt st (.loc n)).map λ_=>AC
  |_=>AF
def yd7(st:SO)(o v:PV):R PV:=
 match o with
 |.loc n=>match st[n]? with
  |some (.lst xs)=>if xs.length<1000000 then .ok .non (st.set n (.lst (xs++[v])))else .bad
  |_=>.bad
 |_=>.bad
def yfl(st:SO)(o v:PV):R PV:=
 match o with
 |.loc n=>match st[n]? with
  |some (.lst xs)=>match v with
   |.lst ys=>if xs.length+ys.length<=1000000 then .ok .non (st.set n (.lst (xs++ys)))else .bad
   |_=>.bad
  |_=>.bad
 |_=>.bad
def yfV(st:SO)(o i v:PV):R PV:=
 match o with
 |.loc n=>match st[n]? with
  |some (.lst xs)=>match i with
   |.int k=>if 0<=k/\k<=xs.length/\xs.length<1000000 then .ok .non (st.set n (.lst (xs.take k.toNat++v::xs.drop k.toNat)))else .bad
   |_=>.bad
  |_=>.bad
 |_=>.bad
def yd1(st:SO)(o k d:PV):R PV:=
 match yaq st o with
 |some (t,kvs)=>if isKey t k then .ok ((look k kvs).getD d) st else .bad
 |none=>.bad
def yeX(st:SO)(o v:PV):R PV:=
 match yt st o with
 |some xs=>if flat v&&xs.all flat then .ok (.int (xs.countP λy=>peq y v)) st else .bad
 |none=>.bad
def ycv(v:PV):List PV->Option Nat
 |[]=>AF
 |y::ys=>if peq y v then AA 0 else(ycv v ys).map (·+1)
def yfx(st:SO)(o v:PV):R PV:=
 match yt st o with
 |some xs=>if flat v&&xs.all flat then(match ycv v xs with
  |some j=>.ok (.int j) st
  |none=>.bad)else .bad
 |none=>.bad
def upC(c:Nat):Nat:=if 97<=c/\c<=122 then c-32 else c
def upS(s:AR):Str:=⟨(s.cps.toList.map upC).toArray⟩
def yba(c:Nat):List Nat->List (List Nat)
 |[]=>[[]]
 |x::xs=>if x=c then []::yba c xs else match yba c xs with
  |[]=>[[x]]
  |p::ps=>(x::p)::ps
def strsOf:List PV->Option (List AR)
 |[]=>AA []
 |.str s::r=>(strsOf r).map (s :: ·)
 |_=>AF
def yda(st:SO)(o v:PV):R PV:=
 match o,yt st v with
 |.str s,AA xs=>match strsOf xs with
  |some ys=>if s.length<=10/\xs.length<=1000/\(ys.all λy=>decide (y.length<=1000))=AC then .ok (.str (Str.join s ys)) st else .bad
  |none=>.bad
 |_,_=>.bad
def yeG(st:SO)(o:PV):R PV:=
 match o with
 |.loc n=>match st[n]? with
  |some (.lst _)=>.ok .non (st.set n (.lst []))
  |_=>.bad
 |_=>.bad
def ydw(st:SO)(o v:PV):R PV:=
 match o,v with
 |.str s,.str y=>if s=Ar "01" then(if y=Ar "0" then .ok (.int 0) st else if y=Ar "1" then .ok (.int 1) st else .bad)else .bad
 |_,_=>.bad
def ycm(st:SO)(o v:PV):R PV:=
 match o,v with
 |.str s,.str y=>match y.cps.toList with
  |[c]=>if s.length<=100000 then .ok (.lst ((yba c s.cps.toList).map λl=>.str ⟨l.toArray⟩)) st else .bad
  |_=>.bad
 |_,_=>.bad
def ycT(m:Mth)(st:SO)(o:PV)(vs:List PV):R PV:=
 match m,vs with
 |.append,[v]=>yd7 st o v
 |.extend,[v]=>yfl st o v
 |.insert,[i,v]=>yfV st o i v
 |.get,[k,d]=>yd1 st o k d
 |.count,[v]=>yeX st o v
 |.index,[v]=>yfx st o v
 |.join,[v]=>yda st o v
 |.split,[v]=>ycm st o v
 |.sidx,[v]=>ydw st o v
 |.clear,[]=>yeG st o
 |.bits,[]=>match o with
  |.int i=>.ok (.int (Builtin.Int.intBits i)) st
  |_=>.bad
 |.upper,[]=>match o with
  |.str s=>if s.cps.toList.all (· < 128)/\s.length<=1000000 then .ok (.str (upS s)) st else .bad
  |_=>.bad
 |_,_=>.bad
def toR(o:Option PV)(st:SO):R PV:=
 match o with
 |some v=>.ok v st
 |none=>.bad
def yD(t:Tg)(v:PV)(ρ:Env):Option Env:=
 match t,v with
 |.n i,v=>AA (ρ.set i (AA v))
 |.t l,.tp _ xs=>if l.length=xs.length then AA ((l.zip xs).foldl (λρ p=>ρ.set p.1 (AA p.2)) ρ)else AF
 |_,_=>AF
def yL:Nat->List PV->List PV
 |_,[]=>[]
 |k,x::xs=>.tup [.int k,x]::yL (k+1) xs
def ycw:List PV->List PV->List PV
 |x::xs,y::ys=>.tup [x,y]::ycw xs ys
 |_,_=>[]
def yfb:PV->Option (List PV)
 |.tp _ xs=>AA xs.reverse
 |.lst xs=>AA xs.reverse
 |_=>AF
def ych:PV->Option (List PV)
 |.str s=>if s.length<=1000000 then AA (s.cps.toList.map λc=>.str ⟨#[c]⟩)else AF
 |_=>AF
def yeO(x y:PV):Option (List PV):=
 match x,y with
 |.tp _ xs,.tp _ ys=>if xs.length<=ys.length then AA (ycw xs ys)else AF
 |_,_=>AF
def yaN(s:AR):List (AR×PV)->Option PV
 |[]=>AF
 |(a,b)::r=>if decide (a=s)then AA b else yaN s r
def yK:Nat->Int->Int->List PV
 |0,_,_=>[]
 |n+1,a,d=>.int a::yK n (a+d) d
def ydx(x:PV):Option (List PV):=
 match x with
 |.int j=>if j.natAbs<1000000000 then AA (yK j.toNat 0 1)else AF
 |_=>AF
def yfX(x:PV):Option (List PV):=
 match x with
 |.int j=>if 0<=j/\j<1000000000 then AA (yK j.toNat (j-1) (-1))else AF
 |_=>AF
def yeQ(x y:PV):Option (List PV):=
 match x,y with
 |.int i,.int j=>if i.natAbs<1000000000/\j.natAbs<1000000000 then AA (yK (j-i).toNat i 1)else AF
 |_,_=>AF
def yfk(x y:PV):Option (List PV):=
 match x,y with
 |.int i,.int j=>if i.natAbs<1000000000/\j.natAbs<1000000000 then AA (yK (i-j).toNat i (-1))else AF
 |_,_=>AF
def toL(o:Option (List PV))(st:SO):R (List PV):=
 match o with
 |some v=>.ok v st
 |none=>.bad
def ycY(f:AR)(v:PV):List (AR×PV)->List (AR×PV)
 |[]=>[(f,v)]
 |(g,x)::r=>if g=f then(g,v)::r else(g,x)::ycY f v r
inductive Fl where
 |nx (ρ:Env) (st:SO)|rt (v:PV) (st:SO)|bk (ρ:Env) (st:SO)|ct (ρ:Env) (st:SO)|exc (c:Nat) (ρ:Env) (st:SO)|bad
def onBl{α:Type}(x:PV)(k:Bool->R α):R α:=
 match x with
 |.bl b=>k b
 |_=>.bad
def onO{α:Type}(o:Option Bool)(k:Bool->R α):R α:=
 match o with
 |some b=>k b
 |none=>.bad
def onF(o:Option Bool)(k:Bool->Fl):Fl:=
 match o with
 |some b=>k b
 |none=>.bad
def onP{α:Type}(o:Option (Option Int))(k:Option Int->R α):R α:=
 match o with
 |some b=>k b
 |none=>.bad
def blO(o:Option PV):Option Bool:=
 match o with
 |some (.bl b)=>AA b
 |_=>AF
def yaA(o:Option PV)(ys:List PV):List PV:=
 match o with
 |some y=>y::ys
 |none=>ys
def yaw(one:PV->SO->R (Option PV)):List PV->SO->R (List PV)
 |[],st=>.ok [] st
 |x::xs,st=>(one x st).bind λo st1=>(yaw one xs st1).bind λys st2=>.ok (yaA o ys) st2
def ybv(r:R (List PV)):R PV:=
 match r with
 |.ok ys st=>if ys.length<=1000000 then .ok (.lst ys) st else .bad
 |_=>.bad
def yaC(one:PV->SO->R (Option PV))(n:Nat):Nat->Nat->SO->R (List PV)
 |0,_,_=>.bad
 |f+1,i,st=>match st[n]? with
  |some (.lst xs)=>match xs[i]? with
   |some x=>(one x st).bind λo st1=>(yaC one n f (i+1) st1).bind λys st2=>.ok (yaA o ys) st2
   |none=>.ok [] st
  |_=>.bad
def ycP:PV->Option (AR×Int×Int)
 |.tp AH [.str s,.int i,.int j]=>AA (s,i,j)
 |_=>AF
def ltS(a b:AR×Int×Int):Bool:=if a.1=b.1 then(if a.2.1==b.2.1 then(if a.2.2==b.2.2 then AH else decide (a.2.2<b.2.2))else decide (a.2.1<b.2.1))else decide (a.1.cps.toList<b.1.cps.toList)
def yd8:List PV->Option PV
 |[]=>AA (.lst [])
 |[x]=>AA (.lst [x])
 |[x,y]=>match ycP x,ycP y with
  |some p,AA q=>AA (.lst (if ltS q p then [y,x]else [x,y]))
  |_,_=>AF
 |_=>AF
def yd3(st:SO)(x:PV):Option PV:=(yt st x).bind yd8
def yaZ:PV×PV->Bool
 |(_,.int _)=>AC
 |_=>AH
def ivP:PV->Int
 |.int i=>i
 |_=>0
def yeo(st:SO)(o:Option (Option PV)):R PV:=
 match o with
 |some (AA v)=>match yaq st v with
  |some (AC,kvs)=>if (kvs.all yaZ&&decide (kvs.length<=1000))=AC then .ok (.loc st.length) (st++[.dct AC ((kvs.filter λp=>!(ivP p.2==0)).foldl (λacc kv=>put kv.1 kv.2 acc) [])])else .bad
  |_=>.bad
 |_=>.bad
def ybH(ka kb:List (PV×PV)):Bool:=ka.length==kb.length&&ka.all λp=>match look p.1 kb with
 |some v=>ivP p.2==ivP v
 |none=>AH
def yb3(st:SO)(x y:PV):Option PV:=
 match yaq st x,yaq st y with
 |some (AC,ka),AA (AC,kb)=>if (ka.all yaZ&&kb.all yaZ)=AC then AA (.bl (!ybH ka kb))else AF
 |_,_=>AF
mutual
noncomputable def ev(call:Nat->List PV->SO->R PV)(ρ:Env)(st:SO):Ce->R PV
 |.cst v=>.ok v st
 |.var i=>match ρ[i]? with
  |some (AA v)=>.ok v st
  |_=>.bad
 |.bin o a b=>(ev call ρ st a).bind λx st1=>(ev call ρ st1 b).bind λy st2=>toR (yu o x y) st2
 |.neg a=>(ev call ρ st a).bind λx st1=>match x with
  |.int i=>.ok (.int (-i)) st1
  |_=>.bad
 |.not a=>(ev call ρ st a).bind λx st1=>onBl x λk=>.ok (.bl (!k)) st1
 |.and a b=>(ev call ρ st a).bind λx st1=>onBl x λk=>cond k (ev call ρ st1 b) (.ok (.bl AH) st1)
 |.or a b=>(ev call ρ st a).bind λx st1=>onBl x λk=>cond k (.ok (.bl AC) st1) (ev call ρ st1 b)
 |.cmp o a b=>(ev call ρ st a).bind λx st1=>(ev call ρ st1 b).bind λy st2=>toR (yr o x y) st2
 |.chain o p a b c=>(ev call ρ st a).bind λx st1=>(ev call ρ st1 b).bind λy st2=>onO (blO (yr o x y)) λk=>cond k ((ev call ρ st2 c).bind λz st3=>toR (yr p y z) st3) (.ok (.bl AH) st2)
 |.ite c a b=>(ev call ρ st c).bind λx st1=>onO (yae st1 x) λk=>cond k (ev call ρ st1 a) (ev call ρ st1 b)
 |.tup es=>(evs call ρ st es).bind λvs st1=>if vs.length<=sizeMax then .ok (.tup vs) st1 else .bad
 |.lst es=>(evs call ρ st es).bind λvs st1=>if vs.length<=sizeMax then .ok (.lst vs) st1 else .bad
 |.newl es=>(evs call ρ st es).bind λvs st1=>if vs.length<=sizeMax then .ok (.loc st1.length) (st1++[.lst vs])else .bad
 |.newd kvs=>if kvs.length<=15 then .ok (.loc st.length) (st++[.dct AH (kvs.foldl (λacc kv=>put (.str kv.1) (.int kv.2) acc) [])])else .bad
 |.dict0 t=>.ok (.loc st.length) (st++[.dct t []])
 |.idx a i=>(ev call ρ st a).bind λx st1=>(ev call ρ st1 i).bind λy st2=>toR (idxV st2 x y) st2
 |.slc a l h=>(ev call ρ st a).bind λx st1=>(ev call ρ st1 l).bind λy st2=>onP (yby y) λo=>(ev call ρ st2 h).bind λz st3=>toR (ycz x o z) st3
 |.call f es=>(evs call ρ st es).bind λvs st1=>call f vs st1
 |.blt b es=>(evs call ρ st es).bind λvs st1=>toR (yaG b st1 vs) st1
 |.mth m o es=>(ev call ρ st o).bind λx st1=>onO (yaM m st1 x) λ_=>(evs call ρ st1 es).bind λvs st2=>ycT m st2 x vs
 |.isi a ts=>(ev call ρ st a).bind λx st1=>toR (ybk x ts) st1
 |.comp sl tg it c e=>(evi call ρ st it).bind λxs st1=>
  let ρ0:Env:=sl.map λo=>o.bind λj=>(ρ[j]?).join
  ybv (yaw (λx st2=>match yD tg x ρ0 with
   |none=>.bad
   |some ρ1=>(ev call ρ1 st2 c).bind λb st3=>onO (yae st3 b) λk=>cond k ((ev call ρ1 st3 e).bind λy st4=>.ok (AA y) st4) (.ok AF st3)) xs st1)
 |.nope=>.bad
 |.cml sl tg i e=>(ev call ρ st i).bind λv st1=>match v with
  |.loc n=>
   let ρ0:Env:=sl.map λo=>o.bind λj=>(ρ[j]?).join
   ybv (yaC (λx st2=>match yD tg x ρ0 with
    |none=>.bad
    |some ρ1=>(ev call ρ1 st2 e).bind λy st4=>.ok (AA y) st4) n 1000000 0 st1)
  |_=>.bad
 |.srt a=>(ev call ρ st a).bind λx st1=>toR (yd3 st1 x) st1
 |.dfl i=>yeo st ρ[i]?
 |.dne a b=>(ev call ρ st a).bind λx st1=>(ev call ρ st1 b).bind λy st2=>toR (yb3 st2 x y) st2
noncomputable def evs(call:Nat->List PV->SO->R PV)(ρ:Env)(st:SO):Ces->R (List PV)
 |.nil=>.ok [] st
 |.cons e es=>(ev call ρ st e).bind λv st1=>(evs call ρ st1 es).bind λvs st2=>.ok (v::vs) st2
noncomputable def evi(call:Nat->List PV->SO->R PV)(ρ:Env)(st:SO):Cit->R (List PV)
 |.seq e=>(ev call ρ st e).bind λv st1=>match v with
  |.tp _ xs=>.ok xs st1
  |.lst xs=>.ok xs st1
  |_=>.bad
 |.range1 a=>(ev call ρ st a).bind λx st1=>toL (ydx x) st1
 |.range2 a b=>(ev call ρ st a).bind λx st1=>(ev call ρ st1 b).bind λy st2=>toL (yeQ x y) st2
 |.rangeD a b=>(ev call ρ st a).bind λx st1=>(ev call ρ st1 b).bind λy st2=>toL (yfk x y) st2
 |.enum e=>(ev call ρ st e).bind λv st1=>match v with
  |.tp _ xs=>.ok (yL 0 xs) st1
  |_=>.bad
 |.zip a b=>(ev call ρ st a).bind λx st1=>(ev call ρ st1 b).bind λy st2=>toL (yeO x y) st2
 |.revl e=>(ev call ρ st e).bind λv st1=>toL (yfb v) st1
 |.revr a=>(ev call ρ st a).bind λx st1=>toL (yfX x) st1
 |.chars e=>(ev call ρ st e).bind λv st1=>toL (ych v) st1
end
def R.fl{α:Type}(r:R α)(ρ:Env)(k:α->SO->Fl):Fl:=
 match r with
 |.ok a st=>k a st
 |.exc c st=>.exc c ρ st
 |.bad=>.bad
def yaa(f:Fl)(k:Env->SO->Fl):Fl:=
 match f with
 |.nx ρ st=>k ρ st
 |.ct ρ st=>k ρ st
 |.bk ρ st=>.nx ρ st
 |f=>f
def forL(t:Tg)(body:Env->SO->Fl):List PV->Env->SO->Fl
 |[],ρ,st=>.nx ρ st
 |x::xs,ρ,st=>match yD t x ρ with
  |none=>.bad
  |some ρ1=>yaa (body ρ1 st) λρ2 st2=>forL t body xs ρ2 st2
def yU(test:Env->SO->R PV)(body:Env->SO->Fl):Nat->Env->SO->Fl
 |0,_,_=>.bad
 |n+1,ρ,st=>(test ρ st).fl ρ λx st1=>onF (yae st1 x) λk=>cond k (yaa (body ρ st1) λρ2 st2=>yU test body n ρ2 st2) (.nx ρ st1)
def yaK(st:SO)(o i v:PV):Option SO:=
 match o with
 |.loc n=>match st[n]? with
  |some (.lst xs)=>match i with
   |.int k=>match ixI xs.length k with
    |some j=>AA (st.set n (.lst (xs.set j v)))
    |none=>AF
   |_=>AF
  |_=>AF
 |_=>AF
def ybs(st:SO)(o i v:PV):Option SO:=
 match o with
 |.loc n=>match st[n]? with
  |some (.dct t kvs)=>if isKey t i/\kvs.length<1000000 then AA (st.set n (.dct t (put i v kvs)))else AF
  |_=>AF
 |_=>AF
mutual
noncomputable def ex(call:Nat->List PV->SO->R PV)(ρ:Env)(st:SO):Cs->Fl
 |.expr e=>(ev call ρ st e).fl ρ λ_ st1=>.nx ρ st1
 |.asg t e=>(ev call ρ st e).fl ρ λv st1=>match yD t v ρ with
  |some ρ1=>.nx ρ1 st1
  |none=>.bad
 |.six o i e=>(ev call ρ st e).fl ρ λv st1=>(ev call ρ st1 o).fl ρ λx st2=>(ev call ρ st2 i).fl ρ λy st3=>match yaK st3 x y v with
  |some st4=>.nx ρ st4
  |none=>.bad
 |.dput o i e=>(ev call ρ st e).fl ρ λv st1=>(ev call ρ st1 o).fl ρ λx st2=>(ev call ρ st2 i).fl ρ λy st3=>match ybs st3 x y v with
  |some st4=>.nx ρ st4
  |none=>.bad
 |.aug i o e=>match ρ[i]? with
  |some (AA x)=>(ev call ρ st e).fl ρ λy st1=>match ya5 o x y with
   |some z=>.nx (ρ.set i (AA z)) st1
   |none=>.bad
  |_=>.bad
 |.ret e=>(ev call ρ st e).fl ρ λv st1=>.rt v st1
 |.ite c a b=>(ev call ρ st c).fl ρ λx st1=>onF (yae st1 x) λk=>cond k (exs call ρ st1 a) (exs call ρ st1 b)
 |.for t it b=>(evi call ρ st it).fl ρ λxs st1=>forL t (λρ2 st2=>exs call ρ2 st2 b) xs ρ st1
 |.while c b=>yU (λρ2 st2=>ev call ρ2 st2 c) (λρ2 st2=>exs call ρ2 st2 b) 100000 ρ st
 |.nope=>.bad
noncomputable def exs(call:Nat->List PV->SO->R PV)(ρ:Env)(st:SO):Css->Fl
 |.nil=>.nx ρ st
 |.cons s ss=>match ex call ρ st s with
  |.nx ρ1 st1=>exs call ρ1 st1 ss
  |f=>f
end
structure Fn where
 np:Nat
 ns:Nat
 pure:Bool
 body:Css
def yg(T:Nat->Option Fn):Nat->Nat->List PV->SO->R PV
 |0,_,_,_=>.bad
 |k+1,f,args,st=>match T f with
  |none=>.bad
  |some fn=>if args.length=fn.np then
    if fn.pure then
     if nLs args then match exs (yg T k) (args.map AA++Aj (fn.ns-fn.np) AF) [] fn.body with
      |.rt v _=>if nL v then .ok v st else .bad
      |.nx _ _=>.ok .non st
      |.exc c _ _=>.exc c st
      |_=>.bad
     else .bad
    else match exs (yg T k) (args.map AA++Aj (fn.ns-fn.np) AF) st fn.body with
     |.rt v st1=>.ok v st1
     |.nx _ st1=>.ok .non st1
     |.exc c _ st1=>.exc c st1
     |_=>.bad
   else .bad
def yh:List (Sum Ce Int)->Ces
 |[]=>.nil
 |.inl c::r=>.cons c (yh r)
 |.inr i::r=>.cons (.cst (.int i)) (yh r)
def yG:Ces->Ces->Ces
 |.nil,b=>b
 |.cons e r,b=>.cons e (yG r b)
end IC
namespace L2
open PySem PySem.Spec PyProof.Rows IC
abbrev Ph:=List (Option AI)
section
variable (K:AE)(cl:Nat->AI)(B:AI->Prop)(φ:Ph)(H:Hp)
def ybg(k:Bool)(a:AI)(xs:List V):Prop:=(H a=AA (.tup xs)/\¬B a/\AA a∉φ) \/
 k=AC/\∃(o:B6) (its:Array AD) (n:Nat),K.lookup a=AA o/\o.cls=.type "tuple"/\o.data=.seq its n/\its.size<=sizeLine/\Vals xs its.toList
def ybQ(a:AI)(xs:List V):Prop:=H a=AA (.lst xs)/\¬B a/\AA a∉φ
def ycX(a:AI)(xs:List V):Prop:=(Rd H a (.lst xs)/\¬B a/\AA a∉φ) \/
 ∃(o:B6) (its:Array AD) (n:Nat),K.lookup a=AA o/\o.cls=.type "list"/\o.dict=AF/\o.data=.seq its n/\its.size<=sizeLine/\Vals xs its.toList
mutual
noncomputable def yc:PV->V->Prop
 |.non,x=>x=.non
 |.bl b,x=>x=.bl b
 |.int i,x=>x=.int i
 |.str s,x=>x=.str s
 |.tp k vs,x=>∃a xs,x=.ref a/\ybg K B φ H k a xs/\yd vs xs
 |.lst vs,x=>∃a xs,x=.ref a/\ybQ B φ H a xs/\yd vs xs
 |.loc n,x=>n<φ.length/\∃a,x=.ref a/\∀b,φ[n]?=AA (AA b)->b=a
 |.exn c,x=>∃a,x=.ref a/\H a=AA (.ext (yeD a (cl c)))/\¬B a/\AA a∉φ
 |.scr vs,x=>∃a xs,x=.ref a/\ycX K B φ H a xs/\yd vs xs
 |.fnc j,x=>x=.ref (cl (1000+j))
noncomputable def yd:List PV->List V->Prop
 |[],xs=>xs=[]
 |v::vs,xs=>∃y ys,xs=y::ys/\yc v y/\yd vs ys
end
def yaI:Key->PV
 |.inl i=>.int i
 |.inr y=>.str y
mutual
noncomputable def nkP:NK->PV
 |.a k=>yaI k
 |.t l=>.tup (yab l)
noncomputable def yab:List NK->List PV
 |[]=>[]
 |k::l=>nkP k::yab l
end
def DK:List (PV×PV)->List (Key×V)->Prop
 |[],ks=>ks=[]
 |(k,v)::r,ks=>∃q x s,ks=(q,x)::s/\k=yaI q/\yc K cl B φ H v x/\DK r s
def DT:List (PV×PV)->List (List NK×V)->Prop
 |[],ks=>ks=[]
 |(k,v)::r,ks=>∃q x s,ks=(q,x)::s/\k=.tup (yab q)/\yc K cl B φ H v x/\DT r s
def FS:List (AR×PV)->List (AR×V)->Prop
 |[],ks=>ks=[]
 |(k,v)::r,ks=>∃x s,ks=(k,x)::s/\yc K cl B φ H v x/\FS r s
def ybp:Ob->AI->Prop
 |.lst vs,a=>∃xs,H a=AA (.lst xs)/\yd K cl B φ H vs xs
 |.dct AH kvs,a=>∃ks,H a=AA (.dK ks)/\DK K cl B φ H kvs ks
 |.dct AC kvs,a=>∃ks,H a=AA (.dT ks)/\DT K cl B φ H kvs ks
 |.dead,_=>False
 |.ins c fs,a=>∃ks,(∃dx,H a=AA (.ins (cl c) dx ks))/\FS K cl B φ H fs ks
structure yj(st:SO):Prop where
 len:φ.length=st.length
 inj:∀(m n:Nat) (a:AI),φ[m]?=AA (AA a)->φ[n]?=AA (AA a)->m=n
 obj:∀(n:Nat) (a:AI),φ[n]?=AA (AA a)->∃o,st[n]?=AA o/\ybp K cl B φ H o a
 liv:∀(n:Nat) (o:Ob),st[n]?=AA o->o ≠ .dead->∃a,φ[n]?=AA (AA a)
 nb:∀a,AA a∈φ->¬B a
 dom:∀a,B a->∃o,H a=AA o
structure yo(ρ:IC.Env)(σ:St):Prop where
 len:ρ.length=σ.length
 get:∀(i:Nat) (v:PV),ρ[i]?=AA (AA v)->∃x,σ[i]?=AA (AA x)/\yc K cl B φ H v x
end
structure Step(φ:Ph)(H:Hp)(φ':Ph)(H':Hp):Prop where
 keep:∀b o,AA b∉φ->H b=AA o->H' b=AA o
 len:φ.length<=φ'.length
 pre:∀(n:Nat) (a:AI),n<φ.length->φ'[n]?=AA (AA a)->φ[n]?=AA (AA a)
 new:∀b,AA b∈φ'->AA b∈φ \/ H b=AF
theorem Step.rfl{φ:Ph}{H:Hp}:Step φ H φ H:=⟨λ_ _ _ e=>e,AS _,λ_ _ _ e=>e,λ_ h=>.inl h⟩
theorem Step.trans{φ φ1 φ2:Ph}{H H1 H2:Hp}(s:Step φ H φ1 H1)(t:Step φ1 H1 φ2 H2):Step φ H φ2 H2:=by
 refine⟨λb o n e=>?_,BS s.len t.len,λn a hn e=>s.pre n a hn (t.pre n a (AY hn s.len) e),λb hb=>?_⟩
 .refine t.keep b o (λh=>?_) (s.keep b o n e);rcases s.new b h with q|q
  .exact n q
  .rw[e]at q;cases q
 .rcases t.new b hb with q|q
  .exact s.new b q
  .by_cases h:AA b∈φ
   .exact .inl h
   .refine .inr ?_
    cases e:H b with
    |none=>exact Fc _
    |some o=>rw[s.keep b o h e]at q;cases q
section
variable {K:AE}{cl:Nat->AI}{B:AI->Prop}{φ φ':Ph}{H H':Hp}{st:SO}{ρ:IC.Env}{σ:St}
theorem Rd.step(s:Step φ H φ' H'){a:AI}{u:HO}(n:AA a∉φ)(r:Rd H a u):Rd H' a u/\AA a∉φ':=by
 have h:∃o,H a=AA o:=by
  rcases r with r|⟨o,r⟩<;>exact⟨_,r⟩
 refine⟨?_,λz=>?_⟩
 .rcases r with r|⟨o,r⟩
  .exact .inl (s.keep _ _ n r)
  .exact .inr ⟨o,s.keep _ _ n r⟩
 .let⟨o,e⟩:=h;rcases s.new a z with q|q
  .exact n q
  .rw[e]at q;cases q
theorem ybg.step(s:Step φ H φ' H'){k:Bool}{a:AI}{xs:List V}(r:ybg K B φ H k a xs):ybg K B φ' H' k a xs:=by
 rcases r with⟨r,b,n⟩|r
 .let⟨_,n'⟩:=(Rd.of r).step s n;exact .inl ⟨s.keep _ _ n r,b,n'⟩
 .exact .inr r
theorem ybQ.step(s:Step φ H φ' H'){a:AI}{xs:List V}(r:ybQ B φ H a xs):ybQ B φ' H' a xs:=by
 let⟨r,b,n⟩:=r;let⟨_,n'⟩:=(Rd.of r).step s n;exact⟨s.keep _ _ n r,b,n'⟩
theorem ycX.step(s:Step φ H φ' H'){a:AI}{xs:List V}(r:ycX K B φ H a xs):ycX K B φ' H' a xs:=by
 rcases r with⟨r,b,n⟩|r
 .let⟨r',n'⟩:=r.step s n;exact .inl ⟨r',b,n'⟩
 .exact .inr r
mutual
theorem yc.step(s:Step φ H φ' H'):∀(v:PV) (x:V),yc K cl B φ H v x->yc K cl B φ' H' v x
 |.non,x,h=>by erw[yc]at h ⊢;exact h
 |.bl b,x,h=>by erw[yc]at h ⊢;exact h
 |.int i,x,h=>by erw[yc]at h ⊢;exact h
 |.str y,x,h=>by erw[yc]at h ⊢;exact h
 |.tp k vs,x,h=>by
  erw[yc]at h ⊢;let⟨a,xs,e,r,l⟩:=h;exact⟨a,xs,e,r.step s,yd.step s vs xs l⟩
 |.lst vs,x,h=>by
  erw[yc]at h ⊢;let⟨a,xs,e,r,l⟩:=h;exact⟨a,xs,e,r.step s,yd.step s vs xs l⟩
 |.loc n,x,h=>by
  erw[yc]at h ⊢;let⟨h1,a,e,h2⟩:=h;exact⟨AY h1 s.len,a,e,λb q=>h2 b (s.pre n b h1 q)⟩
 |.fnc j,x,h=>by erw[yc]at h ⊢;exact h
 |.exn c,x,h=>by
  erw[yc]at h ⊢;let⟨a,e,r,b,n⟩:=h;let⟨_,n'⟩:=(Rd.of r).step s n;exact⟨a,e,s.keep _ _ n r,b,n'⟩
 |.scr vs,x,h=>by
  erw[yc]at h ⊢;let⟨a,xs,e,r,l⟩:=h;exact⟨a,xs,e,r.step s,yd.step s vs xs l⟩
theorem yd.step(s:Step φ H φ' H'):∀(v:List PV) (x:List V),yd K cl B φ H v x->yd K cl B φ' H' v x
 |[],x,h=>by erw[yd]at h ⊢;exact h
 |v::vs,x,h=>by
  erw[yd]at h ⊢;let⟨y,ys,e,r,l⟩:=h;exact⟨y,ys,e,yc.step s v y r,yd.step s vs ys l⟩
end
theorem yo.step(s:Step φ H φ' H')(r:yo K cl B φ H ρ σ):yo K cl B φ' H' ρ σ:=⟨r.len,λi v e=>by
 let⟨x,h,q⟩:=r.get i v e;exact⟨x,h,q.step s⟩⟩
mutual
theorem yc.inn(hn:∀a,AA a∈φ->¬B a):∀(v:PV) (x:V),nL v=AC->yc K cl B φ H v x->yc K cl (λa=>B a \/ AA a∈φ) [] H v x
 |.non,x,_,h=>by erw[yc]at h ⊢;exact h
 |.bl b,x,_,h=>by erw[yc]at h ⊢;exact h
 |.int i,x,_,h=>by erw[yc]at h ⊢;exact h
 |.str y,x,_,h=>by erw[yc]at h ⊢;exact h
 |.tp k vs,x,q,h=>by
  erw[yc]at h ⊢;let⟨a,xs,e,r,l⟩:=h;refine⟨a,xs,e,?_,yd.inn hn vs xs (by simpa only[nL] using q) l⟩;rcases r with⟨r,b,n⟩|r
  .exact .inl ⟨r,λz=>z.elim b n,by simp⟩
  .exact .inr r
 |.lst vs,x,q,h=>by
  erw[yc]at h ⊢;let⟨a,xs,e,⟨r,b,n⟩,l⟩:=h;exact⟨a,xs,e,⟨r,λz=>z.elim b n,by simp⟩,yd.inn hn vs xs (by simpa only[nL] using q) l⟩
 |.loc n,x,q,h=>by simp[nL]at q
 |.fnc j,x,q,h=>by erw[yc]at h ⊢;exact h
 |.exn c,x,q,h=>by simp[nL]at q
 |.scr vs,x,q,h=>by
  erw[yc]at h ⊢;let⟨a,xs,e,r,l⟩:=h;refine⟨a,xs,e,?_,yd.inn hn vs xs (by simpa only[nL] using q) l⟩;rcases r with⟨r,b,n⟩|r
  .exact .inl ⟨r,λz=>z.elim b n,by simp⟩
  .exact .inr r
theorem yd.inn(hn:∀a,AA a∈φ->¬B a):∀(v:List PV) (x:List V),nLs v=AC->yd K cl B φ H v x->yd K cl (λa=>B a \/ AA a∈φ) [] H v x
 |[],x,_,h=>by erw[yd]at h ⊢;exact h
 |v::vs,x,q,h=>by
  erw[yd]at h ⊢;erw[nLs,AJ]at q;let⟨y,ys,e,r,l⟩:=h;exact⟨y,ys,e,yc.inn hn v y q.1 r,yd.inn hn vs ys q.2 l⟩
end
mutual
theorem yc.out{ψ:Ph}:∀(v:PV) (x:V),nL v=AC->yc K cl (λa=>B a \/ AA a∈φ) ψ H v x->yc K cl B φ H v x
 |.non,x,_,h=>by erw[yc]at h ⊢;exact h
 |.bl b,x,_,h=>by erw[yc]at h ⊢;exact h
 |.int i,x,_,h=>by erw[yc]at h ⊢;exact h
 |.str y,x,_,h=>by erw[yc]at h ⊢;exact h
 |.tp k vs,x,q,h=>by
  erw[yc]at h ⊢;let⟨a,xs,e,r,l⟩:=h;refine⟨a,xs,e,?_,yd.out vs xs (by simpa only[nL] using q) l⟩;rcases r with⟨r,b,n⟩|r
  .exact .inl ⟨r,λz=>b (.inl z),λz=>b (.inr z)⟩
  .exact .inr r
 |.lst vs,x,q,h=>by
  erw[yc]at h ⊢;let⟨a,xs,e,⟨r,b,n⟩,l⟩:=h;exact⟨a,xs,e,⟨r,λz=>b (.inl z),λz=>b (.inr z)⟩,yd.out vs xs (by simpa only[nL] using q) l⟩
 |.loc n,x,q,h=>by simp[nL]at q
 |.fnc j,x,q,h=>by erw[yc]at h ⊢;exact h
 |.exn c,x,q,h=>by simp[nL]at q
 |.scr vs,x,q,h=>by
  erw[yc]at h ⊢;let⟨a,xs,e,r,l⟩:=h;refine⟨a,xs,e,?_,yd.out vs xs (by simpa only[nL] using q) l⟩;rcases r with⟨r,b,n⟩|r
  .exact .inl ⟨r,λz=>b (.inl z),λz=>b (.inr z)⟩
  .exact .inr r
theorem yd.out{ψ:Ph}:∀(v:List PV) (x:List V),nLs v=AC->yd K cl (λa=>B a \/ AA a∈φ) ψ H v x->yd K cl B φ H v x
 |[],x,_,h=>by erw[yd]at h ⊢;exact h
 |v::vs,x,q,h=>by
  erw[yd]at h ⊢;erw[nLs,AJ]at q;let⟨y,ys,e,r,l⟩:=h;exact⟨y,ys,e,yc.out v y q.1 r,yd.out vs ys q.2 l⟩
end
theorem yd.length:∀{v:List PV} {x:List V},yd K cl B φ H v x->v.length=x.length
 |[],x,h=>by erw[yd]at h;subst h;rfl
 |v::vs,x,h=>by
  erw[yd]at h;let⟨y,ys,rfl,_,l⟩:=h;simp[yd.length l]
theorem DK.step(s:Step φ H φ' H'):∀{kvs:List (PV×PV)} {ks:List (Key×V)},DK K cl B φ H kvs ks->DK K cl B φ' H' kvs ks
 |[],ks,h=>h
 |(k,v)::r,ks,h=>by
  let⟨q,x,t,e,m,rv,l⟩:=h;exact⟨q,x,t,e,m,rv.step s,DK.step s l⟩
theorem DT.step(s:Step φ H φ' H'):∀{kvs:List (PV×PV)} {ks:List (List NK×V)},DT K cl B φ H kvs ks->DT K cl B φ' H' kvs ks
 |[],ks,h=>h
 |(k,v)::r,ks,h=>by
  let⟨q,x,t,e,m,rv,l⟩:=h;exact⟨q,x,t,e,m,rv.step s,DT.step s l⟩
theorem FS.step(s:Step φ H φ' H'):∀{kvs:List (AR×PV)} {ks:List (AR×V)},FS K cl B φ H kvs ks->FS K cl B φ' H' kvs ks
 |[],ks,h=>h
 |(k,v)::r,ks,h=>by
  let⟨x,t,e,rv,l⟩:=h;exact⟨x,t,e,rv.step s,FS.step s l⟩
theorem ybp.step(s:Step φ H φ' H'){o:Ob}{a:AI}(e:H' a=H a)(r:ybp K cl B φ H o a):ybp K cl B φ' H' o a:=by
 cases o with
 |lst vs=>
  let⟨xs,q,l⟩:=r;exact⟨xs,e.trans q,l.step s⟩
 |dct t kvs=>
  cases t with
  |false=>let⟨ks,q,l⟩:=r;exact⟨ks,e.trans q,l.step s⟩
  |true=>let⟨ks,q,l⟩:=r;exact⟨ks,e.trans q,l.step s⟩
 |dead=>exact r
 |ins c fs=>let⟨ks,⟨dx,q⟩,l⟩:=r;exact⟨ks,⟨dx,e.trans q⟩,l.step s⟩
theorem ybp.there{o:Ob}{a:AI}(r:ybp K cl B φ H o a):∃u,H a=AA u:=by
 cases o with
 |lst vs=>let⟨xs,q,l⟩:=r;exact⟨_,q⟩
 |dct t kvs=>cases t<;>(let⟨ks,q,l⟩:=r;exact⟨_,q⟩)
 |dead=>exact r.elim
 |ins c fs=>let⟨ks,⟨dx,q⟩,l⟩:=r;exact⟨_,q⟩
theorem yj.there(S:yj K cl B φ H st){a:AI}(h:AA a∈φ):∃u,H a=AA u:=by
 let⟨n,e⟩:=List.mem_iff_getElem?.mp h;let⟨o,_,r⟩:=S.obj n a e;exact r.there
theorem Step.upd{p:AI}{o:HO}(hp:H p=AF):Step φ H φ (upd H p o):=
 ⟨λb u n e=>by rw[za (zb e hp)];exact e,AS _,λ_ _ _ e=>e,λ_ h=>.inl h⟩
theorem yj.same(S:yj K cl B φ H st)(k:∀b o,H b=AA o->H' b=AA o):yj K cl B φ H' st:=by
 have s:Step φ H φ H':=⟨λb o _ e=>k b o e,AS _,λ_ _ _ e=>e,λ_ h=>.inl h⟩;refine⟨S.len,S.inj,λn a e=>?_,S.liv,S.nb,λa h=>?_⟩
 .let⟨o,q,r⟩:=S.obj n a e;let⟨u,z⟩:=r.there;exact⟨o,q,r.step s ((k a u z).trans z.symm)⟩
 .let⟨o,q⟩:=S.dom a h;exact⟨o,k a o q⟩
theorem yj.upd{p:AI}{o:HO}(S:yj K cl B φ H st)(hp:H p=AF):yj K cl B φ (upd H p o) st:=S.same λb u e=>by rw[za (zb e hp)];exact e
mutual
theorem yc.moreB{B':AI->Prop}(hn:∀y,B' y->B y \/ H y=AF):∀(v:PV) (x:V),yc K cl B φ H v x->yc K cl B' φ H v x
 |.non,x,h=>by erw[yc]at h ⊢;exact h
 |.bl b,x,h=>by erw[yc]at h ⊢;exact h
 |.int i,x,h=>by erw[yc]at h ⊢;exact h
 |.str y,x,h=>by erw[yc]at h ⊢;exact h
 |.tp k vs,x,h=>by
  erw[yc]at h ⊢;let⟨y,xs,e,r,l⟩:=h;refine⟨y,xs,e,?_,yd.moreB hn vs xs l⟩;rcases r with⟨r,b,n⟩|r
  .exact .inl ⟨r,λz=>(hn y z).elim b λq=>(by rw[q]at r;cases r),n⟩
  .exact .inr r
 |.lst vs,x,h=>by
  erw[yc]at h ⊢;let⟨y,xs,e,⟨r,b,n⟩,l⟩:=h;exact⟨y,xs,e,⟨r,λz=>(hn y z).elim b λq=>(by rw[q]at r;cases r),n⟩,yd.moreB hn vs xs l⟩
 |.loc n,x,h=>by erw[yc]at h ⊢;exact h
 |.fnc j,x,h=>by erw[yc]at h ⊢;exact h
 |.exn c,x,h=>by
  erw[yc]at h ⊢;let⟨y,e,r,b,n⟩:=h;exact⟨y,e,r,λz=>(hn y z).elim b λq=>(by rw[q]at r;cases r),n⟩
 |.scr vs,x,h=>by
  erw[yc]at h ⊢;let⟨y,xs,e,r,l⟩:=h;refine⟨y,xs,e,?_,yd.moreB hn vs xs l⟩;rcases r with⟨r,b,n⟩|r
  .refine .inl ⟨r,λz=>(hn y z).elim b λq=>?_,n⟩;rcases r with r|⟨o,r⟩<;>(rw[q]at r;cases r)
  .exact .inr r
theorem yd.moreB{B':AI->Prop}(hn:∀y,B' y->B y \/ H y=AF):∀(v:List PV) (x:List V),yd K cl B φ H v x->yd K cl B' φ H v x
 |[],x,h=>by erw[yd]at h ⊢;exact h
 |v::vs,x,h=>by
  erw[yd]at h ⊢;let⟨y,ys,e,r,l⟩:=h;exact⟨y,ys,e,yc.moreB hn v y r,yd.moreB hn vs ys l⟩
end
end
end L2
namespace L2
open PySem PySem.Spec PyProof.Rows
def CXH(X:Cx)(H:Hp)(s:AG)(E:XK)(e:AD)(s':AG):Prop:=
 ∃(C a:AI) (cls a0 fl:AD) (H':Hp) (B:Ah),X.s₀.heap.objs.size<=C/\e=.ref a/\s'.os=s.os/\Cu s'.gens /\
  (B.StaysIn s'.heap/\B.get? a=AF/\s'.heap.FunFrames B X.stack/\s'.heap.TracedAtW B a cls a0 fl)/\HOk X.prog X.w H' s'.heap/\Un (frs X.stack) [C] H H' s.heap s'.heap /\
  (∀b o,s.heap.get? b=AA o->H b=AF->b∉frs X.stack->b≠C->B.get? b=AA o)/\(∀b u,H' b=AA u->∃o,B.get? b=AA o)/\(∀b o,s.heap.get? b=AA o->b∉frs X.stack->b≠C->∃o',B.get? b=AA o')/\E cls AF H'
theorem CXH.mono{X:Cx}{H:Hp}{s:AG}{E E':XK}{e:AD}{s':AG}(h:CXH X H s E e s')(n:∀cls H',E cls AF H'->E' cls AF H'):CXH X H s E' e s':=by
 let⟨C,a,cls,a0,fl,H',B,r1,r2,r3,r4,r5,r6,r7,r8,r9,r10,r11⟩:=h;exact⟨C,a,cls,a0,fl,H',B,r1,r2,r3,r4,r5,r6,r7,r8,r9,r10,n _ _ r11⟩
section
variable {M:Model}{A:A5}{E:AD->AG->Prop}{s:AG}
def zbI{base:Ah}{env:Env}{outer:List Env}{L e:AI}{cls a0 fl:AD}{Q:Unit->AG->Prop}
  (hfr:A.frames=AA (env::outer)) (hf:env.frame=AA L) (f1:base.StaysIn s.heap) (f2:base.get? e=AF) (f3:s.heap.FunFrames base (env::outer)) (f4:s.heap.TracedAtW base e cls a0 fl)
  (hQ:∀h',GZ base outer e cls a0 h'->s.heap.UpToSlots h'->Q () {s with heap:=h'}):AN M A («leaving» env (.ref e)) Q E s:=by
 by_cases hfl:fl=rawInt L
 .subst hfl;unfold «leaving»;refine AB (wpAny_noteFrame_againW hf f4 ?_);refine wpAny_landsW ⟨f1,f2,f3,f4⟩ λh' hfl up=>?_;let⟨k1,k2,⟨_,_,k3⟩,k4⟩:=hfl;exact hQ h' ⟨k1,k2,k3,k4⟩ up
 .let⟨oe,vs,T,oT,ts,he,⟨hcls,h0⟩,hd,h1,hnT,hTe,hT,hdT,h3⟩:=f4;subst hcls;unfold «leaving» noteFrame;erw[hf];refine AB (AB (Bw he hd h1 ?_));rw[if_pos (show (A8 T != BI)=AC from by simp)];refine AB (Bw hT hdT h3 ?_);rw[if_neg (show ¬((fl==rawInt L)=AC)from λz=>hfl (eq_of_beq z))];refine AB (Cc hT hdT (DX.mp h3).1 ?_);have other:∀b,b≠T->(s.heap.update T (Ek (·.setIfInBounds 3 BI))).get? b=s.heap.get? b:=λb hb=>C9 _ _ (B1 hb);have noRecord:∀b o,s.heap.get? b=AA o->(∀vs,o.data ≠ .fields vs)->b≠T:=λb o hb hnf q=>by
   rw[q,hT]at hb;injection hb with hb;subst hb;exact hnf ts hdT
  refine wpAny_newEntryW hfr (f3.of_keeps λb o hb hnf=>⟨o,(other b (noRecord b o hb hnf)).trans hb,rfl⟩) hf ((other e (B1 hTe)).trans he)
   (λb o hbo=>(other b λq=>by rw[q,hnT]at hbo;cases hbo).trans (f1 b o hbo)) f2 hd (DX.mp h1).1 h0
   λh' ⟨x1,⟨_,_,x2⟩,x3,x4⟩=>hQ h' ⟨x1,f2,x2,x3⟩ λb o hb hnf=>x4 b o ((other b (noRecord b o hb hnf)).trans hb) hnf
end
section
variable {P:AT}{w:A3}{K:AE}{mg:AR->Option AD}{base:Ah}{N:List AR}{qual:AR}{scope:BB}{f:AI}{cd:AD}{A:A5}{outer:List Env}{s₀:AG}{H₀:Hp}{E:XK}
def zii{π:List (AI×B6)}{σ:St}{H:Hp}{s:AG}{e:AD}{s':AG}(I:Inv (yag (CX1 P w) P w K mg base N qual scope f cd A outer s₀ H₀ E) π σ H s)(h:CXH (yag (CX1 P w) P w K mg base N qual scope f cd A outer s₀ H₀ E) H s E e s'):
  (yag (CX1 P w) P w K mg base N qual scope f cd A outer s₀ H₀ E).xe e s':=by
 let⟨C,a,cls,a0,fl,H',B,hC,rfl,os,bare,⟨f1,f2,f3,f4⟩,hok,un,hB,tr,hT,hE⟩:=h;have bse:Un (frs outer) [] H₀ H s₀.heap s.heap:=I.base;have lt:∀b o,s₀.heap.get? b=AA o->b≠s₀.heap.objs.size:=λb o q=>A0 (AO q);have neC:∀b o,s₀.heap.get? b=AA o->b≠C:=λb o q=>A0 (AY (AO q) hC);have niC:∀b o,s₀.heap.get? b=AA o->b∉[C]:=λb o q z=>neC b o q (by simpa using z);have hst:∀b,b∈frs (envOfC qual scope s₀.heap.objs.size f cd::outer)->b=s₀.heap.objs.size \/ b∈frs outer:=λb hb=>by
  have hb':b∈s₀.heap.objs.size::frs outer:=hb;exact Ac.mp hb'
 have un':Un (frs (envOfC qual scope s₀.heap.objs.size f cd::outer)) [C] H H' s.heap s'.heap:=un;have kB:∀b o,s₀.heap.get? b=AA o->H₀ b=AF->b∉frs outer->B.get? b=AA o:=λb o q n hb=>hB b o (bse.keep b o q n hb (by simp)) (bse.free b o q n (by simp)) (λz=>by
  rcases hst b z with z|z
  .exact lt b o q z
  .exact hb z) (neC b o q)
 have kT:∀b o,s₀.heap.get? b=AA o->b∉frs outer->∃o',B.get? b=AA o':=λb o q hb=>by
  let⟨o',q1⟩:=bse.there b o q (by simp);refine hT b o' q1 (λz=>?_) (neC b o q);rcases hst b z with z|z
  .exact lt b o q z
  .exact hb z
 refine zbI I.ok.frames rfl f1 f2 f3 f4 λh'' fl' up=>?_;refine⟨a,cls,a0,H',B,rfl,os.trans I.os,bare,fl',HOk.inB hok f1 fl'.1 tr,⟨λb o q n hb _=>fl'.1 b o (kB b o q n hb),λb o q n hb _=>?_,λb o q n _=>?_,λb o q _=>?_,λb xs q=>un'.tups b xs (bse.tups b xs q),λb o u q=>un'.frzs b o u (bse.frzs b o u q),λb ps q=>?_⟩,kB,tr,kT,hE⟩
 .let⟨sl,q1⟩:=bse.slot b o q n hb (by simp);have n1:=bse.free b o q n (by simp);let⟨sl1,q2⟩:=un'.slot b _ q1 n1 (AZ _ hb) (niC b o q);let⟨_,o',ho',hd⟩:=Bj f3 (show b∈Cd (λ(z:Env)=>z.frame) _ from AZ _ hb);let⟨sl',q3⟩:=up b _ q2 (by rw[ho']at q2;cases q2;exact hd);exact⟨sl',q3⟩
 .let⟨o',q1⟩:=bse.there b o q (by simp);exact un'.free b o' q1 (bse.free b o q n (by simp)) (niC b o q)
 .let⟨o',q1⟩:=bse.there b o q (by simp);let⟨o2,q2⟩:=un'.there b o' q1 (niC b o q)
  by_cases hb:b∈frs outer
  .let⟨_,o3,ho3,hd⟩:=Bj f3 (show b∈Cd (λ(z:Env)=>z.frame) _ from AZ _ hb);let⟨sl',q3⟩:=up b _ ho3 hd;exact⟨_,q3⟩
  .let⟨o4,q4⟩:=kT b o q hb;exact⟨o4,fl'.1 b o4 q4⟩
 .let⟨m1,e1⟩:=bse.tbls b ps q;let⟨m2,e2⟩:=un'.tbls b _ e1;exact⟨m1++m2,by rw[e2,DO]⟩
end
section
variable {pg:AT}{wd:A3}{A:A5}{R:FT->AG->Prop}{s:AG}
end
section
variable {X:Cx}{sc:BB}{NC:List AR}{slots:List (Option Nat)}{elt tg iter:AM}{ifs:List AM}{pos:Bd}{g:TG}{ti:TT}{te:CI->TE}{E:XK}
end
end L2
namespace L2
open PySem PySem.Spec PyProof.Rows IC
structure Se where
 cl:Nat->AI
 call:Nat->List PV->SO->R PV
 may:Bool
section
variable (S:Se)(X:Cx)
def ExcAt(σ:St)(B:AI->Prop)(φ:Ph)(H:Hp)(k:Nat)(st':SO)(e:AD)(s':AG):Prop:=
 (∃π H1 s φ1,Inv X π σ H1 s/\Step φ H φ1 H1/\CX1 X.prog X.w X.stack H1 s (λcls _ H'=>cls=.ref (S.cl k)/\∃φ',Step φ1 H1 φ' H'/\yj X.K S.cl B φ' H' st') e s') \/
 (S.may=AC/\∃π H1 s φ1 h' e0 vs,Inv X π σ H1 s/\Step φ H φ1 H1/\yj X.K S.cl B φ1 H1 st'/\Fk s.heap h' e0 (.ref (S.cl k)) vs/\e=.ref e0/\s'={s with heap:=h'}) \/
 (S.may=AC/\∃π H1 s,Inv X π σ H1 s/\CXH X H1 s (λcls _ H'=>cls=.ref (S.cl k)/\∃φ',Step φ H φ' H'/\yj X.K S.cl B φ' H' st') e s')
def Run{α β:Type}(σ:St)(B:AI->Prop)(φ:Ph)(H:Hp)(Rel:Ph->Hp->α->β->Prop)(r:R α)(Q:β->Hp->Prop):Prop:=
 match r with
 |.ok v st'=>∀x H' φ',Step φ H φ' H'->yj X.K S.cl B φ' H' st'->Rel φ' H' v x->Q x H'
 |.exc k st'=>∀e s',ExcAt S X σ B φ H k st' e s'->X.xe e s'
 |.bad=>False
abbrev RV(B:AI->Prop):Ph->Hp->PV->V->Prop:=λφ H=>yc X.K S.cl B φ H
abbrev RL(B:AI->Prop):Ph->Hp->List PV->List V->Prop:=λφ H=>yd X.K S.cl B φ H
abbrev RB:Ph->Hp->Bool->Bool->Prop:=λ_ _ b c=>b=c
def tE(c:Ce):TE:=λσ H Q=>∃B φ st ρ,yj X.K S.cl B φ H st/\yo X.K S.cl B φ H ρ σ/\Run S X σ B φ H (RV S X B) (ev S.call ρ st c) Q
def tAs(c:Ces):TA:=λσ H Q=>∃B φ st ρ,yj X.K S.cl B φ H st/\yo X.K S.cl B φ H ρ σ/\Run S X σ B φ H (RL S X B) (evs S.call ρ st c) Q
def yap(r:R PV):R Bool:=r.bind λx st=>onO (yae st x) λb=>.ok b st
def tTs(c:Ce):TT:=λσ H Q=>∃B φ st ρ,yj X.K S.cl B φ H st/\yo X.K S.cl B φ H ρ σ/\Run S X σ B φ H RB (yap (ev S.call ρ st c)) Q
end
section
variable {S:Se}{X:Cx}{σ:St}{B:AI->Prop}{φ φ1:Ph}{H H1:Hp}
theorem ExcAt.back{k:Nat}{st':SO}{e:AD}{s':AG}(s:Step φ H φ1 H1)(h:ExcAt S X σ B φ1 H1 k st' e s'):ExcAt S X σ B φ H k st' e s':=by
 rcases h with⟨π,H2,t,φ2,I,q,c⟩|⟨m,π,H2,t,φ2,h',e0,vs,I,q,c⟩|⟨m,π,H2,t,I,c⟩
 .exact .inl ⟨π,H2,t,φ2,I,s.trans q,c⟩
 .exact .inr (.inl ⟨m,π,H2,t,φ2,h',e0,vs,I,s.trans q,c⟩)
 .exact .inr (.inr ⟨m,π,H2,t,I,c.mono λcls H' ⟨e1,φ',s2,r⟩=>⟨e1,φ',s.trans s2,r⟩⟩)
variable {α β γ δ:Type}{Rel:Ph->Hp->α->β->Prop}{G1:Ph->Hp->γ->δ->Prop}
theorem Run.on{r:R α}{Q:β->Hp->Prop}(s:Step φ H φ1 H1)(h:Run S X σ B φ H Rel r Q):Run S X σ B φ1 H1 Rel r Q:=by
 cases r with
 |ok v st'=>exact λx H' φ' t=>h x H' φ' (s.trans t)
 |exc k st'=>exact λe s' x=>h e s' (x.back s)
 |bad=>exact h
theorem Run.mono{r:R α}{Q Q':β->Hp->Prop}(h:Run S X σ B φ H Rel r Q)(k:∀x H',Q x H'->Q' x H'):Run S X σ B φ H Rel r Q':=by
 cases r with
 |ok v st'=>exact λx H' φ' t rs rv=>k x H' (h x H' φ' t rs rv)
 |exc c st'=>exact h
 |bad=>exact h
theorem Run.bind{r:R α}{k:α->SO->R γ}{Q:δ->Hp->Prop}(h:Run S X σ B φ H G1 (r.bind k) Q):
  Run S X σ B φ H Rel r λx H1=>∃v st1 φ1,Step φ H φ1 H1/\yj X.K S.cl B φ1 H1 st1/\Rel φ1 H1 v x/\Run S X σ B φ1 H1 G1 (k v st1) Q:=by
 cases r with
 |ok v st'=>exact λx H' φ' t rs rv=>⟨v,st',φ',t,rs,rv,Run.on t h⟩
 |exc c st'=>exact h
 |bad=>exact h
theorem Run.ok{v:α}{st:SO}{Q:β->Hp->Prop}(h:Run S X σ B φ H Rel (.ok v st) Q)(rs:yj X.K S.cl B φ H st){x:β}(rv:Rel φ H v x):Q x H:=h x H φ .rfl rs rv
theorem PE.imp{e:AM}{t t':TE}(h:PE X e t')(k:∀σ H Q,t σ H Q->t' σ H Q):PE X e t:=λπ s σ H Q I q=>h π s σ H Q I (k σ H Q q)
theorem PT.imp{e:AM}{t t':TT}(h:PT X e t')(k:∀σ H Q,t σ H Q->t' σ H Q):PT X e t:=λπ s σ H Q I q=>h π s σ H Q I (k σ H Q q)
theorem PW.imp{e:AM}{t t':TT}(h:PW X e t')(k:∀σ H Q,t σ H Q->t' σ H Q):PW X e t:=λwh π s σ H Q I q=>h wh π s σ H Q I (k σ H Q q)
theorem PA.imp{e:List AM}{t t':TA}(h:PA X e t')(k:∀σ H Q,t σ H Q->t' σ H Q):PA X e t:=λpos π s σ H Q I q=>h pos π s σ H Q I (k σ H Q q)
theorem tE.bind{c:Ce}{ρ:IC.Env}{st:SO}{k:PV->SO->R γ}{Q:δ->Hp->Prop}{P:V->Hp->Prop}(rs:yj X.K S.cl B φ H st)(re:yo X.K S.cl B φ H ρ σ)(h:Run S X σ B φ H G1 ((ev S.call ρ st c).bind k) Q)
  (n:∀x H1 v st1 φ1,Step φ H φ1 H1->yj X.K S.cl B φ1 H1 st1->yo X.K S.cl B φ1 H1 ρ σ->yc X.K S.cl B φ1 H1 v x->Run S X σ B φ1 H1 G1 (k v st1) Q->P x H1):tE S X c σ H P:=
 ⟨B,φ,st,ρ,rs,re,(Run.bind h).mono λx H1 ⟨v,st1,φ1,s,rs1,rv,h1⟩=>n x H1 v st1 φ1 s rs1 (re.step s) rv h1⟩
theorem tAs.bind{c:Ces}{ρ:IC.Env}{st:SO}{k:List PV->SO->R γ}{Q:δ->Hp->Prop}{P:List V->Hp->Prop}(rs:yj X.K S.cl B φ H st)(re:yo X.K S.cl B φ H ρ σ)(h:Run S X σ B φ H G1 ((evs S.call ρ st c).bind k) Q)
  (n:∀x H1 v st1 φ1,Step φ H φ1 H1->yj X.K S.cl B φ1 H1 st1->yo X.K S.cl B φ1 H1 ρ σ->yd X.K S.cl B φ1 H1 v x->Run S X σ B φ1 H1 G1 (k v st1) Q->P x H1):tAs S X c σ H P:=
 ⟨B,φ,st,ρ,rs,re,(Run.bind h).mono λx H1 ⟨v,st1,φ1,s,rs1,rv,h1⟩=>n x H1 v st1 φ1 s rs1 (re.step s) rv h1⟩
variable {i:Int}{b:Bool}{x:AR}{j:Nat}{pos:Bd}{e a a':AM}{c ca cb cc:Ce}
def zfc:PE X (.Constant (.int i) j pos) (tE S X (.cst (.int i))):=zcp.imp λσ H Q ⟨B,φ,st,ρ,rs,re,h⟩=>by
 erw[ev]at h;exact h.ok rs (by erw[yc])
def ziO:PE X (.Constant (.bool b) j pos) (tE S X (.cst (.bl b))):=zfX.imp λσ H Q ⟨B,φ,st,ρ,rs,re,h⟩=>by
 erw[ev]at h;exact h.ok rs (by erw[yc])
def zhD:PE X (.Constant .none j pos) (tE S X (.cst .non)):=zgi.imp λσ H Q ⟨B,φ,st,ρ,rs,re,h⟩=>by
 erw[ev]at h;exact h.ok rs (by erw[yc])
def zia:PE X (.Constant (.str x) j pos) (tE S X (.cst (.str x))):=zdG.imp λσ H Q ⟨B,φ,st,ρ,rs,re,h⟩=>by
 erw[ev]at h;exact h.ok rs (by erw[yc])
def zgX{i:Nat}(hN:X.N[i]?=AA x)(hv:Vis X.env.scope x)(hd:(x==("__debug__":AR))=false:=by decide)(hcd:(x==("__classdict__":AR))=false:=by decide):PE X (.Name x pos) (tE S X (.var i)):=
 (zb6 hN hv hd hcd).imp λσ H Q ⟨B,φ,st,ρ,rs,re,h⟩=>by
  erw[ev]at h
  cases q:ρ[i]? with
  |none=>rw[q]at h;exact h.elim
  |some o=>
   cases o with
   |none=>rw[q]at h;exact h.elim
   |some v=>
    rw[q]at h;let⟨y,hy,rv⟩:=re.get i v q;exact⟨y,hy,h.ok rs rv⟩
def zdQ{v:PV}{y:AI}(hg:Gl X x)(hm:X.mg x=AA (.ref y))(hk:∀B φ H,yc X.K S.cl B φ H v (.ref y))(hd:(x==("__debug__":AR))=false:=by decide):PE X (.Name x pos) (tE S X (.cst v)):=
 (zdA hg hm (show RelV (.ref y) (.ref y)from rfl) hd).imp λσ H Q ⟨B,φ,st,ρ,rs,re,h⟩=>by
  erw[ev]at h;exact h.ok rs (hk B φ H)
def zm{o:Option PV}{st:SO}{Q:VK}(h:Run S X σ B φ H (RV S X B) (toR o st) Q)(rs:yj X.K S.cl B φ H st):∃z,o=AA z/\∀z' H' φ',Step φ H φ' H'->yj X.K S.cl B φ' H' st->yc X.K S.cl B φ' H' z z'->Q z' H':=by
 cases o with
 |none=>exact h.elim
 |some z=>exact⟨z,rfl,h⟩
def rT2(S:Se)(X:Cx)(f:PV->PV->Option PV):R2:=λx y H Q=>∃B φ st v w z,yj X.K S.cl B φ H st/\yc X.K S.cl B φ H v x/\yc X.K S.cl B φ H w y/\f v w=AA z /\
 ∀z' H' φ',Step φ H φ' H'->yj X.K S.cl B φ' H' st->yc X.K S.cl B φ' H' z z'->Q z' H'
def zha{op:Di}{o:BOp}(ho:OpR X (binaryOp op) (rT2 S X (yu o)))(ha:PE X a (tE S X ca))(hb:PE X a' (tE S X cb)):PE X (.BinOp a op a' pos) (tE S X (.bin o ca cb)):=
 (zhe ho ha hb).imp λσ H Q ⟨B,φ,st,ρ,rs,re,h⟩=>by
  erw[ev]at h;refine tE.bind rs re h λx H1 v st1 φ1 s1 rs1 re1 rv h1=>tE.bind rs1 re1 h1 λy H2 w st2 φ2 s2 rs2 re2 rw h2=>?_;let⟨z,e,q⟩:=zm h2 rs2;exact⟨B,φ2,st2,v,w,z,rs2,rv.step s2,rw,e,q⟩
def zgE{op:Eh}{o:COp}(ho:OpR X (compareOp op) (rT2 S X (yr o)))(ha:PE X a (tE S X ca))(hb:PE X a' (tE S X cb))(hm:behindInMarks op a'=AH):PE X (.Compare a [op] [a'] pos) (tE S X (.cmp o ca cb)):=
 (zf9 ho ha hb hm).imp λσ H Q ⟨B,φ,st,ρ,rs,re,h⟩=>by
  erw[ev]at h;refine tE.bind rs re h λx H1 v st1 φ1 s1 rs1 re1 rv h1=>tE.bind rs1 re1 h1 λy H2 w st2 φ2 s2 rs2 re2 rw h2=>?_;let⟨z,e,q⟩:=zm h2 rs2;exact⟨B,φ2,st2,v,w,z,rs2,rv.step s2,rw,e,q⟩
end
section
variable {S:Se}{X:Cx}{σ:St}{B:AI->Prop}{φ φ1:Ph}{H H1:Hp}{K:AE}{cl:Nat->AI}{st:SO}
theorem ybg.sq{k:Bool}{a:AI}{xs:List V}(r:ybg K B φ H k a xs):SqT K H a xs:=by
 rcases r with⟨r,_⟩|r
 .exact .inl (.inl r)
 .exact .inr r.2
theorem ybQ.sq{a:AI}{xs:List V}(r:ybQ B φ H a xs):SqL K H a xs:=.inl (.inl r.1)
theorem yc.tup_new{vs:List PV}{xs:List V}{p:AI}(hp:H p=AF)(rs:yj K cl B φ H st)(r:yd K cl B φ H vs xs):yc K cl B φ (upd H p (.tup xs)) (.tup vs) (.ref p):=by
 erw[yc];refine⟨p,xs,rfl,.inl ⟨zc,λz=>?_,λz=>?_⟩,r.step (.upd hp)⟩
 .let⟨o,e⟩:=rs.dom p z;rw[hp]at e;cases e
 .let⟨o,e⟩:=rs.there z;rw[hp]at e;cases e
theorem yc.lst_new{vs:List PV}{xs:List V}{p:AI}(hp:H p=AF)(rs:yj K cl B φ H st)(r:yd K cl B φ H vs xs):yc K cl B φ (upd H p (.lst xs)) (.lst vs) (.ref p):=by
 erw[yc];refine⟨p,xs,rfl,⟨zc,λz=>?_,λz=>?_⟩,r.step (.upd hp)⟩
 .let⟨o,e⟩:=rs.dom p z;rw[hp]at e;cases e
 .let⟨o,e⟩:=rs.there z;rw[hp]at e;cases e
theorem yd.append:∀{vs ws:List PV} {xs ys:List V},yd K cl B φ H vs xs->yd K cl B φ H ws ys->yd K cl B φ H (vs++ws) (xs++ys)
 |[],ws,xs,ys,h,q=>by erw[yd]at h;subst h;exact q
 |v::vs,ws,xs,ys,h,q=>by
  erw[yd]at h;let⟨y,zs,rfl,r,l⟩:=h;show yd K cl B φ H (v::(vs++ws)) (y::(zs++ys));erw[yd];exact⟨y,zs++ys,rfl,r,yd.append l q⟩
theorem yd.get:∀{vs:List PV} {xs:List V} (j:Nat) {v:PV},yd K cl B φ H vs xs->vs[j]?=AA v->∃x,xs[j]?=AA x/\yc K cl B φ H v x
 |[],xs,j,v,h,e=>by simp at e
 |w::vs,xs,0,v,h,e=>by
  erw[yd]at h;let⟨y,zs,rfl,r,l⟩:=h;simp at e;subst e;exact⟨y,rfl,r⟩
 |w::vs,xs,j+1,v,h,e=>by
  erw[yd]at h;let⟨y,zs,rfl,r,l⟩:=h;let⟨x,q1,q2⟩:=yd.get j l (by simpa using e);exact⟨x,by simpa using q1,q2⟩
theorem yd.drop:∀{vs:List PV} {xs:List V} (n:Nat),yd K cl B φ H vs xs->yd K cl B φ H (vs.drop n) (xs.drop n)
 |vs,xs,0,h=>by simpa using h
 |[],xs,n+1,h=>by erw[yd]at h;subst h;simp[yd]
 |v::vs,xs,n+1,h=>by
  erw[yd]at h;let⟨y,ys,rfl,_,l⟩:=h;simpa using yd.drop n l
theorem yd.take:∀{vs:List PV} {xs:List V} (n:Nat),yd K cl B φ H vs xs->yd K cl B φ H (vs.take n) (xs.take n)
 |vs,xs,0,h=>by simp[yd]
 |[],xs,n+1,h=>by erw[yd]at h;subst h;simp[yd]
 |v::vs,xs,n+1,h=>by
  erw[yd]at h;let⟨y,ys,rfl,r,l⟩:=h;erw[List.take_succ_cons,yd];exact⟨y,ys.take n,rfl,r,yd.take n l⟩
def za7{f:AD->AD->Gd AD}{o:BOp}{C:Int->Int->Prop}{g:Int->Int->Int}(h:OpR X f (rI C λi j=>.int (g i j)))
  (hb:∀v w z,yu o v w=AA z->∃i j,v=.int i/\w=.int j/\C i j/\z=.int (g i j)):OpR X f (rT2 S X (yu o)):=by
 rintro π s σ H x y v u Q I rx ry ⟨B,φ,st,a,b,z,rs,ra,rb,e,q⟩
 let⟨i,j,rfl,rfl,hc,rfl⟩:=hb a b z e;erw[yc]at ra rb;subst ra rb;exact h π s σ H _ _ v u Q I rx ry ⟨i,j,rfl,rfl,hc,q _ H φ .rfl rs (by erw[yc])⟩
def zeI{f:AD->AD->Gd AD}{o:BOp}{g:Int->Int->Int}(h:OpR X f (rI0 λi j=>.int (g i j)))
  (hb:∀v w z,yu o v w=AA z->∃i j,v=.int i/\w=.int j/\z=.int (g i j)):OpR X f (rT2 S X (yu o)):=by
 rintro π s σ H x y v u Q I rx ry ⟨B,φ,st,a,b,z,rs,ra,rb,e,q⟩
 let⟨i,j,rfl,rfl,rfl⟩:=hb a b z e;erw[yc]at ra rb;subst ra rb;exact h π s σ H _ _ v u Q I rx ry ⟨i,j,rfl,rfl,q _ H φ .rfl rs (by erw[yc])⟩
def zfE(v w z:PV)(h:yu .sub v w=AA z):∃i j,v=.int i/\w=.int j/\z=.int (i-j):=by
 unfold yu at h;split at h<;>first|(cases h;done)|skip
 exact⟨_,_,rfl,rfl,(AW h).symm⟩
def zfF(v w z:PV)(h:yu .mul v w=AA z):∃i j,v=.int i/\w=.int j/\ycc i j/\z=.int (i*j):=by
 unfold yu at h;split at h<;>first|(cases h;done)|skip
 rename_i i j;erw[IC.binI]at h;split at h
 .rename_i c;refine⟨i,j,rfl,rfl,?_,(AW h).symm⟩;erw[yal,DD,decide_eq_true_eq]at c;unfold ycc;rcases c with c|c
  .left;constructor<;>lia
  .right;constructor<;>lia
 .cases h
def zeK(v w z:PV)(h:yu .fdiv v w=AA z):∃i j,v=.int i/\w=.int j/\ycE i j/\z=.int (i/j):=by
 unfold yu at h;split at h<;>first|(cases h;done)|skip
 rename_i i j;erw[IC.binI]at h;split at h
 .rename_i c;exact⟨i,j,rfl,rfl,c,(AW h).symm⟩
 .cases h
def zfH(v w z:PV)(h:yu .mod v w=AA z):∃i j,v=.int i/\w=.int j/\0<j/\z=.int (i%j):=by
 unfold yu at h;split at h<;>first|(cases h;done)|skip
 rename_i i j;erw[IC.binI]at h;split at h
 .rename_i c;exact⟨i,j,rfl,rfl,c,(AW h).symm⟩
 .cases h
def zfz(v w z:PV)(h:yu .pow v w=AA z):∃i j,v=.int i/\w=.int j/\yey i j/\z=.int (i^j.toNat):=by
 unfold yu at h;split at h<;>first|(cases h;done)|skip
 rename_i i j;erw[IC.binI]at h;split at h
 .rename_i c;exact⟨i,j,rfl,rfl,⟨c.1,c.2.1,by have:=c.2.2;lia⟩,(AW h).symm⟩
 .cases h
def zhZ:OpR X (binaryOp .Sub) (rT2 S X (yu .sub)):=zeI zg5 zfE
def zg3:OpR X (binaryOp .Mult) (rT2 S X (yu .mul)):=za7 zhg zfF
def zft:OpR X (binaryOp .FloorDiv) (rT2 S X (yu .fdiv)):=za7 zer zeK
def zhi:OpR X (binaryOp .Mod) (rT2 S X (yu .mod)):=za7 zgM zfH
def zhs:OpR X (binaryOp .Pow) (rT2 S X (yu .pow)):=za7 zhW zfz
def zf:sizeMax=sizeLine:=by rw[Av];rfl
def zgv:OpR X (binaryOp .Add) (λx y H Q=>∃a b ys,x=.ref a/\y=.ref b/\SqT X.K H a []/\SqT X.K H b ys/\Q (.ref b) H):=by
 intro π s σ H x y v u Q I rx ry h;let⟨a,b,ys,rfl,rfl,ha,hb,q⟩:=h
 cases rx
 cases ry
 let⟨its,r1,p1,_⟩:=I.tuple ha;let⟨its2,r2,p2,_⟩:=I.tuple hb;have:its=[]:=r1.nil_iff.mpr rfl;subst this;let⟨⟨cls,dd,data,sl⟩,ho,hc,n,hd⟩:=id p1;let⟨⟨cls2,dd2,data2,sl2⟩,ho2,hc2,n2,hd2⟩:=id p2;simp only at hc hd hc2 hd2;subst hc hd hc2 hd2;exact FH ⟨_,ho,rfl⟩ ⟨_,ho2,rfl⟩ Dp Ei C8 C2 (CP _ _)
   (tuple_addW0 a b [].toArray its2.toArray n n2 dd dd2 sl sl2 (by simp)) ⟨ho,ho2,⟨.ref b,H,I,rfl,q⟩⟩
def zgG:OpR X (binaryOp .Add) (rT2 S X (yu .add)):=by
 rintro π s σ H x y v u Q I rx ry ⟨B,φ,st,a,b,z,rs,ra,rb,e,q⟩
 unfold yu at e;split at e
 .rename_i i j;erw[yc]at ra rb;subst ra rb
  cases e
  exact zh9 π s σ H _ _ v u Q I rx ry ⟨i,j,rfl,rfl,q _ H φ .rfl rs (by erw[yc])⟩
 .rename_i i k;erw[yc]at ra rb;subst ra rb
  cases e
  exact zdC π s σ H _ _ v u Q I rx ry ⟨i,k,rfl,rfl,q _ H φ .rfl rs (by erw[yc];cases k<;>rfl)⟩
 .rename_i i j;erw[yc]at ra rb;subst ra rb;dsimp only at e;split at e
  .rename_i c
   cases e
   exact zcG π s σ H _ _ v u Q I rx ry ⟨i,j,rfl,rfl,by rw[<-zf];exact c,q _ H φ .rfl rs (by erw[yc])⟩
  .cases e
 .rename_i k1 vs k2 ws;erw[yc]at ra rb;let⟨p,xs,rfl,r1,l1⟩:=ra;let⟨p',ys,rfl,r2,l2⟩:=rb;dsimp only at e;split at e
  .rename_i c
   cases e
   have n1:=l1.length;have n2:=l2.length;unfold yc7 at q
   cases vs with
   |nil=>
    have:xs=[]:=by cases xs with|nil=>rfl|cons _ _=>simp at n1
    subst this;refine zgv π s σ H _ _ v u Q I rx ry ⟨p,p',ys,rfl,rfl,r1.sq,r2.sq,q _ H φ .rfl rs ?_⟩;erw[FW,if_true,yc];exact⟨p',ys,rfl,r2,l2⟩
   |cons v1 vr=>
    erw[FN,BC,if_false]at q;refine zgr π s σ H _ _ v u Q I rx ry ⟨p,p',xs,ys,rfl,rfl,r1.sq,r2.sq,?_,by rw[<-zf];lia,λz=>?_,λz t ht=>?_⟩
    .rintro rfl
     simp at n1
    .subst z;have:ws=[]:=by cases ws with|nil=>rfl|cons _ _=>simp at n2
     subst this;erw[FW,if_true]at q;refine q _ H φ .rfl rs ?_;erw[yc];exact⟨p,xs,rfl,r1,l1⟩
    .cases ws with
     |nil=>exact absurd (List.length_eq_zero_iff.mp n2.symm) z
     |cons w1 wr=>
      erw[FN,BC,if_false]at q;exact q _ _ φ (.upd ht) (rs.upd ht) (.tup_new ht rs (l1.append l2))
  .cases e
 .rename_i vs ws;erw[yc]at ra rb;let⟨p,xs,rfl,r1,l1⟩:=ra;let⟨p',ys,rfl,r2,l2⟩:=rb;dsimp only at e;split at e
  .rename_i c
   cases e
   have n1:=l1.length;have n2:=l2.length;exact ze7 π s σ H _ _ v u Q I rx ry ⟨p,p',xs,ys,rfl,rfl,r1.1,r2.1,by rw[<-zf];lia,λt ht=>q _ _ φ (.upd ht) (rs.upd ht) (.lst_new ht rs (l1.append l2))⟩
  .cases e
 .cases e
end
mutual
noncomputable def toD:PV->PyData
 |.non=>.none
 |.bl b=>.bool b
 |.int i=>.int i
 |.str x=>.str x
 |.tp _ xs=>.tuple (yaS xs)
 |.lst xs=>.list (yaS xs)
 |_=>.none
noncomputable def yaS:List PV->List PyData
 |[]=>[]
 |x::xs=>toD x::yaS xs
end
mutual
theorem zd5:∀(v:PV) (n:Nat),shd n v=AC->(toD v).canLay0=AC/\(toD v).depth<=n
 |.non,n,h=>by simp[toD,B3,BR]
 |.bl b,n,h=>by simp[toD,B3,BR]
 |.int i,n,h=>by simp[toD,B3,BR]
 |.str x,n,h=>by
  erw[shd]at h;erw[toD,B3,BR,BK,and_true];exact h
 |.tp _ xs,n,h=>by
  erw[shd,AJ,decide_eq_true_eq]at h;let⟨q1,q2⟩:=zaZ xs (n-1) h.2;erw[toD,B3,BR];exact⟨q1,by lia⟩
 |.lst xs,n,h=>by
  erw[shd,AJ,decide_eq_true_eq]at h;let⟨q1,q2⟩:=zaZ xs (n-1) h.2;erw[toD,B3,BR];exact⟨q1,by lia⟩
 |.loc k,n,h=>by simp[shd]at h
 |.fnc k,n,h=>by simp[shd]at h
 |.exn k,n,h=>by simp[shd]at h
 |.scr xs,n,h=>by simp[shd]at h
theorem zaZ:∀(v:List PV) (n:Nat),ya7 n v=AC->Bo (yaS v)=AC/\BM (yaS v)<=n
 |[],n,h=>by simp[yaS,Bo,BM]
 |v::vs,n,h=>by
  erw[ya7,AJ]at h;let⟨q1,q2⟩:=zd5 v n h.1;let⟨q3,q4⟩:=zaZ vs n h.2;erw[yaS,Bo,BM,AJ];exact⟨⟨q1,q3⟩,by lia⟩
end
def zE{v:PV}(h:shp v=AC):G2 (toD v)=true:=by
 let⟨q1,q2⟩:=zd5 v 60 h;unfold G2;rw[q1,El,decide_eq_true_eq];lia
mutual
theorem zbE:∀(v w:PV) (n m:Nat),shd n v=AC->shd m w=AC->Ae (toD v) (toD w)=peq v w
 |.non,w,n,m,h,q=>by cases w<;>simp_all[toD,Ae,peq,shd]
 |.bl b,w,n,m,h,q=>by cases w<;>simp_all[toD,Ae,peq,shd,bi]
 |.int i,w,n,m,h,q=>by cases w<;>simp_all[toD,Ae,peq,shd,bi]
 |.str x,w,n,m,h,q=>by cases w<;>simp_all[toD,Ae,peq,shd]
 |.tp _ xs,.tp _ ys,n,m,h,q=>by
  erw[shd,AJ]at h q;erw[toD,Ae,peq];exact zaW xs ys (n-1) (m-1) h.2 q.2
 |.lst xs,.lst ys,n,m,h,q=>by
  erw[shd,AJ]at h q;erw[toD,Ae,peq];exact zaW xs ys (n-1) (m-1) h.2 q.2
 |.tp _ xs,.non,n,m,h,q=>by simp[toD,Ae,peq]
 |.tp _ xs,.bl _,n,m,h,q=>by simp[toD,Ae,peq]
 |.tp _ xs,.int _,n,m,h,q=>by simp[toD,Ae,peq]
 |.tp _ xs,.str _,n,m,h,q=>by simp[toD,Ae,peq]
 |.tp _ xs,.lst _,n,m,h,q=>by simp[toD,Ae,peq]
 |.lst xs,.non,n,m,h,q=>by simp[toD,Ae,peq]
 |.lst xs,.bl _,n,m,h,q=>by simp[toD,Ae,peq]
 |.lst xs,.int _,n,m,h,q=>by simp[toD,Ae,peq]
 |.lst xs,.str _,n,m,h,q=>by simp[toD,Ae,peq]
 |.lst xs,.tp _ _,n,m,h,q=>by simp[toD,Ae,peq]
 |.loc k,w,n,m,h,q=>by simp[shd]at h
 |.fnc k,w,n,m,h,q=>by simp[shd]at h
 |.exn k,w,n,m,h,q=>by simp[shd]at h
 |.scr k,w,n,m,h,q=>by simp[shd]at h
 |v,.loc k,n,m,h,q=>by simp[shd]at q
 |v,.fnc k,n,m,h,q=>by simp[shd]at q
 |v,.exn k,n,m,h,q=>by simp[shd]at q
 |v,.scr k,n,m,h,q=>by simp[shd]at q
theorem zaW:∀(v w:List PV) (n m:Nat),ya7 n v=AC->ya7 m w=AC->B0 (yaS v) (yaS w)=ya6 v w
 |[],[],n,m,h,q=>by simp[yaS,B0,ya6]
 |[],y::ys,n,m,h,q=>by simp[yaS,B0,ya6]
 |x::xs,[],n,m,h,q=>by simp[yaS,B0,ya6]
 |x::xs,y::ys,n,m,h,q=>by
  erw[ya7,AJ]at h q;erw[yaS,B0,ya6];rw[zbE x y n m h.1 q.1,zaW xs ys n m h.2 q.2]
end
section
variable {S:Se}{X:Cx}{σ:St}{B:AI->Prop}{φ φ1:Ph}{H H1:Hp}{st:SO}{π:List (AI×B6)}{s:AG}
mutual
theorem zO(I:Inv X π σ H s):∀(v:PV) (n:Nat) (x:V) (u:AD),shd n v=AC->yc X.K S.cl B φ H v x->RelV x u->∃as,Reads s.heap u (toD v) as
 |.non,n,x,u,h,r,q=>by
  erw[yc]at r;subst r;cases (show u=BI from q);exact⟨_,.none⟩
 |.bl b,n,x,u,h,r,q=>by
  erw[yc]at r;subst r;cases (show u=Dv b from q);exact⟨_,.bool b⟩
 |.int i,n,x,u,h,r,q=>by
  erw[yc]at r;subst r;let⟨t,rfl⟩:=q;exact⟨_,.int i t⟩
 |.str y,n,x,u,h,r,q=>by
  erw[yc]at r;subst r;let⟨t,rfl⟩:=q;exact⟨_,.str y t⟩
 |.tp _ vs,n,x,u,h,r,q=>by
  erw[yc]at r;let⟨a,xs,rfl,rt,l⟩:=r
  cases (show u=A8 a from q)
  erw[shd,AJ]at h;let⟨its,rv,⟨o,g,c,k,d⟩,_⟩:=I.tuple rt.sq;let⟨as,z⟩:=zan I vs (n-1) xs its h.2 l rv;exact⟨as,.tuple g c d (by simpa using z)⟩
 |.lst vs,n,x,u,h,r,q=>by
  erw[yc]at r;let⟨a,xs,rfl,rt,l⟩:=r
  cases (show u=A8 a from q)
  erw[shd,AJ]at h;let⟨its,rv,⟨o,k,g,c,_,d⟩,_⟩:=I.list (rt.sq (K:=X.K));let⟨as,z⟩:=zan I vs (n-1) xs its h.2 l rv;exact⟨_,.list g c d (by simpa using z)⟩
 |.loc k,n,x,u,h,r,q=>by simp[shd]at h
 |.fnc k,n,x,u,h,r,q=>by simp[shd]at h
 |.exn k,n,x,u,h,r,q=>by simp[shd]at h
 |.scr k,n,x,u,h,r,q=>by simp[shd]at h
theorem zan(I:Inv X π σ H s):∀(v:List PV) (n:Nat) (x:List V) (u:List AD),ya7 n v=AC->yd X.K S.cl B φ H v x->Vals x u->∃as,ReadsAll s.heap u (yaS v) as
 |[],n,x,u,h,r,q=>by
  erw[yd]at r;subst r;cases q;exact⟨_,.nil⟩
 |v::vs,n,x,u,h,r,q=>by
  erw[yd]at r;let⟨y,ys,rfl,rv,l⟩:=r;erw[ya7,AJ]at h
  cases q with
  |cons q1 q2=>
   let⟨as,z1⟩:=zO I v n y _ h.1 rv q1;let⟨bs,z2⟩:=zan I vs n ys _ h.2 l q2;exact⟨_,.cons z1 z2⟩
end
def ziZ(hu:X.A.units+64<cLine):OpR X (compareOp .Eq) (rT2 S X (yr .eq)):=by
 rintro π s σ H x y v u Q I rx ry ⟨B,φ,st,a,b,z,rs,ra,rb,e,q⟩
 erw[yr]at e;split at e
 .rename_i c;rw[AJ]at c
  cases e
  let⟨as,z1⟩:=zO (S:=S) I a 60 x v c.1 ra rx;let⟨bs,z2⟩:=zO (S:=S) I b 60 y u c.2 rb ry;refine eq_dataH z1 z2 (zE c.1) (zE c.2) hu ⟨.bl _,H,I,rfl,?_⟩;rw[zbE a b 60 60 c.1 c.2];exact q _ H φ .rfl rs (by erw[yc])
 .cases e
def ziF(hu:X.A.units+64<cLine):OpR X (compareOp .NotEq) (rT2 S X (yr .ne)):=by
 rintro π s σ H x y v u Q I rx ry ⟨B,φ,st,a,b,z,rs,ra,rb,e,q⟩
 erw[yr]at e;split at e
 .rename_i c;rw[AJ]at c
  cases e
  let⟨as,z1⟩:=zO (S:=S) I a 60 x v c.1 ra rx;let⟨bs,z2⟩:=zO (S:=S) I b 60 y u c.2 rb ry;refine ne_dataH z1 z2 (zE c.1) (zE c.2) hu ⟨.bl _,H,I,rfl,?_⟩;rw[zbE a b 60 60 c.1 c.2];exact q _ H φ .rfl rs (by erw[yc])
 .cases e
def zdW{f:AD->AD->Gd AD}{o:COp}{g:Int->Int->Bool}(h:OpR X f (rI0 λi j=>.bl (g i j)))
  (hb:∀v w z,yr o v w=AA z->∃i j,v=.int i/\w=.int j/\z=.bl (g i j)):OpR X f (rT2 S X (yr o)):=by
 rintro π s σ H x y v u Q I rx ry ⟨B,φ,st,a,b,z,rs,ra,rb,e,q⟩
 let⟨i,j,rfl,rfl,rfl⟩:=hb a b z e;erw[yc]at ra rb;subst ra rb;exact h π s σ H _ _ v u Q I rx ry ⟨i,j,rfl,rfl,q _ H φ .rfl rs (by erw[yc])⟩
def zdL:OpR X (compareOp .LtE) (λx y H Q=>∃i j,x=.str i/\y=.str j/\Q (.bl (!decide (j.cps.toList<i.cps.toList))) H):=by
 intro π s σ H x y v u Q I rx ry h;let⟨i,j,rfl,rfl,q⟩:=h;let⟨t,rfl⟩:=rx;let⟨t',rfl⟩:=ry;exact PySem.P.le_str (zg I q rfl)
def ziJ:OpR X (compareOp .Lt) (rT2 S X (yr .lt)):=by
 rintro π s σ H x y v u Q I rx ry ⟨B,φ,st,a,b,z,rs,ra,rb,e,q⟩
 erw[yr]at e;split at e
 .rename_i i j;erw[yc]at ra rb;subst ra rb
  cases e
  exact ziY π s σ H _ _ v u Q I rx ry ⟨i,j,rfl,rfl,q _ H φ .rfl rs (by erw[yc])⟩
 .rename_i i j;erw[yc]at ra rb;subst ra rb
  cases e
  exact zdX π s σ H _ _ v u Q I rx ry ⟨i,j,rfl,rfl,q _ H φ .rfl rs (by erw[yc])⟩
 .cases e
def ziA:OpR X (compareOp .LtE) (rT2 S X (yr .le)):=by
 rintro π s σ H x y v u Q I rx ry ⟨B,φ,st,a,b,z,rs,ra,rb,e,q⟩
 erw[yr]at e;split at e
 .rename_i i j;erw[yc]at ra rb;subst ra rb
  cases e
  exact ziW π s σ H _ _ v u Q I rx ry ⟨i,j,rfl,rfl,q _ H φ .rfl rs (by erw[yc])⟩
 .rename_i i j;erw[yc]at ra rb;subst ra rb
  cases e
  exact zdL π s σ H _ _ v u Q I rx ry ⟨i,j,rfl,rfl,q _ H φ .rfl rs (by erw[yc])⟩
 .cases e
def zb5{o:COp}{g:Int->Int->Bool}(ho:∀v w,yr o v w=match v,w with
   |.int i,.int j=>ya1 o i j
   |.str a,.str b=>ydg o a b
   |_,_=>AF) (hs:∀a b,ydg o a b=AF) (hg:∀i j,ya1 o i j=AA (.bl (g i j))) (v w z:PV) (h:yr o v w=AA z):∃i j,v=.int i/\w=.int j/\z=.bl (g i j):=by
 rw[ho]at h;split at h
 .rename_i i j;rw[hg]at h;exact⟨i,j,rfl,rfl,(AW h).symm⟩
 .rw[hs]at h;cases h
 .cases h
def ziV:OpR X (compareOp .Gt) (rT2 S X (yr .gt)):=zdW zi4 (zb5 (λ_ _=>rfl) (λ_ _=>rfl) λ_ _=>rfl)
def ziD:OpR X (compareOp .GtE) (rT2 S X (yr .ge)):=zdW ziL (zb5 (λ_ _=>rfl) (λ_ _=>rfl) λ_ _=>rfl)
theorem yc.isNon{K:AE}{cl:Nat->AI}{v:PV}{x:V}(r:yc K cl B φ H v x):decide (x=.non)=IC.isNon v:=by
 cases v with
 |loc n=>erw[yc]at r;let⟨_,a,rfl,_⟩:=r;rfl
 |non=>erw[yc]at r;subst r;rfl
 |bl b=>erw[yc]at r;subst r;rfl
 |int b=>erw[yc]at r;subst r;rfl
 |str b=>erw[yc]at r;subst r;rfl
 |tp k vs=>erw[yc]at r;let⟨a,xs,rfl,_⟩:=r;rfl
 |lst vs=>erw[yc]at r;let⟨a,xs,rfl,_⟩:=r;rfl
 |fnc j=>erw[yc]at r;subst r;rfl
 |exn vs=>erw[yc]at r;let⟨a,rfl,_⟩:=r;rfl
 |scr vs=>erw[yc]at r;let⟨a,xs,rfl,_⟩:=r;rfl
theorem yc.flat{K:AE}{cl:Nat->AI}{v:PV}{x:V}(r:yc K cl B φ H v x)(h:IC.flat v=AC):yar x=AC/\∀(w:PV) (y:V),IC.flat w=AC->yc K cl B φ H w y->eqV x y=peq v w:=by
 cases v with
 |non=>
  erw[yc]at r;subst r;refine⟨rfl,λw y hw rw=>?_⟩
  cases w<;>first|(simp[IC.flat]at hw;done)|(erw[yc]at rw;subst rw;simp[eqV,peq,bi])
 |bl b=>
  erw[yc]at r;subst r;refine⟨rfl,λw y hw rw=>?_⟩
  cases w<;>first|(simp[IC.flat]at hw;done)|(erw[yc]at rw;subst rw;simp[eqV,peq,bi])
 |int b=>
  erw[yc]at r;subst r;refine⟨rfl,λw y hw rw=>?_⟩
  cases w<;>first|(simp[IC.flat]at hw;done)|(erw[yc]at rw;subst rw;simp[eqV,peq,bi])
 |str b=>
  erw[yc]at r;subst r;refine⟨rfl,λw y hw rw=>?_⟩
  cases w<;>first|(simp[IC.flat]at hw;done)|(erw[yc]at rw;subst rw;simp[eqV,peq,bi])
 |_=>simp[IC.flat]at h
def zbV{K:AE}{cl:Nat->AI}{v:PV}{x:V}(r:yc K cl B φ H v x)(h:IC.flat v=AC):∀{vs:List PV} {xs:List V},yd K cl B φ H vs xs->vs.all IC.flat=AC->xs.all yar=AC/\inV x xs=inL v vs
 |[],xs,l,_=>by erw[yd]at l;subst l;exact⟨rfl,rfl⟩
 |w::vs,xs,l,f=>by
  erw[yd]at l;let⟨y,ys,rfl,rw,l⟩:=l;rw[Al,AJ]at f;let⟨q1,q2⟩:=zbV r h l f.2;let⟨q3,q4⟩:=rw.flat f.1;refine⟨by rw[Al,q3,q1];rfl,?_⟩;unfold inV at q2 ⊢;rw[Bc,q2,q4 v x h r];rfl
end
def zgg(a b:AR):(!(Dl b a 0 b.length 1).isEmpty)=inS a b:=by
 rw[CB,StrLaws.found_iff];unfold inS;rw[Cp];constructor
 .rintro⟨i,h1,h2⟩
  exact⟨i,by rw[Fe];lia,by rw[AJ,decide_eq_true_eq];exact⟨h1,h2⟩⟩
 .rintro⟨i,_,h⟩
  rw[AJ,decide_eq_true_eq]at h;exact⟨i,h.1,h.2⟩
section
variable {S:Se}{X:Cx}{σ:St}{B:AI->Prop}{φ φ1:Ph}{H H1:Hp}{st:SO}
def zi3:OpR X (compareOp .In) (rT2 S X (yr .isin)):=by
 rintro π s σ H x y v u Q I rx ry ⟨B,φ,st,a,b,z,rs,ra,rb,e,q⟩
 erw[yr]at e;split at e
 .rename_i i j;erw[yc]at ra rb;subst ra rb
  cases e
  exact zcZ π s σ H _ _ v u Q I rx ry ⟨i,j,rfl,rfl,by rw[zgg];exact q _ H φ .rfl rs (by erw[yc])⟩
 .rename_i l;split at e
  .rename_i c;rw[AJ]at c
   cases e
   erw[yc]at rb;let⟨p,xs,rfl,r,l'⟩:=rb;let⟨q1,q2⟩:=zbV ra c.1 l' c.2;exact zbm π s σ H _ _ v u Q I rx ry ⟨p,xs,rfl,.inr r.sq,(ra.flat c.1).1,q1,q _ H φ .rfl rs (by erw[yc];rw[<-q2];rfl)⟩
  .cases e
 .rename_i l;split at e
  .rename_i c;rw[AJ]at c
   cases e
   erw[yc]at rb;let⟨p,xs,rfl,r,l'⟩:=rb;let⟨q1,q2⟩:=zbV ra c.1 l' c.2;exact zbm π s σ H _ _ v u Q I rx ry ⟨p,xs,rfl,.inl r.sq,(ra.flat c.1).1,q1,q _ H φ .rfl rs (by erw[yc];rw[<-q2];rfl)⟩
  .cases e
 .cases e
theorem yd.empty{K:AE}{cl:Nat->AI}{vs:List PV}{xs:List V}(l:yd K cl B φ H vs xs):vs.isEmpty=xs.isEmpty:=by
 have:=l.length
 cases vs<;>cases xs<;>simp_all
def zgn{K:AE}{cl:Nat->AI}{v:PV}{x:V}{k:Bool}(rs:yj K cl B φ H st)(r:yc K cl B φ H v x)(h:yae st v=AA k):ydP K x H k:=by
 cases v with
 |non=>erw[yc]at r;subst r;cases h;rfl
 |bl b=>erw[yc]at r;subst r;cases h;rfl
 |int b=>erw[yc]at r;subst r;cases h;rfl
 |str b=>
  erw[yc]at r;subst r;erw[yae]at h;split at h
  .rename_i c
   cases h
   exact⟨by rw[<-zf];exact c,rfl⟩
  .cases h
 |tp k vs=>
  erw[yc]at r;let⟨a,xs,rfl,rt,l⟩:=r
  cases h
  exact .inr (.inl ⟨xs,rt.sq,by rw[l.empty]⟩)
 |lst vs=>
  erw[yc]at r;let⟨a,xs,rfl,rt,l⟩:=r
  cases h
  exact .inl ⟨xs,rt.sq,by rw[l.empty]⟩
 |loc n=>
  erw[yc]at r;let⟨hn,a,rfl,ha⟩:=r;erw[yae]at h;split at h
  .rename_i vs hv
   cases h
   let⟨b,hb⟩:=rs.liv n _ hv (by intro z;cases z);obtain rfl:=ha b hb;let⟨o,ho,ro⟩:=rs.obj n b hb;rw[hv]at ho;cases ho;let⟨xs,hx,l⟩:=ro;exact .inl ⟨xs,.of hx,by rw[l.empty]⟩
  .cases h
 |fnc c=>cases h
 |exn c=>cases h
 |scr c=>cases h
end
theorem R.bind_assoc{α β γ:Type}{r:R α}{k:α->SO->R β}{l:β->SO->R γ}:(r.bind k).bind l=r.bind λa s=>(k a s).bind l:=by
 cases r<;>rfl
section
variable {S:Se}{X:Cx}{σ:St}{B:AI->Prop}{φ φ1:Ph}{H H1:Hp}{st:SO}{ρ:IC.Env}{pos:Bd}{a b c d:AM}{ca cb cc:Ce}{es:List AM}{ces:Ces}
def zaS{o:COp}{v w z:PV}(h:yr o v w=AA z):∃k,z=.bl k:=by
 cases o<;>erw[yr]at h
 all_goals (repeat' split at h)<;>first|(cases h;done)|(cases h;exact⟨_,rfl⟩)|skip
 all_goals (erw[ya1]at h;cases h;exact⟨_,rfl⟩)
def zhj{op:Eh}{o:COp}(ho:OpR X (compareOp op) (rT2 S X (yr o)))(ha:PE X a (tE S X ca))(hb:PE X b (tE S X cb))(hm:behindInMarks op b=AH):PT X (.Compare a [op] [b] pos) (tTs S X (.cmp o ca cb)):=
 (zbG ho ha hb hm).imp λσ H Q ⟨B,φ,st,ρ,rs,re,h⟩=>by
  erw[ev,yap,R.bind_assoc]at h;refine tE.bind rs re h λx H1 v st1 φ1 s1 rs1 re1 rv h1=>tE.bind rs1 re1 h1 λy H2 w st2 φ2 s2 rs2 re2 rw h2=>?_
  cases e:yr o v w with
  |none=>rw[e]at h2;exact h2.elim
  |some z=>
   let⟨k,rfl⟩:=zaS e;rw[e]at h2;refine⟨B,φ2,st2,v,w,.bl k,rs2,rv.step s2,rw,e,λz' H' φ' s' rs' rz=>?_⟩;erw[yc]at rz;exact⟨k,rz,h2 k H' φ' s' rs' rfl⟩
def zgZ(ha:PE X a (tE S X ca))(he:∀whole,isTrue a X.env whole=(do let v <-whole;standAt a.pos;holding [v] (truthy v)):=by intro _;rfl):PT X a (tTs S X ca):=
 (zeX ha he).imp λσ H Q ⟨B,φ,st,ρ,rs,re,h⟩=>by
  erw[yap]at h;refine tE.bind rs re h λx H1 v st1 φ1 s1 rs1 re1 rv h1=>?_
  cases e:yae st1 v with
  |none=>rw[e]at h1;exact h1.elim
  |some k=>
   rw[e]at h1;exact⟨k,zgn rs1 rv e,h1.ok rs1 rfl⟩
theorem tTs.bind{γ δ:Type}{G1:Ph->Hp->γ->δ->Prop}{k:Bool->SO->R γ}{Q:δ->Hp->Prop}{P:Bool->Hp->Prop}(rs:yj X.K S.cl B φ H st)(re:yo X.K S.cl B φ H ρ σ)(h:Run S X σ B φ H G1 ((yap (ev S.call ρ st ca)).bind k) Q)
  (n:∀b H1 st1 φ1,Step φ H φ1 H1->yj X.K S.cl B φ1 H1 st1->yo X.K S.cl B φ1 H1 ρ σ->Run S X σ B φ1 H1 G1 (k b st1) Q->P b H1):tTs S X ca σ H P:=
 ⟨B,φ,st,ρ,rs,re,(Run.bind h).mono λx H1 ⟨v,st1,φ1,s,rs1,rv,h1⟩=>by
  subst rv;exact n v H1 st1 φ1 s rs1 (re.step s) h1⟩
def zb4(r:R PV)(f:Bool->SO->R PV):yap (r.bind λx st1=>onBl x λb=>f b st1)=r.bind λx st1=>onBl x λb=>yap (f b st1):=by
 unfold yap;rw[R.bind_assoc]
 congr 1
 funext x st1
 cases x<;>rfl
theorem Run.bl_tru{r:R PV}{k:Bool->SO->R Bool}{Q:Bool->Hp->Prop}(h:Run S X σ B φ H RB (r.bind λx st1=>onBl x λb=>k b st1) Q):Run S X σ B φ H RB ((yap r).bind k) Q:=by
 cases r with
 |bad=>exact h
 |exc c s=>exact h
 |ok v s=>
  cases v with
  |bl b=>exact h
  |_=>exact h.elim
def zgQ(ha:PT X a (tTs S X ca)):PT X (.UnaryOp .Not a pos) (tTs S X (.not ca)):=
 (zhp ha).imp λσ H Q ⟨B,φ,st,ρ,rs,re,h⟩=>by
  erw[ev]at h;rw[zb4 _ λk st1=>.ok (.bl (!k)) st1]at h;exact tTs.bind rs re (Run.bl_tru (k:=λb st1=>.ok (!b) st1) h) λb H1 st1 φ1 s1 rs1 re1 h1=>h1.ok rs1 rfl
variable {rest:List AM}
def zgs(ha:PT X a (tTs S X ca)):PW X (.BoolOp .And [a] pos) (tTs S X ca):=zfL ha
def zgW(ha:PT X a (tTs S X ca)):PW X (.BoolOp .Or [a] pos) (tTs S X ca):=ziw ha
def zhI(ha:PT X a (tTs S X ca))(hb:PW X (.BoolOp .And (b::rest) pos) (tTs S X cb)):PW X (.BoolOp .And (a::b::rest) pos) (tTs S X (.and ca cb)):=
 (zhr ha hb).imp λσ H Q ⟨B,φ,st,ρ,rs,re,h⟩=>by
  erw[ev]at h;rw[zb4 _ λk st1=>cond k (ev S.call ρ st1 cb) (.ok (.bl AH) st1)]at h;refine tTs.bind rs re (Run.bl_tru h) λk H1 st1 φ1 s1 rs1 re1 h1=>?_
  cases k with
  |false=>exact h1.ok rs1 rfl
  |true=>exact⟨B,φ1,st1,ρ,rs1,re1,h1⟩
def zi1(ha:PT X a (tTs S X ca))(hb:PW X (.BoolOp .Or (b::rest) pos) (tTs S X cb)):PW X (.BoolOp .Or (a::b::rest) pos) (tTs S X (.or ca cb)):=
 (ziG ha hb).imp λσ H Q ⟨B,φ,st,ρ,rs,re,h⟩=>by
  erw[ev]at h;rw[zb4 _ λk st1=>cond k (.ok (.bl AC) st1) (ev S.call ρ st1 cb)]at h;refine tTs.bind rs re (Run.bl_tru h) λk H1 st1 φ1 s1 rs1 re1 h1=>?_
  cases k with
  |true=>exact h1.ok rs1 rfl
  |false=>exact⟨B,φ1,st1,ρ,rs1,re1,h1⟩
def ze6{op:G3}(h:PE X a (tE S X ca)):PE X (.BoolOp op [a] pos) (tE S X ca):=zhC h
def zfd(ha:PE X a (tE S X ca))(hb:PE X (.BoolOp .And (b::rest) pos) (tE S X cb)):PE X (.BoolOp .And (a::b::rest) pos) (tE S X (.and ca cb)):=
 (zh6 ha hb).imp λσ H Q ⟨B,φ,st,ρ,rs,re,h⟩=>by
  erw[ev]at h;refine tE.bind rs re h λx H1 v st1 φ1 s1 rs1 re1 rv h1=>?_
  cases v with
  |bl k=>
   erw[yc]at rv;refine⟨k,rv,?_⟩
   cases k with
   |true=>exact⟨B,φ1,st1,ρ,rs1,re1,h1⟩
   |false=>exact h1.ok rs1 (by erw[yc])
  |_=>exact h1.elim
def zg8(ha:PE X a (tE S X ca))(hb:PE X (.BoolOp .Or (b::rest) pos) (tE S X cb)):PE X (.BoolOp .Or (a::b::rest) pos) (tE S X (.or ca cb)):=
 (ziN ha hb).imp λσ H Q ⟨B,φ,st,ρ,rs,re,h⟩=>by
  erw[ev]at h;refine tE.bind rs re h λx H1 v st1 φ1 s1 rs1 re1 rv h1=>?_
  cases v with
  |bl k=>
   erw[yc]at rv;refine⟨k,rv,?_⟩
   cases k with
   |false=>exact⟨B,φ1,st1,ρ,rs1,re1,h1⟩
   |true=>exact h1.ok rs1 (by erw[yc])
  |_=>exact h1.elim
def zif(ha:PE X a (tE S X ca)):PE X (.UnaryOp .Not a pos) (tE S X (.not ca)):=
 (ziv ha).imp λσ H Q ⟨B,φ,st,ρ,rs,re,h⟩=>by
  erw[ev]at h;refine tE.bind rs re h λx H1 v st1 φ1 s1 rs1 re1 rv h1=>?_
  cases v with
  |bl k=>
   erw[yc]at rv;exact⟨k,rv,h1.ok rs1 (by erw[yc])⟩
  |_=>exact h1.elim
def ze2(ha:PE X a (tE S X ca)):PE X (.UnaryOp .USub a pos) (tE S X (.neg ca)):=
 (ziU zh1 ha).imp λσ H Q ⟨B,φ,st,ρ,rs,re,h⟩=>by
  erw[ev]at h;refine tE.bind rs re h λx H1 v st1 φ1 s1 rs1 re1 rv h1=>?_;split at h1
  .simp only[yc]at rv;exact⟨_,rv,h1.ok rs1 (by erw[yc])⟩
  .exact h1.elim
def zgY(hc:PT X c (tTs S X cc))(ha:PE X a (tE S X ca))(hb:PE X b (tE S X cb)):PE X (.IfExp c a b pos) (tE S X (.ite cc ca cb)):=
 (zeP hc ha hb).imp λσ H Q ⟨B,φ,st,ρ,rs,re,h⟩=>by
  erw[ev]at h;have e:((ev S.call ρ st cc).bind λx st1=>onO (yae st1 x) λk=>cond k (ev S.call ρ st1 ca) (ev S.call ρ st1 cb))=(yap (ev S.call ρ st cc)).bind λk st1=>cond k (ev S.call ρ st1 ca) (ev S.call ρ st1 cb):=by
   unfold yap;rw[R.bind_assoc]
   congr 1
   funext x st1
   cases yae st1 x<;>rfl
  rw[e]at h;refine tTs.bind rs re h λk H1 st1 φ1 s1 rs1 re1 h1=>?_
  cases k with
  |true=>exact⟨B,φ1,st1,ρ,rs1,re1,h1⟩
  |false=>exact⟨B,φ1,st1,ρ,rs1,re1,h1⟩
def zeb:PA X [] (tAs S X .nil):=zbf.imp λσ H Q ⟨B,φ,st,ρ,rs,re,h⟩=>by
 erw[evs]at h;exact h.ok rs (by erw[yd])
def zaQ(ha:PE X a (tE S X ca))(hr:PA X es (tAs S X ces))(hs:starEach (a::es) X.env=(AH,eval a X.env)::starEach es X.env:=by rfl):PA X (a::es) (tAs S X (.cons ca ces)):=
 (zn ha hr hs).imp λσ H Q ⟨B,φ,st,ρ,rs,re,h⟩=>by
  erw[evs]at h;refine tE.bind rs re h λx H1 v st1 φ1 s1 rs1 re1 rv h1=>tAs.bind rs1 re1 h1 λxs H2 vs st2 φ2 s2 rs2 re2 rvs h2=>?_;refine h2.ok rs2 ?_;erw[yd];exact⟨x,xs,rfl,rv.step s2,rvs⟩
def zgK{k:Nat}(h:PA X es (tAs S X ces)):PE X (.Tuple es k pos) (tE S X (.tup ces)):=
 (ze0 h).imp λσ H Q ⟨B,φ,st,ρ,rs,re,h⟩=>by
  erw[ev]at h;refine tAs.bind rs re h λxs H1 vs st1 φ1 s1 rs1 re1 rv h1=>?_;split at h1
  .rename_i c;refine⟨by rw[<-zf,<-rv.length];exact c,λp hp=>h1 _ _ φ1 (.upd hp) (rs1.upd hp) (.tup_new hp rs1 rv)⟩
  .exact h1.elim
def zhL(h:PA X es (tAs S X ces)):PE X (.List es pos) (tE S X (.lst ces)):=
 (zeY h).imp λσ H Q ⟨B,φ,st,ρ,rs,re,h⟩=>by
  erw[ev]at h;refine tAs.bind rs re h λxs H1 vs st1 φ1 s1 rs1 re1 rv h1=>?_;split at h1
  .rename_i c;refine⟨by rw[<-zf,<-rv.length];exact c,λp hp=>h1 _ _ φ1 (.upd hp) (rs1.upd hp) (.lst_new hp rs1 rv)⟩
  .exact h1.elim
theorem Step.push{p:AI}{o:HO}(hp:H p=AF):Step φ H (φ++[AA p]) (L2.upd H p o):=by
 refine⟨λb u n e=>by rw[za (zb e hp)];exact e,by simp,λn a hn e=>?_,λb h=>?_⟩
 .rw[A7 hn]at e;exact e
 .rw[CT]at h;rcases h with h|h
  .exact .inl h
  .have:b=p:=by simpa using h
   subst this;exact .inr hp
theorem yj.push{K:AE}{cl:Nat->AI}{p:AI}{u:HO}{o:Ob}(rs:yj K cl B φ H st)(hp:H p=AF)(hb:¬B p)(ho:ybp K cl B (φ++[AA p]) (L2.upd H p u) o p):yj K cl B (φ++[AA p]) (L2.upd H p u) (st++[o]):=by
 have s:Step φ H (φ++[AA p]) (L2.upd H p u):=.push hp;have np:AA p∉φ:=λz=>by
  let⟨w,e⟩:=rs.there z;rw[hp]at e;cases e
 have hl:φ.length=st.length:=rs.len;refine⟨by simp[hl],λm n a e1 e2=>?_,λn a e=>?_,λn o' e ho'=>?_,λa h=>?_,λa h=>?_⟩
 .by_cases hm:m<φ.length
  .rw[A7 hm]at e1
   by_cases hn:n<φ.length
   .rw[A7 hn]at e2;exact rs.inj m n a e1 e2
   .rw[Ab ∅]at e2;have:a=p:=by
     cases q:n-φ.length with
     |zero=>rw[q]at e2;simpa using e2.symm
     |succ k=>rw[q]at e2;simp at e2
    subst this;exact absurd (AV e1) np
  .rw[Ab ∅]at e1;have:m-φ.length=0/\a=p:=by
    cases q:m-φ.length with
    |zero=>rw[q]at e1;exact⟨rfl,by simpa using e1.symm⟩
    |succ k=>rw[q]at e1;simp at e1
   let⟨q1,rfl⟩:=this
   by_cases hn:n<φ.length
   .rw[A7 hn]at e2;exact absurd (AV e2) np
   .rw[Ab ∅]at e2;have:n-φ.length=0:=by
     cases q:n-φ.length with
     |zero=>rfl
     |succ k=>rw[q]at e2;simp at e2
    lia
 .by_cases hn:n<φ.length
  .rw[A7 hn]at e;let⟨o',q,r⟩:=rs.obj n a e;refine⟨o',by rw[A7 ∅];exact q,r.step s ?_⟩;rw[za]
   rintro rfl
   exact np (AV e)
  .rw[Ab ∅]at e;have:n-φ.length=0/\a=p:=by
    cases q:n-φ.length with
    |zero=>rw[q]at e;exact⟨rfl,by simpa using e.symm⟩
    |succ k=>rw[q]at e;simp at e
   let⟨q1,rfl⟩:=this;refine⟨o,?_,ho⟩;rw[Ab ∅];have:n-st.length=0:=by lia
   rw[this];rfl
 .by_cases hn:n<φ.length
  .rw[A7 ∅]at e;let⟨a,q⟩:=rs.liv n o' e ho';exact⟨a,by rw[A7 hn];exact q⟩
  .rw[Ab ∅]at e;have:n-st.length=0:=by
    cases q:n-st.length with
    |zero=>rfl
    |succ k=>rw[q]at e;simp at e
   refine⟨p,?_⟩;rw[Ab ∅];have:n-φ.length=0:=by lia
   rw[this];rfl
 .rw[CT]at h;rcases h with h|h
  .exact rs.nb a h
  .have:a=p:=by simpa using h
   subst this;exact hb
 .let⟨w,e⟩:=rs.dom a h;exact⟨w,by rw[za (zb e hp)];exact e⟩
theorem yj.nB{K:AE}{cl:Nat->AI}{p:AI}(rs:yj K cl B φ H st)(hp:H p=AF):¬B p:=λz=>by
 let⟨o,e⟩:=rs.dom p z;rw[hp]at e;cases e
theorem yc.loc_new{K:AE}{cl:Nat->AI}{p:AI}(rs:yj K cl B φ H st):yc K cl B (φ++[AA p]) H1 (.loc st.length) (.ref p):=by
 erw[yc];have hl:=rs.len;refine⟨by simp[hl],p,rfl,λb e=>?_⟩;rw[Ab ∅]at e;have:st.length-φ.length=0:=by lia
 rw[this]at e;simpa using e.symm
def zfU(h:PA X es (tAs S X ces)):PE X (.List es pos) (tE S X (.newl ces)):=
 (zeY h).imp λσ H Q ⟨B,φ,st,ρ,rs,re,h⟩=>by
  erw[ev]at h;refine tAs.bind rs re h λxs H1 vs st1 φ1 s1 rs1 re1 rv h1=>?_;split at h1
  .rename_i c;refine⟨by rw[<-zf,<-rv.length];exact c,λp hp=>h1 _ _ (φ1++[AA p]) (.push hp) (rs1.push hp (rs1.nB hp) ⟨xs,zc,rv.step (.push hp)⟩) (.loc_new rs1)⟩
  .exact h1.elim
end
section
variable {S:Se}{X:Cx}{σ:St}{B:AI->Prop}{φ φ1:Ph}{H H1:Hp}{st:SO}{ρ:IC.Env}{pos p2:Bd}{a b c d:AM}{ca cb cc:Ce}{es:List AM}{ces:Ces}{K:AE}{cl:Nat->AI}
def zc9{o:COp}{v w:PV}{α β:Type}{Rel:Ph->Hp->α->β->Prop}{k:Bool->R α}{Q:β->Hp->Prop}(h:Run S X σ B φ H Rel (onO (blO (yr o v w)) k) Q):∃b,yr o v w=AA (.bl b)/\Run S X σ B φ H Rel (k b) Q:=by
 cases e:yr o v w with
 |none=>rw[e]at h;exact h.elim
 |some z=>
  let⟨b,rfl⟩:=zaS e;rw[e]at h;exact⟨b,rfl,h⟩
def zeA{op op':Eh}{o p:COp}(ho:OpR X (compareOp op) (rT2 S X (yr o)))(ho':OpR X (compareOp op') (rT2 S X (yr p)))(ha:PE X a (tE S X ca))(hb:PE X b (tE S X cb))(hc:PE X c (tE S X cc))
  (hm:lastMarks [op,op'] [b,c]=false:=by with_unfolding_all rfl):PE X (.Compare a [op,op'] [b,c] pos) (tE S X (.chain o p ca cb cc)):=
 (zeE ho ho' ha hb hc hm).imp λσ H Q ⟨B,φ,st,ρ,rs,re,h⟩=>by
  erw[ev]at h;refine tE.bind rs re h λx H1 v st1 φ1 s1 rs1 re1 rv h1=>tE.bind rs1 re1 h1 λy H2 w st2 φ2 s2 rs2 re2 rw h2=>?_;let⟨k,e,h2⟩:=zc9 h2;refine⟨B,φ2,st2,v,w,.bl k,rs2,rv.step s2,rw,e,λz' H' φ' s' rs' rz=>?_⟩;erw[yc]at rz;refine⟨k,rz,?_⟩
  cases k with
  |false=>exact h2 _ H' φ' s' rs' (by erw[yc])
  |true=>
   refine tE.bind rs' (re2.step s') (Run.on s' h2) λz H3 v3 st3 φ3 s3 rs3 re3 rv3 h3=>?_;let⟨q,eq,hq⟩:=zm h3 rs3;exact⟨B,φ3,st3,w,v3,q,rs3,(rw.step s').step s3,rv3,eq,hq⟩
def zee{op op':Eh}{o p:COp}(ho:OpR X (compareOp op) (rT2 S X (yr o)))(ho':OpR X (compareOp op') (rT2 S X (yr p)))(ha:PE X a (tE S X ca))(hb:PE X b (tE S X cb))(hc:PE X c (tE S X cc))
  (hm:lastMarks [op,op'] [b,c]=false:=by with_unfolding_all rfl):PT X (.Compare a [op,op'] [b,c] pos) (tTs S X (.chain o p ca cb cc)):=
 (zew ho ho' ha hb hc hm).imp λσ H Q ⟨B,φ,st,ρ,rs,re,h⟩=>by
  erw[ev,yap,R.bind_assoc]at h;refine tE.bind rs re h λx H1 v st1 φ1 s1 rs1 re1 rv h1=>tE.bind rs1 re1 h1 λy H2 w st2 φ2 s2 rs2 re2 rw h2=>?_;have h2':Run S X σ B φ2 H2 RB (onO (blO (yr o v w)) λk=>cond k ((ev S.call ρ st2 cc).bind λz st3=>(toR (yr p w z) st3).bind λx st=>onO (yae st x) λb=>.ok b st) (.ok AH st2)) Q:=by
   cases e:yr o v w with
   |none=>rw[e]at h2;exact h2
   |some z=>
    let⟨b,rfl⟩:=zaS e;rw[e]at h2
    cases b with
    |false=>exact h2
    |true=>
     erw[blO,onO,cond_true,R.bind_assoc]at h2 ⊢;exact h2
  let⟨k,e,h2⟩:=zc9 h2';refine⟨B,φ2,st2,v,w,.bl k,rs2,rv.step s2,rw,e,λz' H' φ' s' rs' rz=>?_⟩;erw[yc]at rz;refine⟨k,rz,?_⟩
  cases k with
  |false=>exact⟨AH,rfl,h2 _ H' φ' s' rs' rfl⟩
  |true=>
   refine tE.bind rs' (re2.step s') (Run.on s' h2) λz H3 v3 st3 φ3 s3 rs3 re3 rv3 h3=>?_
   cases eq:yr p w v3 with
   |none=>rw[eq]at h3;exact h3.elim
   |some q=>
    let⟨b,rfl⟩:=zaS eq;rw[eq]at h3;refine⟨B,φ3,st3,w,v3,.bl b,rs3,(rw.step s').step s3,rv3,eq,λz2 H4 φ4 s4 rs4 rz4=>?_⟩;erw[yc]at rz4;exact⟨b,rz4,h3 b H4 φ4 s4 rs4 rfl⟩
theorem yd.at{vs:List PV}{xs:List V}{i:Int}{v:PV}(l:yd K cl B φ H vs xs)(h:at? vs i=AA v):∃x,atI xs i=AA x/\yc K cl B φ H v x:=by
 unfold at? at h;rw[l.length]at h;unfold atI
 cases e:ixI xs.length i with
 |none=>rw[e]at h;cases h
 |some j=>
  rw[e]at h;have e':ixN xs.length i=AA j:=e;rw[e'];exact l.get j h
theorem yj.list{n:Nat}{vs:List PV}{x:V}(rs:yj K cl B φ H st)(r:yc K cl B φ H (.loc n) x)(h:st[n]?=AA (.lst vs)):∃a xs,x=.ref a/\φ[n]?=AA (AA a)/\H a=AA (.lst xs)/\yd K cl B φ H vs xs:=by
 erw[yc]at r;let⟨hn,a,rfl,ha⟩:=r;let⟨b,hb⟩:=rs.liv n _ h (by intro z;cases z);obtain rfl:=ha b hb;let⟨o,ho,ro⟩:=rs.obj n b hb;rw[h]at ho;cases ho;let⟨xs,hx,l⟩:=ro;exact⟨b,xs,rfl,hb,hx,l⟩
def rTS(S:Se)(X:Cx)(f:SO->PV->PV->Option PV):R2:=λx y H Q=>∃B φ st v w z,yj X.K S.cl B φ H st/\yc X.K S.cl B φ H v x/\yc X.K S.cl B φ H w y/\f st v w=AA z /\
 ∀z' H' φ',Step φ H φ' H'->yj X.K S.cl B φ' H' st->yc X.K S.cl B φ' H' z z'->Q z' H'
def zae{α:Type}{xs:List α}{i:PV}{z:α}(h:yav xs i=AA z):∃k,i=.int k/\at? xs k=AA z:=by
 cases i with
 |int k=>exact⟨k,rfl,h⟩
 |_=>cases h
def zfT:IxR X (rTS S X idxV):=by
 rintro value slice π s σ H x y v u Q I rx ry ⟨B,φ,st,a,i,z,rs,ra,ri,e,q⟩ hs
 cases a with
 |tp k vs=>
  let⟨k,rfl,e⟩:=zae e;erw[yc]at ra ri;subst ri;let⟨p,xs,rfl,rt,l⟩:=ra;let⟨w,e1,rw⟩:=l.at e;exact zct value slice π s σ H _ _ v u Q I rx ry (.inr (.inl ⟨p,xs,k,w,rfl,rfl,rt.sq,e1,q w H φ .rfl rs rw⟩)) hs
 |lst vs=>
  let⟨k,rfl,e⟩:=zae e;erw[yc]at ra ri;subst ri;let⟨p,xs,rfl,rt,l⟩:=ra;let⟨w,e1,rw⟩:=l.at e;exact zct value slice π s σ H _ _ v u Q I rx ry (.inl ⟨p,xs,k,w,rfl,rfl,rt.sq,e1,q w H φ .rfl rs rw⟩) hs
 |loc n=>
  erw[idxV]at e;split at e
  .rename_i vs h1;let⟨k,rfl,e⟩:=zae e;erw[yc]at ri;subst ri;let⟨p,xs,rfl,_,hx,l⟩:=rs.list ra h1;let⟨w,e1,rw⟩:=l.at e;exact zct value slice π s σ H _ _ v u Q I rx ry (.inl ⟨p,xs,k,w,rfl,rfl,.of hx,e1,q w H φ .rfl rs rw⟩) hs
  .cases e
 |str t=>
  erw[idxV]at e;split at e
  .rename_i hl
   cases e1:yav t.cps.toList i with
   |none=>rw[e1]at e;cases e
   |some c=>
    rw[e1]at e
    cases e
    let⟨k,rfl,e1⟩:=zae e1;erw[yc]at ra ri;subst ra ri;exact zct value slice π s σ H _ _ v u Q I rx ry (.inr (.inr ⟨t,k,c,rfl,rfl,by rw[<-zf];exact hl,e1,q _ H φ .rfl rs (by erw[yc])⟩)) hs
  .cases e
 |_=>cases e
def zhT(ha:PE X a (tE S X ca))(hb:PE X b (tE S X cb))(hs:yaL b:=by exact λ_ _=>rfl):PE X (.Subscript a b pos) (tE S X (.idx ca cb)):=
 (ziP zfT ha hb hs).imp λσ H Q ⟨B,φ,st,ρ,rs,re,h⟩=>by
  erw[ev]at h;refine tE.bind rs re h λx H1 v st1 φ1 s1 rs1 re1 rv h1=>tE.bind rs1 re1 h1 λy H2 w st2 φ2 s2 rs2 re2 rw h2=>?_;let⟨z,e,q⟩:=zm h2 rs2;exact⟨B,φ2,st2,v,w,z,rs2,rv.step s2,rw,e,q⟩
theorem yd.cut{vs:List PV}{xs:List V}(lo hi:Option Int)(l:yd K cl B φ H vs xs):yd K cl B φ H (IC.cut vs lo hi) (ybx xs lo hi):=by
 have e1:∀n o,yb1 n o=HT.sIx n 0 o:=λn o=>by cases o<;>rfl
 have e2:∀n o,ycq n o=HT.sIx n n o:=λn o=>by cases o<;>rfl
 unfold IC.cut ybx;rw[l.length,e1,e2];exact(l.drop _).take _
def tO(S:Se)(X:Cx)(c:Ce):TO:=λσ H Q=>tE S X c σ H λx H1=>(x=.non/\Q AF H1) \/ ∃i,x=.int i/\Q (AA i) H1
def zfD:PO X AF (tO S X (.cst .non)):=λπ s σ H Q I h=>by
 refine zfP π s σ H Q I ?_;let⟨B,φ,st,ρ,rs,re,h⟩:=h;erw[ev]at h;rcases h.ok rs (x:=V.non) (by erw[yc])with q|⟨i,z,_⟩
 .exact q.2
 .cases z
def zgq(ha:PE X a (tE S X ca)):PO X (AA a) (tO S X ca):=by
 intro π s σ H Q I hw;rw[evalPart_some];refine thn (ha π s σ H _ I hw) λu s1 kq=>?_;let⟨x,H1,I1,r1,q1⟩:=kq;rcases q1 with⟨rfl,q⟩|⟨i,rfl,q⟩
 .cases r1
  exact⟨AF,H1,I1,.none,q⟩
 .let⟨t,rfl⟩:=r1;exact⟨AA i,H1,I1,.int i t,q⟩
def rSl(S:Se)(X:Cx):V->Option Int->Option Int->Hp->VK->Prop:=λx lo hi H Q=>∃B φ st v z,yj X.K S.cl B φ H st/\yc X.K S.cl B φ H v x/\ybK v lo hi=AA z /\
 ∀z' H' φ',Step φ H φ' H'->yj X.K S.cl B φ' H' st->yc X.K S.cl B φ' H' z z'->Q z' H'
def zM{prog:AT}{w:A3}{A:A5}{E:AD->AG->Prop}{s:AG}{t sl:AI}{items:Array AD}{vl vu:AD}{lo hi:Option Int}{Q:AD->AG->Prop}(ht:IsTup s.heap t items)(hs:s.heap.IsSliceOf sl vl vu .none)(pl:EB vl lo)(pu:EB vu hi)
  (hw:HT.sIx items.size 0 lo=0/\HT.sIx items.size items.size hi=items.size)
  (h:Q (.ref t) s):AN (model prog w) A (getItem (.ref t) (.ref sl)) Q E s:=by
 let⟨os,hos,hcs,hds⟩:=id hs;have hTs:s.TypeIs (.ref sl) "slice":=⟨os,hos,hcs⟩;unfold getItem
 try with_reducible refine BD ?_
 first|refine AB (AK ?_)|skip
 refine AB (FI ht.typeIs ⋯ ?_);refine AB (BO (name:=Ar "__getitem__") ht.typeIs Ak
  (BH Ak ht.typeIs Ed ?_ (Ew _ _)))
 show AN _ _ (CG (.ref t) >>= _) _ _ s;refine AB (Ea ht ?_);refine AB (DI hTs ?_);rw[if_pos ⋯];refine AB (HT.sliceApplied_gen hs pl pu ?_);have hyes:(((HT.sIx items.size 0 lo:Nat):Int)==0&&(1:Int)==1&&(HT.sIx items.size items.size hi-HT.sIx items.size 0 lo)==items.size)=true:=by
  rw[hw.1,hw.2];simp
 show AN _ _ (if (((HT.sIx items.size 0 lo:Nat):Int)==0&&(1:Int)==1&&(HT.sIx items.size items.size hi-HT.sIx items.size 0 lo)==items.size)=AC then _ else _) _ _ s;rw[if_pos hyes];refine AB (AB (DI ht.typeIs (AK ?_)));rw[if_pos ⋯]
 first
  |exact AB (AK (AK ⟨_,rfl,AK h⟩))
  |exact AB (Dx (AK ⟨_,rfl,AK h⟩))
  |(wp_step;wp_step;exact⟨_,rfl,AK h⟩)
def yft(K:AE):V->Option Int->Option Int->Hp->VK->Prop:=λx lo hi H Q=>∃a xs,x=.ref a/\SqT K H a xs /\
 (HT.sIx xs.length 0 lo=0/\HT.sIx xs.length xs.length hi=xs.length)/\Q (.ref a) H
def zef:SlR X (yft X.K):=by
 intro π s σ H x v vl vu lo hi sl Q I rx hs pl pu h;let⟨a,xs,rfl,hx,hw,q⟩:=h
 cases rx
 let⟨its,r,ht,hz⟩:=I.tuple hx;have hlen:its.toArray.size=xs.length:=by rw[AU];exact r.length.symm
 refine⟨"tuple",_,Ak.lookup,ht.typeIs,?_⟩;exact zM ht hs pl pu (by rw[hlen];exact hw) ⟨.ref a,H,I,rfl,q⟩
def yfo:V->Option Int->Option Int->Hp->VK->Prop:=λx lo hi H Q=>∃y:AR,x=.str y/\y.length<=sizeLine/\Q (.str ⟨((y.cps.toList.drop (HT.sIx y.cps.toList.length 0 lo)).take (HT.sIx y.cps.toList.length y.cps.toList.length hi-HT.sIx y.cps.toList.length 0 lo)).toArray⟩) H
def zix(lo hi:Option Int)(n:Nat):DL lo hi 1 n=sliceRange ((HT.sIx n 0 lo:Nat):Int) ((HT.sIx n n hi:Nat):Int) 1:=by
 unfold DL;erw[show (1:Int) > 0 by decide,if_true]
 congr 1
 .cases lo with
  |none=>simp[HT.sIx]
  |some i=>
   erw[HT.sIx]
   by_cases h:i<0
   .simp only[h,if_true]<;>lia
   .simp only[h,if_false]<;>lia
 .cases hi with
  |none=>simp[HT.sIx]
  |some i=>
   erw[HT.sIx]
   by_cases h:i<0
   .simp only[h,if_true]<;>lia
   .simp only[h,if_false]<;>lia
def zc7(y:AR)(lo hi:Option Int):Txt.slice y lo hi=⟨((y.cps.toList.drop (HT.sIx y.cps.toList.length 0 lo)).take (HT.sIx y.cps.toList.length y.cps.toList.length hi-HT.sIx y.cps.toList.length 0 lo)).toArray⟩:=by
 have hn:y.length=y.cps.toList.length:=by simp[Str.length]
 unfold Txt.slice;rw[zix,hn,sliceRange_one];have ha:=HT.sIx_le y.cps.toList.length 0 (BK _) lo;have hb:=HT.sIx_le y.cps.toList.length y.cps.toList.length (AS _) hi;generalize HT.sIx y.cps.toList.length 0 lo=a,HT.sIx y.cps.toList.length y.cps.toList.length hi=b at *;split
 .rename_i c;erw[BN,List.length_range,AJ,beq_iff_eq]at c;obtain⟨rfl,rfl⟩:a=0/\b=y.cps.toList.length:=by lia
  rw[List.drop_zero,G4,FX]
 .rw[pick_run]
def zgA:SlR X yfo:=by
 intro π s σ H x v vl vu lo hi sl Q I rx hs pl pu h;let⟨y,rfl,hz,q⟩:=h;let⟨t,rfl⟩:=rx;rw[<-zc7]at q;refine⟨"str",_,PySem.F.slot_str_getitem.lookup,Fh _ _ _,?_⟩;have go:∀l u:Option (Int×Gh),vl=partValue l->vu=partValue u->lo=l.map (·.1)->hi=u.map (·.1)->AN (model X.prog X.w) X.A (getItem (.str y t) (.ref sl)) (EP X π σ Q) X.xe s:=by
  rintro l u rfl rfl rfl rfl
  refine wpAny_getItem_str_slice (l:=l) (u:=u) (st:=AF) hs rfl ?_;exact post_val_or_str ⟨BS (Txt.slice_le y _ _) hz,λt' k=>⟨.str _,H,I.tok k,⟨_,rfl⟩,q⟩⟩
 cases pl with
 |none=>
  cases pu with
  |none=>exact go AF AF rfl rfl rfl rfl
  |int j u=>exact go AF (AA (j,u)) rfl rfl rfl rfl
 |int i t1=>
  cases pu with
  |none=>exact go (AA (i,t1)) AF rfl rfl rfl rfl
  |int j u=>exact go (AA (i,t1)) (AA (j,u)) rfl rfl rfl rfl
def zf4:SlR X (rSl S X):=by
 rintro π s σ H x v vl vu lo hi sl Q I rx hs pl pu ⟨B,φ,st,w,z,rs,rw,e,q⟩
 have e1:∀n o,yb1 n o=HT.sIx n 0 o:=λn o=>by cases o<;>rfl
 have e2:∀n o,ycq n o=HT.sIx n n o:=λn o=>by cases o<;>rfl
 cases w with
 |tp k vs=>
  erw[ybK]at e;split at e
  .rename_i c
   cases e
   have rw':=rw;erw[yc]at rw;let⟨p,xs,rfl,rt,l⟩:=rw;refine zef π s σ H _ v vl vu lo hi sl Q I rx hs pl pu ⟨p,xs,rfl,rt.sq,?_,q _ H φ .rfl rs rw'⟩;rw[l.length,e1,e2]at c;exact c
  .rename_i c
   cases e
   erw[yc]at rw;let⟨p,xs,rfl,rt,l⟩:=rw;refine ziy π s σ H _ v vl vu lo hi sl Q I rx hs pl pu ⟨p,xs,rfl,rt.sq,?_,λt ht=>q _ _ φ (.upd ht) (rs.upd ht) (.tup_new ht rs (l.cut lo hi))⟩;rw[l.length,e1,e2]at c;exact c
 |str y=>
  erw[ybK]at e;split at e
  .rename_i c
   cases e
   erw[yc]at rw;subst rw;refine zgA π s σ H _ v vl vu lo hi sl Q I rx hs pl pu ⟨y,rfl,by rw[<-zf];exact c,?_⟩;have:=q (.str ⟨(cut y.cps.toList lo hi).toArray⟩) H φ .rfl rs (by erw[yc]);rw[cut,e1,e2]at this;exact this
  .cases e
 |lst vs=>
  erw[ybK]at e
  cases e
  erw[yc]at rw;let⟨p,xs,rfl,rt,l⟩:=rw;exact zd3 π s σ H _ v vl vu lo hi sl Q I rx hs pl pu ⟨p,xs,rfl,rt.sq,λt ht=>q _ _ φ (.upd ht) (rs.upd ht) (.lst_new ht rs (l.cut lo hi))⟩
 |scr vs=>
  erw[ybK]at e
  cases e
  erw[yc]at rw;let⟨p,xs,rfl,rt,l⟩:=rw;exact zd3 π s σ H _ v vl vu lo hi sl Q I rx hs pl pu ⟨p,xs,rfl,(by rcases rt with rt|rt;exact .inl rt.1;exact .inr rt),λt ht=>q _ _ φ (.upd ht) (rs.upd ht) (.lst_new ht rs (l.cut lo hi))⟩
 |_=>cases e
def zhH{lo hi:Option AM}(ha:PE X a (tE S X ca))(hl:PO X lo (tO S X cb))(hh:PO X hi (tO S X cc)):PE X (.Subscript a (.Slice lo hi AF p2) pos) (tE S X (.slc ca cb cc)):=
 (zen zf4 ha hl hh).imp λσ H Q ⟨B,φ,st,ρ,rs,re,h⟩=>by
  erw[ev]at h;have oi:∀{v:PV} {x:V} {o:Option Int} {B φ H},yc X.K S.cl B φ H v x->yby v=AA o->(x=.non/\o=AF) \/ ∃i,x=.int i/\o=AA i:=λ{v x o B φ H} r e=>by
   cases v with
   |non=>erw[yc]at r;cases e;exact .inl ⟨r,rfl⟩
   |int i=>erw[yc]at r;cases e;exact .inr ⟨i,r,rfl⟩
   |_=>cases e
  refine tE.bind rs re h λx H1 v st1 φ1 s1 rs1 re1 rv h1=>tE.bind rs1 re1 h1 λy H2 w st2 φ2 s2 rs2 re2 rw h2=>?_
  cases eo:yby w with
  |none=>rw[eo]at h2;exact h2.elim
  |some o1=>
   rw[eo]at h2;have key:tO S X cc σ H2 λu H3=>rSl S X x o1 u H3 Q:=by
    refine tE.bind rs2 re2 h2 λy' H3 w' st3 φ3 s3 rs3 re3 rw' h3=>?_;let⟨z,e,q⟩:=zm h3 rs3;unfold ycz at e
    cases eo':yby w' with
    |none=>rw[eo']at e;cases e
    |some o2=>
     rw[eo']at e;have fin:rSl S X x o1 o2 H3 Q:=⟨B,φ3,st3,v,z,rs3,(rv.step s2).step s3,e,q⟩;rcases oi rw' eo' with⟨rfl,rfl⟩|⟨i,rfl,rfl⟩
     .exact .inl ⟨rfl,fin⟩
     .exact .inr ⟨i,rfl,fin⟩
   rcases oi rw eo with⟨rfl,rfl⟩|⟨i,rfl,rfl⟩
   .exact .inl ⟨rfl,key⟩
   .exact .inr ⟨i,rfl,key⟩
end
section
variable {S:Se}{X:Cx}{σ:St}{B:AI->Prop}{φ φ1:Ph}{H H1:Hp}{st:SO}{ρ:IC.Env}{p pos p2:Bd}{a b c d:AM}{ca cb cc:Ce}{es:List AM}{ces:Ces}{K:AE}{cl:Nat->AI}
def rB(S:Se)(X:Cx)(k:Blt):List V->Hp->VK->Prop:=λxs H Q=>∃B φ st vs z,yj X.K S.cl B φ H st/\yd X.K S.cl B φ H vs xs/\yaG k st vs=AA z /\
 ∀z' H' φ',Step φ H φ' H'->yj X.K S.cl B φ' H' st->yc X.K S.cl B φ' H' z z'->Q z' H'
theorem yd.one{v:PV}{xs:List V}(l:yd K cl B φ H [v] xs):∃x,xs=[x]/\yc K cl B φ H v x:=by
 erw[yd]at l;let⟨y,ys,rfl,r,rfl⟩:=l;exact⟨y,rfl,r⟩
theorem yd.two{v w:PV}{xs:List V}(l:yd K cl B φ H [v,w] xs):∃x y,xs=[x,y]/\yc K cl B φ H v x/\yc K cl B φ H w y:=by
 erw[yd]at l;let⟨y,ys,rfl,r,z,zs,rfl,r2,rfl⟩:=l;exact⟨y,z,rfl,r,r2⟩
def zaA{k:Blt}{st:SO}{vs:List PV}{z:PV}(h:yaG k st vs=AA z)(h2:∀x y,yaG k st [x,y]=AF):∃x,vs=[x]:=by
 match vs,h with
 |[x],_=>exact⟨x,rfl⟩
 |[x,y],h=>rw[h2]at h;cases h
def zap{v:PV}{x:V}{vs:List PV}(rs:yj K cl B φ H st)(r:yc K cl B φ H v x)(h:yt st v=AA vs):∃a xs,x=.ref a/\SqL K H a xs/\yd K cl B φ H vs xs:=by
 cases v with
 |lst ws=>
  cases h
  erw[yc]at r;let⟨a,xs,rfl,rt,l⟩:=r;exact⟨a,xs,rfl,rt.sq,l⟩
 |loc n=>
  erw[yt]at h;split at h
  .rename_i ws hw
   cases h
   let⟨a,xs,rfl,_,hx,l⟩:=rs.list r hw;exact⟨a,xs,rfl,.of hx,l⟩
  .cases h
 |_=>cases h
def zhk{v:PV}{x:V}{vs:List PV}(rs:yj K cl B φ H st)(r:yc K cl B φ H v x)(h:seqOf st v=AA vs):∃a xs,x=.ref a/\(SqL K H a xs \/ SqT K H a xs)/\yd K cl B φ H vs xs:=by
 cases v with
 |tp k ws=>
  cases h
  erw[yc]at r;let⟨a,xs,rfl,rt,l⟩:=r;exact⟨a,xs,rfl,.inr rt.sq,l⟩
 |lst ws=>
  let⟨a,xs,e,q,l⟩:=zap rs r (vs:=vs) h;exact⟨a,xs,e,.inl q,l⟩
 |loc n=>
  let⟨a,xs,e,q,l⟩:=zap rs r (vs:=vs) h;exact⟨a,xs,e,.inl q,l⟩
 |_=>cases h
def zhh:yM X (.builtin "len") (rB S X .len):=by
 rintro π s σ H xs us Q I r ⟨B,φ,st,vs,z,rs,l,e,q⟩
 let⟨v,rfl⟩:=zaA e λ_ _=>rfl;let⟨x,rfl,rv⟩:=l.one;erw[yaG,lenV]at e;split at e
 .rename_i t;split at e
  .rename_i c
   cases e
   erw[yc]at rv;subst rv;exact zby π s σ H _ us Q I r ⟨t,rfl,by rw[<-zf];exact c,q _ H φ .rfl rs (by erw[yc])⟩
  .cases e
 .cases e1:seqOf st v with
  |none=>rw[e1]at e;cases e
  |some ws=>
   rw[e1]at e
   cases e
   let⟨a,ys,rfl,h,l⟩:=zhk rs rv e1;refine zbu π s σ H _ us Q I r ⟨a,ys,rfl,?_,q _ H φ .rfl rs (by erw[yc];rw[l.length])⟩;exact h
def zhy:yM X (.type "int") (rB S X .int):=by
 rintro π s σ H xs us Q I r ⟨B,φ,st,vs,z,rs,l,e,q⟩
 let⟨v,rfl⟩:=zaA e λ_ _=>rfl;let⟨x,rfl,rv⟩:=l.one;erw[yaG]at e
 cases v with
 |int i=>
  cases e
  erw[yc]at rv;subst rv;exact zbC π s σ H _ us Q I r (.inl ⟨i,rfl,q _ H φ .rfl rs (by erw[yc])⟩)
 |bl k=>
  cases e
  erw[yc]at rv;subst rv;exact zbC π s σ H _ us Q I r (.inr ⟨k,rfl,q _ H φ .rfl rs (by erw[yc,bi])⟩)
 |_=>cases e
def zhw:yM X (.builtin "abs") (rB S X .abs):=by
 rintro π s σ H xs us Q I r ⟨B,φ,st,vs,z,rs,l,e,q⟩
 let⟨v,rfl⟩:=zaA e λ_ _=>rfl;let⟨x,rfl,rv⟩:=l.one;erw[yaG]at e
 cases v with
 |int i=>
  cases e
  erw[yc]at rv;subst rv;exact zeV π s σ H _ us Q I r ⟨i,rfl,q _ H φ .rfl rs (by erw[yc])⟩
 |_=>cases e
theorem yd.ints:∀{ns:List Int} {xs:List V},yd K cl B φ H (ns.map .int) xs->xs=ns.map V.int
 |[],xs,h=>by simpa only[CA,yd] using h
 |n::ns,xs,h=>by
  erw[A2,yd]at h;let⟨y,ys,rfl,r,l⟩:=h;erw[yc]at r;rw[r,yd.ints l];rfl
theorem yd.bls:∀{ns:List Bool} {xs:List V},yd K cl B φ H (ns.map .bl) xs->xs=ns.map V.bl
 |[],xs,h=>by simpa only[CA,yd] using h
 |n::ns,xs,h=>by
  erw[A2,yd]at h;let⟨y,ys,rfl,r,l⟩:=h;erw[yc]at r;rw[r,yd.bls l];rfl
def zex:yM X (.type "tuple") (rB S X .tuple):=by
 rintro π s σ H xs us Q I r ⟨B,φ,st,vs,z,rs,l,e,q⟩
 let⟨v,rfl⟩:=zaA e λ_ _=>rfl;let⟨x,rfl,rv⟩:=l.one;erw[yaG,yd5]at e;split at e
 .cases e
  erw[yc]at rv;let⟨a,ys,rfl,rt,l⟩:=rv;exact zV π s σ H _ us Q I r ⟨a,ys,rfl,.inr ⟨rt.sq,q _ H φ .rfl rs (by erw[yc];exact⟨a,ys,rfl,rt,l⟩)⟩⟩
 .cases e1:yt st v with
  |none=>rw[e1]at e;cases e
  |some ws=>
   rw[e1]at e
   cases e
   let⟨a,ys,rfl,h,l⟩:=zap rs rv e1;exact zV π s σ H _ us Q I r ⟨a,ys,rfl,.inl ⟨h,λt ht=>q _ _ φ (.upd ht) (rs.upd ht) (.tup_new ht rs l)⟩⟩
def ze1:∀{vs:List PV} {m:Bool},IC.allB vs=AA m->∃ns:List Bool,vs=ns.map .bl/\m=ns.all id
 |[],m,h=>by cases h;exact⟨[],rfl,rfl⟩
 |.bl i::r,m,h=>by
  erw[IC.allB]at h;split at h
  .rename_i c e
   cases h
   let⟨ns,e1,e2⟩:=ze1 e;exact⟨i::ns,by rw[e1];rfl,by rw[e2];rfl⟩
  .cases h
 |.non::r,m,h=>by cases h
 |.int _::r,m,h=>by cases h
 |.str _::r,m,h=>by cases h
 |.tp _ _::r,m,h=>by cases h
 |.lst _::r,m,h=>by cases h
 |.loc _::r,m,h=>by cases h
 |.fnc _::r,m,h=>by cases h
 |.exn _::r,m,h=>by cases h
 |.scr _::r,m,h=>by cases h
def zih(hc:X.calm=AC):yM X (.builtin "all") (rB S X .all):=by
 rintro π s σ H xs us Q I r ⟨B,φ,st,vs,z,rs,l,e,q⟩
 let⟨v,rfl⟩:=zaA e λ_ _=>rfl;let⟨x,rfl,rv⟩:=l.one;erw[yaG]at e
 cases e1:yt st v with
 |none=>rw[e1]at e;cases e
 |some ws=>
  rw[e1]at e;erw[Be]at e
  cases e2:IC.allB ws with
  |none=>rw[e2]at e;cases e
  |some m=>
   rw[e2]at e
   cases e
   let⟨ns,rfl,rfl⟩:=ze1 e2;let⟨a,ys,rfl,h,l⟩:=zap rs rv e1;rw[l.bls]at h;exact zeB hc π s σ H _ us Q I r ⟨a,ns,rfl,h,q _ H φ .rfl rs (by erw[yc])⟩
variable {x:AR}{id T:String}{k:Blt}
def zgI(hc:yM X (.builtin id) (rB S X k))(hg:Gl X x)(hm:X.mg x=AF)(hv:bootBuiltins x=AA (.builtin id))(ha:PA X (a::es) (tAs S X ces))(hn:x ≠ "__name__":=by decide)(hdb:(x==("__debug__":AR))=false:=by decide)
  (he:starEach (a::es) X.env=(AH,eval a X.env)::starEach es X.env:=by rfl) (hpl:(backTo pos (starEach es X.env)).any (·.1)=false:=by rfl):PE X (.Call (.Name x p) (a::es) [] pos) (tE S X (.blt k ces)):=
 (za4 hc hg hm hv ha hn hdb he hpl).imp λσ H Q ⟨B,φ,st,ρ,rs,re,h⟩=>by
  erw[ev]at h;refine tAs.bind rs re h λxs H1 vs st1 φ1 s1 rs1 re1 rv h1=>?_;let⟨z,e,q⟩:=zm h1 rs1;exact⟨B,φ1,st1,vs,z,rs1,rv,e,q⟩
def zgp(hc:yM X (.type T) (rB S X k))(hg:Gl X x)(hm:X.mg x=AF)(hv:bootBuiltins x=AA (.type T))(ha:PA X (a::es) (tAs S X ces))(hn:x ≠ "__name__":=by decide)(hdb:(x==("__debug__":AR))=false:=by decide)
  (he:starEach (a::es) X.env=(AH,eval a X.env)::starEach es X.env:=by rfl) (hpl:(backTo pos (starEach es X.env)).any (·.1)=false:=by rfl):PE X (.Call (.Name x p) (a::es) [] pos) (tE S X (.blt k ces)):=
 (zam hc hg hm hv ha hn hdb he hpl).imp λσ H Q ⟨B,φ,st,ρ,rs,re,h⟩=>by
  erw[ev]at h;refine tAs.bind rs re h λxs H1 vs st1 φ1 s1 rs1 re1 rv h1=>?_;let⟨z,e,q⟩:=zm h1 rs1;exact⟨B,φ1,st1,vs,z,rs1,rv,e,q⟩
end
section
variable {S:Se}{X:Cx}{σ:St}{B:AI->Prop}{φ φ1:Ph}{H H1:Hp}{st:SO}{ρ:IC.Env}{p pos p2 apos:Bd}{a b c d:AM}{ca cb cc:Ce}{es:List AM}{ces:Ces}{K:AE}{cl:Nat->AI}
theorem Step.put{l:AI}{u:HO}(hl:AA l∈φ):Step φ H φ (L2.upd H l u):=
 ⟨λb o n e=>by rw[za (show b≠l from λz=>n (by rw[z];exact hl))];exact e,AS _,λ_ _ _ e=>e,λ_ h=>.inl h⟩
theorem yj.put{n:Nat}{l:AI}{u:HO}{o:Ob}(rs:yj K cl B φ H st)(hn:φ[n]?=AA (AA l))(ho:ybp K cl B φ (L2.upd H l u) o l):yj K cl B φ (L2.upd H l u) (st.set n o):=by
 have hm:AA l∈φ:=AV hn;have s:Step φ H φ (L2.upd H l u):=.put hm;have hlt:n<st.length:=by rw[<-rs.len];exact(Am.mp hn).1
 refine⟨by rw[BE];exact rs.len,rs.inj,λm a e=>?_,λm o' e ho'=>?_,rs.nb,λa h=>?_⟩
 .by_cases hmn:m=n
  .subst hmn;rw[hn]at e;cases e;exact⟨o,by rw[BF hlt],ho⟩
  .let⟨o',q,r⟩:=rs.obj m a e;refine⟨o',by rw[An (B1 hmn)];exact q,r.step s ?_⟩;rw[za]
   rintro rfl
   exact hmn (rs.inj m n a e hn)
 .by_cases hmn:m=n
  .subst hmn;exact⟨l,hn⟩
  .rw[An (B1 hmn)]at e;exact rs.liv m o' e ho'
 .let⟨w,e⟩:=rs.dom a h
  by_cases z:a=l
  .subst z;exact⟨u,zc⟩
  .exact⟨w,by rw[za z];exact e⟩
def zek:1000000<=sizeLine:=by rw[Av];decide
def zdb{m:Mth}{v:PV}{st:SO}{α β:Type}{Rel:Ph->Hp->α->β->Prop}{k:Bool->R α}{Q:β->Hp->Prop}(h:Run S X σ B φ H Rel (onO (yaM m st v) k) Q):∃b,yaM m st v=AA b/\Run S X σ B φ H Rel (k b) Q:=by
 cases e:yaM m st v with
 |none=>rw[e]at h;exact h.elim
 |some z=>rw[e]at h;exact⟨z,rfl,h⟩
def zdr(ha:PE X a (tE S X ca))(hb:PE X b (tE S X cb))(hs:starEach [b] X.env=[(AH,eval b X.env)]:=by rfl)(hbase:attributeBase a "append" X.env (eval a X.env)=eval a X.env:=by rfl)(hline:(apos.endLine==pos.line)=true:=by rfl)
  (hfew:((backTo pos (starEach [b] X.env)).all (λx=>!x.1)&&(backToKw pos (keywordEach [] X.env)).all (λx=>x.1.isSome)&&decide (([b]:List AM).length+([]:List Bz).length+(if ([]:List Bz).isEmpty then 0 else 1)<30))=true:=by rfl):
  PE X (.Call (.Attribute a "append" apos) [b] [] pos) (tE S X (.mth .append ca (.cons cb .nil))):=
 (ziX PySem.F.plainAttrs_list EV PySem.F.type_list_append zbt ha (zaQ (S:=S) hb zeb hs) hbase hfew hline hs rfl).imp λσ H Q ⟨B,φ,st,ρ,rs,re,h⟩=>by
  erw[ev]at h;refine tE.bind rs re h λx H1 v st1 φ1 s1 rs1 re1 rv h1=>?_;let⟨_,e1,h1⟩:=zdb h1;have t1:∃ws,yt st1 v=AA ws:=by
   erw[yaM]at e1
   cases q:yt st1 v with
   |none=>rw[q]at e1;cases e1
   |some ws=>exact⟨ws,rfl⟩
  let⟨ws,t1⟩:=t1;let⟨l,xs,rfl,hl,_⟩:=zap rs1 rv t1;refine⟨.inl ⟨rfl,xs,hl⟩,tAs.bind rs1 re1 h1 λys H2 vs st2 φ2 s2 rs2 re2 rvs h2=>?_⟩;have rv2:=rv.step s2;rcases vs with _|⟨w,_|⟨w',t⟩⟩
  .exact h2.elim
  .let⟨y,rfl,rw⟩:=rvs.one;unfold ycT at h2;erw[yd7]at h2;split at h2
   .rename_i n;split at h2
    .rename_i zs hz;split at h2
     .rename_i c;let⟨l',xs',e,hn,hx,lr⟩:=rs2.list rv2 hz
      cases e
      refine⟨l,xs',y,rfl,rfl,hx,by have:=zek;have:=lr.length;lia,?_⟩;exact h2 _ _ φ2 (.put (AV hn)) (rs2.put hn ⟨_,zc,(lr.append (by erw[yd];exact⟨y,[],rfl,rw,rfl⟩)).step (.put (AV hn))⟩) (by erw[yc])
     .exact h2.elim
    .exact h2.elim
   .exact h2.elim
  .exact h2.elim
end
section
variable (S:Se)(X:Cx)
def yam(B:AI->Prop)(φ:Ph)(H:Hp)(f:Fl)(D:Ends):Prop:=
 match f with
 |.nx ρ' st'=>∀σ' H' φ',Step φ H φ' H'->yj X.K S.cl B φ' H' st'->yo X.K S.cl B φ' H' ρ' σ'->D.nx σ' H'
 |.rt v st'=>∀x H' φ',Step φ H φ' H'->yj X.K S.cl B φ' H' st'->yc X.K S.cl B φ' H' v x->D.rt x H'
 |.bk ρ' st'=>∀σ' H' φ',Step φ H φ' H'->yj X.K S.cl B φ' H' st'->yo X.K S.cl B φ' H' ρ' σ'->D.bk σ' H'
 |.ct ρ' st'=>∀σ' H' φ',Step φ H φ' H'->yj X.K S.cl B φ' H' st'->yo X.K S.cl B φ' H' ρ' σ'->D.ct σ' H'
 |.exc k ρ' st'=>∀σ' φ1 H1 e s',Step φ H φ1 H1->yo X.K S.cl B φ1 H1 ρ' σ'->ExcAt S X σ' B φ1 H1 k st' e s'->X.xe e s'
 |.bad=>False
def tS(c:Cs):TS:=λD σ H=>∃B φ st ρ,yj X.K S.cl B φ H st/\yo X.K S.cl B φ H ρ σ/\yam S X B φ H (ex S.call ρ st c) D
def tSs(c:Css):TS:=λD σ H=>∃B φ st ρ,yj X.K S.cl B φ H st/\yo X.K S.cl B φ H ρ σ/\yam S X B φ H (exs S.call ρ st c) D
end
section
variable {S:Se}{X:Cx}{σ:St}{B:AI->Prop}{φ φ1:Ph}{H H1:Hp}{st:SO}{ρ:IC.Env}{D:Ends}{pos p2 px:Bd}{a b c o:AM}{ca cb cc:Ce}{s1:Bb}{ss ss':List Bb}{c1:Cs}{cs cs':Css}
theorem yam.on{f:Fl}(s:Step φ H φ1 H1)(h:yam S X B φ H f D):yam S X B φ1 H1 f D:=by
 cases f with
 |nx ρ st=>exact λσ' H' φ' t=>h σ' H' φ' (s.trans t)
 |rt ρ st=>exact λσ' H' φ' t=>h σ' H' φ' (s.trans t)
 |bk ρ st=>exact λσ' H' φ' t=>h σ' H' φ' (s.trans t)
 |ct ρ st=>exact λσ' H' φ' t=>h σ' H' φ' (s.trans t)
 |exc k ρ st=>exact λσ' φ2 H2 e s' t=>h σ' φ2 H2 e s' (s.trans t)
 |bad=>exact h
theorem tE.fl{k:PV->SO->Fl}{P:V->Hp->Prop}(rs:yj X.K S.cl B φ H st)(re:yo X.K S.cl B φ H ρ σ)(h:yam S X B φ H ((ev S.call ρ st ca).fl ρ k) D)
  (n:∀x H1 v st1 φ1,Step φ H φ1 H1->yj X.K S.cl B φ1 H1 st1->yo X.K S.cl B φ1 H1 ρ σ->yc X.K S.cl B φ1 H1 v x->yam S X B φ1 H1 (k v st1) D->P x H1):tE S X ca σ H P:=by
 refine⟨B,φ,st,ρ,rs,re,?_⟩
 cases e:ev S.call ρ st ca with
 |ok v st'=>
  rw[e]at h;exact λx H' φ' s rs' rv=>n x H' v st' φ' s rs' (re.step s) rv (h.on s)
 |exc k st'=>
  rw[e]at h;exact λe s' x=>h σ φ H e s' .rfl re x
 |bad=>rw[e]at h;exact h
theorem PS.imp{t t':TS}(h:PS X s1 t')(k:∀D σ H,t D σ H->t' D σ H):PS X s1 t:=λπ s σ H D I q=>h π s σ H D I (k D σ H q)
theorem PSs.imp{t t':TS}(h:PSs X ss t')(k:∀D σ H,t D σ H->t' D σ H):PSs X ss t:=λπ s σ H D I q=>h π s σ H D I (k D σ H q)
theorem yo.set{K:AE}{cl:Nat->AI}(r:yo K cl B φ H ρ σ)(i:Nat){v:PV}{x:V}(rv:yc K cl B φ H v x):yo K cl B φ H (ρ.set i (AA v)) (σ.set i (AA x)):=by
 refine⟨by rw[BE,BE];exact r.len,λj w e=>?_⟩
 by_cases h:j=i
 .subst h
  by_cases hl:j<ρ.length
  .rw[BF hl]at e
   cases e
   exact⟨x,by rw[BF (by rw[<-r.len];exact hl)],rv⟩
  .rw[Ci (by rw[BE];lia)]at e
   cases e
 .rw[An (B1 h)]at e ⊢;exact r.get j w e
def zhJ:PSs X [] (tSs S X .nil):=zgt.imp λD σ H ⟨B,φ,st,ρ,rs,re,h⟩=>by
 erw[exs]at h;exact h σ H φ .rfl rs re
def zfR(h1:PS X s1 (tS S X c1))(h2:PSs X ss (tSs S X cs)):PSs X (s1::ss) (tSs S X (.cons c1 cs)):=
 (zeN h1 h2).imp λD σ H ⟨B,φ,st,ρ,rs,re,h⟩=>by
  erw[exs]at h;refine⟨B,φ,st,ρ,rs,re,?_⟩
  cases e:ex S.call ρ st c1 with
  |nx ρ1 st1=>
   rw[e]at h;exact λσ' H' φ' s rs' re'=>⟨B,φ',st1,ρ1,rs',re',h.on s⟩
  |rt v st1=>rw[e]at h;exact h
  |bk ρ1 st1=>rw[e]at h;exact h
  |ct ρ1 st1=>rw[e]at h;exact h
  |exc k ρ1 st1=>rw[e]at h;exact h
  |bad=>rw[e]at h;exact h
def zfK(he:PE X a (tE S X ca))(hs:swapsWith a AF pos.line X.env=pure false:=by rfl):PS X (.Expr a pos) (tS S X (.expr ca)):=
 (zfY he hs).imp λD σ H ⟨B,φ,st,ρ,rs,re,h⟩=>by
  erw[ex]at h;exact tE.fl rs re h λx H1 v st1 φ1 s rs1 re1 rv h1=>h1 σ H1 φ1 .rfl rs1 re1
def zgF(he:PE X a (tE S X ca)):PS X (.Return (AA a) pos) (tS S X (.ret ca)):=
 (zir he).imp λD σ H ⟨B,φ,st,ρ,rs,re,h⟩=>by
  erw[ex]at h;exact tE.fl rs re h λx H1 v st1 φ1 s rs1 re1 rv h1=>h1 x H1 φ1 .rfl rs1 rv
def zf7:PS X (.Return AF pos) (tS S X (.ret (.cst .non))):=
 zg6.imp λD σ H ⟨B,φ,st,ρ,rs,re,h⟩=>by
  erw[ex,ev,R.fl]at h;exact h .non H φ .rfl rs (by erw[yc])
def zgR{i:Nat}{x:AR}(hN:X.N.Nodup)(hi:X.N[i]?=AA x)(hx:Loc X.env.scope x)(he:PE X a (tE S X ca))(hs:swapsWith a (AA (.Name x px)) pos.line X.env=pure false:=by rfl)
  (hf:X.fn x=AC \/ X.env.scope.names.lookup x=AA .local:=by first|exact .inl rfl|exact .inr rfl|assumption):PS X (.Assign [.Name x px] a pos) (tS S X (.asg (.n i) ca)):=
 (zhv hN hi hx he hs hf).imp λD σ H ⟨B,φ,st,ρ,rs,re,h⟩=>by
  erw[ex]at h;exact tE.fl rs re h λx H1 v st1 φ1 s rs1 re1 rv h1=>h1 _ H1 φ1 .rfl rs1 (re1.set i rv)
theorem flT(r:R PV)(f:Bool->SO->Fl):(r.fl ρ λx st1=>onF (yae st1 x) λk=>f k st1)=(yap r).fl ρ f:=by
 cases r with
 |ok v s=>
  erw[R.fl,yap,R.bind]
  cases yae s v<;>rfl
 |exc c s=>rfl
 |bad=>rfl
theorem tTs.fl{k:Bool->SO->Fl}{P:Bool->Hp->Prop}(rs:yj X.K S.cl B φ H st)(re:yo X.K S.cl B φ H ρ σ)(h:yam S X B φ H ((yap (ev S.call ρ st ca)).fl ρ k) D)
  (n:∀b H1 st1 φ1,Step φ H φ1 H1->yj X.K S.cl B φ1 H1 st1->yo X.K S.cl B φ1 H1 ρ σ->yam S X B φ1 H1 (k b st1) D->P b H1):tTs S X ca σ H P:=by
 refine⟨B,φ,st,ρ,rs,re,?_⟩
 cases e:yap (ev S.call ρ st ca)with
 |ok v st'=>
  rw[e]at h;exact λx H' φ' s rs' rv=>by
   subst rv;exact n v H' st' φ' s rs' (re.step s) (h.on s)
 |exc k st'=>
  rw[e]at h;exact λe s' x=>h σ φ H e s' .rfl re x
 |bad=>rw[e]at h;exact h
def ziQ(hc:PT X c (tTs S X cc))(ha:PSs X ss (tSs S X cs))(hb:PSs X ss' (tSs S X cs')):PS X (.If c ss ss' pos) (tS S X (.ite cc cs cs')):=
 (zi2 hc ha hb).imp λD σ H ⟨B,φ,st,ρ,rs,re,h⟩=>by
  erw[ex]at h;rw[flT _ λk st1=>cond k (exs S.call ρ st1 cs) (exs S.call ρ st1 cs')]at h;refine tTs.fl rs re h λk H1 st1 φ1 s rs1 re1 h1=>?_
  cases k with
  |true=>exact⟨B,φ1,st1,ρ,rs1,re1,h1⟩
  |false=>exact⟨B,φ1,st1,ρ,rs1,re1,h1⟩
def zg2{i:Nat}{x:AR}{op:Di}{bo:BOp}(hN:X.N.Nodup)(hi:X.N[i]?=AA x)(hx:Loc X.env.scope x)(he:PE X a (tE S X ca))(ho:PIp X op (rT2 S X (ya5 bo)))
  (hf:X.fn x=AC \/ X.env.scope.names.lookup x=AA .local:=by first|exact .inl rfl|exact .inr rfl|assumption) (hd:(x==("__debug__":AR))=false:=by decide) (hcd:(x==("__classdict__":AR))=false:=by decide):PS X (.AugAssign (.Name x px) op a pos) (tS S X (.aug i bo ca)):=
 (zgO hN hi hx he ho hf).imp λD σ H ⟨B,φ,st,ρ,rs,re,h⟩=>by
  erw[ex]at h
  cases q:ρ[i]? with
  |none=>rw[q]at h;exact h.elim
  |some w=>
   cases w with
   |none=>rw[q]at h;exact h.elim
   |some w=>
    rw[q]at h;let⟨y,hy,rw⟩:=re.get i w q;refine⟨y,hy,tE.fl rs re h λz H1 v st1 φ1 s rs1 re1 rv h1=>?_⟩
    cases e:ya5 bo w v with
    |none=>rw[e]at h1;exact h1.elim
    |some u=>
     rw[e]at h1;exact⟨B,φ1,st1,w,v,u,rs1,rw.step s,rv,e,λz' H' φ' s' rs' rz=>h1 _ H' φ' s' rs' ((re1.step s').set i rz)⟩
end
section
variable (S:Se)(X:Cx)
structure Drw(B:AI->Prop)(φ0:Ph)(H0:Hp)(xs:List PV)(J:It):Prop where
 stop:∀φ H,Step φ0 H0 φ H->J.stop xs.length H
 go:∀(i:Nat) φ H,Step φ0 H0 φ H->i<xs.length->J.go i H
 yld:∀(i:Nat) φ H st x H' (B':AI->Prop),(∀y,B' y->B y \/ H0 y=AF)->Step φ0 H0 φ H->yj X.K S.cl B' φ H st->i<xs.length->J.yld i H x H'->∃v,xs[i]?=AA v/\yc X.K S.cl B' φ H' v x/\∀b o,H b=AA o->H' b=AA o
abbrev RD(B:AI->Prop):Ph->Hp->List PV->It->Prop:=λφ H=>Drw S X B φ H
def tI(c:Cit):TI:=λσ H R=>∃B φ st ρ,yj X.K S.cl B φ H st/\yo X.K S.cl B φ H ρ σ/\Run S X σ B φ H (RD S X B) (evi S.call ρ st c) R
end
section
variable {S:Se}{X:Cx}{σ:St}{B:AI->Prop}{φ φ1:Ph}{H H1:Hp}{st:SO}{ρ:IC.Env}{D:Ends}{pos p p2 px:Bd}{a b c o tg l:AM}{ca cb cc:Ce}{es:List AM}{ces:Ces}{ss:List Bb}{cs:Css}{ci:Cit}{ct:Tg}
def zfM:PE X a (tE S X .nope):=λπ s σ H Q I ⟨B,φ,st,ρ,rs,re,h⟩=>by
 erw[ev]at h;exact h.elim
def zfW{s1:Bb}:PS X s1 (tS S X .nope):=λπ s σ H D I ⟨B,φ,st,ρ,rs,re,h⟩=>by
 erw[ex]at h;exact h.elim
theorem PI.imp{t t':TI}(h:PI X tg l t')(k:∀σ H R,t σ H R->t' σ H R):PI X tg l t:=λπ s σ H R I q=>h π s σ H R I (k σ H R q)
def zfl{tl:TE}(hl:PE X l tl):PI X tg l (λσ H R=>tl σ H λx H1=>∃a,x=.ref a/\(((∃xs,SqL X.K H1 a xs)/\R (Itl X.K a) H1) \/ ((∃xs,SqT X.K H1 a xs)/\R (Itt X.K a) H1))):=by
 intro π s σ H R I h;refine thn (hl π s σ H _ I h) λv s1 kq=>?_;let⟨x,H1,I1,r1,q1⟩:=kq;let⟨a,e,q1⟩:=q1;subst e
 cases r1
 rcases q1 with⟨⟨xs,hq⟩,q⟩|⟨⟨xs,hq⟩,q⟩
 .let⟨its,rv,p,hz⟩:=I1.list hq;refine D7 p.isList ?_;refine⟨s1.heap.objs.size,[s1.heap.objs.size],_,_,H1,rfl,I1.kept (t':=s1.toks) λb o e=>AL _ e,zdJ a _,⟨_,AX _ rfl,rfl,rfl⟩,λb hb=>?_,q⟩;have e:b=s1.heap.objs.size:=by simpa using hb
  subst e;exact I1.fpOk (AS _) (I1.hok.fresh (AS _))
 .let⟨its,rv,p,hz⟩:=I1.tuple hq;refine C1 (show s1.heap.IsTuple a its.toArray from p) ?_;refine⟨s1.heap.objs.size,[s1.heap.objs.size],_,_,H1,rfl,I1.kept (t':=s1.toks) λb o e=>AL _ e,zcD a _,⟨_,AX _ rfl,rfl,rfl⟩,λb hb=>?_,q⟩;have e:b=s1.heap.objs.size:=by simpa using hb
  subst e;exact I1.fpOk (AS _) (I1.hok.fresh (AS _))
def zfA{k:Bool}{vs:List PV}{xs:List V}{y:AI}(rt:ybg X.K B φ H k y xs)(l:yd X.K S.cl B φ H vs xs):Drw S X B φ H vs (Itt X.K y):=by
 have hl:=l.length;refine⟨λφ' H' s=>⟨xs,(rt.step s).sq,by lia⟩,λi φ' H' s hi=>⟨xs,xs[i]'∅,(rt.step s).sq,by simp[show i<xs.length by lia]⟩,λi φ' H' st x H2 B' hB s rs hi q=>?_⟩;let⟨rfl,q⟩:=q;obtain⟨v,hv⟩:∃v,vs[i]?=AA v:=⟨vs[i],by simp[hi]⟩;let⟨x',hx',rv⟩:=l.get i hv;have:=q xs (rt.step s).sq;rw[this]at hx'
 cases hx'
 exact⟨v,hv,(rv.moreB hB).step s,λ_ _ e=>e⟩
def zgu{vs:List PV}{xs:List V}{y:AI}(rt:ybQ B φ H y xs)(l:yd X.K S.cl B φ H vs xs):Drw S X B φ H vs (Itl X.K y):=by
 have hl:=l.length;refine⟨λφ' H' s=>⟨xs,(rt.step s).sq,by lia⟩,λi φ' H' s hi=>⟨xs,xs[i]'∅,(rt.step s).sq,by simp[show i<xs.length by lia]⟩,λi φ' H' st x H2 B' hB s rs hi q=>?_⟩;let⟨rfl,q⟩:=q;obtain⟨v,hv⟩:∃v,vs[i]?=AA v:=⟨vs[i],by simp[hi]⟩;let⟨x',hx',rv⟩:=l.get i hv;have:=q xs (rt.step s).sq;rw[this]at hx'
 cases hx'
 exact⟨v,hv,(rv.moreB hB).step s,λ_ _ e=>e⟩
def zhn(hl:PE X l (tE S X ca)):PI X tg l (tI S X (.seq ca)):=
 (zfl hl).imp λσ H R ⟨B,φ,st,ρ,rs,re,h⟩=>by
  erw[evi]at h;refine tE.bind rs re h λx H1 v st1 φ1 s1 rs1 re1 rv h1=>?_
  cases v with
  |tp k vs=>
   erw[yc]at rv;let⟨y,xs,rfl,rt,l⟩:=rv;exact⟨y,rfl,.inr ⟨⟨xs,rt.sq⟩,h1.ok rs1 (zfA rt l)⟩⟩
  |lst vs=>
   erw[yc]at rv;let⟨y,xs,rfl,rt,l⟩:=rv;exact⟨y,rfl,.inl ⟨⟨xs,rt.sq⟩,h1.ok rs1 (zgu rt l)⟩⟩
  |_=>exact h1.elim
def zaJ:∀(n:Nat) (lo d:Int) (i:Nat),(yK n lo d)[i]?=if i<n then AA (.int (lo+i*d))else AF
 |0,lo,d,i=>by simp[yK]
 |n+1,lo,d,0=>by simp[yK]
 |n+1,lo,d,i+1=>by
  erw[yK,A4];rw[zaJ n (lo+d) d i]
  by_cases h:i<n
  .rw[if_pos h,if_pos ∅,Int.natCast_succ,Int.add_mul,Int.one_mul,Int.add_assoc,Int.add_comm d]
  .rw[if_neg h,if_neg ∅]
def zF:∀(n:Nat) (lo d:Int),(yK n lo d).length=n
 |0,lo,d=>rfl
 |n+1,lo,d=>by simp[yK,zF n]
def zdN{lo:Int}{n:Nat}:Drw S X B φ H (yK n lo 1) (Itr lo n):=by
 refine⟨λφ' H' s=>by rw[zF];exact AS _,λi φ' H' s hi=>by rw[zF]at hi;exact hi,λi φ' H' st x H2 B' hB s rs hi q=>?_⟩;rw[zF]at hi;let⟨rfl,rfl⟩:=q;refine⟨.int (lo+i),?_,by erw[yc],λ_ _ e=>e⟩;rw[zaJ,if_pos hi,G9]
def zfx{o:Option (List PV)}{st:SO}{Q:It->Hp->Prop}(h:Run S X σ B φ H (RD S X B) (toL o st) Q):∃xs,o=AA xs/\Run S X σ B φ H (RD S X B) (.ok xs st) Q:=by
 cases o with
 |none=>exact h.elim
 |some z=>exact⟨z,rfl,h⟩
def zc2(hg:Gl X "range")(hm:X.mg "range"=AF)(ha:PE X a (tE S X ca))(hs:starEach [a] X.env=[(AH,eval a X.env)]:=by rfl):PI X tg (.Call (.Name "range" p) [a] [] pos) (tI S X (.range1 ca)):=
 (zdE hg hm (zn ha zbf hs) hs).imp λσ H R ⟨B,φ,st,ρ,rs,re,h⟩=>by
  erw[evi]at h;refine tE.bind rs re h λx H1 v st1 φ1 s1 rs1 re1 rv h1=>?_;let⟨xs,e,h1⟩:=zfx h1
  cases v with
  |int j=>
   erw[ydx]at e;split at e
   .cases e
    erw[yc]at rv;subst rv;exact⟨j,rfl,by lia,by lia,h1.ok rs1 zdN⟩
   .cases e
  |_=>cases e
def zak:∀(xs:List PV) (k i:Nat),(yL k xs)[i]?=(xs[i]?).map λx=>.tup [.int ((k+i:Nat):Int),x]
 |[],k,i=>by simp[yL]
 |x::xs,k,0=>by simp[yL]
 |x::xs,k,i+1=>by
  erw[yL,A4];rw[zak xs (k+1) i];have:k+1+i=k+(i+1):=by lia
  rw[this]
def zav:∀(xs:List PV) (k:Nat),(yL k xs).length=xs.length
 |[],k=>rfl
 |x::xs,k=>by simp[yL,zav xs]
def zeM{k:Bool}{vs:List PV}{xs:List V}{y:AI}(rt:ybg X.K B φ H k y xs)(l:yd X.K S.cl B φ H vs xs):Drw S X B φ H (yL 0 vs) (Ite X.K y):=by
 have hl:=l.length;have hp:=zav vs 0;refine⟨λφ' H' s=>⟨xs,(rt.step s).sq,by lia⟩,λi φ' H' s hi=>⟨xs,xs[i]'∅,(rt.step s).sq,by simp[show i<xs.length by lia]⟩,λi φ' H' st x H2 B' hB s rs hi q=>?_⟩;let⟨T,hT,rfl,q⟩:=q;obtain⟨v,hv⟩:∃v,vs[i]?=AA v:=⟨vs[i]'∅,by simp[show i<vs.length by lia]⟩;let⟨x',hx',rv⟩:=l.get i hv;have e:=q xs x' (rt.step s).sq hx';subst e;refine⟨.tup [.int i,v],?_,.tup_new hT rs ?_,λb o e=>by rw[za (zb e hT)];exact e⟩
 .rw[zak,hv];simp
 .simp only[yd,yc];exact⟨_,_,rfl,rfl,x',[],rfl,(rv.moreB hB).step s,rfl⟩
def zf6{es:List AM}{kk:Nat}{tp:Bd}(hg:Gl X "enumerate")(hm:X.mg "enumerate"=AF)(ha:PE X a (tE S X ca))(hs:starEach [a] X.env=[(AH,eval a X.env)]:=by rfl):
  PI X (.Tuple es kk tp) (.Call (.Name "enumerate" p) [a] [] pos) (tI S X (.enum ca)):=
 (zes hg hm (zn ha zbf hs) hs).imp λσ H R ⟨B,φ,st,ρ,rs,re,h⟩=>by
  erw[evi]at h;refine tE.bind rs re h λx H1 v st1 φ1 s1 rs1 re1 rv h1=>?_
  cases v with
  |tp k vs=>
   erw[yc]at rv;let⟨y,xs,rfl,rt,l⟩:=rv;exact⟨y,rfl,⟨xs,rt.sq⟩,h1.ok rs1 (zeM rt l)⟩
  |_=>exact h1.elim
def tG(S:Se)(X:Cx)(t:Tg):TG:=λv σ H Q=>∃B φ st ρ w ρ',yj X.K S.cl B φ H st/\yo X.K S.cl B φ H ρ σ/\yc X.K S.cl B φ H w v/\yD t w ρ=AA ρ'/\∀σ',yo X.K S.cl B φ H ρ' σ'->Q σ' H
theorem PG.imp{t t':TG}(h:PG X tg t')(k:∀v σ H Q,t v σ H Q->t' v σ H Q):PG X tg t:=λπ s σ H v u Q I rv q=>h π s σ H v u Q I rv (k v σ H Q q)
def zgw{i:Nat}{x:AR}(hN:X.N.Nodup)(hi:X.N[i]?=AA x)(hx:Loc X.env.scope x)(hf:X.fn x=AC \/ X.env.scope.names.lookup x=AA .local:=by first|exact .inl rfl|exact .inr rfl|assumption):PG X (.Name x pos) (tG S X (.n i)):=
 (zbR hN hi hx hf).imp λv σ H Q ⟨B,φ,st,ρ,w,ρ',rs,re,rv,e,q⟩=>by
  cases e
  exact q _ (re.set i rv)
def gNs(l:List Nat):TGs:=λvs σ H Q=>vs.length=l.length/\Q ((l.zip vs).foldl (λσ p=>σ.set p.1 (AA p.2)) σ) H
theorem PGs.imp{es:List AM}{t t':TGs}(h:PGs X es t')(k:∀v σ H Q,t v σ H Q->t' v σ H Q):PGs X es t:=λπ s σ H vs us Q I rv q=>h π s σ H vs us Q I rv (k vs σ H Q q)
def zgx:PGs X [] (gNs []):=zg9.imp λvs σ H Q ⟨h,q⟩=>by
 cases vs with
 |nil=>exact⟨rfl,q⟩
 |cons _ _=>cases h
def zeD{es:List AM}{l:List Nat}{i:Nat}{x:AR}(hN:X.N.Nodup)(hi:X.N[i]?=AA x)(hx:Loc X.env.scope x)(h2:PGs X es (gNs l))(hf:X.fn x=AC \/ X.env.scope.names.lookup x=AA .local:=by first|exact .inl rfl|exact .inr rfl|assumption):PGs X (.Name x pos::es) (gNs (i::l)):=
 (zeH (zbR hN hi hx hf) h2).imp λvs σ H Q ⟨h,q⟩=>by
  cases vs with
  |nil=>cases h
  |cons v vs=>exact⟨v,vs,rfl,by simpa using h,q⟩
theorem yo.sets{K:AE}{cl:Nat->AI}:∀(l:List Nat) {vs:List PV} {xs:List V} {ρ:IC.Env} {σ:St},yo K cl B φ H ρ σ->yd K cl B φ H vs xs ->
  yo K cl B φ H ((l.zip vs).foldl (λρ p=>ρ.set p.1 (AA p.2)) ρ) ((l.zip xs).foldl (λσ p=>σ.set p.1 (AA p.2)) σ)
 |[],vs,xs,ρ,σ,re,l=>by simpa using re
 |i::is,[],xs,ρ,σ,re,l=>by
  erw[yd]at l;subst l;simpa using re
 |i::is,v::vs,xs,ρ,σ,re,l=>by
  erw[yd]at l;let⟨y,ys,rfl,r,l⟩:=l;erw[DY,CV];exact yo.sets is (re.set i r) l
def zik{es:List AM}{l:List Nat}{k:Nat}(hc:X.calm=AC)(h:PGs X es (gNs l))(hn:(assignEach es X.env).length=l.length:=by rfl)(hst:(assignEach es X.env).findIdx? (·.1)=none:=by rfl):PG X (.Tuple es k pos) (tG S X (.t l)):=
 (zgL hc h hn hst).imp λv σ H Q ⟨B,φ,st,ρ,w,ρ',rs,re,rv,e,q⟩=>by
  cases w with
  |tp kk vs=>
   erw[yD]at e;split at e
   .rename_i c
    cases e
    erw[yc]at rv;let⟨y,xs,rfl,rt,lr⟩:=rv;have hl:=lr.length;exact⟨y,xs,rfl,rt.sq,by lia,by lia,q _ (yo.sets l re lr)⟩
   .cases e
  |_=>cases e
def zgB{es:List AM}{l:List Nat}{k:Nat}(he:PE X a (tE S X ca))(hg:PG X (.Tuple es k p2) (tG S X (.t l)))(hs:swapsWithSole [.Tuple es k p2] a pos.line X.env=pure false:=by rfl)(hw:swappedStores [.Tuple es k p2] a X.env=pure none:=by rfl):
  PS X (.Assign [.Tuple es k p2] a pos) (tS S X (.asg (.t l) ca)):=
 (zfo he hg hs hw).imp λD σ H ⟨B,φ,st,ρ,rs,re,h⟩=>by
  erw[ex]at h;refine tE.fl rs re h λx H1 v st1 φ1 s rs1 re1 rv h1=>?_
  cases e:yD (.t l) v ρ with
  |none=>rw[e]at h1;exact h1.elim
  |some ρ'=>
   rw[e]at h1;exact⟨B,φ1,st1,ρ,v,ρ',rs1,re1,rv,e,λσ' re'=>h1 σ' H1 φ1 .rfl rs1 re'⟩
theorem tI.fl{k:List PV->SO->Fl}{P:It->Hp->Prop}(rs:yj X.K S.cl B φ H st)(re:yo X.K S.cl B φ H ρ σ)(h:yam S X B φ H ((evi S.call ρ st ci).fl ρ k) D)
  (n:∀x H1 v st1 φ1,Step φ H φ1 H1->yj X.K S.cl B φ1 H1 st1->yo X.K S.cl B φ1 H1 ρ σ->Drw S X B φ1 H1 v x->yam S X B φ1 H1 (k v st1) D->P x H1):tI S X ci σ H P:=by
 refine⟨B,φ,st,ρ,rs,re,?_⟩
 cases e:evi S.call ρ st ci with
 |ok v st'=>
  rw[e]at h;exact λx H' φ' s rs' rv=>n x H' v st' φ' s rs' (re.step s) rv (h.on s)
 |exc k st'=>
  rw[e]at h;exact λe s' x=>h σ φ H e s' .rfl re x
 |bad=>rw[e]at h;exact h
def zh5(hp:Dj (model X.prog X.w) X.A X.env X.xe)(hc:X.calm=AC)(hi:PI X tg l (tI S X ci))(hg:PG X tg (tG S X ct))(hb:PSs X ss (tSs S X cs))(hs:∀x,foldedSetIterable l X.env x=pure x:=by intro _;rfl):
  PS X (.For tg l ss [] pos) (tS S X (.for ct ci cs)):=
 (zhq hp hc hi hg hb hs).imp λD σ H ⟨B,φ,st,ρ,rs,re,h⟩=>by
  erw[ex]at h;refine tI.fl rs re h λJ H1 xs st1 φ1 s1 rs1 re1 dr h1=>?_;refine⟨λi m σ H=>∃φ st ρ,i+m=xs.length/\Step φ1 H1 φ H/\yj X.K S.cl B φ H st/\yo X.K S.cl B φ H ρ σ/\yam S X B φ H (forL ct (λρ2 st2=>exs S.call ρ2 st2 cs) (xs.drop i) ρ st) D,
   ⟨xs.length,φ1,st1,ρ,by lia,.rfl,rs1,re1,by simpa using h1⟩,?_⟩
  rintro i m σ2 H2 ⟨φ2,st2,ρ2,hm,s2,rs2,re2,h2⟩
  by_cases hi:i<xs.length
  .refine .inr ⟨dr.go i φ2 H2 s2 hi,λσ' H'=>∃φ st ρ,Step φ1 H1 φ H'/\yj X.K S.cl B φ H' st/\yo X.K S.cl B φ H' ρ σ'/\yam S X B φ H' (forL ct (λρ2 st2=>exs S.call ρ2 st2 cs) (xs.drop (i+1)) ρ st) D,
    λσ' H' ⟨φ,st,ρ,s,q⟩=>⟨m-1,by lia,φ,st,ρ,by lia,s,q⟩,λx H3 hy=>?_⟩
   let⟨v,hv,rv,kk⟩:=dr.yld i φ2 H2 st2 x H3 B (λ_ z=>.inl z) s2 rs2 hi hy;have e:xs.drop i=v::xs.drop (i+1):=by
    rw[CN hi];rw[BL hi]at hv;rw[AW hv]
   have s3:Step φ2 H2 φ2 H3:=⟨λb o _ e=>kk b o e,AS _,λ_ _ _ e=>e,λ_ h=>.inl h⟩;have rs3:yj X.K S.cl B φ2 H3 st2:=rs2.same kk;rw[e,forL]at h2
   cases eb:yD ct v ρ2 with
   |none=>rw[eb]at h2;exact h2.elim
   |some ρ3=>
    rw[eb]at h2;refine⟨B,φ2,st2,ρ2,v,ρ3,rs3,re2.step s3,rv,eb,λσ' re'=>⟨B,φ2,st2,ρ3,rs3,re',?_⟩⟩;have h3:=yam.on s3 h2;dsimp only at h3
    cases ee:exs S.call ρ3 st2 cs with
    |nx ρ4 st4=>
     rw[ee]at h3;exact λσ4 H4 φ4 s4 rs4 re4=>⟨φ4,st4,ρ4,s2.trans (s3.trans s4),rs4,re4,yam.on s4 h3⟩
    |ct ρ4 st4=>
     rw[ee]at h3;exact λσ4 H4 φ4 s4 rs4 re4=>⟨φ4,st4,ρ4,s2.trans (s3.trans s4),rs4,re4,yam.on s4 h3⟩
    |bk ρ4 st4=>rw[ee]at h3;exact h3
    |rt v4 st4=>rw[ee]at h3;exact h3
    |exc k ρ4 st4=>rw[ee]at h3;exact h3
    |bad=>rw[ee]at h3;exact h3
  .have e:i=xs.length:=by lia
   subst e;rw[Ds,forL]at h2;exact .inl ⟨dr.stop φ2 H2 s2,h2 σ2 H2 φ2 .rfl rs2 re2⟩
def zej(hp:Dj (model X.prog X.w) X.A X.env X.xe)(hc:PT X c (tTs S X cc))(hb:PSs X ss (tSs S X cs)):PS X (.While c ss [] pos) (tS S X (.while cc cs)):=
 (zeW hp hc hb).imp λD σ H ⟨B,φ,st,ρ,rs,re,h⟩=>by
  erw[ex]at h;refine⟨λm σ H=>∃φ st ρ,yj X.K S.cl B φ H st/\yo X.K S.cl B φ H ρ σ/\yam S X B φ H (yU (λρ2 st2=>ev S.call ρ2 st2 cc) (λρ2 st2=>exs S.call ρ2 st2 cs) m ρ st) D,⟨100000,φ,st,ρ,rs,re,h⟩,?_⟩
  rintro m σ2 H2 ⟨φ2,st2,ρ2,rs2,re2,h2⟩
  cases m with
  |zero=>exact h2.elim
  |succ m=>
   rw[yU]at h2;rw[flT _ λk st1=>cond k (yaa (exs S.call ρ2 st1 cs) λρ2 st2=>yU (λρ2 st2=>ev S.call ρ2 st2 cc) (λρ2 st2=>exs S.call ρ2 st2 cs) m ρ2 st2) (.nx ρ2 st1)]at h2;refine tTs.fl rs2 re2 h2 λk H3 st3 φ3 s3 rs3 re3 h3=>?_
   cases k with
   |false=>exact h3 σ2 H3 φ3 .rfl rs3 re3
   |true=>
    refine⟨λσ' H'=>∃φ st ρ,yj X.K S.cl B φ H' st/\yo X.K S.cl B φ H' ρ σ'/\yam S X B φ H' (yU (λρ2 st2=>ev S.call ρ2 st2 cc) (λρ2 st2=>exs S.call ρ2 st2 cs) m ρ st) D,
     λσ' H' q=>⟨m,by lia,q⟩,B,φ3,st3,ρ2,rs3,re3,?_⟩
    erw[cond_true]at h3
    cases ee:exs S.call ρ2 st3 cs with
    |nx ρ4 st4=>
     rw[ee]at h3;exact λσ4 H4 φ4 s4 rs4 re4=>⟨φ4,st4,ρ4,rs4,re4,yam.on s4 h3⟩
    |ct ρ4 st4=>
     rw[ee]at h3;exact λσ4 H4 φ4 s4 rs4 re4=>⟨φ4,st4,ρ4,rs4,re4,yam.on s4 h3⟩
    |bk ρ4 st4=>rw[ee]at h3;exact h3
    |rt v4 st4=>rw[ee]at h3;exact h3
    |exc k ρ4 st4=>rw[ee]at h3;exact h3
    |bad=>rw[ee]at h3;exact h3
end
section
variable (S:Se)(K:AE)
def ydZ{α β:Type}(B:AI->Prop)(φ:Ph)(H:Hp)(Rel:Ph->Hp->α->β->Prop)(r:R α)(Q:β->Hp->Prop):Prop:=
 match r with
 |.ok v st'=>∀x H' φ',Step φ H φ' H'->yj K S.cl B φ' H' st'->Rel φ' H' v x->Q x H'
 |_=>False
def tE0(c:Ce):TE:=λσ H Q=>∃B φ st ρ,yj K S.cl B φ H st/\yo K S.cl B φ H ρ σ/\ydZ S K B φ H (λφ H=>yc K S.cl B φ H) (ev S.call ρ st c) Q
def tT0(c:Ce):TT:=λσ H Q=>∃B φ st ρ,yj K S.cl B φ H st/\yo K S.cl B φ H ρ σ/\ydZ S K B φ H RB (yap (ev S.call ρ st c)) Q
def tG0(t:Tg):TG:=λv σ H Q=>∃B φ st ρ w ρ',yj K S.cl B φ H st/\yo K S.cl B φ H ρ σ/\yc K S.cl B φ H w v/\yD t w ρ=AA ρ'/\∀σ',yo K S.cl B φ H ρ' σ'->Q σ' H
end
section
variable {S:Se}{X:Cx}{K:AE}{cl:Nat->AI}{σ:St}{B:AI->Prop}{φ φ1:Ph}{H H1:Hp}{st:SO}{ρ:IC.Env}{pos p p2 px:Bd}{a b c o tg l elt iter:AM}{ca cb cc ce:Ce}{ci:Cit}{ct:Tg}
def zcO(hK:X.K=K)(h:PE X a (tE S X ca)):PE X a (tE0 S K ca):=by
 subst hK;refine h.imp λσ H Q kq=>?_;let⟨B,φ,st,ρ,rs,re,q⟩:=kq;refine ⟨B,φ,st,ρ,rs,re,?_⟩
 cases e:ev S.call ρ st ca with
 |ok v st'=>rw[e]at q;exact q
 |exc k st'=>rw[e]at q;exact q.elim
 |bad=>rw[e]at q;exact q
def zgk(hK:X.K=K)(h:PT X a (tTs S X ca)):PTs X [a] (tT0 S K ca):=by
 subst hK;refine zcX (h.imp λσ H Q kq=>?_);let⟨B,φ,st,ρ,rs,re,q⟩:=kq;refine ⟨B,φ,st,ρ,rs,re,?_⟩
 cases e:yap (ev S.call ρ st ca)with
 |ok v st'=>rw[e]at q;exact q
 |exc k st'=>rw[e]at q;exact q.elim
 |bad=>rw[e]at q;exact q
def zeT:PTs X [] (tT0 S K (.cst (.bl AC))):=λπ s σ H Q I ⟨B,φ,st,ρ,rs,re,q⟩=>by
 refine zd7 π s σ H Q I ?_;erw[ev,yap,R.bind,yae,onO]at q;exact q AC H φ .rfl rs rfl
def zcY(hK:X.K=K)(h:PG X tg (tG S X ct)):PG X tg (tG0 S K ct):=by
 subst hK;exact h
theorem ybg.skip{k:Bool}{D y:AI}{u:HO}{xs:List V}(hD:B D)(r:ybg K B φ H k y xs):ybg K B φ (L2.upd H D u) k y xs:=by
 rcases r with⟨r,b,n⟩|r
 .exact .inl ⟨by rw[za (show y≠D from λz=>b (z ▸ hD))];exact r,b,n⟩
 .exact .inr r
mutual
theorem yc.skip{D:AI}{u:HO}(hD:B D):∀(v:PV) (x:V),yc K cl B φ H v x->yc K cl B φ (L2.upd H D u) v x
 |.non,x,h=>by erw[yc]at h ⊢;exact h
 |.bl b,x,h=>by erw[yc]at h ⊢;exact h
 |.int i,x,h=>by erw[yc]at h ⊢;exact h
 |.str y,x,h=>by erw[yc]at h ⊢;exact h
 |.tp k vs,x,h=>by
  erw[yc]at h ⊢;let⟨y,xs,e,r,l⟩:=h;exact⟨y,xs,e,r.skip hD,yd.skip hD vs xs l⟩
 |.lst vs,x,h=>by
  erw[yc]at h ⊢;let⟨y,xs,e,⟨r,b,n⟩,l⟩:=h;exact⟨y,xs,e,⟨by rw[za (show y≠D from λz=>b (z ▸ hD))];exact r,b,n⟩,yd.skip hD vs xs l⟩
 |.loc n,x,h=>by erw[yc]at h ⊢;exact h
 |.fnc j,x,h=>by erw[yc]at h ⊢;exact h
 |.exn c,x,h=>by
  erw[yc]at h ⊢;let⟨y,e,r,b,n⟩:=h;exact⟨y,e,by rw[za (show y≠D from λz=>b (z ▸ hD))];exact r,b,n⟩
 |.scr vs,x,h=>by
  erw[yc]at h ⊢;let⟨y,xs,e,r,l⟩:=h;refine⟨y,xs,e,?_,yd.skip hD vs xs l⟩;rcases r with⟨r,b,n⟩|r
  .refine .inl ⟨?_,b,n⟩;have ne:y≠D:=λz=>b (z ▸ hD);rcases r with r|⟨o,r⟩
   .exact .inl (by rw[za ne];exact r)
   .exact .inr ⟨o,by rw[za ne];exact r⟩
  .exact .inr r
theorem yd.skip{D:AI}{u:HO}(hD:B D):∀(v:List PV) (x:List V),yd K cl B φ H v x->yd K cl B φ (L2.upd H D u) v x
 |[],x,h=>by erw[yd]at h ⊢;exact h
 |v::vs,x,h=>by
  erw[yd]at h ⊢;let⟨y,ys,e,r,l⟩:=h;exact⟨y,ys,e,yc.skip hD v y r,yd.skip hD vs ys l⟩
end
theorem DK.skip{D:AI}{u:HO}(hD:B D):∀{kvs:List (PV×PV)} {ks:List (Key×V)},DK K cl B φ H kvs ks->DK K cl B φ (L2.upd H D u) kvs ks
 |[],ks,h=>h
 |(k,v)::r,ks,h=>by
  let⟨q,x,t,e,m,rv,l⟩:=h;exact⟨q,x,t,e,m,rv.skip hD,DK.skip hD l⟩
theorem DT.skip{D:AI}{u:HO}(hD:B D):∀{kvs:List (PV×PV)} {ks:List (List NK×V)},DT K cl B φ H kvs ks->DT K cl B φ (L2.upd H D u) kvs ks
 |[],ks,h=>h
 |(k,v)::r,ks,h=>by
  let⟨q,x,t,e,m,rv,l⟩:=h;exact⟨q,x,t,e,m,rv.skip hD,DT.skip hD l⟩
theorem FS.skip{D:AI}{u:HO}(hD:B D):∀{kvs:List (AR×PV)} {ks:List (AR×V)},FS K cl B φ H kvs ks->FS K cl B φ (L2.upd H D u) kvs ks
 |[],ks,h=>h
 |(k,v)::r,ks,h=>by
  let⟨x,t,e,rv,l⟩:=h;exact⟨x,t,e,rv.skip hD,FS.skip hD l⟩
theorem yj.skip{D:AI}{u:HO}(hD:B D)(rs:yj K cl B φ H st):yj K cl B φ (L2.upd H D u) st:=by
 refine⟨rs.len,rs.inj,λn y e=>?_,rs.liv,rs.nb,λy h=>?_⟩
 .let⟨o,q,r⟩:=rs.obj n y e;have ne:y≠D:=λz=>rs.nb y (AV e) (z ▸ hD);refine⟨o,q,?_⟩
  cases o with
  |lst vs=>
   let⟨xs,hx,l⟩:=r;exact⟨xs,by rw[za ne];exact hx,l.skip hD⟩
  |dct t kvs=>
   cases t with
   |false=>
    let⟨xs,hx,l⟩:=r;exact⟨xs,by rw[za ne];exact hx,l.skip hD⟩
   |true=>
    let⟨xs,hx,l⟩:=r;exact⟨xs,by rw[za ne];exact hx,l.skip hD⟩
  |ins c fs=>
   let⟨ks,⟨dx,hx⟩,l⟩:=r;exact⟨ks,⟨dx,by rw[za ne];exact hx⟩,l.skip hD⟩
  |dead=>exact r.elim
 .by_cases z:y=D
  .subst z;exact⟨u,zc⟩
  .let⟨w,e⟩:=rs.dom y h;exact⟨w,by rw[za z];exact e⟩
theorem yo.skip{D:AI}{u:HO}(hD:B D)(re:yo K cl B φ H ρ σ):yo K cl B φ (L2.upd H D u) ρ σ:=⟨re.len,λi v e=>by
 let⟨x,h,q⟩:=re.get i v e;exact⟨x,h,q.skip hD⟩⟩
def Bx(B:AI->Prop)(D:AI):AI->Prop:=λy=>B y \/ y=D
def zcU{D:AI}(hn:H D=AF):∀y,Bx B D y->B y \/ H y=none:=λy z=>z.elim .inl λq=>.inr (q ▸ hn)
theorem yc.more{D:AI}(hn:H D=AF){v:PV}{x:V}(h:yc K cl B φ H v x):yc K cl (Bx B D) φ H v x:=h.moreB (zcU hn)
theorem yd.more{D:AI}(hn:H D=AF){v:List PV}{x:List V}(h:yd K cl B φ H v x):yd K cl (Bx B D) φ H v x:=h.moreB (zcU hn)
mutual
theorem yc.less{D:AI}:∀(v:PV) (x:V),yc K cl (Bx B D) φ H v x->yc K cl B φ H v x
 |.non,x,h=>by erw[yc]at h ⊢;exact h
 |.bl b,x,h=>by erw[yc]at h ⊢;exact h
 |.int i,x,h=>by erw[yc]at h ⊢;exact h
 |.str y,x,h=>by erw[yc]at h ⊢;exact h
 |.tp k vs,x,h=>by
  erw[yc]at h ⊢;let⟨y,xs,e,r,l⟩:=h;refine⟨y,xs,e,?_,yd.less vs xs l⟩;rcases r with⟨r,b,n⟩|r
  .exact .inl ⟨r,λz=>b (.inl z),n⟩
  .exact .inr r
 |.lst vs,x,h=>by
  erw[yc]at h ⊢;let⟨y,xs,e,⟨r,b,n⟩,l⟩:=h;exact⟨y,xs,e,⟨r,λz=>b (.inl z),n⟩,yd.less vs xs l⟩
 |.loc n,x,h=>by erw[yc]at h ⊢;exact h
 |.fnc j,x,h=>by erw[yc]at h ⊢;exact h
 |.exn c,x,h=>by
  erw[yc]at h ⊢;let⟨y,e,r,b,n⟩:=h;exact⟨y,e,r,λz=>b (.inl z),n⟩
 |.scr vs,x,h=>by
  erw[yc]at h ⊢;let⟨y,xs,e,r,l⟩:=h;refine⟨y,xs,e,?_,yd.less vs xs l⟩;rcases r with⟨r,b,n⟩|r
  .exact .inl ⟨r,λz=>b (.inl z),n⟩
  .exact .inr r
theorem yd.less{D:AI}:∀(v:List PV) (x:List V),yd K cl (Bx B D) φ H v x->yd K cl B φ H v x
 |[],x,h=>by erw[yd]at h ⊢;exact h
 |v::vs,x,h=>by
  erw[yd]at h ⊢;let⟨y,ys,e,r,l⟩:=h;exact⟨y,ys,e,yc.less v y r,yd.less vs ys l⟩
end
theorem DK.more{D:AI}(hn:H D=AF):∀{kvs:List (PV×PV)} {ks:List (Key×V)},DK K cl B φ H kvs ks->DK K cl (Bx B D) φ H kvs ks
 |[],ks,h=>h
 |(k,v)::r,ks,h=>by
  let⟨q,x,t,e,m,rv,l⟩:=h;exact⟨q,x,t,e,m,rv.more hn,DK.more hn l⟩
theorem DT.more{D:AI}(hn:H D=AF):∀{kvs:List (PV×PV)} {ks:List (List NK×V)},DT K cl B φ H kvs ks->DT K cl (Bx B D) φ H kvs ks
 |[],ks,h=>h
 |(k,v)::r,ks,h=>by
  let⟨q,x,t,e,m,rv,l⟩:=h;exact⟨q,x,t,e,m,rv.more hn,DT.more hn l⟩
theorem FS.more{D:AI}(hn:H D=AF):∀{kvs:List (AR×PV)} {ks:List (AR×V)},FS K cl B φ H kvs ks->FS K cl (Bx B D) φ H kvs ks
 |[],ks,h=>h
 |(k,v)::r,ks,h=>by
  let⟨x,t,e,rv,l⟩:=h;exact⟨x,t,e,rv.more hn,FS.more hn l⟩
theorem DK.less{D:AI}:∀{kvs:List (PV×PV)} {ks:List (Key×V)},DK K cl (Bx B D) φ H kvs ks->DK K cl B φ H kvs ks
 |[],ks,h=>h
 |(k,v)::r,ks,h=>by
  let⟨q,x,t,e,m,rv,l⟩:=h;exact⟨q,x,t,e,m,rv.less,DK.less l⟩
theorem DT.less{D:AI}:∀{kvs:List (PV×PV)} {ks:List (List NK×V)},DT K cl (Bx B D) φ H kvs ks->DT K cl B φ H kvs ks
 |[],ks,h=>h
 |(k,v)::r,ks,h=>by
  let⟨q,x,t,e,m,rv,l⟩:=h;exact⟨q,x,t,e,m,rv.less,DT.less l⟩
theorem FS.less{D:AI}:∀{kvs:List (AR×PV)} {ks:List (AR×V)},FS K cl (Bx B D) φ H kvs ks->FS K cl B φ H kvs ks
 |[],ks,h=>h
 |(k,v)::r,ks,h=>by
  let⟨x,t,e,rv,l⟩:=h;exact⟨x,t,e,rv.less,FS.less l⟩
theorem yj.less{D:AI}(rs:yj K cl (Bx B D) φ H st):yj K cl B φ H st:=by
 refine⟨rs.len,rs.inj,λn y e=>?_,rs.liv,λy h z=>rs.nb y h (.inl z),λy h=>rs.dom y (.inl h)⟩;let⟨o,q,r⟩:=rs.obj n y e;refine⟨o,q,?_⟩
 cases o with
 |lst vs=>let⟨xs,hx,l⟩:=r;exact⟨xs,hx,l.less⟩
 |dct t kvs=>cases t<;>(let⟨xs,hx,l⟩:=r;exact⟨xs,hx,l.less⟩)
 |ins c fs=>let⟨ks,hx,l⟩:=r;exact⟨ks,hx,l.less⟩
 |dead=>exact r.elim
theorem yj.more{D:AI}{u:HO}(hn:H D=AF)(rs:yj K cl B φ H st):yj K cl (Bx B D) φ (L2.upd H D u) st:=by
 have nD:AA D∉φ:=λz=>by
  let⟨w,e⟩:=rs.there z;rw[hn]at e;cases e
 have s:Step φ H φ (L2.upd H D u):=.upd hn;have rs':=rs.upd (o:=u) hn;refine⟨rs.len,rs.inj,λn y e=>?_,rs.liv,λy h z=>z.elim (rs.nb y h) λq=>nD (q ▸ h),λy h=>?_⟩
 .let⟨o,q,r⟩:=rs.obj n y e;have ne:y≠D:=λz=>nD (z ▸ AV e);have hD:Bx B D D:=.inr rfl;refine⟨o,q,?_⟩
  cases o with
  |lst vs=>let⟨xs,hx,l⟩:=r;exact⟨xs,by rw[za ne];exact hx,(l.more hn).skip hD⟩
  |dct t kvs=>
   cases t with
   |false=>let⟨xs,hx,l⟩:=r;exact⟨xs,by rw[za ne];exact hx,(l.more hn).skip hD⟩
   |true=>let⟨xs,hx,l⟩:=r;exact⟨xs,by rw[za ne];exact hx,(l.more hn).skip hD⟩
  |ins c fs=>let⟨ks,⟨dx,hx⟩,l⟩:=r;exact⟨ks,⟨dx,by rw[za ne];exact hx⟩,(l.more hn).skip hD⟩
  |dead=>exact r.elim
 .rcases h with h|h
  .exact rs'.dom y h
  .subst h;exact⟨u,zc⟩
theorem yo.more{D:AI}{u:HO}(hn:H D=AF)(re:yo K cl B φ H ρ σ):yo K cl (Bx B D) φ (L2.upd H D u) ρ σ:=⟨re.len,λi v e=>by
 let⟨x,h,q⟩:=re.get i v e;exact⟨x,h,(q.more hn).skip (.inr rfl)⟩⟩
def yH:Tg->List (Option Nat)->Bool
 |.n i,sl=>decide (sl[i]?=AA AF)
 |.t l,sl=>l.all λi=>decide (sl[i]?=AA AF)
def zcb:∀(l:List Nat) (vs:List PV) (ρ:IC.Env) (j:Nat),j∉l->((l.zip vs).foldl (λρ p=>ρ.set p.1 (AA p.2)) ρ)[j]?=ρ[j]?
 |[],vs,ρ,j,h=>by simp
 |i::is,[],ρ,j,h=>by simp
 |i::is,v::vs,ρ,j,h=>by
  erw[DY,CV];rw[zcb is vs _ j λz=>h (AZ _ z),An]
  rintro rfl
  exact h Ai
def zck:∀(l:List Nat) (vs:List PV) (ρ:IC.Env),((l.zip vs).foldl (λρ p=>ρ.set p.1 (AA p.2)) ρ).length=ρ.length
 |[],vs,ρ=>by simp
 |i::is,[],ρ=>by simp
 |i::is,v::vs,ρ=>by
  erw[DY,CV];rw[zck is vs,BE]
theorem yo.untgt{sl:List (Option Nat)}{ρ0 ρ1:IC.Env}{v:PV}(hf:yH ct sl=AC)(h0:∀(i:Nat),sl[i]?=AA AF->ρ0[i]?=AA AF)(hb:yD ct v ρ0=AA ρ1)(re:yo K cl B φ H ρ1 σ):yo K cl B φ H ρ0 σ:=by
 cases ct with
 |n i=>
  cases hb
  erw[yH,decide_eq_true_eq]at hf;refine⟨by rw[<-re.len,BE],λj w e=>re.get j w ?_⟩;rw[An]
  .exact e
  .rintro rfl
   rw[h0 _ hf]at e;cases e
 |t l=>
  cases v with
  |tp k vs=>
   erw[yD]at hb;split at hb
   .cases hb
    erw[yH,BZ,decide_eq_true_eq]at hf;refine⟨by rw[<-re.len,zck],λj w e=>re.get j w ?_⟩;rw[zcb]
    .exact e
    .intro z;rw[h0 _ (hf j z)]at e;cases e
   .cases hb
  |_=>cases hb
theorem yo.inn{sl:List (Option Nat)}(re:yo K cl B φ H ρ σ):yo K cl B φ H (sl.map λo=>o.bind λj=>(ρ[j]?).join) (L2.inn sl σ):=by
 unfold L2.inn;refine⟨by simp,λi v e=>?_⟩;rw[BA]at e ⊢
 cases q:sl[i]? with
 |none=>rw[q]at e;cases e
 |some o=>
  rw[q]at e
  cases o with
  |none=>cases e
  |some j=>
   erw[CW,Be,Option.some.injEq]at e ⊢
   cases q2:ρ[j]? with
   |none=>rw[q2]at e;cases e
   |some w=>
    rw[q2]at e;erw[Option.join_some]at e;subst e;let⟨x,hx,rv⟩:=re.get j v q2;exact⟨x,by rw[hx];rfl,rv⟩
def zet:1000000<sizeLine:=by rw[Av];decide
def zh4{α:Type}{o:Option Bool}{k:Bool->R α}{z:α}{s:SO}(h:onO o k=.ok z s):∃b,o=AA b/\k b=.ok z s:=by
 cases o with
 |none=>cases h
 |some b=>exact⟨b,rfl,h⟩
def zl{α β:Type}{r:R α}{k:α->SO->R β}{z:β}{s:SO}(h:r.bind k=.ok z s):∃a s1,r=.ok a s1/\k a s1=.ok z s:=by
 cases r with
 |ok a s1=>exact⟨a,s1,rfl,h⟩
 |exc c s=>cases h
 |bad=>cases h
def za9{sl:List (Option Nat)}(hf:yH ct sl=AC){H:Hp}{Q:VK}(h:tE S X (.comp sl ct ci cc ce) σ H Q):ybb sl (tI S X ci) (tG0 S X.K ct) (tT0 S X.K cc) (tE0 S X.K ce) σ H Q:=by
  let⟨B,φ,st,ρ,rs,re,h⟩:=h;erw[ev]at h;refine⟨B,φ,st,ρ,rs,re,(Run.bind h).mono λJ H1 kq=>?_⟩;let⟨xs,st1,φ1,s1,rs1,dr,h1⟩:=kq;refine λD hD=>?_
  generalize hone:(λ(x:PV) (st2:SO)=>match yD ct x (sl.map λo=>o.bind λj=>(ρ[j]?).join)with
   |none=>(R.bad:R (Option PV))
   |some ρ1=>(ev S.call ρ1 st2 cc).bind λb st3=>onO (yae st3 b) λk=>cond k ((ev S.call ρ1 st3 ce).bind λy st4=>.ok (AA y) st4) (.ok AF st3))=one at h1
  cases e:yaw one xs st1 with
  |exc k s=>rw[e]at h1;exact h1.elim
  |bad=>rw[e]at h1;exact h1.elim
  |ok zs st5=>
   rw[e]at h1;erw[ybv]at h1;split at h1
   case isFalse=>exact h1.elim
   rename_i hz;have nB:¬B D:=rs1.nB hD;have nD:AA D∉φ1:=λz=>by
    let⟨w,e⟩:=rs1.there z;rw[hD]at e;cases e
   refine⟨λi m σc ys H2=>∃φ2 st2 vs rest,i+m=xs.length/\Step φ1 H1 φ2 H2/\H2 D=AA (.lst ys)/\AA D∉φ2/\yj X.K S.cl (Bx B D) φ2 H2 st2/\yo X.K S.cl (Bx B D) φ2 H2 (sl.map λo=>o.bind λj=>(ρ[j]?).join) σc /\
     yd X.K S.cl (Bx B D) φ2 H2 vs ys/\yaw one (xs.drop i) st2=.ok rest st5/\vs++rest=zs,
    ⟨xs.length,φ1,st1,[],zs,by lia,.upd hD,zc,nD,rs1.more hD,(yo.inn (re.step s1)).more hD,by erw[yd],by simpa using e,rfl⟩,?_⟩
   rintro i m σc ys H2 ⟨φ2,st2,vs,rest,hm,s2,hD2,nD2,rs2,re2,l2,ec,ez⟩
   refine⟨hD2,?_⟩
   by_cases hi:i<xs.length
   .have hl2:=l2.length;have hml:=zet;have hzl:=congrArg B4 ez;rw[BX]at hzl;refine .inr ⟨dr.go i φ2 H2 s2 hi,by lia,λσ' ys' H'=>∃φ2 st2 vs rest,Step φ1 H1 φ2 H'/\H' D=AA (.lst ys')/\AA D∉φ2/\yj X.K S.cl (Bx B D) φ2 H' st2/\yo X.K S.cl (Bx B D) φ2 H' (sl.map λo=>o.bind λj=>(ρ[j]?).join) σ' /\
     yd X.K S.cl (Bx B D) φ2 H' vs ys'/\yaw one (xs.drop (i+1)) st2=.ok rest st5/\vs++rest=zs,λσ' ys' H' ⟨φ2,st2,vs,rest,q⟩=>⟨m-1,by lia,φ2,st2,vs,rest,by lia,q⟩,λx H3 hy=>?_⟩
    let⟨v,hv,rv,kk⟩:=dr.yld i φ2 H2 st2 x H3 (Bx B D) (λy z=>z.elim .inl λq=>.inr (q ▸ hD)) s2 rs2 hi hy;have s3:Step φ2 H2 φ2 H3:=⟨λb o _ e=>kk b o e,AS _,λ_ _ _ e=>e,λ_ h=>.inl h⟩;have rs3:yj X.K S.cl (Bx B D) φ2 H3 st2:=rs2.same kk;have ed:xs.drop i=v::xs.drop (i+1):=by
     rw[CN hi];rw[BL hi]at hv;rw[AW hv]
    rw[ed,yaw]at ec;let⟨o,st3,e1,ec⟩:=zl ec;let⟨rest',st4,e2,ec⟩:=zl ec;rw[<-hone]at e1;dsimp only at e1
    cases eb:yD ct v (sl.map λo=>o.bind λj=>(ρ[j]?).join)with
    |none=>rw[eb]at e1;cases e1
    |some ρ1=>
     rw[eb]at e1;dsimp only at e1;let⟨bv,st6,e3,e1⟩:=zl e1;let⟨k,e4,e1⟩:=zh4 e1;have er:st4=st5/\yaA o rest'=rest:=by
      injection ec with q1 q2;exact⟨q2,q1⟩
     let⟨rfl,rfl⟩:=er;refine⟨Bx B D,φ2,st2,_,v,ρ1,rs3,re2.step s3,rv,eb,λσ4 re4=>⟨Bx B D,φ2,st2,ρ1,rs3,re4,?_⟩⟩;have et:yap (ev S.call ρ1 st2 cc)=.ok k st6:=by
      rw[e3];erw[yap,R.bind,e4,onO]
     rw[et]
     rintro k' H5 φ5 s5 rs5 rfl
     have nD5:AA D∉φ5:=λz=>by
      rcases s5.new D z with q|q
      .exact nD2 q
      .rw[kk D _ hD2]at q;cases q
     have hD5:H5 D=AA (.lst ys):=s5.keep D _ nD2 (kk D _ hD2);have s25:Step φ1 H1 φ5 H5:=s2.trans (s3.trans s5);have l5:=(l2.step s3).step s5;have re5:yo X.K S.cl (Bx B D) φ5 H5 ρ1 σ4:=re4.step s5;have h0:∀(i:Nat),sl[i]?=AA AF->(sl.map λo=>o.bind λj=>(ρ[j]?).join)[i]?=AA none:=λi q=>by
      rw[BA,q];rfl
     cases k with
     |false=>
      erw[cond_false]at e1
      cases e1
      exact⟨φ5,_,vs,rest',s25,hD5,nD5,rs5,yo.untgt hf h0 eb re5,l5,e2,ez⟩
     |true=>
      erw[cond_true]at e1;let⟨y,st7,e5,e1⟩:=zl e1
      cases e1
      refine⟨Bx B D,φ5,st6,ρ1,rs5,re5,?_⟩;rw[e5];intro y' H6 φ6 s6 rs6 ry;have nD6:AA D∉φ6:=λz=>by
       rcases s6.new D z with q|q
       .exact nD5 q
       .rw[hD5]at q;cases q
      have hD6:H6 D=AA (.lst ys):=s6.keep D _ nD5 hD5;have hBD:Bx B D D:=.inr rfl;refine⟨hD6,φ6,_,vs++[y],rest',?_,zc,nD6,rs6.skip hBD,(yo.untgt hf h0 eb (re5.step s6)).skip hBD,((l5.step s6).append (by erw[yd];exact⟨y',[],rfl,ry,rfl⟩)).skip hBD,e2,?_⟩
      .have s16:=s25.trans s6;exact⟨λb o n q=>by rw[za (zb q hD)];exact s16.keep b o n q,s16.len,s16.pre,s16.new⟩
      .simpa [yaA] using ez
   .have ei:i=xs.length:=by lia
    subst ei;rw[Ds,yaw]at ec
    cases ec
    refine .inl ⟨dr.stop φ2 H2 s2,h1 (.ref D) H2 φ2 s2 rs2.less ?_⟩;erw[yc];exact⟨D,ys,rfl,⟨hD2,nB,nD2⟩,by rw[<-ez,DA];exact l2.less⟩
def zfJ{sc:BB}{NC:List AR}{sl:List (Option Nat)}{ifs:List AM}(hc:X.calm=AC)(O:yC X sc NC sl)(hf:yH ct sl=AC)(hi:PI X tg iter (tI S X ci))(hg:∀j,PG (cxC X sc NC j) tg (tG0 S X.K ct))
  (ht:∀j,PTs (cxC X sc NC j) ifs (tT0 S X.K cc)) (he:∀j,PE (cxC X sc NC j) elt (tE0 S X.K ce)) (hs:∀x,foldedSetIterable iter X.env x=pure x:=by intro _;rfl):
  PE X (.ListComp elt [⟨tg,iter,ifs,0⟩] sc pos) (tE S X (.comp sl ct ci cc ce)):=
 (zb0 hc O hi hg ht he hs).imp λσ H Q h=>za9 hf h
def zfq{sc:BB}{NC:List AR}{sl:List (Option Nat)}{ifs:List AM}{i:Nat}{x:AR}{spos:Bd}(hN:X.N.Nodup)(hix:X.N[i]?=AA x)(hx:Loc X.env.scope x)(hc:X.calm=AC)(O:yC X sc NC sl)(hf:yH ct sl=AC)(hi:PI X tg iter (tI S X ci))(hg:∀j,PG (cxC X sc NC j) tg (tG0 S X.K ct))
  (ht:∀j,PTs (cxC X sc NC j) ifs (tT0 S X.K cc)) (he:∀j,PE (cxC X sc NC j) elt (tE0 S X.K ce))
  (hsw:swapsWith (.ListComp elt [⟨tg,iter,ifs,0⟩] sc pos) (AA (.Name x px)) spos.line X.env=pure true:=by rfl) (hs:∀x,foldedSetIterable iter X.env x=pure x:=by intro _;rfl)
  (hfn:X.fn x=AC \/ X.env.scope.names.lookup x=AA .local:=by first|exact .inl rfl|exact .inr rfl|assumption):PS X (.Assign [.Name x px] (.ListComp elt [⟨tg,iter,ifs,0⟩] sc pos) spos) (tS S X (.asg (.n i) (.comp sl ct ci cc ce))):=
 (zgy hN hix hx hc O hi hg ht he hsw hs hfn).imp λD σ H ⟨B,φ,st,ρ,rs,re,h⟩=>by
  refine za9 hf ?_;erw[ex]at h;exact tE.fl rs re h λx H1 v st1 φ1 s rs1 re1 rv h1=>h1 _ H1 φ1 .rfl rs1 (re1.set i rv)
end
end L2
namespace IC
open PySem
def RLe{α:Type}(r q:R α):Prop:=r=.bad \/ r=q
def FLe(f g:Fl):Prop:=f=.bad \/ f=g
abbrev Cl:=Nat->List PV->SO->R PV
theorem RLe.rfl{α:Type}{r:R α}:RLe r r:=.inr (Fc _)
theorem FLe.rfl{f:Fl}:FLe f f:=.inr (Fc _)
theorem RLe.bind{α β:Type}{r q:R α}{k l:α->SO->R β}(h:RLe r q)(hk:∀a s,RLe (k a s) (l a s)):RLe (r.bind k) (q.bind l):=by
 rcases h with h|h
 .subst h;exact .inl (Fc _)
 .subst h
  cases r with
  |ok a s=>exact hk a s
  |exc c s=>exact .rfl
  |bad=>exact .rfl
theorem RLe.comp{r q:R (List PV)}(h:RLe r q):RLe (ybv r) (ybv q):=by
 rcases h with h|h
 .subst h;exact .inl (Fc _)
 .subst h;exact .rfl
end IC
namespace L2
open PySem PySem.Spec PyProof.Rows IC
def spI(K:AE)(cl:Nat->AI)(call:Nat->List PV->SO->R PV)(f:Nat):Sp:=λvs H Q E=>∃B φ st args,yj K cl B φ H st/\yd K cl B φ H args vs/\match call f args st with
 |.ok v st'=>∀x H' φ',Step φ H φ' H'->yj K cl B φ' H' st'->yc K cl B φ' H' v x->Q x H'
 |.exc c st'=>∀H' φ',Step φ H φ' H'->yj K cl B φ' H' st'->E (.ref (cl c)) AF H'
 |.bad=>False
section
variable {S:Se}{X:Cx}{k:Nat}{f:AI}{fd:Af}{ps ks:List AR}{sp:Sp}{dvs:List V}{ds:List AD}{x:AR}{p pos:Bd}{e:AM}{es:List AM}{t tk:TA}{CX:CXT}{σ:St}{H:Hp}
def zdw{π:List (AI×B6)}{s:AG}{Q:VK}{us:List AD}{vs:List V}{E:XK}(F:yau X.prog X.w X.K X.mg X.base CX k f fd ps sp)(hr:yao k X.A)(hb:Binds X.K fd ps ds)(hd:Vals dvs ds)
  (I:Inv X π σ H s) (r:Vals vs us) (h:sp (vs++dvs) H Q E) (hx:∀e s',CX X.stack H s E e s'->X.xe e s'):AN (model X.prog X.w) X.A (call (.ref f) us) (EP X π σ Q) X.xe s:=by
 have r2:Vals (vs++dvs) (us++ds):=r.append hd;have hl:(us++ds).length=ps.length:=by rw[<-r2.length];exact F.len _ _ _ _ h
 refine wpAny_call (EF (F.run X.A X.stack s H ⟨us,[]⟩ (us++ds) (vs++dvs) Q E hr I.env0 (hb s us I.kIn hl) r2 h) λr s' hq=>?_)
 cases r with
 |error e=>exact hx e s' hq
 |ok fl=>
  cases fl with
  |ret u=>exact I.after hq
  |next=>exact BY hq
  |brk=>exact BY hq
  |cont=>exact BY hq
def ybA(CX:CXT)(X:Cx)(sp:Sp)(dvs:List V)(t:TA):TE:=λσ H Q=>t σ H λvs H1=>∃E:XK,sp (vs++dvs) H1 Q E/\∀π s e s',Inv X π σ H1 s->CX X.stack H1 s E e s'->X.xe e s'
def zeo(F:yau X.prog X.w X.K X.mg X.base CX k f fd ps sp)(hr:yao k X.A)(hg:Gl X x)(hm:X.mg x=AA (.ref f))(hk:Aa X.K (.ref f)=AC)(hb:Binds X.K fd ps ds)(hd:Vals dvs ds)
  (ha:PA X (e::es) t) (hdb:(x==("__debug__":AR))=false:=by decide) (he:starEach (e::es) X.env=(AH,eval e X.env)::starEach es X.env:=by rfl) (hpl:(backTo pos (starEach es X.env)).any (·.1)=false:=by rfl):
  PE X (.Call (.Name x p) (e::es) [] pos) (ybA CX X sp dvs t):=by
 intro π s σ H Q I h;refine Bg (za3 I hg hm ?_ hdb);refine PySem.W.callWith_K (h₀:=X.base) I.ok.mod.kin hk (thn (ha pos π s σ H _ I h) λus s1 kq=>?_) he hpl;let⟨vs,H1,I1,r,E,q,hx⟩:=kq;refine ⟨I1.kIn,?_⟩;exact zdw F hr hb hd I1 r q λe s' c=>hx π s1 e s' I1 c
def zdI(F:yau X.prog X.w X.K X.mg X.base CX k f fd ps sp)(hr:yao k X.A)(hg:Gl X x)(hm:X.mg x=AA (.ref f))(hk:Aa X.K (.ref f)=AC)(hb:Binds X.K fd ps ds)(hd:Vals dvs ds)
  (hdb:(x==("__debug__":AR))=false:=by decide):PE X (.Call (.Name x p) [] [] pos) (ybA CX X sp dvs ycU):=by
 intro π s σ H Q I h;let⟨E,q,hx⟩:=h;refine Bg (za3 I hg hm ?_ hdb);exact PySem.W.callWith_K0 I.kIn hk (zdw F hr hb hd I .nil q λe s' c=>hx π s e s' I c)
variable {B:AI->Prop}{φ:Ph}{st:SO}{ces:Ces}{fi:Nat}
def zar{vs:List PV}{xs:List V}{Q:VK}(rs:yj X.K S.cl B φ H st)(l:yd X.K S.cl B φ H vs xs)(h:Run S X σ B φ H (RV S X B) (S.call fi vs st) Q):
  ∃E:XK,spI X.K S.cl S.call fi xs H Q E/\∀π s e s',Inv X π σ H s->CX1 X.prog X.w X.stack H s E e s'->X.xe e s':=by
 cases c:S.call fi vs st with
 |ok v st'=>
  rw[c]at h;refine⟨λ_ _ _=>False,⟨B,φ,st,vs,rs,l,by rw[c];exact h⟩,λπ s e s' _ z=>?_⟩;let⟨_,_,_,_,_,_,_,_,_,_,_,_,_,_,z⟩:=z;exact z.elim
 |exc k st'=>
  rw[c]at h;refine⟨λcls _ H'=>cls=.ref (S.cl k)/\∃φ',Step φ H φ' H'/\yj X.K S.cl B φ' H' st',⟨B,φ,st,vs,rs,l,by rw[c];exact λH' φ' s r=>⟨rfl,φ',s,r⟩⟩,λπ s e s' I z=>h e s' (.inl ⟨π,H,s,φ,I,.rfl,z⟩)⟩
 |bad=>rw[c]at h;exact h.elim
def zgD(F:yau X.prog X.w X.K X.mg X.base (CX1 X.prog X.w) k f fd ps (spI X.K S.cl S.call fi))(hr:yao k X.A)(hg:Gl X x)(hm:X.mg x=AA (.ref f))(hk:Aa X.K (.ref f)=AC)(hb:Binds X.K fd ps [])
  (ha:PA X (e::es) (tAs S X ces)) (hdb:(x==("__debug__":AR))=false:=by decide) (he:starEach (e::es) X.env=(AH,eval e X.env)::starEach es X.env:=by rfl) (hpl:(backTo pos (starEach es X.env)).any (·.1)=false:=by rfl):
  PE X (.Call (.Name x p) (e::es) [] pos) (tE S X (.call fi ces)):=
 (zeo F hr hg hm hk hb .nil ha hdb he hpl).imp λσ H Q ⟨B,φ,st,ρ,rs,re,h⟩=>by
  erw[ev]at h;refine tAs.bind rs re h λxs H1 vs st1 φ1 s1 rs1 re1 rv h1=>?_;rw[DA];exact zar rs1 rv h1
def zeL(F:yau X.prog X.w X.K X.mg X.base (CX1 X.prog X.w) k f fd ps (spI X.K S.cl S.call fi))(hr:yao k X.A)(hg:Gl X x)(hm:X.mg x=AA (.ref f))(hk:Aa X.K (.ref f)=AC)(hb:Binds X.K fd ps [])
  (hdb:(x==("__debug__":AR))=false:=by decide):PE X (.Call (.Name x p) [] [] pos) (tE S X (.call fi .nil)):=
 (zdI F hr hg hm hk hb .nil hdb).imp λσ H Q ⟨B,φ,st,ρ,rs,re,h⟩=>by
  erw[ev,evs,R.bind]at h;exact zar rs (by erw[yd];rfl) h
end
section
variable {P:AT}{w:A3}{K:AE}{mg:AR->Option AD}{base:Ah}{cl:Nat->AI}{T:Nat->Option IC.Fn}{fi:Nat}{fn:IC.Fn}{x qual:AR}{stm:Bb}{f:AI}{fd:Af}{N ps:List AR}{k:Nat}
theorem CX1.mono{outer:List Az}{H:Hp}{s:AG}{E E':XK}{e:AD}{s':AG}(h:CX1 P w outer H s E e s')(n:∀cls H',E cls AF H'->E' cls AF H'):CX1 P w outer H s E' e s':=by
 let⟨a,cls,a0,H',Bh,r1,r2,r3,r4,r5,r6,r7,r8,r9,r10⟩:=h;exact⟨a,cls,a0,H',Bh,r1,r2,r3,r4,r5,r6,r7,r8,r9,n _ _ r10⟩
theorem yo.start{B:AI->Prop}{φ:Ph}{H:Hp}{args:List PV}{vs:List V}(l:yd K cl B φ H args vs)(n:Nat)(hn:N.length-vs.length=n):yo K cl B φ H (args.map AA++Aj n AF) (L2.start N vs):=by
 have hl:=l.length;unfold L2.start;refine⟨by simp[hl,hn],λi v e=>?_⟩
 by_cases hi:i<args.length
 .rw[A7 (by simpa using hi),BA]at e
  cases q:args[i]? with
  |none=>rw[q]at e;cases e
  |some v'=>
   rw[q]at e
   cases e
   let⟨y,hy,rv⟩:=l.get i q;exact⟨y,by rw[A7 (by simp;lia),BA,hy];rfl,rv⟩
 .rw[Ab (by simp;lia),Do]at e;split at e<;>cases e
theorem leave{N:List AR}{scope:BB}{cd:AD}{A:A5}{outer:List Az}{s₀:AG}{H₀:Hp}{E:XK}{call:Nat->List PV->SO->R PV}{σ:St}{B:AI->Prop}{φ:Ph}{H:Hp}{c:Nat}{st':SO}{e:AD}{s':AG}
  (h:ExcAt ⟨cl,call,AC⟩ (yag (CX1 P w) P w K mg base N qual scope f cd A outer s₀ H₀ E) σ B φ H c st' e s') (n:∀φ' H',Step φ H φ' H'->yj K cl B φ' H' st'->E (.ref (cl c)) AF H'):
  (yag (CX1 P w) P w K mg base N qual scope f cd A outer s₀ H₀ E).xe e s':=by
 rcases h with⟨π,H1,s,φ1,I,s1,q⟩|⟨_,π,H1,s,φ1,h',e0,vs,I,s1,rs,mk,rfl,rfl⟩|⟨_,π,H1,s,I,q⟩
 .exact zhS π σ H1 s e s' I (q.mono λcls H' ⟨e1,φ',s2,r⟩=>by subst e1;exact n φ' H' (s1.trans s2) r)
 .exact zdK I mk (n φ1 H1 s1 rs)
 .exact zii I (q.mono λcls H' ⟨e1,φ',s2,r⟩=>by subst e1;exact n φ' H' s2 r)
def zdZ(hT:T fi=AA fn):∀(args:List PV) (st:SO),yg T (k+1) fi args st ≠ .bad->args.length=fn.np:=λargs st hne=>by
 apply Classical.byContradiction;intro c;apply hne;rw[yg,hT];exact if_neg c
def zfn(hT:T fi=AA fn)(hnp:ps.length=fn.np){vs:List V}{H:Hp}{Q:VK}{E:XK}(h:spI K cl (yg T (k+1)) fi vs H Q E):vs.length=ps.length:=by
 let⟨B,φ,st,args,rs,l,h⟩:=h;rw[hnp,<-l.length];refine zdZ (k:=k) hT args st λz=>?_;rw[z]at h;exact h
def zf1(hT:T fi=AA fn)(hns:N.length=fn.ns){scope:BB}{cdv:AD}{A:A5}{outer:List Az}{s:AG}{vs:List V}{H:Hp}{Q:VK}{E:XK}(h:spI K cl (yg T (k+1)) fi vs H Q E):
  tSs ⟨cl,yg T k,AC⟩ (yag (CX1 P w) P w K mg base N qual scope f cdv A outer s H E) fn.body {nx:=λ_ H'=>Q .non H',rt:=Q} (L2.start N vs) H:=by
 let⟨B,φ,st,args,rs,l,h⟩:=h;have hl:args.length=fn.np:=zdZ (k:=k) hT args st λz=>by rw[z]at h;exact h
 have hlen:=l.length;rw[yg,hT]at h;dsimp only at h;rw[if_pos hl]at h
 by_cases hp:fn.pure=AC
 .rw[if_pos hp]at h
  by_cases hz:nLs args=AC
  .rw[if_pos hz]at h;have rs0:yj K cl (λa=>B a \/ AA a∈φ) [] H []:=⟨rfl,λm n a e=>by simp at e,λn a e=>by simp at e,λn o e=>by simp at e,λa z=>by simp at z,λa z=>z.elim (rs.dom a) rs.there⟩;have back:∀{φ':Ph} {H':Hp},Step [] H φ' H'->Step φ H φ H'/\yj K cl B φ H' st:=λ{φ' H'} s'=>
    have kk:∀b o,H b=AA o->H' b=AA o:=λb o e=>s'.keep b o (by simp) e
    ⟨⟨λb o _ e=>kk b o e,AS _,λ_ _ _ e=>e,λ_ h=>.inl h⟩,rs.same kk⟩
   refine⟨_,[],[],_,rs0,yo.start (yd.inn rs.nb args vs hz l) (fn.ns-fn.np) ∅,?_⟩;show yam _ _ _ _ _ (exs (yg T k) (args.map AA++Aj (fn.ns-fn.np) AF) [] fn.body) _
   cases e:exs (yg T k) (args.map AA++Aj (fn.ns-fn.np) AF) [] fn.body with
   |nx ρ' st'=>
    rw[e]at h;intro σ' H' φ' s' rs' re';let⟨s2,r2⟩:=back s';exact h .non H' φ s2 r2 (by erw[yc])
   |rt v st'=>
    rw[e]at h;dsimp only at h
    by_cases hv:nL v=AC
    .rw[if_pos hv]at h;intro y H' φ' s' rs' rv;let⟨s2,r2⟩:=back s';exact h y H' φ s2 r2 (yc.out v y hv rv)
    .rw[if_neg hv]at h;exact h.elim
   |exc c ρ' st'=>
    rw[e]at h;intro σ' φ1 H1 ev s' s1 _ ex;refine leave ex λφ2 H2 s2 _=>?_;let⟨s3,r3⟩:=back (s1.trans s2);exact h H2 φ s3 r3
   |bk ρ' st'=>rw[e]at h;exact h.elim
   |ct ρ' st'=>rw[e]at h;exact h.elim
   |bad=>rw[e]at h;exact h.elim
  .rw[if_neg hz]at h;exact h.elim
 .rw[if_neg hp]at h;refine⟨B,φ,st,_,rs,yo.start l (fn.ns-fn.np) ∅,?_⟩;show yam _ _ _ _ _ (exs (yg T k) (args.map AA++Aj (fn.ns-fn.np) AF) st fn.body) _
  cases e:exs (yg T k) (args.map AA++Aj (fn.ns-fn.np) AF) st fn.body with
  |nx ρ' st'=>
   rw[e]at h;intro σ' H' φ' s' rs' re';exact h .non H' φ' s' rs' (by erw[yc])
  |rt v st'=>
   rw[e]at h;intro y H' φ' s' rs' rv;exact h y H' φ' s' rs' rv
  |exc c ρ' st'=>
   rw[e]at h;intro σ' φ1 H1 ev s' s1 _ ex;exact leave ex λφ2 H2 s2 r2=>h H2 φ2 (s1.trans s2) r2
  |bk ρ' st'=>rw[e]at h;exact h.elim
  |ct ρ' st'=>rw[e]at h;exact h.elim
  |bad=>rw[e]at h;exact h.elim
end
def tyN:Ty->String
 |.int=>"int" | .bool=>"bool" | .str=>"str" | .tuple=>"tuple" | .list=>"list" | _=>""
structure ydG(K:AE)(t:Ty):Prop where
 n:As K (.type "NoneType") (.type (tyN t))=AA (yaE .non t)
 b:As K (.type "bool") (.type (tyN t))=AA (yaE (.bl AC) t)
 i:As K (.type "int") (.type (tyN t))=AA (yaE (.int 0) t)
 s:As K (.type "str") (.type (tyN t))=AA (yaE (.str FR) t)
 p:As K (.type "tuple") (.type (tyN t))=AA (yaE (.tp AC []) t)
 l:As K (.type "list") (.type (tyN t))=AA (yaE (.lst []) t)
section
variable {S:Se}{X:Cx}{σ:St}{B:AI->Prop}{φ:Ph}{H:Hp}{st:SO}{p pos p2 px:Bd}{a b c d o:AM}{ca cb cc:Ce}{t:Ty}
def yfu(S:Se)(X:Cx)(t:Ty):List V->Hp->VK->Prop:=λxs H Q=>∃B φ st v x z,xs=[x,.ty (tyN t)]/\yj X.K S.cl B φ H st/\yc X.K S.cl B φ H v x/\ybk v [t]=AA z/\ycr t=AC /\
 ∀z' H' φ',Step φ H φ' H'->yj X.K S.cl B φ' H' st->yc X.K S.cl B φ' H' z z'->Q z' H'
def zhl(Z:ydG X.K t):yM X (.builtin "isinstance") (yfu S X t):=by
 rintro π s σ H xs us Q I r ⟨B,φ,st,v,x,z,rfl,rs,rv,e,hb,q⟩
 let⟨u,c',rfl,ru,rc⟩:=vals2 r
 cases (show c'=Fd (tyN t)from rc)
 have fin:∀(k:Bool) (tk:Nat),z=.bl k->EP X π σ Q (.bool k) {s with toks:=tk}:=λk tk ez=>⟨.bl k,H,I.tok tk,rfl,q _ H φ .rfl rs (by subst ez;erw[yc])⟩
 cases v with
 |non=>
  erw[yc]at rv;subst rv
  cases (show u=BI from ru)
  erw[ybk,hb,if_true]at e;exact CC PySem.W.kitx_none I.kIn Ba Z.n (λz=>nomatch z) λtk=>fin _ tk (by cases e;cases t<;>rfl)
 |bl k=>
  erw[yc]at rv;subst rv
  cases (show u=Dv k from ru)
  erw[ybk,hb,if_true]at e;exact CC PySem.W.kitx_bool I.kIn Ba Z.b (λz=>nomatch z) λtk=>fin _ tk (by cases e;cases t<;>rfl)
 |int k=>
  erw[yc]at rv;subst rv;let⟨tk,rfl⟩:=ru;erw[ybk,hb,if_true]at e;exact CC PySem.W.kitx_int I.kIn Ba Z.i (λz=>nomatch z) λtk=>fin _ tk (by cases e;cases t<;>rfl)
 |str k=>
  erw[yc]at rv;subst rv;let⟨tk,rfl⟩:=ru;erw[ybk,hb,if_true]at e;exact CC PySem.W.kitx_str I.kIn Ba Z.s (λz=>nomatch z) λtk=>fin _ tk (by cases e;cases t<;>rfl)
 |tp k vs=>
  erw[yc]at rv;let⟨y,ys,rfl,rt,l⟩:=rv
  cases (show u=A8 y from ru)
  erw[ybk,hb,if_true]at e;let⟨its,_,⟨o,g,c,_,_⟩,_⟩:=I.tuple rt.sq;exact CC PySem.W.kitx_tuple I.kIn ⟨o,g,c⟩ Z.p (λz=>nomatch z) λtk=>fin _ tk (by cases e;cases t<;>rfl)
 |lst vs=>
  erw[yc]at rv;let⟨y,ys,rfl,rt,l⟩:=rv
  cases (show u=A8 y from ru)
  erw[ybk,hb,if_true]at e;let⟨_,_,n,_,h1⟩:=(show yp X.prog X.w H s.heap y (.lst ys)from I.hok y _ rt.1);exact CC PySem.W.kitx_list I.kIn ⟨_,h1,rfl⟩ Z.l (λz=>nomatch z) λtk=>fin _ tk (by cases e;cases t<;>rfl)
 |loc n=>cases e
 |scr n=>cases e
 |fnc n=>cases e
 |exn n=>erw[ybk,Al,List.all_nil,hb,GO,if_true]at e;cases e
def zhX{T:AR}(Z:ydG X.K t)(ht:ycr t=AC)(hg:Gl X "isinstance")(hm:X.mg "isinstance"=AF)(hgT:Gl X T)(hmT:X.mg T=AF)(hT:bootBuiltins T=AA (.type (tyN t)))(ha:PE X a (tE S X ca))(hnT:T ≠ "__name__":=by decide)(hdT:(T==("__debug__":AR))=false:=by decide)
  (he:starEach [a,.Name T p2] X.env=(AH,eval a X.env)::starEach [.Name T p2] X.env:=by rfl) (hpl:(backTo pos (starEach [.Name T p2] X.env)).any (·.1)=false:=by rfl):
  PE X (.Call (.Name "isinstance" p) [a,.Name T p2] [] pos) (tE S X (.isi ca [t])):=
 (za4 (zhl Z) hg hm F5 (zn ha (zn (zfS (v:=.ty (tyN t)) hgT hmT hT rfl hnT hdT) zbf) he) ⋯ ⋯ he hpl).imp λσ H Q ⟨B,φ,st,ρ,rs,re,h⟩=>by
  erw[ev]at h;refine tE.bind rs re h λx H1 v st1 φ1 s1 rs1 re1 rv h1=>?_;let⟨z,e,q⟩:=zm h1 rs1;exact⟨B,φ1,st1,v,x,z,rfl,rs1,rv,e,ht,q⟩
def zez{st4:SO}{x y v:PV}(h:yaK st x y v=AA st4):∃n xs k j,x=.loc n/\st[n]?=AA (.lst xs)/\y=.int k/\ixI xs.length k=AA j/\st4=st.set n (.lst (xs.set j v)):=by
 cases x with
 |loc n=>
  erw[yaK]at h
  cases q:st[n]? with
  |none=>rw[q]at h;cases h
  |some o=>
   rw[q]at h
   cases o with
   |lst xs=>
    cases y with
    |int k=>
     dsimp only at h
     cases q2:ixI xs.length k with
     |none=>rw[q2]at h;cases h
     |some j=>rw[q2]at h;exact⟨n,xs,k,j,rfl,q,rfl,q2,(AW h).symm⟩
    |_=>cases h
   |_=>cases h
 |_=>cases h
theorem yd.put{K:AE}{cl:Nat->AI}:∀{vs:List PV} {xs:List V} (j:Nat) {v:PV} {x:V},yd K cl B φ H vs xs->yc K cl B φ H v x->yd K cl B φ H (vs.set j v) (xs.set j x)
 |[],xs,j,v,x,l,r=>by erw[yd]at l;subst l;simp[yd]
 |w::vs,xs,0,v,x,l,r=>by
  erw[yd]at l;let⟨y,ys,rfl,_,l⟩:=l;erw[Ap,yd];exact⟨x,ys,rfl,r,l⟩
 |w::vs,xs,j+1,v,x,l,r=>by
  erw[yd]at l;let⟨y,ys,rfl,ry,l⟩:=l;erw[Aq,yd];exact⟨y,ys.set j x,rfl,ry,yd.put j l r⟩
def zg7(he:PE X a (tE S X ca))(ho:PE X b (tE S X cb))(hi:PE X c (tE S X cc))(hs:swapsWithSole [.Subscript b c px] a pos.line X.env=pure false:=by rfl)(hw:swappedStores [.Subscript b c px] a X.env=pure none:=by rfl)
  (hg:PG X (.Subscript b c px) (yd2 (tE S X cb) (tE S X cc) ycp):=by exact zfm ‹_› ‹_› zcu):PS X (.Assign [.Subscript b c px] a pos) (tS S X (.six cb cc ca)):=
 (zfo he hg hs hw).imp λD σ H ⟨B,φ,st,ρ,rs,re,h⟩=>by
  erw[ex]at h;refine tE.fl rs re h λv' H1 v st1 φ1 s1 rs1 re1 rv h1=>tE.fl rs1 re1 h1 λx' H2 x st2 φ2 s2 rs2 re2 rx h2=>tE.fl rs2 re2 h2 λy' H3 y st3 φ3 s3 rs3 re3 ry h3=>?_
  cases e:yaK st3 x y v with
  |none=>rw[e]at h3;exact h3.elim
  |some st4=>
   rw[e]at h3;let⟨n,xs,k,j,rfl,hn,rfl,hj,rfl⟩:=zez e;erw[yc]at ry;subst ry;let⟨l,ys,rfl,hp,hx,lr⟩:=rs3.list (rx.step s3) hn;refine⟨l,ys,k,j,rfl,rfl,hx,by rw[<-lr.length];exact hj,?_⟩;have s4:Step φ3 H3 φ3 (L2.upd H3 l (.lst (ys.set j v'))):=.put (AV hp);exact h3 σ _ φ3 s4 (rs3.put hp ⟨_,zc,(lr.put j ((rv.step s2).step s3)).step s4⟩) (re3.step s4)
end
section
variable {S:Se}{X:Cx}{σ:St}{B:AI->Prop}{φ:Ph}{H:Hp}{st:SO}{p pos p2 px py pt pt2 apos:Bd}{a b c d o:AM}{ca cb cc:Ce}{kt k2:Nat}
def zig{i j:Nat}{x y:AR}(hc:X.calm=AC)(hN:X.N.Nodup)(hi:X.N[i]?=AA x)(hj:X.N[j]?=AA y)(hij:i≠j)(h:PS X (.Assign [.Tuple [.Name x px,.Name y py] kt pt] (.Tuple [a,b] k2 pt2) pos) (yep i j (tAs S X (.cons ca (.cons cb .nil))))):
  PS X (.Assign [.Tuple [.Name x px,.Name y py] kt pt] (.Tuple [a,b] k2 pt2) pos) (tS S X (.asg (.t [i,j]) (.tup (.cons ca (.cons cb .nil))))):=
 h.imp λD σ H ⟨B,φ,st,ρ,rs,re,h⟩=>by
  erw[ex,ev]at h;refine⟨B,φ,st,ρ,rs,re,?_⟩
  cases e:evs S.call ρ st (.cons ca (.cons cb .nil))with
  |bad=>rw[e]at h;exact h
  |exc k st'=>rw[e]at h;exact λe s' x=>h σ φ H e s' .rfl re x
  |ok vs st'=>
   rw[e]at h;intro xs H' φ' s rs' l;erw[R.bind]at h;split at h
   .rcases vs with _|⟨v,_|⟨w,_|⟨u,t⟩⟩⟩
    .exact h.elim
    .exact h.elim
    .let⟨v',w',rfl,rv,rw⟩:=l.two;refine⟨v',w',rfl,?_⟩;exact h _ H' φ' s rs' (((re.step s).set i rv).set j rw)
    .exact h.elim
   .exact h.elim
def zgC{bo:BOp}{v w z:PV}(h:ya5 bo v w=AA z):∃i j,v=.int i/\w=.int j/\IC.binI bo i j=AA z:=by
 unfold ya5 at h;split at h
 .exact⟨_,_,rfl,rfl,h⟩
 .cases h
def zgh:PIp X .Add (rT2 S X (ya5 .add)):=by
 rintro π s σ H x y v u Q I rx ry ⟨B,φ,st,a,b,z,rs,ra,rb,e,q⟩
 let⟨i,j,rfl,rfl,e⟩:=zgC e
 cases e
 erw[yc]at ra rb;subst ra rb;exact zit π s σ H _ _ v u Q I rx ry ⟨i,j,rfl,rfl,q _ H φ .rfl rs (by erw[yc])⟩
end
end L2
namespace WK
open PySem L2 IC
def GC(K:AE)(mg:AR->Option AD)(cl:Nat->AI)(x:AR)(v:PV):Prop:=∃y:AI,mg x=AA (.ref y)/\∀B φ H,yc K cl B φ H v (.ref y)
def zi6{S:Se}{X:Cx}{x:AR}{v:PV}{pos:Bd}(hg:Gl X x)(h:GC X.K X.mg S.cl x v)(hd:(x==("__debug__":AR))=false:=by decide):PE X (.Name x pos) (tE S X (.cst v)):=by
 let⟨y,hm,hk⟩:=h;exact zdQ hg hm hk hd
def ze4:bootBuiltins "int"=AA (.type "int"):=by decide +kernel
def zgf:bootBuiltins "bool"=AA (.type "bool"):=by decide +kernel
def zgU:bootBuiltins "str"=AA (.type "str"):=by decide +kernel
def zcd:bootBuiltins "tuple"=AA (.type "tuple"):=by decide +kernel
def zhu:bootBuiltins "len"=AA (.builtin "len"):=by decide +kernel
def zhP:bootBuiltins "abs"=AA (.builtin "abs"):=by decide +kernel
def zij:bootBuiltins "all"=AA (.builtin "all"):=by decide +kernel
end WK
namespace L2
open PySem PySem.Spec PyProof.Rows IC
def shC:Sum Ce Int->Option Int
 |.inl _=>AF
 |.inr i=>AA i
def yak:List (Option Int)->List V->List V
 |[],_=>[]
 |some i::r,zs=>.int i::yak r zs
 |none::r,z::zs=>z::yak r zs
 |none::_,[]=>[]
def pick:List (Option Int)->List V->List V
 |none::r,v::vs=>v::pick r vs
 |some _::r,_::vs=>pick r vs
 |_,_=>[]
def nKw:List (Option Int)->Nat
 |[]=>0
 |none::r=>nKw r+1
 |some _::r=>nKw r
def ybZ:Ces->Nat
 |.nil=>0
 |.cons _ r=>ybZ r+1
def gK(np:Nat)(sh:List (Option Int))(vs zs:List V):List V:=if vs.length=np/\zs.length=nKw sh then vs++yak sh zs else []
def zdd{call:Nat->List PV->SO->R PV}{ρ:IC.Env}:∀(a:Ces) {st st':SO} {vs:List PV},evs call ρ st a=.ok vs st'->vs.length=ybZ a
 |.nil,st,st',vs,h=>by erw[evs]at h;cases h;rfl
 |.cons e r,st,st',vs,h=>by
  erw[evs]at h
  cases q:ev call ρ st e with
  |ok v s1=>
   rw[q]at h;erw[R.bind]at h
   cases q2:evs call ρ s1 r with
   |ok ws s2=>
    rw[q2]at h
    cases h
    simp[ybZ,zdd r q2]
   |exc c s=>rw[q2]at h;cases h
   |bad=>rw[q2]at h;cases h
  |exc c s=>rw[q]at h;cases h
  |bad=>rw[q]at h;cases h
def zd6{call:Nat->List PV->SO->R PV}{ρ:IC.Env}:∀(a b:Ces) (st:SO),evs call ρ st (yG a b)=(evs call ρ st a).bind λvs st1=>(evs call ρ st1 b).bind λws st2=>.ok (vs++ws) st2
 |.nil,b,st=>by
  erw[yG,evs,R.bind,CY]
  cases evs call ρ st b<;>rfl
 |.cons e r,b,st=>by
  erw[yG,evs]
  cases ev call ρ st e with
  |ok v st1=>
   erw[R.bind];rw[zd6 r b st1]
   cases evs call ρ st1 r with
   |ok vs st2=>
    erw[R.bind]
    cases evs call ρ st2 b<;>rfl
   |exc c s=>rfl
   |bad=>rfl
  |exc c s=>rfl
  |bad=>rfl
section
variable {S:Se}{X:Cx}{k:Nat}{f:AI}{fd:Af}{ps ks:List AR}{sp:Sp}{x:AR}{p pos kpos:Bd}{e:AM}{es:List AM}{kws:List Bz}{nm:Option AR}{t tk:TA}{CX:CXT}{ca:Ce}{ces:Ces}{items:List (Sum Ce Int)}{g:List AD->List AD->List AD}{gV:List V->List V->List V}
def zZ{K:AE}{cl:Nat->AI}{B:AI->Prop}{φ:Ph}{H:Hp}{call:Nat->List PV->SO->R PV}{ρ:IC.Env}:∀(items:List (Sum Ce Int)) {st st':SO} {vs:List PV} {xs:List V},evs call ρ st (yh items)=.ok vs st'->yd K cl B φ H vs xs->yak (items.map shC) (pick (items.map shC) xs)=xs/\(pick (items.map shC) xs).length=nKw (items.map shC)
 |[],st,st',vs,xs,h,l=>by
  erw[yh,evs]at h
  cases h
  erw[yd]at l;subst l;exact⟨rfl,rfl⟩
 |.inl c::r,st,st',vs,xs,h,l=>by
  erw[yh,evs]at h;let⟨v,s1,e1,h⟩:=zl h;let⟨ws,s2,e2,h⟩:=zl h
  cases h
  erw[yd]at l;let⟨y,ys,rfl,_,l⟩:=l;let⟨q1,q2⟩:=zZ r e2 l;erw[A2,shC,pick,yak,nKw,Ag,q1,q2];exact⟨trivial,trivial⟩
 |.inr i::r,st,st',vs,xs,h,l=>by
  erw[yh,evs,ev]at h;let⟨v,s1,e1,h⟩:=zl h;let⟨ws,s2,e2,h⟩:=zl h
  cases h
  cases e1
  erw[yd,yc]at l;let⟨y,ys,rfl,rfl,l⟩:=l;let⟨q1,q2⟩:=zZ r e2 l;erw[A2,shC,pick,yak,nKw,q1,q2];exact⟨trivial,trivial⟩
def tK(S:Se)(X:Cx)(items:List (Sum Ce Int)):TA:=λσ H Q=>∃B φ st ρ,yj X.K S.cl B φ H st/\yo X.K S.cl B φ H ρ σ/\Run S X σ B φ H (RL S X B) (evs S.call ρ st (yh items)) λxs H'=>Q (pick (items.map shC) xs) H'
theorem PK.imp{t t':TA}(h:PK X kws t')(k:∀σ H Q,t σ H Q->t' σ H Q):PK X kws t:=λpos π s σ H Q I q=>h pos π s σ H Q I (k σ H Q q)
def ziz:PK X [] (tK S X []):=zhE.imp λσ H Q ⟨B,φ,st,ρ,rs,re,h⟩=>by
 erw[yh,evs]at h;exact h.ok rs (x:=[]) (by erw[yd])
def zi5{i:Int}(h:PK X kws (tK S X items)):PK X kws (tK S X (.inr i::items)):=h.imp λσ H Q ⟨B,φ,st,ρ,rs,re,h⟩=>by
 erw[yh,evs,ev,R.bind]at h;refine⟨B,φ,st,ρ,rs,re,?_⟩
 cases e:evs S.call ρ st (yh items)with
 |ok vs st'=>
  rw[e]at h;intro xs H' φ' s rs' l;exact h (.int i::xs) H' φ' s rs' (by erw[yd,yc];exact⟨_,_,rfl,rfl,l⟩)
 |exc c s=>rw[e]at h;exact h
 |bad=>rw[e]at h;exact h
def ziK(ha:PE X e (tE S X ca))(h:PK X kws (tK S X items)):PK X (⟨nm,e,kpos⟩ :: kws) (tK S X (.inl ca::items)):=(zgb ha h).imp λσ H Q ⟨B,φ,st,ρ,rs,re,h⟩=>by
 erw[yh,evs]at h;refine tE.bind rs re h λx H1 v st1 φ1 s1 rs1 re1 rv h1=>⟨B,φ1,st1,ρ,rs1,re1,?_⟩;refine(Run.bind (Rel:=RL S X B) h1).mono λxs H2 kq=>?_;let⟨ws,st2,φ2,s2,rs2,l,h2⟩:=kq;exact h2.ok rs2 (x:=x::xs) (by erw[yd];exact⟨x,xs,rfl,rv.step s2,l⟩)
def zeq{fi:Nat}(F:yau X.prog X.w X.K X.mg X.base (CX1 X.prog X.w) k f fd ps (spI X.K S.cl S.call fi))(hr:yao k X.A)(hg:Gl X x)(hm:X.mg x=AA (.ref f))(hk:Aa X.K (.ref f)=AC){np:Nat}(hb:∃g,yaV X.K fd ps ks g (gK np (items.map shC)))(hnp:ybZ ces=np)
  (ha:PA X (e::es) (tAs S X ces)) (hkw:PK X kws (tK S X items)) (hall:(backToKw pos (keywordEach kws X.env)).all (·.1.isSome)=true:=by rfl) (hks:(backToKw pos (keywordEach kws X.env)).filterMap (·.1)=ks:=by rfl)
  (hdb:(x==("__debug__":AR))=false:=by decide) (he:starEach (e::es) X.env=(AH,eval e X.env)::starEach es X.env:=by rfl)
  (hpl:((backTo pos (starEach (e::es) X.env)).any (·.1) || (backToKw pos (keywordEach kws X.env)).any (·.1.isNone))=false:=by rfl):
  PE X (.Call (.Name x p) (e::es) kws pos) (tE S X (.call fi (yG ces (yh items)))):=by
 intro π s σ H Q I ⟨B,φ,st,ρ,rs,re,h⟩;erw[ev]at h;rw[zd6,R.bind_assoc]at h;refine Bg (za3 I hg hm ?_ hdb);have h0:tAs S X ces σ H λvs H1=>tK S X items σ H1 λzs H2=>∃E:XK,spI X.K S.cl S.call fi (gK np (items.map shC) vs zs) H2 Q E/\∀π s e s',Inv X π σ H2 s->CX1 X.prog X.w X.stack H2 s E e s'->X.xe e s':=by
  have hlen:∀vs st',evs S.call ρ st ces=.ok vs st'->vs.length=np:=λvs st' q=>(zdd ces q).trans hnp;refine⟨B,φ,st,ρ,rs,re,?_⟩
  cases q:evs S.call ρ st ces with
  |exc c s=>rw[q]at h;exact h
  |bad=>rw[q]at h;exact h
  |ok vs st1=>
  rw[q]at h;intro xs H1 φ1 s1 rs1 rv;have h1:=Run.on s1 h;have re1:=re.step s1;have hv:=hlen vs st1 q;refine⟨B,φ1,st1,ρ,rs1,re1,?_⟩;have h1:Run S X σ B φ1 H1 (RV S X B) (((evs S.call ρ st1 (yh items)).bind λa st=>(R.ok (vs++a) st:R (List PV))).bind λvs st1=>S.call fi vs st1) Q:=h1;rw[R.bind_assoc]at h1
  cases e:evs S.call ρ st1 (yh items)with
  |ok ws st2=>
   rw[e]at h1;intro ys H2 φ2 s2 rs2 l2;let⟨m1,m2⟩:=zZ items e l2;have eg:gK np (items.map shC) xs (pick (items.map shC) ys)=xs++ys:=by
    unfold gK;rw[if_pos ⟨by rw[<-rv.length];exact hv,m2⟩,m1]
   show ∃E:XK,spI X.K S.cl S.call fi (gK np (items.map shC) xs (pick (items.map shC) ys)) H2 Q E/\_;rw[eg];exact zar rs2 ((rv.step s2).append l2) (Run.on s2 h1)
  |exc c s=>rw[e]at h1;exact h1
  |bad=>rw[e]at h1;exact h1
 refine PySem.W.callWith_KW (h₀:=X.base) I.ok.mod.kin hk hall (thn (ha pos π s σ H _ I h0) λus s1 kq=>?_) hpl he;let⟨vs,H1,I1,r,q⟩:=kq;refine thn (hkw pos π s1 σ H1 _ I1 q) λws s2 kq=>?_;let⟨zs,H2,I2,rz,E,q2,hx⟩:=kq;refine ⟨I2.kIn,?_⟩;rw[hks];let⟨g,hb⟩:=hb;have r2:=hb.rel r rz;have hl:(g us ws).length=ps.length:=by rw[<-r2.length];exact F.len _ _ _ _ q2
 refine wpAny_call (EF (F.run X.A X.stack s2 H2 ⟨us,ks.zip ws⟩ (g us ws) (gK np (items.map shC) vs zs) Q E hr I2.env0 (hb.to s2 us ws I2.kIn hl) r2 q2) λr s' hq=>?_)
 cases r with
 |error e=>exact hx π s2 e s' I2 hq
 |ok fl=>
  cases fl with
  |ret u=>exact I2.after hq
  |next=>exact BY hq
  |brk=>exact BY hq
  |cont=>exact BY hq
end
def yas:List (Option Int)->List AD->List AD->List AD
 |[],_,_=>[]
 |some _::r,ws,d::ds=>d::yas r ws ds
 |none::r,w::ws,_::ds=>w::yas r ws ds
 |_,_,_=>[]
def zah:∀(sh:List (Option Int)) (ds:List Int) {zs:List V} {ws us:List AD},Vals (ds.map V.int) us->Vals zs ws->sh.length=ds.length->(∀p∈sh.zip ds,∀i,p.1=AA i->i=p.2)->Vals (yak sh zs) (yas sh ws us)
 |[],ds,zs,ws,us,r,q,hl,h=>.nil
 |some i::r,[],zs,ws,us,rr,q,hl,h=>by simp at hl
 |some i::r,d::ds,zs,ws,_,.cons a b,q,hl,h=>by
  have:i=d:=h (AA i,d) (by simp) i rfl;subst this;exact .cons a (zah r ds b q (by simpa using hl) λp hp=>h p (by simp[hp]))
 |none::r,[],zs,ws,us,rr,q,hl,h=>by simp at hl
 |none::r,d::ds,_,_,_,.cons a b,.nil,hl,h=>.nil
 |none::r,d::ds,_,_,_,.cons a b,.cons c q,hl,h=>.cons c (zah r ds b q (by simpa using hl) λp hp=>h p (by simp[hp]))
structure FnD(K:AE)(mg:AR->Option AD)(x:AR)(st:Bb)(ps:List AR)(ds:List Int)(f:AI)(fd:Af):Prop where
 ex:∃(oc:AD) (od:Option AI) (dT:AI) (kV doc pm:AD) (an:Option AI) (cdv ct:AD) (osl:Array (Option AD)) (o:B6) (its:Array AD) (n:Nat),
  fd=BG x x (yE st) (yq st) (ye st) (.ref dT) kV doc pm an cdv ct/\K.lookup f=AA ⟨oc,od,.func fd,osl⟩/\Bf K cdv x=AC/\K.lookup dT=AA o/\o.data=.seq its n/\Vals (ds.map V.int) its.toList
 kp:Aa K (.ref f)=AC
 m:mg x=AA (.ref f)
theorem kbD{K:AE}{mg:AR->Option AD}{x:AR}{st:Bb}{ps ks:List AR}{ds:List Int}{f:AI}{fd:Af}{np off:Nat}{sh:List (Option Int)}(D:FnD K mg x st ps ds f fd)(hnk:ks.length=nKw sh)(hsh:sh.length=(ds.drop off).length)(hd':((sh.zip (ds.drop off)).all λp=>p.1.all λi=>decide (i=p.2))=AC)
  (h:∀(dT:AI) (kV doc pm:AD) (an:Option AI) (cdv ct:AD) (us ws its:List AD),us.length=np->ws.length=ks.length->its.length=ds.length ->
   ∃k,bindArgs (BG x x (yE st) (yq st) (ye st) (.ref dT) kV doc pm an cdv ct) ⟨us,ks.zip ws⟩=seqItems? (.ref dT) >>= k/\k (AA its.toArray)=pure (ps.zip (us++yas sh ws (its.drop off)))) (hps:0<ps.length):
  ∃g,yaV K fd ps ks g (gK np sh):=by
 have hd:∀p∈sh.zip (ds.drop off),∀i,p.1=AA i->i=p.2:=λp hp i hi=>by
  have:=BZ.mp hd' p hp;rw[hi]at this;simpa using this
 let⟨oc,od,dT,kV,doc,pm,an,cdv,ct,osl,o,its,n,rfl,lk,hcd,lo,hs,r⟩:=D.ex;refine⟨λus ws=>if us.length=np/\ws.length=nKw sh then us++yas sh ws (its.toList.drop off)else [],⟨λs us ws KX hl=>?_,λ{vs us zs ws} rv rz=>?_⟩⟩
 .by_cases c:us.length=np/\ws.length=nKw sh
  .rw[if_pos c]at hl ⊢;let⟨k,h1,h2⟩:=h dT kV doc pm an cdv ct us ws its.toList c.1 (by rw[hnk];exact c.2) (by rw[<-r.length,BN]);exact BindsTo.of_defaults rfl (KX _ _ lo) hs h1 (by simpa using h2)
  .rw[if_neg c]at hl;simp at hl;lia
 .unfold gK;have e1:=rv.length;have e2:=rz.length
  by_cases c:us.length=np/\ws.length=nKw sh
  .rw[if_pos c,if_pos ∅];refine rv.append (zah sh (ds.drop off) ?_ rz hsh hd);rw[List.map_drop];exact r.drop off
  .rw[if_neg c,if_neg ∅];exact .nil
section
variable {P:AT}{w:A3}{K:AE}{mg:AR->Option AD}{base:Ah}{cl:Nat->AI}{T:Nat->Option IC.Fn}{fi:Nat}{fn:IC.Fn}{x:AR}{stm:Bb}{f:AI}{fd:Af}{N ps:List AR}{ds:List Int}{k:Nat}
end
def za1(a b:Key):peq (yaI a) (yaI b)=decide (a=b):=by
 rw[CB]
 cases a<;>cases b<;>simp[yaI,peq]
mutual
theorem zgV:∀a b:NK,peq (nkP a) (nkP b)=decide (a=b)
 |.a k,.a j=>by
  rw[nkP,nkP,za1]
  by_cases e:k=j<;>simp[e]
 |.a k,.t l=>by rw[nkP,nkP];cases k<;>simp[yaI,peq]
 |.t l,.a k=>by rw[nkP,nkP];cases k<;>simp[yaI,peq]
 |.t l,.t m=>by
  rw[nkP,nkP];erw[peq,zbQ l m]
  by_cases e:l=m<;>simp[e]
theorem zbQ:∀a b:List NK,ya6 (yab a) (yab b)=decide (a=b)
 |[],[]=>by simp[yab,ya6]
 |[],y::ys=>by simp[yab,ya6]
 |x::xs,[]=>by simp[yab,ya6]
 |x::xs,y::ys=>by
  erw[yab,ya6,zgV x y,zbQ xs ys]
  by_cases e:x=y<;>by_cases f:xs=ys<;>simp[e,f]
end
def zag(a b:List NK):peq (.tup (yab a)) (.tup (yab b))=decide (a=b):=by
 erw[peq,zbQ]
def zfv{k:PV}(h:ybC k=AC):∃q,k=yaI q:=by
 cases k with
 |int i=>exact⟨.inl i,rfl⟩
 |str i=>exact⟨.inr i,rfl⟩
 |_=>cases h
mutual
theorem ziC:∀(k:PV) (n:Nat),ydk n k=AC->∃q:NK,k=nkP q/\B3 (nkD q)=AC/\(nkD q).depth<=n
 |.int i,n,_=>⟨.a (.inl i),rfl,rfl,BK _⟩
 |.str x,n,h=>⟨.a (.inr x),rfl,h,BK _⟩
 |.tp k xs,n,h=>by
  erw[ydk,AJ,decide_eq_true_eq,B7]at h;let⟨q,e,c,d⟩:=zdB xs (n-1) h.2;refine⟨.t q,by rw[h.1.1,e];rfl,c,?_⟩;erw[nkD,BR];lia
 |.non,n,h=>by cases h
 |.bl _,n,h=>by cases h
 |.lst _,n,h=>by cases h
 |.loc _,n,h=>by cases h
 |.exn _,n,h=>by cases h
 |.scr _,n,h=>by cases h
 |.fnc _,n,h=>by cases h
theorem zdB:∀(ks:List PV) (n:Nat),ybd n ks=AC->∃qs:List NK,ks=yab qs/\Bo (yax qs)=AC/\BM (yax qs)<=n
 |[],n,_=>⟨[],rfl,rfl,BK _⟩
 |k::ks,n,h=>by
  erw[ybd,AJ]at h;let⟨q,e1,c1,d1⟩:=ziC k n h.1;let⟨qs,e2,c2,d2⟩:=zdB ks n h.2;refine⟨q::qs,by rw[e1,e2];rfl,by erw[yax,Bo,c1,c2];rfl,?_⟩;erw[yax,BM];lia
end
section
variable {S:Se}{X:Cx}{K:AE}{cl:Nat->AI}{σ:St}{B:AI->Prop}{φ:Ph}{H:Hp}{st:SO}{p pos p2 px apos:Bd}{a b c d o:AM}{ca cb cc:Ce}
def zcN{q:Key}{x:V}:yc K cl B φ H (yaI q) x ↔ x=kV q:=by
 cases q<;>simp[yaI,yc,kV]
mutual
theorem zda:∀(q:NK) (x:V),yc K cl B φ H (nkP q) x->NKr H q x
 |.a k,x,r=>zcN.mp r
 |.t l,x,r=>by
  erw[nkP,yc]at r;let⟨y,xs,rfl,rt,rl⟩:=r;rcases rt with⟨rt,_⟩|⟨z,_⟩
  .exact⟨y,xs,rfl,rt,zc0 l xs rl⟩
  .cases z
theorem zc0:∀(q:List NK) (xs:List V),yd K cl B φ H (yab q) xs->NKs H q xs
 |[],xs,l=>show xs=[]by simpa only[yab,yd] using l
 |q::qs,xs,l=>by
  erw[yab,yd]at l;let⟨y,ys,rfl,r,l⟩:=l;exact⟨y,ys,rfl,zda q y r,zc0 qs ys l⟩
end
theorem DK.look{q:Key}:∀{kvs:List (PV×PV)} {ks:List (Key×V)},DK K cl B φ H kvs ks->∀{v:PV} {x:V},yc K cl B φ H v x->yc K cl B φ H ((IC.look (yaI q) kvs).getD v) ((yaf ks q).getD x)
 |[],ks,h,v,x,r=>by cases h;exact r
 |(k,w)::t,ks,h,v,x,r=>by
  let⟨q',y,s,rfl,rfl,rv,l⟩:=h;erw[IC.look,za1]
  by_cases e:q'=q
  .rw[zq (p:=(q',y)) e];simp[e,rv]
  .rw[zu (p:=(q',y)) e];erw[decide_eq_true_eq,e,if_false];exact DK.look l r
theorem DT.look{q:List NK}:∀{kvs:List (PV×PV)} {ks:List (List NK×V)},DT K cl B φ H kvs ks->∀{v:PV} {x:V},yc K cl B φ H v x->yc K cl B φ H ((IC.look (.tup (yab q)) kvs).getD v) ((yaf ks q).getD x)
 |[],ks,h,v,x,r=>by cases h;exact r
 |(k,w)::t,ks,h,v,x,r=>by
  let⟨q',y,s,rfl,rfl,rv,l⟩:=h;erw[IC.look,zag]
  by_cases e:q'=q
  .rw[zq (p:=(q',y)) e];simp[e,rv]
  .rw[zu (p:=(q',y)) e];erw[decide_eq_true_eq,e,if_false];exact DT.look l r
theorem DK.any{q:Key}:∀{kvs:List (PV×PV)} {ks:List (Key×V)},DK K cl B φ H kvs ks->(kvs.any λp=>peq p.1 (yaI q))=ks.any λkv=>decide (kv.1=q)
 |[],ks,h=>by cases h;rfl
 |(k,w)::t,ks,h=>by
  let⟨q',y,s,rfl,rfl,rv,l⟩:=h;erw[Bc,za1,DK.any l]
theorem DT.any{q:List NK}:∀{kvs:List (PV×PV)} {ks:List (List NK×V)},DT K cl B φ H kvs ks->(kvs.any λp=>peq p.1 (.tup (yab q)))=ks.any λkv=>decide (kv.1=q)
 |[],ks,h=>by cases h;rfl
 |(k,w)::t,ks,h=>by
  let⟨q',y,s,rfl,rfl,rv,l⟩:=h;erw[Bc,zag,DT.any l]
theorem DK.map{q:Key}{v:PV}{x:V}(r:yc K cl B φ H v x):∀{kvs:List (PV×PV)} {ks:List (Key×V)},DK K cl B φ H kvs ks->DK K cl B φ H (kvs.map λp=>if peq p.1 (yaI q)=AC then(p.1,v)else p) (ks.map λkv=>if kv.1=q then(kv.1,x)else kv)
 |[],ks,h=>by cases h;exact rfl
 |(k,w)::t,ks,h=>by
  let⟨q',y,s,rfl,rfl,rv,l⟩:=h;erw[A2,za1,decide_eq_true_eq]
  by_cases e:q'=q
  .simp only[e,if_true];exact⟨q,x,_,rfl,rfl,r,DK.map r l⟩
  .simp only[e,if_false];exact⟨q',y,_,rfl,rfl,rv,DK.map r l⟩
theorem DT.map{q:List NK}{v:PV}{x:V}(r:yc K cl B φ H v x):∀{kvs:List (PV×PV)} {ks:List (List NK×V)},DT K cl B φ H kvs ks->DT K cl B φ H (kvs.map λp=>if peq p.1 (.tup (yab q))=AC then(p.1,v)else p) (ks.map λkv=>if kv.1=q then(kv.1,x)else kv)
 |[],ks,h=>by cases h;exact rfl
 |(k,w)::t,ks,h=>by
  let⟨q',y,s,rfl,rfl,rv,l⟩:=h;erw[A2,zag,decide_eq_true_eq]
  by_cases e:q'=q
  .simp only[e,if_true];exact⟨q,x,_,rfl,rfl,r,DT.map r l⟩
  .simp only[e,if_false];exact⟨q',y,_,rfl,rfl,rv,DT.map r l⟩
theorem DK.snoc{q:Key}{v:PV}{x:V}(r:yc K cl B φ H v x):∀{kvs:List (PV×PV)} {ks:List (Key×V)},DK K cl B φ H kvs ks->DK K cl B φ H (kvs++[(yaI q,v)]) (ks++[(q,x)])
 |[],ks,h=>by cases h;exact⟨q,x,[],rfl,rfl,r,rfl⟩
 |(k,w)::t,ks,h=>by
  let⟨q',y,s,rfl,rfl,rv,l⟩:=h;exact⟨q',y,_,rfl,rfl,rv,DK.snoc r l⟩
theorem DT.snoc{q:List NK}{v:PV}{x:V}(r:yc K cl B φ H v x):∀{kvs:List (PV×PV)} {ks:List (List NK×V)},DT K cl B φ H kvs ks->DT K cl B φ H (kvs++[(.tup (yab q),v)]) (ks++[(q,x)])
 |[],ks,h=>by cases h;exact⟨q,x,[],rfl,rfl,r,rfl⟩
 |(k,w)::t,ks,h=>by
  let⟨q',y,s,rfl,rfl,rv,l⟩:=h;exact⟨q',y,_,rfl,rfl,rv,DT.snoc r l⟩
theorem DK.put{q:Key}{v:PV}{x:V}{kvs:List (PV×PV)}{ks:List (Key×V)}(l:DK K cl B φ H kvs ks)(r:yc K cl B φ H v x):DK K cl B φ H (IC.put (yaI q) v kvs) (putK ks q x):=by
 unfold IC.put putK;rw[DK.any l];split
 .exact DK.map r l
 .exact DK.snoc r l
theorem DT.put{q:List NK}{v:PV}{x:V}{kvs:List (PV×PV)}{ks:List (List NK×V)}(l:DT K cl B φ H kvs ks)(r:yc K cl B φ H v x):DT K cl B φ H (IC.put (.tup (yab q)) v kvs) (putK ks q x):=by
 unfold IC.put putK;rw[DT.any l];split
 .exact DT.map r l
 .exact DT.snoc r l
theorem DK.len:∀{kvs:List (PV×PV)} {ks:List (Key×V)},DK K cl B φ H kvs ks->kvs.length=ks.length
 |[],ks,h=>by cases h;rfl
 |(k,w)::t,ks,h=>by
  let⟨q',y,s,rfl,rfl,rv,l⟩:=h;simp[DK.len l]
theorem DT.len:∀{kvs:List (PV×PV)} {ks:List (List NK×V)},DT K cl B φ H kvs ks->kvs.length=ks.length
 |[],ks,h=>by cases h;rfl
 |(k,w)::t,ks,h=>by
  let⟨q',y,s,rfl,rfl,rv,l⟩:=h;simp[DT.len l]
theorem yj.dct{n:Nat}{t:Bool}{kvs:List (PV×PV)}{x:V}(rs:yj K cl B φ H st)(r:yc K cl B φ H (.loc n) x)(h:st[n]?=AA (.dct t kvs)):∃y,x=.ref y/\φ[n]?=AA (AA y)/\ybp K cl B φ H (.dct t kvs) y:=by
 erw[yc]at r;let⟨hn,y,rfl,ha⟩:=r;let⟨z,hz⟩:=rs.liv n _ h (by intro z;cases z);obtain rfl:=ha z hz;let⟨o,ho,ro⟩:=rs.obj n z hz;rw[h]at ho;cases ho;exact⟨z,rfl,hz,ro⟩
def zA{v:PV}{t:Bool}{kvs:List (PV×PV)}(h:yaq st v=AA (t,kvs)):∃n,v=.loc n/\st[n]?=AA (.dct t kvs):=by
 cases v with
 |loc n=>
  erw[yaq]at h;split at h
  .rename_i t' xs q
   cases h
   exact⟨n,rfl,q⟩
  .cases h
 |_=>cases h
def zdm{k:PV}(h:isKey AH k=AC):∃q,k=yaI q:=zfv h
def zbK{k:PV}(h:isKey AC k=AC):∃q:List NK,k=.tup (yab q)/\yc2 q:=by
 cases k with
 |tp b xs=>
  cases b with
  |false=>
   let⟨qs,rfl,c,d⟩:=zdB xs 5 h;exact⟨qs,rfl,c,D8 d⟩
  |true=>cases h
 |_=>cases h
def zbY{q:List NK}{x:V}(hq:yc2 q)(r:yc K cl B φ H (.tup (yab q)) x):∃y,x=.ref y/\KyR H q y:=by
 have r':yc K cl B φ H (nkP (.t q)) x:=r;let⟨b,xs,rfl,g,hs⟩:=zda (.t q) x r';exact⟨b,rfl,⟨b,xs,rfl,g,hs⟩,hq⟩
def zdo:PE X (.Dict [] [] pos) (tE S X (.dict0 AC)):=zic.imp λσ H Q ⟨B,φ,st,ρ,rs,re,h⟩=>by
 erw[ev]at h;exact λp hp=>h _ _ (φ++[AA p]) (.push hp) (rs.push hp (rs.nB hp) ⟨[],zc,rfl⟩) (.loc_new rs)
def zhd(hu:X.A.units+16<cLine)(ha:PE X a (tE S X ca))(hb:PE X b (tE S X cb))(hc:PE X c (tE S X cc))(m:M2 X a "get" apos b c pos:=by exact⟨rfl,rfl,rfl,rfl⟩):PE X (.Call (.Attribute a "get" apos) [b,c] [] pos) (tE S X (.mth .get ca (.cons cb (.cons cc .nil)))):=
 (zeG hu ha hb hc m).imp λσ H Q ⟨B,φ,st,ρ,rs,re,h⟩=>by
  erw[ev]at h;refine tE.bind rs re h λx H1 v st1 φ1 s1 rs1 re1 rv h1=>?_;let⟨_,e1,h1⟩:=zdb h1;erw[yaM]at e1
  cases q:yaq st1 v with
  |none=>rw[q]at e1;cases e1
  |some tk=>
   let⟨t,kvs⟩:=tk;let⟨n,rfl,hn⟩:=zA q;let⟨y,rfl,hy,ro⟩:=rs1.dct rv hn;refine⟨y,rfl,?_,?_⟩
   .cases t with
    |false=>let⟨ks,hk,_⟩:=ro;exact .inl ⟨ks,.inl hk⟩
    |true=>let⟨ks,hk,_⟩:=ro;exact .inr ⟨ks,.inl hk⟩
   .simp only[evs,R.bind_assoc]at h1;refine tE.bind rs1 re1 h1 λkx H2 kv st2 φ2 s2 rs2 re2 rk h2=>tE.bind rs2 re2 h2 λdx H3 dv st3 φ3 s3 rs3 re3 rd h3=>?_;erw[R.bind]at h3;unfold ycT at h3;erw[yd1]at h3
    cases q3:yaq st3 (.loc n)with
    |none=>rw[q3]at h3;exact h3.elim
    |some tk3=>
     let⟨t3,kvs3⟩:=tk3;rw[q3]at h3;dsimp only at h3;split at h3
     .rename_i hk;let⟨n',e',hn3⟩:=zA q3
      cases e'
      let⟨y3,ey,hy3,ro3⟩:=rs3.dct ((rv.step s2).step s3) hn3
      cases ey
      have rk3:=rk.step s3
      cases t3 with
      |false=>
       let⟨q,rfl⟩:=zdm hk;let⟨ks,hks,l⟩:=ro3;refine⟨yaf ks q,.inl ⟨ks,q,.inl hks,zcN.mp rk3,rfl⟩,h3.ok rs3 (DK.look l rd)⟩
      |true=>
       let⟨q,rfl,hq⟩:=zbK hk;let⟨ks,hks,l⟩:=ro3;let⟨b',rfl,hb'⟩:=zbY hq rk3;exact⟨yaf ks q,.inr ⟨ks,q,b',.inl hks,rfl,hb',rfl⟩,h3.ok rs3 (DT.look l rd)⟩
     .exact h3.elim
def zdg{st4:SO}{x y v:PV}(h:ybs st x y v=AA st4):∃n t kvs,x=.loc n/\st[n]?=AA (.dct t kvs)/\isKey t y=AC/\kvs.length<1000000/\st4=st.set n (.dct t (IC.put y v kvs)):=by
 cases x with
 |loc n=>
  erw[ybs]at h;split at h
  .rename_i t kvs q;split at h
   .rename_i c;exact⟨n,t,kvs,rfl,q,c.1,c.2,(AW h).symm⟩
   .cases h
  .cases h
 |_=>cases h
def zfr(hu:X.A.units+16<cLine)(ho:PE X b (tE S X cb))(hi:PE X c (tE S X cc))(hv:PE X a (tE S X ca))(hs:swapsWith a (AA (.Subscript b c px)) pos.line X.env=pure false:=by rfl):PS X (.Assign [.Subscript b c px] a pos) (tS S X (.dput cb cc ca)):=
 (zgc hu ho hi hv hs).imp λD σ H ⟨B,φ,st,ρ,rs,re,h⟩=>by
  erw[ex]at h;refine tE.fl rs re h λv' H1 v st1 φ1 s1 rs1 re1 rv h1=>tE.fl rs1 re1 h1 λx' H2 x st2 φ2 s2 rs2 re2 rx h2=>tE.fl rs2 re2 h2 λy' H3 y st3 φ3 s3 rs3 re3 ry h3=>?_
  cases e:ybs st3 x y v with
  |none=>rw[e]at h3;exact h3.elim
  |some st4=>
   rw[e]at h3;let⟨n,t,kvs,rfl,hn,hk,hl,rfl⟩:=zdg e;let⟨l,rfl,hp,ro⟩:=rs3.dct (rx.step s3) hn;have rv3:=(rv.step s2).step s3;have hm:=zek
   cases t with
   |false=>
    let⟨q,rfl⟩:=zdm hk;let⟨ks,hks,ld⟩:=ro;have s4:Step φ3 H3 φ3 (L2.upd H3 l (.dK (putK ks q v'))):=.put (AV hp);refine⟨l,_,rfl,.inl ⟨ks,q,hks,zcN.mp ry,by have:=ld.len;lia,rfl⟩,h3 σ _ φ3 s4 (rs3.put hp ⟨_,zc,(ld.put rv3).step s4⟩) (re3.step s4)⟩
   |true=>
    let⟨q,rfl,hq⟩:=zbK hk;let⟨ks,hks,ld⟩:=ro;let⟨b',rfl,hb'⟩:=zbY hq ry;have s4:Step φ3 H3 φ3 (L2.upd H3 l (.dT (putK ks q v'))):=.put (AV hp);refine⟨l,_,rfl,.inr ⟨ks,q,b',hks,rfl,hb',by have:=ld.len;lia,rfl⟩,h3 σ _ φ3 s4 (rs3.put hp ⟨_,zc,(ld.put rv3).step s4⟩) (re3.step s4)⟩
def trC(kvs:List (AR×Int)):List (TE×TE):=kvs.map λkv=>(tC (.str kv.1),tC (.int kv.2))
def zgT:PPs X pos [] [] (trC []):=zge
def zgl{ks:List (Option AM)}{vs:List AM}{kvs:List (AR×Int)}{x:AR}{i:Int}{j1 j2:Nat}{p1 p2:Bd}(h:PPs X pos ks vs (trC kvs)):PPs X pos (AA (.Constant (.str x) j1 p1)::ks) (.Constant (.int i) j2 p2::vs) (trC ((x,i)::kvs)):=zed zdG zcp h
def zaL:∀(kvs:List (AR×Int)) {σ:St} {H:Hp} {Q:List (V×V)->Hp->Prop},Q (kvs.map λkv=>(.str kv.1,.int kv.2)) H->yaY (trC kvs) σ H Q
 |[],σ,H,Q,h=>h
 |kv::r,σ,H,Q,h=>zaL r (Q:=λps H3=>Q ((.str kv.1,.int kv.2)::ps) H3) h
theorem DK.fold:∀(kvs:List (AR×Int)) {acc:List (PV×PV)} {ks:List (Key×V)},DK K cl B φ H acc ks->DK K cl B φ H (kvs.foldl (λacc kv=>IC.put (.str kv.1) (.int kv.2) acc) acc) (yai ks (kvs.map λkv=>(DH kv.1,.int kv.2)))
 |[],acc,ks,l=>l
 |kv::r,acc,ks,l=>by
  unfold yai;erw[CV,A2];exact DK.fold r (l.put (q:=DH kv.1) (x:=.int kv.2) (by erw[yc]))
def zf8{ks:List (Option AM)}{vs:List AM}{kvs:List (AR×Int)}(h:PPs X pos ks vs (trC kvs))(hall:ks.all (·.isSome)=true:=by rfl)(hl:ks.length=vs.length:=by rfl)(h0:ks≠[]:=by simp)(h15:ks.length<=15:=by decide):PE X (.Dict ks vs pos) (tE S X (.newd kvs)):=
 (zfG h hall hl h0 h15).imp λσ H Q ⟨B,φ,st,ρ,rs,re,h⟩=>by
  erw[ev]at h;split at h
  .rename_i c;intro p hp;refine zaL kvs ⟨zc,kvs.map λkv=>(DH kv.1,.int kv.2),by simp[kV],by simpa using c,?_⟩;rw[zgm];exact h _ _ (φ++[AA p]) (.push hp) (rs.push hp (rs.nB hp) ⟨_,zc,DK.fold kvs rfl⟩) (.loc_new rs)
  .exact h.elim
end
section
variable {S:Se}{X:Cx}{σ:St}{B:AI->Prop}{φ:Ph}{H:Hp}{p pos p3 p4:Bd}{a b tg:AM}{ca cb:Ce}
end
end L2
namespace WK
open PySem L2 IC
section
variable {K:AE}{cl:Nat->AI}{B:AI->Prop}{φ:Ph}{H:Hp}
def ze5:yd K cl B φ H [] []:=by erw[yd]
def zdk{v:PV}{x:V}{vs:List PV}{xs:List V}(h:yc K cl B φ H v x)(l:yd K cl B φ H vs xs):yd K cl B φ H (v::vs) (x::xs):=by
 erw[yd];exact⟨x,xs,rfl,h,l⟩
end
def zhz{P:AT}{w:A3}{outer:List Az}{H:Hp}{s:AG}{e:AD}{s':AG}(h:CX1 P w outer H s (λ_ _ _=>False) e s'):False:=by
 let⟨_,_,_,_,_,_,_,_,_,_,_,_,_,_,z⟩:=h;exact z
def zdi{K:AE}{cl:Nat->AI}{B:AI->Prop}{φ:Ph}{H:Hp}:∀ns:List Int,yd K cl B φ H (ns.map .int) (ns.map V.int)
 |[]=>ze5
 |n::ns=>zdk (by erw[yc]) (zdi ns)
def spX(K:AE)(call:Nat->List PV->SO->R PV)(fi:Nat):Sp:=λvs H Q E=>∀cl,spI K cl call fi vs H Q E
def zcR{K:AE}{call:Nat->List PV->SO->R PV}{fi:Nat}{H:Hp}{a:AI}{ns:List Int}(ht:∀ns:List Int,ns.length<=63->call fi [.scr (ns.map .int)] []=.ok (.bl AC) [])(hl:ns.length<=63)(hS:SqL K H a (ns.map V.int)):
  spX K call fi [.ref a] H (λv _=>v=.bl AC) λ_ _ _=>False:=by
 intro cl;refine⟨λ_=>False,[],[],[.scr (ns.map .int)],⟨rfl,λm n a e=>by simp at e,λn a e=>by simp at e,λn o e=>by simp at e,λa z=>by simp at z,λa z=>z.elim⟩,zdk ?_ ze5,?_⟩
 .simp only[yc];refine⟨a,_,rfl,?_,zdi ns⟩;rcases hS with hS|hS
  .exact .inl ⟨hS,λz=>z,by simp⟩
  .exact .inr hS
 .rw[ht ns hl];intro x H' φ' _ _ r;simpa only[yc] using r
end WK
namespace L2
open PySem PySem.Spec PyProof.Rows IC
def zdt{l:List AR}(h:l.Nodup){i j:Nat}(hi:i<l.length)(hj:j<l.length)(e:l[i]=l[j]):i=j:=by
 rcases Nat.lt_trichotomy i j with q|q|q
 .exact absurd e (D3.mp h i j hi hj q)
 .exact q
 .exact absurd e.symm (D3.mp h j i hj hi q)
section
variable {X:Cx}{π:List (AI×B6)}{σ:St}{H:Hp}{s:AG}
theorem Inv.drop{h':Ah}{m:AR->Option AD}{v:Option AD}{i:Nat}{n:AR}(I:Inv X π σ H s)(hN:X.N.Nodup)(hi:X.N[i]?=AA n)(hm:s.heap.Ns X.env.locals m)(look:∀(i:Nat) (x:AR) (v:V),X.N[i]?=AA x->σ[i]?=AA (AA v)->Vis X.env.scope x->∃u,RelV v u/\Look X.env s.heap m x u)(hs:By X.env.locals s.heap h')(hn:h'.Ns X.env.locals (λx=>if x=n then v else m x)):Inv X π (σ.set i AF) H {s with heap:=h'}:=by
 have k:∀b u,b≠X.env.locals->s.heap.get? b=AA u->h'.get? b=AA u:=λb u hb q=>(hs.2 b hb).trans q;have nl:∀b o,X.s₀.heap.get? b=AA o->b≠X.env.locals:=λb o e=>A0 (AY (AO e) I.ok.above);refine⟨I.ok,I.os,I.bare,⟨λb o q n hb hx=>k b o (nl b o q) (I.base.keep b o q n hb hx),λb o q n hb hx=>?_,I.base.free,λb o q hx=>?_,I.base.tups,I.base.frzs,I.base.tbls⟩,⟨_,hn,λj x v e1 e2 hv=>?_⟩,λx c e=>?_,I.free,I.freeC,λp hp=>?_,λb u e=>?_,?_⟩
 .let⟨sl,q1⟩:=I.base.slot b o q n hb hx;exact⟨sl,k b _ (nl b o q) q1⟩
 .let⟨o',q1⟩:=I.base.there b o q hx;exact⟨o',k b o' (nl b o q) q1⟩
 .have hj:j≠i:=λz=>by
   subst z;rw[D9]at e2;erw[if_true]at e2;split at e2<;>cases e2
  rw[An (B1 hj)]at e2;have hx:x≠n:=λz=>by
   subst z;let⟨l1,g1⟩:=Am.mp e1;let⟨l2,g2⟩:=Am.mp hi;exact hj (zdt hN l1 l2 (g1.trans g2.symm))
  let⟨u,r,lk⟩:=look j x v e1 e2 hv;refine⟨u,r,?_⟩;rcases lk with⟨q1,q2⟩|⟨q1,c,q2,o,q3,q4⟩
  .exact .inl ⟨q1,by dsimp only;rw[if_neg hx];exact q2⟩
  .exact .inr ⟨q1,c,q2,o,k c o (I.cne x c q2) q3,q4⟩
 .let⟨v,o,ho,hd⟩:=I.cell x c e;exact⟨v,o,k c o (I.cne x c e) ho,hd⟩
 .let⟨q1,q2,q3,q4⟩:=I.pin p hp;exact⟨k _ _ q3 q1,q2,q3,q4⟩
 .refine(I.hok b u e).stay (λc v hc q=>k c v (λz=>?_) q) (λ_ q=>q) λ_ _ q=>q;have fr:=I.free;subst z;rcases hc with z|z
  .rw[z,e]at fr
   cases fr
  .rw[z]at fr
   cases fr
 .rw[BE];exact I.len
end
section
variable {X:Cx}{body suite:List Bb}{b₀:Bb}{x n:AR}{np hpos pos:Bd}{W:AI}{i:Nat}
end
section
variable {S:Se}{X:Cx}{σ:St}{B:AI->Prop}{φ φ1:Ph}{H H1:Hp}{st:SO}{ρ:IC.Env}{D:Ends}{body suite:List Bb}{b₀:Bb}{x n:AR}{p p2 np hpos pos cpos:Bd}{W:AI}{i:Nat}{cb ch:Css}{a e:AM}{es:List AM}{ca ce:Ce}{ces:Ces}
theorem yo.drop{K:AE}{cl:Nat->AI}(r:yo K cl B φ H ρ σ)(i:Nat):yo K cl B φ H (ρ.set i AF) (σ.set i AF):=by
 refine⟨by rw[BE,BE];exact r.len,λj w e=>?_⟩
 by_cases h:j=i
 .subst h;rw[D9]at e;erw[if_true]at e;split at e<;>cases e
 .rw[An (B1 h)]at e ⊢;exact r.get j w e
abbrev Se.quiet(S:Se):Se:={S with may:=AH}
theorem all_nil{P:Nat->Prop}:∀c∈([]:List Nat),P c:=λ_ h=>by cases h
theorem all_cons{P:Nat->Prop}{c:Nat}{cs:List Nat}(h:P c)(t:∀d∈cs,P d):∀d∈c::cs,P d:=λd hd=>by
 rcases Ac.mp hd with e|e
 .exact e ▸ h
 .exact t d e
structure ycn(K:AE)(mg:AR->Option AD)(C:AI)(x:AR):Prop where
 m:mg x=AA (.ref C)
 q:Em K C [.type "ValueError",.type "Exception",.type "BaseException",.type "object"] "ValueError.__new__"=AC
def tyZ(cl:Nat->AI):Ty->AD
 |.cls d=>.ref (cl d)
 |_=>.type "ValueError"
def yen(K:AE)(cl:Nat->AI)(c:Nat)(t:Ty):Prop:=As K (.ref (cl c)) (tyZ cl t)=AA (yaE (.exn c) t)
end
section
variable {S:Se}{X:Cx}{p pos p2 px apos:Bd}{a b:AM}{ca cb:Ce}
def GCI(mg:AR->Option AD)(x:AR)(i:Int):Prop:=∃t,mg x=AA (.int i t)
def zhc{x:AR}{i:Int}(hg:Gl X x)(h:GCI X.mg x i)(hd:(x==("__debug__":AR))=false:=by decide):PE X (.Name x pos) (tE S X (.cst (.int i))):=by
 let⟨t,hm⟩:=h;exact(zdA hg hm (show RelV (.int i) (.int i t)from ⟨t,rfl⟩) hd).imp λσ H Q ⟨B,φ,st,ρ,rs,re,h⟩=>by
  erw[ev]at h;exact h.ok rs (by erw[yc])
end
end L2
namespace WE
open PySem PySem.Spec PyProof.Rows
section
variable {prog:AT}{w:A3}{A:A5}{E:AD->AG->Prop}{s:AG}
def ycF(h:Ah)(a t:AI)(i:Int):Prop:=∃o,h.get? a=AA o/\o.cls=.type "reversed"/\o.data=.fields #[.ref t,rawInt i]
theorem ycF.typeIs{a t:AI}{i:Int}(x:ycF s.heap a t i):s.TypeIs (.ref a) "reversed":=let ⟨o,ho,hc,_⟩:=x;⟨o,ho,hc⟩
end
end WE
namespace L2
open PySem PySem.Spec PyProof.Rows
end L2
namespace L2
open PySem PySem.Spec PyProof.Rows IC
open Classical in
section
variable {S:Se}{X:Cx}{σ:St}{B:AI->Prop}{φ φ1:Ph}{H H1:Hp}{st:SO}{ρ:IC.Env}{p pos p2 px py pt pt2:Bd}{a b c d o a' b' c' d':AM}{ca cb cc cd ce cf:Ce}{π:List (AI×B6)}{s:AG}{kt k2:Nat}{es:List AM}{ces:Ces}{x:AR}
def rTs(S:Se)(X:Cx)(f:SO->PV->PV->Option PV):R2:=λx y H Q=>∃B φ st v w z,yj X.K S.cl B φ H st/\yc X.K S.cl B φ H v x/\yc X.K S.cl B φ H w y/\f st v w=AA z /\
 ∀z' H' φ',Step φ H φ' H'->yj X.K S.cl B φ' H' st->yc X.K S.cl B φ' H' z z'->Q z' H'
end
end L2
namespace IC
open PySem
end IC
namespace L2
open PySem PySem.Spec PyProof.Rows IC
section
variable {S:Se}{X:Cx}{σ:St}{B:AI->Prop}{φ:Ph}{H:Hp}{p p2 pos pos2 apos:Bd}{a b tg:AM}{ca cb:Ce}
end
end L2
namespace WE
open PySem PySem.Spec PyProof.Rows
section
variable {pg:AT}{wd:A3}{A:A5}{Er:AD->AG->Prop}{s:AG}
end
end WE
namespace L2
open PySem PySem.Spec PyProof.Rows
end L2
namespace L2
open PySem PySem.Spec PyProof.Rows IC
inductive ybl(K:AE)(cl:Nat->AI)(w:A3):List (AR×PV)->List BU->Prop
 |nil:ybl K cl w [] []
 |cons {k:AR} {v:PV} {t:Gh} {u:AD} {x:V} {D:List (AR×PV)} {es:List BU} (hr:RelV x u) (hv:∀B φ H,yc K cl B φ H v x) (h:ybl K cl w D es):ybl K cl w ((k,v)::D) (⟨DZ w.params k,.str k t,u⟩ :: es)
def GD(K:AE)(w:A3)(mg:AR->Option AD)(cl:Nat->AI)(x:AR)(D:List (AR×PV)):Prop:=
 ∃(y:AI) (es:Array BU) (ep:Nat),mg x=AA (.ref y)/\K.lookup y=AA ⟨.type "dict",AF,.dict es ep,#[]⟩/\(y==sysModules)=AH/\ybl K cl w D es.toList/\(D.map (·.1)).Nodup
theorem ybl.pairs{K:AE}{cl:Nat->AI}{P:AT}{w:A3}{D:List (AR×PV)}{es:List BU}(h:ybl K cl w D es):
  ∃vs:List (AR×AD),Pairs (strKind P w) es vs/\(∀e∈es,∃k,(strKind P w).is k e.key=AC/\e.hash=(strKind P w).hash k)/\vs.map (·.1)=D.map (·.1) /\
   (∀s,(valueAt vs s).isSome=(yaN s D).isSome)/\∀s v,yaN s D=AA v->∃u x,valueAt vs s=AA u/\RelV x u/\∀B φ H,yc K cl B φ H v x:=by
 induction h with
 |nil=>exact⟨[],.nil,λe he=>(by cases he),rfl,λs=>rfl,λs v e=>by cases e⟩
 |@cons k v t u x D es hr hv h ih=>
  let⟨vs,h1,h2,h3,h4,h5⟩:=ih;have hat:∀s,valueAt ((k,u)::vs) s=if k=s then AA u else valueAt vs s:=λs=>by
   unfold valueAt;rw[B9]
   by_cases e:k=s
   .simp[e]
   .simp[e]
  refine⟨(k,u)::vs,.cons (Ex P w k t) rfl h1,λe he=>?_,by rw[A2,A2,h3],λs=>?_,λs v' e=>?_⟩
  .rcases Ac.1 he with rfl|he
   .exact⟨k,Ex P w k t,rfl⟩
   .exact h2 e he
  .rw[hat,yaN]
   by_cases e:k=s
   .rw[if_pos e,if_pos (by simpa using e)];rfl
   .rw[if_neg e,if_neg (by simpa using e),h4]
  .rw[yaN]at e;rw[hat]
   by_cases q:k=s
   .rw[if_pos (by simpa using q)]at e
    cases e
    exact⟨u,x,by rw[if_pos q],hr,hv⟩
   .rw[if_neg (by simpa using q)]at e;let⟨u',x',e1,e2,e3⟩:=h5 s v' e;exact⟨u',x',by rw[if_neg q];exact e1,e2,e3⟩
section
variable {S:Se}{X:Cx}{σ:St}{B:AI->Prop}{φ:Ph}{H:Hp}{st:SO}{pos p:Bd}{a b i:AM}{ca cb:Ce}{x:AR}{D:List (AR×PV)}{ty:TE}
end
section
variable {K:AE}{cl:Nat->AI}{B:AI->Prop}{φ:Ph}{H:Hp}{st:SO}
end
section
variable {S:Se}{X:Cx}{K:AE}{cl:Nat->AI}{σ:St}{B:AI->Prop}{φ φ1:Ph}{H H1:Hp}{st:SO}{ρ:IC.Env}{pos p p2 px:Bd}{a b c o tg l elt iter:AM}{ca cb cc ce:Ce}{ci:Cit}{ct:Tg}
end
section
variable {K:AE}{cl:Nat->AI}{B:AI->Prop}{φ:Ph}{H:Hp}{st:SO}
theorem FS.lookup{f:AR}:∀{fs:List (AR×PV)} {ks:List (AR×V)},FS K cl B φ H fs ks->(∀v,fs.lookup f=AA v->∃x,ks.lookup f=AA x/\yc K cl B φ H v x)/\(fs.lookup f=AF->ks.lookup f=AF)
 |[],ks,h=>by
  cases (show ks=[]from h)
  exact⟨nofun,λ_=>rfl⟩
 |(k,v)::r,ks,h=>by
  let⟨x,s,rfl,rv,l⟩:=h;let⟨q1,q2⟩:=FS.lookup (f:=f) l;erw[F1]
  cases e:f==k with
  |true=>exact⟨λw z=>by cases z;exact⟨x,rfl,rv⟩,λz=>by cases z⟩
  |false=>exact⟨q1,q2⟩
theorem FS.put{f:AR}{v:PV}{x:V}(r:yc K cl B φ H v x):∀{fs:List (AR×PV)} {ks:List (AR×V)},FS K cl B φ H fs ks->FS K cl B φ H (ycY f v fs) (ydE f x ks)
 |[],ks,h=>by
  cases (show ks=[]from h)
  exact⟨x,[],rfl,r,rfl⟩
 |(k,w)::q,ks,h=>by
  let⟨y,s,rfl,ry,l⟩:=h;erw[ycY,ydE]
  by_cases c:k=f
  .rw[if_pos c,if_pos c];exact⟨x,s,rfl,r,l⟩
  .rw[if_neg c,if_neg c];exact⟨y,_,rfl,ry,FS.put r l⟩
theorem FS.len:∀{fs:List (AR×PV)} {ks:List (AR×V)},FS K cl B φ H fs ks->fs.length=ks.length
 |[],ks,h=>by cases (show ks=[]from h);rfl
 |(k,w)::q,ks,h=>by
  let⟨y,s,rfl,ry,l⟩:=h;simp[FS.len l]
theorem yj.ins{n c:Nat}{fs:List (AR×PV)}{x:V}(rs:yj K cl B φ H st)(r:yc K cl B φ H (.loc n) x)(h:st[n]?=AA (.ins c fs)):∃y ks dx,x=.ref y/\φ[n]?=AA (AA y)/\H y=AA (.ins (cl c) dx ks)/\FS K cl B φ H fs ks:=by
 erw[yc]at r;let⟨hn,y,rfl,hy⟩:=r;let⟨a,ha⟩:=rs.liv n _ h (by intro z;cases z);let⟨o,ho,ro⟩:=rs.obj n a ha;have e:=hy a ha;subst e;rw[h]at ho
 cases ho
 let⟨ks,⟨dx,q⟩,l⟩:=ro;exact⟨a,ks,dx,rfl,ha,q,l⟩
end
section
variable {S:Se}{X:Cx}{σ:St}{B:AI->Prop}{φ φ1:Ph}{H H1:Hp}{st:SO}{ρ:IC.Env}{p pos pos' p2 apos:Bd}{a b d o e:AM}{ca cb cc:Ce}{es:List AM}{ces:Ces}{c i k:Nat}{f m x:AR}{fa:AI}{fd:Af}{ps:List AR}
end
inductive ybn(w:A3)(fa:Nat->AI):List (AR×Nat)->List BU->Prop
 |nil:ybn w fa [] []
 |cons {k:AR} {i:Nat} {t:Gh} {D:List (AR×Nat)} {es:List BU} (h:ybn w fa D es):ybn w fa ((k,i)::D) (⟨DZ w.params k,.str k t,.ref (fa i)⟩ :: es)
def GDF(K:AE)(w:A3)(mg:AR->Option AD)(fa:Nat->AI)(x:AR)(D:List (AR×Nat)):Prop:=
 ∃(y:AI) (es:Array BU) (ep:Nat),mg x=AA (.ref y)/\K.lookup y=AA ⟨.type "dict",AF,.dict es ep,#[]⟩/\ybn w fa D es.toList/\(D.map (·.1)).Nodup
theorem ybn.pairs{P:AT}{w:A3}{fa:Nat->AI}{D:List (AR×Nat)}{es:List BU}(h:ybn w fa D es):
  ∃vs:List (AR×AD),Pairs (strKind P w) es vs/\(∀e∈es,∃k,(strKind P w).is k e.key=AC/\e.hash=(strKind P w).hash k)/\vs.map (·.1)=D.map (·.1) /\
   ∀s i,D.lookup s=AA i->valueAt vs s=AA (.ref (fa i)):=by
 induction h with
 |nil=>exact⟨[],.nil,λe he=>(by cases he),rfl,λs v e=>by cases e⟩
 |@cons k i t D es h ih=>
  let⟨vs,h1,h2,h3,h5⟩:=ih;have hat:∀s,valueAt ((k,A8 (fa i))::vs) s=if k=s then AA (.ref (fa i))else valueAt vs s:=λs=>by
   unfold valueAt;rw[B9]
   by_cases e:k=s
   .simp[e]
   .simp[e]
  refine⟨(k,.ref (fa i))::vs,.cons (Ex P w k t) rfl h1,λe he=>?_,by rw[A2,A2,h3],λs j e=>?_⟩
  .rcases Ac.1 he with rfl|he
   .exact⟨k,Ex P w k t,rfl⟩
   .exact h2 e he
  .rw[hat];erw[F1]at e
   by_cases q:k=s
   .subst q;rw[beq_self_eq_true]at e
    cases e
    rw[if_pos rfl]
   .rw[beq_eq_false_iff_ne.2 (B1 q)]at e;rw[if_neg q];exact h5 s j e
section
variable {S:Se}{X:Cx}{σ:St}{B:AI->Prop}{φ:Ph}{H:Hp}{st:SO}{ρ:IC.Env}{pos p p1 p2 p3 p4 p5 p6 p7:Bd}{a b i e n:AM}{es:List AM}{ca cn:Ce}{ces:Ces}{x y:AR}{D:List (AR×Nat)}{ty:TE}{t:TA}{fa:Nat->AI}{fdd:Nat->Af}{ps:Nat->List AR}{k ix:Nat}
structure Makers(S:Se)(X:Cx)(k:Nat)(D:List (AR×Nat))(fa:Nat->AI)(fdd:Nat->Af)(ps:Nat->List AR):Prop where
 F:∀s j,D.lookup s=AA j->yau X.prog X.w X.K X.mg X.base (CX1 X.prog X.w) k (fa j) (fdd j) (ps j) (spI X.K S.cl S.call j)
 kp:∀s j,D.lookup s=AA j->Aa X.K (.ref (fa j))=AC
 b:∀s j,D.lookup s=AA j->Binds X.K (fdd j) (ps j) []
end
section
variable {P:AT}{w:A3}{K:AE}{mg:AR->Option AD}{base:Ah}{cl:Nat->AI}{T:Nat->Option IC.Fn}{fi:Nat}{fn:IC.Fn}{x qual:AR}{stm:Bb}{f:AI}{fd:Af}{N ps:List AR}{k m:Nat}
def zeg:yau P w K mg base (CX1 P w) m f fd ps (spI K cl (yg T 0) fi):=
 ⟨λvs H Q E ⟨_,_,_,_,_,_,h⟩=>by rw[yg]at h;exact h.elim,λA outer s H args us vs Q E _ _ _ _ ⟨_,_,_,_,_,_,h⟩=>by rw[yg]at h;exact h.elim⟩
end
theorem yW.units{k:Nat}{A:A5}(r:yW k A):A.units+64<cLine:=by have:=r.un;lia
section
variable {P:AT}{w:A3}{K:AE}{mg:AR->Option AD}{base:Ah}{cl:Nat->AI}{T:Nat->Option IC.Fn}{fi:Nat}{fn:IC.Fn}{x qual:AR}{stm:Bb}{f:AI}{fd:Af}{N ps:List AR}{k m:Nat}
def zeS(hT:T fi=AA fn)(hns:N.length=fn.ns)(hpu:fn.pure=AH){scope:BB}{cdv:AD}{A:A5}{outer:List Az}{s:AG}{vs:List V}{H:Hp}{Q:VK}(h:spI K cl (yg T (k+1)) fi vs H Q E0):
  tSs ⟨cl,yg T k,AH⟩ (ya3 P w K mg base N qual scope f cdv A outer s H) fn.body {nx:=λ_ H'=>Q .non H',rt:=Q} (L2.start N vs) H:=by
 let⟨B,φ,st,args,rs,l,h⟩:=h;have hl:args.length=fn.np:=zdZ (k:=k) hT args st λz=>by rw[z]at h;exact h
 have hlen:=l.length;rw[yg,hT]at h;dsimp only at h;rw[if_pos hl,hpu,if_neg (by simp)]at h;refine⟨B,φ,st,_,rs,yo.start l (fn.ns-fn.np) ∅,?_⟩;show yam _ _ _ _ _ (exs (yg T k) (args.map AA++Aj (fn.ns-fn.np) AF) st fn.body) _
 cases e:exs (yg T k) (args.map AA++Aj (fn.ns-fn.np) AF) st fn.body with
 |nx ρ' st'=>
  rw[e]at h;intro σ' H' φ' s' rs' re';exact h .non H' φ' s' rs' (by erw[yc])
 |rt v st'=>
  rw[e]at h;intro y H' φ' s' rs' rv;exact h y H' φ' s' rs' rv
 |exc c ρ' st'=>
  rw[e]at h;intro σ' φ1 H1 ev s' s1 _ ex;rcases ex with⟨π,H2,s2,φ2,I,s3,q⟩|⟨hm,_⟩|⟨hm,_⟩
  .let⟨_,cls,_,H',_,_,_,_,_,_,_,_,_,_,e1,φ',s4,r⟩:=q;exact(h H' φ' (s1.trans (s3.trans s4)) r).elim
  .cases hm
  .cases hm
 |bk ρ' st'=>rw[e]at h;exact h.elim
 |ct ρ' st'=>rw[e]at h;exact h.elim
 |bad=>rw[e]at h;exact h.elim
def zhb(hT:T fi=AA fn)(F:Fun K x qual stm f fd)(Sc:yX N ps (ye stm))(hnp:ps.length=fn.np)(hns:N.length=fn.ns)(hpu:fn.pure=AH)
  (body:∀(cdv:AD) (A:A5) (outer:List Az) (s:AG) (H:Hp),yW m (A.deeper (envOfC qual (ye stm) s.heap.objs.size f cdv)) ->
   PSs (ya3 P w K mg base N qual (ye stm) f cdv A outer s H) (yq stm) (tSs ⟨cl,yg T k,AH⟩ (ya3 P w K mg base N qual (ye stm) f cdv A outer s H) fn.body)):
  ybh P w K mg base (m+1) f fd ps (spI K cl (yg T (k+1)) fi):=
 F.okH Sc (λvs H Q E h=>zfn hT hnp h) λcdv A outer s H vs Q hr h=>⟨_,body cdv A outer s H hr,zeS hT hns hpu h⟩
def zeF:ybh P w K mg base m f fd ps (spI K cl (yg T 0) fi):=
 ⟨λvs H Q E ⟨_,_,_,_,_,_,h⟩=>by rw[yg]at h;exact h.elim,λA outer s H args us vs Q _ _ _ _ ⟨_,_,_,_,_,_,h⟩=>by rw[yg]at h;exact h.elim⟩
end
section
variable {S:Se}{X:Cx}{σ:St}{B:AI->Prop}{φ:Ph}{H:Hp}{st:SO}{ρ:IC.Env}{p pos:Bd}{e:AM}{es:List AM}{ces:Ces}{fi k:Nat}{x:AR}{f:AI}{fd:Af}{ps:List AR}
end
end L2
namespace L2
open PySem IC
section
variable {S:Se}{X:Cx}{σ:St}{B:AI->Prop}{φ φ1:Ph}{H H1:Hp}{st:SO}{ρ:IC.Env}{p pos p2 px py pt pt2:Bd}{a b c d o a' b' c' d':AM}{ca cb cc cd ce cf:Ce}{π:List (AI×B6)}{s:AG}{kt k2:Nat}{es:List AM}{ces:Ces}{x:AR}
end
end L2
namespace L2
open PySem PySem.Spec PyProof.Rows
section
variable {X:Cx}
end
end L2
namespace L2
open PySem PySem.Spec PyProof.Rows IC
section
variable {S:Se}{X:Cx}{σ:St}{B:AI->Prop}{φ φ1:Ph}{H H1:Hp}{st:SO}{ρ:IC.Env}{p pos p2 apos:Bd}{a b c d:AM}{ca cb cc:Ce}{es:List AM}{ces:Ces}{K:AE}{cl:Nat->AI}
end
section
variable {S:Se}{X:Cx}{a b:AM}{c i:Nat}{j:Int}{f:AR}{pos tpos:Bd}
end
end L2
namespace HT
open PySem PySem.Spec PyProof.Rows
section
variable {prog:AT}{w:A3}{A:A5}{E:AD->AG->Prop}{s:AG}
end
end HT
namespace L2
open PySem PySem.Spec PyProof.Rows IC
section
variable {S:Se}{X:Cx}{pos p2:Bd}{e e3:AM}{te t3:TE}{a:AM}{ca c3:Ce}
theorem yd.reverse{K:AE}{cl:Nat->AI}{B:AI->Prop}{φ:Ph}{H:Hp}:∀{vs:List PV} {xs:List V},yd K cl B φ H vs xs->yd K cl B φ H vs.reverse xs.reverse
 |[],xs,h=>by
  erw[yd]at h;subst h;erw[List.reverse_nil,yd]
 |v::vs,xs,h=>by
  erw[yd]at h;let⟨y,ys,rfl,r,l⟩:=h;rw[Ca,Ca];exact(yd.reverse l).append (by erw[yd];exact⟨y,[],rfl,r,rfl⟩)
end
section
variable {X:Cx}{prog:AT}{w:A3}{A:A5}{E:AD->AG->Prop}{s:AG}
end
section
variable {S:Se}{X:Cx}{pos px:Bd}{a:AM}{ca:Ce}
end
end L2
namespace PySem
open Sem (wp)
def zh:entryFor table "dict.update.loop"=AA EG.«dict.update.loop»:=entryFor_of_tree (by kernel_rfl)
def ze:plainId "dict.update.loop"=true:=by decide +kernel
section
variable {prog:AT}{w:A3}{K:Type}[DecidableEq K]{A:A5}{R:FT->AG->Prop}
def ycl(knd:Dh prog w K)(h:Ah)(v:AD)(x:K×AI×AD):Prop:=∃p,v=.ref p/\h.get? p=AA {cls:=.type "tuple",data:=.seq #[.ref x.2.1,x.2.2]}/\knd.is h x.1 x.2.1
def yF(knd:Dh prog w K)(h:Ah):List AD->List (K×AI×AD)->Prop
 |[],[]=>True
 |v::vs,x::xs=>ycl knd h v x/\yF knd h vs xs
 |_,_=>False
def yN(xs more:List (K×AI×AD)):List (K×AI×AD):=more.foldl (λacc x=>storedH acc x.1 x.2.1 x.2.2) xs
theorem yF.keep{knd:Dh prog w K}(hst:∀{h h' k a},knd.is h k a->(∀b o,h.get? b=AA o->o.cls=.type "tuple"->h'.get? b=AA o)->knd.is h' k a){h h':Ah}(hk:∀b o,h.get? b=AA o->o.cls=.type "tuple"->h'.get? b=AA o):
  ∀{vs xs},yF knd h vs xs->yF knd h' vs xs
 |[],[],_=>Ba
 |_::_,_::_,⟨⟨p,e,g,i⟩,r⟩=>⟨⟨p,e,hk _ _ g rfl,hst i hk⟩,yF.keep hst hk r⟩
def zal(xs:List (K×AI×AD))(k:K)(a:AI)(v:AD):(storedH xs k a v).length<=xs.length+1:=by
 unfold storedH;split<;>simp
end
end PySem
namespace L2
open PySem PySem.Spec PyProof.Rows
def DPs(H:Hp):List V->List (List NK×V)->Prop
 |[],ks=>ks=[]
 |x::xs,ks=>∃k y r q b,ks=(k,y)::r/\x=.ref q/\H q=AA (.tup [.ref b,y])/\KyR H k b/\DPs H xs r
def yP(kvs more:List (List NK×V)):List (List NK×V):=more.foldl (λacc kv=>putK acc kv.1 kv.2) kvs
theorem KT.merge{H:Hp}{more:List (List NK×V)}{rs:List (List NK×AI×AD)}(r:KT H more rs):∀{kvs:List (List NK×V)} {xs:List (List NK×AI×AD)},KT H kvs xs->KT H (yP kvs more) (yN xs rs):=by
 induction r with
 |nil=>intro kvs xs q;exact q
 |@cons p q ps qs h t ih=>
  intro kvs xs r0;have e:=r0.put p.1 h.2.1 h.2.2;rw[h.1]at e;have:=ih e;rw[<-h.1]at this;show KT H (yP (putK kvs p.1 p.2) ps) (yN (storedH xs q.1 q.2.1 q.2.2) qs);rw[<-h.1];exact this
def zY:∀(more kvs:List (List NK×V)),(yP kvs more).length<=kvs.length+more.length
 |[],kvs=>by show kvs.length<=kvs.length+0;lia
 |p::r,kvs=>by
  have h1:=zY r (putK kvs p.1 p.2);have h2:=zw kvs p.1 p.2;show (yP (putK kvs p.1 p.2) r).length<=_;rw[Ag];lia
def zcc{P:AT}{w:A3}{h h':Ah}{k:List NK}{a:AI}(i:(yR P w).is h k a)(q:∀b o,h.get? b=AA o->o.cls=.type "tuple"->h'.get? b=AA o):(yR P w).is h' k a:=by
 exact⟨NI.stay (λb its g=>q b _ g rfl) _ _ i.1,i.2⟩
def za8{P:AT}{w:A3}{H:Hp}{h:Ah}(ok:HOk P w H h):∀{xs:List V} {us:List AD} {kvs:List (List NK×V)},DPs H xs kvs->Vals xs us->∃rs,yF (yR P w) h us rs/\KT H kvs rs
 |[],_,_,d,.nil=>by cases (show _=[]from d);exact⟨[],Ba,.nil⟩
 |x::xs,u::us,_,d,.cons rx t=>by
  let⟨k,y,r,q,b,rfl,rfl,hq,hb,d'⟩:=d;let⟨rs,p,kt⟩:=za8 ok d' t
  cases (show u=A8 q from rx)
  let⟨_,its,rv,g⟩:=(show yp P w H h q (.tup [.ref b,y])from ok q _ hq);let⟨u1,u2,rfl,r1,r2⟩:=vals2 rv
  cases (show u1=A8 b from r1)
  exact⟨(k,b,u2)::rs,⟨⟨q,rfl,g,zbz ok hb⟩,p⟩,.cons ⟨rfl,hb,r2⟩ kt⟩
section
variable {X:Cx}
end
end L2
namespace L2
open PySem PySem.Spec PyProof.Rows IC
section
variable {K:AE}{cl:Nat->AI}{B:AI->Prop}{φ:Ph}{H:Hp}
theorem DT.fold:∀{kvs:List (PV×PV)} {more:List (List NK×V)},DT K cl B φ H kvs more->∀{acc:List (PV×PV)} {ks:List (List NK×V)},DT K cl B φ H acc ks->DT K cl B φ H (kvs.foldl (λacc kv=>IC.put kv.1 kv.2 acc) acc) (yP ks more)
 |[],_,d,_,_,a=>by cases (show _=[]from d);exact a
 |(k,v)::kvs,_,d,acc,ks,a=>by
  let⟨q,x,s,rfl,rfl,rv,d'⟩:=d;exact DT.fold d' (a.put rv)
end
section
variable {S:Se}{X:Cx}{a:AM}{ca:Ce}{p pos:Bd}
def zdl:bootBuiltins "dict"=AA (.type "dict"):=by decide +kernel
end
end L2
namespace PySem
open Sem (wp)
def zaE{prog:AT}{w:A3}{A:A5}{E:AD->AG->Prop}{s:AG}{a:AI}{xs:Array AD}{Q:Option AD->AG->Prop}
  {n:Nat} (hx:s.heap.get? a=AA {cls:=.type "list",data:=.seq xs n}) (hA:A.handled=AF)
  (h:∀h' tk,(∀b ob,s.heap.get? b=AA ob->h'.get? b=AA ob)->Q AF {s with heap:=h',toks:=tk}):
  AN (model prog w) A (getAttr? (.ref a) "keys") Q E s:=by
 let⟨hp,g,d,tk,os⟩:=s;have hT:∀tk',(⟨hp,g,d,tk',os⟩:AG).TypeIs (.ref a) "list":=λ_=>⟨_,hx,rfl⟩;have hm:typeLookup (.type "list") "keys"=pure none:=by rw[typeLookup_type,builtinLookup_eq_fast];kernel_rfl
 have f1:=sub_AttributeError;have f3:=CQ.lookup;have f4:=CQ.bind (.ref a);have f5:=am_list_getattr_none;unfold getAttr? getAttrBy? getAttrBy
 repeat (any_goals (first|assumption|exact hT _|((with_reducible show AN _ _ (call (Value.builtin "list.__getattribute__") _ _) _ _ _);refine call_meets CQ (hT _) am_entry_list_getattribute (F.args_list_getattribute_2 _ _) (meets_getattribute_miss_list a xs _ _ "keys" _ hm (by decide +kernel)) ⟨hx,hA,λh' tk' e hx'=>?_⟩)|wp_step))
 let⟨t',u',he⟩:=hx'.there;show AN _ _ (getattributeRaised _ _ _ _ _ _ _) _ _ _;unfold getattributeRaised
 repeat (any_goals (first|assumption|wp_step))
 exact h _ _ hx'.keeps
section
variable {prog:AT}{w:A3}{K:Type}[DecidableEq K]{A:A5}{R:FT->AG->Prop}
def zbv{knd:Dh prog w K}(hst:∀{h h' k a},knd.is h k a->(∀b o,h.get? b=AA o->o.cls=.type "tuple"->h'.get? b=AA o)->knd.is h' k a){d t it:AI}{its:Array AD}(hh:A.in1.handled=AF)(hu:knd.room A.in1):
  ∀(rest:List (K×AI×AD)) (i:Nat) (xs:List (K×AI×AD)) (s:AG),s.heap.IsListIter it t i->s.heap.IsList t its->yF knd s.heap (its.toList.drop i) rest->s.heap.DictOfH knd d xs->xs.length+rest.length<=sizeLine ->
  (∀h' tk,h'.DictOfH knd d (yN xs rest)->(∀b o,b≠d->b≠it->s.heap.get? b=AA o->h'.get? b=AA o)->R (.ok (.ret .none)) {s with heap:=h',toks:=tk}) ->
  codeAny (model prog w) A (.builtin "dict.update.loop" ⟨[.ref d,.ref it,rawInt i,.none],[]⟩) R s
 |[],i,xs,s,hi,ht,hp,hd,hz,hR=>by
  refine F6 zh ?_;rw[E5 ze _];show AN _ A.in1 (pyNext (.ref it) >>= _) _ _ s;have e:its[i]?=none:=by
   rw[<-Cj]
   cases q:its.toList.drop i with
   |nil=>exact List.getElem?_eq_none_iff.mpr (List.drop_eq_nil_iff.mp q)
   |cons _ _=>rw[q]at hp;exact hp.elim
  let⟨od,es,ep,gd,cd,r⟩:=id hd;let⟨oi,gi,ci,di⟩:=id hi;have ndi:d≠it:=λz=>by subst z;rw[gd]at gi;cases gi;rw[cd.1]at ci;exact absurd (Ax ci) ⋯
  refine AB (ET hh hi ht e λh' hb=>?_);have kp:∀b o,b≠d->b≠it->s.heap.get? b=AA o->h'.get? b=AA o:=λb o _ n e=>hb b o n e;show AN _ A.in1 (GP d [] >>= _) _ _ _;refine AB (AK (AK ?_));refine hR h' s.toks ⟨od,es,ep,hb _ _ ndi gd,cd,r.1,r.2.1,λx hx=>hst (r.2.2.1 x hx) λb o g c=>hb b o (λz=>?_) g,r.2.2.2⟩ kp;subst z;rw[gi]at g;cases g;rw[c]at ci;exact absurd (Ax ci) ⋯
 |x::rest,i,xs,s,hi,ht,hp,hd,hz,hR=>by
  refine F6 zh ?_;rw[E5 ze _];show AN _ A.in1 (pyNext (.ref it) >>= _) _ _ s
  cases q:its.toList.drop i with
  |nil=>rw[q]at hp;exact hp.elim
  |cons v vs=>
   rw[q]at hp;let⟨⟨p,rfl,gp,hk⟩,hr⟩:=hp;have hil:i<its.toList.length:=by
    have:=congrArg B4 q;erw[Dq,Ag]at this;lia
   have e:its[i]?=AA (.ref p):=by
    rw[<-Cj];have:=congrArg (·[0]?) q;simpa [List.getElem?_drop] using this
   have hvs:its.toList.drop (i+1)=vs:=by
    rw[<-List.drop_drop,q];rfl
   let⟨od,es,ep,gd,cd,r⟩:=id hd;let⟨oi,gi,ci,di⟩:=id hi;have ndi:d≠it:=λz=>by subst z;rw[gd]at gi;cases gi;rw[cd.1]at ci;exact absurd (Ax ci) ⋯
   refine AB (Dz hi ht e λh1 hi1 sb=>?_);have nit:∀b o,s.heap.get? b=AA o->o.cls=.type "tuple"->b≠it:=λb o g c z=>by
    subst z;rw[gi]at g;cases g;rw[c]at ci;exact absurd (Ax ci) ⋯
   have nd:∀b o,s.heap.get? b=AA o->o.cls=.type "tuple"->b≠d:=λb o g c z=>by
    subst z;rw[gd]at g;cases g;rw[cd.1]at c;exact absurd (Ax c) ⋯
   have k1:∀b o,s.heap.get? b=AA o->o.cls=.type "tuple"->h1.get? b=AA o:=λb o g c=>(sb.2 b (nit b o g c)).trans g;have hd1:h1.DictOfH knd d xs:=⟨od,es,ep,(sb.2 d ndi).trans gd,cd,r.1,r.2.1,λx hx=>hst (r.2.2.1 x hx) k1,r.2.2.2⟩;have gp1:=k1 p _ gp rfl;have hk1:=hst hk k1;show AN _ A.in1 (holding [.ref p] _ >>= _) _ _ _;refine AB (BD ?_);refine AB (wpAny_tryCatch ?_);have hT:({s with heap:=h1}:AG).TypeIs (.ref p) "tuple":=⟨_,gp1,rfl⟩;unfold G5;refine AB (DI hT ?_);rw[if_pos ⋯];refine AB (DN gp1 rfl (AK ?_));show AN _ A.in1 (holding [.ref x.2.1,x.2.2] (dictSet d (.ref x.2.1) x.2.2)) _ _ _;refine BD (wpAny_dictSet_heap (s:={s with heap:=h1}) hu hk1 hd1 (λh2 hd2 sb2=>?_) (by erw[Ag]at hz;lia));have k2:∀b o,s.heap.get? b=AA o->o.cls=.type "tuple"->h2.get? b=AA o:=λb o g c=>(sb2.2 b (nd b o g c)).trans (k1 b o g c);refine AK ⟨plainId_quiet ze _,zbv (t:=t) (its:=its) hst hh hu rest (i+1) (storedH xs x.1 x.2.1 x.2.2) _ ?_ ?_ ?_ hd2 ?_ λh' tk a b=>hR h' tk a λc o n1 n2 g=>b c o n1 n2 ((sb2.2 c n1).trans ((sb.2 c n2).trans g))⟩
   .let⟨o1,g1,r1⟩:=hi1;exact⟨o1,(sb2.2 it (B1 ndi)).trans g1,r1⟩
   .let⟨ol,gl,cl,nl,dl⟩:=ht;refine⟨ol,(sb2.2 t λz=>?_).trans ((sb.2 t λz=>?_).trans gl),cl,nl,dl⟩
    .subst z;rw[gd]at gl;cases gl;rw[cd.1]at cl;exact absurd (Ax cl) ⋯
    .subst z;rw[gi]at gl;cases gl;rw[ci]at cl;exact absurd (Ax cl) ⋯
   .rw[hvs];exact hr.keep hst k2
   .have:=zal xs x.1 x.2.1 x.2.2;erw[Ag]at hz;lia
def zab{knd:Dh prog w K}(hst:∀{h h' k a},knd.is h k a->(∀b o,h.get? b=AA o->o.cls=.type "tuple"->h'.get? b=AA o)->knd.is h' k a){t:AI}{its:List AD}{E:AD->AG->Prop}{s:AG}{Q:AD->AG->Prop}(hh:A.handled=AF)(hu:∀A':A5,A'.units<=A.units+8->knd.room A')
  {rest:List (K×AI×AD)} {n0:Nat} (ht:s.heap.get? t=AA {cls:=.type "list",data:=.seq its.toArray n0}) (hp:yF knd s.heap its rest) (hz:rest.length<=sizeLine)
  (h:∀h' tk,h'.DictOfH knd s.heap.objs.size (yN [] rest)->(∀b o,s.heap.get? b=AA o->h'.get? b=AA o)->Q (.ref s.heap.objs.size) {s with heap:=h',toks:=tk}):
  AN (model prog w) A (call (.type "dict") [.ref t]) Q E s:=by
 refine callType_codes (Q₁:=λobj s₁=>obj=.ref s.heap.objs.size/\s₁={s with heap:=s.heap.push {cls:=.type "dict",data:=.dict #[]} }) F.kt_called_dict (F.kt_typeCall_dict_1 _) F.entry_dict_init (kt_code_dict_new _ ⟨rfl,rfl⟩) ?_
 rintro obj s₁ ⟨rfl,rfl⟩
 have hnew:(s.heap.push {cls:=.type "dict",data:=.dict #[]}).DictOfH knd s.heap.objs.size []:=Gm s.heap;have kp1:∀b o,s.heap.get? b=AA o->(s.heap.push {cls:=.type "dict",data:=.dict #[]}).get? b=AA o:=λb o e=>AL _ e;refine⟨hnew.typeIs,F.args_dict_init_2 _ _,?_⟩;unfold EG.«dict.__init__»;refine AB ?_;unfold GQ;refine AB (Ck hnew.typeIs ?_);show AN _ _ (pure (s.heap.objs.size,[A8 t])) _ _ _;refine AK ?_;show AN _ _ (Dt "dict.__init__" s.heap.objs.size (.ref t) [] .none) _ _ _;unfold Dt;have ht1:=kp1 _ _ ht;refine AB (DI (T:="list") ⟨_,ht1,rfl⟩ ?_);rw[if_pos ⋯];refine AB (zaE (s:={s with heap:=s.heap.push {cls:=.type "dict",data:=.dict #[]} }) ht1 (by simpa using hh) λh2 tk2 kp2=>?_);have kp12:∀b o,s.heap.get? b=AA o->h2.get? b=AA o:=λb o e=>kp2 b o (kp1 b o e);have ht2:=kp12 _ _ ht;have hd2:h2.DictOfH knd s.heap.objs.size []:=by
  let⟨o,es,ep,g,c,r⟩:=hnew;exact⟨o,es,ep,kp2 _ _ g,c,r.1,r.2.1,λx hx=>by simp at hx,r.2.2.2⟩
 show AN _ _ (rule _ >>= _) _ _ _;refine AB (Dx ?_);refine AB (D7 (s:={s with heap:=h2,toks:=tk2}) ⟨_,ht2,rfl,_,rfl⟩ ?_);refine AK ⟨plainId_quiet ze _,?_⟩;have kp3:∀b o,h2.get? b=AA o->(h2.push {cls:=.type "list_iterator",data:=.fields #[.ref t,.int 0 0]}).get? b=AA o:=λb o e=>AL _ e;refine zbv hst (t:=t) (its:=its.toArray) ?_ ?_ rest 0 [] _ ⟨_,AX _ rfl,rfl,rfl⟩ ⟨_,kp3 _ _ ht2,rfl,_,rfl⟩ ?_ ?_ (by simpa using hz) λh' tk a b=>⟨rfl,?_⟩
 .simpa using hh
 .exact hu _ (by simp)
 .have:yF knd h2 its rest:=hp.keep hst λb o e _=>kp12 b o e;simpa using this.keep hst λb o e _=>kp3 b o e
 .let⟨o,es,ep,g,c,r⟩:=hd2;exact⟨o,es,ep,kp3 _ _ g,c,r.1,r.2.1,λx hx=>by simp at hx,r.2.2.2⟩
 .refine h h' tk a λc o g=>b c o (λz=>?_) (λz=>?_) (kp3 _ _ (kp12 _ _ g))
  .subst z;exact absurd (AO g) (Br _)
  .have l1:=AO (kp12 _ _ g);rw[z]at l1;exact absurd l1 (Br _)
end
end PySem
namespace L2
open PySem PySem.Spec PyProof.Rows
section
variable {X:Cx}
def za6(hu:X.A.units+16<cLine)(hc:X.calm=AC):yM X (.type "dict") (λxs H Q=>∃p ps kvs,xs=[.ref p]/\H p=AA (.lst ps)/\DPs H ps kvs/\kvs.length<=1000/\∀d,H d=AF->Q (.ref d) (upd H d (.dT (yP [] kvs)))):=by
 intro π s σ H xs us Q I r h;let⟨p,ps,kvs,rfl,hp,hd,hl,q⟩:=h;let⟨u,rfl,rx⟩:=vals1 r
 cases rx
 let⟨_,its,n0,rv,g⟩:=(show yp X.prog X.w H s.heap p (.lst ps)from I.hok p _ hp);let⟨rs,pr,kt⟩:=za8 I.hok hd rv;have hn:H s.heap.objs.size=none:=I.hok.fresh (AS _);refine zab zcc (I.ok.hd hc) (λA' z=>show A'.units+8<cLine by lia) g pr (by rw[<-Bq kt,Av];lia) λh' tk dd kp=>⟨.ref s.heap.objs.size,_,I.laid (t':=tk) kp (AS _) ?_,rfl,q _ hn⟩;let⟨o,es,ep,h1,h2,h3,h4,_,h5⟩:=dd;have ml:(yP [] kvs).length<=0+kvs.length:=zY kvs [];have ml2:(yP [] kvs).length<=sizeLine:=by rw[Av];lia
 refine⟨ml2,?_,_,((kt.merge .nil)).keeps λc ys ec=>?_,o,es,ep,h1,h2,h3,h4,h5⟩
 .have:=I.big;exact beq_eq_false_iff_ne.2 (Dy this)
 .rw[za (zb ec hn)];exact ec
end
end L2
namespace PySem
open Sem (wp)
section
variable {prog:AT}{w:A3}{A:A5}{E:AD->AG->Prop}{s:AG}
def zfC{d:AI}{od:B6}{es:Array BU}{ep:Nat}{Q:AD->AG->Prop}(hd:(d==sysModules)=AH)(hod:s.heap.get? d=AA od)(hT:s.TypeIs (.ref d) "dict")(hdd:od.data=.dict es ep)
  (hQ:Q (.ref s.heap.objs.size) {s with heap:=s.heap.push {cls:=.type "dict_keyiterator",data:=.fields #[.ref d,.int 0 0,.int es.size 0,.int ep 0]} }):
  AN (model prog w) A (pyIter (.ref d)) Q E s:=by
 refine FO hT FY (BH FY hT F.entry_dict_iter ?_ (F.args_dict_iter_1 _));unfold EG.«dict.__iter__»;refine AB ?_;unfold Fy;refine AB (Ck hT ?_);show AN _ _ (pure (A8 d)) _ _ s;refine AK ?_;show AN _ _ (Cm d >>= _) _ _ s;unfold Cm;rw[if_neg (by rw[hd];exact AQ)];refine AB (AK ?_);refine AB (B8 hod hdd ?_);refine AB (CZ hod hdd ?_);refine AB (Au (AK ⟨_,rfl,"dict_keyiterator",_,⟨_,AX _ rfl,rfl⟩,Ay.lookup,?_⟩));simpa [rawInt] using hQ
def zfZ{it d:AI}{i ep:Nat}{od:B6}{es:Array BU}{Q:Option AD->AG->Prop}(hit:s.heap.IsKeyIter it d i es.size ep)
  (hod:s.heap.get? d=AA od) (hdd:od.data=.dict es ep) (hlt':i<es.size)
  (hQ:∀h',h'.IsKeyIter it d (i+1) es.size ep->By it s.heap h'->Q (AA es[i].key) {s with heap:=h'}):
  AN (model prog w) A (pyNext (.ref it)) Q E s:=by
 let⟨o,ho,hc,hd⟩:=id hit;unfold pyNext;refine AB (wpAny_attempt (BO (name:=Ar "__next__") hit.typeIs Ay
  (BH Ay hit.typeIs Cy ?_ (Cq _))))
 refine AB (AK ?_);refine AB ?_;refine AB ?_
 first|refine AB (B5 hit.typeIs (AK ?_))|refine AB (Bt hit.typeIs (AK ?_))
 refine AB (wpAny_fieldsOf ho hd ?_);have hown:DE "dict_keyiterator"=false:=by decide
 erw[hown,BC,if_false];show AN _ _ (if (A8 d==BI)=AC then _ else _) _ _ s;rw[if_neg (show ¬((A8 d==BI)=AC)from AQ)];refine AB (AK ?_);refine AB (B8 hod hdd ?_);rw[if_neg (by simp)];refine AB (AK ?_);refine AB (CZ hod hdd ?_);rw[if_neg (by simp)];refine AK ?_;erw[show ¬((i:Int)<0)from by lia,if_false,Cb,D4 hlt'];refine AB ?_
 first|refine AB (B5 hit.typeIs (AK ?_))|refine AB (Bt hit.typeIs (AK ?_))
 refine AB (EX hit.typeIs ?_);show AN _ _ (setField (.ref it) 1 (rawInt ((i:Int)+1)) >>= _) _ _ s;refine AB (Cc ho hd (by simp) ?_);have hit':(s.heap.update it (Ek (·.setIfInBounds 1 (rawInt ((i:Int)+1))))).IsKeyIter it d (i+1) es.size ep:=
  ⟨_,Cg _ ho (EW (C0 hd _)),(FK ..).trans hc,by rw[C0 hd];simp[rawInt]⟩
 refine AB (BD ?_);refine AB (EX (s:={s with heap:=s.heap.update it (Ek (·.setIfInBounds 1 (rawInt ((i:Int)+1))))}) hit'.typeIs ?_);show AN _ _ (pure es[i].key) _ _ _;exact AK (AK ⟨_,rfl,AK (hQ _ hit' (CO ..))⟩)
def zhf{it d:AI}{i ep:Nat}{od:B6}{es:Array BU}{Q:Option AD->AG->Prop}(hh:A.handled=AF)(hit:s.heap.IsKeyIter it d i es.size ep)
  (hod:s.heap.get? d=AA od) (hdd:od.data=.dict es ep) (hge:es.size<=i)
  (hQ:∀h',Ga it s.heap h'->Q AF {s with heap:=h'}):AN (model prog w) A (pyNext (.ref it)) Q E s:=by
 let⟨o,ho,hc,hd⟩:=id hit;unfold pyNext;refine AB (wpAny_attempt (BO (name:=Ar "__next__") hit.typeIs Ay
  (BH Ay hit.typeIs Cy ?_ (Cq _))))
 refine AB (AK ?_);refine AB ?_;refine AB ?_
 first|refine AB (B5 hit.typeIs (AK ?_))|refine AB (Bt hit.typeIs (AK ?_))
 refine AB (wpAny_fieldsOf ho hd ?_);have hown:DE "dict_keyiterator"=false:=by decide
 erw[hown,BC,if_false];show AN _ _ (if (A8 d==BI)=AC then _ else _) _ _ s;rw[if_neg (show ¬((A8 d==BI)=AC)from AQ)];refine AB (AK ?_);refine AB (B8 hod hdd ?_);rw[if_neg (by simp)];refine AB (AK ?_);refine AB (CZ hod hdd ?_);rw[if_neg (by simp)];refine AK ?_;erw[show ¬((i:Int)<0)from by lia,if_false,Cb,Array.getElem?_eq_none hge];refine AB ?_
 first|refine AB (B5 hit.typeIs (AK ?_))|refine AB (Bt hit.typeIs (AK ?_))
 show AN _ _ (setField (.ref it) 0 .none >>= _) _ _ s;refine AB (Cc ho hd (by simp) ?_);show AN _ _ (newExc (.type "StopIteration") [] >>= _) _ _ _;refine AB ?_;erw[newExc,newTuple];refine AB (Au ?_ (by size_fits));refine AB (m:=firstArgMember _ _) (wpAny_of_eq (a:=BI) (by first|rfl|(erw[firstArgMember];rfl)) ?_);refine Au ?_ (by size_fits);erw[raiseNew];refine AB (wpAny_handled ?_);rw[show A.in1.handled=AF from hh];refine AB (AK (wpAny_throw ?_));refine AB (Dg (T:="StopIteration") (b:=AC) ⟨_,AX _ rfl,rfl⟩ isSubtype_stop ?_);exact AK (hQ _ (((CO ..).extBut.push _).push _))
def zf0{it d:AI}{i n ep:Nat}{Q:AD->AG->Prop}(hit:s.heap.IsKeyIter it d i n ep)(h:Q (.ref it) s):AN (model prog w) A (pyIter (.ref it)) Q E s:=by
 refine FO hit.typeIs DF (BH DF hit.typeIs F.entry_dict_keyiterator_iter ?_ (F.args_dict_keyiterator_iter_1 _));show AN _ _ (ret (.ref it)) _ _ s;exact AK ⟨_,rfl,"dict_keyiterator",_,hit.typeIs,Ay.lookup,h⟩
end
end PySem
namespace L2
open PySem PySem.Spec PyProof.Rows
def ycZ(X:Cx)(a:AI):Prop:=∀o u,X.H₀ a≠AA (.frz o u)
section
variable {X:Cx}{π:List (AI×B6)}{σ:St}{H:Hp}{s:AG}{a:AI}{o:B6}{u:HO}
theorem Inv.noFz(I:Inv X π σ H s)(h:∀o v,H a≠AA (.frz o v)):ycZ X a:=λo v e=>h o v (I.base.frzs a o v e)
theorem Inv.fz(I:Inv X π σ H s)(mu:Mut (H a))(e:H a=AA u)(g:s.heap.get? a=AA o)(nt:∀xs,u ≠ .tup xs):Inv X π σ (upd H a (.frz o u)) s:=by
 refine I.write (t':=s.toks) (h':=s.heap) mu (.inl rfl) (λ_ _ _ q=>q) ⟨o,g⟩ ⟨by rw[<-g],?_⟩;refine(I.hok a u e).stay (λ_ _ _ q=>q) (λb q=>?_) λb xs q=>?_
 .rw[za λz=>?_];exact q;subst z;rw[q]at mu;exact mu
 .rw[za λz=>?_];exact q;subst z;rw[q]at mu;exact mu
theorem Inv.unfz(I:Inv X π σ H s)(e:H a=AA (.frz o u))(n:ycZ X a):Inv X π σ (upd H a u) s:=by
 have nn:∀b,H b=AF->b≠a:=λb q z=>by subst z;rw[e]at q;cases q
 refine⟨I.ok,I.os,I.bare,⟨I.base.keep,I.base.slot,λb ob q m hx=>?_,I.base.there,λb xs q=>?_,λb ob v q=>?_,λb ps q=>?_⟩,I.loc,I.cell,?_,λx c q=>?_,λp hp=>?_,λb v q=>?_,I.len⟩
 .have:=I.base.free b ob q m hx;rw[za (nn b this)];exact this
 .have:=I.base.tups b xs q;rw[za λz=>by subst z;rw[e]at this;cases this];exact this
 .rw[za λz=>by subst z;exact n _ _ q];exact I.base.frzs b ob v q
 .let⟨more,h⟩:=I.base.tbls b ps q;exact⟨more,by rw[za λz=>by subst z;rw[e]at h;cases h];exact h⟩
 .rw[za (nn _ I.free)];exact I.free
 .rw[za (nn _ (I.freeC x c q))];exact I.freeC x c q
 .let⟨q1,q2,q3⟩:=I.pin p hp;exact⟨q1,by rw[za (nn _ q2)];exact q2,q3⟩
 .have ho:∀c y,H c=AA (.own y)->upd H a u c=AA (.own y):=λc y r=>by rw[za λz=>by subst z;rw[e]at r;cases r];exact r
  have ht:∀c xs,H c=AA (.tup xs)->upd H a u c=AA (.tup xs):=λc xs r=>by rw[za λz=>by subst z;rw[e]at r;cases r];exact r
  by_cases hb:b=a
  .subst hb;rw[zc]at q
   cases q
   exact(I.hok b _ e).2.stay (λ_ _ _ q=>q) (λc r=>ho c _ r) ht
  .rw[za hb]at q;exact(I.hok b v q).stay (λ_ _ _ q=>q) (λc r=>ho c _ r) ht
def ycL(X:Cx)(t:TE):TE:=λσ H Q=>t σ H λx H'=>∃a o u,H' a=AA (.frz o u)/\ycZ X a/\Q x (upd H' a u)
def zgz{e:AM}{t:TE}(h:PE X e t):PE X e (ycL X t):=λπ s σ H Q I q=>
 thn (h π s σ H _ I q) λv s1 ⟨x,H1,I1,r1,a,o,u,e1,n1,q1⟩=>⟨x,_,I1.unfz e1 n1,r1,q1⟩
end
def ydp(a:AI)(o:B6)(kvs:List (List NK×V)):It:=
 ⟨λi H=>H a=AA (.frz o (.dT kvs))/\i<kvs.length,λi H x H'=>H'=H/\∃k v b,kvs[i]?=AA (k,v)/\x=.ref b/\KyR H k b,λi H=>H a=AA (.frz o (.dT kvs))/\kvs.length<=i⟩
theorem KT.at{H:Hp}{kvs:List (List NK×V)}{xs:List (List NK×AI×AD)}(r:KT H kvs xs):∀{i:Nat} {p:List NK×V},kvs[i]?=AA p->∃q,xs[i]?=AA q/\p.1=q.1/\KyR H p.1 q.2.1/\RelV p.2 q.2.2:=by
 induction r with
 |nil=>intro i p e;simp at e
 |@cons p q ps qs h t ih=>
  intro i p' e
  cases i with
  |zero=>simp at e;subst e;exact⟨q,rfl,h⟩
  |succ i=>exact ih (by simpa using e)
theorem KT.keys{H:Hp}{kvs:List (List NK×V)}{xs:List (List NK×AI×AD)}(r:KT H kvs xs):kvs.map (·.1)=xs.map (·.1):=by
 induction r with
 |nil=>rfl
 |cons h t ih=>erw[A2];rw[h.1,ih]
def zdF{P:AT}{w:A3}{K:AE}{tg:AM}{a it:AI}{o:B6}{kvs:List (List NK×V)}{es:Array BU}{ep:Nat}(hd:o.data=.dict es ep):
  Turn P w K tg (ydp a o kvs) [it] it (λi h=>es.size=kvs.length/\h.IsKeyIter it a i es.size ep) where
 mem:=by simp
 obj:=λi h st b hb=>by
  have e:b=it:=by simpa using hb
  subst e;let⟨_,o,e,c,d⟩:=st;exact⟨o,e,λv z=>by rw[d]at z;cases z⟩
 keep:=λi h h' st k=>by
  let⟨l,o,e,r⟩:=st;exact⟨l,o,k it (by simp) o e,r⟩
 item:=by
  intro X hP hw hK hc i π s σ H E I hf st hg;subst hP hw hK;let⟨hq,hi⟩:=hg;let⟨g,z,y,xs,r,o',es',ep',h1,h2,h3,h4,h5⟩:=(show yp X.prog X.w H s.heap a (.frz o (.dT kvs))from I.hok a _ hq);rw[g]at h1
  cases h1
  rw[hd]at h3
  cases h3
  let⟨f0,f1,f2,f3,f4,f5⟩:=hf it (by simp);refine zfZ st.2 g hd (by rw[st.1];exact hi) λh' st' sb=>?_;have I1:Inv X π σ H {s with heap:=h'}:=I.turned (t':=s.toks) (λb o hb e=>(sb.2 b hb).trans e) f0 f1 f3 f4 f5;obtain⟨⟨k,v⟩,hkv⟩:∃p,kvs[i]?=AA p:=⟨kvs[i],BL hi⟩;let⟨q,hq2,e1,e2,e3⟩:=KT.at r hkv;have hek:es[i]'(by rw[st.1];exact hi)=entryOfKey (yR X.prog X.w) q:=by
   have h6:es.toList[i]?=AA (entryOfKey (yR X.prog X.w) q):=by rw[h4,BA,hq2];rfl
   rw[Cj,D4 (by rw[st.1];exact hi)]at h6;exact AW h6
  let⟨o2,e,c,d⟩:=id st';refine⟨_,rfl,zeC (s:={s with heap:=h'}) e c d ⋯ ⟨.ref q.2.1,H,I1,?_,⟨rfl,k,v,q.2.1,hkv,rfl,e2⟩,⟨st.1,st'⟩,λb hb=>(hf b hb).1⟩⟩;rw[hek];rfl
 done:=by
  intro X hP hw hK hc i π s σ H E I hf st hg;subst hP hw hK;let⟨hq,hi⟩:=hg;let⟨g,_⟩:=(show yp X.prog X.w H s.heap a (.frz o (.dT kvs))from I.hok a _ hq);let⟨f0,f1,f2,f3,f4,f5⟩:=hf it (by simp);exact zhf (I.ok.hd hc) st.2 g hd (by rw[st.1];exact hi) λh' eb=>⟨rfl,I.turned (t':=s.toks) (λb o hb e=>eb b o hb e) f0 f1 f3 f4 f5⟩
 self:=λ_ _ _ _ _ st h=>zf0 st.2 h
section
variable {X:Cx}{tg:AM}
def ycf(X:Cx)(tl:TE):TI:=λσ H R=>tl σ H λx H1=>∃a kvs,x=.ref a/\H1 a=AA (.dT kvs)/\∀o,ycZ X a->(kvs.map (·.1)).Nodup->R (ydp a o kvs) (upd H1 a (.frz o (.dT kvs)))
def zf3{l:AM}{tl:TE}(hl:PE X l tl):PI X tg l (ycf X tl):=by
 intro π s σ H R I h;refine thn (hl π s σ H _ I h) λv s1 kq=>?_;let⟨x,H1,I1,r1,q1⟩:=kq;let⟨a,kvs,e,hq,q⟩:=q1;subst e
 cases r1
 let⟨z,y,xs,r,o,es,ep,h1,h2,h3,h4,h5⟩:=(show yp X.prog X.w H1 s1.heap a (.dT kvs)from I1.hok a _ hq);have hsz:es.size=kvs.length:=by
  have:=congrArg B4 h4;rw[BN,<-Bq r]at this;simpa using this
 have nd:(kvs.map (·.1)).Nodup:=by rw[KT.keys r];exact h5
 refine zfC y h1 ⟨o,h1,h2.1⟩ h3 ?_;have I2:=I1.fz (by rw[hq];exact Ba) hq h1 λxs z=>by cases z
 have hn:H1 s1.heap.objs.size=none:=I1.hok.fresh (AS _);have hne:s1.heap.objs.size≠a:=λz=>by rw[z]at hn;rw[hn]at hq;cases hq
 refine⟨s1.heap.objs.size,[s1.heap.objs.size],_,ydp a o kvs,upd H1 a (.frz o (.dT kvs)),rfl,I2.kept (t':=s1.toks) λb o e=>AL _ e,zdF h3,⟨hsz,_,AX _ rfl,rfl,rfl⟩,λb hb=>?_,
  q o (I1.noFz λo v z=>by rw[hq]at z;cases z) nd⟩
 have e:b=s1.heap.objs.size:=by simpa using hb
 subst e;exact I1.fpOk (AS _) (by rw[za hne];exact hn)
end
end L2
namespace PySem.W
open PySem PySem.Calls PyProof.Rows
def ycR{α:Type}(f:Bool):KasT α->Option α
 |.ret a=>AA a
 |.ask i j k=>if i=1/\j=0 then ycR f (k f)else AF
def zdP{α:Type}{f:Bool}{cmp:Nat->Nat->(Bool->AG->Prop)->AG->Prop}{Q:α->AG->Prop}{s:AG}(h:∀C:Bool->AG->Prop,C f s->cmp 1 0 C s):
  ∀(t:KasT α) (a:α),ycR f t=AA a->Q a s->t.kasWp cmp Q s
 |.ret a,b,e,q=>by cases e;exact q
 |.ask i j k,b,e,q=>by
  erw[ycR]at e;split at e
  .rename_i c;let⟨rfl,rfl⟩:=c;exact h _ (zdP h (k f) b e q)
  .cases e
section
variable {prog:AT}{w:A3}{A:A5}{E:AD->AG->Prop}{s:AG}{a:AI}{x y:AD}
def ybD(prog:AT)(w:A3)(A:A5)(s:AG)(x y:AD)(f:Bool):Prop:=
 (∀Q:SortKind->AG->Prop,Q (tuples' AC) s->AN (model prog w) A (keyKind' #[x,y]) Q (λ_ _=>False) s) /\
 ∀Q:Bool->AG->Prop,Q f s->AN (model prog w) A (keyLt' (tuples' AC) y x) Q (λ_ _=>False) s
def outTwo(f:Bool)(x y:AD):List Value:=if f=AC then [y,x]else [x,y]
theorem srt_tree{n:Nat}{f:Bool}{P:GW->AG->Prop}(ho:s.heap.get? a=AA (seqObj "list" [x,y].toArray n))
  (hk:∀h',(∀b o,b≠a->s.heap.get? b=AA o->h'.get? b=AA o)->ybD prog w A {s with heap:=h'} x y f)
  (h:P (.done (.ret .none)) {s with heap:=sortedHeap s.heap a [x,y] (outTwo f x y).toArray}):
  AN (model prog w) A (EG.«list.sort» ⟨[.ref a],[]⟩) P E s:=by
 rw[F7];have ha:a<s.heap.objs.size:=AO ho;refine AB (listItems_at ho rfl ?_);refine AB (Db ho rfl ?_ (by simp[Av]) (BK _));obtain⟨e1,ho1⟩:∃e1,(s.heap.update a (Aw λ_=>(#[]:Array AD))).get? a=AA (seqObj "list" #[] e1):=⟨_,F8 ho λ_=>#[]⟩;refine AB (E6 ho1 rfl ?_);refine AB (wpAny_newTuple ?_ (by simp[Av]));refine AB (En ?_ (BK _));refine BD ?_;have ho6:(((s.heap.update a (Aw λ_=>(#[]:Array AD))).push (seqObj "tuple" [x,y].toArray 0)).push (seqObj "list" #[] 0)).get? a=AA (seqObj "list" #[] e1):=by
  rw[Bp _ _ _ (by rw[Fm,CL];exact A0 (Cf ha)),Bp _ _ _ (by rw[CL];exact A0 ha)];exact ho1
 show AN (model prog w) A _ P E {s with heap:=((s.heap.update a (Aw λ_=>(#[]:Array AD))).push (seqObj "tuple" [x,y].toArray 0)).push (seqObj "list" #[] 0)};dsimp only;have hn2:¬ [x,y].toArray.size<2:=by simp
 rw[if_neg hn2,if_neg hn2];let⟨k1,k2⟩:=hk (((s.heap.update a (Aw λ_=>(#[]:Array AD))).push (seqObj "tuple" [x,y].toArray 0)).push (seqObj "list" #[] 0)) λb o hb e=>by
  refine AL _ (AL _ ?_);rw[Ee _ _ _ _ hb];exact e
 refine AB (BW (k1 (λκ s'=>κ=tuples' AC/\s'={s with heap:=((s.heap.update a (Aw λ_=>(#[]:Array AD))).push (seqObj "tuple" [x,y].toArray 0)).push (seqObj "list" #[] 0)}) ⟨rfl,rfl⟩) ?_ λ_ _ z=>z.elim)
 rintro κ s' ⟨rfl,rfl⟩
 refine AB (BW (kat_run (ks:=[x,y]) (vs:=[x,y]) (G:=λp s'=>s'={s with heap:=((s.heap.update a (Aw λ_=>(#[]:Array AD))).push (seqObj "tuple" [x,y].toArray 0)).push (seqObj "list" #[] 0)}/\p=(if f=AC then #[1,0]else #[0,1])) (Q:=λst' s'=>(arrOf st').map (·.2)=(outTwo f x y).toArray/\failedOf st'=AF/\s'={s with heap:=((s.heap.update a (Aw λ_=>(#[]:Array AD))).push (seqObj "tuple" [x,y].toArray 0)).push (seqObj "list" #[] 0)})
  rfl (show 2<=2 by decide) (show 2<64 by decide) (λp st' s' a1 a2 a3 a4=>⟨?_,a3,a4.1⟩) ?_) ?_ λ_ _ e=>e)
 .rw[kat_snds (vs:=[x,y]) rfl a2,a4.2]
  cases f<;>rfl
 .refine zdP (f:=f) (λC hC=>k2 C hC) _ (if f=AC then #[1,0]else #[0,1]) ?_ ⟨rfl,rfl⟩;show ycR f (kas_sort 2)=_
  cases f<;>decide
 rintro⟨⟨⟩,st'⟩ s' ⟨har,hf,rfl⟩
 dsimp only;rw[har];have hsz:(outTwo f x y).toArray.size<=sizeLine:=by cases f<;>simp[outTwo,Av]
 refine AB (E6 ho6 rfl ?_);refine AB (Db ho6 rfl ?_ (BK _) (D8 hsz));rw[hf];erw[bne_self_eq_false,BC,if_false];exact AK h
theorem srt_tree1{n:Nat}{vs:List AD}{P:GW->AG->Prop}(h2:vs.length<2)(ho:s.heap.get? a=AA (seqObj "list" vs.toArray n))
  (h:P (.done (.ret .none)) {s with heap:=sortedHeap s.heap a vs vs.toArray}):
  AN (model prog w) A (EG.«list.sort» ⟨[.ref a],[]⟩) P E s:=by
 rw[F7];have ha:a<s.heap.objs.size:=AO ho;have hz:vs.toArray.size<=sizeLine:=by rw[AU,Av];lia
 refine AB (listItems_at ho rfl ?_);refine AB (Db ho rfl ?_ hz (BK _));obtain⟨e1,ho1⟩:∃e1,(s.heap.update a (Aw λ_=>(#[]:Array AD))).get? a=AA (seqObj "list" #[] e1):=⟨_,F8 ho λ_=>#[]⟩;refine AB (E6 ho1 rfl ?_);refine AB (wpAny_newTuple ?_ (by show vs.length<=_;rw[Av];lia));refine AB (En ?_ (BK _));refine BD ?_;have ho6:(((s.heap.update a (Aw λ_=>(#[]:Array AD))).push (seqObj "tuple" vs.toArray 0)).push (seqObj "list" #[] 0)).get? a=AA (seqObj "list" #[] e1):=by
  rw[Bp _ _ _ (by rw[Fm,CL];exact A0 (Cf ha)),Bp _ _ _ (by rw[CL];exact A0 ha)];exact ho1
 show AN (model prog w) A _ P E {s with heap:=((s.heap.update a (Aw λ_=>(#[]:Array AD))).push (seqObj "tuple" vs.toArray 0)).push (seqObj "list" #[] 0)};dsimp only;have hlt:vs.toArray.size<2:=by simpa using h2
 rw[if_pos hlt,if_pos hlt];refine AB (AK ?_);rw[StateT.run_pure];refine AB (AK ?_);dsimp only;have hout:(arrOf (SortSt.mk' general' (vs.toArray.zip vs.toArray) #[] 7 AF)).map (·.2)=vs.toArray:=by
  show ((vs.toArray.zip vs.toArray).map (·.2))=vs.toArray;apply Array.toList_inj.mp;simp[List.map_snd_zip]
 rw[hout];refine AB (E6 ho6 rfl ?_);refine AB (Db ho6 rfl ?_ (BK _) (D8 hz));erw[bne_self_eq_false,BC,if_false];exact AK h
theorem srt_call{l:AI}{vs out:List AD}{Q:AD->AG->Prop}(hl:s.heap.IsList l vs.toArray)(h64:vs.length<=2)
  (ht:∀(s':AG) (a:AI) (n:Nat) (P:GW->AG->Prop) (E:AD->AG->Prop),(∀b o,s.heap.get? b=AA o->s'.heap.get? b=AA o/\b≠a)->s'.heap.get? a=AA (seqObj "list" vs.toArray n)->P (.done (.ret .none)) {s' with heap:=sortedHeap s'.heap a vs out.toArray} ->
   AN (model prog w) A.in1.in1 (EG.«list.sort» ⟨[.ref a],[]⟩) P E s')
  (h:Q (.ref (s.heap.objs.size+1)) {s with heap:=sortedAll s.heap vs out.toArray}):
  AN (model prog w) A (call (.builtin "sorted") [.ref l]) Q E s:=by
 refine Calls.call_function_entry kind_sorted plain_sorted entry_sorted (args_sorted1 _) ?_;unfold EG.«sorted»;refine AB (m:=checkCount "sorted" 1 1 _) (AK ?_);refine AB (collect_list hl ?_ (by rw[Av];lia));refine AB (En ?_ (by rw[Av];lia));have hsz:((s.heap.push (seqObj "list" #[] 0)).update s.heap.objs.size (Aw (·++vs.toArray))).objs.size=s.heap.objs.size+1:=by
  rw[CL,Fm]
 have hoL:(((s.heap.push (seqObj "list" #[] 0)).update s.heap.objs.size (Aw (·++vs.toArray))).push (seqObj "list" vs.toArray 0)).get? (s.heap.objs.size+1)=AA (seqObj "list" vs.toArray 0):=by
  rw[<-hsz];exact AX _ rfl
 have keep:∀b o,s.heap.get? b=AA o->(((s.heap.push (seqObj "list" #[] 0)).update s.heap.objs.size (Aw (·++vs.toArray))).push (seqObj "list" vs.toArray 0)).get? b=AA o:=λb o q=>by
  have hlt:b<s.heap.objs.size:=AO q;rw[Bp _ _ _ (by rw[hsz];exact A0 (Cf hlt)),Ee _ _ _ _ (A0 hlt),Bp _ _ _ (A0 hlt)];exact q
 show AN _ _ _ _ _ {s with heap:=((s.heap.push (seqObj "list" #[] 0)).update s.heap.objs.size (Aw (·++vs.toArray))).push (seqObj "list" vs.toArray 0)};rw[hsz];refine AB (BD (BH slot_list_sort ⟨_,hoL,rfl⟩ entry_list_sort (ht {s with heap:=((s.heap.push (seqObj "list" #[] 0)).update s.heap.objs.size (Aw (·++vs.toArray))).push (seqObj "list" vs.toArray 0)} _ 0 _ _ (λb o q=>⟨keep b o q,A0 (Cf (AO q))⟩) hoL ⟨_,rfl,?_⟩) (args_list_sort _)));exact AK ⟨_,rfl,h⟩
def ltT(a b:AR×Int×Int):Bool:=if a.1=b.1 then(if a.2.1==b.2.1 then(if a.2.2==b.2.2 then AH else decide (a.2.2<b.2.2))else decide (a.2.1<b.2.1))else decide (a.1.cps.toList<b.1.cps.toList)
theorem ask_two{b c:AI}{p q:AR×Int×Int}{t1 t2 t3 u1 u2 u3:Gh}(gb:s.heap.get? b=AA {cls:=.type "tuple",data:=.seq #[.str p.1 t1,.int p.2.1 t2,.int p.2.2 t3]})(gc:s.heap.get? c=AA {cls:=.type "tuple",data:=.seq #[.str q.1 u1,.int q.2.1 u2,.int q.2.2 u3]}):
  ybD prog w A s (.ref b) (.ref c) (ltT q p):=by
 refine⟨λQ h=>?_,λQ h=>?_⟩
 .refine kat_kind (vs:=[.ref b,.ref c]) (fs:=[.str p.1 t1,.str q.1 u1]) (T:=.type "str") (.cons gb rfl rfl rfl (.cons gc rfl rfl rfl .nil)) (show 0<2 by decide) (λv hv=>?_) ⋯ h;have:∃x t,v=.str x t:=by
   erw[Ac,Cr,or_false]at hv;rcases hv with rfl|rfl<;>exact⟨_,_,rfl⟩
  let⟨x,t,rfl⟩:=this;exact .now
 .refine kat_lt gc rfl gb rfl (kat_cons (FP ?_));unfold ltT at h
  by_cases e1:q.1=p.1
  .rw[if_pos e1]at h;rw[show decide (q.1=p.1)=AC from by simp[e1]];refine kat_yes (kat_cons (Co ?_))
   cases e2:(q.2.1==p.2.1)with
   |true=>
    rw[e2,if_pos rfl]at h;refine kat_yes (kat_cons (Co ?_))
    cases e3:(q.2.2==p.2.2)with
    |true=>
     rw[e3,if_pos rfl]at h;exact kat_yes (kat_nil h)
    |false=>
     rw[e3,if_neg ⋯]at h;exact kat_no (kat_one _ _ (lt_int h))
   |false=>
    rw[e2,if_neg ⋯]at h;exact kat_no (kat_one _ _ (lt_int h))
  .rw[if_neg e1]at h;rw[show decide (q.1=p.1)=AH from by simp[e1]];exact kat_no (oneLt_str h)
end
end PySem.W
namespace PySem
open Sem (wp)
section
variable {prog:AT}{w:A3}{K:Type}[DecidableEq K]{knd:Dh prog w K}{A:A5}{E:AD->AG->Prop}{s:AG}
def ycs:AD->Int
 |.int i _=>i
 |_=>0
def ycg(xs:List (K×AI×AD)):Prop:=∀x∈xs,∃i t,x.2.2=.int i t
def yad(xb:List (K×AI×AD))(x:K×AI×AD):Bool:=match atKey xb x.1 with
 |some p=>ycs x.2.2==ycs p.2
 |none=>AH
def zbh{nm:String}{a b:AI}{xa xb:List (K×AI×AD)}{Q:Bool->AG->Prop}(hu:knd.room A)(ha:(a==sysModules)=AH)(hb:(b==sysModules)=AH)
  (da:s.heap.DictOfH knd a xa) (db:s.heap.DictOfH knd b xb) (ia:ycg xa) (ib:ycg xb) (h:Q (xa.length==xb.length&&xa.all (yad xb)) s):
  AN (model prog w) A (EJ nm a b) Q E s:=by
 let⟨oa,es,ep,hoa,_,hda,hpa,hka,hna⟩:=da;let⟨ob,es',ep',hob,_,hdb,hpb,hkb,hnb⟩:=db;have hla:xa.length=es.size:=(F9 hpa).symm;have hlb:xb.length=es'.size:=(F9 hpb).symm;rw[hla,hlb]at h;unfold EJ Cm;rw[if_neg (show ¬(a==sysModules)=AC by rw[ha];exact AQ),if_neg (show ¬(b==sysModules)=AC by rw[hb];exact AQ)];refine AB (AK (AB (AK ?_)));refine AB (B8 hoa hda ?_);dsimp only;refine AB (B8 hob hdb ?_)
 by_cases hsz:es.size=es'.size
 case neg=>
  rw[if_pos (by simpa using hsz)];have hbf:(es.size==es'.size)=false:=by simpa using hsz
  rw[hbf,DR]at h;exact AB (Dx (AK h))
 case pos=>
  have h':Q (xa.all (yad xb)) s:=by simpa [hsz] using h
  obtain⟨r,hr0⟩:∃r,xa.all (yad xb)=r:=⟨_,rfl⟩;rw[hr0]at h';rw[if_neg (by rw[hsz];simp)];refine AB (CZ hoa hda ?_);refine AB ?_;rw[E7];erw[G7,G4,Nat.add_sub_cancel,Nat.div_one];refine wpAny_forIn_list _
   (λrest q s'=>s'=s/\q=(AF,())/\∃i,rest=Gc i (es.size-i)/\i<=es.size/\(xa.drop i).all (yad xb)=r)
   _ ?_ ?_ _ _ ⟨rfl,rfl,0,by simp,BK _,hr0⟩
  .rintro x rest q s' ⟨rfl,rfl,i,hr,hi,hpre⟩
   have hlt:i<es.size:=by
    rcases EK i es.size with h|h
    .exact h
    .rw[Nat.sub_eq_zero_of_le h]at hr;simp at hr
   obtain⟨rfl,hrest⟩:x=i/\rest=Gc (i+1) (es.size-(i+1)):=by
    have e:es.size-i=(es.size-(i+1))+1:=by lia
    rw[e,FZ]at hr;injection hr with h1 h2;exact⟨h1,h2⟩
   refine AB (B8 hoa hda ?_);have hlt':x<xa.length:=by rw[hla];exact hlt
   obtain⟨y,hy⟩:∃y,xa[x]=y:=⟨_,rfl⟩;have hget:xa[x]?=AA y:=by rw[BL hlt',hy]
   have hmem:y∈xa:=by rw[<-hy];exact List.getElem_mem hlt'
   have hdrop:xa.drop x=y::xa.drop (x+1):=by rw[<-hy];exact CN hlt'
   have hent:es[x]?=AA (entryOfKey knd y):=by rw[entry_at hpa x,hget];rfl
   rw[hent];rw[hdrop,Al]at hpre;let⟨iy,ty,ey⟩:=ia y hmem;show AN _ _ (holding [.ref y.2.1,y.2.2] _ >>= _) _ _ _;refine AB (BD (AB (wpAny_dictFind_heap hu (hka y hmem) hob hdb hpb hkb hnb (λhno=>?_) (λj p hj=>?_))))
   .have hn:yad xb y=false:=by unfold yad;rw[atKey_none_of_get hno]
    rw[hn,DR]at hpre;rw[<-hpre]at h';refine AK ?_;show AN _ _ (if (!false)=AC then _ else _) _ _ _;rw[if_pos ⋯];exact AK (AK h')
   .have hv:yad xb y=(ycs y.2.2==ycs p.2):=by unfold yad;rw[atKey_of_get hnb hj]
    refine AB (B8 hob hdb ?_);rw[entry_at hpb j,hj];let⟨ip,tp,ep2⟩:=ib _ (AV hj);have ep2:p.2=.int ip tp:=ep2;show AN _ _ (holding [p.2] (eqBool y.2.2 p.2)) _ _ _;rw[hv,ey,ep2]at hpre;rw[ey,ep2];refine BD (Co ?_);have hpre:((iy==ip)&&(xa.drop (x+1)).all (yad xb))=r:=hpre
    cases hb:(iy==ip)with
    |false=>
     rw[hb,DR]at hpre;rw[<-hpre]at h';show AN _ _ (if (!false)=AC then _ else _) _ _ _;rw[if_pos ⋯];exact AK (AK h')
    |true=>
     rw[hb,El]at hpre;show AN _ _ (if (!true)=AC then _ else _) _ _ _;rw[if_neg ⋯];refine AB (CZ hoa hda ?_);rw[if_neg (by simp)];exact AK ⟨rfl,rfl,x+1,hrest,hlt,hpre⟩
  .rintro q s' ⟨rfl,rfl,i,hr,hi,hpre⟩
   have hin:i=es.size:=by
    rcases EK i es.size with h|h
    .have e:es.size-i=(es.size-(i+1))+1:=by lia
     rw[e,FZ]at hr;exact nomatch hr
    .exact Nat.le_antisymm hi h
   refine AK ?_;rw[hin,<-hla,Ds]at hpre;rw[<-hpre]at h';exact h'
def zi0{a b:AI}{xa xb:List (K×AI×AD)}{Q:AD->AG->Prop}(hu:knd.room A.in1)(ha:(a==sysModules)=AH)(hb:(b==sysModules)=AH)
  (da:s.heap.DictOfH knd a xa) (db:s.heap.DictOfH knd b xb) (hu2:A.units<cLine) (ia:ycg xa) (ib:ycg xb) (h:Q (.bool (!(xa.length==xb.length&&xa.all (yad xb)))) s):
  AN (model prog w) A (compareOp .NotEq (.ref a) (.ref b)) Q E s:=by
 refine wpAny_richCompare_same_room (op:=.NotEq) da.typeIs db.typeIs E8 (BH E8 da.typeIs PySem.F.entry_dict_ne ?_ (PySem.F.args_dict_ne_2 _ _)) hu2;show AN _ _ (D5 "__ne__" ⟨[.ref a,.ref b],[]⟩ >>= _) _ _ s;refine AB ?_;unfold D5;refine AB (Ck da.typeIs ?_);show AN _ _ (pure (A8 a,A8 b)) _ _ s;refine AK ?_;refine AB (Dg (T:="dict") db.typeIs PySem.F.sub_dict_dict ?_);erw[Eg,BC,if_false];refine AB (AK (AB (AK ?_)));refine AB (zbh hu ha hb da db ia ib ?_);refine AK ⟨_,rfl,?_,?_⟩
 .exact λx=>nomatch x
 .simpa using h
end
end PySem
namespace L2
open PySem PySem.Spec PyProof.Rows
def yaR(kvs:List (List NK×V)):Prop:=∀p∈kvs,∃i,p.2=.int i
def vI:V->Int
 |.int i=>i
 |_=>0
def ybV(ka kb:List (List NK×V)):Bool:=ka.length==kb.length&&ka.all λp=>match yaf kb p.1 with
 |some v=>vI p.2==vI v
 |none=>AH
def zbH{v:V}{u:AD}(r:RelV v u)(h:∃i,v=.int i):ycs u=vI v/\∃i t,u=.int i t:=by
 let⟨i,rfl⟩:=h;let⟨t,rfl⟩:=r;exact⟨rfl,i,t,rfl⟩
theorem KT.ints{H:Hp}{ka:List (List NK×V)}{xa:List (List NK×AI×AD)}(r:KT H ka xa)(h:yaR ka):ycg xa:=by
 induction r with
 |nil=>intro x hx;cases hx
 |@cons p q ps qs hp t ih=>
  intro x hx;rcases Ac.1 hx with rfl|hx
  .exact(zbH hp.2.2 (h p Ai)).2
  .exact ih (λp hp=>h p (AZ _ hp)) x hx
theorem KT.same{H:Hp}{kb:List (List NK×V)}{xb:List (List NK×AI×AD)}(rb:KT H kb xb)(hb:yaR kb){ka:List (List NK×V)}{xa:List (List NK×AI×AD)}(r:KT H ka xa)(h:yaR ka):
  xa.all (yad xb)=ka.all λp=>match yaf kb p.1 with
   |some v=>vI p.2==vI v
   |none=>false:=by
 induction r with
 |nil=>rfl
 |@cons p q ps qs hp t ih=>
  rw[Al,Al,ih λp hp=>h p (AZ _ hp)]
  congr 1
  unfold yad;have e:=rb.val p.1;rw[<-hp.1];have ev:=(zbH hp.2.2 (h p Ai)).1
  cases q1:atKey xb p.1 with
  |none=>
   rw[q1]at e
   cases q2:yaf kb p.1 with
   |none=>rfl
   |some v=>rw[q2]at e;exact e.elim
  |some y=>
   rw[q1]at e
   cases q2:yaf kb p.1 with
   |none=>rw[q2]at e;exact e.elim
   |some v=>
    rw[q2]at e;have hv:∃i,v=.int i:=by
     unfold yaf at q2;let⟨z,hz,rfl⟩:=EH.1 q2;exact hb z (List.mem_of_find?_eq_some hz)
    have:=(zbH (show RelV v y.2 from e) hv).1;erw[ev,this]
section
variable {X:Cx}
def zhV(hu:X.A.units+16<cLine):OpR X (compareOp .NotEq) (λx y H Q=>∃a b ka kb,x=.ref a/\y=.ref b/\H a=AA (.dT ka)/\H b=AA (.dT kb)/\yaR ka/\yaR kb/\Q (.bl (!ybV ka kb)) H):=by
 intro π s σ H x y v u Q I rx ry h;let⟨a,b,ka,kb,rfl,rfl,ha,hb,ia,ib,q⟩:=h
 cases (show v=A8 a from rx)
 cases (show u=A8 b from ry)
 let⟨_,na,xa,ra,da⟩:=zgo I.hok ha;let⟨_,nb,xb,rb,db⟩:=zgo I.hok hb;refine zi0 (show X.A.in1.units+8<cLine by erw[CK];lia) na nb da db ∅ (ra.ints ia) (rb.ints ib) ⟨.bl _,H,I,rfl,?_⟩;rw[KT.same rb ib ra ia,<-Bq ra,<-Bq rb];exact q
end
section
variable {X:Cx}
def zey{x y z:V}{us:List AD}(r:Vals [x,y,z] us):∃u v w,us=[u,v,w]/\RelV x u/\RelV y v/\RelV z w:=by
 cases r with
 |cons h1 t=>cases t with
  |cons h2 t=>cases t with
   |cons h3 t=>cases t;exact⟨_,_,_,rfl,h1,h2,h3⟩
def zb3:bootBuiltins "sorted"=AA (.builtin "sorted"):=by decide +kernel
def zbP:yM X (.builtin "sorted") (λxs H Q=>∃p ps,xs=[.ref p]/\H p=AA (.lst ps)/\((ps.length<2/\∀d,H d=AF->Q (.ref d) (upd H d (.lst ps))) \/
  ∃(b c:AI) (pb pc:AR×Int×Int),ps=[.ref b,.ref c]/\H b=AA (.tup [.str pb.1,.int pb.2.1,.int pb.2.2])/\H c=AA (.tup [.str pc.1,.int pc.2.1,.int pc.2.2]) /\
   ∀d,H d=AF->Q (.ref d) (upd H d (.lst (if PySem.W.ltT pc pb=AC then [.ref c,.ref b]else [.ref b,.ref c]))))):=by
 intro π s σ H xs us Q I r h;let⟨p,ps,rfl,hp,h⟩:=h;let⟨u,rfl,rx⟩:=vals1 r
 cases rx
 let⟨z,its,n0,rv,g⟩:=(show yp X.prog X.w H s.heap p (.lst ps)from I.hok p _ hp);have hl:=rv.length;have hfin:∀(out:List AD) (os:List V),Vals os out->os.length<=sizeLine->(∀d,H d=AF->Q (.ref d) (upd H d (.lst os)))->EP X π σ Q (.ref (s.heap.objs.size+1)) {s with heap:=sortedAll s.heap its out.toArray}:=λout os ro hz q=>by
  have hn:H (s.heap.objs.size+1)=none:=I.hok.fresh (Cw _);let⟨e,ge⟩:=sortedAll_at s.heap its out.toArray;exact⟨.ref (s.heap.objs.size+1),_,I.laid (o:=.lst os) (t':=s.toks) (λb o e=>sortedAll_old e) (Cw _) ⟨hz,out,e,ro,ge⟩,rfl,q _ hn⟩
 rcases h with⟨h2,q⟩|⟨b,c,pb,pc,rfl,hb,hc,q⟩
 .refine PySem.W.srt_call (vs:=its) (out:=its) ⟨_,g,rfl,_,rfl⟩ ∅ (λs' a n P E kp ga hP=>PySem.W.srt_tree1 ∅ ga hP) (hfin its ps rv z q)
 .let⟨u1,u2,rfl,r1,r2⟩:=vals2 rv
  cases (show u1=A8 b from r1)
  cases (show u2=A8 c from r2)
  let⟨_,ib,rb,gb⟩:=(show yp X.prog X.w H s.heap b (.tup _)from I.hok b _ hb);let⟨_,ic,rc,gc⟩:=(show yp X.prog X.w H s.heap c (.tup _)from I.hok c _ hc);let⟨b1,b2,b3,rfl,⟨t1,rfl⟩,⟨t2,rfl⟩,⟨t3,rfl⟩⟩:=zey rb;let⟨c1,c2,c3,rfl,⟨v1,rfl⟩,⟨v2,rfl⟩,⟨v3,rfl⟩⟩:=zey rc;refine PySem.W.srt_call (vs:=[.ref b,.ref c]) (out:=PySem.W.outTwo (PySem.W.ltT pc pb) (.ref b) (.ref c)) ⟨_,g,rfl,_,rfl⟩ (by simp) (λs' a n P E kp ga hP=>PySem.W.srt_tree ga (λh' kp'=>?_) hP) (hfin _ _ ?_ ?_ q)
  .exact PySem.W.ask_two (kp' _ _ (kp _ _ gb).2 (kp _ _ gb).1) (kp' _ _ (kp _ _ gc).2 (kp _ _ gc).1)
  .unfold PySem.W.outTwo;split
   .exact .cons rfl (.cons rfl .nil)
   .exact .cons rfl (.cons rfl .nil)
  .rw[Av];split<;>simp
end
def zaG{κ:Type}[DecidableEq κ]:∀{kvs:List (κ×V)} {j:Nat} {k:κ} {v:V},(kvs.map (·.1)).Nodup->kvs[j]?=AA (k,v)->yaf kvs k=AA v
 |[],j,k,v,_,e=>by simp at e
 |p::r,0,k,v,_,e=>by
  simp at e;subst e;exact zq rfl
 |p::r,j+1,k,v,n,e=>by
  erw[A2,CU]at n;have e':r[j]?=AA (k,v):=by simpa using e
  rw[zu λz=>n.1 (by rw[z];exact G6.2 ⟨(k,v),AV e',rfl⟩)];exact zaG n.2 e'
theorem DPs.keep{H H':Hp}(ht:∀b xs,H b=AA (.tup xs)->H' b=AA (.tup xs)):∀{ys:List V} {ks:List (List NK×V)},DPs H ys ks->DPs H' ys ks
 |[],_,d=>d
 |x::xs,_,d=>by
  let⟨k,y,r,q,b,e1,e2,hq,hb,d'⟩:=d;exact⟨k,y,r,q,b,e1,e2,ht _ _ hq,hb.stay ht,DPs.keep ht d'⟩
theorem DPs.snoc{H:Hp}{k:List NK}{y:V}{q b:AI}(hq:H q=AA (.tup [.ref b,y]))(hb:KyR H k b):∀{ys:List V} {ks:List (List NK×V)},DPs H ys ks->DPs H (ys++[.ref q]) (ks++[(k,y)])
 |[],ks,d=>by
  cases (show ks=[]from d)
  exact⟨k,y,[],q,b,rfl,rfl,hq,hb,rfl⟩
 |x::xs,_,d=>by
  let⟨k',y',r,q',b',rfl,rfl,hq',hb',d'⟩:=d;exact⟨k',y',r++[(k,y)],q',b',rfl,rfl,hq',hb',DPs.snoc hq hb d'⟩
theorem DPs.len{H:Hp}:∀{ys:List V} {ks:List (List NK×V)},DPs H ys ks->ys.length=ks.length
 |[],ks,d=>by cases (show ks=[]from d);rfl
 |x::xs,_,d=>by
  let⟨k',y',r,q',b',rfl,rfl,hq',hb',d'⟩:=d;simp[DPs.len d']
def nzK(p:List NK×V):Bool:=!decide (p.2=.int 0)
def yeN(i:Nat):TE:=λσ H Q=>∃a kvs,σ[i]?=AA (AA (.ref a))/\H a=AA (.dT kvs)/\yaR kvs/\kvs.length<=1000 /\
 ∀H' D ys,(∀b o,H b=AA o->H' b=AA o)->H' D=AA (.lst ys)->DPs H' ys (kvs.filter nzK)->Q (.ref D) H'
def zec{X:Cx}{slots:List (Option Nat)}{kt dt i:Nat}(h0:slots[kt]?=AA AF)(h1:slots[dt]?=AA (AA i)){σ:St}{H:Hp}{Q:VK}(h:yeN i σ H Q):
  ycL X (ybb slots (ycf X (ybj i)) (ya0 kt) (ybI (tOp rNe (ybN (ybj dt) (ybj kt)) (tC (.int 0)))) (yel (ybu (ybj kt) (ybu (ybN (ybj dt) (ybj kt)) ycU)))) σ H Q:=by
 let⟨a,kvs,hσ,ha,hi,hl,q⟩:=h;refine⟨.ref a,hσ,a,kvs,rfl,ha,λo nf nd D hD=>?_⟩;have hDa:D≠a:=λz=>by subst z;rw[zc]at hD;cases hD
 rw[za hDa]at hD;have hkd:kt≠dt:=λz=>by subst z;rw[h0]at h1;cases h1
 have e0:(inn slots σ)[dt]?=AA (AA (.ref a)):=by
  unfold inn;rw[BA,h1];simp[hσ]
 have hkl:kt<(inn slots σ).length:=by
  unfold inn;rw[BN];exact(Am.1 h0).1
 refine⟨λj m σc ys H2=>j+m=kvs.length/\σc[dt]?=AA (AA (.ref a))/\kt<σc.length/\H2 a=AA (.frz o (.dT kvs))/\H2 D=AA (.lst ys)/\(∀b w,H b=AA w->b≠a->H2 b=AA w)/\DPs H2 ys ((kvs.take j).filter nzK),
  ⟨kvs.length,by lia,e0,hkl,by rw[za (B1 hDa),zc],zc,λb w e ne=>by rw[za (zb e hD),za ne];exact e,by simp[DPs]⟩,?_⟩
 rintro j m σc ys H2 ⟨hm,hd,hk,h2a,h2D,ext,dp⟩
 refine⟨h2D,?_⟩;have hys:=dp.len;have hfl:=EY nzK (kvs.take j);have htl:=List.length_take_le j kvs
 by_cases hj:j<kvs.length
 .obtain⟨⟨k,v⟩,hkv⟩:∃p,kvs[j]?=AA p:=⟨kvs[j],BL hj⟩;let⟨n,hn⟩:=hi _ (AV hkv);have hn:v=.int n:=hn;have hval:=zaG nd hkv;have htk:kvs.take (j+1)=kvs.take j++[(k,v)]:=by rw[List.take_add_one,hkv];rfl
  refine .inr ⟨⟨h2a,hj⟩,by rw[Av];lia,λσ' ys' H'=>(j+1)+(m-1)=kvs.length/\σ'[dt]?=AA (AA (.ref a))/\kt<σ'.length/\H' a=AA (.frz o (.dT kvs))/\H' D=AA (.lst ys')/\(∀b w,H b=AA w->b≠a->H' b=AA w)/\DPs H' ys' ((kvs.take (j+1)).filter nzK),
   λσ' ys' H' w=>⟨m-1,by lia,w⟩,?_⟩
  rintro x H3 ⟨rfl,k',v',b,hkv',rfl,kb⟩
  rw[hkv]at hkv'
  cases hkv'
  have sd:(σc.set kt (AA (.ref b)))[dt]?=AA (AA (.ref a)):=by rw[An hkd];exact hd
  have sk:(σc.set kt (AA (.ref b)))[kt]?=AA (AA (.ref b)):=by rw[BF hk]
  have sl:kt<(σc.set kt (AA (.ref b))).length:=by rw[BE];exact hk
  have dg:yb5 H3 a (.ref b) (AA v):=.inr ⟨kvs,k,b,.inr ⟨o,h2a⟩,rfl,kb,hval.symm⟩;refine⟨.ref a,sd,.ref b,sk,a,v,rfl,dg,by rw[hn];rfl,_,rfl,?_⟩;have hnz:nzK (k,v)=!decide (v=.int 0):=rfl
  cases e:(!decide (v=V.int 0))with
  |false=>
   dsimp only;rw[if_neg AQ];refine⟨by lia,sd,sl,h2a,h2D,ext,?_⟩;rw[htk,Ey,C3 (by rw[hnz,e];exact AQ)];simpa using dp
  |true=>
   dsimp only;rw[if_pos rfl];refine⟨.ref b,sk,.ref a,sd,.ref b,sk,a,v,rfl,dg,by rw[Av];simp,λp hp=>?_⟩;have npD:p≠D:=λz=>by subst z;rw[h2D]at hp;cases hp
   have npa:p≠a:=λz=>by subst z;rw[h2a]at hp;cases hp
   have tup:∀c xs,H3 c=AA (.tup xs)->upd (upd H3 p (.tup [.ref b,v])) D (.lst (ys++[.ref p])) c=AA (.tup xs):=λc xs q=>by
    rw[za (show c≠D from λz=>by subst z;rw[h2D]at q;cases q),za (zb q hp)];exact q
   refine⟨by rw[za (B1 npD)];exact h2D,by lia,sd,sl,by rw[za (B1 hDa),za (B1 npa)];exact h2a,zc,λc w e ne=>?_,?_⟩
   .have:=ext c w e ne;rw[za (zb e hD),za (zb this hp)];exact this
   .rw[htk,Ey,C4 (by rw[hnz,e])];exact DPs.snoc (by rw[za npD,zc]) (kb.stay tup) (dp.keep tup)
 .refine .inl ⟨⟨h2a,by lia⟩,a,o,.dT kvs,h2a,nf,q _ D ys (λb w e=>?_) ?_ ?_⟩
  .by_cases hb:b=a
   .subst hb;rw[zc,<-e,ha]
   .rw[za hb];exact ext b w e hb
  .rw[za hDa];exact h2D
  .rw[List.take_of_length_le ∅]at dp;exact dp.keep λc xs q=>by rw[za λz=>by subst z;rw[h2a]at q;cases q];exact q
end L2
namespace L2
open PySem PySem.Spec PyProof.Rows IC
section
variable {K:AE}{cl:Nat->AI}{B:AI->Prop}{φ:Ph}{H:Hp}
theorem DT.ints:∀{kvs:List (PV×PV)} {ks:List (List NK×V)},DT K cl B φ H kvs ks->kvs.all yaZ=AC->yaR ks
 |[],ks,h,_=>by cases (show ks=[]from h);intro p hp;cases hp
 |(k,v)::r,ks,h,a=>by
  let⟨q,x,s,rfl,rfl,rv,l⟩:=h;erw[Al,AJ]at a;intro p hp;rcases Ac.1 hp with rfl|hp
  .cases v with
   |int i=>erw[yc]at rv;exact⟨i,rv⟩
   |_=>exact absurd a.1 AQ
  .exact DT.ints l a.2 p hp
def zbU{v:PV}{x:V}(a:yaZ ((.non:PV),v)=AC)(r:yc K cl B φ H v x):vI x=ivP v/\x=.int (ivP v):=by
 cases v with
 |int i=>erw[yc]at r;subst r;exact⟨rfl,rfl⟩
 |_=>exact absurd a AQ
def zaT{p:PV×PV}(h:yaZ p=AC):yaZ ((.non:PV),p.2)=true:=by
 let⟨a,b⟩:=p
 cases b<;>first|rfl|exact h
theorem DT.filt:∀{kvs:List (PV×PV)} {ks:List (List NK×V)},DT K cl B φ H kvs ks->kvs.all yaZ=AC->DT K cl B φ H (kvs.filter λp=>!(ivP p.2==0)) (ks.filter nzK)
 |[],ks,h,_=>by cases (show ks=[]from h);rfl
 |(k,v)::r,ks,h,a=>by
  let⟨q,x,s,rfl,rfl,rv,l⟩:=h;erw[Al,AJ]at a;have e:=(zbU (zaT a.1) rv).2;have en:nzK (q,x)=!(ivP v==0):=by
   show (!decide (x=V.int 0))=_;have e:x=.int (ivP v):=e;rw[e,zc4]
  have ih:=DT.filt l a.2
  cases hb:!(ivP v==0)with
  |false=>
   rw[C3 (by show ¬(!(ivP v==0))=AC;rw[hb];decide),C3 (by rw[en,hb];decide)];exact ih
  |true=>
   rw[C4 (by show (!(ivP v==0))=AC;exact hb),C4 (by rw[en,hb])];exact⟨q,x,_,rfl,rfl,rv,ih⟩
theorem DT.find{q:List NK}:∀{kvs:List (PV×PV)} {ks:List (List NK×V)},DT K cl B φ H kvs ks->kvs.all yaZ=AC ->
  (match IC.look (.tup (yab q)) kvs with|some v=>AA (ivP v)|none=>AF)=(yaf ks q).map vI
 |[],ks,h,_=>by cases (show ks=[]from h);rfl
 |(k,v)::r,ks,h,a=>by
  let⟨q',x,s,rfl,rfl,rv,l⟩:=h;erw[Al,AJ]at a;have e:=(zbU (zaT a.1) rv).1;erw[IC.look,zag]
  by_cases eq:q'=q
  .rw[zq (p:=(q',x)) eq];erw[eq,decide_true,if_true,CW];exact congrArg AA e.symm
  .rw[zu (p:=(q',x)) eq];erw[decide_eq_true_eq,eq,if_false];exact DT.find l a.2
theorem DT.all{kb:List (PV×PV)}{sb:List (List NK×V)}(b:DT K cl B φ H kb sb)(hb:kb.all yaZ=AC):∀{kvs:List (PV×PV)} {ks:List (List NK×V)},DT K cl B φ H kvs ks->kvs.all yaZ=AC ->
  (ks.all λp=>match yaf sb p.1 with|some v=>vI p.2==vI v|none=>AH)=kvs.all λp=>match IC.look p.1 kb with|some v=>ivP p.2==ivP v|none=>AH
 |[],ks,h,_=>by cases (show ks=[]from h);rfl
 |(k,v)::r,ks,h,a=>by
  let⟨q,x,s,rfl,rfl,rv,l⟩:=h;erw[Al,AJ]at a;have e:=(zbU (zaT a.1) rv).1;rw[Al,Al,DT.all b hb l a.2]
  congr 1
  have f:=b.find hb (q:=q);dsimp only
  cases e1:IC.look (.tup (yab q)) kb with
  |none=>
   rw[e1]at f
   cases e2:yaf sb q with
   |none=>rfl
   |some y=>rw[e2]at f;cases f
  |some w=>
   rw[e1]at f
   cases e2:yaf sb q with
   |none=>rw[e2]at f;cases f
   |some y=>
    rw[e2]at f;have f:ivP w=vI y:=AW f;have e:vI x=ivP v:=e;erw[f,e]
theorem DT.same{ka kb:List (PV×PV)}{sa sb:List (List NK×V)}(a:DT K cl B φ H ka sa)(b:DT K cl B φ H kb sb)(ha:ka.all yaZ=AC)(hb:kb.all yaZ=AC):ybV sa sb=ybH ka kb:=by
 unfold ybV ybH;rw[<-a.len,<-b.len];exact congrArg (λz=>ka.length==kb.length&&z) (DT.all b hb a ha)
def zdx{v:PV}{p:AR×Int×Int}{x:V}(e:ycP v=AA p)(r:yc K cl B φ H v x):∃b,x=.ref b/\H b=AA (.tup [.str p.1,.int p.2.1,.int p.2.2]):=by
 unfold ycP at e;split at e
 .cases e
  erw[yc]at r;let⟨b,xs,rfl,rt,l⟩:=r;erw[yd,yc]at l;let⟨y1,_,rfl,rfl,y2,_,rfl,rfl,y3,_,rfl,rfl,rfl⟩:=l;rcases rt with⟨rt,_⟩|⟨z,_⟩
  .exact⟨b,rfl,rt⟩
  .cases z
 .cases e
end
section
variable {S:Se}{X:Cx}{σ:St}{a b:AM}{ca cb:Ce}{p pos:Bd}
def zg4{K:AE}{cl:Nat->AI}{B:AI->Prop}{φ:Ph}{H:Hp}{st:SO}{v:PV}{x:V}{ws:List PV}(rs:yj K cl B φ H st)(r:yc K cl B φ H v x)(e:yt st v=AA ws):∃l ys,x=.ref l/\H l=AA (.lst ys)/\yd K cl B φ H ws ys:=by
 cases v with
 |lst xs=>
  cases e
  erw[yc]at r;let⟨l,ys,rfl,⟨h,_⟩,rl⟩:=r;exact⟨l,ys,rfl,h,rl⟩
 |loc n=>
  erw[yt]at e;split at e
  .rename_i xs hz
   cases e
   let⟨l,ys,rfl,hn,hx,lr⟩:=rs.list r hz;exact⟨l,ys,rfl,hx,lr⟩
  .cases e
 |_=>cases e
def zh2(hg:Gl X "sorted")(hm:X.mg "sorted"=AF)(ha:PE X a (tE S X ca))
  (he:starEach [a] X.env=(AH,eval a X.env)::starEach [] X.env:=by rfl):PE X (.Call (.Name "sorted" p) [a] [] pos) (tE S X (.srt ca)):=
 (za4 zbP hg hm zb3 (zn ha zbf he) ⋯ ⋯ he rfl).imp λσ H Q ⟨B,φ,st,ρ,rs,re,h⟩=>by
  erw[ev]at h;refine tE.bind rs re h λx H1 v st1 φ1 s1 rs1 re1 rv h1=>?_;let⟨z,e,q⟩:=zm h1 rs1;unfold yd3 at e;let⟨ws,e1,e2⟩:=Option.bind_eq_some_iff.1 e;let⟨l,ys,rfl,hl,rl⟩:=zg4 rs1 rv e1;have fin:∀(d:AI),H1 d=AF->∀(os:List PV) (us:List V),yd X.K S.cl B φ1 H1 os us->z=.lst os->Q (.ref d) (upd H1 d (.lst us)):=λd hd os us ro ez=>by
   subst ez;refine q _ _ φ1 (.upd hd) (rs1.upd hd) ?_;have nD:AA d∉φ1:=λz=>by
    let⟨w,e⟩:=rs1.there z;rw[hd]at e;cases e
   erw[yc];exact⟨d,us,rfl,⟨zc,rs1.nB hd,nD⟩,ro.step (.upd hd)⟩
  have hlen:=rl.length;refine⟨l,ys,rfl,hl,?_⟩;unfold yd8 at e2;split at e2
  .cases e2
   exact .inl ⟨by rw[<-hlen];decide,λd hd=>fin d hd _ _ rl rfl⟩
  .cases e2
   exact .inl ⟨by rw[<-hlen];show 1<2;decide,λd hd=>fin d hd _ _ rl rfl⟩
  .rename_i x y;split at e2
   .rename_i pb pc e3 e4
    cases e2
    erw[yd]at rl;let⟨y1,_,rfl,r1,y2,_,rfl,r2,rfl⟩:=rl;let⟨b,rfl,hb⟩:=zdx e3 r1;let⟨c,rfl,hc⟩:=zdx e4 r2;refine .inr ⟨b,c,pb,pc,rfl,hb,hc,λd hd=>?_⟩
    cases hlt:ltS pc pb with
    |true=>
     rw[hlt]at fin;rw[if_pos (show PySem.W.ltT pc pb=AC from hlt)];exact fin d hd [y,x] [.ref c,.ref b] (by erw[yd];exact⟨_,_,rfl,r2,_,_,rfl,r1,rfl⟩) rfl
    |false=>
     rw[hlt]at fin;rw[if_neg (show ¬PySem.W.ltT pc pb=AC from λz=>by rw[show PySem.W.ltT pc pb=AH from hlt]at z;cases z)];exact fin d hd [x,y] [.ref b,.ref c] (by erw[yd];exact⟨_,_,rfl,r1,_,_,rfl,r2,rfl⟩) rfl
   .cases e2
  .cases e2
def zh0{sc:BB}{NC:List AR}{i:Nat}{k d:AR}{j0 x1:Nat}{p0 p1 p2 p3 p4 p5 p6 p7 p8 p9 p10 p11 pz:Bd}(hu:X.A.units+16<cLine)(hc:X.calm=AC)(hg:Gl X "dict")(hm:X.mg "dict"=AF)
  (O:yC X sc NC [AF,AA i]) (hi:PE X (.Name d p0) (ybj i)) (hgn:∀j,PG (cxC X sc NC j) (.Name k p1) (ya0 0)) (hk:∀j q,PE (cxC X sc NC j) (.Name k q) (ybj 0)) (hd:∀j q,PE (cxC X sc NC j) (.Name d q) (ybj 1)):
  PE X (.Call (.Name "dict" p) [.ListComp (.Tuple [.Name k p2,.Subscript (.Name d p3) (.Name k p4) p5] x1 p6) [⟨.Name k p1,.Name d p0,[.Compare (.Subscript (.Name d p7) (.Name k p8) p9) [.NotEq] [.Constant (.int 0) j0 pz] p10],0⟩] sc p11] [] pos) (tE S X (.dfl i)):=
 (zam (za6 hu hc) hg hm zdl (zn ((zgz (zb0 hc O (zf3 hi) hgn (λj=>zcX (zbG ziI (zcV hu (hd j p7) (hk j p8) (λ_ _=>rfl)) zcp rfl))
  (λj=>ze0 (zn (hk j p2) (zn (zcV hu (hd j p3) (hk j p4) (λ_ _=>rfl)) zbf))))).imp λσ H Q h=>zec rfl rfl h) zbf rfl) ⋯ ⋯ rfl rfl).imp λσ H Q ⟨B,φ,st,ρ,rs,re,h⟩=>by
  erw[ev]at h;unfold yeo at h;split at h
  .rename_i v hv;split at h
   .rename_i kvs hkv;split at h
    .rename_i c;rw[AJ,decide_eq_true_eq]at c;let⟨n,rfl,hn⟩:=zA hkv;let⟨x,hx,rx⟩:=re.get i _ hv;let⟨y,rfl,hy,ro⟩:=rs.dct rx hn;let⟨ks,hks,l⟩:=ro;have hlen:=l.len;have hfl:=EY nzK ks;refine⟨y,ks,hx,hks,l.ints c.1,by lia,λH' D ys ext hD dp=>⟨D,ys,ks.filter nzK,rfl,hD,dp,by lia,λd' hd'=>?_⟩⟩;have s0:Step φ H φ H':=⟨λb o _ e=>ext b o e,AS _,λ_ _ _ e=>e,λ_ h=>.inl h⟩;have rs0:=rs.same ext;exact h _ _ (φ++[AA d']) (s0.trans (.push hd')) (rs0.push hd' (rs0.nB hd') ⟨_,zc,((l.filt c.1).step s0 |>.fold (acc:=[]) (ks:=[]) rfl).step (.push hd')⟩) (.loc_new rs0)
    .exact h.elim
   .exact h.elim
  .exact h.elim
def zhO(hu:X.A.units+16<cLine):OpR X (compareOp .NotEq) (rTs S X yb3):=by
 rintro π s σ H x y v u Q I rx ry ⟨B,φ,st,a,b,z,rs,ra,rb,e,q⟩
 unfold yb3 at e;split at e
 .rename_i ka kb e1 e2;split at e
  .rename_i c;rw[AJ]at c
   cases e
   let⟨n,rfl,hn⟩:=zA e1;let⟨n',rfl,hn'⟩:=zA e2;let⟨y1,rfl,_,⟨k1,h1,l1⟩⟩:=rs.dct ra hn;let⟨y2,rfl,_,⟨k2,h2,l2⟩⟩:=rs.dct rb hn';refine zhV hu π s σ H _ _ v u Q I rx ry ⟨y1,y2,k1,k2,rfl,rfl,h1,h2,l1.ints c.1,l2.ints c.2,?_⟩;rw[DT.same l1 l2 c.1 c.2];exact q _ H φ .rfl rs (by erw[yc])
  .cases e
 .cases e
def zfO{st:SO}{x y z:PV}(h:yb3 st x y=AA z):∃k,z=.bl k:=by
 unfold yb3 at h;split at h
 .split at h
  .cases h;exact⟨_,rfl⟩
  .cases h
 .cases h
def zio(hu:X.A.units+16<cLine)(ha:PE X a (tE S X ca))(hb:PE X b (tE S X cb))(hm:behindInMarks .NotEq b=AH):PT X (.Compare a [.NotEq] [b] pos) (tTs S X (.dne ca cb)):=
 (zbG (zhO hu) ha hb hm).imp λσ H Q ⟨B,φ,st,ρ,rs,re,h⟩=>by
  erw[ev,yap,R.bind_assoc]at h;refine tE.bind rs re h λx H1 v st1 φ1 s1 rs1 re1 rv h1=>tE.bind rs1 re1 h1 λy H2 w st2 φ2 s2 rs2 re2 rw h2=>?_
  cases e:yb3 st2 v w with
  |none=>rw[e]at h2;exact h2.elim
  |some z=>
   let⟨k,rfl⟩:=zfO e;rw[e]at h2;refine⟨B,φ2,st2,v,w,.bl k,rs2,rv.step s2,rw,e,λz' H' φ' s' rs' rz=>?_⟩;erw[yc]at rz;exact⟨k,rz,h2 k H' φ' s' rs' rfl⟩
end
section
variable {X:Cx}
end
section
variable {S:Se}{X:Cx}{σ:St}{B:AI->Prop}{φ φ1:Ph}{H H1:Hp}{st:SO}{ρ:IC.Env}{p pos p2 apos:Bd}{a b:AM}{ca cb:Ce}{K:AE}{cl:Nat->AI}
end
section
variable {S:Se}{X:Cx}{σ:St}{B:AI->Prop}{φ:Ph}{H:Hp}{st:SO}{p pos p2 px apos:Bd}{a b c d o tg l:AM}{ca cb cc:Ce}{ct:Tg}{ss:List Bb}{cs:Css}
end
section
variable {S:Se}{X:Cx}{σ:St}{B:AI->Prop}{φ φ1:Ph}{H H1:Hp}{st:SO}{ρ:IC.Env}{pos:Bd}{a b tg elt iter:AM}{ca cb ce:Ce}{ct:Tg}
def zcC{sl:List (Option Nat)}(hf:yH ct sl=AC){H:Hp}{Q:VK}(h:tE S X (.cml sl ct ca ce) σ H Q):
  ybb sl (λσ H R=>tE S X ca σ H λx H1=>∃a,x=.ref a/\(((∃xs,SqL X.K H1 a xs)/\R (Itl X.K a) H1) \/ ((∃xs,SqT X.K H1 a xs)/\R (Itt X.K a) H1))) (tG0 S X.K ct) ydH (tE0 S X.K ce) σ H Q:=by
 let⟨B,φ,st,ρ,rs,re,h⟩:=h;erw[ev]at h;refine tE.bind rs re h λx H1 v st1 φ1 s1 rs1 re1 rv h1=>?_
 cases v with
 |loc n=>
  dsimp only at h1
  generalize hone:(λ(x:PV) (st2:SO)=>match yD ct x (sl.map λo=>o.bind λj=>(ρ[j]?).join)with
   |none=>(R.bad:R (Option PV))
   |some ρ1=>(ev S.call ρ1 st2 ce).bind λy st4=>.ok (AA y) st4)=one at h1
  cases e:yaC one n 1000000 0 st1 with
  |exc k s=>rw[e]at h1;exact h1.elim
  |bad=>rw[e]at h1;exact h1.elim
  |ok zs st5=>
   rw[e]at h1;erw[ybv]at h1;split at h1
   case isFalse=>exact h1.elim
   rename_i hz;have e0:=e;unfold yaC at e0;split at e0
   case h_2=>cases e0
   rename_i ws0 hws0;have hlo:yt st1 (.loc n)=AA ws0:=by erw[yt,hws0]
   let⟨y,us0,rfl,hq0,_⟩:=zap rs1 rv hlo;refine⟨y,rfl,.inl ⟨⟨us0,hq0⟩,λD hD=>?_⟩⟩;have nB:¬B D:=rs1.nB hD;have nD:AA D∉φ1:=λz=>by
    let⟨w,e⟩:=rs1.there z;rw[hD]at e;cases e
   refine⟨λi m σc ys H2=>∃φ2 st2 vs rest,Step φ1 H1 φ2 H2/\H2 D=AA (.lst ys)/\AA D∉φ2/\yj X.K S.cl (Bx B D) φ2 H2 st2/\yo X.K S.cl (Bx B D) φ2 H2 (sl.map λo=>o.bind λj=>(ρ[j]?).join) σc /\
     yd X.K S.cl (Bx B D) φ2 H2 vs ys/\yaC one n m i st2=.ok rest st5/\vs++rest=zs,
    ⟨1000000,φ1,st1,[],zs,.upd hD,zc,nD,rs1.more hD,(yo.inn re1).more hD,by erw[yd],e,rfl⟩,?_⟩
   rintro i m σc ys H2 ⟨φ2,st2,vs,rest,s2,hD2,nD2,rs2,re2,l2,ec,ez⟩
   refine⟨hD2,?_⟩
   cases m with
   |zero=>rw[yaC]at ec;cases ec
   |succ m=>
    unfold yaC at ec
    cases eo:st2[n]? with
    |none=>rw[eo]at ec;cases ec
    |some ob=>
     rw[eo]at ec
     cases ob with
     |lst xs=>
      dsimp only at ec;have rvB:yc X.K S.cl (Bx B D) φ2 H2 (.loc n) (.ref y):=by
       have q:=rv.step s2;erw[yc]at q ⊢;exact q
      have hlo2:yt st2 (.loc n)=AA xs:=by erw[yt,eo]
      let⟨y',us,ey,hq,l⟩:=zap rs2 rvB hlo2
      cases ey
      have hl:=l.length
      cases ex:xs[i]? with
      |none=>
       rw[ex]at ec
       cases ec
       have hle:xs.length<=i:=by
        rcases EK i xs.length with z|z
        .rw[BL z]at ex;cases ex
        .exact z
       refine .inl ⟨⟨us,hq,by lia⟩,h1 (.ref D) H2 φ2 s2 rs2.less ?_⟩;erw[yc];exact⟨D,ys,rfl,⟨hD2,nB,nD2⟩,by rw[<-ez,DA];exact l2.less⟩
      |some v=>
       rw[ex]at ec;dsimp only at ec;let⟨x,hx,rx⟩:=l.get i ex;let⟨o,st3,e1,ec⟩:=zl ec;let⟨rest',st4,e2,ec⟩:=zl ec;have er:st4=st5/\yaA o rest'=rest:=by
        injection ec with q1 q2;exact⟨q2,q1⟩
       let⟨rfl,rfl⟩:=er;have hl2:=l2.length;have hml:=zet;have hzl:=congrArg B4 ez;rw[<-hone]at e1;dsimp only at e1
       cases eb:yD ct v (sl.map λo=>o.bind λj=>(ρ[j]?).join)with
       |none=>rw[eb]at e1;cases e1
       |some ρ1=>
        rw[eb]at e1;dsimp only at e1;let⟨yv,st6,e5,e1⟩:=zl e1
        cases e1
        erw[yaA,BX,Ag]at hzl;refine .inr ⟨⟨us,x,hq,hx⟩,by lia,λσ' ys' H'=>∃φ2 st2 vs rest,Step φ1 H1 φ2 H'/\H' D=AA (.lst ys')/\AA D∉φ2/\yj X.K S.cl (Bx B D) φ2 H' st2/\yo X.K S.cl (Bx B D) φ2 H' (sl.map λo=>o.bind λj=>(ρ[j]?).join) σ' /\
         yd X.K S.cl (Bx B D) φ2 H' vs ys'/\yaC one n m (i+1) st2=.ok rest st4/\vs++rest=zs,λσ' ys' H' q=>⟨m,Nat.lt_succ_self m,q⟩,λx' H3 hy=>?_⟩
        let⟨e3,hy⟩:=hy;subst e3;have:=hy us hq;rw[hx]at this
        cases this
        refine⟨Bx B D,φ2,st2,_,v,ρ1,rs2,re2,rx,eb,λσ4 re4=>?_⟩;dsimp only[ydH];rw[if_pos rfl];refine⟨Bx B D,φ2,st2,ρ1,rs2,re4,?_⟩;rw[e5];intro y' H6 φ6 s6 rs6 ry;have nD6:AA D∉φ6:=λz=>by
         rcases s6.new D z with q|q
         .exact nD2 q
         .rw[hD2]at q;cases q
        have hD6:H6 D=AA (.lst ys):=s6.keep D _ nD2 hD2;have hBD:Bx B D D:=.inr rfl;have h0:∀(i:Nat),sl[i]?=AA AF->(sl.map λo=>o.bind λj=>(ρ[j]?).join)[i]?=AA none:=λi q=>by
         rw[BA,q];rfl
        refine⟨hD6,φ6,_,vs++[yv],rest',?_,zc,nD6,rs6.skip hBD,(yo.untgt hf h0 eb (re4.step s6)).skip hBD,((l2.step s6).append (by erw[yd];exact⟨y',[],rfl,ry,rfl⟩)).skip hBD,e2,?_⟩
        .have s16:=s2.trans s6;exact⟨λb o n q=>by rw[za (zb q hD)];exact s16.keep b o n q,s16.len,s16.pre,s16.new⟩
        .simpa [yaA] using ez
     |_=>cases ec
 |_=>exact h1.elim
def zh7{sc:BB}{NC:List AR}{sl:List (Option Nat)}(hc:X.calm=AC)(O:yC X sc NC sl)(hf:yH ct sl=AC)(hi:PE X iter (tE S X ca))(hg:∀j,PG (cxC X sc NC j) tg (tG0 S X.K ct))
  (he:∀j,PE (cxC X sc NC j) elt (tE0 S X.K ce)) (hs:∀x,foldedSetIterable iter X.env x=pure x:=by intro _;rfl):
  PE X (.ListComp elt [⟨tg,iter,[],0⟩] sc pos) (tE S X (.cml sl ct ca ce)):=
 (zb0 hc O (zfl hi) hg (λj=>zd7) he hs).imp λσ H Q h=>zcC hf h
end
end L2
namespace L2
open PySem PySem.Spec PyProof.Rows IC WK
inductive GK where
 |fn (i:Nat)|fnD (i:Nat)|cst (v:PV)|dct (D:List (AR×PV))|exc (c:Nat)|cls (c i:Nat)
structure Gs where
 g:AR->Option GK
 b:AR->Bool
 t:Ty->Bool
 fl:Nat->AR->Bool
 me:Nat->AR->Option Nat
 kb:Nat->Nat->List AR->Option (List (Option Int))
 mr:AR->Option (List (AR×Nat))
 fv:AR->Nat->Bool
 xk:Nat->Ty->Bool
 xc:Nat->AR->Bool
 xm:Nat->AR->Bool
 qf:Nat->Bool
structure Kx where
 N:List AR
 sc:BB
 own:Bool
 h:Bool
def Fo(m:Nat)(S:Se)(X:Cx)(i:Nat)(f:AI)(fd:Af)(ps:List AR):Prop:=yau X.prog X.w X.K X.mg X.base (CX1 X.prog X.w) m f fd ps (spI X.K S.cl S.call i)
structure Glo(γ:Gs)(m:Nat)(S:Se)(X:Cx):Prop where
 F:∀x i,γ.g x=AA (.fn i)->∃f fd ps,Fo m S X i f fd ps/\X.mg x=AA (.ref f)/\Aa X.K (.ref f)=AC/\Binds X.K fd ps []
 Q:∀x i np ks sh,γ.g x=AA (.fnD i)->γ.kb i np ks=AA sh->∃f fd ps,Fo m S X i f fd ps/\X.mg x=AA (.ref f)/\Aa X.K (.ref f)=AC/\∃g,yaV X.K fd ps ks g (gK np sh)
 C:∀x v,γ.g x=AA (.cst v)->GC X.K X.mg S.cl x v \/ ∃i,v=.int i/\GCI X.mg x i
 D:∀x d,γ.g x=AA (.dct d)->GD X.K X.w X.mg S.cl x d
 E:∀x c,γ.g x=AA (.exc c)->ycn X.K X.mg (S.cl c) x
 N:∀x c i,γ.g x=AA (.cls c i)->X.mg x=AA (.ref (S.cl c))/\∃f fd ps,Mk X.K (S.cl c) f/\Fo m S X i f fd ps/\Binds X.K fd ps []
 B:∀x,γ.b x=AC->X.mg x=AF
 T:∀t,γ.t t=AC->ydG X.K t
 A:∀c f,γ.fl c f=AC->Cls X.K (S.cl c)/\yaD X.K (S.cl c) f
 M:∀c n i,γ.me c n=AA i->Cls X.K (S.cl c)/\∃f fd ps,Meth X.K (S.cl c) n f/\Fo m S X i f fd ps/\Binds X.K fd ps []
 K:∀y D,γ.mr y=AA D->∃fa fdd ps,Makers S X m D fa fdd ps/\GDF X.K X.w X.mg fa y D
 V:∀x i,γ.g x=AA (.fn i)->γ.fv x i=AC->X.mg x=AA (.ref (S.cl (1000+i)))
 I:∀c t,γ.xk c t=AC->ydu X.K (S.cl c)/\yen X.K S.cl c t
 L:∀d x,γ.xc d x=AC->X.mg x=AA (.ref (S.cl d))
 H:∀c x,γ.xm c x=AC->∃W,X.mg x=AA (.ref W)/\Fp X.K (.ref (S.cl c)) (.ref W)=AA AC
 Z:∀x i,γ.g x=AA (.fn i)->γ.qf i=AC->∃f fd ps,ybh X.prog X.w X.K X.mg X.base m f fd ps (spI X.K S.cl S.call i)/\X.mg x=AA (.ref f)/\Aa X.K (.ref f)=AC/\Binds X.K fd ps []
structure Good(γ:Gs)(κ:Kx)(m:Nat)(S:Se)(X:Cx):Prop where
 n:X.N=κ.N
 sc:X.env.scope=κ.sc
 calm:κ.h=AH->X.calm=AC
 room:yW (m+1) X.A
 hd:κ.h=AH->X.A.handled=AF
 own:κ.own=AC->Dj (model X.prog X.w) X.A X.env X.xe/\(∀x,X.fn x=AC)/\S.may=AC
 top:κ.own=AC->(∃outer,X.stack=X.env::outer)/\X.ex=[]/\X.env.frame=AA X.env.locals
 glo:Glo γ m S X
theorem Good.rm{γ:Gs}{κ:Kx}{m:Nat}{S:Se}{X:Cx}(G:Good γ κ m S X)(h:κ.h=AH):yao (m+1) X.A:=⟨G.hd h,G.room.dp,G.room.un⟩
def zfg{k:Nat}{A:A5}(r:yW k A):A.units+16<cLine:=by have:=r.units;lia
def zbO{k:Nat}{A:A5}(r:yW k A):A.units+16<cLine:=by have:=r.units;lia
abbrev Pr(P:Prop):Type:=Option (PLift P)
abbrev YE(γ:Gs)(κ:Kx)(e:AM)(c:Ce):Prop:=∀m S X,Good γ κ m S X->PE X e (tE S X c)
abbrev YT(γ:Gs)(κ:Kx)(e:AM)(c:Ce):Prop:=∀m S X,Good γ κ m S X->PT X e (tTs S X c)
abbrev YW(γ:Gs)(κ:Kx)(e:AM)(c:Ce):Prop:=∀m S X,Good γ κ m S X->PW X e (tTs S X c)
abbrev YA(γ:Gs)(κ:Kx)(e:List AM)(c:Ces):Prop:=∀m S X,Good γ κ m S X->PA X e (tAs S X c)
abbrev YO(γ:Gs)(κ:Kx)(e:Option AM)(c:Ce):Prop:=∀m S X,Good γ κ m S X->PO X e (tO S X c)
abbrev YS(γ:Gs)(κ:Kx)(s:Bb)(c:Cs):Prop:=∀m S X,Good γ κ m S X->PS X s (tS S X c)
abbrev YSs(γ:Gs)(κ:Kx)(s:List Bb)(c:Css):Prop:=∀m S X,Good γ κ m S X->PSs X s (tSs S X c)
def an{P Q:Prop}(a:Pr P)(k:P->Pr Q):Pr Q:=match a with
 |some h=>k h.down
 |none=>AF
def ok{P:Prop}(h:P):Pr P:=AA ⟨h⟩
def ask(p:Prop)[Decidable p]:Pr p:=if h:p then AA ⟨h⟩else AF
def nst:AM->Bool
 |.Starred _ _=>AH
 |_=>AC
def zac{a:AM}{es:List AM}{env:Az}(h:nst a=AC):starEach (a::es) env=(AH,eval a env)::starEach es env:=by
 cases a<;>first|rfl|cases h
def ycK(es:List AM):Bool:=es.all nst
theorem stars{pos:Bd}{env:Az}:∀{es:List AM},ycK es=AC->(backTo pos (starEach es env)).any (·.1)=AH
 |[],_=>rfl
 |a::es,h=>by
  erw[ycK,Al,AJ]at h;rw[zac h.1];have:=stars (pos:=pos) (env:=env) (es:=es) h.2;simpa [backTo] using this
def nco:AM->Bool
 |.ListComp ..=>AH
 |.SetComp ..=>AH
 |.DictComp ..=>AH
 |_=>AC
theorem swp{a:AM}{t:Option AM}{l:Nat}{env:Az}(h:nco a=AC):swapsWith a t l env=pure false:=by
 cases a<;>first|rfl|cases h
def nse:AM->Bool
 |.Set ..=>AH
 |_=>AC
theorem fse{a:AM}{env:Az}(h:nse a=AC):∀x,foldedSetIterable a env x=pure x:=by
 cases a<;>first|exact λ_=>rfl|cases h
theorem nmk{op:Eh}{a:AM}(h:nse a=AC):behindInMarks op a=false:=by
 cases a<;>first|rfl|cases h
def nsl:AM->Bool
 |.Slice ..=>AH
 |_=>AC
theorem pix{a:AM}(h:nsl a=AC):yaL a:=by
 cases a<;>first|exact λ_ _=>rfl|cases h
def ntu:AM->Bool
 |.Tuple ..=>AH
 |_=>AC
def nte:AM->Bool
 |.UnaryOp ..=>AH
 |.BoolOp ..=>AH
 |.IfExp ..=>AH
 |.Compare ..=>AH
 |_=>AC
theorem itr{a:AM}{env:Az}(h:nte a=AC):∀whole,isTrue a env whole=(do let v <-whole;standAt a.pos;holding [v] (truthy v)):=by
 cases a<;>first|exact λ_=>rfl|cases h
def nca:AM->Bool
 |.Call ..=>AH
 |_=>AC
def zeO{a:AM}{f:AR}{env:Az}{w:Gd AD}(h:nca a=AC):attributeBase a f env w=w:=by
 cases a<;>first|rfl|cases h
def mOp(op:Di)(o:BOp):Pr (∀S X,OpR X (binaryOp op) (rT2 S X (yu o))):=
 match op,o with
 |.Add,.add=>ok (λ_ _=>zgG)
 |.Sub,.sub=>ok (λ_ _=>zhZ)
 |.Mult,.mul=>ok (λ_ _=>zg3)
 |.FloorDiv,.fdiv=>ok (λ_ _=>zft)
 |.Mod,.mod=>ok (λ_ _=>zhi)
 |.Pow,.pow=>ok (λ_ _=>zhs)
 |_,_=>AF
def mCm(op:Eh)(o:COp):Pr (∀m S X,yW m X.A->OpR X (compareOp op) (rT2 S X (yr o))):=
 match op,o with
 |.Eq,.eq=>ok (λ_ _ _ r=>ziZ r.units)
 |.NotEq,.ne=>ok (λ_ _ _ r=>ziF r.units)
 |.Lt,.lt=>ok (λ_ _ _ _=>ziJ)
 |.LtE,.le=>ok (λ_ _ _ _=>ziA)
 |.Gt,.gt=>ok (λ_ _ _ _=>ziV)
 |.GtE,.ge=>ok (λ_ _ _ _=>ziD)
 |.In,.isin=>ok (λ_ _ _ _=>zi3)
 |_,_=>AF
def yb2(sc:BB)(x:AR):Bool:=match sc.names.lookup x with
 |some .local=>AC
 |some .cell=>AC
 |some .free=>AC
 |_=>AH
def zaU{sc:BB}{x:AR}(h:yb2 sc x=AC):Vis sc x:=by
 unfold yb2 at h;split at h
 .exact .inl ‹_›
 .exact .inr (.inl ‹_›)
 .exact .inr (.inr ‹_›)
 .cases h
def ycQ(sc:BB)(x:AR):Bool:=match sc.names.lookup x with
 |some .local=>AC
 |some .cell=>AC
 |_=>AH
def zdS{sc:BB}{x:AR}(h:ycQ sc x=AC):Loc sc x:=by
 unfold ycQ at h;split at h
 .exact .inl ‹_›
 .exact .inr ‹_›
 .cases h
def pln(x:AR):Bool:=!(x==("__debug__":AR))&&!(x==("__classdict__":AR))&&!(x==("__name__":AR))
def zaz{x:AR}(h:pln x=AC):(x==("__debug__":AR))=false:=by
 erw[pln,AJ,B7]at h;exact h.1.1
def zb7{x:AR}(h:pln x=AC):(x==("__classdict__":AR))=false:=by
 erw[pln,AJ,B7]at h;exact h.1.2
def zcW{x:AR}(h:pln x=AC):x ≠ "__name__":=by
 erw[pln,AJ,B7]at h;intro e;rw[e]at h;exact absurd h.2 ⋯
def hf(κ:Kx){P:Prop}(f:κ.h=AH->Pr P):Pr P:=if h:κ.h=AH then f h else AF
def glB(κ:Kx)(x:AR):Bool:=decide (κ.sc.names.lookup x=AA .globalImplicit)&&pln x
def zj{γ:Gs}{κ:Kx}{m:Nat}{S:Se}{X:Cx}(G:Good γ κ m S X){x:AR}(h:glB κ x=AC):Gl X x:=by
 erw[glB,AJ,decide_eq_true_eq]at h;show X.env.scope.names.lookup x=_;rw[G.sc];exact h.1
def zaa{κ:Kx}{x:AR}(h:glB κ x=AC):pln x=true:=by
 erw[glB,AJ]at h;exact h.2
def setB(κ:Kx)(i:Nat)(x:AR):Bool:=decide (κ.N[i]?=AA x)&&decide κ.N.Nodup&&ycQ κ.sc x&&(κ.own || decide (κ.sc.names.lookup x=AA .local))&&pln x
structure ydv(X:Cx)(i:Nat)(x:AR):Prop where
 d:X.N.Nodup
 i:X.N[i]?=AA x
 l:Loc X.env.scope x
 f:X.fn x=AC \/ X.env.scope.names.lookup x=AA .local
 p:pln x=AC
def zD{γ:Gs}{κ:Kx}{m:Nat}{S:Se}{X:Cx}(G:Good γ κ m S X){i:Nat}{x:AR}(h:setB κ i x=AC):ydv X i x:=by
 erw[setB,AJ,DD,decide_eq_true_eq]at h;let⟨⟨⟨⟨h1,h2⟩,h3⟩,h4⟩,h5⟩:=h;refine⟨by rw[G.n];exact h2,by rw[G.n];exact h1,by rw[G.sc];exact zdS h3,?_,h5⟩;rcases h4 with h4|h4
 .exact .inl ((G.own h4).2.1 x)
 .exact .inr (by rw[G.sc];exact h4)
def gFn(γ:Gs)(x:AR)(i:Nat):Pr (γ.g x=AA (.fn i)):=match h:γ.g x with
 |some (.fn j)=>if e:j=i then AA ⟨by subst e;rfl⟩else AF
 |_=>AF
section
variable {γ:Gs}{κ:Kx}{ca cb cc:Ce}{ces:Ces}
def yeS(v:PV)(e:AM):Pr (YE γ κ e (.cst v)):=
 match e with
 |.Constant (.int i) _ _=>match v with
  |.int j=>an (ask (i=j)) λh=>ok (λ_ _ _ _=>by cases h;exact zfc)
  |_=>AF
 |.Constant (.bool i) _ _=>match v with
  |.bl j=>an (ask (i=j)) λh=>ok (λ_ _ _ _=>by cases h;exact ziO)
  |_=>AF
 |.Constant .none _ _=>match v with
  |.non=>ok (λ_ _ _ _=>zhD)
  |_=>AF
 |.Constant (.str i) _ _=>match v with
  |.str j=>an (ask (i=j)) λh=>ok (λ_ _ _ _=>by cases h;exact zia)
  |_=>AF
 |_=>AF
def yfG(i:Nat)(e:AM):Pr (YE γ κ e (.var i)):=
 match e with
 |.Name x _=>an (ask (κ.N[i]?=AA x/\yb2 κ.sc x=AC/\pln x=AC)) λh=>ok (λ_ _ _ G=>zgX (by rw[G.n];exact h.1) (by rw[G.sc];exact zaU h.2.1) (zaz h.2.2) (zb7 h.2.2))
 |_=>AF
def yfe(o:BOp)(e:AM)(fa:∀x,Pr (YE γ κ x ca))(fb:∀x,Pr (YE γ κ x cb)):Pr (YE γ κ e (.bin o ca cb)):=
 match e with
 |.BinOp a op b _=>
  an (mOp op o) λho=>an (fa a) λha=>an (fb b) λhb=>ok (λm S X G=>zha (ho S X) (ha m S X G) (hb m S X G))
 |_=>AF
def yeF(e:AM)(fa:∀x,Pr (YE γ κ x ca)):Pr (YE γ κ e (.neg ca)):=
 match e with
 |.UnaryOp .USub a _=>
  an (fa a) λha=>ok (λm S X G=>ze2 (ha m S X G))
 |_=>AF
def yfN(e:AM)(fa:∀x,Pr (YE γ κ x ca)):Pr (YE γ κ e (.not ca)):=
 match e with
 |.UnaryOp .Not a _=>
  an (fa a) λha=>ok (λm S X G=>zif (ha m S X G))
 |_=>AF
def yeV(o:COp)(e:AM)(fa:∀x,Pr (YE γ κ x ca))(fb:∀x,Pr (YE γ κ x cb)):Pr (YE γ κ e (.cmp o ca cb)):=
 match e with
 |.Compare a [op] [b] _=>
  an (mCm op o) λho=>an (ask (nse b=AC)) λhs=>an (fa a) λha=>an (fb b) λhb=>ok (λm S X G=>zgE (ho _ S X G.room) (ha m S X G) (hb m S X G) (nmk hs))
 |_=>AF
def ydC(o:COp)(e:AM)(fa:∀x,Pr (YE γ κ x ca))(fb:∀x,Pr (YE γ κ x cb)):Pr (YT γ κ e (.cmp o ca cb)):=
 match e with
 |.Compare a [op] [b] _=>
  an (mCm op o) λho=>an (ask (nse b=AC)) λhs=>an (fa a) λha=>an (fb b) λhb=>ok (λm S X G=>zhj (ho _ S X G.room) (ha m S X G) (hb m S X G) (nmk hs))
 |_=>AF
theorem lmk{op op':Eh}{b c:AM}(h:nse c=AC):lastMarks [op,op'] [b,c]=false:=nmk h
def yff(o p:COp)(e:AM)(fa:∀x,Pr (YE γ κ x ca))(fb:∀x,Pr (YE γ κ x cb))(fc:∀x,Pr (YE γ κ x cc)):Pr (YE γ κ e (.chain o p ca cb cc)):=
 match e with
 |.Compare a [op,op'] [b,c] _=>
  an (mCm op o) λho=>an (mCm op' p) λhp=>an (ask (nse c=AC)) λhs=>an (fa a) λha=>an (fb b) λhb=>an (fc c) λhc=>ok (λm S X G=>zeA (ho _ S X G.room) (hp _ S X G.room) (ha m S X G) (hb m S X G) (hc m S X G) (lmk hs))
 |_=>AF
def ydA(o p:COp)(e:AM)(fa:∀x,Pr (YE γ κ x ca))(fb:∀x,Pr (YE γ κ x cb))(fc:∀x,Pr (YE γ κ x cc)):Pr (YT γ κ e (.chain o p ca cb cc)):=
 match e with
 |.Compare a [op,op'] [b,c] _=>
  an (mCm op o) λho=>an (mCm op' p) λhp=>an (ask (nse c=AC)) λhs=>an (fa a) λha=>an (fb b) λhb=>an (fc c) λhc=>ok (λm S X G=>zee (ho _ S X G.room) (hp _ S X G.room) (ha m S X G) (hb m S X G) (hc m S X G) (lmk hs))
 |_=>AF
def ye5(e:AM)(fc:∀x,Pr (YT γ κ x cc))(fa:∀x,Pr (YE γ κ x ca))(fb:∀x,Pr (YE γ κ x cb)):Pr (YE γ κ e (.ite cc ca cb)):=
 match e with
 |.IfExp c a b _=>
  an (fc c) λhc=>an (fa a) λha=>an (fb b) λhb=>ok (λm S X G=>zgY (hc m S X G) (ha m S X G) (hb m S X G))
 |_=>AF
def yeR(e:AM)(fa:∀x,Pr (YA γ κ x ces)):Pr (YE γ κ e (.tup ces)):=
 match e with
 |.Tuple es _ _=>
  an (fa es) λha=>ok (λm S X G=>zgK (ha m S X G))
 |_=>AF
def ye1(e:AM)(fa:∀x,Pr (YA γ κ x ces)):Pr (YE γ κ e (.lst ces)):=
 match e with
 |.List es _=>
  an (fa es) λha=>ok (λm S X G=>zhL (ha m S X G))
 |_=>AF
def ydU(e:AM)(fa:∀x,Pr (YA γ κ x ces)):Pr (YE γ κ e (.newl ces)):=
 match e with
 |.List es _=>
  an (fa es) λha=>ok (λm S X G=>zfU (ha m S X G))
 |_=>AF
def yc6(t:Bool)(e:AM):Pr (YE γ κ e (.dict0 t)):=
 match t,e with
 |true,.Dict [] [] _=>ok (λ_ _ _ _=>zdo)
 |_,_=>AF
def mIdx(e:AM)(fa:∀x,Pr (YE γ κ x ca))(fb:∀x,Pr (YE γ κ x cb)):Pr (YE γ κ e (.idx ca cb)):=
 match e with
 |.Subscript a b _=>
  an (ask (nsl b=AC)) λhs=>an (fa a) λha=>an (fb b) λhb=>ok (λm S X G=>zhT (ha m S X G) (hb m S X G) (pix hs))
 |_=>AF
def yfB(e:AM)(fa:∀x,Pr (YE γ κ x ca))(fb:∀x,Pr (YO γ κ x cb))(fc:∀x,Pr (YO γ κ x cc)):Pr (YE γ κ e (.slc ca cb cc)):=
 match e with
 |.Subscript a (.Slice l h AF _) _=>
  an (fa a) λha=>an (fb l) λhb=>an (fc h) λhc=>ok (λm S X G=>zhH (ha m S X G) (hb m S X G) (hc m S X G))
 |_=>AF
def yez(c:Ce)(e:Option AM)(fa:∀x,Pr (YE γ κ x c)):Pr (YO γ κ e c):=
 match e with
 |none=>match c with
  |.cst .non=>ok (λ_ _ _ _=>zfD)
  |_=>AF
 |some a=>
  an (fa a) λha=>ok (λm S X G=>zgq (ha m S X G))
inductive Fs(γ:Gs)(κ:Kx):Ces->Type where
 |nil:Fs γ κ .nil
 |cons {c:Ce} {cs:Ces} (f:∀x,Pr (YE γ κ x c)) (r:Fs γ κ cs):Fs γ κ (.cons c cs)
def yaP:{ces:Ces}->Fs γ κ ces->(es:List AM)->Pr (YA γ κ es ces)
 |_,.nil,[]=>ok λ_ _ _ _=>zeb
 |_,.cons f r,a::es=>an (ask (nst a=AC)) λhs=>an (f a) λha=>an (yaP r es) λhr=>ok λm S X G=>zaQ (ha m S X G) (hr m S X G) (zac hs)
 |_,_,_=>AF
structure Sp2(γ:Gs)(κ:Kx)(ces:Ces)(np:Nat) where
 c1:Ces
 c2:Ces
 f1:Fs γ κ c1
 f2:Fs γ κ c2
 h:yG c1 c2=ces
 l:ybZ c1=np
def ybB:(np:Nat)->{ces:Ces}->Fs γ κ ces->Option (Sp2 γ κ ces np)
 |0,ces,F=>AA ⟨.nil,ces,.nil,F,rfl,rfl⟩
 |n+1,_,.cons f r=>match ybB n r with
  |some s=>AA ⟨.cons _ s.c1,s.c2,.cons f s.f1,s.f2,by rw[yG,s.h],by rw[ybZ,s.l]⟩
  |none=>AF
 |_,_,_=>AF
structure It2(γ:Gs)(κ:Kx)(ces:Ces)(sh:List (Option Int))(kws:List Bz) where
 it:List (Sum Ce Int)
 h:yh it=ces
 s:it.map shC=sh
 k:∀m S X,Good γ κ m S X->PK X kws (tK S X it)
def ybc:(sh:List (Option Int))->{ces:Ces}->Fs γ κ ces->(kws:List Bz)->Option (It2 γ κ ces sh kws)
 |[],_,.nil,[]=>AA ⟨[],rfl,rfl,λ_ _ _ _=>ziz⟩
 |none::sh,.cons c _,.cons f r,⟨_,e,_⟩ :: kws=>match f e,ybc sh r kws with
  |some h,AA q=>AA ⟨.inl c::q.it,by rw[yh,q.h],by rw[A2,q.s];rfl,λm S X G=>ziK (h.down m S X G) (q.k m S X G)⟩
  |_,_=>AF
 |some i::sh,.cons (.cst (.int j)) _,.cons _ r,kws=>if e:i=j then match ybc sh r kws with
  |some q=>AA ⟨.inr i::q.it,by rw[yh,q.h,e],by rw[A2,q.s];rfl,λm S X G=>zi5 (q.k m S X G)⟩
  |none=>AF
  else AF
 |_,_,_,_=>AF
def kwN:List Bz->List AR
 |[]=>[]
 |⟨AA x,_,_⟩ :: r=>x::kwN r
 |_::r=>kwN r
def kwB:List Bz->Bool
 |[]=>AC
 |⟨AA _,_,_⟩ :: r=>kwB r
 |_=>AH
def zhU{pos:Bd}{env:Az}:∀{kws:List Bz},kwB kws=AC->(backToKw pos (keywordEach kws env)).all (·.1.isSome)=AC/\(backToKw pos (keywordEach kws env)).filterMap (·.1)=kwN kws/\(backToKw pos (keywordEach kws env)).any (·.1.isNone)=AH
 |[],_=>⟨rfl,rfl,rfl⟩
 |⟨AA x,e,_⟩ :: r,h=>by
  let⟨h1,h2,h3⟩:=zhU (pos:=pos) (env:=env) (kws:=r) h;erw[backToKw]at h1 h2 h3 ⊢;erw[keywordEach,A2,Al,Bu,Bc,h1,h2,h3,kwN];simp
def yfq(hκ:κ.h=AH)(i:Nat)(F:Fs γ κ ces)(e:AM):Pr (YE γ κ e (.call i ces)):=
 match e with
 |.Call (.Name x _) [] [] _=>match F with
  |.nil=>an (ask (glB κ x=AC)) λhg=>an (gFn γ x i) λhf=>ok λm S X G=>by
   let⟨f,fd,ps,h1,h2,h3,h4⟩:=G.glo.F x i hf;exact zeL h1 ((G.rm hκ).mono (Cw m)) (zj G hg) h2 h3 h4 (zaz (zaa hg))
  |_=>AF
 |.Call (.Name x _) (a::es) kws _=>an (ask (glB κ x=AC/\nst a=AC/\ycK es=AC)) λhg=>
  match hx:γ.g x with
  |some (.fn j)=>match kws with
   |[]=>an (ask (j=i)) λhj=>an (yaP F (a::es)) λha=>ok λm S X G=>by
    subst hj;let⟨f,fd,ps,h1,h2,h3,h4⟩:=G.glo.F x j hx;exact zgD h1 ((G.rm hκ).mono (Cw m)) (zj G hg.1) h2 h3 h4 (ha m S X G) (zaz (zaa hg.1)) (zac hg.2.1) (stars hg.2.2)
   |_=>AF
  |some (.fnD j)=>match hk:γ.kb j (es.length+1) (kwN kws)with
   |none=>AF
   |some sh=>match ybB (es.length+1) F with
    |none=>AF
    |some s=>match ybc sh s.f2 kws with
     |none=>AF
     |some q=>an (ask (kwB kws=AC/\j=i)) λhw=>an (yaP s.f1 (a::es)) λha=>ok λm S X G=>by
      let⟨hw,rfl⟩:=hw;let⟨f,fd,ps,h1,h2,h3,h4⟩:=G.glo.Q x j _ _ sh hx hk;rw[<-s.h,<-q.h];rw[<-q.s]at h4;have w:=λ{pos}=>zhU (pos:=pos) (env:=X.env) hw;exact zeq h1 ((G.rm hκ).mono (Cw m)) (zj G hg.1) h2 h3 h4 s.l (ha m S X G) (q.k m S X G) w.1 w.2.1 (zaz (zaa hg.1)) (zac hg.2.1) (by
       rw[w.2.2,GI];exact stars (es:=a::es) (by erw[ycK,Al,hg.2.1,El];exact hg.2.2))
  |_=>AF
 |_=>AF
abbrev ydV(b:Blt)(x:AR):Prop:=∀S X,X.calm=AC->(∃id,yM X (.builtin id) (rB S X b)/\bootBuiltins x=AA (.builtin id)) \/ ∃T,yM X (.type T) (rB S X b)/\bootBuiltins x=AA (.type T)
def yf5(b:Blt)(x:AR):Pr (ydV b x):=
 match b with
 |.len=>an (ask (x="len")) λh=>ok λ_ _ _=>.inl ⟨_,zhh,h ▸ zhu⟩
 |.int=>an (ask (x="int")) λh=>ok λ_ _ _=>.inr ⟨_,zhy,h ▸ ze4⟩
 |.abs=>an (ask (x="abs")) λh=>ok λ_ _ _=>.inl ⟨_,zhw,h ▸ zhP⟩
 |.tuple=>an (ask (x="tuple")) λh=>ok λ_ _ _=>.inr ⟨_,zex,h ▸ zcd⟩
 |.all=>an (ask (x="all")) λh=>ok λ_ _ c=>.inl ⟨_,zih c,h ▸ zij⟩
 |_=>AF
def yeP(b:Blt)(F:Fs γ κ ces)(e:AM):Pr (YE γ κ e (.blt b ces)):=
 match e with
 |.Call (.Name x _) (a::es) [] _=>hf κ λhκ=>an (ask (glB κ x=AC/\nst a=AC/\ycK es=AC/\γ.b x=AC)) λhg=>an (yf5 b x) λhb=>an (yaP F (a::es)) λha=>ok λm S X G=>by
  rcases hb S X (G.calm hκ)with⟨id,h1,h2⟩|⟨T,h1,h2⟩
  .exact zgI h1 (zj G hg.1) (G.glo.B x hg.2.2.2) h2 (ha m S X G) (zcW (zaa hg.1)) (zaz (zaa hg.1)) (zac hg.2.1) (stars hg.2.2.1)
  .exact zgp h1 (zj G hg.1) (G.glo.B x hg.2.2.2) h2 (ha m S X G) (zcW (zaa hg.1)) (zaz (zaa hg.1)) (zac hg.2.1) (stars hg.2.2.1)
 |_=>AF
def yeI(b:Blt)(F:Fs γ κ ces)(e:AM):Pr (YE γ κ e (.blt b ces)):=
 match b with
 |b=>yeP b F e
def yfz(e:AM)(fa:∀x,Pr (YE γ κ x ca)):Pr (YE γ κ e (.srt ca)):=
 match e with
 |.Call (.Name x _) [a] [] _=>an (ask (x="sorted"/\glB κ x=AC/\nst a=AC/\γ.b x=AC)) λh=>an (fa a) λha=>ok λm S X G=>by
  let⟨rfl,h1,h2,h3⟩:=h;exact zh2 (zj G h1) (G.glo.B _ h3) (ha m S X G) (zac h2)
 |_=>AF
def ydj(e:AM)(fa:∀x,Pr (YE γ κ x ca))(fb:∀x,Pr (YE γ κ x cb)):Pr (YT γ κ e (.dne ca cb)):=
 match e with
 |.Compare a [.NotEq] [b] _=>an (ask (nse b=AC)) λhs=>an (fa a) λha=>an (fb b) λhb=>ok (λm S X G=>zio (zbO G.room) (ha m S X G) (hb m S X G) (nmk hs))
 |_=>AF
def tyB(t:Ty)(x:AR):Pr (ycr t=AC/\bootBuiltins x=AA (.type (tyN t))):=
 match t with
 |.int=>an (ask (x="int")) λh=>ok ⟨rfl,h ▸ ze4⟩
 |.bool=>an (ask (x="bool")) λh=>ok ⟨rfl,h ▸ zgf⟩
 |.str=>an (ask (x="str")) λh=>ok ⟨rfl,h ▸ zgU⟩
 |.tuple=>an (ask (x="tuple")) λh=>ok ⟨rfl,h ▸ zcd⟩
 |_=>AF
def yfc(ts:List Ty)(e:AM)(fa:∀x,Pr (YE γ κ x ca)):Pr (YE γ κ e (.isi ca ts)):=
 match ts,e with
 |[t],.Call (.Name n _) [a,.Name x _] [] _=>an (ask (n="isinstance"/\glB κ n=AC/\γ.b n=AC/\glB κ x=AC/\γ.b x=AC/\γ.t t=AC/\nst a=AC)) λh=>an (tyB t x) λht=>an (fa a) λha=>ok λm S X G=>by
  let⟨rfl,h1,h2,h3,h4,h5,h6⟩:=h;exact zhX (G.glo.T t h5) ht.1 (zj G h1) (G.glo.B _ h2) (zj G h3) (G.glo.B _ h4) ht.2 (ha m S X G) (zcW (zaa h3)) (zaz (zaa h3)) (zac h6) rfl
 |_,_=>AF
mutual
noncomputable def yc5:(a b:PV)->Pr (a=b)
 |.non,.non=>ok rfl
 |.bl a,.bl b=>an (ask (a=b)) λh=>ok (by rw[h])
 |.int a,.int b=>an (ask (a=b)) λh=>ok (by rw[h])
 |.str a,.str b=>an (ask (a=b)) λh=>ok (by rw[h])
 |.tp k a,.tp j b=>an (ask (k=j)) λh=>an (ybL a b) λg=>ok (by rw[h,g])
 |.lst a,.lst b=>an (ybL a b) λg=>ok (by rw[g])
 |_,_=>AF
noncomputable def ybL:(a b:List PV)->Pr (a=b)
 |[],[]=>ok rfl
 |a::x,b::y=>an (yc5 a b) λh=>an (ybL x y) λg=>ok (by rw[h,g])
 |_,_=>AF
end
def eqD:(a b:List (AR×PV))->Pr (a=b)
 |[],[]=>ok rfl
 |(k,a)::x,(j,b)::y=>an (ask (k=j)) λe=>an (yc5 a b) λh=>an (eqD x y) λg=>ok (by rw[e,h,g])
 |_,_=>AF
def yfU(v:PV)(e:AM):Pr (YE γ κ e (.cst v)):=
 match e with
 |.Name x _=>match h:γ.g x with
  |some (.cst u)=>an (ask (glB κ x=AC)) λhg=>an (yc5 u v) λhv=>ok λm S X G=>by
   subst hv;rcases G.glo.C x u h with q|⟨i,rfl,q⟩
   .exact zi6 (zj G hg) q (zaz (zaa hg))
   .exact zhc (zj G hg) q (zaz (zaa hg))
  |some (.fn i)=>match v with
   |.fnc j=>an (ask (glB κ x=AC/\γ.fv x i=AC/\i=j)) λhg=>ok λm S X G=>by
    let⟨h1,h2,rfl⟩:=hg;exact zdQ (zj G h1) (G.glo.V x i h h2) (λB φ H=>by erw[yc]) (zaz (zaa h1))
   |_=>AF
  |_=>AF
 |e=>yeS v e
def ziS{pos:Bd}{env:Az}{b:AM}(h:nst b=AC):((backTo pos (starEach [b] env)).all (λx=>!x.1)&&(backToKw pos (keywordEach [] env)).all (λx=>x.1.isSome)&&decide (([b]:List AM).length+([]:List Bz).length+(if ([]:List Bz).isEmpty then 0 else 1)<30))=true:=by
 rw[zac h];rfl
def yfR(k:Mth)(F:Fs γ κ ces)(e:AM)(fa:∀x,Pr (YE γ κ x ca)):Pr (YE γ κ e (.mth k ca ces)):=
 match k,e,F with
 |.append,.Call (.Attribute a n ap) [b] [] pos,.cons fb .nil=>an (ask (n="append"/\nca a=AC/\nst b=AC/\(ap.endLine==pos.line)=AC)) λh=>an (fa a) λha=>an (fb b) λhb=>ok λm S X G=>by
  let⟨rfl,h1,h2,h3⟩:=h;exact zdr (ha m S X G) (hb m S X G) (zac h2) (zeO h1) h3 (ziS h2)
 |.get,.Call (.Attribute a n ap) [b,c] [] pos,.cons fb (.cons fc .nil)=>an (ask (n="get"/\nca a=AC/\nst b=AC/\nst c=AC/\(ap.endLine==pos.line)=AC)) λh=>an (fa a) λha=>an (fb b) λhb=>an (fc c) λhc=>ok λm S X G=>by
  let⟨rfl,h1,h2,h4,h3⟩:=h;exact zhd (zfg G.room) (ha m S X G) (hb m S X G) (hc m S X G) ⟨zeO h1,by rw[zac h2,zac h4];rfl,h3,by rw[zac h2,zac h4];rfl⟩
 |_,_,_=>AF
end
structure Ev(γ:Gs)(c:Ce) where
 e:∀κ x,Pr (YE γ κ x c)
 t:∀κ x,Pr (YT γ κ x c)
 w:∀κ op l pos,Pr (YW γ κ (.BoolOp op l pos) c)
section
variable {γ:Gs}{ca cb cc:Ce}
def w1{c:Ce}(t:∀κ x,Pr (YT γ κ x c))(κ:Kx)(op:G3)(l:List AM)(pos:Bd):Pr (YW γ κ (.BoolOp op l pos) c):=
 match op,l with
 |.And,[a]=>an (t κ a) λh=>ok λm S X G=>zgs (h m S X G)
 |.Or,[a]=>an (t κ a) λh=>ok λm S X G=>zgW (h m S X G)
 |_,_=>AF
def plT{c:Ce}(e:∀κ x,Pr (YE γ κ x c))(κ:Kx)(x:AM):Pr (YT γ κ x c):=an (ask (nte x=AC)) λh=>an (e κ x) λhe=>ok λm S X G=>zgZ (he m S X G) (itr h)
def plain{c:Ce}(e:∀κ x,Pr (YE γ κ x c)):Ev γ c:=⟨e,plT e,w1 (plT e)⟩
def ybm{c:Ce}(e:∀κ x,Pr (YE γ κ x c))(t:∀κ x,Pr (YT γ κ x c)):Ev γ c:=⟨e,t,w1 t⟩
def yfS(A:Ev γ ca)(κ:Kx)(e:AM):Pr (YT γ κ e (.not ca)):=
 match e with
 |.UnaryOp .Not a _=>an (A.t κ a) λh=>ok λm S X G=>zgQ (h m S X G)
 |_=>AF
def yf3(A:Ev γ ca)(B:Ev γ cb)(κ:Kx)(e:AM):Pr (YE γ κ e (.and ca cb)):=
 match e with
 |.BoolOp .And (a::b::[]) _=>an (A.e κ a) λha=>an (B.e κ b) λhb=>ok λm S X G=>zfd (ha m S X G) (ze6 (hb m S X G))
 |.BoolOp .And (a::b::c::r) p=>an (A.e κ a) λha=>an (B.e κ (.BoolOp .And (b::c::r) p)) λhb=>ok λm S X G=>zfd (ha m S X G) (hb m S X G)
 |_=>AF
def orE(A:Ev γ ca)(B:Ev γ cb)(κ:Kx)(e:AM):Pr (YE γ κ e (.or ca cb)):=
 match e with
 |.BoolOp .Or (a::b::[]) _=>an (A.e κ a) λha=>an (B.e κ b) λhb=>ok λm S X G=>zg8 (ha m S X G) (ze6 (hb m S X G))
 |.BoolOp .Or (a::b::c::r) p=>an (A.e κ a) λha=>an (B.e κ (.BoolOp .Or (b::c::r) p)) λhb=>ok λm S X G=>zg8 (ha m S X G) (hb m S X G)
 |_=>AF
def ydb(A:Ev γ ca)(B:Ev γ cb)(κ:Kx)(op:G3)(l:List AM)(pos:Bd):Pr (YW γ κ (.BoolOp op l pos) (.and ca cb)):=
 match op,l with
 |.And,a::b::r=>an (A.t κ a) λha=>an (B.w κ .And (b::r) pos) λhb=>ok λm S X G=>zhI (ha m S X G) (hb m S X G)
 |_,_=>AF
def orW(A:Ev γ ca)(B:Ev γ cb)(κ:Kx)(op:G3)(l:List AM)(pos:Bd):Pr (YW γ κ (.BoolOp op l pos) (.or ca cb)):=
 match op,l with
 |.Or,a::b::r=>an (A.t κ a) λha=>an (B.w κ .Or (b::r) pos) λhb=>ok λm S X G=>zi1 (ha m S X G) (hb m S X G)
 |_,_=>AF
def ptW{c:Ce}(w:∀κ op l pos,Pr (YW γ κ (.BoolOp op l pos) c))(κ:Kx)(e:AM):Pr (YT γ κ e c):=
 match e with
 |.BoolOp op l p=>an (w κ op l p) λh=>ok λm S X G=>PW.pt (h m S X G)
 |_=>AF
def yej{c:Ce}(t:∀κ x,Pr (YT γ κ x c))(w:∀κ op l pos,Pr (YW γ κ (.BoolOp op l pos) c))(κ:Kx)(op:G3)(l:List AM)(pos:Bd):Pr (YW γ κ (.BoolOp op l pos) c):=
 match l with
 |[a]=>w1 t κ op [a] pos
 |l=>w κ op l pos
def ydr(A:Ev γ ca)(B:Ev γ cb):Ev γ (.and ca cb):=⟨yf3 A B,ptW (ydb A B),yej (ptW (ydb A B)) (ydb A B)⟩
def ye8(A:Ev γ ca)(B:Ev γ cb):Ev γ (.or ca cb):=⟨orE A B,ptW (orW A B),yej (ptW (orW A B)) (orW A B)⟩
end
abbrev YI(γ:Gs)(κ:Kx)(tg l:AM)(c:Cit):Prop:=∀m S X,Good γ κ m S X->PI X tg l (tI S X c)
abbrev YG(γ:Gs)(κ:Kx)(tg:AM)(c:Tg):Prop:=∀m S X,Good γ κ m S X->PG X tg (tG S X c)
section
variable {γ:Gs}{κ:Kx}{ca cb cc ce:Ce}{ci:Cit}
def yeM(e:∀x,Pr (YE γ κ x ca))(tg l:AM):Pr (YI γ κ tg l (.seq ca)):=an (e l) λh=>ok λm S X G=>zhn (h m S X G)
def iR1(fa:∀x,Pr (YE γ κ x ca))(tg l:AM):Pr (YI γ κ tg l (.range1 ca)):=
 match l with
 |.Call (.Name x _) [a] [] _=>an (ask (x="range"/\glB κ x=AC/\γ.b x=AC/\nst a=AC)) λh=>an (fa a) λha=>ok λm S X G=>by
  let⟨rfl,h1,h2,h3⟩:=h;exact zc2 (zj G h1) (G.glo.B _ h2) (ha m S X G) (zac h3)
 |_=>AF
def ydF(fa:∀x,Pr (YE γ κ x ca))(tg l:AM):Pr (YI γ κ tg l (.enum ca)):=
 match tg,l with
 |.Tuple _ _ _,.Call (.Name x _) [a] [] _=>an (ask (x="enumerate"/\glB κ x=AC/\γ.b x=AC/\nst a=AC)) λh=>an (fa a) λha=>ok λm S X G=>by
  let⟨rfl,h1,h2,h3⟩:=h;exact zf6 (zj G h1) (G.glo.B _ h2) (ha m S X G) (zac h3)
 |_,_=>AF
def gNm(κ:Kx):(l:List Nat)->(es:List AM)->Pr (∀m S X,Good γ κ m S X->PGs X es (gNs l)/\(assignEach es X.env).length=l.length/\(assignEach es X.env).findIdx? (·.1)=AF)
 |[],[]=>ok λ_ _ _ _=>⟨zgx,rfl,rfl⟩
 |i::l,.Name x _::es=>an (ask (setB κ i x=AC)) λh=>an (gNm κ l es) λhr=>ok λm S X G=>by
  have s:=zD G h;let⟨h1,h2,h3⟩:=hr m S X G;refine⟨zeD s.d s.i s.l h1 s.f,?_,?_⟩
  .simp only[assignEach,Ag,h2]
  .simp only[assignEach,List.findIdx?_cons,h3];rfl
 |_,_=>AF
def mTg(ct:Tg)(tg:AM):Pr (YG γ κ tg ct):=
 match ct,tg with
 |.n i,.Name x _=>an (ask (setB κ i x=AC)) λh=>ok λm S X G=>let s:=zD G h;zgw s.d s.i s.l s.f
 |.t l,.Tuple es _ _=>hf κ λhκ=>an (gNm κ l es) λh=>ok λm S X G=>zik (G.calm hκ) (h m S X G).1 (h m S X G).2.1 (h m S X G).2.2
 |_,_=>AF
def tgN:AM->List AR
 |.Name x _=>[x]
 |.Tuple es _ _=>es.filterMap fun
  |.Name x _=>AA x
  |_=>AF
 |_=>[]
def yaO(N:List AR)(sl:List (Option Nat))(tg:AM):List Str:=tgN tg++(sl.drop (tgN tg).length).filterMap λo=>o.bind λj=>N[j]?
def yaz(sc so:BB):Scope:={sc with names:=sc.names.map λ(n,k)=>if (k==CD&&so.kind==.function&&so.names.lookup n==AA .cell)then(n,Ej)else(n,k)}
def yV(N:List AR)(so sc:BB)(NC:List AR)(sl:List (Option Nat)):Bool:=
 decide (sc.kind=.function)&&(sc.names.all λy=>y.2 != .local || decide (sc.names.lookup y.1=AA .local))&&(sc.names.all λy=>y.2 != .cell)&&(sc.names.all λy=>y.2 != .free || decide (so.names.lookup y.1=AA .cell)) &&
  ((NC.zip sl).all λp=>p.2.all λj=>decide (N[j]?=AA p.1/\sc.names.lookup p.1=AA .free))&&decide (sl.length=NC.length)
def za2{X:Cx}{sc:BB}{NC:List AR}{sl:List (Option Nat)}(h:yV X.N X.env.scope sc NC sl=AC):yC X sc NC sl:=by
 erw[yV,AJ,decide_eq_true_eq,BZ,DD,bne_iff_ne,ne_eq]at h;let⟨⟨⟨⟨⟨h1,h2⟩,h3⟩,h4⟩,h5⟩,h6⟩:=h;exact zhN _ _ rfl rfl h1 (λy hy e=>(h2 y hy).resolve_left λz=>z e) h3 (λy hy e=>(h4 y hy).resolve_left λz=>z e) (λp hp=>by simpa using h5 p hp) h6
theorem Good.comp{m:Nat}{S:Se}{X:Cx}(G:Good γ κ m S X)(sc:BB)(NC:List AR)(j:CI):Good γ ⟨NC,yaz sc κ.sc,AH,κ.h⟩ m S (cxC X sc NC j):=by
 refine⟨rfl,?_,G.calm,G.room,G.hd,(λh=>nomatch h),(λh=>nomatch h),⟨G.glo.F,G.glo.Q,G.glo.C,G.glo.D,G.glo.E,G.glo.N,G.glo.B,G.glo.T,G.glo.A,G.glo.M,λy D h=>let ⟨fa,fdd,ps,M,d⟩:=G.glo.K y D h;⟨fa,fdd,ps,⟨M.F,M.kp,M.b⟩,d⟩,G.glo.V,G.glo.I,G.glo.L,G.glo.H,G.glo.Z⟩⟩;show relabel sc X.env=_;rw[<-G.sc];rfl
def yeU(c:Ce)(f:∀x,Pr (YT γ κ x c))(ifs:List AM):Pr (∀m S X,Good γ κ m S X->PTs X ifs (tT0 S X.K c)):=
 match ifs with
 |[]=>match c with
  |.cst (.bl AC)=>ok λ_ _ _ _=>zeT
  |_=>AF
 |[a]=>an (f a) λh=>ok λm S X G=>zgk rfl (h m S X G)
 |_=>AF
structure ybU(γ:Gs)(κ:Kx)(sl:List (Option Nat))(ct:Tg)(ci:Cit)(cc ce:Ce)(elt tg it:AM)(ifs:List AM)(sc:BB):Prop where
 q:∀m S X,Good γ κ m S X->∃NC,yC X sc NC sl/\PI X tg it (tI S X ci)/\(∀j,PG (cxC X sc NC j) tg (tG0 S X.K ct))/\(∀j,PTs (cxC X sc NC j) ifs (tT0 S X.K cc))/\∀j,PE (cxC X sc NC j) elt (tE0 S X.K ce)
 f:yH ct sl=AC
 s:nse it=AC
def mCo(sl:List (Option Nat))(ct:Tg)(fi:∀tg l,Pr (YI γ κ tg l ci))(C:Ev γ cc)(E:Ev γ ce)(elt tg it:AM)(ifs:List AM)(sc:BB):Pr (ybU γ κ sl ct ci cc ce elt tg it ifs sc):=
 an (ask (yV κ.N κ.sc sc (yaO κ.N sl tg) sl=AC/\yH ct sl=AC/\nse it=AC)) λh=>an (fi tg it) λhi=>an (mTg (γ:=γ) (κ:=⟨yaO κ.N sl tg,yaz sc κ.sc,AH,κ.h⟩) ct tg) λhg=>
  an (yeU (γ:=γ) (κ:=⟨yaO κ.N sl tg,yaz sc κ.sc,AH,κ.h⟩) cc (C.t _) ifs) λht=>an (E.e ⟨yaO κ.N sl tg,yaz sc κ.sc,AH,κ.h⟩ elt) λhe=>ok ⟨λm S X G=>⟨yaO κ.N sl tg,by
   rw[<-G.n,<-G.sc]at h;rw[<-G.n];exact za2 h.1,hi m S X G,λj=>zcY rfl (hg m S _ (G.comp sc _ j)),λj=>ht m S _ (G.comp sc _ j),λj=>zcO rfl (he m S _ (G.comp sc _ j))⟩,h.2.1,h.2.2⟩
def yds(sl:List (Option Nat))(ct:Tg)(fi:∀tg l,Pr (YI γ κ tg l ci))(C:Ev γ cc)(E:Ev γ ce)(e:AM):Pr (YE γ κ e (.comp sl ct ci cc ce)):=
 match e with
 |.ListComp elt [⟨tg,it,ifs,0⟩] sc _=>hf κ λhκ=>an (mCo sl ct fi C E elt tg it ifs sc) λh=>ok λm S X G=>by
  let⟨NC,h1,h2,h3,h4,h5⟩:=h.q m S X G;exact zfJ (G.calm hκ) h1 h.f h2 h3 h4 h5 (fse h.s)
 |_=>AF
def ye6(sl:List (Option Nat))(ct:Tg)(fa:∀x,Pr (YE γ κ x ca))(E:Ev γ ce)(e:AM):Pr (YE γ κ e (.cml sl ct ca ce)):=
 match e with
 |.ListComp elt [⟨tg,it,[],0⟩] sc _=>hf κ λhκ=>an (ask (yV κ.N κ.sc sc (yaO κ.N sl tg) sl=AC/\yH ct sl=AC/\nse it=AC)) λh=>an (fa it) λhi=>an (mTg (γ:=γ) (κ:=⟨yaO κ.N sl tg,yaz sc κ.sc,AH,κ.h⟩) ct tg) λhg=>
  an (E.e ⟨yaO κ.N sl tg,yaz sc κ.sc,AH,κ.h⟩ elt) λhe=>ok λm S X G=>zh7 (NC:=yaO κ.N sl tg) (G.calm hκ) (by rw[<-G.n,<-G.sc]at h;rw[<-G.n];exact za2 h.1) h.2.1 (hi m S X G) (λj=>zcY rfl (hg m S _ (G.comp sc _ j))) (λj=>zcO rfl (he m S _ (G.comp sc _ j))) (fse h.2.2)
 |_=>AF
end
section
variable {γ:Gs}{κ:Kx}
def ye0(i:Nat)(e:AM):Pr (YE γ κ e (.dfl i)):=
 match e with
 |.Call (.Name x _) [.ListComp (.Tuple [.Name k1 _,.Subscript (.Name d1 _) (.Name k2 _) _] _ _) [⟨.Name k p1,.Name d _,[.Compare (.Subscript (.Name d2 _) (.Name k3 _) _) [.NotEq] [.Constant (.int z) _ _] _],0⟩] sc _] [] _=>
  hf κ λhκ=>an (ask (x="dict"/\glB κ x=AC/\γ.b x=AC)) λh=>an (ask (k1=k/\d1=d/\k2=k/\d2=d/\k3=k/\z=0)) λhn=>
  an (ask (yV κ.N κ.sc sc (yaO κ.N [AF,AA i] (.Name k p1)) [AF,AA i]=AC/\κ.N[i]?=AA d/\yb2 κ.sc d=AC/\pln d=AC/\pln k=AC)) λhc=>
  an (ask ((yaO κ.N [AF,AA i] (.Name k p1))[0]?=AA k/\(yaO κ.N [AF,AA i] (.Name k p1))[1]?=AA d/\yb2 (yaz sc κ.sc) k=AC/\yb2 (yaz sc κ.sc) d=AC/\setB ⟨yaO κ.N [AF,AA i] (.Name k p1),yaz sc κ.sc,AH,κ.h⟩ 0 k=AC)) λhv=>ok λm S X G=>by
   let⟨rfl,h1,h3⟩:=h;let⟨rfl,rfl,rfl,rfl,rfl,rfl⟩:=hn;let⟨c1,c2,c3,c4,c5⟩:=hc;let⟨v1,v2,v3,v4,v5⟩:=hv;have GC:=λj=>G.comp sc (yaO κ.N [AF,AA i] (.Name k3 p1)) j;exact zh0 (NC:=yaO κ.N [AF,AA i] (.Name k3 p1)) (zbO G.room) (G.calm hκ) (zj G h1) (G.glo.B _ h3) (by rw[<-G.n,<-G.sc]at c1;rw[<-G.n];exact za2 c1)
    (zb6 (by rw[G.n];exact c2) (by rw[G.sc];exact zaU c3) (zaz c4) (zb7 c4))
    (λj=>let s:=zD (GC j) v5;zbR s.d s.i s.l s.f)
    (λj q=>zb6 (by rw[(GC j).n];exact v1) (by rw[(GC j).sc];exact zaU v3) (zaz c5) (zb7 c5))
    (λj q=>zb6 (by rw[(GC j).n];exact v2) (by rw[(GC j).sc];exact zaU v4) (zaz c4) (zb7 c4))
 |_=>AF
end
section
variable {γ:Gs}{κ:Kx}
def mPp:(kvs:List (AR×Int))->(ks:List (Option AM))->(vs:List AM)->Pr (∀X pos,PPs X pos ks vs (trC kvs))
 |[],[],[]=>ok λ_ _=>zgT
 |(x,i)::r,AA (.Constant (.str y) _ _)::ks,.Constant (.int j) _ _::vs=>an (ask (y=x/\j=i)) λh=>an (mPp r ks vs) λhr=>ok λX pos=>by
  let⟨rfl,rfl⟩:=h;exact zgl (hr X pos)
 |_,_,_=>AF
def yc3(kvs:List (AR×Int))(e:AM):Pr (YE γ κ e (.newd kvs)):=
 match e with
 |.Dict ks vs pos=>an (mPp kvs ks vs) λh=>an (ask (ks.all (·.isSome)=AC/\ks.length=vs.length/\ks.length≠0/\ks.length<=15)) λq=>ok λm S X G=>zf8 (h X pos) q.1 q.2.1 (λz=>q.2.2.1 (by rw[z];rfl)) q.2.2.2
 |_=>AF
end
mutual
noncomputable def ch(γ:Gs):(c:Ce)->Ev γ c
 |.cst v=>plain λκ x=>yfU v x
 |.var i=>plain λκ x=>yfG i x
 |.bin o a b=>plain λκ x=>yfe o x ((ch γ a).e κ) ((ch γ b).e κ)
 |.neg a=>plain λκ x=>yeF x ((ch γ a).e κ)
 |.not a=>ybm (λκ x=>yfN x ((ch γ a).e κ)) (yfS (ch γ a))
 |.and a b=>ydr (ch γ a) (ch γ b)
 |.or a b=>ye8 (ch γ a) (ch γ b)
 |.cmp o a b=>ybm (λκ x=>yeV o x ((ch γ a).e κ) ((ch γ b).e κ)) (λκ x=>ydC o x ((ch γ a).e κ) ((ch γ b).e κ))
 |.chain o p a b c=>ybm (λκ x=>yff o p x ((ch γ a).e κ) ((ch γ b).e κ) ((ch γ c).e κ)) (λκ x=>ydA o p x ((ch γ a).e κ) ((ch γ b).e κ) ((ch γ c).e κ))
 |.ite c a b=>plain λκ x=>ye5 x ((ch γ c).t κ) ((ch γ a).e κ) ((ch γ b).e κ)
 |.tup es=>plain λκ x=>yeR x (yaP (chs γ es κ))
 |.lst es=>plain λκ x=>ye1 x (yaP (chs γ es κ))
 |.newl es=>plain λκ x=>ydU x (yaP (chs γ es κ))
 |.newd kvs=>plain λκ x=>yc3 kvs x
 |.dict0 t=>plain λκ x=>yc6 t x
 |.srt a=>plain λκ x=>yfz x ((ch γ a).e κ)
 |.dfl i=>plain λκ x=>ye0 i x
 |.dne a b=>ybm (λ_ _=>AF) (λκ x=>ydj x ((ch γ a).e κ) ((ch γ b).e κ))
 |.idx a i=>plain λκ x=>mIdx x ((ch γ a).e κ) ((ch γ i).e κ)
 |.slc a l h=>plain λκ x=>yfB x ((ch γ a).e κ) (λo=>yez l o ((ch γ l).e κ)) (λo=>yez h o ((ch γ h).e κ))
 |.call f es=>plain λκ x=>hf κ λh=>yfq h f (chs γ es κ) x
 |.blt b es=>plain λκ x=>yeI b (chs γ es κ) x
 |.mth k o es=>plain λκ x=>yfR k (chs γ es κ) x ((ch γ o).e κ)
 |.isi a ts=>plain λκ x=>yfc ts x ((ch γ a).e κ)
 |.comp sl tg it c e=>plain λκ x=>yds sl tg (chi γ it κ) (ch γ c) (ch γ e) x
 |.cml sl tg i e=>plain λκ x=>ye6 sl tg ((ch γ i).e κ) (ch γ e) x
 |.nope=>plain λκ x=>ok λ_ _ _ _=>zfM
noncomputable def chs(γ:Gs):(cs:Ces)->(κ:Kx)->Fs γ κ cs
 |.nil,_=>.nil
 |.cons c cs,κ=>.cons (λx=>(ch γ c).e κ x) (chs γ cs κ)
noncomputable def chi(γ:Gs):(c:Cit)->(κ:Kx)->∀tg l,Pr (YI γ κ tg l c)
 |.seq a,κ=>yeM ((ch γ a).e κ)
 |.range1 a,κ=>iR1 ((ch γ a).e κ)
 |.enum a,κ=>ydF ((ch γ a).e κ)
 |_,_=>λ_ _=>AF
end
section
variable {γ:Gs}{κ:Kx}{ca cb cc ce:Ce}{ci:Cit}{ct:Tg}{cs cs':Css}{ces:Ces}
def swB(so:BB)(x:AR)(px pos:Bd)(sc:BB):Bool:=(if so.kind.isAnnotationScope then D0 else so.kind)==.function&&so.names.lookup x==AA .local&&px.line==pos.line&&!(sc.names.any λ(n,k)=>n==x&&(k==.local || k==.cell))
def zi8{elt:AM}{gs:List Comprehension}{sc:BB}{pos px:Bd}{x:AR}{l:Nat}{env:Az}:swapsWith (.ListComp elt gs sc pos) (AA (.Name x px)) l env=pure (swB env.scope x px pos sc):=rfl
def yc4(f:∀x,Pr (YE γ κ x ca))(s:Bb):Pr (YS γ κ s (.expr ca)):=
 match s with
 |.Expr a _=>an (ask (nco a=AC)) λhs=>an (f a) λh=>ok λm S X G=>zfK (h m S X G) (swp hs)
 |_=>AF
def yfE(i:Nat)(f:∀x,Pr (YE γ κ x ca))(s:Bb):Pr (YS γ κ s (.asg (.n i) ca)):=
 match s with
 |.Assign [.Name x _] a _=>an (ask (nco a=AC/\setB κ i x=AC)) λhs=>an (f a) λh=>ok λm S X G=>let q:=zD G hs.2;zgR q.d q.i q.l (h m S X G) (swp hs.1) q.f
 |_=>AF
def ydS(i:Nat)(sl:List (Option Nat))(ct:Tg)(fi:∀tg l,Pr (YI γ κ tg l ci))(C:Ev γ cc)(E:Ev γ ce)(s:Bb):Pr (YS γ κ s (.asg (.n i) (.comp sl ct ci cc ce))):=
 match s with
 |.Assign [.Name x px] (.ListComp elt [⟨tg,it,ifs,0⟩] sc p) _=>hf κ λhκ=>an (ask (setB κ i x=AC/\swB κ.sc x px p sc=AC)) λhs=>an (mCo sl ct fi C E elt tg it ifs sc) λh=>ok λm S X G=>by
  let⟨NC,h1,h2,h3,h4,h5⟩:=h.q m S X G;have q:=zD G hs.1;exact zfq q.d q.i q.l (G.calm hκ) h1 h.f h2 h3 h4 h5 (by rw[zi8,G.sc,hs.2]) (fse h.s) q.f
 |_=>AF
def zfy{a:AM}(h:nst a=AC):(match (generalizing:=false) a with | .Starred _ _=>AC|_=>AH)=false:=by
 revert h;cases a<;>intro h<;>first|rfl|cases h
def swD(so:BB)(x y:AR)(px py:Bd)(a b:AM):Bool:=(if so.kind.isAnnotationScope then D0 else so.kind)==.function&&so.names.lookup x==AA .local&&so.names.lookup y==AA .local&&py.line==px.line&&nst a&&nst b&&!(x==y)&&!(foldedForSure 8 a&&foldedForSure 8 b)&&!(constantsAlone 8 a&&constantsAlone 8 b)
def zi9{x y:AR}{px py pt pt2:Bd}{kt k2:Nat}{a b:AM}{env:Az}(h:swD env.scope x y px py a b=AC):
  swappedStores [.Tuple [.Name x px,.Name y py] kt pt] (.Tuple [a,b] k2 pt2) env=pure (AA [x,y]):=by
 erw[swD,AJ,B7]at h;let⟨⟨⟨⟨⟨⟨⟨⟨h1,h2⟩,h3⟩,h4⟩,h5⟩,h6⟩,h7⟩,h8⟩,h9⟩:=h;have k1:(env.blockKind != .function)=false:=by
  show (!((if env.scope.kind.isAnnotationScope then D0 else env.scope.kind)==.function))=AH;rw[h1];rfl
 have k2:env.kindOf x=AA .local:=eq_of_beq h2;have k3:env.kindOf y=AA .local:=eq_of_beq h3;have k4:py.line=px.line:=eq_of_beq h4;have k7:¬y=x:=λz=>by subst z;simp at h7
 have m1:=zfy h5;have m2:=zfy h6;have c8:¬(foldedForSure 8 a=AC/\foldedForSure 8 b=AC):=λz=>by rw[z.1,z.2]at h8;cases h8
 have c9:¬(constantsAlone 8 a=AC/\constantsAlone 8 b=AC):=λz=>by rw[z.1,z.2]at h9;cases h9
 have x1:(Expr.Name x px).pos=px:=rfl;have x2:(Expr.Name y py).pos=py:=rfl;unfold swappedStores;simp[k1,m1,m2,k2,k3,k4,List.eraseDups_cons,k7,x1,x2,c8,c9,Bu];intro z;exfalso;rcases z with z|z
 .exact AQ (m1.symm.trans z)
 .exact AQ (m2.symm.trans z)
def yfD(i j:Nat)(fa:∀x,Pr (YE γ κ x ca))(fb:∀x,Pr (YE γ κ x cb))(s:Bb):Pr (YS γ κ s (.asg (.t [i,j]) (.tup (.cons ca (.cons cb .nil))))):=
 match s with
 |.Assign [.Tuple [.Name x px,.Name y py] _ _] (.Tuple [a,b] _ _) _=>hf κ λhκ=>an (ask (setB κ i x=AC/\setB κ j y=AC/\i≠j/\swD κ.sc x y px py a b=AC)) λh=>an (fa a) λha=>an (fb b) λhb=>ok λm S X G=>by
  let⟨h1,h2,h3,h4⟩:=h;have q:=zD G h1;have r:=zD G h2;have h5:=h4;erw[swD,AJ]at h5;have e1:X.env.scope.names.lookup x=AA .local:=by rw[G.sc];exact eq_of_beq h5.1.1.1.1.1.1.1.2
  have e2:X.env.scope.names.lookup y=AA .local:=by rw[G.sc];exact eq_of_beq h5.1.1.1.1.1.1.2
  exact zig (G.calm hκ) q.d q.i r.i h3 (ziu (G.calm hκ) q.d q.i r.i h3 e1 e2 (zaQ (ha m S X G) (zaQ (hb m S X G) zeb (zac h5.1.1.1.2)) (zac h5.1.1.1.1.2)) (zi9 (by rw[G.sc];exact h4)))
 |_=>AF
theorem sw0{es:List AM}{k:Nat}{p:Bd}{a:AM}{env:Az}(h:ntu a=AC):swappedStores [.Tuple es k p] a env=pure none:=by
 cases a<;>first|rfl|cases h
theorem sw1{b c:AM}{p:Bd}{a:AM}{env:Az}:swappedStores [.Subscript b c p] a env=pure none:=by
 cases a<;>rfl
def zfB{t a:AM}{l:Nat}{env:Az}(h:nco a=AC):swapsWithSole [t] a l env=pure false:=by
 show swapsWith a (AA t) l env=_;exact swp h
theorem asS{b c:AM}{pos:Bd}{env:Az}(h:nsl c=AC):∀v,assign (.Subscript b c pos) env v=(do
   let ov <-holding [v] (eval b env)
   let iv <-holding [v,ov] (eval c env)
   standAt pos
   holding [v,ov,iv] (setItem ov iv v)
   release [v,ov,iv] []):=by
 cases c<;>first|exact λ_=>rfl|cases h
def yfm(l:List Nat)(f:∀x,Pr (YE γ κ x ca))(s:Bb):Pr (YS γ κ s (.asg (.t l) ca)):=
 match s with
 |.Assign [.Tuple es k p] a _=>an (ask (nco a=AC/\ntu a=AC)) λhs=>an (mTg (γ:=γ) (κ:=κ) (.t l) (.Tuple es k p)) λhg=>an (f a) λh=>ok λm S X G=>zgB (h m S X G) (hg m S X G) (zfB hs.1) (sw0 hs.2)
 |_=>AF
def yfZ(f:∀x,Pr (YE γ κ x cc))(fo:∀x,Pr (YE γ κ x ca))(fi:∀x,Pr (YE γ κ x cb))(s:Bb):Pr (YS γ κ s (.six ca cb cc)):=
 match s with
 |.Assign [.Subscript b c _] a _=>an (ask (nco a=AC/\nsl c=AC)) λhs=>an (f a) λh=>an (fo b) λho=>an (fi c) λhi=>ok λm S X G=>zg7 (h m S X G) (ho m S X G) (hi m S X G) (zfB hs.1) sw1 (zfm (ho m S X G) (hi m S X G) zcu (asS hs.2))
 |_=>AF
def ydh(f:∀x,Pr (YE γ κ x cc))(fo:∀x,Pr (YE γ κ x ca))(fi:∀x,Pr (YE γ κ x cb))(s:Bb):Pr (YS γ κ s (.dput ca cb cc)):=
 match s with
 |.Assign [.Subscript b c _] a _=>an (ask (nco a=AC)) λhs=>an (f a) λh=>an (fo b) λho=>an (fi c) λhi=>ok λm S X G=>zfr (zfg G.room) (ho m S X G) (hi m S X G) (h m S X G) (swp hs)
 |_=>AF
def yfA(op:Di)(o:BOp):Pr (∀S X,PIp X op (rT2 S X (ya5 o))):=
 match op,o with
 |.Add,.add=>ok λ_ _=>zgh
 |_,_=>AF
def yfd(i:Nat)(o:BOp)(f:∀x,Pr (YE γ κ x ca))(s:Bb):Pr (YS γ κ s (.aug i o ca)):=
 match s with
 |.AugAssign (.Name x _) op a _=>an (ask (setB κ i x=AC)) λh=>an (yfA op o) λhp=>an (f a) λha=>ok λm S X G=>let q:=zD G h;zg2 q.d q.i q.l (ha m S X G) (hp S X) q.f (zaz q.p) (zb7 q.p)
 |_=>AF
def yf2(c:Ce)(f:∀x,Pr (YE γ κ x c))(s:Bb):Pr (YS γ κ s (.ret c)):=
 match s with
 |.Return (AA a) _=>an (f a) λh=>ok λm S X G=>zgF (h m S X G)
 |.Return AF _=>match c with
  |.cst .non=>ok λ_ _ _ _=>zf7
  |_=>AF
 |_=>AF
def sIf(fc:∀x,Pr (YT γ κ x cc))(fa:∀x,Pr (YSs γ κ x cs))(fb:∀x,Pr (YSs γ κ x cs'))(s:Bb):Pr (YS γ κ s (.ite cc cs cs')):=
 match s with
 |.If c a b _=>an (fc c) λhc=>an (fa a) λha=>an (fb b) λhb=>ok λm S X G=>ziQ (hc m S X G) (ha m S X G) (hb m S X G)
 |_=>AF
def yeY(ct:Tg)(fi:∀tg l,Pr (YI γ κ tg l ci))(fb:∀x,Pr (YSs γ κ x cs))(s:Bb):Pr (YS γ κ s (.for ct ci cs)):=
 match s with
 |.For tg l b [] _=>hf κ λhκ=>an (ask (κ.own=AC/\nse l=AC)) λho=>an (fi tg l) λhi=>an (mTg (γ:=γ) (κ:=κ) ct tg) λhg=>an (fb b) λhb=>ok λm S X G=>zh5 (G.own ho.1).1 (G.calm hκ) (hi m S X G) (hg m S X G) (hb m S X G) (fse ho.2)
 |_=>AF
def sWh(fc:∀x,Pr (YT γ κ x cc))(fb:∀x,Pr (YSs γ κ x cs))(s:Bb):Pr (YS γ κ s (.while cc cs)):=
 match s with
 |.While c b [] _=>an (ask (κ.own=AC)) λho=>an (fc c) λhc=>an (fb b) λhb=>ok λm S X G=>zej (G.own ho).1 (hc m S X G) (hb m S X G)
 |_=>AF
end
mutual
noncomputable def chS(γ:Gs):(c:Cs)->(κ:Kx)->∀s,Pr (YS γ κ s c)
 |.expr e,κ=>yc4 ((ch γ e).e κ)
 |.asg (.n i) (.comp sl ct ci cc ce),κ=>ydS i sl ct (chi γ ci κ) (ch γ cc) (ch γ ce)
 |.asg (.n i) c,κ=>yfE i ((ch γ c).e κ)
 |.asg (.t [i,j]) (.tup (.cons a (.cons b .nil))),κ=>yfD i j ((ch γ a).e κ) ((ch γ b).e κ)
 |.asg (.t l) c,κ=>yfm l ((ch γ c).e κ)
 |.six o i e,κ=>yfZ ((ch γ e).e κ) ((ch γ o).e κ) ((ch γ i).e κ)
 |.dput o i e,κ=>ydh ((ch γ e).e κ) ((ch γ o).e κ) ((ch γ i).e κ)
 |.aug i o e,κ=>yfd i o ((ch γ e).e κ)
 |.ret e,κ=>yf2 e ((ch γ e).e κ)
 |.ite c a b,κ=>sIf ((ch γ c).t κ) (ybP γ a κ) (ybP γ b κ)
 |.for t it b,κ=>yeY t (chi γ it κ) (ybP γ b κ)
 |.while c b,κ=>sWh ((ch γ c).t κ) (ybP γ b κ)
 |.nope,_=>λ_=>ok λ_ _ _ _=>zfW
noncomputable def ybP(γ:Gs):(c:Css)->(κ:Kx)->∀s,Pr (YSs γ κ s c)
 |.nil,_,[]=>ok λ_ _ _ _=>zhJ
 |.cons c cs,κ,s::ss=>an (chS γ c κ s) λh=>an (ybP γ cs κ ss) λhr=>ok λm S X G=>zfR (h m S X G) (hr m S X G)
 |_,_,_=>AF
end
inductive Dk where
 |fn|fd (ds:List Int)|me (c:Nat)|ini (c:Nat)
structure Df where
 gn:AR
 nm:AR
 q:AR
 st:Bb
 N:List AR
 ps:List AR
 fn:IC.Fn
 k:Dk
def scB(N P:List AR)(sc:BB):Bool:=decide (sc.kind=.function)&&!sc.isCoroutine&&!sc.isGenerator&&decide N.Nodup&&decide (N.take P.length=P)&&P.all (ycQ sc)&&sc.names.all λy=>y.2 != .free
def zfe{N P:List AR}{sc:BB}(h:scB N P sc=AC):yX N P sc:=by
 erw[scB,AJ,decide_eq_true_eq,B7,BZ,bne_iff_ne,ne_eq]at h;let⟨⟨⟨⟨⟨⟨h1,h2⟩,h3⟩,h4⟩,h5⟩,h6⟩,h7⟩:=h;exact⟨h1,h2,h3,h4,h5,λx hx=>zdS (h6 x hx),h7⟩
def okD(γ:Gs)(d:Df):Bool:=scB d.N d.ps (ye d.st)&&decide (d.ps.length=d.fn.np)&&decide (d.N.length=d.fn.ns)&&(ybP γ d.fn.body ⟨d.N,ye d.st,AC,AH⟩ (yq d.st)).isSome
def ya8{α:Type}(P:α->Prop):List α->Prop
 |[]=>True
 |d::r=>P d/\ya8 P r
theorem ya8.get{α:Type}{P:α->Prop}:∀{l:List α},ya8 P l->∀d∈l,P d
 |_::_,h,d,hd=>by
  rcases Ac.1 hd with rfl|hd
  .exact h.1
  .exact h.2.get d hd
def yaW:List AR->(List AD->Prop)->Prop
 |[],P=>P []
 |_::r,P=>∀a,yaW r λus=>P (a::us)
theorem yaW.get:∀{ps:List AR} {P:List AD->Prop},yaW ps P->∀us,us.length=ps.length->P us
 |[],P,h,[],_=>h
 |_::r,P,h,a::us,e=>(h a).get us (by simpa using e)
def yay(d:Df):Prop:=∀(kV doc pm:AD) (an:Option AI) (cdv ct:AD),yaW d.ps λus=>bindArgs (BG d.nm d.q (yE d.st) (yq d.st) (ye d.st) .none kV doc pm an cdv ct) ⟨us,[]⟩=pure (d.ps.zip us)
structure ybr(K:AE)(d:Df)(dv:AD)(f:AI)(fd:Af):Prop where
 ex:∃(oc:AD) (od:Option AI) (kV doc pm:AD) (an:Option AI) (cdv ct:AD) (osl:Array (Option AD)),
  fd=BG d.nm d.q (yE d.st) (yq d.st) (ye d.st) dv kV doc pm an cdv ct/\K.lookup f=AA ⟨oc,od,.func fd,osl⟩/\Bf K cdv d.q=AC
 kp:Aa K (.ref f)=AC
def At(K:AE)(cn:Nat->AR)(d:Df)(f:AI):Prop:=
 match d.k with
 |.fn=>Ao K mainGlobals d.gn=AA (AA (.ref f))/\yay d
 |.fd _=>Ao K mainGlobals d.gn=AA (AA (.ref f))
 |.me c=>yay d/\∃q,Ao K mainGlobals (cn c)=AA (AA (.ref q))/\Ad K (.ref q) d.nm=AA (AA (.ref f))/\C5 K (.ref f)=AC
 |.ini c=>yay d/\∃q,Ao K mainGlobals (cn c)=AA (AA (.ref q))/\Ad K (.ref q) d.nm=AA (AA (.ref f))/\C5 K (.ref f)=AC/\EQ K q=AC/\Aa K (.ref q)=AC
def DvP(K:AE)(d:Df)(dv:AD):Prop:=
 match d.k with
 |.fd ds=>∃dT o its n,dv=.ref dT/\K.lookup dT=AA o/\o.data=.seq its n/\Vals (ds.map V.int) its.toList
 |_=>dv=.none
def yb0(K:AE)(cn:Nat->AR)(d:Df):Prop:=∃dv f fd,ybr K d dv f fd/\At K cn d f/\DvP K d dv
section
variable {K:AE}{cn:Nat->AR}{gn nm:AR}{st:Bb}{N ps:List AR}{fn:IC.Fn}{f:AI}{oc:AD}{od:Option AI}{kV doc pm:AD}{an:Option AI}{cdv ct:AD}{osl:Array (Option AD)}
theorem rowFn(a:Ao K mainGlobals gn=AA (AA (.ref f)))(l:K.lookup f=AA ⟨oc,od,.func (BG nm nm (yE st) (yq st) (ye st) .none kV doc pm an cdv ct),osl⟩)
  (c:Bf K cdv nm=AC) (p:Aa K (.ref f)=AC) (b:yay ⟨gn,nm,nm,st,N,ps,fn,.fn⟩):yb0 K cn ⟨gn,nm,nm,st,N,ps,fn,.fn⟩:=
 ⟨.none,f,_,⟨⟨oc,od,kV,doc,pm,an,cdv,ct,osl,rfl,l,c⟩,p⟩,⟨a,b⟩,rfl⟩
theorem rowFd{ds:List Int}{dT:AI}{o:B6}{its:Array AD}{n:Nat}(a:Ao K mainGlobals gn=AA (AA (.ref f)))(l:K.lookup f=AA ⟨oc,od,.func (BG nm nm (yE st) (yq st) (ye st) (.ref dT) kV doc pm an cdv ct),osl⟩)
  (c:Bf K cdv nm=AC) (p:Aa K (.ref f)=AC) (d:K.lookup dT=AA o) (e:o.data=.seq its n) (v:Vals (ds.map V.int) its.toList):yb0 K cn ⟨gn,nm,nm,st,N,ps,fn,.fd ds⟩:=
 ⟨.ref dT,f,_,⟨⟨oc,od,kV,doc,pm,an,cdv,ct,osl,rfl,l,c⟩,p⟩,a,dT,o,its,n,rfl,d,e,v⟩
theorem rowMe{qn:AR}{cc:Nat}{q:AI}(z:Ao K mainGlobals (cn cc)=AA (AA (.ref q)))(a:Ad K (.ref q) nm=AA (AA (.ref f)))(i:C5 K (.ref f)=AC)(l:K.lookup f=AA ⟨oc,od,.func (BG nm qn (yE st) (yq st) (ye st) .none kV doc pm an cdv ct),osl⟩)
  (c:Bf K cdv qn=AC) (p:Aa K (.ref f)=AC) (b:yay ⟨gn,nm,qn,st,N,ps,fn,.me cc⟩):yb0 K cn ⟨gn,nm,qn,st,N,ps,fn,.me cc⟩:=
 ⟨.none,f,_,⟨⟨oc,od,kV,doc,pm,an,cdv,ct,osl,rfl,l,c⟩,p⟩,⟨b,q,z,a,i⟩,rfl⟩
theorem rowIni{qn:AR}{cc:Nat}{q:AI}(z:Ao K mainGlobals (cn cc)=AA (AA (.ref q)))(a:Ad K (.ref q) nm=AA (AA (.ref f)))(i:C5 K (.ref f)=AC)(l:K.lookup f=AA ⟨oc,od,.func (BG nm qn (yE st) (yq st) (ye st) .none kV doc pm an cdv ct),osl⟩)
  (c:Bf K cdv qn=AC) (p:Aa K (.ref f)=AC) (b:yay ⟨gn,nm,qn,st,N,ps,fn,.ini cc⟩) (mk:EQ K q=AC) (kq:Aa K (.ref q)=AC):yb0 K cn ⟨gn,nm,qn,st,N,ps,fn,.ini cc⟩:=
 ⟨.none,f,_,⟨⟨oc,od,kV,doc,pm,an,cdv,ct,osl,rfl,l,c⟩,p⟩,⟨b,q,z,a,i,mk,kq⟩,rfl⟩
theorem gdf_mk{w:A3}{h:Ah}{mg:AR->Option AD}{x:AR}{D:List (AR×Nat)}{fa:Nat->AI}{y:AI}{es:Array BU}{ep:Nat}(X:K.In h)(G:h.Ns mainGlobals mg)(a:Ao K mainGlobals x=AA (AA (.ref y)))(l:K.lookup y=AA ⟨.type "dict",AF,.dict es ep,#[]⟩)
  (r:ybn w fa D es.toList) (n:(D.map (·.1)).Nodup):GDF K w mg fa x D:=⟨y,es,ep,Dc X G a,l,r,n⟩
theorem gd_mk{w:A3}{h:Ah}{mg:AR->Option AD}{x:AR}{D:List (AR×PV)}{cl:Nat->AI}{y:AI}{es:Array BU}{ep:Nat}(X:K.In h)(G:h.Ns mainGlobals mg)(a:Ao K mainGlobals x=AA (AA (.ref y)))(l:K.lookup y=AA ⟨.type "dict",AF,.dict es ep,#[]⟩)
  (s:(y==sysModules)=AH) (r:ybl K cl w D es.toList) (n:(D.map (·.1)).Nodup):GD K w mg cl x D:=⟨y,es,ep,Dc X G a,l,s,r,n⟩
end
abbrev KoV(K:AE)(v:PV)(u:AD):Prop:=∃x:V,RelV x u/\∀cl B φ H,yc K cl B φ H v x
abbrev KoL(K:AE)(vs:List PV)(us:List AD):Prop:=∃xs:List V,Vals xs us/\∀cl B φ H,yd K cl B φ H vs xs
mutual
noncomputable def ydW(K:AE):(v:PV)->(u:AD)->Pr (KoV K v u)
 |.int i,.int j t=>an (ask (i=j)) λh=>ok ⟨.int i,⟨t,by rw[h]⟩,λ_ _ _ _=>by erw[yc]⟩
 |.str i,.str j t=>an (ask (i=j)) λh=>ok ⟨.str i,⟨t,by rw[h]⟩,λ_ _ _ _=>by erw[yc]⟩
 |.tp AC vs,.ref a=>match h:K.lookup a with
  |some ⟨c,_,.seq its n,_⟩=>an (ask (c=.type "tuple"/\its.size<=sizeLine)) λq=>an (ycB K vs its.toList) λr=>ok (by
    let⟨xs,r1,r2⟩:=r;refine⟨.ref a,rfl,λcl B φ H=>?_⟩;erw[yc];exact⟨a,xs,rfl,.inr ⟨rfl,_,its,n,h,q.1,rfl,q.2,r1⟩,r2 cl B φ H⟩)
  |_=>AF
 |_,_=>AF
noncomputable def ycB(K:AE):(vs:List PV)->(us:List AD)->Pr (KoL K vs us)
 |[],[]=>ok ⟨[],.nil,λ_ _ _ _=>by erw[yd]⟩
 |v::vs,u::us=>an (ydW K v u) λh=>an (ycB K vs us) λr=>ok (by
   let⟨x,h1,h2⟩:=h;let⟨xs,r1,r2⟩:=r;refine⟨x::xs,.cons h1 r1,λcl B φ H=>?_⟩;erw[yd];exact⟨x,xs,rfl,h2 cl B φ H,r2 cl B φ H⟩)
 |_,_=>AF
end
theorem con_row{K:AE}{cl:Nat->AI}{w:A3}{k:AR}{v:PV}{tk:Gh}{u:AD}{D:List (AR×PV)}{es:List BU}(c:(ydW K v u).isSome=AC)(h:ybl K cl w D es):ybl K cl w ((k,v)::D) (⟨DZ w.params k,.str k tk,u⟩ :: es):=by
 let⟨⟨x,r,q⟩,_⟩:=A1.1 c;exact .cons r (q cl) h
theorem frow_cons{w:A3}{fa:Nat->AI}{k:AR}{i:Nat}{tk:Gh}{a:AI}{D:List (AR×Nat)}{es:List BU}(e:fa i=a)(h:ybn w fa D es):ybn w fa ((k,i)::D) (⟨DZ w.params k,.str k tk,.ref a⟩ :: es):=by
 subst e;exact .cons h
structure Tb where
 tbl:List Df
 al:List (AR×GK)
 bs:List AR
 ts:List Ty
 fl:List (Nat×AR)
 me:List ((Nat×AR)×Nat)
 kb:List ((Nat×Nat×List AR)×List (Option Int))
 cn:List (Nat×AR)
 dd:List (AR×List (AR×PV))
 ml:List (AR×List (AR×Nat))
 xs:List (Nat×Ty)
 xc:List (Nat×AR)
 xm:List (Nat×AR)
 qh:List AR
abbrev eF(x:AR)(i:Nat):AR×GK:=(x,.fn i)
abbrev eD(x:AR)(i:Nat):AR×GK:=(x,.fnD i)
abbrev eC(x:AR)(v:PV):AR×GK:=(x,.cst v)
abbrev eK(i n:Nat)(ks:List AR)(sh:List (Option Int)):(Nat×Nat×List AR)×List (Option Int):=((i,n,ks),sh)
def tyE:Ty->Ty->Bool
 |.int,.int=>AC
 |.bool,.bool=>AC
 |.str,.str=>AC
 |.tuple,.tuple=>AC
 |.list,.list=>AC
 |_,_=>AH
def zhm{a b:Ty}(h:tyE a b=AC):a=b:=by
 cases a<;>cases b<;>first|rfl|cases h
def tyX:Ty->Ty->Bool
 |.cls a,.cls b=>a==b
 |.val,.val=>AC
 |_,_=>AH
def zgJ{a b:Ty}(h:tyX a b=AC):a=b:=by
 cases a<;>cases b<;>first|rfl|(cases h;done)|(rw[eq_of_beq (show _=AC from h)])
def Tb.gs(t:Tb):Gs:=⟨λx=>t.al.lookup x,λx=>t.bs.contains x,λy=>t.ts.any (tyE y),λc f=>t.fl.contains (c,f),λc n=>t.me.lookup (c,n),λi n ks=>t.kb.lookup (i,n,ks),λx=>t.ml.lookup x,λx i=>decide (t.cn.lookup (1000+i)=AA x),λc y=>t.xs.any λp=>p.1==c&&tyX p.2 y,λd x=>t.xc.contains (d,x),λc x=>t.xm.contains (c,x),λi=>match t.tbl[i]? with
 |some d=>t.qh.contains d.gn
 |none=>AH⟩
def nmA(K:AE)(x:AR):Option Addr:=match Ao K mainGlobals x with
 |some (AA (.ref q))=>AA q
 |_=>AF
def clA(K:AE)(t:Tb)(c:Nat):Addr:=((t.cn.lookup c).bind (nmA K)).getD 0
def cnm(t:Tb)(c:Nat):Str:=(t.cn.lookup c).getD ""
def faA(K:AE)(t:Tb)(i:Nat):Addr:=match t.tbl[i]? with
 |some d=>match d.k with
  |.fn=>(nmA K d.gn).getD 0
  |.fd _=>(nmA K d.gn).getD 0
  |.me c=>match Ad K (.ref (clA K t c)) d.nm with
   |some (AA (.ref f))=>f
   |_=>0
  |.ini c=>match Ad K (.ref (clA K t c)) d.nm with
   |some (AA (.ref f))=>f
   |_=>0
 |none=>0
def ybG:Dk->Bool
 |.fn=>AC
 |_=>AH
def ydY:Dk->Bool
 |.fd _=>AC
 |_=>AH
def yfh:PV->Bool
 |.int _=>AC
 |.tp _ _=>AC
 |_=>AH
def alB(K:AE)(t:Tb):AR×GK->Bool
 |(x,.fn i)=>match t.tbl[i]? with
  |some d=>ybG d.k&&(decide (x=d.gn) || decide (nmA K x=nmA K d.gn))
  |none=>AH
 |(x,.fnD i)=>match t.tbl[i]? with
  |some d=>ydY d.k&&(decide (x=d.gn) || decide (nmA K x=nmA K d.gn))
  |none=>AH
 |(x,.cst v)=>yfh v&&match Ao K mainGlobals x with
  |some (AA u)=>(ydW K v u).isSome
  |_=>AH
 |(x,.dct d)=>t.dd.any λp=>decide (p.1=x)&&(eqD p.2 d).isSome
 |(x,.exc c)=>decide (t.cn.lookup c=AA x)&&(nmA K x).any λq=>Em K q [.type "ValueError",.type "Exception",.type "BaseException",.type "object"] "ValueError.__new__"
 |(x,.cls c i)=>decide (t.cn.lookup c=AA x)&&(nmA K x).isSome&&match t.tbl[i]? with
  |some d=>match d.k with
   |.ini c'=>decide (c'=c)&&decide (d.nm="__init__")
   |_=>AH
  |none=>AH
def yeu(K:AE)(t:Ty):Bool:=
 decide (As K (.type "NoneType") (.type (tyN t))=AA (yaE .non t))&&decide (As K (.type "bool") (.type (tyN t))=AA (yaE (.bl AC) t))&&decide (As K (.type "int") (.type (tyN t))=AA (yaE (.int 0) t))&&decide (As K (.type "str") (.type (tyN t))=AA (yaE (.str FR) t))&&decide (As K (.type "tuple") (.type (tyN t))=AA (yaE (.tp AC []) t))&&decide (As K (.type "list") (.type (tyN t))=AA (yaE (.lst []) t))
def ycN(K:AE)(q:AI):Bool:=Dm K q FR&&FE K q&&FF K q&&decide (Ad K (.ref q) "__setattr__"=AA (AA (.builtin "object.__setattr__")))
def zdc{K:AE}{q:AI}(h:ycN K q=AC):Cls K q:=by
 erw[ycN,AJ,decide_eq_true_eq]at h;exact⟨h.1.1.1,h.1.1.2,h.1.2,h.2⟩
def ydm(K:AE)(q:AI):Bool:=decide (Ad K (.ref q) "__getattribute__"=AA (AA (.builtin "BaseException.__getattribute__")))&&decide (Ad K (.ref q) "__getattr__"=AA AF)&&decide (Ad K (.ref q) "__class__"=AA (AA (.builtin "object.__class__")))&&decide (GJ K (.ref q) (.type "BaseException")=AA AC)&&decide (GL K q (.type "object")=AA AC)&&(GM K q).isSome
def zf5{K:AE}{q:AI}(h:ydm K q=AC):ydu K q:=by
 erw[ydm,AJ,decide_eq_true_eq]at h;let⟨⟨⟨⟨⟨h1,h2⟩,h3⟩,h4⟩,h5⟩,h6⟩:=h;exact⟨h1,h2,h3,h4,h5,A1.1 h6⟩
def yed(K:AE)(t:Tb):Bool:=
 t.xs.all (λp=>ydm K (clA K t p.1)&&decide (As K (.ref (clA K t p.1)) (tyZ (clA K t) p.2)=AA (yaE (.exn p.1) p.2))) &&
  t.xc.all (λp=>decide (t.cn.lookup p.1=AA p.2)&&(nmA K p.2).isSome) &&
  t.xm.all λp=>(nmA K p.2).any λW=>decide (Fp K (.ref (clA K t p.1)) (.ref W)=AA AC)
def yci(K:AE)(t:Tb):Bool:=
 t.al.all (alB K t)&&t.bs.all (λx=>decide (Ao K mainGlobals x=AA AF))&&t.ts.all (yeu K) &&
  t.fl.all (λp=>(t.cn.lookup p.1).isSome&&(nmA K (cnm t p.1)).any λq=>ycN K q&&decide (Ad K (.ref q) p.2=AA AF)) &&
  t.me.all (λp=>(t.cn.lookup p.1.1).isSome&&(nmA K (cnm t p.1.1)).any λq=>ycN K q&&match t.tbl[p.2]? with
   |some d=>(match d.k with
    |.me c=>decide (c=p.1.1)
    |_=>AH)&&decide (d.nm=p.1.2)
   |none=>AH) &&
  t.ml.all λp=>p.2.all λq=>match t.tbl[q.2]? with
   |some d=>ybG d.k
   |none=>AH
def ydB(K:AE)(t:Tb):Bool:=yci K t&&yed K t
def fd0:FuncData:=BG "" "" (yE (.Pass ⟨0,0,0,0⟩)) [] (ye (.Pass ⟨0,0,0,0⟩)) .none .none .none .none AF .none .none
def fdA(K:AE)(t:Tb)(i:Nat):FuncData:=match K.lookup (faA K t i)with
 |some ⟨_,_,.func fd,_⟩=>fd
 |_=>fd0
def psA(t:Tb)(i:Nat):List Str:=match t.tbl[i]? with
 |some d=>d.ps
 |none=>[]
theorem lkm{α β:Type}[BEq α][LawfulBEq α]{x:α}{k:β}:∀{l:List (α×β)},l.lookup x=AA k->(x,k)∈l
 |[],h=>nomatch h
 |y::l,h=>by
  rw[BP]at h
  cases hx:x==y.1 with
  |true=>rw[hx]at h;cases h;rw[eq_of_beq hx];exact Ai
  |false=>rw[hx]at h;exact AZ _ (lkm h)
def KbP(t:Tb)(p:(Nat×Nat×List AR)×List (Option Int)):Prop:=∀d ds,t.tbl[p.1.1]?=AA d->d.k=.fd ds->∀(K:AE) (mg:AR->Option AD) (f:AI) (fd:Af),FnD K mg d.nm d.st d.ps ds f fd->∃g,yaV K fd d.ps p.1.2.2 g (gK p.1.2.1 p.2)
structure Fact(t:Tb)(w:A3)(K:AE)(mg:AR->Option AD):Prop where
 X:∀x u,Ao K mainGlobals x=AA u->mg x=u
 R:ya8 (yb0 K (cnm t)) t.tbl
 B:ydB K t=AC
 D:ya8 (λp=>∀cl,GD K w mg cl p.1 p.2) t.dd
 Kb:ya8 (KbP t) t.kb
 Ml:ya8 (λp=>GDF K w mg (faA K t) p.1 p.2) t.ml
def zho{K:AE}{x:AR}{q:AI}(h:nmA K x=AA q):Ao K mainGlobals x=AA (AA (.ref q)):=by
 unfold nmA at h;split at h
 .cases h;assumption
 .cases h
def zI{K:AE}{x:AR}{q:AI}(h:Ao K mainGlobals x=AA (AA (.ref q))):nmA K x=AA q:=by
 erw[nmA,h]
def zcr{K:AE}{t:Tb}{c:Nat}{q:AI}(h:nmA K (cnm t c)=AA q)(hc:(t.cn.lookup c).isSome=AC):clA K t c=q:=by
 let⟨x,e⟩:=A1.1 hc;erw[clA,e,Be];erw[cnm,e,BQ]at h;rw[h];rfl
def okH(t:Tb)(d:Df):Bool:=(ybP t.gs d.fn.body ⟨d.N,ye d.st,AH,AC⟩ (yq d.st)).isSome&&!d.fn.pure&&ybG d.k
def okT(t:Tb)(d:Df):Bool:=okD t.gs d&&(!t.qh.contains d.gn || okH t d)&&match d.k with
 |.fn=>AC
 |.fd _=>decide (d.q=d.nm)
 |.me c=>(t.cn.lookup c).isSome
 |.ini c=>(t.cn.lookup c).isSome&&decide (d.nm="__init__")
section
variable {t:Tb}{w:A3}{K:AE}{mg:AR->Option AD}{T:Nat->Option IC.Fn}{P:AT}{base:Ah}{k:Nat}
def z5(F:Fact t w K mg)(O:∀d∈t.tbl,okT t d=AC){i:Nat}{d:Df}(h:t.tbl[i]?=AA d):∃dv fd,ybr K d dv (faA K t i) fd/\At K (cnm t) d (faA K t i)/\DvP K d dv:=by
 have hm:=AV h;let⟨dv,f,fd,h1,h2,h3⟩:=F.R.get d hm;have e:f=faA K t i:=by
  have o:=O d hm;erw[okT,AJ]at o;have o:=o.2;erw[faA,h];unfold At at h2
  cases q:d.k with
  |fn=>
   rw[q]at h2;erw[zI h2.1,BQ]
  |fd ds=>
   rw[q]at h2;have h2:Ao K mainGlobals d.gn=AA (AA (.ref f)):=h2;erw[zI h2,BQ]
  |me c=>
   rw[q]at h2 o;let⟨_,q',e1,e2,_⟩:=h2;erw[zcr (zI e1) o,e2]
  |ini c=>
   rw[q]at h2 o;let⟨_,q',e1,e2,_⟩:=h2;erw[AJ]at o;erw[zcr (zI e1) o.1,e2]
 subst e;exact⟨dv,fd,h1,h2,h3⟩
theorem ybr.binds{d:Df}{f:AI}{fd:Af}(R:ybr K d .none f fd)(b:yay d):Binds K fd d.ps []:=
 Fun.binds ⟨R.ex,R.kp⟩ λkV doc pm an cdv ct us hl=>(b kV doc pm an cdv ct).get us hl
theorem ybr.ok{d:Df}{dv:AD}{f:AI}{fd:Af}{fi m:Nat}{cl:Nat->AI}(R:ybr K d dv f fd)(hT:T fi=AA d.fn)(Sc:yX d.N d.ps (ye d.st))(hnp:d.ps.length=d.fn.np)(hns:d.N.length=d.fn.ns)
  (body:∀(cdv:AD) (A:A5) (outer:List Az) (s:AG) (H:Hp) (E:XK),yao m (A.deeper (envOfC d.q (ye d.st) s.heap.objs.size f cdv)) ->
   PSs (yag (CX1 P w) P w K mg base d.N d.q (ye d.st) f cdv A outer s H E) (yq d.st) (tSs ⟨cl,yg T k,AC⟩ (yag (CX1 P w) P w K mg base d.N d.q (ye d.st) f cdv A outer s H E) d.fn.body)):
  yau P w K mg base (CX1 P w) (m+1) f fd d.ps (spI K cl (yg T (k+1)) fi):=by
 let⟨oc,od,kV,doc,pm,an,cdv,ct,osl,rfl,lk,hcd⟩:=R.ex;exact ziM lk hcd Sc (λvs H Q E h=>zfn hT hnp h) λA outer s H vs Q E hr h=>⟨_,body cdv A outer s H E hr,zf1 hT hns h⟩
def Fn2(t:Tb)(P:AT)(w:A3)(K:AE)(mg:AR->Option AD)(base:Ah)(T:Nat->Option IC.Fn)(k:Nat):Prop:=
 ∀i d dv fd,t.tbl[i]?=AA d->ybr K d dv (faA K t i) fd->yau P w K mg base (CX1 P w) (2*k) (faA K t i) fd d.ps (spI K (clA K t) (yg T k) i)
def FnH(t:Tb)(P:AT)(w:A3)(K:AE)(mg:AR->Option AD)(base:Ah)(T:Nat->Option IC.Fn)(k:Nat):Prop:=
 ∀i d fd,t.tbl[i]?=AA d->t.qh.contains d.gn=AC->ybr K d .none (faA K t i) fd->ybh P w K mg base (2*k) (faA K t i) fd d.ps (spI K (clA K t) (yg T k) i)
def zce(F:Fact t w K mg)(O:∀d∈t.tbl,okT t d=AC)(C:Fn2 t P w K mg base T k)(CH:FnH t P w K mg base T k){N:List AR}{q:AR}{sc:BB}{f:AI}{cdv:AD}{A:A5}{outer:List Az}{s:AG}{H:Hp}{E:XK}:
  Glo t.gs (2*k) ⟨clA K t,yg T k,AC⟩ (yag (CX1 P w) P w K mg base N q sc f cdv A outer s H E):=by
 have B:=F.B;erw[ydB,AJ]at B;let⟨B,B2⟩:=B;erw[yci,AJ,BZ]at B;erw[yed,AJ,BZ]at B2;let⟨⟨⟨⟨⟨b1,b2⟩,b3⟩,b4⟩,b5⟩,b6⟩:=B;let⟨⟨b7,b8⟩,b9⟩:=B2;have mgr:∀{x:AR} {a:AI},nmA K x=AA a->mg x=AA (.ref a):=λh=>F.X _ _ (zho h);have same:∀{x y:AR} {a:AI},(decide (x=y) || decide (nmA K x=nmA K y))=AC->nmA K y=AA a->nmA K x=AA a:=λ{x y a} h e=>by
  erw[DD,decide_eq_true_eq]at h;rcases h with rfl|h
  .exact e
  .rw[h];exact e
 refine⟨λx i h=>?_,λx i np ks sh h hk=>?_,λx v h=>?_,λx d h=>?_,λx c h=>?_,λx c i h=>?_,λx h=>?_,λy h=>?_,λc n h=>?_,λc n i h=>?_,λy D h=>?_,λx i h hv=>?_,λc y h=>?_,λd x h=>?_,λc x h=>?_,λx i h hq=>?_⟩
 .have q:=b1 _ (lkm h);erw[alB]at q;split at q
  .rename_i d hd;erw[AJ]at q;let⟨dv,fd,r1,r2,r3⟩:=z5 F O hd;have hk:d.k=.fn:=by cases e:d.k<;>rw[e]at q<;>first|rfl|cases q.1
   erw[At,hk]at r2;erw[DvP,hk]at r3;subst r3;exact⟨_,fd,d.ps,C i d _ fd hd r1,mgr (same q.2 (zI r2.1)),r1.kp,r1.binds r2.2⟩
  .cases q
 .have q:=b1 _ (lkm h);erw[alB]at q;split at q
  .rename_i d hd;erw[AJ]at q;let⟨dv,fd,r1,r2,r3⟩:=z5 F O hd;obtain⟨ds,hk'⟩:∃ds,d.k=.fd ds:=by cases e:d.k<;>rw[e]at q<;>first|exact⟨_,rfl⟩|cases q.1
   erw[At,hk']at r2;erw[DvP,hk']at r3;let⟨dT,o,its,n,rfl,e1,e2,e3⟩:=r3;have oo:=O d (AV hd);erw[okT,hk',AJ,decide_eq_true_eq]at oo;have D:FnD K (λ_=>AA (.ref (faA K t i))) d.nm d.st d.ps ds (faA K t i) fd:=by
    let⟨oc,od,kV,doc,pm,an,cdv,ct,osl,z1,z2,z3⟩:=r1.ex;rw[oo.2]at z1 z3;exact⟨⟨oc,od,dT,kV,doc,pm,an,cdv,ct,osl,o,its,n,z1,z2,z3,e1,e2,e3⟩,r1.kp,rfl⟩
   exact⟨_,fd,d.ps,C i d _ fd hd r1,mgr (same q.2 (zI r2)),r1.kp,F.Kb.get _ (lkm hk) d ds hd hk' K _ _ _ D⟩
  .cases q
 .have q:=b1 _ (lkm h);erw[alB,AJ]at q;let⟨q0,q⟩:=q;split at q
  .rename_i u hu;let⟨⟨y,r,z⟩,_⟩:=A1.1 q;have hm:=F.X _ _ hu
   cases v with
   |int i=>
    have z:=z (λ_=>0) (λ_=>False) [] (λ_=>AF);erw[yc]at z;subst z;let⟨tk,rfl⟩:=r;exact .inr ⟨i,rfl,tk,hm⟩
   |tp b vs=>
    have z0:=z (λ_=>0) (λ_=>False) [] (λ_=>AF);erw[yc]at z0;let⟨a,xs,rfl,_⟩:=z0;have r:u=.ref a:=r;subst r;exact .inl ⟨a,hm,λB φ H=>z _ B φ H⟩
   |_=>cases q0
  .cases q
 .have q:=b1 _ (lkm h);erw[alB,Cp,AJ,decide_eq_true_eq]at q;let⟨p,hp,rfl,q⟩:=q;let⟨⟨e⟩,_⟩:=A1.1 q;rw[<-e];exact F.D.get p hp _
 .have q:=b1 _ (lkm h);erw[alB,AJ,decide_eq_true_eq,CJ]at q;let⟨q1,q2,q3⟩:=q;let⟨a,ha⟩:=A1.1 q2;have e:clA K t c=a:=by erw[clA,q1,Be,ha,BQ]
  erw[ha,ER]at q3;exact⟨by show mg x=AA (.ref (clA K t c));rw[e];exact mgr ha,by show Em K (clA K t c) _ _=AC;rw[e];exact q3⟩
 .have q:=b1 _ (lkm h);erw[alB,AJ,decide_eq_true_eq]at q;let⟨⟨q1,q2⟩,q3⟩:=q;let⟨a,ha⟩:=A1.1 q2;have e:clA K t c=a:=by erw[clA,q1,Be,ha,BQ]
  split at q3
  .rename_i d hd
   cases hk:d.k with
   |ini c'=>
    rw[hk]at q3;erw[AJ,decide_eq_true_eq]at q3;let⟨rfl,hn⟩:=q3;let⟨dv,fd,r1,r2,r3⟩:=z5 F O hd;erw[At,hk]at r2;erw[DvP,hk]at r3;subst r3;let⟨r0,q',r4,r5,r6,r7,r8⟩:=r2;have e2:q'=a:=by
     have:nmA K (cnm t c')=AA q':=zI r4;erw[cnm,q1,BQ,ha]at this;exact(AW this).symm
    subst e2;rw[hn]at r5;refine⟨by show mg x=AA (.ref (clA K t c'));rw[e];exact mgr ha,_,fd,d.ps,?_,C i d _ fd hd r1,r1.binds r0⟩;show Mk K (clA K t c') _;rw[e];exact⟨r7,r5,r6,r8⟩
   |_=>rw[hk]at q3;cases q3
  .cases q3
 .have q:x∈t.bs:=by simpa [Tb.gs] using h
  have:=b2 x q;erw[decide_eq_true_eq]at this;exact F.X _ _ this
 .simp only[Tb.gs,Cp]at h;let⟨y',hy,e⟩:=h;have:=zhm e;subst this;have q:=b3 y hy;erw[yeu,AJ,decide_eq_true_eq]at q;exact⟨q.1.1.1.1.1,q.1.1.1.1.2,q.1.1.1.2,q.1.1.2,q.1.2,q.2⟩
 .have q:(c,n)∈t.fl:=by simpa [Tb.gs] using h
  have q:=b4 _ q;erw[AJ,CJ,decide_eq_true_eq]at q;let⟨q1,q2,q3⟩:=q;let⟨a,ha⟩:=A1.1 q2;erw[ha,ER]at q3;have e:clA K t c=a:=zcr ha q1;show Cls K (clA K t c)/\yaD K (clA K t c) n;rw[e];exact⟨zdc q3.1,q3.2⟩
 .have q:=b5 _ (lkm h);erw[AJ,CJ,decide_eq_true_eq]at q;let⟨q1,q2,q3,q4⟩:=q;let⟨a,ha⟩:=A1.1 q2;erw[ha,ER]at q3;have e:clA K t c=a:=zcr ha q1;split at q4
  .rename_i d hd;erw[AJ,decide_eq_true_eq]at q4;let⟨q4,hn⟩:=q4
   cases hk:d.k with
   |me c'=>
    rw[hk]at q4;have q4:c'=c:=by simpa using q4
    subst q4;let⟨dv,fd,r1,r2,r3⟩:=z5 F O hd;erw[At,hk]at r2;erw[DvP,hk]at r3;subst r3;let⟨r0,q',r4,r5,r6⟩:=r2;have e2:q'=a:=AW ((zI r4).symm.trans ha);subst e2;refine⟨by show Cls K (clA K t c');rw[e];exact zdc q3,_,fd,d.ps,?_,C i d _ fd hd r1,r1.binds r0⟩;show Meth K (clA K t c') n _;rw[e,<-hn];exact⟨r5,r6,r1.kp⟩
   |_=>rw[hk]at q4;cases q4
  .cases q4
 .have q:=b6 _ (lkm h);have g:∀s j,D.lookup s=AA j->∃d dv fd,t.tbl[j]?=AA d/\ybr K d dv (faA K t j) fd/\dv=.none/\yay d/\fd=fdA K t j/\d.ps=psA t j:=λs j hj=>by
   have q:=q _ (lkm hj);split at q
   .rename_i d hd;let⟨dv,fd,r1,r2,r3⟩:=z5 F O hd;have hk:d.k=.fn:=by cases e:d.k<;>rw[e]at q<;>first|rfl|cases q
    erw[At,hk]at r2;erw[DvP,hk]at r3;let⟨oc,od,kV,doc,pm,an,cdv,ct,osl,_,lk,_⟩:=r1.ex;exact⟨d,dv,fd,hd,r1,r3,r2.2,by erw[fdA,lk],by erw[psA,hd]⟩
   .cases q
  refine⟨faA K t,fdA K t,psA t,⟨λs j hj=>?_,λs j hj=>?_,λs j hj=>?_⟩,F.Ml.get _ (lkm h)⟩
  .let⟨d,dv,fd,h1,h2,h3,h4,h5,h6⟩:=g s j hj;rw[<-h5,<-h6];exact C j d dv fd h1 h2
  .let⟨d,dv,fd,h1,h2,h3,h4,h5,h6⟩:=g s j hj;exact h2.kp
  .let⟨d,dv,fd,h1,h2,h3,h4,h5,h6⟩:=g s j hj;subst h3;rw[<-h5,<-h6];exact h2.binds h4
 .have q:=b1 _ (lkm h);erw[alB]at q;split at q
  .rename_i d hd;erw[AJ]at q;let⟨dv,fd,r1,r2,r3⟩:=z5 F O hd;have hk:d.k=.fn:=by cases e:d.k<;>rw[e]at q<;>first|rfl|cases q.1
   erw[At,hk]at r2;have hn:=same q.2 (zI r2.1);have e:t.cn.lookup (1000+i)=AA x:=of_decide_eq_true hv;have z:clA K t (1000+i)=faA K t i:=by erw[clA,e,Be,hn,BQ]
   show mg x=AA (.ref (clA K t (1000+i)));rw[z];exact mgr hn
  .cases q
 .let⟨p,hp,q⟩:=Cp.1 h;erw[AJ,beq_iff_eq]at q;let⟨rfl,q⟩:=q;have:=zgJ q;subst this;have b:=b7 p hp;erw[decide_eq_true_eq]at b;exact⟨zf5 b.1,b.2⟩
 .have b:=b8 _ (EZ.1 h);erw[decide_eq_true_eq]at b;let⟨a,ha⟩:=A1.1 b.2;have e:clA K t d=a:=by erw[clA,b.1,Be,ha,BQ]
  show mg x=AA (.ref (clA K t d));rw[e];exact mgr ha
 .have b:=b9 _ (EZ.1 h)
  cases ha:nmA K x with
  |none=>rw[ha]at b;cases b
  |some W=>
   rw[ha]at b;exact⟨W,mgr ha,of_decide_eq_true b⟩
 .have q:=b1 _ (lkm h);erw[alB]at q;split at q
  .rename_i d hd;erw[AJ]at q;let⟨dv,fd,r1,r2,r3⟩:=z5 F O hd;have hk:d.k=.fn:=by cases e:d.k<;>rw[e]at q<;>first|rfl|cases q.1
   erw[At,hk]at r2;erw[DvP,hk]at r3;subst r3;have hq:t.qh.contains d.gn=true:=by simpa only[Tb.gs,hd] using hq
   exact⟨_,fd,d.ps,CH i d fd hd hq r1,mgr (same q.2 (zI r2.1)),r1.kp,r1.binds r2.2⟩
  .cases q
def zde(F:Fact t w K mg)(O:∀d∈t.tbl,okT t d=AC)(hT:∀i d,t.tbl[i]?=AA d->T i=AA d.fn):∀k,Fn2 t P w K mg base T k/\FnH t P w K mg base T k
 |0=>⟨λi d dv fd _ _=>zeg,λi d fd _ _ _=>zeF⟩
 |k+1=>by
  have ih:=zde F O hT k;refine⟨λi d dv fd h R=>?_,λi d fd h hq R=>?_⟩
  .have o:=O d (AV h);erw[okT,okD,AJ,decide_eq_true_eq]at o;let⟨⟨⟨⟨⟨o1,o2⟩,o3⟩,o4⟩,_⟩,_⟩:=o;let⟨⟨y⟩,_⟩:=A1.1 o4;exact R.ok (m:=2*k+1) (hT i d h) (zfe o1) o2 o3 λ_ _ _ _ _ _ hr=>y (2*k) _ _ ⟨rfl,rfl,λ_=>rfl,hr.h,λ_=>hr.hd,λ_=>⟨own1,λ_=>rfl,rfl⟩,λ_=>⟨⟨_,rfl⟩,rfl,rfl⟩,zce F O ih.1 ih.2⟩
  .have o:=O d (AV h);erw[okT,okD,AJ,decide_eq_true_eq]at o;let⟨⟨⟨⟨⟨o1,o2⟩,o3⟩,_⟩,oq⟩,_⟩:=o;have oh:okH t d=true:=by rw[hq]at oq;simpa using oq
   erw[okH,AJ,B7]at oh;let⟨⟨y⟩,_⟩:=A1.1 oh.1.1;refine zhb (m:=2*k+1) (hT i d h) ⟨R.ex,R.kp⟩ (zfe o1) o2 o3 oh.1.2 λcdv A outer s H hr=>y (2*k) _ _ ⟨rfl,rfl,(λh=>nomatch h),hr,(λh=>nomatch h),(λh=>nomatch h),(λh=>nomatch h),?_⟩;have G:=zce (N:=d.N) (q:=d.q) (sc:=ye d.st) (f:=faA K t i) (cdv:=cdv) (A:=A) (outer:=outer) (s:=s) (H:=H) (E:=E0) F O ih.1 ih.2;exact⟨G.F,G.Q,G.C,G.D,G.E,G.N,G.B,G.T,G.A,G.M,λy D h=>let ⟨fa,fdd,ps,M,d⟩:=G.K y D h;⟨fa,fdd,ps,⟨M.F,M.kp,M.b⟩,d⟩,G.V,G.I,G.L,G.H,G.Z⟩
def zfw(F:Fact t w K mg)(O:∀d∈t.tbl,okT t d=AC)(hT:∀i d,t.tbl[i]?=AA d->T i=AA d.fn)(k:Nat):Fn2 t P w K mg base T k:=(zde F O hT k).1
def yb6:Nat->(List AD->Prop)->Prop
 |0,P=>P []
 |n+1,P=>∀a,yb6 n λus=>P (a::us)
theorem yb6.get:∀{n:Nat} {P:List AD->Prop},yb6 n P->∀us,us.length=n->P us
 |0,P,h,[],_=>h
 |n+1,P,h,a::us,e=>(h a).get us (by simpa using e)
theorem kbP{i np:Nat}{ks:List AR}{sh:List (Option Int)}{d:Df}{ds:List Int}(hd:t.tbl[i]?=AA d)(hk:d.k=.fd ds)(h1:ks.length=nKw sh)(h2:sh.length=(ds.drop (ds.length-sh.length)).length)
  (h3:((sh.zip (ds.drop (ds.length-sh.length))).all λp=>p.1.all λi=>decide (i=p.2))=AC) (hp:0<d.ps.length)
  (h:∀(dT:AI) (kV doc pm:AD) (an:Option AI) (cdv ct:AD),yb6 np λus=>yb6 ks.length λws=>yb6 ds.length λits=>
   ∃k,bindArgs (BG d.nm d.nm (yE d.st) (yq d.st) (ye d.st) (.ref dT) kV doc pm an cdv ct) ⟨us,ks.zip ws⟩=seqItems? (.ref dT) >>= k/\k (AA its.toArray)=pure (d.ps.zip (us++yas sh ws (its.drop (ds.length-sh.length))))):KbP t ((i,np,ks),sh):=by
 intro d' ds' e1 e2 K mg f fd D;have e1:t.tbl[i]?=AA d':=e1;rw[hd]at e1
 cases e1
 rw[hk]at e2
 cases e2
 exact kbD D h1 h2 h3 (λdT kV doc pm an cdv ct us ws its z1 z2 z3=>(((h dT kV doc pm an cdv ct).get us z1).get ws z2).get its z3) hp
theorem all_mk2{h:Ah}{fx:AI}(X:K.In h)(G:h.Ns mainGlobals mg)(hfa:mg "law"=AA (.ref fx))(R:ya8 (yb0 K (cnm t)) t.tbl)(B:ydB K t=AC)(D:ya8 (λp=>∀cl,GD K w mg cl p.1 p.2) t.dd)(Kb:ya8 (KbP t) t.kb)(Ml:ya8 (λp=>GDF K w mg (faA K t) p.1 p.2) t.ml)
  (O:t.tbl.all (okT t)=AC) (hT:∀i d,t.tbl[i]?=AA d->T i=AA d.fn) {L:Nat} {st:Bb} {N:List AR} {fn:IC.Fn} (hL:t.tbl[L]?=AA ⟨"law","law","law",st,N,["_law_script"],fn,.fn⟩) (lvl:Nat):
  ∃fd:Af,(∀(s:AG) (v:AD),EA s fd ⟨[v],[]⟩ [("_law_script",v)])/\∀base:Ah,K.In base->base.Ns mainGlobals mg->yau P w K mg base (CX1 P w) (2*lvl) fx fd ["_law_script"] (spX K (yg T lvl) L):=by
 have F:Fact t w K mg:=⟨λx u e=>by
  cases u with
  |none=>exact PySem.W.mg_none_of X G e
  |some v=>exact Dc X G e,R,B,D,Kb,Ml⟩
 have O':=BZ.1 O;let⟨dv,fd,r1,r2,r3⟩:=z5 F O' hL;have r3:dv=.none:=r3;subst r3;have r2:Ao K mainGlobals "law"=AA (AA (.ref (faA K t L)))/\yay _:=r2;have e:=Value.ref.inj (AW (hfa.symm.trans (Dc X G r2.1)));subst e;refine⟨fd,λs v=>?_,λbase _ _=>(zfw F O' hT lvl L _ _ fd hL r1).imp λ_ _ _ _ h=>h _⟩;let⟨oc,od,kV,doc,pm,an,cdv,ct,osl,rfl,_⟩:=r1.ex;exact .of_eq (r2.2 kV doc pm an cdv ct v)
end
end L2
namespace IC
open PySem
def yf:PV:=(.tp AC [(.int 0),(.int 1),(.int 0)])
def yb4:PV:=(.tp AC [(.str "h"),(.tp AC [(.int 0),(.int 0),(.int 0),(.int 0)])])
def yeh:PV:=(.tp AC [(.str "turned"),(.str "bare")])
def ycd:PV:=(.tp AC [(.str "l"),(.tp AC [(.int 0),(.int 0),(.int 0),(.int 0)])])
def yb:PV:=(.tp AC [(.tp AC [(.str "m"),(.tp AC [(.int 0),(.int 0),(.int 0),(.int 0)])]),(.tp AC [(.str "m"),(.tp AC [(.int 1),(.int 0),(.int 0),(.int 0)])]),(.tp AC [(.str "m"),(.tp AC [(.int 2),(.int 0),(.int 0),(.int 0)])]),(.tp AC [(.str "m"),(.tp AC [(.int 3),(.int 0),(.int 0),(.int 0)])])])
def ybR:PV:=(.tp AC [(.str "z"),(.tp AC [(.int 0),(.int 0),(.int 0),(.int 0)])])
def ycC:PV:=(.tp AC [(.str "o"),(.tp AC [(.int 0),(.int 0),(.int 0),(.int 0)])])
def yei:PV:=(.tp AC [(.str "sum"),(.str "difference"),(.str "compare"),(.str "both"),(.str "any"),(.str "odd"),(.str "product"),(.str "signed product"),(.str "quotient"),(.str "signed quotient")])
def yem:PV:=(.tp AC [(.str "both"),(.str "any"),(.str "odd")])
def ybt:PV:=(.tp AC [(.str "s"),(.tp AC [(.int 0),(.int 0),(.int 0),(.int 0)])])
def yde:PV:=(.tp AC [(.str "left"),(.str "right"),(.str "down"),(.str "roll")])
def ya:PV:=(.tp AC [(.str "t"),(.tp AC [(.int 0),(.int 0),(.int 0),(.int 0)])])
section zq
local macro_rules|`(#[$x,*])=>do
 let mut a←`(.e)
 for y in x.getElems.reverse do a←`(.k $y $a)
 pure a
def yeq:Fn:=⟨5,5,AC,#[.ret (.tup #[.v 0,.tup #[.v 1,.v 2,.v 3,.v 4]])]⟩
def yes:Fn:=⟨1,1,AC,#[.ret (.call 0 (yG #[.v 0,.neg (.i 1)] (yh [.inr 0,.inr 0,.inl (.i 1)])))]⟩
def yet:Fn:=⟨1,1,AC,#[.ret (.blt .tuple #[.comp [AF] (.n 0) (.seq (.v 0)) (.cst (.bl AC)) (.tup #[.s "row",.v 0])])]⟩
def yev:Fn:=⟨3,3,AC,#[.ret (.tup #[.tup #[.s "rounds",.v 0,.v 1,.v 2]])]⟩
def yeK:Fn:=⟨5,5,AC,#[.ret (.tup #[.s "slice",.v 0,.tup #[.i 0,.i 0,.i 0,.i 0],.tup #[.v 1,.v 2,.v 3,.v 4]])]⟩
def yeT:Fn:=⟨6,6,AC,#[.ret (.tup #[.v 0,.tup #[.i 0,.v 2,.i 0,.v 3,.v 4,.v 5],.v 1])]⟩
def yeW:Fn:=⟨1,1,AC,#[.ret (.tup #[.s "sum",.v 0,.cst ybR,.cst ybR])]⟩
def ym:Fn:=⟨1,1,AC,#[.ret (.lst #[.tup #[.s "set",.v 0,.i 1],.tup #[.s "less",.v 0,.v 0,.cst ybR]])]⟩
def yn:Fn:=⟨3,4,AC,#[.asg (.n 3) (.tup #[.s "any",.cst ybt,.cst ybt,.call 0 (yG #[.v 0] (yh [.inr 0,.inl (.i 1),.inr 0,.inl (.v 1)]))]),.ret (.bin .add (.bin .add (.call 2 #[.lst #[.tup #[.s "set",.cst ybt,.i 0]]]) (.call 3 #[.v 2,.tup .e,.call 2 #[.lst #[.v 3]]])) (.call 2 #[.lst #[.tup #[.s "ask",.cst ybt]]]))]⟩
def yy:Fn:=⟨2,3,AC,#[.asg (.n 2) (.lst #[.tup #[.s "twice",.cst ya,.call 0 (yG #[.s "c",.bin .sub (.v 0) (.i 1)] (yh [.inr 0,.inr 0,.inl (.v 1)]))],.call 6 #[.idx (.cst yb) (.i 3)]]),.ret (.bin .add (.call 8 #[.s "c",.i 0,.tup #[.v 0,.v 1,.i 0]]) (.call 2 #[.bin .add (.call 7 #[.idx (.cst yb) (.i 2)]) (.v 2)]))]⟩
def yz:Fn:=⟨0,1,AC,#[.asg (.n 0) (.bin .add (.call 8 #[.s "c",.i 1,.cst yf]) (.call 2 #[.lst #[.call 6 #[.idx (.cst yb) (.i 1)]]])),.ret (.bin .add (.bin .add (.call 11 .e) (.v 0)) (.call 9 #[.i 0,.i 2]))]⟩
def yA:Fn:=⟨0,3,AC,#[.asg (.n 0) (.tup #[.call 5 (yG #[.i 1,.tup #[.call 4 (yG #[.s "c"] (yh [.inr 0,.inl (.i 1),.inr 0,.inl (.i 1)]))]] (yh [.inr 0,.inr 0,.inr 0,.inr 0])),.call 5 (yG #[.neg (.i 1),.tup #[.call 4 (yG #[.s "a"] (yh [.inr 0,.inr 0,.inr 0,.inl (.i 1)])),.call 4 (yG #[.s "b"] (yh [.inr 0,.inl (.i 1),.inr 0,.inr 0]))]] (yh [.inr 0,.inr 0,.inr 0,.inr 0]))]),.asg (.n 1) (.call 2 #[.lst #[.tup #[.s "mark",.i 0],.tup #[.s "set",.cst ycC,.i 0]]]),.asg (.n 2) (.call 2 #[.lst #[.tup #[.s "move",.call 0 (yG #[.s "c"] (yh [.inr 0,.inl (.i 1),.inr 0,.inl (.i 1)])),.cst ycC]]]),.ret (.call 3 #[.cst yf,.v 0,.bin .add (.bin .add (.v 1) (.call 12 .e)) (.v 2)])]⟩
def yB:Fn:=⟨0,3,AC,#[.asg (.n 0) (.call 0 (yG #[.s "c"] (yh [.inr 0,.inl (.i 1),.inl (.i 1),.inr 0]))),.asg (.n 1) (.tup #[.s "slice",.s "b",.tup #[.i 0,.i 1,.i 0,.i 0],.tup #[.i 1,.i 1,.i 0,.i 0]]),.asg (.n 2) (.tup #[.call 5 (yG #[.i 1,.tup #[.call 4 (yG #[.s "c"] (yh [.inr 0,.inl (.i 1),.inr 0,.inl (.i 1)]))]] (yh [.inr 0,.inr 0,.inr 0,.inr 0])),.call 5 (yG #[.i 1,.tup #[.call 4 (yG #[.s "o",.i 1] (yh [.inr 0,.inr 0,.inr 0]))]] (yh [.inr 0,.inl (.i 1),.inl (.i 1),.inr 0])),.call 5 (yG #[.neg (.i 1),.tup #[.call 4 (yG #[.s "a"] (yh [.inr 0,.inr 0,.inr 0,.inl (.i 1)])),.call 4 (yG #[.s "b"] (yh [.inr 0,.inl (.i 1),.inr 0,.inr 0]))]] (yh [.inr 0,.inr 0,.inr 0,.inr 0])),.call 5 (yG #[.neg (.i 1),.tup #[.call 4 (yG #[.s "a"] (yh [.inr 0,.inr 0,.inl (.i 1),.inr 0])),.v 1]] (yh [.inr 0,.inl (.i 1),.inr 0,.inr 0]))]),.ret (.call 3 #[.cst yf,.v 2,.call 2 #[.lst #[.tup #[.s "times",.cst ycd,.cst yb4,.call 0 (yG #[.s "a"] (yh [.inr 0,.inr 0,.inl (.i 1),.inr 0])),.call 0 (yG #[.s "b"] (yh [.inr 0,.inl (.i 1),.inr 0,.inr 0]))],.tup #[.s "sum",.cst ycd,.cst ycd,.cst ycC],.tup #[.s "sum",.cst yb4,.cst yb4,.cst ybR],.tup #[.s "sum",.v 0,.v 0,.cst ycd],.tup #[.s "sum",.cst ycC,.cst yb4,.cst ybR]]]])]⟩
def yT:Fn:=⟨0,3,AC,#[.asg (.n 0) (.tup #[.s "sum",.call 0 (yG #[.s "c"] (yh [.inr 0,.inl (.i 1),.inr 0,.inr 0])),.call 0 (yG #[.s "a"] (yh [.inr 0,.inl (.i 1),.inr 0,.inr 0])),.call 0 (yG #[.s "b"] (yh [.inr 0,.inl (.i 1),.inr 0,.inr 0]))]),.asg (.n 1) (.tup #[.call 5 (yG #[.i 1,.tup #[.call 4 (yG #[.s "a"] (yh [.inr 0,.inl (.i 1),.inr 0,.inr 0]))]] (yh [.inr 0,.inr 0,.inr 0,.inr 0])),.call 5 (yG #[.i 1,.tup #[.call 4 (yG #[.s "b"] (yh [.inr 0,.inl (.i 1),.inr 0,.inr 0]))]] (yh [.inr 0,.inr 0,.inr 0,.inr 0])),.call 5 (yG #[.neg (.i 1),.tup #[.call 4 (yG #[.s "c"] (yh [.inr 0,.inl (.i 1),.inr 0,.inr 0]))]] (yh [.inr 0,.inr 0,.inr 0,.inr 0])),.call 5 (yG #[.neg (.i 1),.tup #[.tup #[.s "mark"]]] (yh [.inr 0,.inl (.i 1),.inr 0,.inr 0]))]),.asg (.n 2) (.call 16 #[.call 1 #[.s "c"],.call 1 #[.s "a"],.call 1 #[.s "b"]]),.ret (.bin .add (.bin .add (.call 15 #[.v 0,.v 1]) (.v 2)) (.call 9 #[.i 0,.i 1]))]⟩
def yY:Fn:=⟨0,3,AC,#[.asg (.n 0) (.tup #[.s "less",.call 0 (yG #[.s "c"] (yh [.inr 0,.inl (.i 1),.inr 0,.inr 0])),.call 0 (yG #[.s "a"] (yh [.inr 0,.inl (.i 1),.inr 0,.inr 0])),.call 0 (yG #[.s "b"] (yh [.inr 0,.inl (.i 1),.inr 0,.inr 0]))]),.asg (.n 1) (.tup #[.call 5 (yG #[.i 1,.tup #[.call 4 (yG #[.s "a"] (yh [.inr 0,.inl (.i 1),.inr 0,.inr 0]))]] (yh [.inr 0,.inr 0,.inr 0,.inr 0])),.call 5 (yG #[.neg (.i 1),.tup #[.call 4 (yG #[.s "b"] (yh [.inr 0,.inl (.i 1),.inr 0,.inr 0]))]] (yh [.inr 0,.inr 0,.inr 0,.inr 0])),.call 5 (yG #[.neg (.i 1),.tup #[.call 4 (yG #[.s "c"] (yh [.inr 0,.inl (.i 1),.inr 0,.inr 0]))]] (yh [.inr 0,.inr 0,.inr 0,.inr 0])),.call 5 (yG #[.i 1,.tup #[.tup #[.s "mark"]]] (yh [.inr 0,.inl (.i 1),.inr 0,.inr 0]))]),.asg (.n 2) (.call 16 #[.call 1 #[.s "a"],.call 1 #[.s "b"],.call 1 #[.s "c"]]),.ret (.bin .add (.bin .add (.call 15 #[.v 0,.v 1]) (.v 2)) (.call 9 #[.i 0,.i 1]))]⟩
def yeZ:Fn:=⟨2,2,AC,#[.ret (.bin .add (.bin .add (.call 2 #[.lst #[.tup #[.s "mark",.i 0]]]) (.call 3 #[.cst yf,.v 1,.call 2 #[.lst #[.v 0]]])) (.call 2 #[.lst #[.call 6 #[.idx (.cst yb) (.i 0)]]]))]⟩
def yfi:Fn:=⟨3,3,AC,#[.ret (.call 2 #[.lst #[.tup #[.s "odd",.cst ya,.v 0,.v 1],.tup #[.s "odd",.cst ybt,.v 0,.v 2],.tup #[.s "both",.cst ya,.cst ya,.cst ybt],.tup #[.s "twice",.cst ya,.cst ya],.call 6 #[.idx (.cst yb) (.i 1)]]])]⟩
def ydO:Fn:=⟨1,1,AC,#[.ite (.not (.call 18 #[.v 0])) #[.nope] .e,.ite (.cmp .eq (.idx (.v 0) (.i 0)) (.s "led")) #[.nope] .e,.ite (.cmp .isin (.idx (.v 0) (.i 0)) (.cst yde)) #[.nope] .e,.ite (.cmp .isin (.idx (.v 0) (.i 0)) (.cst yem)) #[.nope] .e,.ret (.call 19 #[.idx (.v 0) (.i 0)])]⟩
def yfj:Fn:=⟨1,1,AC,#[.ite (.or (.not (.isi (.v 0) [.tuple])) (.cmp .eq (.blt .len #[.v 0]) (.i 0))) #[.nope] .e,.ite (.cmp .eq (.idx (.v 0) (.i 0)) (.s "led")) #[.nope] .e,.ite (.cmp .isin (.idx (.v 0) (.i 0)) (.cst yde)) #[.nope] .e,.ret (.and (.cmp .eq (.blt .len #[.v 0]) (.i 1)) (.or (.cmp .isin (.idx (.v 0) (.i 0)) (.cst yei)) (.cmp .isin (.idx (.v 0) (.i 0)) (.cst yeh))))]⟩
def y0:Fn:=⟨1,1,AC,#[.ite (.cmp .eq (.v 0) (.s "sum")) #[.ret (.call 13 .e)] .e,.ite (.cmp .eq (.v 0) (.s "difference")) #[.ret (.call 14 .e)] .e,.ite (.cmp .eq (.v 0) (.s "turned")) #[.nope] .e,.ite (.cmp .eq (.v 0) (.s "compare")) #[.nope] .e,.ite (.cmp .eq (.v 0) (.s "bare")) #[.nope] .e,.ite (.cmp .eq (.v 0) (.s "product")) #[.ret (.call 10 .e)] .e,.nope,.nope,.nope]⟩
def yc1:Fn:=⟨1,1,AH,#[.ret (.newl #[.slc (.v 0) (.cst .non) (.i 63),.i 0,.i 0,.cst (.bl AH)])]⟩
def yS:Fn:=⟨1,8,AC,#[.asg (.n 1) (.tup #[.i 2147483647,.i 2147483629,.i 2147483587,.i 2147483579,.i 2147483563]),.asg (.n 2) (.i 0),.for (.t [3,4]) (.enum (.v 1)) #[.asg (.n 5) (.bin .add (.v 0) (.idx (.tup #[.i 11,.i 101,.i 1009,.i 10007,.i 100003]) (.v 3))),.asg (.n 5) (.bin .mod (.bin .mul (.v 5) (.bin .add (.i 48271) (.bin .mul (.i 2) (.v 3)))) (.v 4)),.asg (.n 6) (.bin .mod (.bin .mul (.v 5) (.v 5)) (.v 4)),.asg (.n 7) (.bin .mod (.bin .mul (.bin .mod (.bin .mul (.v 6) (.v 6)) (.v 4)) (.v 5)) (.v 4)),.asg (.n 2) (.bin .add (.bin .mul (.v 2) (.v 4)) (.v 7))],.ret (.v 2)]⟩
def yI:Fn:=⟨1,4,AH,#[.asg (.t [1,2]) (.tup #[.idx (.v 0) (.i 0),.idx (.v 0) (.i 1)]),.asg (.n 3) (.bin .add (.bin .mul (.i 31) (.v 2)) (.i 7)),.ite (.cmp .gt (.blt .len #[.v 1]) (.i 0)) #[.asg (.n 3) (.bin .mul (.i 104729) (.bin .fdiv (.v 2) (.blt .len #[.v 1]))),.asg (.n 3) (.bin .add (.v 3) (.idx (.v 1) (.bin .mod (.v 2) (.blt .len #[.v 1]))))] .e,.six (.v 0) (.i 1) (.bin .add (.v 2) (.i 1)),.six (.v 0) (.i 3) (.or (.cmp .ge (.v 2) (.blt .len #[.v 1])) (.cmp .lt (.v 3) (.bin .pow (.i 10) (.i 18)))),.ite (.idx (.v 0) (.i 3)) #[.six (.v 0) (.i 2) (.call 21 #[.v 3])] #[.six (.v 0) (.i 2) (.bin .sub (.v 3) (.bin .pow (.i 10) (.i 18)))]]⟩
def yw:Fn:=⟨2,4,AH,#[.asg (.n 2) (.i 0),.while (.and (.cmp .lt (.v 2) (.i 64)) (.or (.cmp .eq (.idx (.v 0) (.i 2)) (.i 0)) (.and (.idx (.v 0) (.i 3)) (.cmp .lt (.idx (.v 0) (.i 2)) (.bin .mul (.v 1) (.i 4096)))))) #[.expr (.call 22 #[.v 0]),.aug 2 .add (.i 1),.ite (.and (.idx (.v 0) (.i 3)) (.cmp .lt (.idx (.v 0) (.i 2)) (.bin .mul (.v 1) (.i 4096)))) #[.six (.v 0) (.i 2) (.bin .add (.idx (.v 0) (.i 2)) (.bin .mul (.bin .mul (.v 1) (.i 4096)) (.bin .add (.i 1) (.bin .mod (.idx (.v 0) (.i 2)) (.i 4093)))))] .e],.asg (.n 3) (.bin .mod (.idx (.v 0) (.i 2)) (.v 1)),.six (.v 0) (.i 2) (.bin .fdiv (.idx (.v 0) (.i 2)) (.v 1)),.ret (.v 3)]⟩
def ydc:Fn:=⟨2,2,AH,#[.ret (.tup #[.bin .add (.i 4) (.call 23 #[.v 0,.i 13]),.bin .add (.i 1) (.call 23 #[.v 0,.v 1])])]⟩
def yfn:Fn:=⟨1,1,AC,#[.ret (.and (.isi (.v 0) [.int]) (.not (.isi (.v 0) [.bool])))]⟩
def yfs:Fn:=⟨3,3,AC,#[.ite (.or (.not (.isi (.v 0) [.tuple])) (.cmp .ne (.blt .len #[.v 0]) (.v 1))) #[.nope] .e,.ret (.blt .all #[.comp [AF,AA 2] (.n 0) (.seq (.v 0)) (.cst (.bl AC)) (.and (.call 25 #[.v 0]) (.chain .le .le (.bin .sub (.i 0) (.v 1)) (.v 0) (.v 1)))])]⟩
def yfw:Fn:=⟨1,1,AC,#[.ret (.and (.isi (.v 0) [.str]) (.and (.cmp .eq (.blt .len #[.v 0]) (.i 1)) (.cmp .isin (.v 0) (.s "abcdefghijklmnopqrstuvwxyz"))))]⟩
def y4:Fn:=⟨1,1,AC,#[.ret (.and (.isi (.v 0) [.tuple]) (.and (.cmp .eq (.blt .len #[.v 0]) (.i 2)) (.and (.call 27 #[.idx (.v 0) (.i 0)]) (.call 26 #[.idx (.v 0) (.i 1),.i 4,.i 200]))))]⟩
def y6:Fn:=⟨1,2,AC,#[.ite (.or (.not (.isi (.v 0) [.tuple])) (.or (.cmp .lt (.blt .len #[.v 0]) (.i 2)) (.not (.isi (.idx (.v 0) (.i 0)) [.str])))) #[.ret (.cst (.bl AH))] .e,.ite (.cmp .eq (.idx (.v 0) (.i 0)) (.s "mark")) #[.ret (.and (.cmp .eq (.blt .len #[.v 0]) (.i 2)) (.and (.call 25 #[.idx (.v 0) (.i 1)]) (.cmp .isin (.idx (.v 0) (.i 1)) (.tup #[.i 0,.i 1]))))] .e,.ite (.cmp .eq (.idx (.v 0) (.i 0)) (.s "ask")) #[.ret (.and (.cmp .eq (.blt .len #[.v 0]) (.i 2)) (.call 28 #[.idx (.v 0) (.i 1)]))] .e,.ite (.cmp .eq (.idx (.v 0) (.i 0)) (.s "set")) #[.ret (.and (.cmp .eq (.blt .len #[.v 0]) (.i 3)) (.and (.call 28 #[.idx (.v 0) (.i 1)]) (.and (.call 25 #[.idx (.v 0) (.i 2)]) (.cmp .isin (.idx (.v 0) (.i 2)) (.tup #[.i 0,.i 1])))))] .e,.asg (.n 1) (.newd [("move",3),("bare",3),("twice",3),("half",3),("sum",4),("less",4),("both",4),("any",4),("odd",4)]),.dput (.v 1) (.s "times") (.i 5),.ite (.or (.cmp .ne (.mth .get (.v 1) #[.idx (.v 0) (.i 0),.i 0]) (.blt .len #[.v 0])) (.not (.blt .all #[.comp [AF] (.n 0) (.seq (.slc (.v 0) (.i 1) (.cst .non))) (.cst (.bl AC)) (.call 28 #[.v 0])]))) #[.ret (.cst (.bl AH))] .e,.ret (.or (.cmp .ne (.idx (.v 0) (.i 0)) (.s "times")) (.cmp .ne (.idx (.v 0) (.i 1)) (.idx (.v 0) (.i 2))))]⟩
def yfH:Fn:=⟨1,1,AC,#[.ite (.cmp .eq (.v 0) (.tup #[.s "mark"])) #[.ret (.cst (.bl AC))] .e,.ite (.or (.not (.isi (.v 0) [.tuple])) (.or (.cmp .ne (.blt .len #[.v 0]) (.i 4)) (.or (.cmp .ne (.idx (.v 0) (.i 0)) (.s "slice")) (.not (.call 27 #[.idx (.v 0) (.i 1)]))))) #[.ret (.cst (.bl AH))] .e,.ret (.and (.call 26 #[.idx (.v 0) (.i 2),.i 4,.i 200]) (.call 26 #[.idx (.v 0) (.i 3),.i 4,.i 200]))]⟩
def y7:Fn:=⟨1,2,AC,#[.ite (.or (.not (.isi (.v 0) [.tuple])) (.cmp .gt (.blt .len #[.v 0]) (.i 20))) #[.ret (.cst (.bl AH))] .e,.for (.n 1) (.seq (.v 0)) #[.ite (.or (.not (.isi (.v 1) [.tuple])) (.or (.cmp .ne (.blt .len #[.v 1]) (.i 3)) (.not (.call 26 #[.idx (.v 1) (.i 1),.i 6,.i 200])))) #[.ret (.cst (.bl AH))] .e,.ite (.or (.not (.call 25 #[.idx (.v 1) (.i 0)])) (.or (.cmp .ge (.blt .abs #[.idx (.v 1) (.i 0)]) (.bin .pow (.i 10) (.i 40))) (.not (.isi (.idx (.v 1) (.i 2)) [.tuple])))) #[.ret (.cst (.bl AH))] .e,.ite (.or (.cmp .gt (.blt .len #[.idx (.v 1) (.i 2)]) (.i 2)) (.not (.blt .all #[.comp [AF] (.n 0) (.seq (.idx (.v 1) (.i 2))) (.cst (.bl AC)) (.call 30 #[.v 0])]))) #[.ret (.cst (.bl AH))] .e],.ret (.cst (.bl AC))]⟩
def yfO:Fn:=⟨2,2,AC,#[.ite (.or (.not (.isi (.v 0) [.tuple])) (.cmp .lt (.blt .len #[.v 0]) (.i 2))) #[.ret (.cst (.bl AH))] .e,.ite (.cmp .eq (.idx (.v 0) (.i 0)) (.s "row")) #[.ret (.and (.cmp .eq (.blt .len #[.v 0]) (.i 2)) (.call 29 #[.idx (.v 0) (.i 1)]))] .e,.ite (.or (.cmp .ne (.idx (.v 0) (.i 0)) (.s "rounds")) (.or (.cmp .ne (.blt .len #[.v 0]) (.i 4)) (.or (.cmp .gt (.v 1) (.i 1)) (.not (.call 26 #[.idx (.v 0) (.i 1),.i 3,.i 200]))))) #[.ret (.cst (.bl AH))] .e,.ite (.or (.not (.call 31 #[.idx (.v 0) (.i 2)])) (.not (.isi (.idx (.v 0) (.i 3)) [.tuple]))) #[.ret (.cst (.bl AH))] .e,.ret (.blt .all #[.comp [AF,AA 1] (.n 0) (.seq (.idx (.v 0) (.i 3))) (.cst (.bl AC)) (.call 32 #[.v 0,.bin .add (.v 1) (.i 1)])])]⟩
def yk:Fn:=⟨1,1,AC,#[.ret (.and (.isi (.v 0) [.tuple]) (.blt .all #[.comp [AF] (.n 0) (.seq (.v 0)) (.cst (.bl AC)) (.call 32 #[.v 0,.i 0])]))]⟩
def yfY:Fn:=⟨4,4,AC,#[.ret (.bin .add (.bin .add (.bin .add (.idx (.v 0) (.i 0)) (.bin .mul (.idx (.v 0) (.i 1)) (.v 1))) (.bin .mul (.idx (.v 0) (.i 2)) (.v 2))) (.bin .mul (.idx (.v 0) (.i 3)) (.v 3)))]⟩
def yf0:Fn:=⟨3,3,AC,#[.ret (.bin .add (.bin .add (.idx (.v 0) (.i 0)) (.bin .mul (.idx (.v 0) (.i 1)) (.v 2))) (.bin .mul (.bin .mul (.idx (.v 0) (.i 2)) (.v 1)) (.v 2)))]⟩
def yf6:Fn:=⟨4,18,AH,#[.asg (.n 4) (.dict0 AC),.for (.t [5,6,7]) (.seq (.v 0)) #[.asg (.t [8,9,10,11,12,13]) (.v 6),.asg (.n 14) (.newl .e),.for (.n 15) (.seq (.v 7)) #[.asg (.n 16) (.tup #[.s "",.i 0,.i 1]),.ite (.cmp .eq (.idx (.v 15) (.i 0)) (.s "slice")) #[.asg (.n 16) (.tup #[.idx (.v 15) (.i 1),.call 34 #[.idx (.v 15) (.i 2),.v 3,.i 0,.v 2],.call 34 #[.idx (.v 15) (.i 3),.v 3,.i 0,.v 2]])] .e,.expr (.mth .append (.v 14) #[.v 16])],.ite (.blt .all #[.cml [AF] (.n 0) (.v 14) (.cmp .lt (.idx (.v 0) (.i 1)) (.idx (.v 0) (.i 2)))]) #[.asg (.n 17) (.tup #[.bin .add (.bin .add (.v 8) (.bin .mul (.v 9) (.v 3))) (.bin .mul (.v 1) (.bin .add (.bin .mul (.v 11) (.v 3)) (.bin .mul (.v 13) (.v 2)))),.blt .tuple #[.srt (.v 14)]]),.dput (.v 4) (.v 17) (.bin .add (.mth .get (.v 4) #[.v 17,.i 0]) (.v 5))] .e],.ret (.dfl 4)]⟩
def yf7:Fn:=⟨2,2,AC,#[.ret (.tup #[.s "slice",.v 0,.tup #[.i 0,.i 0,.i 0,.i 0],.tup #[.v 1,.i 0,.i 0,.i 0]])]⟩
def y8:Fn:=⟨4,8,AC,#[.ite (.cmp .eq (.v 0) (.s "product")) #[.asg (.n 4) (.lst #[.tup #[.i 1,.tup #[.i 0,.i 0,.i 0,.i 0,.i 0,.i 0],.tup #[.call 37 #[.s "c",.bin .add (.v 2) (.v 3)]]]]),.ret (.bin .add (.v 4) (.lst #[.tup #[.neg (.i 1),.tup #[.i 0,.i 0,.i 0,.i 0,.i 0,.i 0],.tup #[.call 37 #[.s "a",.v 2],.call 37 #[.s "b",.v 3]]]]))] .e,.ite (.cmp .eq (.v 0) (.s "quotient")) #[.nope,.nope,.nope] .e,.asg (.n 6) (.bin .sub (.i 1) (.bin .mul (.i 2) (.blt .int #[.cmp .eq (.v 0) (.s "difference")]))),.asg (.n 7) (.tup #[.i 0,.i 0,.i 0,.i 0,.i 0,.i 0]),.asg (.n 4) (.lst #[.tup #[.i 1,.v 7,.tup #[.call 37 #[.s "a",.v 3]]],.tup #[.v 6,.v 7,.tup #[.call 37 #[.s "b",.v 3]]]]),.ret (.bin .add (.v 4) (.lst #[.tup #[.neg (.i 1),.v 7,.tup #[.call 37 #[.s "c",.v 3]]],.tup #[.bin .sub (.i 0) (.v 6),.tup #[.bin .mul (.v 1) (.v 3),.i 0,.i 0,.i 0,.i 0,.i 0],.tup #[.tup #[.s "mark"]]]]))]⟩
def yZ:Fn:=⟨4,5,AC,#[.for (.n 4) (.seq (.v 0)) #[.ite (.and (.cmp .eq (.idx (.v 4) (.i 0)) (.s "rounds")) (.cmp .eq (.idx (.v 4) (.i 1)) (.v 2))) #[.ite (.blt .all #[.comp [AF,AF,AA 1,AA 2,AA 4] (.t [0,1]) (.seq (.v 3)) (.cst (.bl AC)) (.call 40 #[.idx (.v 4) (.i 2),.v 2,.v 3,.v 0,.v 1])]) #[.ret (.cst (.bl AC))] .e] .e],.nope]⟩
def y9:Fn:=⟨5,6,AC,#[.for (.n 5) (.range1 (.bin .add (.call 35 #[.v 2,.v 3,.v 4]) (.i 1))) #[.ite (.dne (.call 36 #[.v 0,.v 3,.v 4,.v 5]) (.call 36 #[.call 38 #[.v 1,.v 3,.v 4,.v 5],.v 3,.v 4,.v 5])) #[.nope] .e],.ret (.cst (.bl AC))]⟩
def ya4:Fn:=⟨1,5,AC,#[.asg (.n 1) (.call 20 #[.v 0]),.asg (.n 2) (.comp [AF,AA 1] (.n 0) (.range1 (.i 4)) (.cst (.bl AC)) (.call 24 #[.v 1,.i 4])),.for (.n 3) (.seq (.tup #[.s "sum",.s "difference",.s "product"])) #[.asg (.n 4) (.call 17 #[.tup #[.v 3]]),.ite (.or (.not (.call 33 #[.v 4])) (.not (.call 39 #[.v 4,.v 3,.tup #[.i 0,.i 1,.i 0],.v 2]))) #[.nope] .e],.ret (.cst (.bl AC))]⟩
end zq
def Tl:List Fn:=[yeq,yes,yet,yev,yeK,yeT,yeW,ym,yn,yy,yz,yA,yB,yT,yY,yeZ,yfi,ydO,yfj,y0,yc1,yS,yI,yw,ydc,yfn,yfs,yfw,y4,y6,yfH,y7,yfO,yk,yfY,yf0,yf6,yf7,y8,yZ,y9,ya4]
def T(i:Nat):Option Fn:=Tl[i]?
abbrev yi:Nat:=17
abbrev yf8:Nat:=20
abbrev ydQ:Nat:=21
abbrev yf9:Nat:=22
abbrev yd4:Nat:=23
abbrev yeb:Nat:=24
abbrev yl:Nat:=33
abbrev yga:Nat:=39
abbrev ygb:Nat:=40
abbrev yc0:Nat:=41
end IC
namespace WK
open PySem L2 IC
def top(i:Nat):Stmt:=Cn.main.body.getD i (.Pass ⟨0,0,0,0⟩)
def tbQ:Tb where
 tbl:=[⟨"word","word","word",top 9,["letter","c","i","j","m"],["letter","c","i","j","m"],yeq,.fd [0,0,0,0]⟩,⟨"last_word","last_word","last_word",top 10,["letter"],["letter"],yes,.fn⟩,⟨"rows","rows","rows",top 11,["told"],["told"],yet,.fn⟩,⟨"rounds","rounds","rounds",top 12,["count","sentence","inner"],["count","sentence","inner"],yev,.fn⟩,⟨"lowest","lowest","lowest",top 13,["letter","c","i","j","m"],["letter","c","i","j","m"],yeK,.fd [0,0,0,0]⟩,⟨"term","term","term",top 14,["f","things","i","p","q","r"],["f","things","i","p","q","r"],yeT,.fd [0,0,0,0]⟩,⟨"kept_mark","kept_mark","kept_mark",top 17,["to"],["to"],yeW,.fn⟩,⟨"kept_contrary","kept_contrary","kept_contrary",top 18,["to"],["to"],ym,.fn⟩,⟨"asked_words","asked_words","asked_words",top 21,["letter","m","count","gathered"],["letter","m","count"],yn,.fn⟩,⟨"answer_marks","answer_marks","answer_marks",top 22,["c","m","sign"],["c","m"],yy,.fn⟩,⟨"product_telling","product_telling","product_telling",top 35,["unfit"],[],yz,.fn⟩,⟨"multiplied","multiplied","multiplied",top 36,["sentence","begun","ended"],[],yA,.fn⟩,⟨"by_one_word","by_one_word","by_one_word",top 37,["here","this_word","sentence"],[],yB,.fn⟩,⟨"sum_telling","sum_telling","sum_telling",top 79,["added","sentence","lone"],[],yT,.fn⟩,⟨"difference_telling","difference_telling","difference_telling",top 80,["taken","sentence","lone"],[],yY,.fn⟩,⟨"carried","carried","carried",top 85,["row","sentence"],["row","sentence"],yeZ,.fn⟩,⟨"lone_sign","lone_sign","lone_sign",top 86,["lone","one","other"],["lone","one","other"],yfi,.fn⟩,⟨"telling","telling","telling",top 93,["deed"],["deed"],ydO,.fn⟩,⟨"is_deed","is_deed","is_deed",top 94,["thing"],["thing"],yfj,.fn⟩,⟨"named_telling","named_telling","named_telling",top 96,["name"],["name"],y0,.fn⟩,⟨"_law_fresh","_law_fresh","_law_fresh",top 98,["_law_script"],["_law_script"],yc1,.fn⟩,⟨"_law_mixed","_law_mixed","_law_mixed",top 99,["_law_seed","_law_primes","_law_number","_law_k","_law_prime","_law_far","_law_square","_law_power"],["_law_seed"],yS,.fn⟩,⟨"_law_fill","_law_fill","_law_fill",top 100,["_law_state","_law_cells","_law_at_here","_law_seed"],["_law_state"],yI,.fn⟩,⟨"_law_take","_law_take","_law_take",top 101,["_law_state","_law_many","_law_turns","_law_digit"],["_law_state","_law_many"],yw,.fn⟩,⟨"_law_sizes","_law_sizes","_law_sizes",top 102,["_law_state","_law_most"],["_law_state","_law_most"],ydc,.fn⟩,⟨"_law_whole","_law_whole","_law_whole",top 103,["_law_thing_here"],["_law_thing_here"],yfn,.fn⟩,⟨"_law_wholes","_law_wholes","_law_wholes",top 104,["_law_thing_here","_law_many","_law_most"],["_law_thing_here","_law_many","_law_most"],yfs,.fn⟩,⟨"_law_letter","_law_letter","_law_letter",top 105,["_law_thing_here"],["_law_thing_here"],yfw,.fn⟩,⟨"_law_index_cell","_law_index_cell","_law_index_cell",top 106,["_law_thing_here"],["_law_thing_here"],y4,.fn⟩,⟨"_law_telling_row","_law_telling_row","_law_telling_row",top 107,["_law_row","_law_lengths"],["_law_row"],y6,.fn⟩,⟨"_law_thing","_law_thing","_law_thing",top 108,["_law_thing_here"],["_law_thing_here"],yfH,.fn⟩,⟨"_law_is_sentence","_law_is_sentence","_law_is_sentence",top 109,["_law_told","_law_term"],["_law_told"],y7,.fn⟩,⟨"_law_part","_law_part","_law_part",top 110,["_law_part_here","_law_deep"],["_law_part_here","_law_deep"],yfO,.fn⟩,⟨"_law_is_telling","_law_is_telling","_law_is_telling",top 111,["_law_told"],["_law_told"],yk,.fn⟩,⟨"_law_at","_law_at","_law_at",top 112,["_law_index","_law_i","_law_j","_law_n"],["_law_index","_law_i","_law_j","_law_n"],yfY,.fn⟩,⟨"_law_count","_law_count","_law_count",top 113,["_law_count_here","_law_w","_law_n"],["_law_count_here","_law_w","_law_n"],yf0,.fn⟩,⟨"_law_reckoned","_law_reckoned","_law_reckoned",top 114,["_law_terms","_law_w","_law_n","_law_i","_law_sums","_law_f","_law_numbers","_law_things","_law_c","_law_by_i","_law_by_j","_law_p","_law_q","_law_r","_law_parts","_law_thing_here","_law_part_here","_law_key"],["_law_terms","_law_w","_law_n","_law_i"],yf6,.fn⟩,⟨"_law_lowest","_law_lowest","_law_lowest",top 115,["_law_letter_here","_law_many"],["_law_letter_here","_law_many"],yf7,.fn⟩,⟨"_law_due_terms","_law_due_terms","_law_due_terms",top 116,["_law_word","_law_w","_law_n","_law_i","_law_here","_law_wide","_law_sign_told","_law_zeros"],["_law_word","_law_w","_law_n","_law_i"],y8,.fn⟩,⟨"_law_says","_law_says","_law_says",top 117,["_law_told","_law_word","_law_count_here","_law_sizes_here","_law_part_here"],["_law_told","_law_word","_law_count_here","_law_sizes_here"],yZ,.fn⟩,⟨"_law_part_says","_law_part_says","_law_part_says",top 118,["_law_sentence","_law_word","_law_count_here","_law_w","_law_n","_law_i"],["_law_sentence","_law_word","_law_count_here","_law_w","_law_n"],y9,.fn⟩,⟨"law","law","law",top 119,["_law_script","_law_state","_law_sizes_here","_law_word","_law_told"],["_law_script"],ya4,.fn⟩]
 al:=[eD "word" 0,eF "last_word" 1,eF "rows" 2,eF "rounds" 3,eD "lowest" 4,eD "term" 5,eF "kept_mark" 6,eF "kept_contrary" 7,eF "asked_words" 8,eF "answer_marks" 9,eF "product_telling" 10,eF "multiplied" 11,eF "by_one_word" 12,eF "sum_telling" 13,eF "difference_telling" 14,eF "carried" 15,eF "lone_sign" 16,eF "telling" 17,eF "is_deed" 18,eF "named_telling" 19,eF "_law_fresh" 20,eF "_law_mixed" 21,eF "_law_fill" 22,eF "_law_take" 23,eF "_law_sizes" 24,eF "_law_whole" 25,eF "_law_wholes" 26,eF "_law_letter" 27,eF "_law_index_cell" 28,eF "_law_telling_row" 29,eF "_law_thing" 30,eF "_law_is_sentence" 31,eF "_law_part" 32,eF "_law_is_telling" 33,eF "_law_at" 34,eF "_law_count" 35,eF "_law_reckoned" 36,eF "_law_lowest" 37,eF "_law_due_terms" 38,eF "_law_says" 39,eF "_law_part_says" 40,eF "law" 41,eC "EACH_WORD" yf,eC "HIGH" yb4,eC "LONE" yeh,eC "LOW" ycd,eC "MARKS" yb,eC "NIL" ybR,eC "OVER" ycC,eC "PAIRED" yei,eC "PAIRWISE" yem,eC "SEEN" ybt,eC "SHIFTS" yde,eC "SPARE" ya]
 bs:=["abs","all","bool","dict","enumerate","int","isinstance","len","range","sorted","str","tuple"]
 ts:=[.bool,.int,.str,.tuple]
 fl:=[]
 me:=[]
 kb:=[eK 0 1 ["i"] [AA 0,AF,AA 0,AA 0],eK 0 1 ["i","j"] [AA 0,AF,AF,AA 0],eK 0 1 ["i","m"] [AA 0,AF,AA 0,AF],eK 0 1 ["j"] [AA 0,AA 0,AF,AA 0],eK 0 2 ["m"] [AA 0,AA 0,AF],eK 4 1 ["i"] [AA 0,AF,AA 0,AA 0],eK 4 1 ["i","m"] [AA 0,AF,AA 0,AF],eK 4 1 ["j"] [AA 0,AA 0,AF,AA 0],eK 4 1 ["m"] [AA 0,AA 0,AA 0,AF],eK 4 2 [] [AA 0,AA 0,AA 0],eK 5 2 [] [AA 0,AA 0,AA 0,AA 0],eK 5 2 ["p"] [AA 0,AF,AA 0,AA 0],eK 5 2 ["p","q"] [AA 0,AF,AF,AA 0]]
 cn:=[]
 dd:=[]
 ml:=[]
 xs:=[]
 xc:=[]
 xm:=[]
 qh:=[]
theorem ok_all:tbQ.tbl.all (okT tbQ)=true:=by decide +kernel
theorem T_ok:∀i d,tbQ.tbl[i]?=AA d->T i=AA d.fn:=λi d h=>by
 have e:Tl=tbQ.tbl.map (·.fn):=rfl;rw[T,e,BA,h];rfl
theorem kb_all:ya8 (KbP tbQ) tbQ.kb:=by
 repeat' (first|exact trivial|(refine⟨kbP rfl rfl rfl rfl rfl ⋯ ?_,?_⟩;((repeat intro _);exact⟨_,rfl,rfl⟩)))
end WK
namespace IC
open PySem
def ybz(call:Cl)(t:Tg)(b:Css)(xs:List PV)(ρ:Env)(st:SO):Fl:=forL t (λρ2 st2=>exs call ρ2 st2 b) xs ρ st
def yaj(call:Cl)(c:Ce)(b:Css)(n:Nat)(ρ:Env)(st:SO):Fl:=yU (λρ2 st2=>ev call ρ2 st2 c) (λρ2 st2=>exs call ρ2 st2 b) n ρ st
def ybF(call:Cl)(ρ0:Env)(t:Tg)(c e:Ce)(x:PV)(st2:SO):R (Option PV):=match yD t x ρ0 with
 |none=>.bad
 |some ρ1=>(ev call ρ1 st2 c).bind λb st3=>onO (yae st3 b) λk=>cond k ((ev call ρ1 st3 e).bind λy st4=>.ok (AA y) st4) (.ok AF st3)
def yV(call:Cl)(ρ0:Env)(t:Tg)(c e:Ce)(xs:List PV)(st:SO):R (List PV):=yaw (ybF call ρ0 t c e) xs st
def yan(f:Fl)(k:Env->SO->Fl):Fl:=
 match f with
 |.nx ρ st=>k ρ st
 |f=>f
def nxO(o:Option Env)(st:SO):Fl:=
 match o with
 |some ρ=>.nx ρ st
 |none=>.bad
def stO(ρ:Env)(o:Option SO):Fl:=
 match o with
 |some st=>.nx ρ st
 |none=>.bad
section
variable {call:Cl}{ρ:Env}{st:SO}
theorem x_for{t:Tg}{it:Cit}{b:Css}:ex call ρ st (.for t it b)=(evi call ρ st it).fl ρ λxs st1=>ybz call t b xs ρ st1:=rfl
def zga{c:Ce}{b:Css}:ex call ρ st (.while c b)=yaj call c b 100000 ρ st:=rfl
theorem v_comp{sl:List (Option Nat)}{t:Tg}{it:Cit}{c e:Ce}:ev call ρ st (.comp sl t it c e)=(evi call ρ st it).bind λxs st1=>ybv (yV call (sl.map λo=>o.bind λj=>(ρ[j]?).join) t c e xs st1):=rfl
def zev{t:Tg}{b:Css}:ybz call t b [] ρ st=.nx ρ st:=rfl
def zy{t:Tg}{b:Css}{x:PV}{xs:List PV}{ρ1:Env}(h:yD t x ρ=AA ρ1):ybz call t b (x::xs) ρ st=yaa (exs call ρ1 st b) λρ2 st2=>ybz call t b xs ρ2 st2:=by
 rw[ybz,forL,h];rfl
def zcw{t:Tg}{b:Css}(P:Nat->Env->SO->Prop):∀(xs:List PV) (i:Nat) (ρ:Env) (st:SO),P i ρ st ->
  (∀(j:Nat) (x:PV) (ρ:Env) (st:SO),xs[j]?=AA x->P (i+j) ρ st->∃ρ1 ρ2 st2,yD t x ρ=AA ρ1/\exs call ρ1 st b=.nx ρ2 st2/\P (i+j+1) ρ2 st2) ->
  ∃ρ' st',ybz call t b xs ρ st=.nx ρ' st'/\P (i+xs.length) ρ' st'
 |[],i,ρ,st,h,_=>⟨ρ,st,zev,h⟩
 |x::xs,i,ρ,st,h,k=>by
  let⟨ρ1,ρ2,st2,e1,e2,h2⟩:=k 0 x ρ st rfl h;let⟨ρ',st',e3,h3⟩:=zcw P xs (i+1) ρ2 st2 h2 λj y ρ st hy hp=>by
   have:=k (j+1) y ρ st (by simpa using hy) (by rw[show i+(j+1)=i+1+j by lia];exact hp);rw[show i+(j+1)+1=i+1+j+1 by lia]at this;exact this
  refine⟨ρ',st',?_,by rw[Ag,show i+(xs.length+1)=i+1+xs.length by lia];exact h3⟩;rw[zy e1,e2];exact e3
def zd8{c:Ce}{b:Css}{n:Nat}{x:PV}{st1 st2:SO}{ρ2:Env}(h:ev call ρ st c=.ok x st1)(ht:yae st1 x=AA AC)(hb:exs call ρ st1 b=.nx ρ2 st2):yaj call c b (n+1) ρ st=yaj call c b n ρ2 st2:=by
 rw[yaj,yU,h];erw[R.fl,ht,onF,cond_true,hb,yaa];rfl
def zbF{c:Ce}{b:Css}{n:Nat}{x:PV}{st1:SO}(h:ev call ρ st c=.ok x st1)(ht:yae st1 x=AA AH):yaj call c b (n+1) ρ st=.nx ρ st1:=by
 rw[yaj,yU,h];erw[R.fl,ht,onF,cond_false]
def zd1{ρ0:Env}{t:Tg}{c e:Ce}:yV call ρ0 t c e [] st=.ok [] st:=rfl
def zp{ρ0:Env}{t:Tg}{c e:Ce}{x:PV}{xs:List PV}:yV call ρ0 t c e (x::xs) st=(ybF call ρ0 t c e x st).bind λo st1=>(yV call ρ0 t c e xs st1).bind λys st2=>.ok (yaA o ys) st2:=rfl
def zba{ρ0:Env}{t:Tg}{c e:Ce}{f:PV->PV}:∀(xs:List PV),(∀x∈xs,ybF call ρ0 t c e x st=.ok (AA (f x)) st)->yV call ρ0 t c e xs st=.ok (xs.map f) st
 |[],_=>zd1
 |x::xs,h=>by
  rw[zp,h x Ai];erw[R.bind];rw[zba xs λy hy=>h y (AZ _ hy)];rfl
theorem xs_nil:exs call ρ st .nil=.nx ρ st:=rfl
theorem xs_cons{s:Cs}{ss:Css}:exs call ρ st (.cons s ss)=yan (ex call ρ st s) λρ1 st1=>exs call ρ1 st1 ss:=rfl
theorem x_asg{t:Tg}{e:Ce}:ex call ρ st (.asg t e)=(ev call ρ st e).fl ρ λv st1=>nxO (yD t v ρ) st1:=rfl
theorem x_expr{e:Ce}:ex call ρ st (.expr e)=(ev call ρ st e).fl ρ λ_ st1=>.nx ρ st1:=rfl
theorem x_ret{e:Ce}:ex call ρ st (.ret e)=(ev call ρ st e).fl ρ λv st1=>.rt v st1:=rfl
theorem x_ite{c:Ce}{a b:Css}:ex call ρ st (.ite c a b)=(ev call ρ st c).fl ρ λx st1=>onF (yae st1 x) λk=>cond k (exs call ρ st1 a) (exs call ρ st1 b):=rfl
theorem x_six{o i e:Ce}:ex call ρ st (.six o i e)=(ev call ρ st e).fl ρ λv st1=>(ev call ρ st1 o).fl ρ λx st2=>(ev call ρ st2 i).fl ρ λy st3=>stO ρ (yaK st3 x y v):=rfl
def ziR{i:Nat}{o:BOp}{e:Ce}{x:PV}(h:ρ[i]?=AA (AA x)):ex call ρ st (.aug i o e)=(ev call ρ st e).fl ρ λy st1=>nxO ((ya5 o x y).map λz=>ρ.set i (AA z)) st1:=by
 rw[ex,h];show (ev call ρ st e).fl ρ _=_;refine congrArg _ (funext λy=>funext λst1=>?_)
 cases ya5 o x y<;>rfl
end
theorem ve1(call:Nat->List PV->SO->R PV)(ρ:Env)(st:SO)(v:PV):
  ev call ρ st (Ce.cst v)=R.ok v st:=rfl
theorem ve2(call:Nat->List PV->SO->R PV)(ρ:Env)(st:SO)(i:Nat):
  ev call ρ st (Ce.var i) =
  match ρ[i]? with
  |some (AA v)=>R.ok v st
  |x=>R.bad:=rfl
theorem ve3(call:Nat->List PV->SO->R PV)(ρ:Env)(st:SO)(o:BOp)(a b:Ce):
  ev call ρ st (Ce.bin o a b)=R.bind (ev call ρ st a) λx st1=>R.bind (ev call ρ st1 b) λy st2=>toR (yu o x y) st2:=rfl
theorem ve4(call:Nat->List PV->SO->R PV)(ρ:Env)(st:SO)(a:Ce):
  ev call ρ st (Ce.neg a) =
  R.bind (ev call ρ st a) λx st1=>
   match x with
   |PV.int i=>R.ok (PV.int (-i)) st1
   |x=>R.bad:=rfl
theorem ve5(call:Nat->List PV->SO->R PV)(ρ:Env)(st:SO)(a:Ce):
  ev call ρ st (Ce.not a)=R.bind (ev call ρ st a) λx st1=>onBl x λk=>R.ok (PV.bl !k) st1:=rfl
theorem ve6(call:Nat->List PV->SO->R PV)(ρ:Env)(st:SO)(a b:Ce):
  ev call ρ st (Ce.and a b)=R.bind (ev call ρ st a) λx st1=>onBl x λk=>bif k then ev call ρ st1 b else R.ok (PV.bl AH) st1:=rfl
theorem ve7(call:Nat->List PV->SO->R PV)(ρ:Env)(st:SO)(a b:Ce):
  ev call ρ st (Ce.or a b)=R.bind (ev call ρ st a) λx st1=>onBl x λk=>bif k then R.ok (PV.bl AC) st1 else ev call ρ st1 b:=rfl
theorem ve8(call:Nat->List PV->SO->R PV)(ρ:Env)(st:SO)(o:COp)(a b:Ce):
  ev call ρ st (Ce.cmp o a b)=R.bind (ev call ρ st a) λx st1=>R.bind (ev call ρ st1 b) λy st2=>toR (yr o x y) st2:=rfl
theorem ve9(call:Nat->List PV->SO->R PV)(ρ:Env)(st:SO)(o p:COp)(a b c:Ce):
  ev call ρ st (Ce.chain o p a b c)=R.bind (ev call ρ st a) λx st1=>R.bind (ev call ρ st1 b) λy st2=>onO (blO (yr o x y)) λk=>bif k then R.bind (ev call ρ st2 c) λz st3=>toR (yr p y z) st3 else R.ok (PV.bl AH) st2:=rfl
theorem ve10(call:Nat->List PV->SO->R PV)(ρ:Env)(st:SO)(c a b:Ce):
  ev call ρ st (Ce.ite c a b)=R.bind (ev call ρ st c) λx st1=>onO (yae st1 x) λk=>bif k then ev call ρ st1 a else ev call ρ st1 b:=rfl
theorem ve11(call:Nat->List PV->SO->R PV)(ρ:Env)(st:SO)(es:Ces):
  ev call ρ st (Ce.tup es)=R.bind (evs call ρ st es) λvs st1=>if B4 vs<=sizeMax then R.ok (PV.tup vs) st1 else R.bad:=rfl
theorem ve12(call:Nat->List PV->SO->R PV)(ρ:Env)(st:SO)(es:Ces):
  ev call ρ st (Ce.lst es)=R.bind (evs call ρ st es) λvs st1=>if B4 vs<=sizeMax then R.ok (PV.lst vs) st1 else R.bad:=rfl
theorem ve13(call:Nat->List PV->SO->R PV)(ρ:Env)(st:SO)(es:Ces):
  ev call ρ st (Ce.newl es)=R.bind (evs call ρ st es) λvs st1=>if B4 vs<=sizeMax then R.ok (PV.loc (B4 st1)) (st1++[Ob.lst vs])else R.bad:=rfl
theorem ve14(call:Nat->List PV->SO->R PV)(ρ:Env)(st:SO)(kvs:List (AR×Int)):
  ev call ρ st (Ce.newd kvs)=if B4 kvs<=15 then R.ok (PV.loc (B4 st)) (st++[Ob.dct AH (List.foldl (λacc kv=>put (PV.str (Prod.fst kv)) (PV.int (Prod.snd kv)) acc) [] kvs)])else R.bad:=rfl
theorem ve15(call:Nat->List PV->SO->R PV)(ρ:Env)(st:SO)(t:Bool):
  ev call ρ st (Ce.dict0 t)=R.ok (PV.loc (B4 st)) (st++[Ob.dct t []]):=rfl
theorem ve16(call:Nat->List PV->SO->R PV)(ρ:Env)(st:SO)(a i:Ce):
  ev call ρ st (Ce.idx a i)=R.bind (ev call ρ st a) λx st1=>R.bind (ev call ρ st1 i) λy st2=>toR (idxV st2 x y) st2:=rfl
theorem ve17(call:Nat->List PV->SO->R PV)(ρ:Env)(st:SO)(a l h:Ce):
  ev call ρ st (Ce.slc a l h)=R.bind (ev call ρ st a) λx st1=>R.bind (ev call ρ st1 l) λy st2=>onP (yby y) λo=>R.bind (ev call ρ st2 h) λz st3=>toR (ycz x o z) st3:=rfl
theorem ve18(call:Nat->List PV->SO->R PV)(ρ:Env)(st:SO)(f:Nat)(es:Ces):
  ev call ρ st (Ce.call f es)=R.bind (evs call ρ st es) λvs st1=>call f vs st1:=rfl
theorem ve19(call:Nat->List PV->SO->R PV)(ρ:Env)(st:SO)(b:Blt)(es:Ces):
  ev call ρ st (Ce.blt b es)=R.bind (evs call ρ st es) λvs st1=>toR (yaG b st1 vs) st1:=rfl
theorem ve20(call:Nat->List PV->SO->R PV)(ρ:Env)(st:SO)(m:Mth)(o:Ce)(es:Ces):
  ev call ρ st (Ce.mth m o es)=R.bind (ev call ρ st o) λx st1=>onO (yaM m st1 x) λx_1=>R.bind (evs call ρ st1 es) λvs st2=>ycT m st2 x vs:=rfl
theorem ve21(call:Nat->List PV->SO->R PV)(ρ:Env)(st:SO)(a:Ce)(ts:List Ty):
  ev call ρ st (Ce.isi a ts)=R.bind (ev call ρ st a) λx st1=>toR (ybk x ts) st1:=rfl
theorem ve24(call:Nat->List PV->SO->R PV)(ρ:Env)(st:SO):
  ev call ρ st Ce.nope=R.bad:=rfl
end IC
namespace WK
open IC PySem
mutual
noncomputable def pvq:PV->PV->Bool
 |.non,.non=>AC
 |.bl a,.bl b=>a==b
 |.int i,.int j=>decide (i=j)
 |.str x,.str y=>decide (x=y)
 |.tp k xs,.tp l ys=>(k==l)&&ybJ xs ys
 |.lst xs,.lst ys=>ybJ xs ys
 |_,_=>AH
noncomputable def ybJ:List PV->List PV->Bool
 |[],[]=>AC
 |x::xs,y::ys=>pvq x y&&ybJ xs ys
 |_,_=>AH
end
mutual
theorem ze9:∀(a b:PV),pvq a b=AC->a=b
 |.non,b,h=>by cases b<;>simp[pvq]at h ⊢
 |.bl a,b,h=>by cases b<;>simp[pvq]at h ⊢;exact h
 |.int a,b,h=>by cases b<;>simp[pvq]at h ⊢;exact h
 |.str a,b,h=>by cases b<;>simp[pvq]at h ⊢;exact h
 |.tp k xs,b,h=>by
  cases b<;>simp[pvq]at h ⊢
  exact⟨h.1,zbX _ _ h.2⟩
 |.lst xs,b,h=>by
  cases b<;>simp[pvq]at h ⊢
  exact zbX _ _ h
 |.loc _,b,h=>by cases b<;>simp[pvq]at h
 |.fnc _,b,h=>by cases b<;>simp[pvq]at h
 |.exn _,b,h=>by cases b<;>simp[pvq]at h
 |.scr _,b,h=>by cases b<;>simp[pvq]at h
theorem zbX:∀(a b:List PV),ybJ a b=AC->a=b
 |[],b,h=>by cases b<;>simp[ybJ]at h ⊢
 |x::xs,b,h=>by
  cases b with
  |nil=>simp[ybJ]at h
  |cons y ys=>
   simp[ybJ]at h;rw[ze9 x y h.1,zbX xs ys h.2]
end
def isOk(r:R PV)(v:PV):Bool:=match r with
 |.ok w []=>pvq w v
 |_=>AH
def zbL{r:R PV}{v:PV}(h:isOk r v=AC):r=.ok v []:=by
 match r with
 |.ok w []=>rw[ze9 w v h]
 |.ok w (_::_)=>simp[isOk]at h
 |.exc _ _=>simp[isOk]at h
 |.bad=>simp[isOk]at h
def chS(c:Nat):Str:=⟨#[c]⟩
def ydK(c:Nat)(i:Int):PV:=.tup [.str (chS c),.int i]
abbrev Mem:=Nat->Int->Int
def upd(M:Mem)(c:Nat)(i v:Int):Mem:=λd j=>if d=c/\j=i then v else M d j
def Rel(kvs:List (PV×PV))(M:Mem):Prop:=∀c i,(look (ydK c i) kvs).getD (.int 0)=.int (M c i)
abbrev Cel:=Nat×Int
inductive Rw where
 |mark (d:Int)|ask (x:Cel)|set (t:Cel) (d:Int)|move (t x:Cel)|bare (t x:Cel)|twice (t x:Cel)|half (t x:Cel)
 |sum (t x y:Cel)|less (t x y:Cel)|both (t x y:Cel)|any (t x y:Cel)|odd (t x y:Cel)
def zau(i:Int):shp (.int i)=true:=rfl
section
variable {st:SO}{k:Bool}{a b c d e:PV}{r:List PV}{i j:Int}
theorem ix0:idxV st (.tp k (a::r)) (.int 0)=AA a:=by simp[idxV,yav,at?,ixI]
theorem ix1:idxV st (.tp k (a::b::r)) (.int 1)=AA b:=by
 have:(1:Int)<(r.length:Int)+1+1:=by lia
 simp[idxV,yav,at?,ixI,this]
theorem ix2:idxV st (.tp k (a::b::c::r)) (.int 2)=AA c:=by
 have:(2:Int)<(r.length:Int)+1+1+1:=by lia
 simp[idxV,yav,at?,ixI,this]
theorem b_add:yu .add (.int i) (.int j)=AA (.int (i+j)):=rfl
theorem b_sub:yu .sub (.int i) (.int j)=AA (.int (i-j)):=rfl
def zfN(h:i.natAbs<18446744073709551616 \/ j.natAbs<18446744073709551616):yu .mul (.int i) (.int j)=AA (.int (i*j)):=by
 have:yal i j=true:=by simpa [yal] using h
 simp[yu,binI,this]
def zeZ(h:i.natAbs<18446744073709551616):yu .mul (.int i) (.int j)=AA (.int (i*j)):=zfN (.inl h)
def zc3(h:j.natAbs<18446744073709551616):yu .mul (.int i) (.int j)=AA (.int (i*j)):=zfN (.inr h)
theorem b_mul2:yu .mul (.int 2) (.int j)=AA (.int (2*j)):=zfN (.inl ⋯)
def ziB(h:0<j)(h2:j<18446744073709551616*18446744073709551616):yu .fdiv (.int i) (.int j)=AA (.int (i/j)):=by
 have h3:j<10000000000000000000000000000000000000000000000000000000000000000000000:=by lia
 simp[yu,binI,h,h3]
theorem b_div2:yu .fdiv (.int i) (.int 2)=AA (.int (i/2)):=rfl
def zid(h:0<j):yu .mod (.int i) (.int j)=AA (.int (i%j)):=by simp[yu,binI,h]
theorem toR_some{v:PV}:toR (AA v) st=.ok v st:=rfl
theorem c_ne:yr .ne (.int i) (.int j)=AA (.bl (!(i==j))):=by simp[yr,zau,peq]
theorem c_eq:yr .eq (.int i) (.int j)=AA (.bl (i==j)):=by simp[yr,zau,peq]
theorem c_lt:yr .lt (.int i) (.int j)=AA (.bl (decide (i<j))):=rfl
theorem c_le:yr .le (.int i) (.int j)=AA (.bl (decide (i<=j))):=rfl
theorem c_gt:yr .gt (.int i) (.int j)=AA (.bl (decide (j<i))):=rfl
theorem c_ge:yr .ge (.int i) (.int j)=AA (.bl (decide (j<=i))):=rfl
theorem t_bl{b:Bool}:yae st (.bl b)=AA b:=rfl
theorem on_t{f:Bool->Fl}{b:Bool}:onF (AA b) f=f b:=rfl
theorem ono{α:Type}{f:Bool->R α}{b:Bool}:onO (AA b) f=f b:=rfl
theorem nxO_some{ρ:IC.Env}:nxO (AA ρ) st=.nx ρ st:=rfl
theorem fl_ok{α:Type}{a:α}{ρ:IC.Env}{k:α->SO->Fl}:(R.ok a st).fl ρ k=k a st:=rfl
theorem bd_ok{α β:Type}{a:α}{k:α->SO->R β}:(R.ok a st).bind k=k a st:=rfl
theorem th_nx{ρ:IC.Env}{k:IC.Env->SO->Fl}:yan (.nx ρ st) k=k ρ st:=rfl
theorem th_rt{v:PV}{k:IC.Env->SO->Fl}:yan (.rt v st) k=.rt v st:=rfl
theorem fl_exc{α:Type}{c:Nat}{ρ:IC.Env}{k:α->SO->Fl}:(R.exc c st:R α).fl ρ k=.exc c ρ st:=rfl
theorem bd_exc{α β:Type}{c:Nat}{k:α->SO->R β}:(R.exc c st:R α).bind k=.exc c st:=rfl
theorem th_exc{c:Nat}{ρ:IC.Env}{k:IC.Env->SO->Fl}:yan (.exc c ρ st) k=.exc c ρ st:=rfl
theorem noLocs_ints:∀(l:List Int),nLs (l.map PV.int)=AC
 |[]=>rfl
 |_::l=>by simp[nLs,nL,noLocs_ints l]
theorem bT_n{i:Nat}{v:PV}{ρ:IC.Env}:yD (.n i) v ρ=AA (ρ.set i (AA v)):=rfl
end
def yQ:PV:=.tup [.int 2147483647,.int 2147483629,.int 2147483587,.int 2147483579,.int 2147483563]
def ycx:Css:=match yS.body with
 |.cons _ (.cons _ (.cons (.for _ _ b) _))=>b
 |_=>.nil
def zat{c:Cl}{s num g p:Int}{i:Nat}{u5 u6 u7:Option PV}(hg:∀st,idxV st (.tup [.int 11,.int 101,.int 1009,.int 10007,.int 100003]) (.int i)=AA (.int g))(hi:i<5)(hp:0<p)(hp2:p<18446744073709551616):
  ∃num' v5 v6 v7,exs c [AA (.int s),AA yQ,AA (.int num),AA (.int i),AA (.int p),u5,u6,u7] [] ycx=.nx [AA (.int s),AA yQ,AA (.int num'),AA (.int i),AA (.int p),v5,v6,v7] []:=by
 have h1:∀z:Int,yu .mul (.int z) (.int (48271+2*(i:Int)))=AA (.int (z*(48271+2*(i:Int)))):=λz=>zc3 ∅;have h2:∀z y:Int,yu .mul (.int z) (.int (y%p))=AA (.int (z*(y%p))):=λz y=>zc3 (by
  have a:=ES y (show p≠0 by lia);have b:=D1 y hp;lia)
 have h3:∀z:Int,yu .mul (.int z) (.int p)=AA (.int (z*p)):=λz=>zc3 ∅;erw[ycx,yS,Ag,Bn,Nat.zero_add,Nat.reduceAdd,if_true,xs_cons,xs_nil,x_asg,IC.ve1,IC.ve2,IC.ve3,IC.ve11,IC.ve16,evs,A6,A4,bd_ok,fl_ok,toR_some,bT_n,nxO_some,th_nx,Ap,Aq,sizeMax,Nat.reduceLeDiff,b_add,b_mul2,hg,h1,h2,h3,zid hp];exact⟨_,_,_,_,rfl⟩
def zeQ{c:Cl}{s num:Int}{u5 u6 u7:Option PV}(i:Nat)(p:Int)(h:(i,p)∈[(0,(2147483647:Int)),(1,2147483629),(2,2147483587),(3,2147483579),(4,2147483563)]):
  ∃num' v5 v6 v7,exs c [AA (.int s),AA yQ,AA (.int num),AA (.int i),AA (.int p),u5,u6,u7] [] ycx=.nx [AA (.int s),AA yQ,AA (.int num'),AA (.int i),AA (.int p),v5,v6,v7] []:=by
 erw[Ac,Prod.mk.injEq,Cr,or_false]at h;rcases h with⟨rfl,rfl⟩|⟨rfl,rfl⟩|⟨rfl,rfl⟩|⟨rfl,rfl⟩|⟨rfl,rfl⟩
 .exact zat (λ_=>rfl) ⋯ ⋯ ⋯
 .exact zat (λ_=>rfl) ⋯ ⋯ ⋯
 .exact zat (λ_=>rfl) ⋯ ⋯ ⋯
 .exact zat (λ_=>rfl) ⋯ ⋯ ⋯
 .exact zat (λ_=>rfl) ⋯ ⋯ ⋯
def ycO:List PV:=[.tup [.int 0,.int 2147483647],.tup [.int 1,.int 2147483629],.tup [.int 2,.int 2147483587],.tup [.int 3,.int 2147483579],.tup [.int 4,.int 2147483563]]
theorem mixed(k:Nat)(s:Int)(st:SO):∃num,yg T (k+1) ydQ [.int s] st=.ok (.int num) st:=by
 let⟨ρ',st',h,num,a,b,c,d,e,e1,e2⟩:=zcw (call:=yg T k) (t:=.t [3,4]) (b:=ycx) (λ_ ρ st=>∃num a b c d e,ρ=[AA (.int s),AA yQ,AA (.int num),a,b,c,d,e]/\st=[]) ycO 0 [AA (.int s),AA yQ,AA (.int 0),AF,AF,AF,AF,AF] [] ⟨_,_,_,_,_,_,rfl,rfl⟩ (by
  rintro j x ρ st hx ⟨num,a,b,c,d,e,rfl,rfl⟩
  have hx:=AV hx;have hx:∃i p,x=.tup [.int ((i:Nat):Int),.int p]/\(i,p)∈[(0,(2147483647:Int)),(1,2147483629),(2,2147483587),(3,2147483579),(4,2147483563)]:=by
   erw[ycO,Ac,Cr,or_false]at hx;rcases hx with rfl|rfl|rfl|rfl|rfl
   .exact⟨0,_,rfl,by simp⟩
   .exact⟨1,_,rfl,by simp⟩
   .exact⟨2,_,rfl,by simp⟩
   .exact⟨3,_,rfl,by simp⟩
   .exact⟨4,_,rfl,by simp⟩
  let⟨i,p,rfl,hm⟩:=hx;let⟨num',v5,v6,v7,hh⟩:=zeQ (c:=yg T k) (s:=s) (num:=num) (u5:=c) (u6:=d) (u7:=e) i p hm;exact⟨_,_,_,rfl,hh,_,_,_,_,_,_,rfl,rfl⟩)
 subst e1 e2;refine⟨num,?_⟩;rw[yg];have hb:yS.body=.cons (.asg (.n 1) (.tup (.cons (.cst (.int 2147483647)) (.cons (.cst (.int 2147483629)) (.cons (.cst (.int 2147483587)) (.cons (.cst (.int 2147483579)) (.cons (.cst (.int 2147483563)) .nil))))))) (.cons (.asg (.n 2) (.cst (.int 0))) (.cons (.for (.t [3,4]) (.enum (.var 1)) ycx) (.cons (.ret (.var 2)) .nil))):=rfl;have hT:T ydQ=AA ⟨1,8,AC,yS.body⟩:=rfl;have hp:PV.tup [.int 2147483647,.int 2147483629,.int 2147483587,.int 2147483579,.int 2147483563]=yQ:=rfl;rw[hT,hb];have h5:ev (yg T k) [AA (.int s),AF,AF,AF,AF,AF,AF,AF] [] (.tup (.cons (.cst (.int 2147483647)) (.cons (.cst (.int 2147483629)) (.cons (.cst (.int 2147483587)) (.cons (.cst (.int 2147483579)) (.cons (.cst (.int 2147483563)) .nil))))))=.ok yQ []:=by
  simp[IC.ve1,IC.ve11,evs,R.bind,sizeMax,yQ]
 have he:evi (yg T k) [AA (.int s),AA yQ,AA (.int 0),AF,AF,AF,AF,AF] [] (.enum (.var 1))=.ok ycO []:=by
  simp[evi,IC.ve2,R.bind,yQ,yL,ycO]
 erw[Ag,Bn,if_true,nLs,nL,GO,A2,CA,De,Aj,Ct,CY,xs_cons,xs_nil,x_asg,x_for,x_ret,h5,R.fl,yD,nxO,yan,Ap,Aq,IC.ve1,he,h,IC.ve2,A6,A4]
mutual
noncomputable def tam(d m:Nat):PV->Bool
 |.non=>AC
 |.bl _=>AC
 |.int _=>AC
 |.str s=>s.cps.toList.all (· < 128)&&decide (s.cps.toList.length<=m)
 |.tp _ xs=>decide (0<d)&&(decide (xs.length<=m)&&yb9 (d-1) m xs)
 |.lst xs=>decide (0<d)&&(decide (xs.length<=m)&&yb9 (d-1) m xs)
 |_=>AH
noncomputable def yb9(d m:Nat):List PV->Bool
 |[]=>AC
 |x::xs=>tam d m x&&yb9 d m xs
end
def zcj(f:PV->Bool):∀xs:List PV,allB (xs.map λx=>.bl (f x))=AA (xs.all f)
 |[]=>rfl
 |x::xs=>by simp[allB,zcj f xs]
def zdy(ys:List PV)(h:ys.length<=1000000)(st:SO):ybv (.ok ys st)=.ok (.lst ys) st:=by simp[ybv,h]
def zfu(f:PV->Bool)(xs:List PV)(st:SO):yaG .all st [.lst (xs.map λx=>.bl (f x))]=AA (.bl (xs.all f)):=by
 simp[yaG,yt,zcj]
def zB{z:Int}(h:0<=z):∃n:Nat,z=n:=⟨z.toNat,by lia⟩
def yb8(st:SO)(f:Fl):R PV:=
 match f with
 |.rt v _=>if nL v then .ok v st else .bad
 |.nx _ _=>.ok .non st
 |.exc c _ _=>.exc c st
 |_=>.bad
def zaB{T:Nat->Option IC.Fn}{k f:Nat}{fn:IC.Fn}{args:List PV}{st:SO}(hT:T f=AA fn)(hp:fn.pure=AC)(hl:args.length=fn.np)(hn:nLs args=AC):
  yg T (k+1) f args st=yb8 st (exs (yg T k) (args.map AA++Aj (fn.ns-fn.np) AF) [] fn.body):=by
 rw[yg,hT];dsimp only;rw[if_pos hl,if_pos hp,if_pos hn];rfl
def outI(f:Fl):R PV:=
 match f with
 |.rt v st1=>.ok v st1
 |.nx _ st1=>.ok .non st1
 |.exc c _ st1=>.exc c st1
 |_=>.bad
def zcv{T:Nat->Option IC.Fn}{k f:Nat}{fn:IC.Fn}{args:List PV}{st:SO}(hT:T f=AA fn)(hp:fn.pure=AH)(hl:args.length=fn.np):
  yg T (k+1) f args st=outI (exs (yg T k) (args.map AA++Aj (fn.ns-fn.np) AF) st fn.body):=by
 rw[yg,hT];dsimp only;rw[if_pos hl,hp,if_neg (by simp)];rfl
def zfk{st s:SO}{b:Bool}:yb8 st (.rt (.bl b) s)=.ok (.bl b) st:=rfl
set_option backward.eqns.nonrecursive true
local macro_rules | `(tactic| simp! [$xs,*])=>do
 let l<-("IC.xs_cons IC.xs_nil IC.x_asg IC.x_ite IC.x_ret IC.x_expr IC.x_for IC.x_six IC.evs IC.evi IC.ve1 IC.ve2 IC.ve3 IC.ve4 IC.ve5 IC.ve6 IC.ve7 IC.ve8 IC.ve9 IC.ve10 IC.ve11 IC.ve12 IC.ve13 IC.ve14 IC.ve15 IC.ve16 IC.ve17 IC.ve18 IC.ve19 IC.ve20 IC.ve21 IC.ve24 IC.v_comp List.getElem?_cons_zero List.getElem?_cons_succ WK.bd_ok WK.fl_ok WK.bd_exc WK.fl_exc WK.toR_some IC.toL WK.bT_n WK.nxO_some WK.th_nx WK.th_rt WK.th_exc List.set_cons_zero List.set_cons_succ WK.on_t WK.t_bl WK.ono IC.onBl cond_true cond_false List.length_cons List.length_nil Nat.zero_add Nat.reduceAdd Nat.reduceSub Nat.reduceLeDiff if_true IC.nL IC.nLs WK.noLocs_ints Bool.and_self Bool.not_true Bool.not_false List.map_cons List.map_nil List.replicate List.cons_append List.nil_append List.append_nil Option.bind_none Option.bind_some Option.join_some WK.b_add WK.b_sub WK.b_mul2 WK.b_div2 WK.c_lt WK.c_le WK.c_gt WK.c_ge WK.c_eq WK.c_ne IC.PV.tup IC.sizeMax".splitOn " ").toArray.mapM λs=>`(Lean.Parser.Tactic.simpLemma| $(Lean.mkIdent s.toName):term)
 `(tactic| simp only[$l,*,$xs,*])
theorem rdS{st:SO}{n:Nat}{o x:Ob}(h:st[n]?=AA o):(st.set n x)[n]?=AA x:=by
 have:n<st.length:=by
  rcases EK n st.length with h1|h1
  .exact h1
  .rw[Ci h1]at h;cases h
 rw[BF this]
def zin(ns:List Int)(a:Int)(h:ns≠[]):∃v,yav (ns.map PV.int) (.int (a%(ns.length:Int)))=AA (.int v):=by
 have h0:0<ns.length:=Ef.2 h;have h1:=ES a (show (ns.length:Int)≠0 by lia);have h2:=D1 a (show (0:Int)<ns.length by lia);have h3:(a%(ns.length:Int)).toNat<ns.length:=by lia
 refine⟨ns[(a%(ns.length:Int)).toNat],?_⟩;simp[yav,at?,ixI,h1,h2,h3]
def flT:Css:=match yI.body with
 |.cons _ (.cons _ (.cons _ t))=>t
 |x=>x
abbrev flS(l:PV)(a p:Int)(f:Bool):Ob:=.lst [l,.int a,.int p,.bl f]
def zi7{st:SO}{n:Nat}{l:PV}{a p v:Int}{f:Bool}(h:st[n]?=AA (flS l a p f)):yaK st (.loc n) (.int 1) (.int v)=AA (st.set n (flS l v p f)):=by erw[yaK,h];rfl
def ziE{st:SO}{n:Nat}{l:PV}{a p v:Int}{f:Bool}(h:st[n]?=AA (flS l a p f)):yaK st (.loc n) (.int 2) (.int v)=AA (st.set n (flS l a v f)):=by erw[yaK,h];rfl
def ziH{st:SO}{n:Nat}{l:PV}{a p:Int}{f g:Bool}(h:st[n]?=AA (flS l a p f)):yaK st (.loc n) (.int 3) (.bl g)=AA (st.set n (flS l a p g)):=by erw[yaK,h];rfl
def zja{st:SO}{n:Nat}{l:PV}{a p:Int}{f:Bool}(h:st[n]?=AA (flS l a p f)):idxV st (.loc n) (.int 0)=AA l:=by erw[idxV,h];rfl
def zjb{st:SO}{n:Nat}{l:PV}{a p:Int}{f:Bool}(h:st[n]?=AA (flS l a p f)):idxV st (.loc n) (.int 1)=AA (.int a):=by erw[idxV,h];rfl
def zjc{st:SO}{n:Nat}{l:PV}{a p:Int}{f:Bool}(h:st[n]?=AA (flS l a p f)):idxV st (.loc n) (.int 3)=AA (.bl f):=by erw[idxV,h];rfl
theorem p18:yu .pow (.int 10) (.int 18)=AA (.int 1000000000000000000):=by with_unfolding_all rfl
def zb8(k n:Nat){l:PV}{m a v p q:Int}{f g:Bool}{st:SO}(h:st[n]?=AA (flS l a p f))(hl:∀st,yaG .len st [l]=AA (.int m))(hg:(decide (a ≥ m) || decide (v<1000000000000000000))=g)
  (h1:g=AC->yg T (k+1) ydQ [.int v] (st.set n (flS l (a+1) p AC))=.ok (.int q) (st.set n (flS l (a+1) p AC))) (h2:g=AH->q=v-1000000000000000000):
  exs (yg T (k+1)) [AA (.loc n),AA l,AA (.int a),AA (.int v)] st flT=.nx [AA (.loc n),AA l,AA (.int a),AA (.int v)] (st.set n (flS l (a+1) q g)):=by
 have s1:=zi7 h (v:=a+1);have r1:=rdS h (x:=flS l (a+1) p f);have s2:=ziH r1 (g:=g);have r2:=rdS r1 (x:=flS l (a+1) p g);have s3:=ziE r2 (v:=q);have i3:=zjc r2;rw[EL]at s2 s3 i3 r2;rw[EL]at s3
 have hb:flT=(match flT with
  |.cons a (.cons (.six x y _) r)=>.cons a (.cons (.six x y (.or (.cmp .ge (.var 2) (.blt .len (.cons (.var 1) .nil))) (.cmp .lt (.var 3) (.bin .pow (.cst (.int 10)) (.cst (.int 18)))))) r)
  |x=>x):=rfl
 have hor:∀st,ev (yg T (k+1)) [AA (.loc n),AA l,AA (.int a),AA (.int v)] st (.or (.cmp .ge (.var 2) (.blt .len (.cons (.var 1) .nil))) (.cmp .lt (.var 3) (.bin .pow (.cst (.int 10)) (.cst (.int 18)))))=.ok (.bl g) st:=λst=>by
  cases c:decide (a ≥ m)
  .rw[c,GN]at hg;simp! [hl,c,p18,hg]
  .rw[c,G0]at hg;subst hg;simp! [hl,c]
 generalize hE:(Ce.or (.cmp .ge (.var 2) (.blt .len (.cons (.var 1) .nil))) (.cmp .lt (.var 3) (.bin .pow (.cst (.int 10)) (.cst (.int 18)))))=E at *
 cases g with
 |true=>
  have h1:=h1 rfl;rw[hb];simp! [flT,yI,stO,s1,hor,s2,i3,h1,s3]
 |false=>
  have h2:=h2 rfl;subst h2;rw[hb];simp! [flT,yI,stO,s1,hor,s2,i3,p18,s3]
theorem fill(k n:Nat)(ns:List Int)(hns:ns.length<=1000)(a p:Int)(ha:0<=a)(f:Bool)(st:SO)(h:st[n]?=AA (.lst [.lst (ns.map .int),.int a,.int p,.bl f])):
  ∃p' f',yg T (k+2) yf9 [.loc n] st=.ok .non (st.set n (.lst [.lst (ns.map .int),.int (a+1),.int p',.bl f'])):=by
 have hT:T yf9=AA ⟨1,4,AH,yI.body⟩:=rfl;have hl:∀st,yaG .len st [.lst (ns.map .int)]=AA (.int (ns.length:Int)):=λst=>by
  show AA (PV.int (((ns.map PV.int).length:Nat):Int))=_;simp
 have i0:=zja h;have i1:=zjb h;have bt:∀(a b:PV) (ρ:IC.Env),yD (.t [1,2]) (.tp AH [a,b]) ρ=AA ((ρ.set 1 (AA a)).set 2 (AA b)):=λ_ _ _=>rfl
 have hb:yI.body=(match yI.body with
  |.cons a (.cons b (.cons c _))=>.cons a (.cons b (.cons c flT))
  |x=>x):=rfl
 have m31:yu .mul (.int 31) (.int a)=AA (.int (31*a)):=zeZ ⋯;obtain⟨v,hv⟩:∃v,exs (yg T (k+1)) [AA (.loc n),AF,AF,AF] st yI.body=exs (yg T (k+1)) [AA (.loc n),AA (.lst (ns.map .int)),AA (.int a),AA (.int v)] st flT:=by
  by_cases hn:ns=[]
  .have c0:decide ((ns.length:Int) > 0)=false:=by subst hn;rfl
   refine⟨31*a+7,?_⟩;rw[hb];generalize flT=F,ns.map PV.int=L at *;simp! [yI,i0,i1,bt,m31,hl,c0]
  .have h0:0<ns.length:=Ef.2 hn;let⟨v,hv⟩:=zin ns a hn;have c0:decide ((ns.length:Int) > 0)=true:=decide_eq_true ∅;have d1:=ziB (i:=a) (j:=(ns.length:Int)) ∅ ∅;have d2:=zid (i:=a) (j:=(ns.length:Int)) ∅;have m1:yu .mul (.int 104729) (.int (a/(ns.length:Int)))=AA (.int (104729*(a/(ns.length:Int)))):=zeZ ⋯;have ix:∀st,idxV st (.lst (ns.map .int)) (.int (a%(ns.length:Int)))=AA (.int v):=λ_=>hv;refine⟨104729*(a/(ns.length:Int))+v,?_⟩;rw[hb];generalize flT=F,ns.map PV.int=L at *;simp! [yI,i0,i1,bt,m31,hl,c0,d1,d2,m1,ix]
 cases c:(decide (a ≥ (ns.length:Int)) || decide (v<1000000000000000000))with
 |true=>
  let⟨q,hq⟩:=mixed k v (st.set n (flS (.lst (ns.map .int)) (a+1) p AC));refine⟨q,AC,?_⟩;rw[zcv hT rfl rfl];have e:=zb8 k n h hl c (λ_=>hq) (λh=>nomatch h);rw[<-hv]at e;exact(congrArg _ e).trans rfl
 |false=>
  refine⟨v-1000000000000000000,AH,?_⟩;rw[zcv hT rfl rfl];have e:=zb8 k n h hl c (λh=>nomatch h) (λ_=>rfl);rw[<-hv]at e;exact(congrArg _ e).trans rfl
def yaJ:Ce:=match yw.body with
 |.cons _ (.cons (.while c _) _)=>c
 |_=>.nope
def ya2:Css:=match yw.body with
 |.cons _ (.cons (.while _ b) _)=>b
 |_=>.nil
def zd2{c:Cl}{n:Nat}{ns:List Int}{a p m t:Int}{f:Bool}{u:Option PV}{st:SO}(h:st[n]?=AA (.lst [.lst (ns.map .int),.int a,.int p,.bl f])):
  ∃B,ev c [AA (.loc n),AA (.int m),AA (.int t),u] st yaJ=.ok (.bl B) st/\(B=AC->t<64):=by
 by_cases h1:t<64
 .by_cases h2:p=0
  .refine⟨AC,?_,λ_=>h1⟩;erw[yaJ,yw,IC.ve1,IC.ve2,IC.ve3,IC.ve6,IC.ve7,IC.ve8,IC.ve16,R.bind,A6,A4,h,idxV,yav,at?,ixI,yu,binI,yal,toR,yr,ya1,onBl];simp[h1,h2,zau,peq]
  .have h2:(p==0)=false:=by simp[h2]
   cases f
   .refine⟨AH,?_,λ_=>h1⟩;erw[yaJ,yw,IC.ve1,IC.ve2,IC.ve3,IC.ve6,IC.ve7,IC.ve8,IC.ve16,R.bind,A6,A4,h,idxV,yav,at?,ixI,yu,binI,yal,toR,yr,ya1,onBl];simp[h,h1,h2,zau,peq]
   .refine⟨decide (p<m*4096),?_,λ_=>h1⟩;erw[yaJ,yw,IC.ve1,IC.ve2,IC.ve3,IC.ve6,IC.ve7,IC.ve8,IC.ve16,R.bind,A6,A4,h,idxV,yav,at?,ixI,yu,binI,yal,toR,yr,ya1,onBl];simp[h,h1,h2,zau,peq]
 .refine⟨AH,?_,λz=>by cases z⟩;erw[yaJ,yw,IC.ve1,IC.ve2,IC.ve3,IC.ve6,IC.ve7,IC.ve8,IC.ve16,R.bind,A6,A4,h,idxV,yav,at?,ixI,yu,binI,yal,toR,yr,ya1,onBl];simp[h1]
def zds(k:Nat){n:Nat}{ns:List Int}(hns:ns.length<=1000){a p m t:Int}(ha:0<=a){f:Bool}{u:Option PV}{st:SO}(h:st[n]?=AA (.lst [.lst (ns.map .int),.int a,.int p,.bl f])):
  ∃p' f',exs (yg T (k+2)) [AA (.loc n),AA (.int m),AA (.int t),u] st ya2=.nx [AA (.loc n),AA (.int m),AA (.int (t+1)),u] (st.set n (.lst [.lst (ns.map .int),.int (a+1),.int p',.bl f'])):=by
 let⟨q,g,hq⟩:=fill k n ns hns a p ha f st h;have hm:(1+q%4093).natAbs<18446744073709551616:=by lia
 have hau:∀st,ex (yg T (k+2)) [AA (.loc n),AA (.int m),AA (.int t),u] st (.aug 2 .add (.cst (.int 1)))=.nx [AA (.loc n),AA (.int m),AA (.int (t+1)),u] st:=λst=>by
  rw[ziR (x:=.int t) rfl];simp[IC.ve1,R.fl,ya5,yu,binI,nxO]
 cases g
 .refine⟨q,AH,?_⟩;erw[ya2,yw,xs_cons,xs_nil,x_expr,x_ite,x_six,hau,yan,nxO,IC.ve1,IC.ve2,IC.ve3,IC.ve6,IC.ve8,IC.ve16,IC.ve18,evs,R.fl,R.bind,hq,ya5,yu,binI,CW,Ap,Aq,A6,A4,rdS h,idxV,yav,at?,ixI,yal,toR,yr,ya1,onBl,onF,yae];simp[rdS h]
 .by_cases hl:q<m*4096
  .refine⟨q+m*4096*(1+q%4093),AC,?_⟩;erw[ya2,yw,xs_cons,xs_nil,x_expr,x_ite,x_six,hau,yan,nxO,IC.ve1,IC.ve2,IC.ve3,IC.ve6,IC.ve8,IC.ve16,IC.ve18,evs,R.fl,R.bind,hq,ya5,yu,binI,CW,Ap,Aq,A6,A4,rdS h,idxV,yav,at?,ixI,yal,toR,yr,ya1,onBl,onF,yae,stO,yaK];simp[rdS h,hl,hm]
  .refine⟨q,AC,?_⟩;erw[ya2,yw,xs_cons,xs_nil,x_expr,x_ite,x_six,hau,yan,nxO,IC.ve1,IC.ve2,IC.ve3,IC.ve6,IC.ve8,IC.ve16,IC.ve18,evs,R.fl,R.bind,hq,ya5,yu,binI,CW,Ap,Aq,A6,A4,rdS h,idxV,yav,at?,ixI,yal,toR,yr,ya1,onBl,onF,yae];simp[rdS h,hl]
def zbl(k:Nat){n:Nat}{ns:List Int}(hns:ns.length<=1000){m:Int}{u:Option PV}:∀(r N:Nat) (t a p:Int) (f:Bool) (st:SO),r<=N->64-t<=r->0<=a->st[n]?=AA (.lst [.lst (ns.map .int),.int a,.int p,.bl f]) ->
  ∃t' a' p' f',0<=a'/\yaj (yg T (k+2)) yaJ ya2 (N+1) [AA (.loc n),AA (.int m),AA (.int t),u] st=.nx [AA (.loc n),AA (.int m),AA (.int t'),u] (st.set n (.lst [.lst (ns.map .int),.int a',.int p',.bl f']))
 |r,N,t,a,p,f,st,hN,ht,ha,h=>by
  let⟨B,hB,hb⟩:=zd2 (c:=yg T (k+2)) (m:=m) (t:=t) (u:=u) h;have hs:st.set n (.lst [.lst (ns.map .int),.int a,.int p,.bl f])=st:=by
   refine List.ext_getElem? λi=>?_;rw[D9];split
   .rename_i e;subst e;split
    .exact h.symm
    .rename_i z;rw[Ci ∅]at h
     cases h
   .rfl
  cases B with
  |false=>exact⟨t,a,p,f,ha,by rw[zbF hB rfl,hs]⟩
  |true=>
   have h64:=hb rfl
   match r,N with
   |0,_=>exact absurd ht ∅
   |r+1,N+1=>
    let⟨p1,f1,hx⟩:=zds k hns (m:=m) (t:=t) ha (u:=u) h;let⟨t',a',p',f',h0,h2⟩:=zbl k hns (m:=m) (u:=u) r N (t+1) (a+1) p1 f1 _ ∅ ∅ ∅ (rdS h);refine⟨t',a',p',f',h0,?_⟩;rw[zd8 hB rfl hx,h2,EL]
theorem take(k n:Nat)(ns:List Int)(hns:ns.length<=1000)(a p m:Int)(ha:0<=a)(hm:0<m)(hm2:m<10000000000000000000000000000000000000000000000000000000000000000000000)(f:Bool)(st:SO)(h:st[n]?=AA (.lst [.lst (ns.map .int),.int a,.int p,.bl f])):
  ∃d a' p' f',0<=d/\d<m/\0<=a'/\yg T (k+3) yd4 [.loc n,.int m] st=.ok (.int d) (st.set n (.lst [.lst (ns.map .int),.int a',.int p',.bl f'])):=by
 let⟨t',a',p',f',h0,h2⟩:=zbl k hns (m:=m) (u:=AF) 64 99999 0 a p f st ∅ ∅ ha h;refine⟨p'%m,a',p'/m,f',ES _ ∅,D1 _ hm,h0,?_⟩;have hb:yw.body=.cons (.asg (.n 2) (.cst (.int 0))) (.cons (.while yaJ ya2) (.cons (.asg (.n 3) (.bin .mod (.idx (.var 0) (.cst (.int 2))) (.var 1))) (.cons (.six (.var 0) (.cst (.int 2)) (.bin .fdiv (.idx (.var 0) (.cst (.int 2))) (.var 1))) (.cons (.ret (.var 3)) .nil)))):=rfl;have hT:T yd4=AA ⟨2,4,AH,yw.body⟩:=rfl;rw[yg,hT,hb];erw[Ag,Bn,if_true,A2,CA,De,Aj,Ct,CY,xs_cons,xs_nil,x_asg,zga,x_six,x_ret,yan,nxO,stO,IC.ve1,IC.ve2,IC.ve3,IC.ve16,R.fl,R.bind,yD,Ap,Aq,A6,A4,h2,rdS h,idxV,yav,at?,ixI,yu,binI,hm,hm2,and_self,toR,yaK];simp[rdS h,hm,hm2]
def Drw(ns:List Int)(n:Nat)(st:SO):Prop:=∃a p f,0<=a/\st[n]?=AA (.lst [.lst (ns.map .int),.int a,.int p,.bl f])
def Onl(ns:List Int)(n:Nat)(st st':SO):Prop:=∃a p f,0<=a/\st'=st.set n (.lst [.lst (ns.map .int),.int a,.int p,.bl f])
theorem Onl.drw{ns:List Int}{n:Nat}{st st':SO}(h:Drw ns n st)(o:Onl ns n st st'):Drw ns n st':=by
 let⟨a,p,f,ha,h⟩:=h;let⟨b,q,g,hb,rfl⟩:=o;exact⟨b,q,g,hb,rdS h⟩
theorem Onl.trans{ns:List Int}{n:Nat}{st st1 st2:SO}(o:Onl ns n st st1)(o2:Onl ns n st1 st2):Onl ns n st st2:=by
 let⟨b,q,g,hb,rfl⟩:=o;let⟨c,r,j,hc,rfl⟩:=o2;exact⟨c,r,j,hc,by rw[EL]⟩
def zfI(k:Nat){n:Nat}{ns:List Int}(hns:ns.length<=1000){m:Int}(hm:0<m)(hm2:m<10000000000000000000000000000000000000000000000000000000000000000000000){st:SO}(h:Drw ns n st):
  ∃d st',0<=d/\d<m/\Onl ns n st st'/\yg T (k+3) yd4 [.loc n,.int m] st=.ok (.int d) st':=by
 let⟨a,p,f,ha,h⟩:=h;let⟨d,a',p',f',h1,h2,h3,h4⟩:=take k n ns hns a p m ha hm hm2 f st h;exact⟨d,_,h1,h2,⟨_,_,_,h3,rfl⟩,h4⟩
theorem sizes(k:Nat){n:Nat}{ns:List Int}(hns:ns.length<=1000){m:Int}(hm:0<m)(hm2:m<=100){st:SO}(h:Drw ns n st):
  ∃w z st',4<=w/\w<=16/\1<=z/\z<=m/\Onl ns n st st'/\yg T (k+4) yeb [.loc n,.int m] st=.ok (.tup [.int w,.int z]) st':=by
 let⟨d,s1,d1,d2,o1,e1⟩:=zfI k hns (m:=13) ∅ ∅ h;let⟨e,s2,d3,d4,o2,e2⟩:=zfI k hns (m:=m) hm ∅ (o1.drw h);refine⟨4+d,1+e,s2,by lia,by lia,by lia,by lia,o1.trans o2,?_⟩;have hT:T yeb=AA ydc:=rfl;rw[yg,hT];erw[ydc,Ag,Bn,if_true,A2,CA,De,Aj,Ct,CY,xs_cons,xs_nil,x_ret,yan,IC.ve1,IC.ve2,IC.ve3,IC.ve11,IC.ve18,evs,R.fl,R.bind,A6,A4,e1,e2,yu,binI,toR];simp[sizeMax]
theorem fresh(k:Nat)(ns:List Int)(h:ns.length<=63)(st:SO):∃v,yg T (k+1) yf8 [.scr (ns.map .int)] st=.ok (.loc st.length) (st++[v])/\v=.lst [.lst (ns.map .int),.int 0,.int 0,.bl AH]:=by
 have hT:T yf8=AA yc1:=rfl;refine⟨_,?_,rfl⟩;rw[yg,hT];erw[yc1,Ag,Bn,if_true,A2,CA,De,Aj,Ct,CY,xs_cons,xs_nil,x_ret,yan,ev,evs,R.fl,R.bind,A6,toR];have hc:ycz (.scr (ns.map PV.int)) AF (.int 63)=AA (.lst (ns.map .int)):=by
  have hk:ya9 ns.length 63=ns.length:=by
   show min 63 ns.length=ns.length;lia
  simp[ycz,yby,ybK,cut,yb1,ycq,hk]
  try rw[<-BN (f:=PV.int),FX]
 simp[yby,onP,hc,sizeMax]
def yaF(p:Nat->Nat->Bool)(n:Nat):Prop:=((Dw 13).all λa=>p (4+a) n)=AC
def ybq(p:Nat->Nat->Bool):Prop:=yaF p 1/\yaF p 2/\yaF p 3/\yaF p 4
def zem{p:Nat->Nat->Bool}(h:ybq p){w n:Nat}(h1:4<=w)(h2:w<=16)(h3:1<=n)(h4:n<=4):p w n=true:=by
 have h:yaF p n:=by
  rcases (by lia:n=1 \/ n=2 \/ n=3 \/ n=4)with rfl|rfl|rfl|rfl
  .exact h.1
  .exact h.2.1
  .exact h.2.2.1
  .exact h.2.2.2
 have h:=BZ.1 h (w-4) (by simp;lia)
 rwa [show 4+(w-4)=w by lia]at h
def tvK(s:String):PV:=match yg T 24 yi [.tp AH [.str (Ar s)]] []with
 |.ok v _=>v
 |_=>.non
def ptK(s:String):List PV:=match tvK s with
 |.tp _ xs=>xs
 |_=>[]
def cK:PV:=.tp AH [.int 0,.int 1,.int 0]
def yex(q:PV):Option Bool:=match q with
 |.tp _ xs=>match xs[0]?,xs[1]? with
  |some a,AA b=>match yr .eq a (.str "rounds")with
   |some (.bl AH)=>AA AH
   |some (.bl AC)=>match yr .eq b cK with
    |some (.bl k)=>AA k
    |_=>AF
   |_=>AF
  |_,_=>AF
 |_=>AF
def yca:List PV->Option PV
 |[]=>AF
 |q::r=>match yex q with
  |some AH=>yca r
  |some AC=>match q with
   |.tp _ xs=>xs[2]?
   |_=>AF
  |none=>AF
def snK(s:String):PV:=(yca (ptK s)).getD .non
def tlB(s:String):Bool:=isOk (yg T 24 yi [.tp AH [.str (Ar s)]] []) (.tp AH (ptK s))&&isOk (yg T 24 yl [.tp AH (ptK s)] []) (.bl AC)&&(yca (ptK s)).isSome&&nLs (ptK s)&&nL (snK s)
def psB(s:String)(w n:Nat):Bool:=isOk (yg T 23 ygb [snK s,.str (Ar s),cK,.int w,.int n] []) (.bl AC)
def zg0:tlB "sum"=true:=by decide +kernel
def zgP:tlB "difference"=true:=by decide +kernel
def zhB:tlB "product"=true:=by decide +kernel
def zhR:ybq (psB "sum"):=⟨by unfold yaF;decide +kernel,by unfold yaF;decide +kernel,by unfold yaF;decide +kernel,by unfold yaF;decide +kernel⟩
def zil:ybq (psB "difference"):=⟨by unfold yaF;decide +kernel,by unfold yaF;decide +kernel,by unfold yaF;decide +kernel,by unfold yaF;decide +kernel⟩
def zgN:ybq (psB "product"):=⟨by unfold yaF;decide +kernel,by unfold yaF;decide +kernel,by unfold yaF;decide +kernel,by unfold yaF;decide +kernel⟩
local macro_rules | `(tactic| simp! [$xs,*])=>do
 let l<-("IC.xs_cons IC.xs_nil IC.x_asg IC.x_ite IC.x_ret IC.x_expr IC.x_for IC.x_six IC.evs IC.evi IC.ve1 IC.ve2 IC.ve3 IC.ve4 IC.ve5 IC.ve6 IC.ve7 IC.ve8 IC.ve9 IC.ve10 IC.ve11 IC.ve12 IC.ve13 IC.ve14 IC.ve15 IC.ve16 IC.ve17 IC.ve18 IC.ve19 IC.ve20 IC.ve21 IC.ve24 IC.v_comp List.getElem?_cons_zero List.getElem?_cons_succ WK.bd_ok WK.fl_ok WK.bd_exc WK.fl_exc WK.toR_some IC.toL WK.bT_n WK.nxO_some WK.th_nx WK.th_rt WK.th_exc List.set_cons_zero List.set_cons_succ WK.on_t WK.t_bl WK.ono IC.onBl cond_true cond_false List.length_cons List.length_nil Nat.zero_add Nat.reduceAdd Nat.reduceSub Nat.reduceLeDiff if_true IC.nL IC.nLs WK.noLocs_ints Bool.and_self Bool.not_true Bool.not_false List.map_cons List.map_nil List.replicate List.cons_append List.nil_append List.append_nil Option.bind_none Option.bind_some Option.join_some WK.b_add WK.b_sub WK.b_mul2 WK.b_div2 WK.c_lt WK.c_le WK.c_gt WK.c_ge WK.c_eq WK.c_ne IC.PV.tup IC.sizeMax".splitOn " ").toArray.mapM λs=>`(Lean.Parser.Tactic.simpLemma| $(Lean.mkIdent s.toName):term)
 `(tactic| simp only[$l,*,$xs,*])
def zgj{st:SO}{f:Fl}{v:PV}(h:yb8 [] f=.ok v []):yb8 st f=.ok v st:=by
 cases f with
 |rt u s=>
  erw[yb8]at h ⊢
  by_cases c:nL u=AC
  .rw[if_pos c]at h ⊢;cases h;rfl
  .rw[if_neg c]at h;cases h
 |nx ρ s=>erw[yb8]at h ⊢;cases h;rfl
 |_=>cases h
def zd9{k f:Nat}{fn:IC.Fn}{args:List PV}{v:PV}(hT:T f=AA fn)(hp:fn.pure=AC)(hl:args.length=fn.np)(hn:nLs args=AC)(h:yg T (k+1) f args []=.ok v [])(st:SO):yg T (k+1) f args st=.ok v st:=by
 rw[zaB hT hp hl hn]at h ⊢;exact zgj h
def szV(p:Nat×Nat):PV:=.tp AH [.int p.1,.int p.2]
def svB:Css:=match yZ.body with
 |.cons (.for _ _ b) _=>b
 |_=>.nil
def svE:Ce:=.call 40 (.cons (.idx (.var 4) (.cst (.int 2))) (.cons (.var 2) (.cons (.var 3) (.cons (.var 0) (.cons (.var 1) .nil)))))
def zdz:svB=.cons (.ite (.and (.cmp .eq (.idx (.var 4) (.cst (.int 0))) (.cst (.str "rounds"))) (.cmp .eq (.idx (.var 4) (.cst (.int 1))) (.var 2))) (.cons (.ite (.blt .all (.cons (.comp [AF,AF,AA 1,AA 2,AA 4] (.t [0,1]) (.seq (.var 3)) (.cst (.bl AC)) svE) .nil)) (.cons (.ret (.cst (.bl AC))) .nil) .nil) .nil) .nil) .nil:=rfl
def zbA{wd a0 sn:PV}{zs:List (Nat×Nat)}(hl:zs.length<=10)(hz:∀p∈zs,yg T 23 ygb [sn,wd,cK,.int p.1,.int p.2] []=.ok (.bl AC) []):
  ∀(ps:List PV) (u:Option PV),yca ps=AA sn->ybz (yg T 23) (.n 4) svB ps [AA a0,AA wd,AA cK,AA (.lst (zs.map szV)),u] []=.rt (.bl AC) []
 |[],u,h=>by cases h
 |q::r,u,h=>by
  have ih:=λu=>zbA hl hz r u (a0:=a0);rw[zy bT_n];erw[Ap,Aq];erw[yca]at h
  cases q with
  |tp k xs=>
   match xs with
   |[]=>cases h
   |[_]=>cases h
   |a::b::t=>
    have i0:idxV [] (.tp k (a::b::t)) (.int 0)=AA a:=ix0;have i1:idxV [] (.tp k (a::b::t)) (.int 1)=AA b:=ix1;erw[yex,A6,A4]at h;generalize e1:yr .eq a (.str "rounds")=o1 at h
    match o1 with
    |some (.bl AH)=>
     have go:exs (yg T 23) [AA a0,AA wd,AA cK,AA (.lst (zs.map szV)),AA (.tp k (a::b::t))] [] svB=.nx [AA a0,AA wd,AA cK,AA (.lst (zs.map szV)),AA (.tp k (a::b::t))] []:=by
      rw[zdz];simp! [i0,e1]
     rw[go];exact ih _ h
    |some (.bl AC)=>
     dsimp only at h;generalize e2:yr .eq b cK=o2 at h
     match o2 with
     |some (.bl AH)=>
      have go:exs (yg T 23) [AA a0,AA wd,AA cK,AA (.lst (zs.map szV)),AA (.tp k (a::b::t))] [] svB=.nx [AA a0,AA wd,AA cK,AA (.lst (zs.map szV)),AA (.tp k (a::b::t))] []:=by
       rw[zdz];simp! [i0,e1,i1,e2]
      rw[go];exact ih _ h
     |some (.bl AC)=>
      match t with
      |[]=>cases h
      |c::t=>
       have hc:c=sn:=by simpa using h
       subst hc;have i2:idxV [] (.tp k (a::b::c::t)) (.int 2)=AA c:=ix2;have one:∀x∈zs.map szV,ybF (yg T 23) [AF,AF,AA wd,AA cK,AA (.tp k (a::b::c::t))] (.t [0,1]) (.cst (.bl AC)) svE x []=.ok (AA (.bl AC)) []:=λx hx=>by
        let⟨p,hp,rfl⟩:=G6.1 hx;have e:=hz p hp;have bt:yD (.t [0,1]) (szV p) [AF,AF,AA wd,AA cK,AA (.tp k (a::b::c::t))]=AA [AA (.int p.1),AA (.int p.2),AA wd,AA cK,AA (.tp k (a::b::c::t))]:=rfl;erw[ybF,bt,svE];simp! [i2,e]
       have cm:=zba (f:=λ_=>.bl AC) (zs.map szV) one;have al:yaG .all [] [.lst ((zs.map szV).map λ_=>.bl AC)]=AA (.bl AC):=by
        rw[zfu (λ_=>AC)];simp
       have go:exs (yg T 23) [AA a0,AA wd,AA cK,AA (.lst (zs.map szV)),AA (.tp k (a::b::c::t))] [] svB=.rt (.bl AC) []:=by
        rw[zdz];simp! [i0,e1,i1,e2,IC.seqOf,cm,zdy ((zs.map szV).map λ_=>PV.bl AC) (by simp;lia),al]
       rw[go];rfl
     |some (.int _)=>cases h
     |none=>cases h
    |some (.int _)=>cases h
    |none=>cases h
  |_=>cases h
structure ydM(s:String):Prop where
 t:yg T 24 yi [.tp AH [.str (Ar s)]] []=.ok (.tp AH (ptK s)) []
 i:yg T 24 yl [.tp AH (ptK s)] []=.ok (.bl AC) []
 e:yca (ptK s)=AA (snK s)
 n:nLs (ptK s)=AC
def zdj{s:String}(h:tlB s=AC):ydM s:=by
 erw[tlB,AJ]at h;let⟨⟨⟨⟨h1,h2⟩,h3⟩,h4⟩,h5⟩:=h;refine⟨zbL h1,zbL h2,?_,h4⟩;let⟨v,e⟩:=A1.1 h3;rw[snK,e];rfl
def yef(zs:List (Nat×Nat)):Prop:=zs.length<=10/\∀p∈zs,4<=p.1/\p.1<=16/\1<=p.2/\p.2<=4
def zbq:∀zs:List (Nat×Nat),nLs (zs.map szV)=AC
 |[]=>rfl
 |p::zs=>by rw[A2,nLs,zbq zs];rfl
def zfs{s:String}(h:ydM s)(hp:ybq (psB s)){zs:List (Nat×Nat)}(hz:yef zs)(st:SO):
  yg T 24 yga [.tp AH (ptK s),.str (Ar s),cK,.lst (zs.map szV)] st=.ok (.bl AC) st:=by
 have hl:=zbA (wd:=.str (Ar s)) (a0:=.tp AH (ptK s)) (sn:=snK s) hz.1 (λp hq=>zbL (zem hp (hz.2 p hq).1 (hz.2 p hq).2.1 (hz.2 p hq).2.2.1 (hz.2 p hq).2.2.2)) (ptK s) AF h.e;rw[zaB (show T yga=AA yZ from rfl) rfl rfl (by simp[nLs,nL,h.n,zbq,cK])];have hb:yZ.body=.cons (.for (.n 4) (.seq (.var 0)) svB) (.cons .nope .nil):=rfl;rw[hb];simp! [yZ,hl,zfk]
def lwB:Css:=match ya4.body with
 |.cons _ (.cons _ (.cons (.for _ _ b) _))=>b
 |_=>.nil
def zie:lwB=.cons (.asg (.n 4) (.call 17 (.cons (.tup (.cons (.var 3) .nil)) .nil))) (.cons (.ite (.or (.not (.call 33 (.cons (.var 4) .nil))) (.not (.call 39 (.cons (.var 4) (.cons (.var 3) (.cons (.tup (.cons (.cst (.int 0)) (.cons (.cst (.int 1)) (.cons (.cst (.int 0)) .nil)))) (.cons (.var 2) .nil))))))) (.cons .nope .nil) .nil) .nil):=rfl
def zb1{s:String}(h:ydM s)(hp:ybq (psB s)){zs:List (Nat×Nat)}(hz:yef zs)(st:SO){a0 a1 u:Option PV}:
  exs (yg T 24) [a0,a1,AA (.lst (zs.map szV)),AA (.str (Ar s)),u] st lwB=.nx [a0,a1,AA (.lst (zs.map szV)),AA (.str (Ar s)),AA (.tp AH (ptK s))] st:=by
 have e1:=zd9 (show T yi=AA ydO from rfl) rfl rfl rfl h.t st;have e2:=zd9 (show T yl=AA yk from rfl) rfl rfl (by simp[nLs,nL,h.n]) h.i st;have e3:=zfs h hp hz st;erw[cK]at e3;rw[zie];simp! [e1,e2,e3]
def zib(h1:tlB "sum"=AC)(h2:tlB "difference"=AC)(h3:tlB "product"=AC)(p1:ybq (psB "sum"))(p2:ybq (psB "difference"))(p3:ybq (psB "product"))(ns:List Int)(h:ns.length<=63):
  yg T 25 yc0 [.scr (ns.map .int)] []=.ok (.bl AC) []:=by
 have hns:ns.length<=1000:=by lia
 rw[zaB (show T yc0=AA ya4 from rfl) rfl rfl (by simp[nLs,nL,noLocs_ints])];let⟨v,e0,hv⟩:=fresh 23 ns h [];have r0:Drw ns 0 [v]:=⟨0,0,AH,by lia,by rw[hv];rfl⟩;let⟨w1,n1,s1,a1,b1,c1,d1,o1,e1⟩:=sizes 20 hns (m:=4) ∅ ∅ r0;have r1:=o1.drw r0;let⟨w2,n2,s2,a2,b2,c2,d2,o2,e2⟩:=sizes 20 hns (m:=4) ∅ ∅ r1;have r2:=o2.drw r1;let⟨w3,n3,s3,a3,b3,c3,d3,o3,e3⟩:=sizes 20 hns (m:=4) ∅ ∅ r2;have r3:=o3.drw r2;let⟨w4,n4,s4,a4,b4,c4,d4,o4,e4⟩:=sizes 20 hns (m:=4) ∅ ∅ r3;let⟨w1,rfl⟩:=zB (show 0<=w1 by lia);let⟨w2,rfl⟩:=zB (show 0<=w2 by lia);let⟨w3,rfl⟩:=zB (show 0<=w3 by lia);let⟨w4,rfl⟩:=zB (show 0<=w4 by lia);let⟨n1,rfl⟩:=zB (show 0<=n1 by lia);let⟨n2,rfl⟩:=zB (show 0<=n2 by lia);let⟨n3,rfl⟩:=zB (show 0<=n3 by lia);let⟨n4,rfl⟩:=zB (show 0<=n4 by lia);have hz:yef [(w1,n1),(w2,n2),(w3,n3),(w4,n4)]:=⟨by simp,λp hp=>by
  erw[Ac,Cr,or_false]at hp;rcases hp with rfl|rfl|rfl|rfl<;>(dsimp only;lia)⟩
 have one:∀{x:PV} {s s':SO} {y:PV},yg T 24 yeb [.loc 0,.int 4] s=.ok y s'->ybF (yg T 24) [AF,AA (.loc 0)] (.n 0) (.cst (.bl AC)) (.call 24 (.cons (.var 1) (.cons (.cst (.int 4)) .nil))) x s=.ok (AA y) s':=λ{x s s' y} e=>by
  erw[ybF,bT_n];simp! [e]
 have cm:yV (yg T 24) [AF,AA (.loc 0)] (.n 0) (.cst (.bl AC)) (.call 24 (.cons (.var 1) (.cons (.cst (.int 4)) .nil))) (yK 4 0 1) [v]=.ok ([(w1,n1),(w2,n2),(w3,n3),(w4,n4)].map szV) s4:=by
  show yV _ _ _ _ _ [_,_,_,_] _=_;rw[zp,one e1];erw[R.bind];rw[zp,one e2];erw[R.bind];rw[zp,one e3];erw[R.bind];rw[zp,one e4];rfl
 have hr:ydx (.int 4)=AA (yK 4 0 1):=rfl;have hb:ya4.body=.cons (.asg (.n 1) (.call 20 (.cons (.var 0) .nil))) (.cons (.asg (.n 2) (.comp [AF,AA 1] (.n 0) (.range1 (.cst (.int 4))) (.cst (.bl AC)) (.call 24 (.cons (.var 1) (.cons (.cst (.int 4)) .nil))))) (.cons (.for (.n 3) (.seq (.tup (.cons (.cst (.str "sum")) (.cons (.cst (.str "difference")) (.cons (.cst (.str "product")) .nil))))) lwB) (.cons (.ret (.cst (.bl AC))) .nil))):=rfl;have lp:∀u3 u4,∃x3 x4,ybz (yg T 24) (.n 3) lwB [.str "sum",.str "difference",.str "product"] [AA (.scr (ns.map .int)),AA (.loc 0),AA (.lst ([(w1,n1),(w2,n2),(w3,n3),(w4,n4)].map szV)),u3,u4] s4=.nx [AA (.scr (ns.map .int)),AA (.loc 0),AA (.lst ([(w1,n1),(w2,n2),(w3,n3),(w4,n4)].map szV)),x3,x4] s4:=λu3 u4=>by
  refine⟨AA (.str "product"),AA (.tp AH (ptK "product")),?_⟩;rw[zy bT_n];erw[Ap,Aq];rw[zb1 (zdj h1) p1 hz];erw[yaa];rw[zy bT_n];erw[Ap,Aq];rw[zb1 (zdj h2) p2 hz];erw[yaa];rw[zy bT_n];erw[Ap,Aq];rw[zb1 (zdj h3) p3 hz];rfl
 let⟨x3,x4,el⟩:=lp AF AF;generalize hzs:[(w1,n1),(w2,n2),(w3,n3),(w4,n4)].map szV=zv at cm el;have hzl:zv.length<=1000000:=by rw[<-hzs];simp
 rw[hb];simp! [ya4,e0,hr,cm,zdy zv hzl,el,zfk]
def zeU(ns:List Int)(h:ns.length<=63):yg T 25 yc0 [.scr (ns.map .int)] []=.ok (.bl AC) []:=zib zg0 zgP zhB zhR zil zgN ns h
end WK
namespace WK
open PySem L2 IC
theorem walk{l:Du}{q:AT}{loose:List AR}{XP:(AR->Option AD)->Ah->Prop}{YP:A3->Ah->Prop}{d:DefRec}{K:Params->AE}(hn:l.most=AA 63)(hdf:d.params.defaults=[])
  (hY:∀(w:A3) (h:Ah),YP w h->(K w.params).In h)
  (F:∀(w:A3) (mg:AR->Option AD) (fa:AI) (h:Ah),(K w.params).In h->h.Ns mainGlobals mg->mg d.name=AA (.ref fa) ->
   ∃fd:Af,(∀(s:AG) (u:AD),EA s fd ⟨[u],[]⟩ [("_law_script",u)])/\∀base:Ah,(K w.params).In base->base.Ns mainGlobals mg->yau l.prog w (K w.params) mg base (CX1 l.prog w) (2*25) fa fd ["_law_script"] (spX (K w.params) (yg T 25) yc0)):
  Fb q loose XP YP l.row.toRowW d [] (λf vs=>Fi f vs):=
 L2.walk_of (n:=63) (k:=2*25) (x:="_law_script") (CX:=λw=>CX1 l.prog w) (sp:=λw=>spX (K w.params) (yg T 25) yc0) hn ⋯ hdf ⟨rfl,by decide,by decide⟩ hY F (λw H a ns hl _ hS=>zcR zeU hl hS) λ_ _ _ _ _ z=>zhz z
end WK
end
open PySem PySem.W PyProof.Rows
theorem PySem.Challenge.cw_widewords_k61_whole_sentences_of_sums_an_holds : PySem.Challenge.rw_widewords_k61_whole_sentences_of_sums_an.Holds := by
 refine hh.hd (by rfl) (by rfl) (by rfl) ?_
 k_fill
 refine WK.walk (l:=PySem.Challenge.rw_widewords_k61_whole_sentences_of_sums_an) rfl rfl (λw h Y=>Y) ?F
 case F =>
  intro w mg fa h KX G hmg
  refine' L2.all_mk2 (t:=WK.tbQ) KX G hmg ?R ?B ?D WK.kb_all ?Ml WK.ok_all WK.T_ok (L:=41) rfl 25
  case R =>
   repeat' (first|exact trivial|apply And.intro|(refine' L2.rowFn ?a9 ?l9 ?c9 ?p9 ?b9;(case a9|l9|c9|p9=>k_is);(case b9=>((repeat intro _);first|rfl|kernel_rfl)))|(refine' L2.rowMe ?z9 ?a9 ?i9 ?l9 ?c9 ?p9 ?b9;(case z9=>(skip;k_is));(case a9|i9|l9|c9|p9=>k_is);(case b9=>((repeat intro _);first|rfl|kernel_rfl)))|(refine' L2.rowIni ?z9 ?a9 ?i9 ?l9 ?c9 ?p9 ?b9 ?m9 ?k9;(case z9=>(skip;k_is));(case a9|i9|l9|c9|p9=>k_is);(case b9=>((repeat intro _);first|rfl|kernel_rfl));(case m9|k9=>k_is))|(refine' L2.rowFd ?a9 ?l9 ?c9 ?p9 ?d9 ?e9 ?v9;(case a9|l9|c9|p9|d9=>k_is);(case e9=>rfl);(case v9=>(repeat first|exact .nil|refine .cons ⟨_,rfl⟩ ?_))))
  case B=>kernel_rfl
  case D =>
   repeat' (first|exact trivial|apply And.intro|intro _|(refine' L2.gd_mk KX G ?a9 ?l9 ?s9 ?r9 ?n9;(case a9|l9=>k_is);(case s9=>rfl);(case r9=>(repeat first|exact .nil|refine L2.con_row (by kernel_rfl) ?_));(case n9=>decide +kernel)))
  case Ml =>
   repeat' (first|exact trivial|apply And.intro|(refine' L2.gdf_mk KX G ?a9 ?l9 ?r9 ?n9;(case a9|l9=>k_is);(case r9=>(repeat first|exact .nil|refine L2.frow_cons (by kernel_rfl) ?_));(case n9=>decide +kernel)))
