import PyProof.Rows.All
import OpenK.KLine
import Open.Tops
import Wide.FinOn
import KE.KRevSl
import KE.KItem
import KE.KxWritten
import KE.KFromBytes
import KE.LcSums
import KE.KBits
import KE.KTryMore
import KE.KDictOf
import PyProof.AttrMissHeap
import KE.KEqDict
import KE.KSortTup
import PySem.Challenge.RW_widewords_k62_whole_sentence_of_quotient
set_option Elab.async false
set_option linter.all false
set_option maxRecDepth 100000
set_option maxHeartbeats 0
local macro_rules
 | `(#print $s:str)=>do
  let n:=fun (x:Lean.Name)=>Lean.mkIdent (.mkSimple s!"tw{x.hash}")
  let mut a:=#[n `PySem.Challenge.pw_widewords_k62_whole_sentence_of_quotient]
  for e in s.getString.splitOn "|" do
   let f:=e.splitOn " "
   let mut p:=0
   for r in f.tail! do
    let g:=(r.splitOn ".").map String.toNat!
    p:=p+g[0]!
    for j in [0:g.getD 1 0+1] do a:=a.push (n (.mkStr2 "sh" (f[0]!++toString (p+j))))
    p:=p+g.getD 1 0
  `(structure $(Lean.mkIdent `PySem.W.Fast):declId:Prop where ($a*:True))
set_option genSizeOf false
set_option genInjectivity false
#print "o_ 3 2 4 3.1 2.2 4 2 3 3.1 2.1 22 2.2 5.2 2 4.2 3 2.2 4 2.2 4 2.2 4 2.2 3 2.2 5.2 5.2 5.2 3 2.2 3 2.2 3 2.2 2 10 2.2 3 2.2 5.2 5.2 11.2 3 2.2 3 2.2 8.2 2 6.2 3 2.2 5.2 3 2.2 3 2.2 5.2 3 2.2 5.2 5.2 5.2 5.2 3 2.2 2 6.2 5.2 5.2 17.2 3 2.2 5.2 5.2 5.2 5.2 5.2 2 4 2.2 3 2.2 5.2 3 2.2 5.2 3 2.2 3 2.2 3 2.2 5.2 3 2.2 3 2.2 3 2.2 2 4 2.7 5.2 5.2 5.2 5.2 5.2 3 2.2 3 2.2 3 2.2 3 2.2 2 4 2.2 3.2 3 2.2 3 2.2 3.2 3 2.2 3.2 3.2 3.2 3 2.2 3 2.2 3.2 3 2.2 2 4 2.2 3.2 3 2.2 3.2|sts_ 4 17 47 88 74 87 85 87 78 82|tree_ 19 47 88 74 87 85 87 78 82 27"
set_option genSizeOf true
set_option genInjectivity true
open_shared sh for PySem.Challenge.pw_widewords_k62_whole_sentence_of_quotient leaving 0
namespace hh
open PySem PySem.W PySem.Calls PyProof.Rows
noncomputable abbrev p:=PySem.Challenge.pw_widewords_k62_whole_sentence_of_quotient
abbrev z:Pos:=⟨0,0,0,0⟩
abbrev an:Option Value:=some (.ref 6)
noncomputable abbrev bE:=behindTheImports p
noncomputable abbrev cE:Code:=.body bE sh.env_1
noncomputable abbrev H1(P:Params):Heap:=absHeap (sh.tree_674 P) 655 {}
noncomputable abbrev S0(w:World)(os:OsState):Shared:=⟨boot_heap w.params,⟨[]⟩,boot_drawn,boot_toks,os⟩
noncomputable abbrev Sb(w:World)(os:OsState):Shared:=SharedT.abs ⟨sh.tree_4 w.params,15,{},⟨[]⟩,{},187,os⟩
noncomputable abbrev Sk(w:World)(os:OsState):Shared:=SharedT.abs ⟨sh.tree_674 w.params,655,{},⟨[]⟩,{},1080,os⟩
theorem pre(w os):topGo treeTable p w 11 an 12 (S0 w os) (topStub p)=some (Sb w os,⟨denote treeTable cE,cE,z,[topFrame z]⟩):=by kernel_rfl
theorem blk(w os):segRun treeTable p w 11 an 1 1 (Sb w os) (blockOf bE sh.env_1 cE z [topFrame z])=some (.next,Sb w os,cE,z):=by kernel_rfl
theorem fin(w os):topRun treeTable p w 11 an 2 (Sk w os) (restOf [] sh.env_1 cE ⟨376,0,380,102⟩ [topFrame z])=some (Sk w os):=by kernel_rfl
theorem bod:bE=sh.sts_4++(sh.sts_21++(sh.sts_68++(sh.sts_156++(sh.sts_230++(sh.sts_317++(sh.sts_402++(sh.sts_489++(sh.sts_567++(sh.sts_649++[]))))))))):=by kernel_rfl
theorem run(w os):topRun treeTable p w 11 an (12+(1+(196+(400+(391+(392+(382+(401+(373+(397+(366+(123+2)))))))))))) (S0 w os) (topStub p)=some (Sk w os):=by
 refine go_top (pre w os) (piece_block (blk w os) ?_)
 have h:=sh.chain p bE w os [] 2 (Sk w os) (fin w os)
 rw[<-bod] at h
 exact h
noncomputable def q:Program:=view p [119]
noncomputable abbrev lo:List Str:=p.boundNames
theorem look(w:World):(fun os=>((staticsOk (importedModules p.main.body) (boot_heap w.params) (H1 w.params) && namesBound p (H1 w.params) && gensDone (Sk w os) && laidKept (boot_heap w.params) (H1 w.params)),openSeen q lo (importedModules p.main.body) (fun _=>true) true (Sk w os),(Sk w os).heap))=fun _=>(true,openGood q lo,H1 w.params):=by kernel_rfl
theorem left:LeftO p q lo (fun _=>true) Shared.heap (fun w=>H1 w.params) 6948:=.of_pieces (boot_open (by kernel_rfl) (by kernel_rfl) fun s=>by kernel_rfl) (fun w=>by kernel_rfl) run (by kernel_rfl) look
theorem inA{t:BT}{n:Nat}{f:Life}{K:Frag}(h1:K.all (fun x=>Nat.blt x.1 n)=true)(h2:K.map (fun x=>t.get x.1)=K.map fun x=>some x.2)(h3:K.map (fun x=>alive x.2)=K.map fun x=>some x.2):K.In (absHeap t n f):=by
 intro a o e
 induction K with
 | nil=>cases e
 | cons x r ih=>
  obtain ⟨b,y⟩:=x
  simp only[List.map_cons,List.cons.injEq,List.all_cons,Bool.and_eq_true] at h1 h2 h3
  by_cases hb:(a==b)=true
  · rw[List.lookup_cons,hb] at e
    cases e
    have:=beq_iff_eq.mp hb
    subst this
    rw[abs_get (Nat.le_of_ble_eq_true h1.1) h2.1]
    exact h3.1
  · rw[List.lookup_cons,eq_false_of_ne_true hb] at e
    exact ih h1.2 h2.2 h3.2 e
local macro_rules
 | `(panic! $s:str)=>do
  let mut v:=#[]
  let mut p:=0
  let mut q:=0
  for r in s.getString.splitOn " " do
   if let g::l::m:=(r.splitOn ",").map String.toNat! then
    let i:=m.headD (q+g)
    p:=p+g
    for j in [0:l] do v:=v.push (p+j,if i==0 then .str `PySem.W s!"boot_o_{p+j}" else .str `sh s!"o_{i+j}")
    p:=p+l
    q:=i+l
  let mut a ← `(List.nil)
  for (x,o) in v.reverse do a ← `(List.cons (nat_lit $(Lean.Syntax.mkNumLit (toString x)),$(Lean.mkIdent o) P) $a)
  `(fun P=>$a)
noncomputable def KK:Params->Frag:=panic! "2,1,0 0,1,649 11,1,7 6,2 0,1,23 0,1,17 2,1,24 6,3 2,18 1,2 1,3 1,2 1,2 0,1,70 2,3 1,2 1,4 1,2 1,4 1,2 1,4 1,2 1,3 1,2 1,3 1,2 1,3 1,2 1,3 1,2 1,3 1,2 1,3 1,2 1,3 1,2 1,2 0,7,158 1,2 1,3 1,2 1,3 1,2 1,3 1,2 1,9 1,2 1,3 1,2 1,3 1,2 1,6 1,2 1,2 0,1,232 1,2 1,3 1,2 1,3 1,2 1,3 1,2 1,3 1,2 1,3 1,2 1,3 1,2 1,3 1,2 1,3 1,2 1,3 1,2 1,3 1,2 1,3 1,2 1,2 0,1,319 1,2 1,3 1,2 1,3 1,2 1,15 1,2 1,3 1,2 1,3 1,2 1,3 1,2 1,3 1,2 1,3 1,2 1,3 1,2 1,2 0,1,404 1,2 1,3 1,2 1,3 1,2 1,3 1,2 1,3 1,2 1,3 1,2 1,3 1,2 1,3 1,2 1,3 1,2 1,3 1,2 1,3 1,2 1,3 1,2 1,2 0,1,491 1,2 1,8 1,2 1,3 1,2 1,3 1,2 1,3 1,2 1,3 1,2 1,3 1,2 1,3 1,2 1,3 1,2 1,3 1,2 1,2 0,1,569 1,2 1,3 2,3 1,2 1,3 1,2 1,3 2,3 1,2 1,3 2,3 2,3 2,3 1,2 1,3 1,2 1,3 2,3 1,2 1,2 0,1,651 1,2 1,3 2,3 1,2 1,3 2,2"
theorem inK(w:World):InK KK w (H1 w.params):=inA (K:=KK w.params) (by kernel_rfl) (by kernel_rfl) (by kernel_rfl)
theorem hd{d:DefRec}{k:List (Str×Expr)}(a:defOf q "law"=some (d,k))(b:p.theDef "law"=some (d.params,d.body,d.scope))(c:kwWritten? d.params.kwonlyargs d.params.kw_defaults=some k)(h:WalkO q lo (fun _ _=>True) (InK KK) PySem.Challenge.rw_widewords_k62_whole_sentence_of_quotient.row.toRowW d k fun f vs=>PySem.call f vs):PySem.Challenge.rw_widewords_k62_whole_sentence_of_quotient.Holds:=by
 w_on;o_law
 refine holds_open left (YP:=InK KK) (XP:=fun _ _=>True) (fun w s e=>e ▸ inK w) InK.keeps (fun _ _=>trivial) (fun _ _ _ _ _=>trivial) a b c (fun s _=>recFacts_nil rfl) (by rfl) (by assumption) (by decide +kernel) ⟨rfl,rfl,rfl,rfl,rfl,by decide +kernel⟩ ?hw h
 w_witness2
end hh
local macro_rules|`(⋯)=>`((by decide))
local macro_rules|`(∅)=>`((by lia))
set_option compiler.extract_closed false
set_option bootstrap.genMatcherCode false
set_option genSizeOf false
open Option renaming some->AA,none->AE,isSome_iff_exists->A4,getD_some->BU,bind_some->Bg,any_eq_true_iff_get->CP,map_some->C2,map_eq_some_iff->EJ,get_some->ES,getD_none->F1
open PySem renaming wpAny_bind->AB,Value->AD,Shared->AH,Addr->AI,wpAny_pure->AK,Expr->AM,wpAny->AQ,Str->AS,Program->AV,World->A5,Around->A7,FuncData->Aj,Heap->Ak,wpAny_newObj_type->Aw,sizeLine_eq->Ax,Env->BF,Scope->BH,wpAny_holding->BJ,wpAny_call_entry->BM,wpAny_truthy_bool->BO,wpAny_callSpecial?_slot->BR,DictEntry->BW,wpAny_mono->B0,wpAny_typeNameOfWhole_keyiter->B7,Obj->B8,wpAny_dictEntries->Ba,Stmt->Bd,Pos->Bf,wpAny_Call_Name_kw->Bk,wpAny_passesOwn->Br,wpAny_typeNameOf_keyiter->CA,mem_of_lookup->CC,wpAny_field->CD,Keyword->CG,wpAny_dictEpoch->C3,wpAny_pyIter_tuple->C5,NameKind->Ca,wpAny_setField->Cg,wpAny_notOrdered_dict->Cp,wpAny_eqBool_int->Ct,wpAny_standAt->Cz,wpAny_typeOf->DL,wpAny_seqItems->DQ,wpAny_newFunctionEnv_cells->DY,wpAny_pyIter_list->Db,wpAny_comprehension_free->De,wpAny_isInstance->Dl,HeapKind->Dm,Operator->Dn,PassesOwn->Do,noFill_tuple_add->Ds,wpAny_rule->Dz,wpAny_pyNext_list_item->EB,BindsTo->EC,IsPart->ED,codeAny_mono->EH,Builtin->EI,wpAny_execs_nil->EQ,wpAny_pyNext_list_end->EU,codeAny_call_function->EV,wpAny_isOneOf_keyiter->EY,wpAny_loadName_local->E3,wpAny_loadName_cell->Ed,CmpOp->Ei,seq_tuple_add->Ej,wpAny_newList->Eo,strKind_is->Ez,wpAny_assign_Name->FE,concat_meets->FJ,wpAny_sequenceKey->FK,slot_list_getitem->FL,wpAny_pyIter_enum->FO,wpAny_pyIter_slot->FR,wpAny_eqBool_str->FV,Paired->FW,Result->FZ,seqIndex_of->F7,wpAny_specialOf->F9,codeAny_builtin->Fd,size_of_entries->Fg,wpAny_Name->Fp,typeIs_str->Ft,call->Fu,Fin->G3,BoolOp->Ga,Tok->Go,Sem->Gp
open Bool renaming true->AC,false->AG,and_eq_true->AJ,false_ne_true->AT,false_eq_true->Ay,not_eq_true'->B9,eq_iff_iff->CJ,or_eq_true->DF,false_and->DV,true_and->Dg,not_true->Eh,and_self->Em,or_false->GR,false_or->GV,true_or->G7
open PySem.W renaming Frag->AF,keepIn->Ae,findIn->Ah,nsIn->Ar,kitOne->Av,fnOf->BL,codeIn->Bj,kia_one->CL,hideAll->CZ,isFn->C9,cellsFrom_some->Cb,methodObj->Da,mg_of->Di,OpenLaw->Dx,makesIn->ER,hideAll_get->Ec,excIn->En,of_hideAll->Ew,codeRec_of->Ex,hasDictIn->FG,plainOver->FH,plainGet->FX,WalkO->Fi,exmOne->Fz,subIn->GS,mroIn->GT,clsIn->GU,Rel2->G8
open PySem.Heap renaming get?_push_of_some->AL,lt_size->AN,get?_push_size->A1,get?_push_ne->Bv,SameBut->CF,size_update->CS,get?_update_other->Cd,get?_update_self->Ck,get?_update_ne->Ef,size_push->Fv,MadeExcOf->Fw,FlyingW->G6,ExtBut->Gh
open PySem.Str renaming ofString->AO,empty->FY
open Nat renaming le_refl->AR,lt_of_lt_of_le->AY,ne_of_lt->A3,zero_le->BI,le_trans->BK,lt_irrefl->By,lt_succ_of_lt->Cj,le_succ->DA,le_succ_of_le->Dc,reduceSub->Dj,ne_of_gt->EA,lt_or_ge->EM,le_of_lt->FD,le_of_eq->G5,sub_zero->Gb
open List renaming mem_cons_of_mem->AU,size_toArray->AW,map_cons->AX,mem_of_getElem?->AZ,getElem?_append_left->A2,getElem?_cons_succ->A6,mem_cons->A8,getElem?_cons_zero->A9,mem_cons_self->Aa,getElem?_eq_some_iff->Ab,mem_append_right->Ad,getElem?_append_right->Af,length_cons->Ag,getElem?_set_ne->Al,replicate->Am,all_cons->Ao,length_map->Ap,getElem?_set_self->Aq,length_append->As,set_cons_zero->Au,set_cons_succ->BA,length_set->BB,getElem?_eq_getElem->BE,getElem?_map->BG,map_nil->BQ,lookup_cons->BS,nil_append->BX,all_eq_true->B3,length->B6,find?_cons->Bb,any_cons->Be,not_mem_nil->Bi,getElem?_eq_none->Bn,drop_eq_getElem_cons->Bq,append_nil->Bs,length_nil->Bt,filterMap_cons->CB,foldl_cons->CK,cons_append->CT,mem_append->C0,nodup_cons->C1,filter_cons_of_neg->C7,filter_cons_of_pos->C8,filterMap->Ch,getElem?_set->Ci,length_singleton->Cm,any_eq_true->Cu,append_cons->Cw,of_mem_zip->DD,set_set->DO,mem_filterMap->DW,zip_cons_cons->D1,pairwise_cons->D5,pairwise_iff_getElem->D7,length_take->Dq,getElem?_replicate->Dr,length_drop->Dt,drop_length->Dv,mem_map->EN,forIn_cons->EO,length_filter_le->EZ,contains_iff_mem->E1,mem_append_left->E2,pairwise_append->E9,length_pos_iff->Eg,range->Eu,filter_append->FA,isEmpty_cons->FP,reverse_cons->FQ,ext_getElem?->FT,isEmpty_nil->F2,take_length->F3,range'_succ->F5,getElem_mem->F6,lookup->F8,mem_filter->Fa,mem_range->Fm,drop_zero->Fx,range'->Gj
open Option.some renaming inj->A0
open PySem.Value renaming ref->Ac,none->BN,bool->Dy,type->Fk,isStrOf->GJ,int->GY,str->GZ,isInt->Gf
open PySem.PyData renaming eqv->Ai,depthAll->BP,depth->BV,eqvAll->B4,canLay0->B5,canLayAll0->Bu,keyHash->D2
open PyProof.Rows renaming slot_tuple_getitem->An,callWith_type1->CN,AllBare->Cy,assignInOrder_cons->DU,listUpdate_at->Dh,subscriptTail_builtinR->EF,seqEpoch_at->E6,tupleItemsOf_->Eb,entry_tuple_getitem->Ee,args_tuple_getitem->Ey,assignInOrder_nil->FF,callWith_builtin1->F0,boot_isinstance->Fc,list_sort_plain->Fe,get?_update_seq->Ff,IntsAre->Fh,Subscript_->Fq,size_push'->Fy
open PySem.Obj renaming mapSeq->Az,data_mapFields->C4,isFreed_of_fields->EX,mapFields->El,cls_mapFields->FM
open PySem.Value.type renaming inj->BC
open PySem.F renaming slot_dict_keyiterator_next->BD,slot_tuple_iterator_next->Bl,args_tuple_add_2->CW,slot_list_getattribute->CY,entry_tuple_add->C6,slot_tuple_add->Cc,slot_dict_get->Cn,args_dict_keyiterator_next_1->Cv,entry_dict_keyiterator_next->DB,args_tuple_iterator_next_1->DE,slot_dict_keyiterator_iter->DH,entry_tuple_iterator_next->DM,args_dict_get_3->Du,entry_dict_get->EK,slot_list_append->EW,slot_dict_ne->E8,slot_dict_iter->F4
open Ne renaming symm->BY
open PySem.Challenge renaming rw_widewords_k62_whole_sentence_of_quotient->BZ,pw_widewords_k62_whole_sentence_of_quotient->Cr
open False renaming elim->B1
open True renaming intro->Bc
open PySem.Heap.FunFrames renaming mem->Bm
open PySem.Builtin.Slice renaming slicePlaces->Bo,sliceAdjust->CU,sliceApplied->DZ,slicePartIndex->Fb,sliceFields->GH
open PySem.Builtin.SmallTypes renaming nextOf->Bp
open PySem.Paired renaming length->Bw,snoc->Gi
open PySem.Builtin.Tuple renaming tupleExact->Bz,tupleItemsOf->CO,tupleHashOf->D6
open PySem.NameKind renaming free->CM,cell->Ek
open PySem.Around renaming in1_units->CQ,under_plainId->E5
open PySem.Heap.SameBut renaming update->CV,refl->Gr
open Int renaming toNat_natCast->Cf,emod_lt_of_pos->D4,emod_nonneg->ET,zero_add->FU,add_comm->Gc,mul_one->Gg
open Array renaming getElem?_toList->Co,length_toList->DI,append_assoc->DR,getElem?_eq_some_iff->D0,getElem?_eq_getElem->D8,forIn_toList->Et,toList->FB
open PySem.Builtin.Dict renaming showsAll->Cq,dictSlotArgs->D9,updateFrom->Dw,samePairs->EL,dictSlotNone->GI,addKeywords->GW,selfAndRest->GX,pairItems->Gd
open ForInStep renaming yield->DC
open PySem.Builtin.Dict_items renaming ownsTuple->DG
open Sum renaming inr->DJ,inl->Ea
open PySem.Builtin.Str renaming strSliceIndices->DN,occurrences->Dp
open PUnit renaming unit->DP
open PySem.Calls renaming Name_function_global->DS,spliced_cons->DX,callWith_builtin->EG,evalArgs_plain->E4,spliced_nil->FI
open PySem.ScopeKind renaming function->D3
open Std.Legacy.Range renaming forIn_eq_forIn_range'->E7,size->Ge
open PySem.SeqAt.EqAt renaming int_str->Ep,str_int->Es
open PySem.WalksT renaming enumerateD->FN
open Eq renaming refl->Fj
open PySem.EqNone renaming ne_none_none->GA,ne_none_bool->GB,ne_bool_none->GE,ne_none_int->GL,ne_none_str->GM,ne_int_none->GN,ne_str_none->GP
open PySem.EqMixed renaming ne_bool_str->GF,ne_str_bool->GG,ne_int_str->GO,ne_str_int->GQ
open PySem.Flow renaming next->G0
open PySem.Builtin.Range renaming rangeSize->G1
open PySem.Heap.UpToSlots renaming of_keeps->G2
open And renaming intro->G4
open PySem.SeqAt renaming shaped->G9,EqAt->Gm
open PySem.Heap.IsSliceOf renaming new->Gk
open PySem.W.WShape renaming has->Gn
open List.Pairwise renaming nil->Gq
open PySem.W.WData renaming int->Gu
open PySem.Heap.DictOfH renaming new->Gv
noncomputable section
open Lean in
def cnvP:Nat->Syntax->MacroM (TSyntax `rcasesPat)
 |0,_=>Macro.throwUnsupported
 |n+1,s=>do
  if s.isOfKind ``Lean.Parser.Term.anonymousCtor then `(rcasesPat| ⟨$[$(← s[1].getSepArgs.mapM (cnvP n)):rcasesPat],*⟩)
  else if s.isIdent then `(rcasesPat| $(⟨s⟩):ident)
  else if s.isOfKind ``Lean.Parser.Term.hole then `(rcasesPat| _)
  else Macro.throwUnsupported
local macro_rules | `(tactic| let $p:term := $e)=>do `(tactic| obtain $(← cnvP 9 p):rcasesPat := $e)
local macro_rules | `(tactic| erw [$rs,*] $(l)?)=>do
 let t<-rs.getElems.mapM λ|`(Lean.Parser.Tactic.rwRule| $t:term)=>`(Lean.Parser.Tactic.simpLemma| $t:term)|_=>Lean.Macro.throwUnsupported
 `(tactic| simp only[$t,*] $(l)?)
local macro_rules | `(fun $bs* => $b)=>do
 if !(bs.any λx=>x.raw.isOfKind ``Lean.Parser.Term.anonymousCtor)||(b.raw.find? λx=>x.isOfKind ``Lean.Parser.Term.syntheticHole).isSome then Lean.Macro.throwUnsupported
 `(by rintro $[$(← bs.mapM λx=>cnvP 9 x.raw):rcasesPat]*;exact $b)
set_option backward.eqns.nonrecursive false
local macro_rules (kind:=Lean.Parser.Command.declaration)
 |s=>do
  let k:=s[1].getKind
  unless (k==``Lean.Parser.Command.definition||k==``Lean.Parser.Command.abbrev)&&s[0].getArgs.all (·.isNone) do Lean.Macro.throwUnsupported
  if k==``Lean.Parser.Command.definition&&(toString s[1][1][0].getId).startsWith "z" then
   let m←`(theorem x:True:=trivial)
   return s.setArg 1 (((m.raw[1].setArg 1 s[1][1]).setArg 2 (Lean.mkNode ``Lean.Parser.Command.declSig #[s[1][2][0],s[1][2][1][0]])).setArg 3 s[1][3])
  let m←`(noncomputable def x:=0)
  return s.setArg 0 m.raw[0]
namespace L2
open PySem PySem.Spec PyProof.Rows
abbrev Key:=Sum Int AS
def yaU:Key->AD->Bool
 |.inl k,v=>Gf k v
 |.inr x,v=>GJ x v
def yev(w:A5):Key->Int
 |.inl k=>hashInt k
 |.inr x=>hashStr w x
def zd:∀{k:Key} {v:AD},yaU k v=AC->(∃i t,k=Ea i/\v=GY i t) \/ (∃x t,k=DJ x/\v=GZ x t)
 |.inl i,v,h=>by
  let⟨t,e⟩:=Value.isInt_shape (k:=i) (v:=v) h;exact .inl ⟨i,t,rfl,e⟩
 |.inr x,v,h=>by
  let⟨t,e⟩:=Value.isStrOf_shape (x:=x) (v:=v) h;exact .inr ⟨x,t,rfl,e⟩
def zc8(i:Int)(t:Go):yaU (.inl i) (.int i t)=true:=by simp[yaU,Gf]
def zdG(x:AS)(t:Go):yaU (.inr x) (.str x t)=true:=by simp[yaU,GJ]
def zhh(a b:Int):decide ((Ea a:Key)=Ea b)=(a==b):=by
 by_cases e:a=b
 .subst e;simp
 .have h:¬(Ea a:Key)=Ea b:=λq=>e (Sum.inl.inj q);rw[decide_eq_false h];exact(beq_eq_false_iff_ne.mpr e).symm
def zhY(a b:AS):decide ((DJ a:Key)=DJ b)=decide (a=b):=by
 by_cases e:a=b
 .subst e;simp
 .have h:¬(DJ a:Key)=DJ b:=λq=>e (Sum.inr.inj q);rw[decide_eq_false h,decide_eq_false e]
def zg6(a:Int)(b:AS):decide ((Ea a:Key)=DJ b)=false:=decide_eq_false (λq=>nomatch q)
def zh2(a:AS)(b:Int):decide ((DJ a:Key)=Ea b)=false:=decide_eq_false (λq=>nomatch q)
def yE(prog:AV)(w:A5):PySem.KeyKind prog w Key where
 is:=yaU
 hash:=yev w
 inj:=λv a b ha hb=>by
  rcases zd ha with⟨i,t,rfl,rfl⟩|⟨x,t,rfl,rfl⟩
  .rcases zd hb with⟨j,u,rfl,e⟩|⟨y,u,rfl,e⟩
   .injection e with e1 _;rw[e1]
   .exact nomatch e
  .rcases zd hb with⟨j,u,rfl,e⟩|⟨y,u,rfl,e⟩
   .exact nomatch e
   .injection e with e1 _;rw[e1]
 byValue:=λk v h=>by
  rcases zd h with⟨i,t,rfl,rfl⟩|⟨x,t,rfl,rfl⟩<;>rfl
 pyHash:=λhv h=>by
  rcases zd hv with⟨i,t,rfl,rfl⟩|⟨x,t,rfl,rfl⟩
  .exact wpAny_pyHash_int h
  .exact wpAny_pyHash_str h
 eqBool:=λhu hv h=>by
  rcases zd hu with⟨i,t,rfl,rfl⟩|⟨x,t,rfl,rfl⟩
  .rcases zd hv with⟨j,u,rfl,rfl⟩|⟨y,u,rfl,rfl⟩
   .rw[zhh]at h;exact Ct h
   .rw[zg6]at h;exact Ep i t y u _ _ _ _ h
  .rcases zd hv with⟨j,u,rfl,rfl⟩|⟨y,u,rfl,rfl⟩
   .rw[zh2]at h;exact Es x t j u _ _ _ _ h
   .rw[zhY]at h;exact FV h
 «strs»:=λk x t v h=>by
  rcases zd h with⟨i,u,rfl,e⟩|⟨y,u,rfl,e⟩
  .exact nomatch e
  .injection e with e1 _;subst e1
   cases v<;>rfl
def zbO(prog:AV)(w:A5)(i:Int)(t:Go):(yE prog w).is (.inl i) (.int i t)=true:=zc8 i t
def zbI(prog:AV)(w:A5)(x:AS)(t:Go):(yE prog w).is (.inr x) (.str x t)=true:=zdG x t
end L2
namespace L2
open PySem
inductive NK where
 |a (k:Key)
 |t (l:List NK)
noncomputable instance:DecidableEq NK:=λ_ _=>Classical.propDecidable _
mutual
def NI(h:Ak):NK->AD->Prop
 |.a k,v=>yaU k v=AC
 |.t l,v=>∃(b:AI) (its:List AD),v=.ref b/\h.get? b=AA {cls:=.type "tuple",data:=.seq its.toArray}/\NIs h l its
def NIs(h:Ak):List NK->List AD->Prop
 |[],vs=>vs=[]
 |k::l,vs=>∃v r,vs=v::r/\NI h k v/\NIs h l r
end
mutual
def nkH(w:A5):NK->Int
 |.a k=>yev w k
 |.t l=>reduceHash (D6 (ycH w l))
def ycH(w:A5):List NK->List Int
 |[]=>[]
 |k::l=>nkH w k::ycH w l
end
mutual
def nkN:NK->Nat
 |.a _=>1
 |.t l=>ycZ l+1
def ycZ:List NK->Nat
 |[]=>0
 |k::l=>nkN k+ycZ l
end
mutual
def nkD:NK->PyData
 |.a (.inl i)=>.int i
 |.a (.inr x)=>.str x
 |.t l=>.tuple (yaA l)
def yaA:List NK->List PyData
 |[]=>[]
 |k::l=>nkD k::yaA l
end
section
variable {prog:AV}{w:A5}{E:AD->AH->Prop}
mutual
theorem zdq:∀(k:NK) (v:AD) (A:A7) (s:AH) (Q:Int->AH->Prop),NI s.heap k v->A.units+(nkD k).depth<cLine->Q (nkH w k) {s with toks:=s.toks+nkN k}->AQ (model prog w) A (pyHash v) Q E s
 |.a k,v,A,s,Q,hi,_,h=>(yE prog w).pyHash (k:=k) hi h
 |.t l,v,A,s,Q,hi,hu,h=>by
  let⟨b,its,rfl,g,hs⟩:=hi;erw[nkD,BV]at hu;refine PySem.W.pyHash_slot (T:="tuple") ⟨_,g,rfl⟩ F.slot_tuple_hash F.entry_tuple_hash (F.args_tuple_hash_1 _) (beq_builtin_none _) (.inr ∅) ?_;show AQ _ _ (CO (.ref b) >>= _) _ _ s;refine AB (wpAny_tupleItemsOf g rfl ?_);refine AB ?_;rw[<-Et];refine zcL l its A.in1 s #[] _ hs (by erw[CQ];lia) λb' hb=>?_;show AQ _ _ (retInt (D6 b'.toList)) _ _ _;rw[hb];exact AB (wpAny_mkInt (AK ⟨_,_,rfl,h⟩))
theorem zcL:∀(l:List NK) (vs:List AD) (A:A7) (s:AH) (b:Array Int) (Q:Array Int->AH->Prop),NIs s.heap l vs->A.units+BP (yaA l)<cLine ->
  (∀b',b'.toList=b.toList++ycH w l->Q b' {s with toks:=s.toks+ycZ l}) ->
  AQ (model prog w) A (forIn vs b λx r=>do let h <-pyHash x;pure DP;pure (DC (r.push h))) Q E s
 |[],vs,A,s,b,Q,hi,_,h=>by
  cases (show vs=[]from hi)
  exact AK (h b (by simp[ycH]))
 |k::l,vs,A,s,b,Q,hi,hu,h=>by
  let⟨v,r,rfl,h1,h2⟩:=hi;erw[yaA,BP]at hu;rw[EO];refine AB (AB (zdq k v A s _ h1 ∅ ?_));refine AB (AK (AK ?_));refine zcL l r A _ _ Q h2 ∅ λb' hb=>?_;have:=h b' (by simp[hb,ycH]);simpa [ycZ,Nat.add_assoc] using this
end
mutual
theorem za0{h:Ak}:∀(k:NK) (v:AD),NI h k v->∃as,Reads h v (nkD k) as
 |.a (.inl i),v,hi=>by
  rcases zd hi with⟨j,t,e,rfl⟩|⟨x,t,e,rfl⟩
  .cases e;exact⟨_,.int _ _⟩
  .cases e
 |.a (.inr x),v,hi=>by
  rcases zd hi with⟨j,t,e,rfl⟩|⟨y,t,e,rfl⟩
  .cases e
  .cases e;exact⟨_,.str _ _⟩
 |.t l,v,hi=>by
  let⟨b,its,rfl,g,hs⟩:=hi;let⟨as,r⟩:=zbf l its hs;exact⟨as,.tuple g rfl rfl (by simpa using r)⟩
theorem zbf{h:Ak}:∀(l:List NK) (vs:List AD),NIs h l vs->∃as,ReadsAll h vs (yaA l) as
 |[],vs,hi=>by cases (show vs=[]from hi);exact⟨_,.nil⟩
 |k::l,vs,hi=>by
  let⟨v,r,rfl,h1,h2⟩:=hi;let⟨a1,r1⟩:=za0 k v h1;let⟨a2,r2⟩:=zbf l r h2;exact⟨_,.cons r1 r2⟩
end
mutual
theorem ze7:∀a b:NK,Ai (nkD a) (nkD b)=decide (a=b)
 |.a (.inl i),.a (.inl j)=>by erw[nkD,Ai];by_cases e:i=j<;>simp[e]
 |.a (.inl i),.a (.inr j)=>by simp[nkD,Ai]
 |.a (.inr i),.a (.inl j)=>by simp[nkD,Ai]
 |.a (.inr i),.a (.inr j)=>by erw[nkD,Ai];by_cases e:i=j<;>simp[e]
 |.a (.inl i),.t l=>by simp[nkD,Ai]
 |.a (.inr i),.t l=>by simp[nkD,Ai]
 |.t l,.a (.inl i)=>by simp[nkD,Ai]
 |.t l,.a (.inr i)=>by simp[nkD,Ai]
 |.t l,.t m=>by erw[nkD,Ai,zcS l m];by_cases e:l=m<;>simp[e]
theorem zcS:∀a b:List NK,B4 (yaA a) (yaA b)=decide (a=b)
 |[],[]=>by simp[yaA,B4]
 |[],_::_=>by simp[yaA,B4]
 |_::_,[]=>by simp[yaA,B4]
 |a::l,b::m=>by
  erw[yaA,B4,ze7 a b,zcS l m]
  by_cases e:a=b<;>by_cases f:l=m<;>simp[e,f]
end
mutual
theorem zcn:∀(k:NK) (v:AD) (n:Nat) (A:A7) (s:AH) (Q:Bool->AH->Prop),NI s.heap k v->(nkD k).depth<=n->Q AC s->AQ (model prog w) A (eqIsQuiet n v) Q E s
 |.a k,v,n,A,s,Q,hi,_,h=>by
  rw[eqIsQuiet_byValue n ((yE prog w).byValue k v hi)];exact AK h
 |.t l,v,n,A,s,Q,hi,hd,h=>by
  let⟨b,its,rfl,g,hs⟩:=hi;erw[nkD,BV]at hd;obtain⟨m,rfl⟩:∃m,n=m+1:=⟨n-1,by lia⟩;unfold eqIsQuiet;refine AB (F9 (T:="tuple") ⟨_,g,rfl⟩ F.slot_tuple_eq.lookup ?_);show AQ _ _ (isInstance (.ref b) (.type "tuple") >>= _) _ _ s;refine AB (Dl (T:="tuple") ⟨_,g,rfl⟩ isSubtype_tuple_tuple ?_);erw[Eh,Ay,if_false];refine AB (DQ g rfl ?_);refine AB ?_;show AQ _ _ (forIn its.toArray _ _) _ _ s;rw[<-Et];refine zbl l its m A s _ hs ∅ ?_;exact AK h
theorem zbl:∀(l:List NK) (vs:List AD) (n:Nat) (A:A7) (s:AH) (Q:Option Bool×PUnit->AH->Prop),NIs s.heap l vs->BP (yaA l)<=n->Q (AE,DP) s ->
  AQ (model prog w) A (forIn vs (AE,DP) λy r=>do
   let b <-eqIsQuiet n y
   if (!b)=AC then pure (ForInStep.done (AA AG,DP))else do
    pure DP
    pure (DC (AE,DP))) Q E s
 |[],vs,n,A,s,Q,hi,_,h=>by
  cases (show vs=[]from hi)
  exact AK h
 |k::l,vs,n,A,s,Q,hi,hd,h=>by
  let⟨v,r,rfl,h1,h2⟩:=hi;erw[yaA,BP]at hd;rw[EO];refine AB (AB (zcn k v n A s _ h1 ∅ ?_));erw[Eh,Ay,if_false];refine AB (AK (AK ?_));exact zbl l r n A s Q h2 ∅ h
end
mutual
theorem ze1{h:Ak}:∀(a b:NK) (v:AD),NI h a v->NI h b v->a=b
 |.a k,.a j,v,x,y=>by
  rcases zd x with⟨_,_,rfl,rfl⟩|⟨_,_,rfl,rfl⟩<;>rcases zd y with⟨_,_,rfl,e⟩|⟨_,_,rfl,e⟩<;>cases e<;>rfl
 |.a k,.t l,v,x,y=>by
  let⟨b,its,rfl,_⟩:=y;rcases zd x with⟨_,_,_,e⟩|⟨_,_,_,e⟩<;>cases e
 |.t l,.a k,v,x,y=>by
  let⟨b,its,rfl,_⟩:=x;rcases zd y with⟨_,_,_,e⟩|⟨_,_,_,e⟩<;>cases e
 |.t l,.t m,v,x,y=>by
  let⟨b,its,rfl,g,hs⟩:=x;let⟨b',its',e,g',hs'⟩:=y
  cases e
  rw[g]at g';injection g' with g';injection g' with _ _ g' _;injection g' with g' _;have e2:its=its':=by simpa using congrArg FB g'
  subst e2;rw[zc2 l m its hs hs']
theorem zc2{h:Ak}:∀(a b:List NK) (vs:List AD),NIs h a vs->NIs h b vs->a=b
 |[],[],_,_,_=>rfl
 |[],_::_,vs,x,y=>by
  cases (show vs=[]from x)
  let⟨_,_,e,_⟩:=y;cases e
 |_::_,[],vs,x,y=>by
  cases (show vs=[]from y)
  let⟨_,_,e,_⟩:=x;cases e
 |a::l,b::m,vs,x,y=>by
  let⟨v,r,rfl,h1,h2⟩:=x;let⟨_,_,e,h3,h4⟩:=y
  cases e
  rw[ze1 a b v h1 h3,zc2 l m r h2 h4]
end
end
mutual
theorem NI.stay{h h':Ak}(k:∀b its,h.get? b=AA {cls:=.type "tuple",data:=.seq its}->h'.get? b=AA {cls:=.type "tuple",data:=.seq its}):∀(a:NK) (v:AD),NI h a v->NI h' a v
 |.a _,_,x=>x
 |.t l,v,x=>by
  let⟨b,its,e,g,hs⟩:=x;exact⟨b,its,e,k _ _ g,NIs.stay k l its hs⟩
theorem NIs.stay{h h':Ak}(k:∀b its,h.get? b=AA {cls:=.type "tuple",data:=.seq its}->h'.get? b=AA {cls:=.type "tuple",data:=.seq its}):∀(a:List NK) (vs:List AD),NIs h a vs->NIs h' a vs
 |[],_,x=>x
 |a::l,vs,x=>by
  let⟨v,r,e,h1,h2⟩:=x;exact⟨v,r,e,NI.stay k a v h1,NIs.stay k l r h2⟩
end
def yc0(l:List NK):Prop:=Bu (yaA l)=AC/\BP (yaA l)<=6
def yQ(P:AV)(w:A5):Dm P w (List NK) where
 is:=λh l a=>NI h (.t l) (.ref a)/\yc0 l
 hash:=λl=>nkH w (.t l)
 draws:=λl=>nkN (.t l)
 room:=λA=>A.units+8<cLine
 inj:=λx y=>by have e:=ze1 _ _ _ x.1 y.1;injection e
 keeps:=λx ho hd hs=>⟨NI.stay (λb its g=>(hs.2 b (λe=>by subst e;rw[ho]at g;cases g;cases hd)).trans g) _ _ x.1,x.2⟩
 pyHash:=λhu x h=>zdq _ _ _ _ _ x.1 (by have:=x.2.2;erw[nkD,BV];lia) h
 eqBool:=λ{A E s x y a b Q} hu hx hy h=>by
  let⟨as,ra⟩:=za0 _ _ hx.1;let⟨bs,rb⟩:=za0 _ _ hy.1;refine SeqAt.eqBoolOverData P w A E s _ _ _ _ as bs Q ra rb (by erw[nkD,B5];exact hx.2.1) (by erw[nkD,B5];exact hy.2.1) (by have:=hx.2.2;erw[nkD,BV];lia) ?_;rw[ze7];have:decide (NK.t x=NK.t y)=decide (x=y):=by by_cases e:x=y<;>simp[e]
  rw[this];exact h
 quiet:=λx h=>zcn _ _ _ _ _ _ x.1 (by have:=x.2.2;erw[nkD,BV];lia) h
end L2
namespace L2
open PySem PySem.Spec PyProof.Rows
inductive V where
 |non|bl (b:Bool)|int (i:Int)|str (x:AS)|byt (b:Array UInt8)|flt (b:UInt64)|ref (a:AI)|ty (n:String)
 deriving DecidableEq
def RelV:V->AD->Prop
 |.non,u=>u=BN
 |.bl b,u=>u=Dy b
 |.int i,u=>∃t,u=GY i t
 |.str x,u=>∃t,u=GZ x t
 |.byt b,u=>∃t,u=Value.bytes b t
 |.flt b,u=>∃t,u=Value.float b t
 |.ref a,u=>u=Ac a
 |.ty n,u=>u=Fk n
abbrev Vals:List V->List AD->Prop:=FW RelV
theorem Vals.length{xs:List V}{us:List AD}(r:Vals xs us):xs.length=us.length:=Bw r
theorem Vals.get:∀{xs:List V} {us:List AD} {i:Nat} {x:V},Vals xs us->xs[i]?=AA x->∃u,us[i]?=AA u/\RelV x u
 |_,_,_,_,.nil,e=>by simp at e
 |_,_,0,_,.cons r _,e=>by simp at e;subst e;exact⟨_,rfl,r⟩
 |_,_,i+1,x,.cons _ t,e=>by
  let⟨u,h1,h2⟩:=Vals.get (i:=i) (x:=x) t (by simpa using e);exact⟨u,by simpa using h1,h2⟩
theorem Vals.set{x:V}{u:AD}(r:RelV x u):∀{xs:List V} {us:List AD} (i:Nat),Vals xs us->Vals (xs.set i x) (us.set i u)
 |_,_,_,.nil=>.nil
 |_,_,0,.cons _ t=>.cons r t
 |_,_,i+1,.cons q t=>.cons q (Vals.set r i t)
theorem Vals.append:∀{xs ys:List V} {us ws:List AD},Vals xs us->Vals ys ws->Vals (xs++ys) (us++ws)
 |_,_,_,_,.nil,s=>s
 |_,_,_,_,.cons r t,s=>.cons r (Vals.append t s)
theorem Vals.take:∀{xs:List V} {us:List AD} (n:Nat),Vals xs us->Vals (xs.take n) (us.take n)
 |_,_,0,_=>.nil
 |_,_,_+1,.nil=>.nil
 |_,_,n+1,.cons r t=>.cons r (Vals.take n t)
theorem Vals.drop:∀{xs:List V} {us:List AD} (n:Nat),Vals xs us->Vals (xs.drop n) (us.drop n)
 |_,_,0,r=>r
 |_,_,_+1,.nil=>.nil
 |_,_,n+1,.cons _ t=>Vals.drop n t
def ya7:Option V->Option AD->Prop
 |some v,AA u=>RelV v u
 |none,AE=>True
 |_,_=>False
def KV{κ:Type}:List (κ×V)->List (κ×AD)->Prop:=FW λ(p:κ×V) (q:κ×AD)=>p.1=q.1/\RelV p.2 q.2
def kV:Key->V
 |.inl i=>.int i
 |.inr x=>.str x
inductive HO where
 |lst (xs:List V)
 |tup (xs:List V)
 |dK (kvs:List (Key×V))|dT (kvs:List (List NK×V))
 |set (S:Int->Bool) (n:Nat)
 |ins (C dx:AI) (fs:List (AS×V))
 |own (x:AI)
 |xd (fs:List (AS×V))
 |met (f x:AI)
 |rng (lo hi:Int)
 |frz (o:B8) (u:HO)
 |tbl (ps:Array AD)
 |ext (φ:Ak->Prop)
abbrev Hp:=AI->Option HO
def upd(H:Hp)(a:AI)(o:HO):Hp:=λb=>if b=a then AA o else H b
def zc{H:Hp}{a:AI}{o:HO}:upd H a o a=AA o:=by unfold upd;rw[if_pos rfl]
def za{H:Hp}{a b:AI}{o:HO}(h:b≠a):upd H a o b=H b:=by unfold upd;rw[if_neg h]
def zf0{H:Hp}{a:AI}{o u:HO}:upd (upd H a o) a u=upd H a u:=by
 funext b;unfold upd;split<;>rfl
def ziv{H:Hp}{a b:AI}{o u:HO}(h:H a=AA o)(h':H b=AA u)(d:o≠u):a≠b:=by
 intro e;subst e;rw[h]at h';exact d (A0 h')
def zb{H:Hp}{a b:AI}{o:HO}(h:H a=AA o)(h':H b=AE):a≠b:=by
 intro e;subst e;rw[h]at h';cases h'
mutual
def NKr(H:Hp):NK->V->Prop
 |.a k,v=>v=kV k
 |.t l,v=>∃(b:AI) (xs:List V),v=.ref b/\H b=AA (.tup xs)/\NKs H l xs
def NKs(H:Hp):List NK->List V->Prop
 |[],xs=>xs=[]
 |k::l,xs=>∃y ys,xs=y::ys/\NKr H k y/\NKs H l ys
end
def KyR(H:Hp)(l:List NK)(b:AI):Prop:=NKr H (.t l) (.ref b)/\yc0 l
mutual
theorem NKr.stay{H H':Hp}(k:∀b xs,H b=AA (.tup xs)->H' b=AA (.tup xs)):∀(a:NK) (v:V),NKr H a v->NKr H' a v
 |.a _,_,x=>x
 |.t l,v,x=>by
  let⟨b,xs,e,g,hs⟩:=x;exact⟨b,xs,e,k _ _ g,NKs.stay k l xs hs⟩
theorem NKs.stay{H H':Hp}(k:∀b xs,H b=AA (.tup xs)->H' b=AA (.tup xs)):∀(a:List NK) (xs:List V),NKs H a xs->NKs H' a xs
 |[],_,x=>x
 |a::l,xs,x=>by
  let⟨y,ys,e,h1,h2⟩:=x;exact⟨y,ys,e,NKr.stay k a y h1,NKs.stay k l ys h2⟩
end
theorem KyR.stay{H H':Hp}{l:List NK}{b:AI}(x:KyR H l b)(k:∀b xs,H b=AA (.tup xs)->H' b=AA (.tup xs)):KyR H' l b:=⟨NKr.stay k _ _ x.1,x.2⟩
section
variable (P:AV)(w:A5)
def yp(H:Hp)(h:Ak)(a:AI):HO->Prop
 |.lst xs=>xs.length<=sizeLine/\∃(its:List AD) (n:Nat),Vals xs its/\h.get? a=AA {cls:=.type "list",data:=.seq its.toArray n}
 |.tup xs=>xs.length<=sizeLine/\∃its:List AD,Vals xs its/\h.get? a=AA {cls:=.type "tuple",data:=.seq its.toArray}
 |.dK kvs=>kvs.length<=sizeLine/\(a==sysModules)=AG/\∃vs,KV kvs vs/\h.DictOf (yE P w) a vs
 |.dT kvs=>kvs.length<=sizeLine/\(a==sysModules)=AG/\∃xs:List (List NK×AI×AD),
   FW (λ(p:List NK×V) (q:List NK×AI×AD)=>p.1=q.1/\KyR H p.1 q.2.1/\RelV p.2 q.2.2) kvs xs /\
   ∃o es ep,h.get? a=AA o/\o.ExactDict/\o.data=.dict es ep/\es.toList=xs.map (entryOfKey (yQ P w))/\(xs.map (·.1)).Nodup
 |.set S n=>h.SetOf (intKind P w) a S n
 |.ins C dx fs=>H dx=AA (.own a)/\fs.length<=1000/\dx≠a/\h.get? a=AA (PySem.W.instObj C dx) /\
   ∃mA,h.Ns1 dx mA/\(∀f,ya7 (fs.lookup f) (mA f))/\PySem.Within mA (fs.map (·.1))
 |.own _=>∃o,h.get? a=AA o
 |.xd fs=>∃mA,h.Ns1 a mA/\∀f,ya7 (fs.lookup f) (mA f)
 |.rng lo hi=>∃t u v,h.get? a=AA {cls:=.type "range",data:=.fields #[.int lo t,.int hi u,.int 1 v]}
 |.frz o u=>h.get? a=AA o/\yp H h a u
 |.tbl ps=>h.get? a=AA {cls:=.none,data:=.fields ps}
 |.met f x=>h.get? a=AA (Da (.ref f) (.ref x))
 |.ext φ=>φ h/\(∃o,h.get? a=AA o)/\∀h1 h2:Ak,φ h1->(∀o,h1.get? a=AA o->h2.get? a=AA o)->φ h2
def HOk(H:Hp)(h:Ak):Prop:=∀a o,H a=AA o->yp P w H h a o
end
section
variable {P:AV}{w:A5}{H H':Hp}{h h':Ak}{a:AI}{o:HO}
theorem yp.lt(x:yp P w H h a o):a<h.objs.size:=by
 cases o with
 |lst xs=>let⟨_,_,_,_,e⟩:=x;exact AN e
 |tup xs=>let⟨_,_,_,p⟩:=x;exact AN p
 |dK kvs=>let⟨_,_,_,_,o,_,_,e,_⟩:=x;exact AN e
 |dT kvs=>let⟨_,_,_,_,o,_,_,e,_⟩:=x;exact AN e
 |set S n=>let⟨o,_,_,_,e,_⟩:=x;exact AN e
 |ins C dx fs=>let⟨_,_,_,e,_⟩:=x;exact AN e
 |own y=>let⟨_,e⟩:=x;exact AN e
 |xd fs=>let⟨_,⟨_,_,_,e,_⟩,_⟩:=x;exact AN e
 |rng lo hi=>let⟨_,_,_,e⟩:=x;exact AN e
 |frz ob u=>let⟨e,_⟩:=x;exact AN e
 |tbl ps=>exact AN (show h.get? a=AA _ from x)
 |met f y=>exact AN (show h.get? a=AA _ from x)
 |ext φ=>let⟨_,⟨_,e⟩,_⟩:=x;exact AN e
theorem Paired.mapP{α β:Type}{F G:α->β->Prop}:∀{l₁:List α} {l₂:List β},FW F l₁ l₂->(∀a b,F a b->G a b)->FW G l₁ l₂
 |_,_,.nil,_=>.nil
 |_,_,.cons r t,f=>.cons (f _ _ r) (Paired.mapP t f)
theorem yp.stay(x:yp P w H h a o)(k:∀b u,(b=a \/ H b=AA (.own a))->h.get? b=AA u->h'.get? b=AA u)
  (ho:∀b,H b=AA (.own a)->H' b=AA (.own a)) (ht:∀b xs,H b=AA (.tup xs)->H' b=AA (.tup xs)):yp P w H' h' a o:=by
 induction o with
 |lst xs=>let⟨z,its,n,r,e⟩:=x;exact⟨z,its,n,r,k _ _ (.inl rfl) e⟩
 |tup xs=>let⟨z,its,r,e⟩:=x;exact⟨z,its,r,k _ _ (.inl rfl) e⟩
 |dK kvs=>let⟨z,y,vs,r,ob,es,ep,e,c⟩:=x;exact⟨z,y,vs,r,ob,es,ep,k _ _ (.inl rfl) e,c⟩
 |dT kvs=>
  let⟨z,y,xs,r,ob,es,ep,e,c⟩:=x;exact⟨z,y,xs,Paired.mapP r λp q z=>⟨z.1,z.2.1.stay ht,z.2.2⟩,ob,es,ep,k _ _ (.inl rfl) e,c⟩
 |set S n=>let⟨ob,es,ep,t,e,c⟩:=x;exact⟨ob,es,ep,t,k _ _ (.inl rfl) e,c⟩
 |ins C dx fs=>
  let⟨d,z,ne,e,mA,⟨od,es,ep,e2,c⟩,r⟩:=x;exact⟨ho _ d,z,ne,k _ _ (.inl rfl) e,mA,⟨od,es,ep,k _ _ (.inr d) e2,c⟩,r⟩
 |own y=>let⟨ob,e⟩:=x;exact⟨ob,k _ _ (.inl rfl) e⟩
 |xd fs=>let⟨mA,⟨od,es,ep,e,c⟩,r⟩:=x;exact⟨mA,⟨od,es,ep,k _ _ (.inl rfl) e,c⟩,r⟩
 |rng lo hi=>let⟨t,u,v,e⟩:=x;exact⟨t,u,v,k _ _ (.inl rfl) e⟩
 |frz ob u ih=>let⟨e,q⟩:=x;exact⟨k _ _ (.inl rfl) e,ih q⟩
 |tbl ps=>
  have e:h.get? a=AA {cls:=.none,data:=.fields ps}:=x;show h'.get? a=AA {cls:=.none,data:=.fields ps};exact k a _ (.inl rfl) e
 |met f y=>
  have e:h.get? a=AA (Da (.ref f) (.ref y)):=x;show h'.get? a=AA (Da (.ref f) (.ref y));exact k a _ (.inl rfl) e
 |ext φ=>let⟨p,⟨o,e⟩,st⟩:=x;exact⟨st _ _ p λo q=>k _ _ (.inl rfl) q,⟨o,k _ _ (.inl rfl) e⟩,st⟩
theorem HOk.lt(x:HOk P w H h)(e:H a=AA o):a<h.objs.size:=(x a o e).lt
theorem HOk.fresh(x:HOk P w H h)(e:h.objs.size<=a):H a=none:=by
 cases q:H a with
 |none=>rfl
 |some u=>exact absurd (AY (x.lt q) e) (By _)
theorem HOk.kept(x:HOk P w H h)(k:∀b u,h.get? b=AA u->h'.get? b=AA u):HOk P w H h':=λa o e=>
 (x a o e).stay (λb u _ q=>k b u q) (λ_ q=>q) λ_ _ q=>q
theorem HOk.laid(x:HOk P w H h)(k:∀b u,h.get? b=AA u->h'.get? b=AA u)(hp:h.objs.size<=a)(new:yp P w (upd H a o) h' a o):HOk P w (upd H a o) h':=λb u e=>by
 have hn:=x.fresh hp
 by_cases hb:b=a
 .subst hb;rw[zc]at e;cases e;exact new
 .rw[za hb]at e;exact(x b u e).stay (λc v _ q=>k c v q) (λc q=>by rw[za (zb q hn)];exact q) λc xs q=>by rw[za (zb q hn)];exact q
end
def Rd(H:Hp)(a:AI)(u:HO):Prop:=H a=AA u \/ ∃o,H a=AA (.frz o u)
theorem Rd.of{H:Hp}{a:AI}{u:HO}(h:H a=AA u):Rd H a u:=.inl h
theorem Rd.ok{P:AV}{w:A5}{H:Hp}{h:Ak}{a:AI}{u:HO}(r:Rd H a u)(x:HOk P w H h):yp P w H h a u:=by
 rcases r with r|⟨o,r⟩
 .exact x a u r
 .let⟨_,q⟩:=x a _ r;exact q
def Mut:Option HO->Prop
 |some (.lst _)=>True
 |some (.dK _)=>True
 |some (.dT _)=>True
 |some (.set _ _)=>True
 |some (.ins _ _ _)=>True
 |some (.ext _)=>True
 |_=>False
section
variable {P:AV}{w:A5}{H:Hp}{h h':Ak}{x e:AI}{o':HO}
theorem HOk.write(ok:HOk P w H h)(mu:Mut (H x))(he:e=x \/ H e=AA (.own x))(k:∀b u,b≠e->h.get? b=AA u->h'.get? b=AA u)(heo:∃u,h'.get? e=AA u)
  (new:yp P w (upd H x o') h' x o'):HOk P w (upd H x o') h':=λb u q=>by
 have nown:∀c y,H c=AA (.own y)->c≠x:=λc y r z=>by subst z;rw[r]at mu;exact mu
 have ntup:∀c xs,H c=AA (.tup xs)->c≠x:=λc xs r z=>by subst z;rw[r]at mu;exact mu
 by_cases hb:b=x
 .subst hb;rw[zc]at q;cases q;exact new
 .rw[za hb]at q
  by_cases hbe:b=e
  .have q':H b=AA (.own x):=by
    rcases he with z|z
    .exact absurd (hbe.trans z) hb
    .rw[hbe];exact z
   rw[q]at q';cases q';let⟨v,hv⟩:=heo;exact⟨v,by rw[hbe];exact hv⟩
  .refine(ok b u q).stay (λc v hc r=>k c v ?_ r) (λc r=>by rw[za (nown c b r)];exact r) λc xs r=>by rw[za (ntup c xs r)];exact r
   rcases hc with rfl|hc
   .exact hbe
   .rintro rfl
    rcases he with z|z
    .exact nown c b hc z
    .rw[hc]at z;cases z;exact hb rfl
end
structure Un(fs ex:List AI)(H H':Hp)(h h':Ak):Prop where
 keep:∀b o,h.get? b=AA o->H b=AE->b∉fs->b∉ex->h'.get? b=AA o
 slot:∀b o,h.get? b=AA o->H b=AE->b∈fs->b∉ex->∃sl,h'.get? b=AA {o with slots:=sl}
 free:∀b o,h.get? b=AA o->H b=AE->b∉ex->H' b=AE
 there:∀b o,h.get? b=AA o->b∉ex->∃o',h'.get? b=AA o'
 tups:∀b xs,H b=AA (.tup xs)->H' b=AA (.tup xs)
 frzs:∀b o u,H b=AA (.frz o u)->H' b=AA (.frz o u)
 tbls:∀b ps,H b=AA (.tbl ps)->∃more,H' b=AA (.tbl (ps++more))
section
variable {fs fs' ex ex':List AI}{H H1 H2:Hp}{h h1 h2 h':Ak}{a x e:AI}{o:HO}
theorem Un.any(u:Un fs ex H H1 h h1){b:AI}{ob:B8}(q:h.get? b=AA ob)(n:H b=AE)(hx:b∉ex):∃sl,h1.get? b=AA {ob with slots:=sl}:=by
 by_cases hb:b∈fs
 .exact u.slot b ob q n hb hx
 .exact⟨ob.slots,u.keep b ob q n hb hx⟩
theorem Un.kept(k:∀b u,h.get? b=AA u->h'.get? b=AA u):Un fs ex H H h h':=
 ⟨λb ob q _ _ _=>k b ob q,λb ob q _ _ _=>⟨ob.slots,k b ob q⟩,λ_ _ _ n _=>n,λb ob q _=>⟨ob,k b ob q⟩,λ_ _ q=>q,λ_ _ _ q=>q,λ_ ps q=>⟨#[],by rw[q];simp⟩⟩
theorem Un.refl:Un fs ex H H h h:=Un.kept λ_ _ q=>q
theorem Un.laid(k:∀b u,h.get? b=AA u->h'.get? b=AA u)(hp:h.objs.size<=a)(hn:H a=AE):Un fs ex H (upd H a o) h h' where
 keep:=λb u q _ _ _=>k b u q
 slot:=λb u q _ _ _=>⟨u.slots,k b u q⟩
 free:=λb u q n _=>by rw[za (A3 (AY (AN q) hp))];exact n
 there:=λb u q _=>⟨u,k b u q⟩
 tups:=λb xs q=>by rw[za (zb q hn)];exact q
 frzs:=λb u xs q=>by rw[za (zb q hn)];exact q
 tbls:=λb ps q=>⟨#[],by rw[za (zb q hn),q];simp⟩
theorem Un.write(mu:Mut (H x))(he:e=x \/ H e=AA (.own x))(k:∀b u,b≠e->h.get? b=AA u->h'.get? b=AA u)(heo:∃u,h'.get? e=AA u):Un fs ex H (upd H x o) h h':=by
 have hx:∀b,H b=AE->b≠x:=λb n z=>by subst z;rw[n]at mu;exact mu
 have hb:∀b,H b=AE->b≠e:=λb n z=>by
  subst z;rcases he with r|r
  .exact hx b n r
  .rw[n]at r;cases r
 have hm:∀b u,H b=AA u->¬Mut (AA u)->b≠x:=λb u q nm z=>by subst z;rw[q]at mu;exact nm mu
 refine⟨λb u q n _ _=>k b u (hb b n) q,λb u q n _ _=>⟨u.slots,k b u (hb b n) q⟩,λb u q n _=>by rw[za (hx b n)];exact n,λb u q _=>?_,
  λb xs q=>by rw[za (hm b _ q λz=>z)];exact q,λb u xs q=>by rw[za (hm b _ q λz=>z)];exact q,λb ps q=>⟨#[],by rw[za (hm b _ q λz=>z),q];simp⟩⟩
 by_cases hbe:b=e
 .subst hbe;exact heo
 .exact⟨u,k b u hbe q⟩
end
def trk(h:Ak)(H:Hp):List Addr:=(Eu h.objs.size).filter λa=>(H a).isSome
def ybx(h:Ak)(H:Hp):Heap:=CZ h (trk h H)
def zdZ(h:Ak)(H:Hp):(ybx h H).objs.size=h.objs.size:=PySem.W.hideAll_size _ _
def zey{h:Ak}{H:Hp}{b:AI}{o:B8}(e:h.get? b=AA o)(n:H b=AE):(ybx h H).get? b=AA o:=
 Ec _ e λhm=>by
  have q:(H b).isSome=true:=(Fa.mp hm).2;rw[n]at q;simp at q
def zgo{h:Ak}{H:Hp}{b:AI}{o:B8}(e:(ybx h H).get? b=AA o):h.get? b=AA o/\H b=none:=by
 have e':h.get? b=AA o:=Ew (trk h H) e;refine⟨e',?_⟩
 cases q:H b with
 |none=>rfl
 |some x=>
  have hm:b∈trk h H:=Fa.mpr ⟨Fm.mpr (AN e'),by simp[q]⟩;have z:(ybx h H).get? b=none:=PySem.W.hideAll_none (trk h H) hm;rw[z]at e;cases e
structure Mod(K:AF)(mg:AS->Option AD)(base:Ak):Prop where
 kin:K.In base
 glob:base.Ns mainGlobals mg
 blt:∃mb,base.Ns builtinsNs mb/\∀x:AS,x ≠ "__name__"->mb x=bootBuiltins x
 nolimit:base.NoLimit
structure Cx where
 prog:AV
 w:A5
 K:AF
 mg:AS->Option AD
 base:Ak
 A:A7
 N:List AS
 s₀:AH
 H₀:Hp
 env:Env
 outer:List Env
 stack:List Env
 ex:List AI
 fn:AS->Bool
 calm:Bool
 pn:List (AI×B8)
 xe:AD->AH->Prop
def frs(l:List Env):List Addr:=l.filterMap (·.frame)
abbrev Cx.fs(X:Cx):List Addr:=frs X.outer
def Vis(sc:BH)(x:AS):Prop:=sc.names.lookup x=AA .local \/ sc.names.lookup x=AA .cell \/ sc.names.lookup x=AA .free
def Loc(sc:BH)(x:AS):Prop:=sc.names.lookup x=AA .local \/ sc.names.lookup x=AA .cell
def Look(env:Env)(h:Ak)(m:AS->Option AD)(x:AS)(u:AD):Prop:=
 (env.kindOf x=AA .local/\m x=AA u) \/ ((env.kindOf x=AA .cell \/ env.kindOf x=AA .free)/\∃c,env.cells.lookup x=AA c/\h.IsCell c (AA u))
structure Cx.Ok(X:Cx):Prop where
 mod:Mod X.K X.mg X.base
 kind:X.env.scope.kind=.function
 glob:X.env.globals=mainGlobals
 blt:X.env.builtins=builtinsNs
 above:X.s₀.heap.objs.size<=X.env.locals
 inj:∀x y c,X.env.cells.lookup x=AA c->X.env.cells.lookup y=AA c->x=y
 has:∀x,(X.env.kindOf x=AA .cell \/ X.env.kindOf x=AA .free)->∃c,X.env.cells.lookup x=AA c
 cab:∀x c,X.fn x=AC->X.env.cells.lookup x=AA c->X.s₀.heap.objs.size<=c
 hd:X.calm=AC->X.A.handled=AE
 frames:X.A.frames=AA X.stack
 stk:X.stack=X.outer \/ (X.stack=X.env::X.outer/\X.env.frame=AA X.env.locals)
 exf:∀b∈X.ex,b≠X.env.locals/\∀x c,X.env.cells.lookup x=AA c->c≠b
 bs:∀b o,X.base.get? b=AA o->X.s₀.heap.get? b=AA o/\X.H₀ b=AE
 bsz:X.base.objs.size<=X.s₀.heap.objs.size
 noex:∀b o,X.base.get? b=AA o->b∉X.ex
 exfs:∀b∈X.ex,b∉X.fs
 funs:X.s₀.heap.FunFrames X.base X.outer
 frf:∀b∈X.fs,X.H₀ b=AE
structure Inv(X:Cx)(π:List (AI×B8))(σ:List (Option V))(H:Hp)(s:AH):Prop where
 ok:X.Ok
 os:s.os=X.s₀.os
 bare:Cy s.gens
 base:Un X.fs X.ex X.H₀ H X.s₀.heap s.heap
 loc:∃m,s.heap.Ns X.env.locals m/\∀(i:Nat) (x:AS) (v:V),X.N[i]?=AA x->σ[i]?=AA (AA v)->Vis X.env.scope x->∃u,RelV v u/\Look X.env s.heap m x u
 cell:∀x c,X.env.cells.lookup x=AA c->∃v,s.heap.IsCell c v
 free:H X.env.locals=AE
 freeC:∀x c,X.env.cells.lookup x=AA c->H c=AE
 pin:∀p∈X.pn++π,s.heap.get? p.1=AA p.2/\H p.1=AE/\p.1≠X.env.locals/\p.1∉X.fs/\∀v,p.2.data ≠ .cell v
 hok:HOk X.prog X.w H s.heap
 len:σ.length=X.N.length
section
variable {X:Cx}{π:List (AI×B8)}{σ:List (Option V)}{H H':Hp}{s:AH}{h':Ak}
theorem Cx.Ok.nofr(ok:X.Ok){b:AI}{o:B8}(e:X.base.get? b=AA o):b∉X.fs:=λhb=>by
 have:=(ok.funs.mem hb).1;rw[e]at this;cases this
theorem Inv.bs(I:Inv X π σ H s):∀b o,X.base.get? b=AA o->s.heap.get? b=AA o/\H b=none:=λb o e=>
 ⟨I.base.keep b o (I.ok.bs b o e).1 (I.ok.bs b o e).2 (I.ok.nofr e) (I.ok.noex b o e),I.base.free b o (I.ok.bs b o e).1 (I.ok.bs b o e).2 (I.ok.noex b o e)⟩
theorem Inv.bk(I:Inv X π σ H s):∀b o,X.base.get? b=AA o->s.heap.get? b=AA o:=λb o e=>(I.bs b o e).1
theorem Inv.mod(I:Inv X π σ H s):Mod X.K X.mg X.base:=I.ok.mod
theorem Inv.kIn(I:Inv X π σ H s):X.K.In s.heap:=I.ok.mod.kin.keeps I.bk
theorem Inv.lt(I:Inv X π σ H s):X.env.locals<s.heap.objs.size:=let ⟨_,hn,_⟩:=I.loc;hn.lt
theorem Inv.sz(I:Inv X π σ H s):X.s₀.heap.objs.size<=s.heap.objs.size:=BK I.ok.above (FD I.lt)
theorem Inv.nofs(I:Inv X π σ H s){a:AI}(h:s.heap.objs.size<=a):a∉X.fs:=λhb=>by
 let⟨_,o,ho,_⟩:=I.ok.funs.mem hb;exact absurd (AY (AN ho) (BK I.sz h)) (By _)
theorem Inv.cne(I:Inv X π σ H s):∀x c,X.env.cells.lookup x=AA c->c≠X.env.locals:=λx c e z=>by
 let⟨v,o,ho,hd⟩:=I.cell x c e;let⟨m,⟨o',es,ep,ho',hd',_⟩,_⟩:=I.loc;rw[z,ho']at ho;cases ho;rw[hd']at hd;cases hd
theorem Inv.funs(I:Inv X π σ H s):s.heap.FunFrames X.base X.outer:=by
 have all:∀(l:List Env),(∀b∈frs l,b∈X.fs)->X.s₀.heap.FunFrames X.base l->s.heap.FunFrames X.base l:=by
  intro l
  induction l with
  |nil=>intro _ _;trivial
  |cons env r ih=>
   intro hs hl;let⟨hk,⟨L,o,hf,hn,ho,hd⟩,hr⟩:=hl;have hL:L∈X.fs:=hs L (by unfold frs;rw[CB,hf];exact Aa);let⟨sl,e⟩:=I.base.slot L o ho (I.ok.frf L hL) hL λz=>I.ok.exfs L z hL;exact⟨hk,⟨L,_,hf,hn,e,hd⟩,ih (λb hb=>hs b (by unfold frs;rw[CB,hf];exact AU _ hb)) hr⟩
 exact all X.outer (λ_ hb=>hb) I.ok.funs
theorem Inv.stack(I:Inv X π σ H s):s.heap.FunFrames X.base X.stack:=by
 rcases I.ok.stk with e|⟨e,hf⟩
 .rw[e];exact I.funs
 .rw[e];let⟨m,hn,_⟩:=I.loc;refine .cons (by rw[I.ok.kind];decide) hf hn ?_ I.funs;exact Heap.get?_none_of_le (BK I.ok.bsz I.ok.above)
theorem Inv.stkSub(I:Inv X π σ H s):∀b∈frs X.stack,b∈X.env.locals::X.fs:=λb hb=>by
 rcases I.ok.stk with e|⟨e,hf⟩
 .rw[e]at hb;exact AU _ hb
 .rw[e]at hb;unfold frs at hb;rw[CB,hf]at hb;exact hb
theorem Inv.stkFree(I:Inv X π σ H s):∀b∈frs X.stack,H b=none:=λb hb=>by
 rcases A8.mp (I.stkSub b hb)with e|hb
 .rw[e];exact I.free
 .let⟨_,o,ho,_⟩:=I.ok.funs.mem hb;exact I.base.free b o ho (I.ok.frf b hb) λz=>I.ok.exfs b z hb
theorem Inv.step{g':Array GenState}{t':Nat}{d':Drawn}{ch:List AI}(I:Inv X π σ H s)
  (hch:∀b∈ch,(b∈X.ex \/ X.s₀.heap.objs.size<=b)/\b≠X.env.locals/\(∀x c,X.env.cells.lookup x=AA c->c≠b)/\∀p∈X.pn++π,p.1≠b)
  (keep:∀b o,b≠X.env.locals->b∉X.fs->b∉ch->s.heap.get? b=AA o->H b=AE->h'.get? b=AA o)
  (slot:∀b o,b≠X.env.locals->b∈X.fs->b∉ch->s.heap.get? b=AA o->H b=AE->∃sl,h'.get? b=AA {o with slots:=sl}) (free:∀b o,b∉ch->s.heap.get? b=AA o->H b=AE->H' b=AE)
  (there:∀b o,b∉ch->s.heap.get? b=AA o->∃o',h'.get? b=AA o')
  (tups:∀b xs,H b=AA (.tup xs)->H' b=AA (.tup xs)) (frzs:∀b o u,H b=AA (.frz o u)->H' b=AA (.frz o u)) (tbls:∀b ps,H b=AA (.tbl ps)->∃more,H' b=AA (.tbl (ps++more)))
  (ns:∀m,s.heap.Ns X.env.locals m->h'.Ns X.env.locals m) (hok:HOk X.prog X.w H' h') (hg:Cy g'):
  Inv X π σ H' {s with heap:=h',gens:=g',drawn:=d',toks:=t'}:=by
 have neL:∀b o,X.s₀.heap.get? b=AA o->b≠X.env.locals:=λb o e=>A3 (AY (AN e) I.ok.above);have neC:∀b o,X.s₀.heap.get? b=AA o->b∉X.ex->b∉ch:=λb o e hx hb=>by
  rcases (hch b hb).1 with z|z
  .exact hx z
  .exact absurd (AY (AN e) z) (By _)
 have cellK:∀x c,X.env.cells.lookup x=AA c->∀v,s.heap.IsCell c v->h'.IsCell c v:=λx c e v ⟨o,ho,hd⟩=>by
  have nch:c∉ch:=λz=>(hch c z).2.2.1 x c e rfl
  by_cases hc:c∈X.fs
  .let⟨sl,q⟩:=slot c o (I.cne x c e) hc nch ho (I.freeC x c e);exact⟨_,q,hd⟩
  .exact⟨o,keep c o (I.cne x c e) hc nch ho (I.freeC x c e),hd⟩
 refine⟨I.ok,I.os,hg,⟨λb o e n hb hx=>?_,λb o e n hb hx=>?_,λb o e n hx=>?_,λb o e hx=>?_,λb xs e=>tups b xs (I.base.tups b xs e),λb o xs e=>frzs b o xs (I.base.frzs b o xs e),λb ps e=>?_⟩,?_,λx c e=>?_,?_,λx c e=>?_,λp hp=>?_,hok,I.len⟩
 .exact keep b o (neL b o e) hb (neC b o e hx) (I.base.keep b o e n hb hx) (I.base.free b o e n hx)
 .let⟨sl,e1⟩:=I.base.slot b o e n hb hx;let⟨sl',e2⟩:=slot b _ (neL b o e) hb (neC b o e hx) e1 (I.base.free b o e n hx);exact⟨sl',e2⟩
 .let⟨o',e1⟩:=I.base.there b o e hx;exact free b o' (neC b o e hx) e1 (I.base.free b o e n hx)
 .let⟨o',e1⟩:=I.base.there b o e hx;exact there b o' (neC b o e hx) e1
 .let⟨m1,e1⟩:=I.base.tbls b ps e;let⟨m2,e2⟩:=tbls b _ e1;exact⟨m1++m2,by rw[e2,DR]⟩
 .let⟨m,hn,hl⟩:=I.loc;refine⟨m,ns m hn,λi x v e1 e2 e3=>?_⟩;let⟨u,r,l⟩:=hl i x v e1 e2 e3;refine⟨u,r,?_⟩;rcases l with l|⟨k,c,e,z⟩
  .exact .inl l
  .exact .inr ⟨k,c,e,cellK x c e _ z⟩
 .let⟨v,z⟩:=I.cell x c e;exact⟨v,cellK x c e v z⟩
 .let⟨m,⟨o,_,_,ho,_⟩,_⟩:=I.loc;exact free _ o (λz=>(hch _ z).2.1 rfl) ho I.free
 .let⟨v,o,ho,hd⟩:=I.cell x c e;exact free c o (λz=>(hch c z).2.2.1 x c e rfl) ho (I.freeC x c e)
 .let⟨e,n,ne,nf,d⟩:=I.pin p hp;have nch:p.1∉ch:=λz=>(hch p.1 z).2.2.2 p hp rfl;exact⟨keep p.1 p.2 ne nf nch e n,free p.1 p.2 nch e n,ne,nf,d⟩
theorem Inv.un{t':Nat}(I:Inv X π σ H s)(u:Un X.fs [] H H' s.heap h')(hok:HOk X.prog X.w H' h'):Inv X π σ H' {s with heap:=h',toks:=t'}:=by
 let⟨m,⟨o,es,ep,ho,r⟩,_⟩:=id I.loc;let⟨sl,hL⟩:=u.any ho I.free (by simp);exact I.step (g':=s.gens) (d':=s.drawn) (ch:=[]) (λ_ z=>nomatch z) (λb o _ hb _ e n=>u.keep b o e n hb (by simp)) (λb o _ hb _ e n=>u.slot b o e n hb (by simp)) (λb o _ e n=>u.free b o e n (by simp)) (λb o _ e=>u.there b o e (by simp)) u.tups u.frzs u.tbls (λm' hm=>by
  let⟨o',es',ep',ho',r'⟩:=hm;rw[ho]at ho';cases ho';exact⟨_,es',ep',hL,r'⟩) hok I.bare
theorem Inv.call{g':Array GenState}{t':Nat}{d':Drawn}{ch:List AI}(I:Inv X π σ H s)(u:Un (frs X.stack) ch H H' s.heap h')(hok:HOk X.prog X.w H' h')(hg:Cy g')
  (hch:∀b∈ch,(b∈X.ex \/ X.s₀.heap.objs.size<=b)/\b≠X.env.locals/\(∀x c,X.env.cells.lookup x=AA c->c≠b)/\∀p∈X.pn++π,p.1≠b):
  Inv X π σ H' {s with heap:=h',gens:=g',drawn:=d',toks:=t'}:=by
 let⟨m,⟨o,es,ep,ho,r⟩,_⟩:=id I.loc;let⟨sl,hL⟩:=u.any ho I.free λz=>(hch _ z).2.1 rfl;exact I.step (ch:=ch) hch (λb o hL hb hc e n=>u.keep b o e n (λz=>(A8.mp (I.stkSub b z)).elim hL hb) hc) (λb o _ _ hc e n=>u.any e n hc) (λb o hc e n=>u.free b o e n hc) (λb o hc e=>u.there b o e hc) u.tups u.frzs u.tbls (λm' hm=>by
  let⟨o',es',ep',ho',r'⟩:=hm;rw[ho]at ho';cases ho';exact⟨_,es',ep',hL,r'⟩) hok hg
theorem Inv.turned{t':Nat}{it:AI}(I:Inv X π σ H s)(k:∀b o,b≠it->s.heap.get? b=AA o->h'.get? b=AA o)(hn:H it=AE)(hL:it≠X.env.locals)
  (h1:it∈X.ex \/ X.s₀.heap.objs.size<=it) (h2:∀x c,X.env.cells.lookup x=AA c->c≠it) (h3:∀p∈X.pn++π,p.1≠it):Inv X π σ H {s with heap:=h',toks:=t'}:=by
 have nit:∀b u,H b=AA u->b≠it:=λb u e z=>by rw[z,hn]at e;cases e
 refine I.step (g':=s.gens) (d':=s.drawn) (ch:=[it]) (λb hb=>?_) (λb o _ _ hc e _=>k b o (λz=>hc (by simp[z])) e) (λb o _ _ hc e _=>⟨o.slots,k b o (λz=>hc (by simp[z])) e⟩) (λ_ _ _ _ n=>n)
  (λb o hc e=>⟨o,k b o (λz=>hc (by simp[z])) e⟩) (λ_ _ e=>e) (λ_ _ _ e=>e) (λb ps e=>⟨#[],by rw[e];simp⟩) (λm hm=>?_) (λb u e=>?_) I.bare
 .have e:b=it:=by simpa using hb
  subst e;exact⟨h1,hL,h2,h3⟩
 .let⟨o,es,ep,ho,r⟩:=hm;exact⟨o,es,ep,k _ o (BY hL) ho,r⟩
 .refine(I.hok b u e).stay (λc v hc q=>k c v ?_ q) (λ_ q=>q) λ_ _ q=>q;rcases hc with z|z
  .rw[z];exact nit b u e
  .exact nit c _ z
theorem Inv.tok(I:Inv X π σ H s)(t:Nat):Inv X π σ H {s with toks:=t}:=I.un (h':=s.heap) (t':=t) Un.refl I.hok
theorem Inv.kept{t':Nat}(I:Inv X π σ H s)(k:∀b u,s.heap.get? b=AA u->h'.get? b=AA u):Inv X π σ H {s with heap:=h',toks:=t'}:=I.un (Un.kept k) (I.hok.kept k)
theorem Inv.laid{a:AI}{o:HO}{t':Nat}(I:Inv X π σ H s)(k:∀b u,s.heap.get? b=AA u->h'.get? b=AA u)(hp:s.heap.objs.size<=a)(new:yp X.prog X.w (upd H a o) h' a o):
  Inv X π σ (upd H a o) {s with heap:=h',toks:=t'}:=I.un (Un.laid k hp (I.hok.fresh hp)) (I.hok.laid k hp new)
theorem Inv.write{x e:AI}{o:HO}{t':Nat}(I:Inv X π σ H s)(mu:Mut (H x))(he:e=x \/ H e=AA (.own x))(k:∀b u,b≠e->s.heap.get? b=AA u->h'.get? b=AA u)(heo:∃u,h'.get? e=AA u)
  (new:yp X.prog X.w (upd H x o) h' x o):Inv X π σ (upd H x o) {s with heap:=h',toks:=t'}:=I.un (Un.write mu he k heo) (I.hok.write mu he k heo new)
theorem Inv.pins_of{pins':List (AI×B8)}(I:Inv X π σ H s)(h:∀p∈pins',s.heap.get? p.1=AA p.2/\H p.1=AE/\p.1≠X.env.locals/\p.1∉X.fs/\∀v,p.2.data ≠ .cell v):Inv X pins' σ H s:=
 ⟨I.ok,I.os,I.bare,I.base,I.loc,I.cell,I.free,I.freeC,λp hp=>(C0.mp hp).elim (λz=>I.pin p (E2 _ z)) (h p),I.hok,I.len⟩
def zcm{N:List AS}(hN:N.Nodup){i j:Nat}{x:AS}(a:N[i]?=AA x)(b:N[j]?=AA x):i=j:=by
 let⟨h1,e1⟩:=Ab.mp a;let⟨h2,e2⟩:=Ab.mp b;exact(List.getElem_inj hN).mp (e1.trans e2.symm)
def zc0{M:Model}{A:A7}{E:AD->AH->Prop}{i:Nat}{x:AS}{v:V}{u:AD}{Q:Unit->AH->Prop}(I:Inv X π σ H s)(hN:X.N.Nodup)(hi:X.N[i]?=AA x)(hx:Loc X.env.scope x)(r:RelV v u)
  (h:∀s',Inv X π (σ.set i (AA v)) H s'->(∃a,CF a s.heap s'.heap/\(a=X.env.locals \/ X.env.cells.lookup x=AA a))->Q () s') (hf:X.fn x=AC \/ X.env.scope.names.lookup x=AA .local:=by first|exact .inl rfl|exact .inr rfl|assumption):AQ M A (storeName X.env x u) Q E s:=by
 let⟨m,hn,hl⟩:=id I.loc;have hcls:(X.env.scope.kind==.class || (X.env.scope.kind==.module&&X.env.locals != X.env.globals))=false:=by rw[I.ok.kind];rfl
 have hiσ:i<σ.length:=by rw[I.len];exact(Ab.mp hi).1
 have cne:=I.cne;have tracked:∀{a:AI} {h':Ak},(∃o,s.heap.get? a=AA o/\H a=AE)->CF a s.heap h'->HOk X.prog X.w H h':=λ{a h'} ha hs b ob e=>by
  let⟨_,_,hfree⟩:=ha;refine(I.hok b ob e).stay (λc w' hc q=>(hs.2 c ?_).trans q) (λ_ q=>q) λ_ _ q=>q
  rintro rfl
  rcases hc with rfl|hc
  .rw[hfree]at e;cases e
  .rw[hfree]at hc;cases hc
 rcases hx with hk|hk
 .refine wpAny_storeName_local hk hn (λh' hn' hs=>?_) hcls;let⟨oL,_,_,hoL,_⟩:=id hn;refine h _ ⟨I.ok,I.os,I.bare,⟨λb o e n hb hx=>?_,λb o e n hb hx=>?_,I.base.free,λb o e hx=>?_,I.base.tups,I.base.frzs,I.base.tbls⟩,⟨_,hn',λj y v' e1 e2 e3=>?_⟩,λy c e=>?_,I.free,I.freeC,λp hp=>?_,tracked ⟨oL,hoL,I.free⟩ hs,by simpa using I.len⟩ ⟨_,hs,.inl rfl⟩
  .exact(hs.2 b (A3 (AY (AN e) I.ok.above))).trans (I.base.keep b o e n hb hx)
  .let⟨sl,e1⟩:=I.base.slot b o e n hb hx;exact⟨sl,(hs.2 b (A3 (AY (AN e) I.ok.above))).trans e1⟩
  .let⟨o',e1⟩:=I.base.there b o e hx;exact⟨o',(hs.2 b (A3 (AY (AN e) I.ok.above))).trans e1⟩
  .by_cases hj:j=i
   .subst hj;rw[hi]at e1;cases e1;rw[Aq hiσ]at e2
    cases e2
    exact⟨u,r,.inl ⟨hk,by simp⟩⟩
   .rw[Al (BY hj)]at e2;let⟨u',r',q⟩:=hl j y v' e1 e2 e3;refine⟨u',r',?_⟩;rcases q with⟨k,e⟩|⟨k,c,e,z⟩
    .refine .inl ⟨k,?_⟩;have:y≠x:=λe=>hj (zcm hN e1 (e ▸ hi));simp[this,e]
    .exact .inr ⟨k,c,e,z.sameBut hs (cne y c e)⟩
  .let⟨w',z⟩:=I.cell y c e;exact⟨w',z.sameBut hs (cne y c e)⟩
  .let⟨e,n,ne,nf,d⟩:=I.pin p hp;exact⟨(hs.2 p.1 ne).trans e,n,ne,nf,d⟩
 .have hfn:X.fn x=true:=by
   rcases hf with z|z
   .exact z
   .rw[z]at hk;cases hk
  let⟨c,hc⟩:=I.ok.has x (.inl hk);let⟨w',z⟩:=I.cell x c hc;refine wpAny_storeName_cell I.ok.kind hk hc z (λh' hc' hs=>?_);let⟨oc,hoc,hocd⟩:=id z;refine h {s with heap:=h'} ⟨I.ok,I.os,I.bare,⟨λb o e n hb hx=>?_,λb o e n hb hx=>?_,I.base.free,λb o e hx=>?_,I.base.tups,I.base.frzs,I.base.tbls⟩,⟨m,hn.sameBut hs (BY (cne x c hc)),λj y v' e1 e2 e3=>?_⟩,λy c' e=>?_,I.free,I.freeC,λp hp=>?_,tracked ⟨oc,hoc,I.freeC x c hc⟩ hs,by simpa using I.len⟩ ⟨c,hs,.inr hc⟩
  .exact(hs.2 b (A3 (AY (AN e) (I.ok.cab x c hfn hc)))).trans (I.base.keep b o e n hb hx)
  .let⟨sl,e1⟩:=I.base.slot b o e n hb hx;exact⟨sl,(hs.2 b (A3 (AY (AN e) (I.ok.cab x c hfn hc)))).trans e1⟩
  .let⟨o',e1⟩:=I.base.there b o e hx;exact⟨o',(hs.2 b (A3 (AY (AN e) (I.ok.cab x c hfn hc)))).trans e1⟩
  .by_cases hj:j=i
   .subst hj;rw[hi]at e1;cases e1;rw[Aq hiσ]at e2
    cases e2
    exact⟨u,r,.inr ⟨.inl hk,c,hc,hc'⟩⟩
   .rw[Al (BY hj)]at e2;let⟨u',r',q⟩:=hl j y v' e1 e2 e3;refine⟨u',r',?_⟩;rcases q with q|⟨k,c',e,z'⟩
    .exact .inl q
    .refine .inr ⟨k,c',e,z'.sameBut hs ?_⟩
     rintro rfl
     exact hj (zcm hN e1 (I.ok.inj _ _ _ e hc ▸ hi))
  .by_cases hcc:c'=c
   .subst hcc;exact⟨_,hc'⟩
   .let⟨w2,z2⟩:=I.cell y c' e;exact⟨w2,z2.sameBut hs hcc⟩
  .let⟨e,n,ne,nf,d⟩:=I.pin p hp;refine⟨(hs.2 p.1 ?_).trans e,n,ne,nf,d⟩;intro q;rw[q,hoc]at e;have q':oc=p.2:=A0 e;exact d w' (by rw[<-q'];exact hocd)
def zD{M:Model}{A:A7}{E:AD->AH->Prop}{i:Nat}{x:AS}{v:V}{u:AD}{Q:Unit->AH->Prop}(I:Inv X π σ H s)(hN:X.N.Nodup)(hi:X.N[i]?=AA x)(hx:Loc X.env.scope x)(r:RelV v u)
  (h:∀s',Inv X π (σ.set i (AA v)) H s'->Q () s') (hf:X.fn x=AC \/ X.env.scope.names.lookup x=AA .local:=by first|exact .inl rfl|exact .inr rfl|assumption):AQ M A (storeName X.env x u) Q E s:=
 zc0 I hN hi hx r (λs' I' _=>h s' I') hf
theorem Inv.call'{s':AH}{ch:List AI}(I:Inv X π σ H s)(ho:s'.os=s.os)(u:Un (frs X.stack) ch H H' s.heap s'.heap)(hok:HOk X.prog X.w H' s'.heap)(hg:Cy s'.gens)
  (hch:∀b∈ch,(b∈X.ex \/ X.s₀.heap.objs.size<=b)/\b≠X.env.locals/\(∀x c,X.env.cells.lookup x=AA c->c≠b)/\∀p∈X.pn++π,p.1≠b):Inv X π σ H' s':=by
 let⟨h',g',d',t',o'⟩:=s';have e:o'=s.os:=ho;subst e;exact I.call (g':=g') (t':=t') (d':=d') u hok hg hch
end
abbrev XK:=AD->Option AI->Hp->Prop
abbrev St:=List (Option V)
abbrev VK:=V->Hp->Prop
abbrev TE:=St->Hp->VK->Prop
abbrev TT:=St->Hp->(Bool->Hp->Prop)->Prop
abbrev TA:=St->Hp->(List V->Hp->Prop)->Prop
structure Ends where
 nx:St->Hp->Prop
 rt:VK
 bk:St->Hp->Prop:=λ_ _=>False
 ct:St->Hp->Prop:=λ_ _=>False
abbrev TS:=Ends->St->Hp->Prop
def EP(X:Cx)(π:List (AI×B8))(σ:St)(Q:VK)(u:AD)(s':AH):Prop:=∃v H',Inv X π σ H' s'/\RelV v u/\Q v H'
def TP(X:Cx)(π:List (AI×B8))(σ:St)(Q:Bool->Hp->Prop)(b:Bool)(s':AH):Prop:=∃H',Inv X π σ H' s'/\Q b H'
def AP(X:Cx)(π:List (AI×B8))(σ:St)(Q:List V->Hp->Prop)(us:List AD)(s':AH):Prop:=∃vs H',Inv X π σ H' s'/\Vals vs us/\Q vs H'
def SP(X:Cx)(π:List (AI×B8))(D:Ends)(f:Flow)(s':AH):Prop:=
 match f with
 |.next=>∃σ' H',Inv X π σ' H' s'/\D.nx σ' H'
 |.brk=>∃σ' H',Inv X π σ' H' s'/\D.bk σ' H'
 |.cont=>∃σ' H',Inv X π σ' H' s'/\D.ct σ' H'
 |.ret u=>∃v σ' H',Inv X π σ' H' s'/\RelV v u/\D.rt v H'
def PE(X:Cx)(e:AM)(t:TE):Prop:=
 ∀(π:List (AI×B8)) (s:AH) (σ:St) (H:Hp) (Q:VK),Inv X π σ H s->t σ H Q->AQ (model X.prog X.w) X.A (eval e X.env) (EP X π σ Q) X.xe s
def PT(X:Cx)(e:AM)(t:TT):Prop:=
 ∀(π:List (AI×B8)) (s:AH) (σ:St) (H:Hp) (Q:Bool->Hp->Prop),Inv X π σ H s->t σ H Q->AQ (model X.prog X.w) X.A (isTrue e X.env (eval e X.env)) (TP X π σ Q) X.xe s
def PW(X:Cx)(e:AM)(t:TT):Prop:=
 ∀(whole:Gp AD) (π:List (AI×B8)) (s:AH) (σ:St) (H:Hp) (Q:Bool->Hp->Prop),Inv X π σ H s->t σ H Q->AQ (model X.prog X.w) X.A (isTrue e X.env whole) (TP X π σ Q) X.xe s
theorem PW.pt{X:Cx}{e:AM}{t:TT}(h:PW X e t):PT X e t:=h _
def PA(X:Cx)(es:List AM)(t:TA):Prop:=
 ∀(pos:Bf) (π:List (AI×B8)) (s:AH) (σ:St) (H:Hp) (Q:List V->Hp->Prop),Inv X π σ H s->t σ H Q->AQ (model X.prog X.w) X.A (spliced (backTo pos (starEach es X.env))) (AP X π σ Q) X.xe s
def PS(X:Cx)(st:Bd)(t:TS):Prop:=
 ∀(π:List (AI×B8)) (s:AH) (σ:St) (H:Hp) (D:Ends),Inv X π σ H s->t D σ H->AQ (model X.prog X.w) X.A (exec st X.env) (SP X π D) X.xe s
def PSs(X:Cx)(st:List Bd)(t:TS):Prop:=
 ∀(π:List (AI×B8)) (s:AH) (σ:St) (H:Hp) (D:Ends),Inv X π σ H s->t D σ H->AQ (model X.prog X.w) X.A (execs st X.env) (SP X π D) X.xe s
theorem thn{α:Type}{t:Gp α}{Q Q':α->AH->Prop}{M:Model}{A:A7}{E:AD->AH->Prop}{s:AH}(h:AQ M A t Q E s)(hQ:∀a s,Q a s->Q' a s):AQ M A t Q' E s:=B0 h hQ λ_ _ x=>x
section
variable {X:Cx}
def ybo(i:Nat):TE:=λσ H Q=>∃v,σ[i]?=AA (AA v)/\Q v H
def tC(v:V):TE:=λ_ H Q=>Q v H
def zb8{i:Nat}{x:AS}{pos:Bf}(hN:X.N[i]?=AA x)(hv:Vis X.env.scope x)(hd:(x==("__debug__":AS))=false:=by decide)(hcd:(x==("__classdict__":AS))=false:=by decide):PE X (.Name x pos) (ybo i):=by
 intro π s σ H Q I h;let⟨v,e,h⟩:=h;let⟨m,hn,hl⟩:=I.loc;let⟨u,r,l⟩:=hl i x v hN e hv;have fin:EP X π σ Q u s:=⟨v,H,I,r,h⟩;rcases l with⟨hk,hm⟩|⟨hk,c,hc,hcell⟩
 .exact Fp (E3 I.ok.kind hk hn hm fin) hd
 .rcases hk with hk|hk
  .exact Fp (Ed I.ok.kind hk hc hcell fin) hd
  .exact Fp (wpAny_loadName_free I.ok.kind hk hc hcell fin hcd) hd
def zi5{i j pos}:PE X (.Constant (.int i) j pos) (tC (.int i)):=λ_ _ _ H _ I h=>wpAny_Constant_int ⟨.int i,H,I.tok _,⟨_,rfl⟩,h⟩
def zjj{b j pos}:PE X (.Constant (.bool b) j pos) (tC (.bl b)):=λ_ _ _ H _ I h=>Constant_bool ⟨.bl b,H,I,rfl,h⟩
def zjk{j pos}:PE X (.Constant .none j pos) (tC .non):=λ_ _ _ H _ I h=>Constant_none ⟨.non,H,I,rfl,h⟩
def zi9{x j pos}:PE X (.Constant (.str x) j pos) (tC (.str x)):=λ_ _ _ H _ I h=>Calls.Constant_str ⟨.str x,H,I.tok _,⟨_,rfl⟩,h⟩
def Gl(X:Cx)(x:AS):Prop:=X.env.kindOf x=AA .globalImplicit
def za8{E:AD->AH->Prop}{π:List (AI×B8)}{s:AH}{σ:St}{H:Hp}{x:AS}{u:AD}{pos:Bf}{Q:AD->AH->Prop}(I:Inv X π σ H s)(hg:Gl X x)(hm:X.mg x=AA u)(h:Q u s)
  (hd:(x==("__debug__":AS))=false:=by decide):AQ (model X.prog X.w) X.A (eval (.Name x pos) X.env) Q E s:=
 DS I.ok.kind hg (Calls.loadGlobal_global (by rw[I.ok.glob];exact I.mod.glob.keeps I.bk) hm h) hd
def zbs{E:AD->AH->Prop}{π:List (AI×B8)}{s:AH}{σ:St}{H:Hp}{x:AS}{u:AD}{pos:Bf}{Q:AD->AH->Prop}(I:Inv X π σ H s)(hg:Gl X x)(hm:X.mg x=AE)(hv:bootBuiltins x=AA u)(h:Q u s)
  (hn:x ≠ "__name__":=by decide) (hd:(x==("__debug__":AS))=false:=by decide):AQ (model X.prog X.w) X.A (eval (.Name x pos) X.env) Q E s:=by
 let⟨mb,h1,h2⟩:=I.mod.blt;exact DS I.ok.kind hg (Calls.loadGlobal_builtin (by rw[I.ok.glob];exact I.mod.glob.keeps I.bk) hm (by rw[I.ok.blt];exact h1.keeps I.bk) ((h2 x hn).trans hv) h) hd
def zdp{x:AS}{v:V}{u:AD}{pos:Bf}(hg:Gl X x)(hm:X.mg x=AA u)(r:RelV v u)(hd:(x==("__debug__":AS))=false:=by decide):PE X (.Name x pos) (tC v):=
 λ_ _ _ H _ I h=>za8 I hg hm ⟨v,H,I,r,h⟩ hd
def zfD{x:AS}{v:V}{u:AD}{pos:Bf}(hg:Gl X x)(hm:X.mg x=AE)(hv:bootBuiltins x=AA u)(r:RelV v u)(hn:x ≠ "__name__":=by decide)(hd:(x==("__debug__":AS))=false:=by decide):PE X (.Name x pos) (tC v):=
 λ_ _ _ H _ I h=>zbs I hg hm hv ⟨v,H,I,r,h⟩ hn hd
variable {a b:AM}{ta tb:TE}{pos:Bf}
variable {tA tB':TT}{rest:List AM}
def ye7(t u:TT):TT:=λσ H Q=>t σ H λc H1=>if c=AC then u σ H1 Q else Q AG H1
def tOr(t u:TT):TT:=λσ H Q=>t σ H λc H1=>if c=AC then Q AC H1 else u σ H1 Q
def yeS(t:TT):TT:=λσ H Q=>t σ H λc H1=>Q (!c) H1
def zgk(ha:PT X a tA):PW X (.BoolOp .And [a] pos) tA:=by
 intro wh π s σ H Q I h;refine isTrue_and (thn (ha π s σ H Q I h) λc s1 e=>?_)
 cases c with
 |true=>exact isTrue_and_nil e
 |false=>exact e
def zgI(ha:PT X a tA):PW X (.BoolOp .Or [a] pos) tA:=by
 intro wh π s σ H Q I h;refine isTrue_or (thn (ha π s σ H Q I h) λc s1 e=>?_)
 cases c with
 |false=>exact isTrue_or_nil e
 |true=>exact e
def zii(ha:PT X a tA)(hb:PW X (.BoolOp .And (b::rest) pos) tB'):PW X (.BoolOp .And (a::b::rest) pos) (ye7 tA tB'):=by
 intro wh π s σ H Q I h;refine isTrue_and (thn (ha π s σ H _ I h) λc s1 kq=>?_);let⟨H1,I1,q1⟩:=kq
 cases c with
 |true=>exact hb wh π s1 σ H1 Q I1 q1
 |false=>exact⟨H1,I1,q1⟩
def ziM(ha:PT X a tA)(hb:PW X (.BoolOp .Or (b::rest) pos) tB'):PW X (.BoolOp .Or (a::b::rest) pos) (tOr tA tB'):=by
 intro wh π s σ H Q I h;refine isTrue_or (thn (ha π s σ H _ I h) λc s1 kq=>?_);let⟨H1,I1,q1⟩:=kq
 cases c with
 |true=>exact⟨H1,I1,q1⟩
 |false=>exact hb wh π s1 σ H1 Q I1 q1
def zil(ha:PT X a tA):PT X (.UnaryOp .Not a pos) (yeS tA):=by
 intro π s σ H Q I h;exact isTrue_not (ha π s σ H (λc H1=>Q (!c) H1) I h)
def ydK(ta tb:TE):TE:=λσ H Q=>ta σ H λx H1=>∃c,x=.bl c/\if c=AC then tb σ H1 Q else Q (.bl AG) H1
def ye8(ta tb:TE):TE:=λσ H Q=>ta σ H λx H1=>∃c,x=.bl c/\if c=AC then Q (.bl AC) H1 else tb σ H1 Q
def ydQ(ta:TE):TE:=λσ H Q=>ta σ H λx H1=>∃c,x=.bl c/\Q (.bl (!c)) H1
def zhu{op}{t:TE}(h:PE X a t):PE X (.BoolOp op [a] pos) t:=λπ s σ H Q I hw=>BoolOp_one (h π s σ H Q I hw)
def zg7(ha:PE X a ta)(hb:PE X (.BoolOp .And (b::rest) pos) tb):PE X (.BoolOp .And (a::b::rest) pos) (ydK ta tb):=by
 intro π s σ H Q I h;refine BoolOp_and (thn (ha π s σ H _ I h) λv s1 kq=>?_);let⟨x,H1,I1,r1,q1⟩:=kq;let⟨c,rfl,q1⟩:=q1
 cases r1
 refine BO ?_
 cases c with
 |true=>exact hb π s1 σ H1 Q I1 q1
 |false=>exact⟨.bl AG,H1,I1,rfl,q1⟩
def ziX(ha:PE X a ta)(hb:PE X (.BoolOp .Or (b::rest) pos) tb):PE X (.BoolOp .Or (a::b::rest) pos) (ye8 ta tb):=by
 intro π s σ H Q I h;refine BoolOp_or (thn (ha π s σ H _ I h) λv s1 kq=>?_);let⟨x,H1,I1,r1,q1⟩:=kq;let⟨c,rfl,q1⟩:=q1
 cases r1
 refine BO ?_
 cases c with
 |false=>exact hb π s1 σ H1 Q I1 q1
 |true=>exact⟨.bl AC,H1,I1,rfl,q1⟩
def zg1(ha:PE X a ta):PE X (.UnaryOp .Not a pos) (ydQ ta):=by
 intro π s σ H Q I h;refine UnaryOp_ (thn (ha π s σ H _ I h) λv s1 kq=>?_);let⟨x,H1,I1,r1,q1⟩:=kq;let⟨c,rfl,q1⟩:=q1
 cases r1
 exact not_of (BO ⟨.bl (!c),H1,I1,rfl,q1⟩)
def tIf(t:TT)(ta tb:TE):TE:=λσ H Q=>t σ H λc H1=>if c=AC then ta σ H1 Q else tb σ H1 Q
def zex{c:AM}(hc:PT X c tA)(ha:PE X a ta)(hb:PE X b tb):PE X (.IfExp c a b pos) (tIf tA ta tb):=by
 intro π s σ H Q I h;refine wpAny_IfExp (thn (hc π s σ H _ I h) λd s1 kq=>?_);let⟨H1,I1,q1⟩:=kq
 cases d with
 |true=>exact ha π s1 σ H1 Q I1 q1
 |false=>exact hb π s1 σ H1 Q I1 q1
end
def SqL(K:AF)(H:Hp)(a:AI)(xs:List V):Prop:=
 Rd H a (.lst xs) \/
  ∃(o:B8) (its:Array AD) (n:Nat),K.lookup a=AA o/\o.cls=.type "list"/\o.dict=AE/\o.data=.seq its n/\its.size<=sizeLine/\Vals xs its.toList
def SqT(K:AF)(H:Hp)(a:AI)(xs:List V):Prop:=
 Rd H a (.tup xs) \/
  ∃(o:B8) (its:Array AD) (n:Nat),K.lookup a=AA o/\o.cls=.type "tuple"/\o.data=.seq its n/\its.size<=sizeLine/\Vals xs its.toList
def ye5:AD->Option V
 |.none=>AA .non
 |.bool b=>AA (.bl b)
 |.int i _=>AA (.int i)
 |.str x _=>AA (.str x)
 |.bytes b _=>AA (.byt b)
 |.float b _=>AA (.flt b)
 |.ref a=>AA (.ref a)
 |.type n=>AA (.ty n)
 |_=>AE
theorem RelV.abs{x:V}{u:AD}(r:RelV x u):ye5 u=AA x:=by
 cases x with
 |non=>cases r;rfl
 |bl _=>cases r;rfl
 |int _=>let⟨t,rfl⟩:=r;rfl
 |str _=>let⟨t,rfl⟩:=r;rfl
 |byt _=>let⟨t,rfl⟩:=r;rfl
 |flt _=>let⟨t,rfl⟩:=r;rfl
 |ref _=>cases r;rfl
 |ty _=>cases r;rfl
theorem RelV.inj{x y:V}{u:AD}(r:RelV x u)(q:RelV y u):x=y:=A0 (r.abs.symm.trans q.abs)
theorem Vals.inj:∀{xs ys:List V} {us:List AD},Vals xs us->Vals ys us->xs=ys
 |_,_,_,.nil,.nil=>rfl
 |_,_,_,.cons r t,.cons r' t'=>by rw[r.inj r',Vals.inj t t']
section
variable {X:Cx}{π:List (AI×B8)}{σ:St}{H:Hp}{s:AH}{a:AI}{xs ys:List V}
theorem SqL.of{K:AF}(h:H a=AA (.lst xs)):SqL K H a xs:=.inl (.inl h)
theorem Inv.list(I:Inv X π σ H s)(h:SqL X.K H a xs):∃its:List AD,Vals xs its/\PlainL s.heap a its.toArray/\xs.length<=sizeLine:=by
 rcases h with h|⟨o,its,n,hk,hc,hd,hs,hz,r⟩
 .let⟨z,its,n,r,e⟩:=h.ok I.hok;exact⟨its,r,⟨_,n,e,rfl,rfl,rfl⟩,z⟩
 .refine⟨its.toList,r,⟨o,n,I.kIn a o hk,hc,hd,by simpa using hs⟩,?_⟩;have e:=r.length;erw[DI]at e;lia
theorem Inv.tuple(I:Inv X π σ H s)(h:SqT X.K H a xs):∃its:List AD,Vals xs its/\IsTup s.heap a its.toArray/\xs.length<=sizeLine:=by
 rcases h with h|⟨o,its,n,hk,hc,hs,hz,r⟩
 .let⟨z,its,r,p⟩:=h.ok I.hok;exact⟨its,r,⟨_,p,rfl,_,rfl⟩,z⟩
 .refine⟨its.toList,r,⟨o,I.kIn a o hk,hc,n,by simpa using hs⟩,?_⟩;have e:=r.length;erw[DI]at e;lia
theorem Inv.list_inj(I:Inv X π σ H s)(h:SqL X.K H a xs)(h':SqL X.K H a ys):xs=ys:=by
 let⟨its,r,⟨o,n,e,_,_,d⟩,_⟩:=I.list h;let⟨its',r',⟨o',n',e',_,_,d'⟩,_⟩:=I.list h';rw[e]at e';cases e';rw[d]at d';injection d' with d1 _;have:its=its':=by simpa using congrArg FB d1
 subst this;exact r.inj r'
theorem Inv.tuple_inj(I:Inv X π σ H s)(h:SqT X.K H a xs)(h':SqT X.K H a ys):xs=ys:=by
 let⟨its,r,⟨o,e,_,n,d⟩,_⟩:=I.tuple h;let⟨its',r',⟨o',e',_,n',d'⟩,_⟩:=I.tuple h';rw[e]at e';cases e';rw[d]at d';injection d' with d1 _;have:its=its':=by simpa using congrArg FB d1
 subst this;exact r.inj r'
end
section
variable {X:Cx}{π:List (AI×B8)}{σ:St}{H:Hp}{s:AH}{E:AD->AH->Prop}
end
section
variable {X:Cx}{st:Bd}{rest:List Bd}{t u:TS}{e:AM}{te:TE}{pos:Bf}
def ydC:TS:=λD σ H=>D.nx σ H
def yfs(t u:TS):TS:=λD σ H=>t {D with nx:=u D} σ H
def zjl:PSs X [] ydC:=λ_ _ σ H _ I h=>EQ ⟨σ,H,I,h⟩
def zel(h1:PS X st t)(h2:PSs X rest u):PSs X (st::rest) (yfs t u):=by
 intro π s σ H D I h;refine wpAny_execs_cons (thn (h1 π s σ H {D with nx:=u D} I h) λf s1 q=>?_)
 cases f with
 |next=>
  let⟨σ',H',I',q⟩:=q;exact h2 π s1 σ' H' D I' q
 |ret v=>exact q
 |brk=>exact q
 |cont=>exact q
theorem Inv.quiet{π:List (AI×B8)}{σ:St}{H:Hp}{s:AH}(I:Inv X π σ H s):interactive X.env=false:=by simp[interactive,I.ok.kind]
def ydP(te:TE):TS:=λD σ H=>te σ H λ_ H1=>D.nx σ H1
def zfU(he:PE X e te)(hs:swapsWith e AE pos.line X.env=pure false:=by rfl):PS X (.Expr e pos) (ydP te):=by
 intro π s σ H D I h;exact wpAny_Expr_any (thn (he π s σ H _ I h) λv s1 ⟨x,H1,I1,r1,q1⟩=>⟨σ,H1,I1,q1⟩) I.quiet hs
def yeJ(te:TE):TS:=λD σ H=>te σ H D.rt
def zhc(he:PE X e te):PS X (.Return (AA e) pos) (yeJ te):=by
 intro π s σ H D I h;exact wpAny_Return_some (thn (he π s σ H _ I h) λv s1 ⟨x,H1,I1,r1,q1⟩=>⟨x,σ,H1,I1,r1,q1⟩)
def ydg:TS:=λD _ H=>D.rt .non H
def zjm:PS X (.Return AE pos) ydg:=λ_ _ σ H _ I h=>wpAny_Return_none ⟨.non,σ,H,I,rfl,h⟩
def yeK(c:TT)(t u:TS):TS:=λD σ H=>c σ H λb H1=>if b=AC then t D σ H1 else u D σ H1
def ziQ{c:AM}{a b:List Bd}{tc:TT}(hc:PT X c tc)(ha:PSs X a t)(hb:PSs X b u):PS X (.If c a b pos) (yeK tc t u):=by
 intro π s σ H D I h;refine wpAny_If (thn (hc π s σ H _ I h) λd s1 kq=>?_);let⟨H1,I1,q1⟩:=kq
 cases d with
 |true=>exact ha π s1 σ H1 D I1 q1
 |false=>exact hb π s1 σ H1 D I1 q1
end
abbrev TG:=V->St->Hp->(St->Hp->Prop)->Prop
abbrev TGs:=List V->St->Hp->(St->Hp->Prop)->Prop
def PG(X:Cx)(target:AM)(t:TG):Prop:=
 ∀(π:List (AI×B8)) (s:AH) (σ:St) (H:Hp) (v:V) (u:AD) (Q:St->Hp->Prop),Inv X π σ H s->RelV v u->t v σ H Q ->
  AQ (model X.prog X.w) X.A (assign target X.env u) (λ_ s'=>∃σ' H',Inv X π σ' H' s'/\Q σ' H') X.xe s
def PGs(X:Cx)(ts:List AM)(t:TGs):Prop:=
 ∀(π:List (AI×B8)) (s:AH) (σ:St) (H:Hp) (vs:List V) (us:List AD) (Q:St->Hp->Prop),Inv X π σ H s->Vals vs us->t vs σ H Q ->
  AQ (model X.prog X.w) X.A (assignInOrder ((assignEach ts X.env).map (·.2)) us) (λ_ s'=>∃σ' H',Inv X π σ' H' s'/\Q σ' H') X.xe s
abbrev ydz:=V->V->V->Hp->(Hp->Prop)->Prop
def yeg(X:Cx)(t:ydz):Prop:=
 ∀(π:List (AI×B8)) (s:AH) (σ:St) (H:Hp) (o i v:V) (ov iv u:AD) (Q:Hp->Prop),Inv X π σ H s->RelV o ov->RelV i iv->RelV v u->t o i v H Q ->
  AQ (model X.prog X.w) X.A (setItem ov iv u) (λ_ s'=>∃H',Inv X π σ H' s'/\Q H') X.xe s
abbrev TIp:=V->V->Hp->VK->Prop
def PIp(X:Cx)(op:Dn)(t:TIp):Prop:=
 ∀(π:List (AI×B8)) (s:AH) (σ:St) (H:Hp) (x y:V) (v u:AD) (Q:VK),Inv X π σ H s->RelV x v->RelV y u->t x y H Q ->
  AQ (model X.prog X.w) X.A (inplaceOp op v u) (EP X π σ Q) X.xe s
section
variable {X:Cx}{pos:Bf}
def ya4(i:Nat):TG:=λv σ H Q=>Q (σ.set i (AA v)) H
def zbU{i:Nat}{x:AS}(hN:X.N.Nodup)(hi:X.N[i]?=AA x)(hx:Loc X.env.scope x)(hf:X.fn x=AC \/ X.env.scope.names.lookup x=AA .local:=by first|exact .inl rfl|exact .inr rfl|assumption):PG X (.Name x pos) (ya4 i):=by
 intro π s σ H v u Q I r h;exact FE (zD I hN hi hx r (λs' I'=>⟨_,H,I',h⟩) hf)
def yfL:TGs:=λvs σ H Q=>vs=[]/\Q σ H
def yde(t:TG)(u:TGs):TGs:=λvs σ H Q=>∃v r,vs=v::r/\t v σ H λσ' H'=>u r σ' H' Q
def zjn:PGs X [] yfL:=by
 intro π s σ H vs us Q I r h;let⟨e,h⟩:=h;subst e
 cases r
 exact FF ⟨σ,H,I,h⟩
def zee{e:AM}{es:List AM}{t:TG}{u:TGs}(h1:PG X e t)(h2:PGs X es u)
  (hs:(assignEach (e::es) X.env).map (·.2)=assign e X.env::(assignEach es X.env).map (·.2):=by rfl):PGs X (e::es) (yde t u):=by
 intro π s σ H vs us Q I r h;let⟨v,vr,e1,h⟩:=h;subst e1
 cases r with
 |cons r rr=>
  rw[hs];refine DU (thn (h1 π s σ H _ _ _ I r h) λ_ s1 kq=>?_);let⟨σ1,H1,I1,q1⟩:=kq;exact h2 π s1 σ1 H1 _ _ Q I1 rr q1
def yfR(K:AF)(n:Nat)(t:TGs):TG:=λv σ H Q=>∃a xs,v=.ref a/\SqT K H a xs/\xs.length=n/\t xs σ H Q
def zhH{es:List AM}{k:Nat}{t:TGs}{n:Nat}(hc:X.calm=AC)(h:PGs X es t)
  (hn:(assignEach es X.env).length=n:=by rfl) (hst:(assignEach es X.env).findIdx? (·.1)=none:=by rfl):PG X (.Tuple es k pos) (yfR X.K n t):=by
 intro π s σ H v u Q I r hw;let⟨a,xs,e1,hq,hl,hw⟩:=hw;subst e1
 cases r
 let⟨its,rv,ht,hz⟩:=I.tuple hq;refine assign_Tuple_tuple (I.ok.hd hc) ht (by simp[hn,<-hl,rv.length]) hst λh' hx=>?_;have I1:Inv X π σ H {s with heap:=h'}:=I.kept (t':=s.toks) λb o e=>hx b o (A3 (AN e)) e;exact h π _ σ H xs _ Q I1 (by simpa using rv) hw
def yew(to ti:TE)(t:ydz):TG:=λv σ H Q=>to σ H λo H1=>ti σ H1 λi H2=>t o i v H2 λH3=>Q σ H3
def ze2{o i:AM}{to ti:TE}{t:ydz}(ho:PE X o to)(hi:PE X i ti)(hs:yeg X t)
  (ha:∀v,assign (.Subscript o i pos) X.env v=(do
   let ov <-holding [v] (eval o X.env)
   let iv <-holding [v,ov] (eval i X.env)
   standAt pos
   holding [v,ov,iv] (setItem ov iv v)
   release [v,ov,iv] []):=by intro _;rfl):PG X (.Subscript o i pos) (yew to ti t):=by
 intro π s σ H v u Q I r h;rw[ha];refine AB (BJ (thn (ho π s σ H _ I h) λov s1 kq=>?_));let⟨x,H1,I1,r1,q1⟩:=kq;refine AB (BJ (thn (hi π s1 σ H1 _ I1 q1) λiv s2 kq=>?_));let⟨y,H2,I2,r2,q2⟩:=kq;refine AB (Cz (AB (BJ (thn (hs π s2 σ H2 x y v ov iv u _ I2 r1 r2 r q2) λ_ s3 kq=>?_))));let⟨H3,I3,q3⟩:=kq;exact wpAny_release ⟨σ,H3,I3,q3⟩
def ydR(te:TE)(g:TG):TS:=λD σ H=>te σ H λx H1=>g x σ H1 D.nx
def ze5{tg e:AM}{te:TE}{g:TG}(he:PE X e te)(hg:PG X tg g)(hs:swapsWithSole [tg] e pos.line X.env=pure false:=by rfl)(hw:swappedStores [tg] e X.env=pure none:=by rfl)
  (h1:(assignEach [tg] X.env).map (·.2)=[assign tg X.env]:=by rfl):PS X (.Assign [tg] e pos) (ydR te g):=by
 intro π s σ H D I h;refine wpAny_Assign_stores (thn (he π s σ H _ I h) λv s1 kq=>?_) hs hw;let⟨x,H1,I1,r1,q1⟩:=kq;rw[h1];exact thn (hg π s1 σ H1 x v _ I1 r1 q1) λ_ s2 q=>q
def zg5{i:Nat}{x:AS}{e:AM}{te:TE}{pos':Bf}(hN:X.N.Nodup)(hi:X.N[i]?=AA x)(hx:Loc X.env.scope x)(he:PE X e te)(hs:swapsWith e (AA (.Name x pos')) pos.line X.env=pure false:=by rfl)(hf:X.fn x=AC \/ X.env.scope.names.lookup x=AA .local:=by first|exact .inl rfl|exact .inr rfl|assumption):
  PS X (.Assign [.Name x pos'] e pos) (ydR te (ya4 i)):=by
 intro π s σ H D I h;refine wpAny_Assign_Name (thn (he π s σ H _ I h) λv s1 kq=>?_) hs;let⟨y,H1,I1,r1,q1⟩:=kq;exact zD I1 hN hi hx r1 (λs2 I2=>⟨_,H1,I2,q1⟩) hf
def yej(i j:Nat)(ta:TA):TS:=λD σ H=>ta σ H λvs H1=>∃v w,vs=[v,w]/\D.nx ((σ.set i (AA v)).set j (AA w)) H1
def zg9{i j:Nat}{x y:AS}{a b:AM}{ta:TA}{px py pt:Bf}{kt k2 pt2}(hc:X.calm=AC)(hN:X.N.Nodup)(hi:X.N[i]?=AA x)(hj:X.N[j]?=AA y)(hij:i≠j)
  (hx:X.env.scope.names.lookup x=AA .local) (hy:X.env.scope.names.lookup y=AA .local) (ha:PA X [a,b] ta)
  (hw:swappedStores [.Tuple [.Name x px,.Name y py] kt pt] (.Tuple [a,b] k2 pt2) X.env=pure (AA [x,y]))
  (hs:swapsWithSole [.Tuple [.Name x px,.Name y py] kt pt] (.Tuple [a,b] k2 pt2) pos.line X.env=pure false:=by rfl):
  PS X (.Assign [.Tuple [.Name x px,.Name y py] kt pt] (.Tuple [a,b] k2 pt2) pos) (yej i j ta):=by
 intro π s σ H D I h;rw[exec_Assign_arm];refine AB (Cz ?_);rw[hs];refine AB (AK ?_);rw[if_neg ⋯];refine AB (Tuple_ (thn (ha _ π s σ H _ I h) λus s1 kq=>?_));let⟨vs,H1,I1,r1,q1⟩:=kq;let⟨v,w,e1,q1⟩:=q1;subst e1;obtain⟨u1,u2,rfl,rv,rw'⟩:∃u1 u2,us=[u1,u2]/\RelV v u1/\RelV w u2:=by
  cases r1 with
  |cons p q=>
   cases q with
   |cons p' q'=>
    cases q'
    exact⟨_,_,rfl,p,p'⟩
 refine Aw ?_ (by show 2<=sizeLine;decide);have I2:Inv X π σ H1 {s1 with heap:=s1.heap.push {cls:=.type "tuple",data:=.seq [u1,u2].toArray} }:=I1.kept (t':=s1.toks) λb o e=>AL _ e;rw[hw];refine AB (AK ?_);show AQ (model X.prog X.w) X.A (do rule "assign.swapped-stores";let items <-unpackItems (.ref s1.heap.objs.size) 2 AE;assignInOrder [λv=>bindName X.env y v,λv=>bindName X.env x v] items.reverse;pure G0) _ _ _;refine AB (Dz (AB (unpackItems_tuple (items:=#[u1,u2]) (I.ok.hd hc) (IsTup.new s1.heap _) λh' hx'=>?_)));have I3:=I2.kept (h':=h') (t':=s1.toks) λb o e=>hx' b o (A3 (AN e)) e;show AQ _ _ (assignInOrder [λv=>bindName X.env y v,λv=>bindName X.env x v] [u2,u1] >>= λ_=>pure G0) _ _ _;refine AB (DU (wpAny_bindName (zD I3 hN hj (.inl hy) rw' (λs2 I4=>?_) (.inr hy))));refine DU (wpAny_bindName (zD I4 hN hi (.inl hx) rv (λs3 I5=>FF (AK ?_)) (.inr hx)));rw[List.set_comm _ _ (BY hij)]at I5;exact⟨_,H1,I5,q1⟩
def yfg(i:Nat)(te:TE)(ti:TIp):TS:=λD σ H=>∃x,σ[i]?=AA (AA x)/\te σ H λy H1=>ti x y H1 λz H2=>D.nx (σ.set i (AA z)) H2
def zhP{i:Nat}{x:AS}{e:AM}{te:TE}{op:Dn}{ti:TIp}{pos':Bf}(hN:X.N.Nodup)(hi:X.N[i]?=AA x)(hx:Loc X.env.scope x)(he:PE X e te)(ho:PIp X op ti)(hf:X.fn x=AC \/ X.env.scope.names.lookup x=AA .local:=by first|exact .inl rfl|exact .inr rfl|assumption):
  PS X (.AugAssign (.Name x pos') op e pos) (yfg i te ti):=by
 intro π s σ H D I h;let⟨v,e1,h⟩:=h;let⟨m,hn,hl⟩:=I.loc;have vis:Vis X.env.scope x:=by rcases hx with k|k;exact .inl k;exact .inr (.inl k)
 let⟨u,r,l⟩:=hl i x v hi e1 vis;refine wpAny_AugAssign_Name ?_;have go:AQ (model X.prog X.w) X.A (eval e X.env) (λw s₂=>AQ (model X.prog X.w) X.A (inplaceOp op u w) (λr s₃=>AQ (model X.prog X.w) X.A (storeName X.env x r) (λ_=>SP X π D .next) X.xe s₃) X.xe s₂) X.xe s:=by
  refine thn (he π s σ H _ I h) λw s1 kq=>?_;let⟨y,H1,I1,r1,q1⟩:=kq;refine thn (ho π s1 σ H1 v y u w _ I1 r r1 q1) λz s2 kq=>?_;let⟨zv,H2,I2,r2,q2⟩:=kq;exact zD I2 hN hi hx r2 (λs3 I3=>⟨_,H2,I3,q2⟩) hf
 rcases l with⟨hk,hm⟩|⟨hk,c,hc,hcell⟩
 .exact E3 I.ok.kind hk hn hm go
 .rcases hk with hk|hk
  .exact Ed I.ok.kind hk hc hcell go
  .rcases hx with k|k
   .have:X.env.scope.names.lookup x=AA .free:=hk;rw[k]at this;cases this
   .have:X.env.scope.names.lookup x=AA .free:=hk;rw[k]at this;cases this
def ipI(f:Int->Int->Int):TIp:=λx y H Q=>∃i j,x=.int i/\y=.int j/\Q (.int (f i j)) H
def zhr:PIp X .Add (ipI λi j=>i+j):=by
 intro π s σ H x y v u Q I r1 r2 h;let⟨i,j,e1,e2,q⟩:=h;subst e1;subst e2;let⟨t,rfl⟩:=r1;let⟨t',rfl⟩:=r2;exact iadd_int ⟨.int _,H,I.tok _,⟨_,rfl⟩,q⟩
end
section
variable {X:Cx}{pos:Bf}
def ycx(c:TT)(tb:TS):TS:=λD σ H=>∃W:Nat->St->Hp->Prop,(∃m,W m σ H)/\∀m σ H,W m σ H ->
 c σ H λb H1=>if b=AC then ∃N:St->Hp->Prop,(∀σ' H',N σ' H'->∃m',m' < m/\W m' σ' H')/\tb {D with nx:=N,ct:=N,bk:=D.nx} σ H1 else D.nx σ H1
def zeE{c:AM}{body:List Bd}{tc:TT}{tb:TS}(hp:Do (model X.prog X.w) X.A X.env X.xe)(hc:PT X c tc)(hb:PSs X body tb):PS X (.While c body [] pos) (ycx tc tb):=by
 intro π s σ H D I h;let⟨W,⟨m0,w0⟩,turn⟩:=h;refine wpAny_While (codeAny_whileLoop (λn s'=>∃σ' H',Inv X π σ' H' s'/\W n σ' H') ?_ m0 ⟨σ,H,I,w0⟩)
 rintro n s1 ⟨σ1,H1,I1,w1⟩
 refine Br hp (thn (hc π s1 σ1 H1 _ I1 (turn n σ1 H1 w1)) λb s2 kq=>?_);let⟨H2,I2,q2⟩:=kq
 cases b with
 |true=>
  let⟨N,hN,q2⟩:=q2;rw[if_pos rfl];refine Br hp (thn (hb π s2 σ1 H2 _ I2 q2) λf s3 q3=>?_)
  cases f with
  |next=>
   let⟨σ3,H3,I3,n3⟩:=q3;let⟨m',hm,w3⟩:=hN σ3 H3 n3;exact⟨m',hm,σ3,H3,I3,w3⟩
  |cont=>
   let⟨σ3,H3,I3,n3⟩:=q3;let⟨m',hm,w3⟩:=hN σ3 H3 n3;exact⟨m',hm,σ3,H3,I3,w3⟩
  |brk=>exact q3
  |ret v=>exact q3
 |false=>
  rw[if_neg AT];exact EQ ⟨σ1,H2,I2,q2⟩
end
structure It where
 go:Nat->Hp->Prop
 yld:Nat->Hp->V->Hp->Prop
 stop:Nat->Hp->Prop
def yaK(X:Cx)(π:List (AI×B8))(H:Hp)(b:AI):Prop:=
 H b=AE/\b≠X.env.locals/\b∉X.fs/\(b∈X.ex \/ X.s₀.heap.objs.size<=b)/\(∀x c,X.env.cells.lookup x=AA c->c≠b)/\∀p∈X.pn++π,p.1≠b
theorem Inv.fpOk{X:Cx}{π:List (AI×B8)}{σ:St}{H H':Hp}{s:AH}{b:AI}(I:Inv X π σ H s)(hb:s.heap.objs.size<=b)(hn:H' b=AE):yaK X π H' b:=by
 refine⟨hn,EA (AY I.lt hb),I.nofs hb,.inr (BK I.sz hb),λx c e z=>?_,λp hp z=>?_⟩
 .let⟨v,q⟩:=I.cell x c e;exact absurd (AY q.lt (by rw[z];exact hb)) (By _)
 .exact absurd (AY (AN (I.pin p hp).1) (by rw[z];exact hb)) (By _)
structure Turn(P:AV)(w:A5)(K:AF)(tg:AM)(J:It)(fp:List AI)(it:AI)(tn:Nat->Ak->Prop):Prop where
 mem:it∈fp
 obj:∀i h,tn i h->∀b∈fp,∃o,h.get? b=AA o/\∀v,o.data ≠ .cell v
 keep:∀i h h',tn i h->(∀b∈fp,∀o,h.get? b=AA o->h'.get? b=AA o)->tn i h'
 item:∀(X:Cx),X.prog=P->X.w=w->X.K=K->X.calm=AC->∀(i:Nat) (π:List (AI×B8)) (s:AH) (σ:St) (H:Hp) (E:AD->AH->Prop),Inv X π σ H s->(∀b∈fp,yaK X π H b)->tn i s.heap->J.go i H ->
  AQ (model P w) X.A (pyNext (.ref it)) (λr s1=>∃u,r=AA u /\
   AQ (model P w) X.A (letOwnedTupleGo tg (.ref it) u) (λ_ s2=>∃x H',Inv X π σ H' s2/\RelV x u/\J.yld i H x H'/\tn (i+1) s2.heap/\∀b∈fp,H' b=AE) E s1) E s
 done:∀(X:Cx),X.prog=P->X.w=w->X.K=K->X.calm=AC->∀(i:Nat) (π:List (AI×B8)) (s:AH) (σ:St) (H:Hp) (E:AD->AH->Prop),Inv X π σ H s->(∀b∈fp,yaK X π H b)->tn i s.heap->J.stop i H ->
  AQ (model P w) X.A (pyNext (.ref it)) (λr s1=>r=AE/\Inv X π σ H s1) E s
 self:∀(A:A7) (i:Nat) (s:AH) (Q:AD->AH->Prop) (E:AD->AH->Prop),tn i s.heap->Q (.ref it) s->AQ (model P w) A (pyIter (.ref it)) Q E s
abbrev TI:=St->Hp->(It->Hp->Prop)->Prop
def PIE(X:Cx)(π:List (AI×B8))(σ:St)(tg:AM)(R:It->Hp->Prop)(itv:AD)(s2:AH):Prop:=
 ∃(it:AI) (fp:List AI) (tn:Nat->Ak->Prop) (J:It) (H':Hp),itv=.ref it/\Inv X π σ H' s2/\Turn X.prog X.w X.K tg J fp it tn/\tn 0 s2.heap/\(∀b∈fp,yaK X π H' b)/\R J H'
def PI(X:Cx)(tg iter:AM)(wi:TI):Prop:=
 ∀(π:List (AI×B8)) (s:AH) (σ:St) (H:Hp) (R:It->Hp->Prop),Inv X π σ H s->wi σ H R ->
  AQ (model X.prog X.w) X.A (eval iter X.env) (λv s1=>AQ (model X.prog X.w) X.A (pyIter v) (PIE X π σ tg R) X.xe s1) X.xe s
def zeD{M:Model}{A:A7}{E:AD->AH->Prop}{s:AH}{tg:AM}{it:AI}{u:AD}{o:B8}{n:String}{vs:Array AD}{Q:Unit->AH->Prop}(ho:s.heap.get? it=AA o)(hc:o.cls=.type n)(hd:o.data=.fields vs)
  (hn:["enumerate","zip","dict_itemiterator","dict_reverseitemiterator","odict_iterator","itertools.zip_longest","itertools.pairwise"].contains n=AG) (hQ:Q () s):AQ M A (letOwnedTupleGo tg (.ref it) u) Q E s:=by
 unfold letOwnedTupleGo
 cases tg<;>first
  |exact AK hQ
  | (cases u<;>first
    |exact AK hQ
    | (refine AB (wpAny_load ho ?_)
       rw[hc,hd];show AQ M A (if (["enumerate","zip","dict_itemiterator","dict_reverseitemiterator","odict_iterator","itertools.zip_longest","itertools.pairwise"].contains n&&vs[0]? == AA (rawInt _))=AC then _ else _) Q E s;rw[if_neg (by intro h;rw[hn,DV]at h;cases h)];exact AK hQ))
def Itl(K:AF)(a:AI):It:=
 ⟨λi H=>∃xs x,SqL K H a xs/\xs[i]?=AA x,λi H x H'=>H'=H/\∀xs,SqL K H a xs->xs[i]?=AA x,λi H=>∃xs,SqL K H a xs/\xs.length<=i⟩
def Itt(K:AF)(a:AI):It:=
 ⟨λi H=>∃xs x,SqT K H a xs/\xs[i]?=AA x,λi H x H'=>H'=H/\∀xs,SqT K H a xs->xs[i]?=AA x,λi H=>∃xs,SqT K H a xs/\xs.length<=i⟩
def Itr(lo:Int)(n:Nat):It:=⟨λi _=>i<n,λi H x H'=>H'=H/\x=.int (lo+i),λi _=>n<=i⟩
def zc9{P:AV}{w:A5}{K:AF}{tg:AM}(a it:AI):Turn P w K tg (Itl K a) [it] it (λi h=>h.IsListIter it a i) where
 mem:=by simp
 obj:=λi h st b hb=>by
  have e:b=it:=by simpa using hb
  subst e;let⟨o,e,c,d⟩:=st;exact⟨o,e,λv z=>by rw[d]at z;cases z⟩
 keep:=λi h h' st k=>st.at λo e=>k it (by simp) o e
 item:=by
  intro X hP hw hK hc i π s σ H E I hf st hg;subst hP hw hK;let⟨xs,x,hq,hx⟩:=hg;let⟨its,rv,p,hz⟩:=I.list hq;let⟨u,hu,ru⟩:=rv.get hx;let⟨f0,f1,f2,f3,f4,f5⟩:=hf it (by simp);refine EB st p.isList (x:=u) (by simpa using hu) λh' st' sb=>?_;have I1:Inv X π σ H {s with heap:=h'}:=I.turned (t':=s.toks) (λb o hb e=>(sb.2 b hb).trans e) f0 f1 f3 f4 f5;let⟨o,e,c,d⟩:=id st';exact⟨u,rfl,zeD (s:={s with heap:=h'}) e c d ⋯ ⟨x,H,I1,ru,⟨rfl,λys hy=>by rw[I.list_inj hy hq];exact hx⟩,st',λb hb=>(hf b hb).1⟩⟩
 done:=by
  intro X hP hw hK hc i π s σ H E I hf st hg;subst hP hw hK;let⟨xs,hq,hx⟩:=hg;let⟨its,rv,p,hz⟩:=I.list hq;let⟨f0,f1,f2,f3,f4,f5⟩:=hf it (by simp);have hl:=rv.length;exact EU (I.ok.hd hc) st p.isList (by simp;lia) λh' eb=>⟨rfl,I.turned (t':=s.toks) (λb o hb e=>eb b o hb e) f0 f1 f3 f4 f5⟩
 self:=λ_ _ _ _ _ st h=>wpAny_pyIter_listiter st h
def zcv{P:AV}{w:A5}{K:AF}{tg:AM}(a it:AI):Turn P w K tg (Itt K a) [it] it (λi h=>h.IsTupleIter it a i) where
 mem:=by simp
 obj:=λi h st b hb=>by
  have e:b=it:=by simpa using hb
  subst e;let⟨o,e,c,d⟩:=st;exact⟨o,e,λv z=>by rw[d]at z;cases z⟩
 keep:=λi h h' st k=>st.at λo e=>k it (by simp) o e
 item:=by
  intro X hP hw hK hc i π s σ H E I hf st hg;subst hP hw hK;let⟨xs,x,hq,hx⟩:=hg;let⟨its,rv,p,hz⟩:=I.tuple hq;let⟨u,hu,ru⟩:=rv.get hx;let⟨f0,f1,f2,f3,f4,f5⟩:=hf it (by simp);refine wpAny_pyNext_tuple_item st (show s.heap.IsTuple a its.toArray from p) (x:=u) (by simpa using hu) λh' st' sb=>?_;have I1:Inv X π σ H {s with heap:=h'}:=I.turned (t':=s.toks) (λb o hb e=>(sb.2 b hb).trans e) f0 f1 f3 f4 f5;let⟨o,e,c,d⟩:=id st';exact⟨u,rfl,zeD (s:={s with heap:=h'}) e c d ⋯ ⟨x,H,I1,ru,⟨rfl,λys hy=>by rw[I.tuple_inj hy hq];exact hx⟩,st',λb hb=>(hf b hb).1⟩⟩
 done:=by
  intro X hP hw hK hc i π s σ H E I hf st hg;subst hP hw hK;let⟨xs,hq,hx⟩:=hg;let⟨its,rv,p,hz⟩:=I.tuple hq;let⟨f0,f1,f2,f3,f4,f5⟩:=hf it (by simp);have hl:=rv.length;exact wpAny_pyNext_tuple_end (I.ok.hd hc) st (show s.heap.IsTuple a its.toArray from p) (by simp;lia) λh' eb=>⟨rfl,I.turned (t':=s.toks) (λb o hb e=>eb b o hb e) f0 f1 f3 f4 f5⟩
 self:=λ_ _ _ _ _ st h=>wpAny_pyIter_tupleiter st h
def zcH{P:AV}{w:A5}{K:AF}{tg:AM}(it:AI)(lo:Int)(n:Nat):Turn P w K tg (Itr lo n) [it] it (λi h=>IsRangeIter h it (lo+(i:Nat)*1) ((n:Int)-(i:Nat)) 1) where
 mem:=by simp
 obj:=λi h st b hb=>by
  have e:b=it:=by simpa using hb
  subst e;exact⟨_,st,λv z=>by
   have z':Data.fields _=Data.cell v:=z
   cases z'⟩
 keep:=λi h h' st k=>k it (by simp) _ st
 item:=by
  intro X hP hw hK hc i π s σ H E I hf st hg;subst hP hw hK;let⟨f0,f1,f2,f3,f4,f5⟩:=hf it (by simp);have W:=Walks.range (prog:=X.prog) (w:=X.w) (I.ok.hd hc) it lo 1 n;refine W.item i s _ _ hg st λv h' tk hv st' kk=>?_;let⟨t,rfl⟩:=hv;have I1:Inv X π σ H {s with heap:=h',toks:=tk}:=I.turned (λb o hb e=>kk b o (by simpa using hb) e) f0 f1 f3 f4 f5;refine⟨_,rfl,zeD (s:={s with heap:=h',toks:=tk}) (n:="range_iterator") st' rfl rfl ⋯ ⟨.int (lo+i),H,I1,⟨t,?_⟩,⟨rfl,rfl⟩,st',λb hb=>(hf b hb).1⟩⟩;rw[Gg]
 done:=by
  intro X hP hw hK hc i π s σ H E I hf st hg;subst hP hw hK;let⟨f0,f1,f2,f3,f4,f5⟩:=hf it (by simp);exact wpAny_pyNext_range_end (I.ok.hd hc) st (by have:n<=i:=hg;lia) λh' eb=>⟨rfl,I.turned (t':=s.toks) (λb o hb e=>eb b o hb e) f0 f1 f3 f4 f5⟩
 self:=λ_ _ _ _ _ st h=>wpAny_pyIter_rangeiter st h
section
variable {X:Cx}{tg:AM}
def zeP{π:List (AI×B8)}{σ:St}{H:Hp}{s:AH}{R:It->Hp->Prop}{E:AD->AH->Prop}{lo hi:Int}{t u v:Go}{tk:Nat}(I:Inv X π σ H s)(h1:-(2^62)<=lo)(h2:lo<2^62)(h3:-(2^62)<=hi)(h4:hi<2^62)
  (q:R (Itr lo (hi-lo).toNat) H):AQ (model X.prog X.w) X.A (pyIter (.ref s.heap.objs.size)) (PIE X π σ tg R) E {s with heap:=s.heap.push {cls:=.type "range",data:=.fields #[.int lo t,.int hi u,.int 1 v]},toks:=tk}:=by
 refine wpAny_pyIter_range (IsRange.new ..) (small_one h1 h2 h3 h4) ?_;have I1:Inv X π σ H {s with heap:=s.heap.push {cls:=.type "range",data:=.fields #[.int lo t,.int hi u,.int 1 v]},toks:=tk}:=I.kept λb o e=>AL _ e;refine⟨(s.heap.push {cls:=.type "range",data:=.fields #[.int lo t,.int hi u,.int 1 v]}).objs.size,[(s.heap.push {cls:=.type "range",data:=.fields #[.int lo t,.int hi u,.int 1 v]}).objs.size],_,_,H,rfl,
  I1.kept (t':=tk) λb o e=>AL _ e,zcH _ lo (hi-lo).toNat,?_,λb hb=>?_,q⟩
 .have e1:lo+((0:Nat):Int)*1=lo:=by simp
  have e2:(((hi-lo).toNat:Nat):Int)-((0:Nat):Int)=G1 lo hi 1:=by rw[rangeSize_one];split<;>lia
  show IsRangeIter _ _ (lo+((0:Nat):Int)*1) ((((hi-lo).toNat:Nat):Int)-((0:Nat):Int)) 1;rw[e1,e2];exact A1 _ rfl
 .have e:b=(s.heap.push {cls:=.type "range",data:=.fields #[.int lo t,.int hi u,.int 1 v]}).objs.size:=by simpa using hb
  subst e;exact I1.fpOk (AR _) (I1.hok.fresh (AR _))
def yc5(ta:TA):TI:=λσ H R=>ta σ H λvs H1=>∃j:Int,vs=[.int j]/\-(2^62)<=j/\j<2^62/\R (Itr 0 j.toNat) H1
def zd6{a:AM}{ta:TA}{p pos:Bf}(hg:Gl X "range")(hm:X.mg "range"=AE)(ha:PA X [a] ta)(hs:starEach [a] X.env=[(AG,eval a X.env)]:=by rfl):PI X tg (.Call (.Name "range" p) [a] [] pos) (yc5 ta):=by
 intro π s σ H R I h;refine Call_ (zbs I hg hm boot_range (CN (thn (ha pos π s σ H _ I h) λus s1 kq=>?_) hs rfl));let⟨vs,H1,I1,r1,q1⟩:=kq;let⟨j,e,q1,q2,q⟩:=q1;subst e
 cases r1 with
 |cons r rr=>
  cases rr
  let⟨t,rfl⟩:=r;exact call_range_1 (zeP I1 ∅ ∅ q1 q2 (by simpa using q))
def ye6(wi:TI)(g:TG)(tb:TS):TS:=λD σ H=>wi σ H λJ H1=>∃W:Nat->Nat->St->Hp->Prop,(∃m,W 0 m σ H1)/\∀i m σ H,W i m σ H ->
 (J.stop i H/\D.nx σ H) \/ (J.go i H/\∃N:St->Hp->Prop,(∀σ' H',N σ' H'->∃m',m' < m/\W (i+1) m' σ' H')/\∀x H',J.yld i H x H'->g x σ H' λσ2 H2=>tb {D with nx:=N,ct:=N,bk:=D.nx} σ2 H2)
def yaI(fp:List AI)(h:Ak):List (AI×B8):=fp.filterMap λb=>(h.get? b).map λo=>(b,o)
def zF{fp:List AI}{h:Ak}{b:AI}{o:B8}(hb:b∈fp)(e:h.get? b=AA o):(b,o)∈yaI fp h:=DW.mpr ⟨b,hb,by rw[e];rfl⟩
def zdR{fp:List AI}{h:Ak}{p:AI×B8}(hp:p∈yaI fp h):p.1∈fp/\h.get? p.1=AA p.2:=by
 let⟨b,hb,e⟩:=DW.mp hp
 cases q:h.get? b with
 |none=>rw[q]at e;cases e
 |some o=>
  rw[q]at e;have e':(b,o)=p:=A0 e;subst e';exact⟨hb,q⟩
theorem Inv.pinned{π:List (AI×B8)}{σ:St}{H:Hp}{s:AH}{fp:List AI}(I:Inv X π σ H s)(hf:∀b∈fp,yaK X π H b)(ho:∀b∈fp,∃o,s.heap.get? b=AA o/\∀v,o.data ≠ .cell v):Inv X (π++yaI fp s.heap) σ H s:=
 I.pins_of λp hp=>(C0.mp hp).elim (λz=>I.pin p (Ad _ z)) λz=>by
  let⟨hb,e⟩:=zdR z;let⟨f0,f1,f2,_⟩:=hf p.1 hb;let⟨o,e',d⟩:=ho p.1 hb;rw[e]at e';cases e';exact⟨e,f0,f1,f2,d⟩
theorem Inv.unpinned{π pl:List (AI×B8)}{σ:St}{H:Hp}{s:AH}(I:Inv X (π++pl) σ H s):Inv X π σ H s:=I.pins_of λp hp=>I.pin p (Ad _ (E2 _ hp))
def zhV{iter:AM}{body:List Bd}{wi:TI}{g:TG}{tb:TS}{pos:Bf}(hp:Do (model X.prog X.w) X.A X.env X.xe)(hc:X.calm=AC)(hi:PI X tg iter wi)(hg:PG X tg g)(hb:PSs X body tb)
  (hs:∀x,foldedSetIterable iter X.env x=pure x:=by intro _;rfl):PS X (.For tg iter body [] pos) (ye6 wi g tb):=by
 intro π s σ H D I h;refine wpAny_For (thn (hi π s σ H _ I h) λv s1 h1=>thn h1 λitv s2 h2=>?_) hs;let⟨it,fp,tn,J,H2,e,I2,T,st2,f2,W,⟨m0,w0⟩,turn⟩:=h2;subst e;have stat:∀{H':Hp},(∀b∈fp,H' b=AE)->∀b∈fp,yaK X π H' b:=λhn b hb=>⟨hn b hb,(f2 b hb).2⟩;refine codeAny_forLoop_any (λn s'=>∃i σ' H',Inv X π σ' H' s'/\tn i s'.heap/\(∀b∈fp,H' b=AE)/\W i n σ' H') ?_ m0 ⟨0,σ,H2,I2,st2,λb hb=>(f2 b hb).1,w0⟩
 rintro n s3 ⟨i,σ3,H3,I3,st3,fr3,w3⟩
 rcases turn i n σ3 H3 w3 with⟨stop,qn⟩|⟨go,N,hN,step⟩
 .refine Br hp (thn (T.done X rfl rfl rfl hc i π s3 σ3 H3 X.xe I3 (stat fr3) st3 stop) λr s4 kq=>?_);let⟨hr,I4⟩:=kq;subst hr;exact EQ ⟨σ3,H3,I4,qn⟩
 .refine Br hp (thn (T.item X rfl rfl rfl hc i π s3 σ3 H3 X.xe I3 (stat fr3) st3 go) λr s4 kq=>?_);let⟨u,hr,h4⟩:=kq;subst hr;refine Br hp (thn h4 λ_ s5 kq=>?_);let⟨x,H5,I5,r5,y5,st5,fr5⟩:=kq;have I5':=I5.pinned (stat fr5) (T.obj _ _ st5);refine Br hp (thn (hg _ s5 σ3 H5 x u _ I5' r5 (step x H5 y5)) λ_ s6 kq=>?_);let⟨σ6,H6,I6,q6⟩:=kq;refine Br hp (thn (hb _ s6 σ6 H6 _ I6 q6) λf s7 q7=>?_);have again:∀{σ7:St} {H7:Hp},Inv X (π++yaI fp s5.heap) σ7 H7 s7->N σ7 H7->∃m,m<n/\∃i σ' H',Inv X π σ' H' s7/\tn i s7.heap/\(∀b∈fp,H' b=AE)/\W i m σ' H':=λ{σ7 H7} I7 n7=>by
   let⟨m',hm,w7⟩:=hN σ7 H7 n7;refine⟨m',hm,i+1,σ7,H7,I7.unpinned,T.keep _ _ _ st5 λb hb o e=>(I7.pin (b,o) (Ad _ (Ad _ (zF hb e)))).1,λb hb=>?_,w7⟩;let⟨o,e,d⟩:=T.obj _ _ st5 b hb;exact(I7.pin (b,o) (Ad _ (Ad _ (zF hb e)))).2.1
  cases f with
  |next=>let⟨σ7,H7,I7,n7⟩:=q7;exact again I7 n7
  |cont=>let⟨σ7,H7,I7,n7⟩:=q7;exact again I7 n7
  |brk=>let⟨σ7,H7,I7,q7⟩:=q7;exact⟨σ7,H7,I7.unpinned,q7⟩
  |ret v=>let⟨x7,σ7,H7,I7,r7,q7⟩:=q7;exact⟨x7,σ7,H7,I7.unpinned,r7,q7⟩
end
abbrev R2:=V->V->Hp->VK->Prop
def OpR(X:Cx)(f:AD->AD->Gp AD)(r:R2):Prop:=
 ∀(π:List (AI×B8)) (s:AH) (σ:St) (H:Hp) (x y:V) (v u:AD) (Q:VK),Inv X π σ H s->RelV x v->RelV y u->r x y H Q ->
  AQ (model X.prog X.w) X.A (f v u) (EP X π σ Q) X.xe s
def UnR(X:Cx)(f:AD->Gp AD)(r:V->Hp->VK->Prop):Prop:=
 ∀(π:List (AI×B8)) (s:AH) (σ:St) (H:Hp) (x:V) (v:AD) (Q:VK),Inv X π σ H s->RelV x v->r x H Q ->
  AQ (model X.prog X.w) X.A (f v) (EP X π σ Q) X.xe s
def yN(X:Cx)(f:AD)(r:List V->Hp->VK->Prop):Prop:=
 ∀(π:List (AI×B8)) (s:AH) (σ:St) (H:Hp) (xs:List V) (us:List AD) (Q:VK),Inv X π σ H s->Vals xs us->r xs H Q ->
  AQ (model X.prog X.w) X.A (call f us) (EP X π σ Q) X.xe s
def yfV(X:Cx)(r:V->Hp->(Bool->Hp->Prop)->Prop):Prop:=
 ∀(π:List (AI×B8)) (s:AH) (σ:St) (H:Hp) (x:V) (v:AD) (Q:Bool->Hp->Prop),Inv X π σ H s->RelV x v->r x H Q ->
  AQ (model X.prog X.w) X.A (truthy v) (TP X π σ Q) X.xe s
def tOp(r:R2)(ta tb:TE):TE:=λσ H Q=>ta σ H λx H1=>tb σ H1 λy H2=>r x y H2 Q
def tUn(r:V->Hp->VK->Prop)(ta:TE):TE:=λσ H Q=>ta σ H λx H1=>r x H1 Q
def rI(C:Int->Int->Prop)(g:Int->Int->V):R2:=λx y H Q=>∃i j,x=.int i/\y=.int j/\C i j/\Q (g i j) H
def rI0(g:Int->Int->V):R2:=λx y H Q=>∃i j,x=.int i/\y=.int j/\Q (g i j) H
def rU(g:Int->V):V->Hp->VK->Prop:=λx H Q=>∃i,x=.int i/\Q (g i) H
section
variable {X:Cx}{a b c:AM}{ta tb tc:TE}{pos:Bf}
def zi6(ha:PE X a ta)(hb:PE X b tb){π:List (AI×B8)}{s:AH}{σ:St}{H:Hp}{R:V->V->Hp->Prop}(I:Inv X π σ H s)
  (h:ta σ H λx H1=>tb σ H1 λy H2=>R x y H2) {Q:AD->AH->Prop} {f:AD->AD->Gp AD}
  (hf:∀v u s2 x y H2,Inv X π σ H2 s2->RelV x v->RelV y u->R x y H2->AQ (model X.prog X.w) X.A (f v u) Q X.xe s2):
  AQ (model X.prog X.w) X.A (eval a X.env) (λv s₁=>AQ (model X.prog X.w) X.A (eval b X.env) (λu s₂=>AQ (model X.prog X.w) X.A (f v u) Q X.xe s₂) X.xe s₁) X.xe s:=by
 refine thn (ha π s σ H _ I h) λv s1 kq=>?_;let⟨x,H1,I1,r1,q1⟩:=kq;refine thn (hb π s1 σ H1 _ I1 q1) λu s2 kq=>?_;let⟨y,H2,I2,r2,q2⟩:=kq;exact hf v u s2 x y H2 I2 r1 r2 q2
def ziH{op:Dn}{r:R2}(ho:OpR X (binaryOp op) r)(ha:PE X a ta)(hb:PE X b tb):PE X (.BinOp a op b pos) (tOp r ta tb):=by
 intro π s σ H Q I h;exact wpAny_BinOp (zi6 ha hb I h λv u s2 x y H2 I2 rx ry q=>ho π s2 σ H2 x y v u Q I2 rx ry q)
def ziP{op:UnaryOp}{r:V->Hp->VK->Prop}(ho:UnR X (unaryOp op) r)(ha:PE X a ta):PE X (.UnaryOp op a pos) (tUn r ta):=by
 intro π s σ H Q I h;exact UnaryOp_ (thn (ha π s σ H _ I h) λv s1 ⟨x,H1,I1,r1,q1⟩=>ho π s1 σ H1 x v Q I1 r1 q1)
theorem opI{f:AD->AD->Gp AD}{C:Int->Int->Prop}{g:Int->Int->Int}
  (rule:∀(i j:Int) (t u:Go) (s:AH) (Q:AD->AH->Prop) (E:AD->AH->Prop),C i j->Q (.int (g i j) s.toks) {s with toks:=s.toks+1}->AQ (model X.prog X.w) X.A (f (.int i t) (.int j u)) Q E s):
  OpR X f (rI C λi j=>.int (g i j)):=by
 intro π s σ H x y v u Q I rx ry h;let⟨i,j,rfl,rfl,hc,q⟩:=h;let⟨t,rfl⟩:=rx;let⟨t',rfl⟩:=ry;exact rule i j t t' s _ _ hc ⟨.int (g i j),H,I.tok _,⟨_,rfl⟩,q⟩
def zja{f:AD->AD->Gp AD}{g:Int->Int->Int}
  (rule:∀(i j:Int) (t u:Go) (s:AH) (Q:AD->AH->Prop) (E:AD->AH->Prop),Q (.int (g i j) s.toks) {s with toks:=s.toks+1}->AQ (model X.prog X.w) X.A (f (.int i t) (.int j u)) Q E s):
  OpR X f (rI0 λi j=>.int (g i j)):=by
 intro π s σ H x y v u Q I rx ry h;let⟨i,j,rfl,rfl,q⟩:=h;let⟨t,rfl⟩:=rx;let⟨t',rfl⟩:=ry;exact rule i j t t' s _ _ ⟨.int (g i j),H,I.tok _,⟨_,rfl⟩,q⟩
def zi4{f:AD->AD->Gp AD}{g:Int->Int->Bool}
  (rule:∀(i j:Int) (t u:Go) (s:AH) (Q:AD->AH->Prop) (E:AD->AH->Prop),Q (.bool (g i j)) s->AQ (model X.prog X.w) X.A (f (.int i t) (.int j u)) Q E s):
  OpR X f (rI0 λi j=>.bl (g i j)):=by
 intro π s σ H x y v u Q I rx ry h;let⟨i,j,rfl,rfl,q⟩:=h;let⟨t,rfl⟩:=rx;let⟨t',rfl⟩:=ry;exact rule i j t t' s _ _ ⟨.bl (g i j),H,I,rfl,q⟩
def yem(i j:Int):Prop:=0<=j/\j<=1000000/\i.natAbs<2^64
def ycz(i j:Int):Prop:=(-(2^64)<i/\i<2^64) \/ (-(2^64)<j/\j<2^64)
theorem ycz.ok{i j:Int}(h:ycz i j):IntMulOk i j:=by
 rcases h with⟨h1,h2⟩|⟨h1,h2⟩
 .exact .of_left (intBits_le_64 h1 h2)
 .exact .of_right (intBits_le_64 h1 h2)
def zhR:OpR X (binaryOp .Add) (rI0 λi j=>.int (i+j)):=zja λ_ _ _ _ _ _ _ q=>add_int q
def zhz:OpR X (binaryOp .Sub) (rI0 λi j=>.int (i-j)):=zja λ_ _ _ _ _ _ _ q=>sub_int q
def zh9:OpR X (binaryOp .Mult) (rI ycz λi j=>.int (i*j)):=opI λ_ _ _ _ _ _ _ hc q=>mul_int q hc.ok
def zhS:OpR X (binaryOp .Mod) (rI (λ_ j=>0<j) λi j=>.int (i%j)):=opI λi j _ _ _ _ _ hc q=>by
 have h1:(0:Int)<j:=hc;exact mod_int' ∅ (by rw[Int.fmod_eq_emod_of_nonneg i ∅];exact q)
def zhm:OpR X (binaryOp .Pow) (rI yem λi j=>.int (i^j.toNat)):=opI λ_ _ _ _ _ _ _ hc q=>pow_int_small hc.1 hc.2.1 hc.2.2 q
theorem unI{f:AD->Gp AD}{g:Int->Int}
  (rule:∀(i:Int) (t:Go) (s:AH) (Q:AD->AH->Prop) (E:AD->AH->Prop),Q (.int (g i) s.toks) {s with toks:=s.toks+1}->AQ (model X.prog X.w) X.A (f (.int i t)) Q E s):
  UnR X f (rU λi=>.int (g i)):=by
 intro π s σ H x v Q I rx h;let⟨i,rfl,q⟩:=h;let⟨t,rfl⟩:=rx;exact rule i t s _ _ ⟨.int (g i),H,I.tok _,⟨_,rfl⟩,q⟩
def zij:UnR X (unaryOp .USub) (rU λi=>.int (-i)):=unI λ_ _ _ _ _ q=>neg_int q
def zc6:OpR X (binaryOp .Add) (λx y H Q=>∃i k,x=.int i/\y=.bl k/\Q (.int (i+b2i k)) H):=by
 intro π s σ H x y v u Q I rx ry h;let⟨i,k,rfl,rfl,q⟩:=h;let⟨t,rfl⟩:=rx
 cases ry
 exact add_int_bool ⟨.int (i+b2i k),H,I.tok _,⟨_,rfl⟩,q⟩
end
def yfZ:V->V->Bool
 |.non,.non=>AC | .non,.int _=>AC | .int _,.non=>AC | .non,.bl _=>AC | .bl _,.non=>AC | .non,.str _=>AC | .str _,.non=>AC
 |.int _,.int _=>AC | .bl _,.bl _=>AC | .str _,.str _=>AC | .byt _,.byt _=>AC
 |.int _,.str _=>AC | .str _,.int _=>AC | .bl _,.str _=>AC | .str _,.bl _=>AC
 |_,_=>AG
def rNe:R2:=λx y H Q=>yfZ x y=AC/\Q (.bl (!decide (x=y))) H
def zdT{i j:Int}:decide (V.int i=V.int j)=(i==j):=by
 rw[CJ];simp
def zic{i j:Bool}:decide (V.bl i=V.bl j)=(i==j):=by
 rw[CJ];simp
def zgr{i j:AS}:decide (V.str i=V.str j)=(i==j):=by
 rw[CJ];simp
def zf8{i j:Array UInt8}:decide (V.byt i=V.byt j)=(i.toList==j.toList):=by
 rw[CJ]
 cases i
 cases j
 simp
section
variable {X:Cx}{a b c:AM}{ta tb tc:TE}{pos:Bf}
def zf{π:List (AI×B8)}{σ:St}{H:Hp}{s:AH}{Q:VK}{k k':Bool}(I:Inv X π σ H s)(q:Q (.bl k) H)(e:k=k'):EP X π σ Q (.bool k') s:=by
 subst e;exact⟨.bl k,H,I,rfl,q⟩
def ziL:OpR X (compareOp .NotEq) rNe:=by
 intro π s σ H x y v u Q I rx ry h;let⟨hs,q⟩:=h
 cases x with
 |non=>
  cases rx
  cases y with
  |non=>cases ry;exact GA (zf I q (by simp))
  |bl j=>cases ry;exact GB (zf I q (by simp))
  |int j=>let⟨t',rfl⟩:=ry;exact GL (zf I q (by simp))
  |str j=>let⟨t',rfl⟩:=ry;exact GM (zf I q (by simp))
  |_=>exact absurd (show AG=AC from hs) AT
 |bl i=>
  cases rx
  cases y with
  |non=>cases ry;exact GE (zf I q (by simp))
  |bl j=>cases ry;exact ne_bool (zf I q (congrArg not zic))
  |str j=>let⟨t',rfl⟩:=ry;exact GF (zf I q (by simp))
  |_=>exact absurd (show AG=AC from hs) AT
 |int i=>
  let⟨t,rfl⟩:=rx
  cases y with
  |non=>cases ry;exact GN (zf I q (by simp))
  |int j=>let⟨t',rfl⟩:=ry;exact ne_int (zf I q (congrArg not zdT))
  |str j=>let⟨t',rfl⟩:=ry;exact GO (zf I q (by simp))
  |_=>exact absurd (show AG=AC from hs) AT
 |str i=>
  let⟨t,rfl⟩:=rx
  cases y with
  |non=>cases ry;exact GP (zf I q (by simp))
  |bl j=>cases ry;exact GG (zf I q (by simp))
  |int j=>let⟨t',rfl⟩:=ry;exact GQ (zf I q (by simp))
  |str j=>let⟨t',rfl⟩:=ry;exact ne_str (zf I q (congrArg not zgr))
  |_=>exact absurd (show AG=AC from hs) AT
 |byt i=>
  let⟨t,rfl⟩:=rx
  cases y with
  |byt j=>let⟨t',rfl⟩:=ry;exact PySem.W.ne_bytes (zf I q (congrArg not zf8))
  |_=>exact absurd (show AG=AC from hs) AT
 |_=>cases y<;>exact absurd (show AG=AC from hs) AT
def ziS:OpR X (compareOp .Lt) (rI0 λi j=>.bl (decide (i<j))):=zi4 λ_ _ _ _ _ _ _ q=>lt_int q
def ziE:OpR X (compareOp .LtE) (rI0 λi j=>.bl (decide (i<=j))):=zi4 λ_ _ _ _ _ _ _ q=>le_int q
def ziO:OpR X (compareOp .Gt) (rI0 λi j=>.bl (decide (j<i))):=zi4 λ_ _ _ _ _ _ _ q=>gt_int q
def zix:OpR X (compareOp .GtE) (rI0 λi j=>.bl (decide (j<=i))):=zi4 λ_ _ _ _ _ _ _ q=>ge_int q
def zcM:OpR X (compareOp .Lt) (λx y H Q=>∃i j,x=.str i/\y=.str j/\Q (.bl (decide (i.cps.toList<j.cps.toList))) H):=by
 intro π s σ H x y v u Q I rx ry h;let⟨i,j,rfl,rfl,q⟩:=h;let⟨t,rfl⟩:=rx;let⟨t',rfl⟩:=ry;exact lt_str (zf I q rfl)
def zcP:OpR X (compareOp .In) (λx y H Q=>∃i j,x=.str i/\y=.str j/\Q (.bl (!(Dp j i 0 j.length 1).isEmpty)) H):=by
 intro π s σ H x y v u Q I rx ry h;let⟨i,j,rfl,rfl,q⟩:=h;let⟨t,rfl⟩:=rx;let⟨t',rfl⟩:=ry;exact in_str (zf I q rfl)
def zf9{op:Ei}{r:R2}(ho:OpR X (compareOp op) r)(ha:PE X a ta)(hb:PE X b tb)(hm:behindInMarks op b=AG):PE X (.Compare a [op] [b] pos) (tOp r ta tb):=by
 intro π s σ H Q I h;exact wpAny_Compare1 (zi6 ha hb I h λv u s2 x y H2 I2 rx ry q=>ho π s2 σ H2 x y v u Q I2 rx ry q) hm
def ybS(t:TE):TT:=λσ H Q=>t σ H λx H'=>∃k,x=.bl k/\Q k H'
def zbT{op:Ei}{r:R2}(ho:OpR X (compareOp op) r)(ha:PE X a ta)(hb:PE X b tb)(hm:behindInMarks op b=AG):PT X (.Compare a [op] [b] pos) (ybS (tOp r ta tb)):=by
 intro π s σ H Q I h;refine wpAny_isTrue_Compare1 (thn (ha π s σ H _ I h) λv s1 ⟨x,H1,I1,r1,q1⟩=>thn (hb π s1 σ H1 _ I1 q1) λu s2 ⟨y,H2,I2,r2,q2⟩=>
  thn (ho π s2 σ H2 x y v u _ I2 r1 r2 q2) λc s3 ⟨z,H3,I3,r3,k,e,q3⟩=>?_) hm
 subst e
 cases r3
 exact BO ⟨H3,I3,q3⟩
def ybH(r r':R2)(ta tb tc:TE):TE:=λσ H Q=>ta σ H λx H1=>tb σ H1 λy H2=>r x y H2 λz H3=>∃k,z=.bl k /\
 (if k=AC then tc σ H3 λw' H4=>r' y w' H4 Q else Q (.bl AG) H3)
def zeY{op op':Ei}{r r':R2}(ho:OpR X (compareOp op) r)(ho':OpR X (compareOp op') r')(ha:PE X a ta)(hb:PE X b tb)(hc:PE X c tc)
  (hm:lastMarks [op,op'] [b,c]=false:=by with_unfolding_all rfl):PE X (.Compare a [op,op'] [b,c] pos) (ybH r r' ta tb tc):=by
 intro π s σ H Q I h;refine Compare_chain (thn (ha π s σ H _ I h) λv s1 ⟨x,H1,I1,r1,q1⟩=>chain_link (thn (hb π s1 σ H1 _ I1 q1) λu s2 ⟨y,H2,I2,r2,q2⟩=>
  thn (ho π s2 σ H2 x y v u _ I2 r1 r2 q2) λd s3 ⟨z,H3,I3,r3,k,e,q3⟩=>?_)) hm
 subst e
 cases r3
 refine BO ?_
 cases k with
 |false=>exact ite_ff ⟨.bl AG,H3,I3,rfl,q3⟩
 |true=>exact ite_tt (chain_last (thn (hc π s3 σ H3 _ I3 q3) λw' s4 ⟨z',H4,I4,r4,q4⟩=>ho' π s4 σ H4 y z' u w' Q I4 r2 r4 q4))
def zeW{op op':Ei}{r r':R2}(ho:OpR X (compareOp op) r)(ho':OpR X (compareOp op') r')(ha:PE X a ta)(hb:PE X b tb)(hc:PE X c tc)
  (hm:lastMarks [op,op'] [b,c]=false:=by with_unfolding_all rfl):PT X (.Compare a [op,op'] [b,c] pos) (ybS (ybH r r' ta tb tc)):=by
 intro π s σ H Q I h;refine isTrue_chain (thn (ha π s σ H _ I h) λv s1 ⟨x,H1,I1,r1,q1⟩=>test_link (thn (hb π s1 σ H1 _ I1 q1) λu s2 ⟨y,H2,I2,r2,q2⟩=>
  thn (ho π s2 σ H2 x y v u _ I2 r1 r2 q2) λd s3 ⟨z,H3,I3,r3,k,e,q3⟩=>?_)) hm
 subst e
 cases r3
 refine BO ?_
 cases k with
 |false=>
  let⟨k',e',q'⟩:=q3
  cases e'
  exact ite_ff ⟨H3,I3,q'⟩
 |true=>
  refine ite_tt (test_last (thn (hc π s3 σ H3 _ I3 q3) λw' s4 kq=>?_));let⟨z',H4,I4,r4,q4⟩:=kq;refine thn (ho' π s4 σ H4 y z' u w' _ I4 r2 r4 q4) λd' s5 kq=>?_;let⟨z2,H5,I5,r5,k2,e2,q5⟩:=kq;subst e2
  cases r5
  exact BO ⟨H5,I5,q5⟩
def ydt(K:AF)(x:V)(H:Hp)(k:Bool):Prop:=
 match x with
 |.non=>k=AG
 |.bl b=>k=b
 |.int i=>k=(i != 0)
 |.str y=>y.length<=sizeLine/\k=((y.length:Int) != 0)
 |.byt y=>y.size<=sizeLine/\k=((y.size:Int) != 0)
 |.ref p=>(∃xs,SqL K H p xs/\k=!xs.isEmpty) \/ (∃xs,SqT K H p xs/\k=!xs.isEmpty) \/ ∃kvs,H p=AA (.dK kvs)/\k=!kvs.isEmpty
 |_=>False
def zcI{κ:Type}{kvs:List (κ×V)}{vs:List (κ×AD)}(r:KV kvs vs):(!vs.isEmpty)=!kvs.isEmpty:=by
 cases r<;>rfl
def zaD{xs:List V}{its:List AD}(r:Vals xs its):(!its.toArray.isEmpty)=!xs.isEmpty:=by
 cases r<;>simp
def zi1:(sizeLine:Nat)<2^63:=by rw[Ax];decide
def zid:yfV X (λx H Q=>∃k,ydt X.K x H k/\Q k H):=by
 intro π s σ H x v Q I rx h;let⟨k,e,q⟩:=h;have hl:=zi1;have hs:sizeLine=16777216:=Ax
 cases x with
 |non=>
  cases rx
  have e':k=false:=e;subst e';exact truthy_none ⟨H,I,q⟩
 |bl b=>
  cases rx
  have e':k=b:=e;subst e';exact BO ⟨H,I,q⟩
 |int i=>
  let⟨t,rfl⟩:=rx;have e':k=(i != 0):=e;subst e';exact PySem.P.truthy_int ⟨H,I,q⟩
 |str y=>
  let⟨t,rfl⟩:=rx;obtain⟨hy,e'⟩:y.length<=sizeLine/\k=((y.length:Int) != 0):=e;subst e';exact PySem.P.truthy_str ∅ ⟨H,I.tok _,q⟩
 |byt y=>
  let⟨t,rfl⟩:=rx;obtain⟨hy,e'⟩:y.size<=sizeLine/\k=((y.size:Int) != 0):=e;subst e';exact PySem.W.truthy_bytes ∅ ⟨H,I.tok _,q⟩
 |ref p=>
  cases rx
  have e':(∃xs,SqL X.K H p xs/\k=!xs.isEmpty) \/ (∃xs,SqT X.K H p xs/\k=!xs.isEmpty) \/ ∃kvs,H p=AA (.dK kvs)/\k=!kvs.isEmpty:=e;rcases e' with⟨xs,hx,e'⟩|⟨xs,hx,e'⟩|⟨kvs,hx,e'⟩
  .subst e';let⟨its,r,pl,hz⟩:=I.list hx;have hlen:=r.length;exact wpAny_truthy_list pl.isList (by erw[AW];lia) ⟨H,I.tok _,by rw[zaD r];exact q⟩
  .subst e';let⟨its,r,pl,hz⟩:=I.tuple hx;have hlen:=r.length;exact truthy_tuple pl (by erw[AW];lia) ⟨H,I.tok _,by rw[zaD r];exact q⟩
  .subst e';obtain⟨hz,hS,vs,r,m⟩:kvs.length<=sizeLine/\(p==sysModules)=AG/\∃vs,KV kvs vs/\s.heap.DictOf (yE X.prog X.w) p vs:=I.hok p _ hx;have hlen:kvs.length=vs.length:=Bw r;exact wpAny_truthy_dict hS m ∅ ⟨H,I.tok _,by rw[zcI r];exact q⟩
 |_=>exact(show False from e).elim
def zep(ha:PE X a ta)(he:∀whole,isTrue a X.env whole=(do let v <-whole;standAt a.pos;holding [v] (truthy v))):
  PT X a (λσ H Q=>ta σ H λx H'=>∃k,ydt X.K x H' k/\Q k H'):=by
 intro π s σ H Q I h;exact isTrue_plain (thn (ha π s σ H _ I h) λv s1 ⟨x,H1,I1,r1,q1⟩=>zid π s1 σ H1 x v Q I1 r1 q1) (he _)
def zcD:OpR X (binaryOp .Add) (λx y H Q=>∃i j,x=.str i/\y=.str j/\i.length+j.length<=sizeLine/\Q (.str (i++j)) H):=by
 intro π s σ H x y v u Q I rx ry h;let⟨i,j,rfl,rfl,hz,q⟩:=h;let⟨t,rfl⟩:=rx;let⟨t',rfl⟩:=ry;exact add_str (λt' tk=>⟨.str (i++j),H,I.tok _,⟨_,rfl⟩,q⟩) hz
theorem vals1{x:V}{us:List AD}(r:Vals [x] us):∃u,us=[u]/\RelV x u:=by
 cases r with
 |cons r1 r2=>cases r2;exact⟨_,rfl,r1⟩
theorem vals2{x y:V}{us:List AD}(r:Vals [x,y] us):∃u w',us=[u,w']/\RelV x u/\RelV y w':=by
 cases r with
 |cons r1 r2=>
  cases r2 with
  |cons r3 r4=>cases r4;exact⟨_,_,rfl,r1,r3⟩
def zeh:yN X (.builtin "abs") (λxs H Q=>∃i,xs=[.int i]/\Q (.int (if i<0 then -i else i)) H):=by
 intro π s σ H xs us Q I r h;let⟨i,rfl,q⟩:=h;let⟨u,rfl,t,rfl⟩:=vals1 r;exact call_abs_int λu tk=>⟨.int (if i<0 then -i else i),H,I.tok _,⟨_,rfl⟩,q⟩
end
section
variable {prog:AV}{w:A5}{A:A7}{E:AD->AH->Prop}{s:AH}{K:AF}{x dx C f:AI}{mA:AS->Option AD}{name:AS}{v:AD}
end
def ydL(f:AS)(v:V):List (AS×V)->List (AS×V)
 |[]=>[(f,v)]
 |(g,x)::r=>if g=f then(g,v)::r else(g,x)::ydL f v r
theorem ya7.some_of{v:V}{o:Option AD}(r:ya7 (AA v) o):∃u,o=AA u/\RelV v u:=by
 cases o with
 |none=>exact(show False from r).elim
 |some u=>exact⟨u,rfl,r⟩
section
variable {P:AV}{w:A5}{H H':Hp}{h h':Ak}{a C dx:AI}{fs fs':List (AS×V)}
end
structure Cls(K:AF)(C:AI):Prop where
 pg:FX K C FY=AC
 hd:FG K C=AC
 po:FH K C=AC
 sa:Ah K (.ref C) "__setattr__"=AA (AA (.builtin "object.__setattr__"))
def ybz(K:AF)(C:AI)(f:AS):Prop:=Ah K (.ref C) f=AA AE
structure Con(K:AF)(C:AI)(f:AS)(v:V)(u:AD):Prop where
 at_:Ah K (.ref C) f=AA (AA u)
 rel:RelV v u
 get:PySem.W.specialIn K u "__get__"=AA AE
 cp:PySem.W.copiedNames.contains f=AG
structure Meth(K:AF)(C:AI)(m:AS)(f:AI):Prop where
 at_:Ah K (.ref C) m=AA (AA (.ref f))
 fn:C9 K (.ref f)=AC
 kp:Ae K (.ref f)=AC
section
variable {X:Cx}{π:List (AI×B8)}{σ:St}{H:Hp}{s:AH}{a C dx:AI}{fs:List (AS×V)}{f:AS}{v:V}{A:A7}{E:AD->AH->Prop}
end
section
variable {X:Cx}{o e value:AM}{f:AS}{pos pos' tpos:Bf}{ta tv:TE}
end
section
variable {X:Cx}{π:List (AI×B8)}{σ:St}{H:Hp}{s:AH}{A:A7}{E:AD->AH->Prop}{Q:AD->AH->Prop}{c:AD}{b:Bool}
end
structure yat(k:Nat)(A:A7):Prop where
 hd:A.handled=AE
 dp:A.depth+3*k+5<recursionLimit
 un:A.units+16*k+200<cLine
theorem yat.mono{j k:Nat}{A:A7}(r:yat k A)(h:j<=k):yat j A:=⟨r.hd,by have:=r.dp;lia,by have:=r.un;lia⟩
theorem yat.deeper{k:Nat}{A:A7}(r:yat (k+1) A)(env:Env):yat k (A.deeper env):=
 ⟨r.hd,by have:=r.dp;show A.depth+1+3*k+5<_;lia,by have:=r.un;show A.units+3+16*k+200<_;lia⟩
theorem yat.depth{k:Nat}{A:A7}(r:yat k A):A.depth<recursionLimit:=by have:=r.dp;lia
def ycU:TA:=λ_ H Q=>Q [] H
def ybq(ta:TE)(tr:TA):TA:=λσ H Q=>ta σ H λx H1=>tr σ H1 λxs H2=>Q (x::xs) H2
section
variable {X:Cx}{e:AM}{es:List AM}{te:TE}{t:TA}{pos:Bf}
def zi2:PA X [] ycU:=λ_ _ _ _ H Q I h=>FI ⟨[],H,I,.nil,h⟩
def zp(ha:PE X e te)(hr:PA X es t)(hs:starEach (e::es) X.env=(AG,eval e X.env)::starEach es X.env:=by rfl):PA X (e::es) (ybq te t):=by
 intro pos π s σ H Q I h;rw[hs];show AQ _ _ (spliced ((AG,eval e X.env)::backTo pos (starEach es X.env))) _ _ s;refine DX (thn (ha π s σ H _ I h) λu s1 kq=>?_);let⟨x,H1,I1,r1,q1⟩:=kq;exact thn (hr pos π s1 σ H1 _ I1 q1) λus s2 ⟨xs,H2,I2,r2,q2⟩=>⟨x::xs,H2,I2,.cons r1 r2,q2⟩
def yee(t:TA):TE:=λσ H Q=>t σ H λxs H1=>xs.length<=sizeLine/\∀p,H1 p=AE->Q (.ref p) (upd H1 p (.tup xs))
def yeU(t:TA):TE:=λσ H Q=>t σ H λxs H1=>xs.length<=sizeLine/\∀p,H1 p=AE->Q (.ref p) (upd H1 p (.lst xs))
def zfb{x1}(h:PA X es t):PE X (.Tuple es x1 pos) (yee t):=by
 intro π s σ H Q I hq;refine wpAny_Tuple_spliced (thn (h pos π s σ H _ I hq) λus s1 kq=>?_);let⟨xs,H1,I1,r,z,q⟩:=kq;refine ⟨by rw[<-r.length];exact z,?_⟩;have hf:H1 s1.heap.objs.size=none:=I1.hok.fresh (AR _);refine⟨.ref s1.heap.objs.size,upd H1 s1.heap.objs.size (.tup xs),I1.laid (t':=s1.toks) (λb u e=>AL _ e) (AR _) ?_,rfl,q _ hf⟩;exact⟨z,us,r,A1 _ rfl⟩
def ze3(h:PA X es t):PE X (.List es pos) (yeU t):=by
 intro π s σ H Q I hq;refine wpAny_List_spliced (thn (h pos π s σ H _ I hq) λus s1 kq=>?_);let⟨xs,H1,I1,r,z,q⟩:=kq;refine ⟨by rw[<-r.length];exact z,?_⟩;have hf:H1 s1.heap.objs.size=none:=I1.hok.fresh (AR _);refine⟨.ref s1.heap.objs.size,upd H1 s1.heap.objs.size (.lst xs),I1.laid (t':=s1.toks) (λb u e=>AL _ e) (AR _) ?_,rfl,q _ hf⟩;exact⟨z,us,0,r,A1 _ rfl⟩
end
abbrev Sp:=List V->Hp->VK->XK->Prop
abbrev CXT:=List Env->Hp->AH->XK->AD->AH->Prop
structure ycd(P:AV)(w:A5)(K:AF)(mg:AS->Option AD)(base:Ak)(A:A7)(outer:List Env)(s:AH)(H:Hp):Prop where
 frames:A.frames=AA outer
 mod:Mod K mg base
 bs:∀b o,base.get? b=AA o->s.heap.get? b=AA o/\H b=AE
 bsz:base.objs.size<=s.heap.objs.size
 funs:s.heap.FunFrames base outer
 frf:∀b∈frs outer,H b=AE
 hok:HOk P w H s.heap
 bare:Cy s.gens
def CE(outer:List Env)(P:AV)(w:A5)(H:Hp)(s:AH)(Q:VK)(u:AD)(s':AH):Prop:=
 ∃v H',s'.os=s.os/\Cy s'.gens/\Un (frs outer) [] H H' s.heap s'.heap/\HOk P w H' s'.heap/\RelV v u/\Q v H'
def CR(CX:CXT)(outer:List Env)(P:AV)(w:A5)(H:Hp)(s:AH)(Q:VK)(E:XK)(r:FZ)(s':AH):Prop:=
 match r with
 |.ok (.ret u)=>CE outer P w H s Q u s'
 |.ok _=>False
 |.error e=>CX outer H s E e s'
structure yaG(P:AV)(w:A5)(K:AF)(mg:AS->Option AD)(base:Ak)(CX:CXT)(k:Nat)(f:AI)(fd:Aj)(ps:List AS)(sp:Sp):Prop where
 len:∀vs H Q E,sp vs H Q E->vs.length=ps.length
 run:∀(A:A7) (outer:List Env) (s:AH) (H:Hp) (args:Args) (us:List AD) (vs:List V) (Q:VK) (E:XK),yat k A->ycd P w K mg base A outer s H->EC s fd args (ps.zip us)->Vals vs us->sp vs H Q E ->
  codeAny (model P w) A (.call (.ref f) args) (CR CX outer P w H s Q E) s
theorem yaG.imp{P:AV}{w:A5}{K:AF}{mg:AS->Option AD}{base:Ak}{CX:CXT}{k:Nat}{f:AI}{fd:Aj}{ps:List AS}{sp sp':Sp}(F:yaG P w K mg base CX k f fd ps sp)
  (h:∀vs H Q E,sp' vs H Q E->sp vs H Q E):yaG P w K mg base CX k f fd ps sp':=
 ⟨λvs H Q E q=>F.len vs H Q E (h _ _ _ _ q),λA outer s H args us vs Q E hr he hb hv hs=>F.run A outer s H args us vs Q E hr he hb hv (h _ _ _ _ hs)⟩
section
variable {X:Cx}{π:List (AI×B8)}{σ:St}{H:Hp}{s s':AH}
theorem Inv.env0(I:Inv X π σ H s):ycd X.prog X.w X.K X.mg X.base X.A X.stack s H:=
 ⟨I.ok.frames,I.ok.mod,I.bs,BK I.ok.bsz I.sz,I.stack,I.stkFree,I.hok,I.bare⟩
theorem Inv.after{Q:VK}{u:AD}(I:Inv X π σ H s)(h:CE X.stack X.prog X.w H s Q u s'):EP X π σ Q u s':=by
 let⟨v,H',os,bare,un,hok,r,q⟩:=h;let⟨hh,g,d,t,os'⟩:=s';obtain rfl:os'=s.os:=os;exact⟨v,H',I.call (h':=hh) (g':=g) (d':=d) (t':=t) (ch:=[]) un hok bare (λb z=>absurd z (by simp)),r,q⟩
end
def Binds(K:AF)(fd:Aj)(ps:List AS)(ds:List AD):Prop:=
 ∀(s:AH) (us:List AD),K.In s.heap->(us++ds).length=ps.length->EC s fd ⟨us,[]⟩ (ps.zip (us++ds))
theorem Binds.all{K:AF}{fd:Aj}{ps:List AS}(h:∀us:List AD,us.length=ps.length->bindArgs fd ⟨us,[]⟩=pure (ps.zip us)):Binds K fd ps []:=λs us _ hl=>by
 rw[Bs]at hl ⊢;exact .of_eq (h us hl)
def ycO(CX:CXT)(X:Cx)(E:XK):Prop:=∀(π:List (AI×B8)) (σ:St) (H:Hp) (s:AH) (e:AD) (s':AH),Inv X π σ H s->CX X.stack H s E e s'->X.xe e s'
section
variable {X:Cx}{CX:CXT}{k:Nat}{f C:AI}{fd:Aj}{ps:List AS}{sp:Sp}{dvs:List V}{ds:List AD}{E:XK}{x m:AS}{p pos apos:Bf}{e o:AM}{es:List AM}{ta:TE}{t:TA}
structure Mk(K:AF)(C f:AI):Prop where
 makes:ER K C=AC
 init:Ah K (.ref C) "__init__"=AA (AA (.ref f))
 fn:C9 K (.ref f)=AC
 kp:Ae K (.ref C)=AC
end
def PK(X:Cx)(kws:List CG)(t:TA):Prop:=
 ∀(pos:Bf) (π:List (AI×B8)) (s:AH) (σ:St) (H:Hp) (Q:List V->Hp->Prop),Inv X π σ H s->t σ H Q->AQ (model X.prog X.w) X.A (evalAll ((backToKw pos (keywordEach kws X.env)).map (·.2))) (AP X π σ Q) X.xe s
section
variable {X:Cx}{CX:CXT}{k:Nat}{f C:AI}{fd:Aj}{ps ks:List AS}{sp:Sp}{E:XK}{x m:AS}{p pos apos kpos:Bf}{e o:AM}{es:List AM}{kws:List CG}{te ta:TE}{t tk:TA}{nm:Option AS}
def zjo:PK X [] ycU:=λ_ _ _ _ H Q I h=>wpAny_evalAll_nil ⟨[],H,I,.nil,h⟩
def zfF(ha:PE X e te)(hr:PK X kws t):PK X (⟨nm,e,kpos⟩ :: kws) (ybq te t):=by
 intro pos π s σ H Q I h;show AQ _ _ (evalAll ((do let v <-eval e X.env;standAt pos;pure v)::(backToKw pos (keywordEach kws X.env)).map (·.2))) _ _ s;refine wpAny_evalAll_cons (AB (thn (ha π s σ H _ I h) λu s1 kq=>?_));let⟨x,H1,I1,r1,q1⟩:=kq;refine AB (Cz (AK ?_));exact thn (hr pos π s1 σ H1 _ I1 q1) λus s2 ⟨xs,H2,I2,r2,q2⟩=>⟨x::xs,H2,I2,.cons r1 r2,q2⟩
structure ya0(K:AF)(fd:Aj)(ps ks:List AS)(g:List AD->List AD->List AD)(gV:List V->List V->List V):Prop where
 to:∀(s:AH) (us ws:List AD),K.In s.heap->(g us ws).length=ps.length->EC s fd ⟨us,ks.zip ws⟩ (ps.zip (g us ws))
 rel:∀{vs:List V} {us:List AD} {zs:List V} {ws:List AD},Vals vs us->Vals zs ws->Vals (gV vs zs) (g us ws)
variable {g:List AD->List AD->List AD}{gV:List V->List V->List V}
end
structure yac(N P:List AS)(sc:BH):Prop where
 kind:sc.kind=.function
 co:sc.isCoroutine=AG
 gen:sc.isGenerator=AG
 nd:N.Nodup
 pre:N.take P.length=P
 par:∀x∈P,sc.names.lookup x=AA .local \/ sc.names.lookup x=AA .cell
 nofree:∀y∈sc.names,y.2 ≠ .free
def zbe{kindOf:AS->Option Ca}{x:AS}:∀{binds:List (AS×AD)} {m:AS->Option AD},(∀v,(x,v)∉binds)->bindL kindOf binds m x=m x
 |[],_,_=>rfl
 |(n,v)::r,m,h=>by
  unfold bindL;rw[zbe λw hw=>h w (AU _ hw)];split
  .have:x≠n:=by rintro rfl;exact h v Aa
   simp[this]
  .rfl
def zbA{kindOf:AS->Option Ca}{x:AS}:∀{binds:List (AS×AD)} {m:AS->Option AD},(∀v,(x,v)∉binds)->bindC kindOf binds m x=m x
 |[],_,_=>rfl
 |(n,v)::r,m,h=>by
  unfold bindC;rw[zbA λw hw=>h w (AU _ hw)];split
  .rfl
  .have:x≠n:=by rintro rfl;exact h v Aa
   simp[this]
def zbF{kindOf:AS->Option Ca}{x:AS}{v:AD}:∀{P:List AS} {vs:List AD} {i:Nat} {m:AS->Option AD},P.Nodup->P[i]?=AA x->vs[i]?=AA v->kindOf x=AA .local ->
  bindL kindOf (P.zip vs) m x=AA v
 |[],_,_,_,_,h,_,_=>by simp at h
 |_::_,[],_,_,_,_,h,_=>by simp at h
 |p::P,w::vs,0,m,nd,h1,h2,hk=>by
  simp at h1 h2;subst h1;subst h2;show bindL kindOf ((p,w)::P.zip vs) m p=_;unfold bindL;rw[zbe λv hv=>(C1.mp nd).1 (DD hv).1,if_pos hk];simp
 |p::P,w::vs,i+1,m,nd,h1,h2,hk=>by
  show bindL kindOf ((p,w)::P.zip vs) m x=_;unfold bindL;exact zbF (i:=i) (C1.mp nd).2 (by simpa using h1) (by simpa using h2) hk
def zbE{kindOf:AS->Option Ca}{x:AS}{v:AD}:∀{P:List AS} {vs:List AD} {i:Nat} {m:AS->Option AD},P.Nodup->P[i]?=AA x->vs[i]?=AA v->kindOf x≠AA .local ->
  bindC kindOf (P.zip vs) m x=AA v
 |[],_,_,_,_,h,_,_=>by simp at h
 |_::_,[],_,_,_,_,h,_=>by simp at h
 |p::P,w::vs,0,m,nd,h1,h2,hk=>by
  simp at h1 h2;subst h1;subst h2;show bindC kindOf ((p,w)::P.zip vs) m p=_;unfold bindC;rw[zbA λv hv=>(C1.mp nd).1 (DD hv).1,if_neg hk];simp
 |p::P,w::vs,i+1,m,nd,h1,h2,hk=>by
  show bindC kindOf ((p,w)::P.zip vs) m x=_;unfold bindC;exact zbE (i:=i) (C1.mp nd).2 (by simpa using h1) (by simpa using h2) hk
def start(N:List AS)(vs:List V):St:=vs.map AA++Am (N.length-vs.length) AE
def yaj(CX:CXT)(P:AV)(w:A5)(K:AF)(mg:AS->Option AD)(base:Ak)(N:List AS)(qual:AS)(scope:BH)(f:AI)(cd:AD)(A:A7)(outer:List Env)(s:AH)(H:Hp)(E:XK):Cx where
 prog:=P
 w:=w
 K:=K
 mg:=mg
 base:=base
 A:=A.deeper (envOfC qual scope s.heap.objs.size f cd)
 N:=N
 s₀:=s
 H₀:=H
 env:=envOfC qual scope s.heap.objs.size f cd
 outer:=outer
 stack:=envOfC qual scope s.heap.objs.size f cd::outer
 ex:=[]
 calm:=AC
 fn:=λ_=>AC
 pn:=[]
 xe:=λe s'=>AQ (model P w) (A.deeper (envOfC qual scope s.heap.objs.size f cd)) («leaving» (envOfC qual scope s.heap.objs.size f cd) e) (λ_ s''=>CX outer H s E e s'') (λe' s''=>CX outer H s E e' s'') s'
def zcs{sc:BH}{n:Nat}{x:AS}(h:sc.names.lookup x=AA .cell):∃c,(cellsFrom n sc.names []).lookup x=AA c:=by
 have q:=Cb sc.names n [] (.inl h);exact A4.mp q
def zbd{CX:CXT}{P:AV}{w:A5}{K:AF}{mg:AS->Option AD}{base:Ak}{N ps:List AS}{qual:AS}{scope:BH}{f:AI}{cd:AD}{A:A7}{outer:List Env}{s s1:AH}{H:Hp}{E:XK}{us:List AD}{vs:List V}
  (S:yac N ps scope) (hd:A.handled=AE) (e0:ycd P w K mg base A outer s H) (hl:vs.length=ps.length) (r:Vals vs us)
  (x:InCallC s s.heap.objs.size (bindL (envOfC qual scope s.heap.objs.size f cd).kindOf (ps.zip us) λ_=>AE) (cellsFrom (s.heap.objs.size+1) scope.names []) (bindC (envOfC qual scope s.heap.objs.size f cd).kindOf (ps.zip us) λ_=>AE) s1):
  Inv (yaj CX P w K mg base N qual scope f cd A outer s H E) [] (start N vs) H s1:=by
 have hpl:ps.length<=N.length:=by have:=congrArg B6 S.pre;rw[Dq]at this;lia
 let⟨h1,tk,rfl,hk⟩:=x.done;have noA:∀b:AI,b∉(yaj CX P w K mg base N qual scope f cd A outer s H E).ex:=λb z=>absurd (show b∈([]:List AI)from z) (by simp);refine⟨⟨e0.mod,S.kind,rfl,rfl,AR _,λy z c h1 h2=>?_,λy hy=>?_,λy c _ h=>?_,λ_=>hd,Around.frames_deeper e0.frames,.inr ⟨rfl,rfl⟩,λb z=>absurd z (noA b),e0.bs,e0.bsz,λb _ _=>noA b,λb z=>absurd z (noA b),e0.funs,e0.frf⟩,
  rfl,e0.bare,Un.kept hk,⟨_,x.toInCall.ns,λi y v h1 h2 h3=>?_⟩,λy c h=>⟨_,x.cell y c h⟩,e0.hok.fresh (AR _),λy c h=>?_,λp hp=>absurd (show p∈([]:List (AI×B8))from hp) (by simp),e0.hok.kept hk,?_⟩
 .exact name_of_addr x.apart (CC h1) (CC h2)
 .have hy:scope.names.lookup y=AA .cell \/ scope.names.lookup y=AA .free:=hy;rcases hy with hy|hy
  .exact zcs hy
  .exact absurd rfl (S.nofree _ (CC hy))
 .exact FD (x.above y c (CC h))
 .have hi:i<vs.length:=by
   unfold start at h2
   by_cases hi:i<vs.length
   .exact hi
   .rw[Af (by simpa using hi)]at h2;rw[Dr]at h2;split at h2<;>cases h2
  have ha:vs[i]?=AA v:=by
   unfold start at h2;rw[A2 (by simpa using hi),BG]at h2
   cases e:vs[i]? with
   |none=>rw[e]at h2;cases h2
   |some a=>rw[e]at h2;cases h2;rfl
  let⟨u,hu,rv⟩:=r.get ha;have hp:ps[i]?=AA y:=by
   rw[<-S.pre,List.getElem?_take_of_lt ∅];exact h1
  have ndP:ps.Nodup:=by rw[<-S.pre];exact S.nd.sublist (List.take_sublist _ _)
  refine⟨u,rv,?_⟩;rcases S.par y (AZ hp)with k|k
  .exact .inl ⟨k,zbF ndP hp hu k⟩
  .let⟨c,e⟩:=zcs (n:=s.heap.objs.size+1) k;refine .inr ⟨.inl k,c,e,?_⟩;have q:=x.cell y c e;rw[zbE ndP hp hu (by show scope.names.lookup y≠_;rw[k];decide)]at q;exact q
 .exact e0.hok.fresh (FD (x.above y c (CC h)))
 .unfold start;show _=N.length;rw[As,Ap,List.length_replicate];lia
def ziV{CX:CXT}{P:AV}{w:A5}{K:AF}{mg:AS->Option AD}{base:Ak}{k:Nat}{f:AI}{name qual:AS}{params:Arguments}{body:List Bd}{scope:BH}{dV kV doc pm cdv ct oc:AD}{an od:Option AI}
  {osl:Array (Option AD)} {N ps:List AS} {sp:Sp} (lk:K.lookup f=AA ⟨oc,od,.func (BL name qual params body scope dV kV doc pm an cdv ct),osl⟩) (hcd:Bj K cdv qual=AC) (S:yac N ps scope)
  (len:∀vs H Q E,sp vs H Q E->vs.length=ps.length)
  (hbody:∀(A:A7) (outer:List Env) (s:AH) (H:Hp) (vs:List V) (Q:VK) (E:XK),yat k (A.deeper (envOfC qual scope s.heap.objs.size f cdv))->sp vs H Q E ->
   ∃t,PSs (yaj CX P w K mg base N qual scope f cdv A outer s H E) body t/\t {nx:=λ_ H'=>Q .non H',rt:=Q} (start N vs) H):
  yaG P w K mg base CX (k+1) f (BL name qual params body scope dV kV doc pm an cdv ct) ps sp:=by
 refine⟨len,λA outer s H args us vs Q E hr e0 hb r hsp=>?_⟩;have hl:=len _ _ _ _ hsp;have KX:K.In s.heap:=e0.mod.kin.keeps λb o e=>(e0.bs b o e).1;have lim:s.heap.NoLimit:=e0.mod.nolimit.keeps λb o e=>(e0.bs b o e).1;have hkind:∀y∈ps.zip us,scope.names.lookup y.1=AA .local \/ (scope.names.lookup y.1=AA .cell/\((cellsFrom (s.heap.objs.size+1) scope.names []).lookup y.1).isSome=AC):=λ⟨n,v⟩ hy=>by
  rcases S.par n (DD hy).1 with q|q
  .exact .inl q
  .exact .inr ⟨q,Cb _ _ _ (.inl q)⟩
 refine EV hr.depth (KX _ _ lk) rfl S.co S.gen rfl (Ex KX hcd) (hb _ _ _ _ ?_);refine DY S.kind hkind λenv he s1 x=>?_;subst he;refine⟨lim.keeps x.toInCall.keep,codeAny_func ?_⟩;let⟨t,ht,hq⟩:=hbody A outer s H vs Q E (hr.deeper _) hsp;have I:Inv (yaj CX P w K mg base N qual scope f cdv A outer s H E) [] (start N vs) H s1:=zbd S hr.hd e0 hl r x;refine B0 (ht [] s1 (start N vs) H _ I hq) (λfl s' hs=>?_) λe s' hs=>hs;have fin:∀{σ':St} {H':Hp} {v:V} {u:AD},Inv (yaj CX P w K mg base N qual scope f cdv A outer s H E) [] σ' H' s'->RelV v u->Q v H'->CE outer P w H s Q u s':=
  λ{σ' H' v u} J rv q=>⟨v,H',J.os,J.bare,J.base,J.hok,rv,q⟩
 cases fl with
 |ret u=>
  let⟨v,σ',H',J,rv,q⟩:=hs;exact fin J rv q
 |next=>
  let⟨σ',H',J,q⟩:=hs;exact fin (v:=V.non) (u:=BN) J rfl q
 |brk=>
  let⟨_,_,_,q⟩:=hs;exact B1 q
 |cont=>
  let⟨_,_,_,q⟩:=hs;exact B1 q
section
variable {X:Cx}{x:AS}{p pos:Bf}{e:AM}{es:List AM}{t:TA}{id T:String}{r:List V->Hp->VK->Prop}
def tCB(r:List V->Hp->VK->Prop)(t:TA):TE:=λσ H Q=>t σ H λvs H1=>r vs H1 Q
def za6(hc:yN X (.builtin id) r)(hg:Gl X x)(hm:X.mg x=AE)(hv:bootBuiltins x=AA (.builtin id))(ha:PA X (e::es) t)(hn:x ≠ "__name__":=by decide)(hdb:(x==("__debug__":AS))=false:=by decide)
  (he:starEach (e::es) X.env=(AG,eval e X.env)::starEach es X.env:=by rfl) (hpl:(backTo pos (starEach es X.env)).any (·.1)=false:=by rfl):PE X (.Call (.Name x p) (e::es) [] pos) (tCB r t):=by
 intro π s σ H Q I h;refine Bk (zbs I hg hm hv ?_ hn hdb);exact F0 (thn (ha pos π s σ H _ I h) λus s1 ⟨vs,H1,I1,r1,q1⟩=>hc π s1 σ H1 vs us Q I1 r1 q1) he hpl
def zbz(hc:yN X (.type T) r)(hg:Gl X x)(hm:X.mg x=AE)(hv:bootBuiltins x=AA (.type T))(ha:PA X (e::es) t)(hn:x ≠ "__name__":=by decide)(hdb:(x==("__debug__":AS))=false:=by decide)
  (he:starEach (e::es) X.env=(AG,eval e X.env)::starEach es X.env:=by rfl) (hpl:(backTo pos (starEach es X.env)).any (·.1)=false:=by rfl):PE X (.Call (.Name x p) (e::es) [] pos) (tCB r t):=by
 intro π s σ H Q I h;refine Bk (zbs I hg hm hv ?_ hn hdb);exact CN (thn (ha pos π s σ H _ I h) λus s1 ⟨vs,H1,I1,r1,q1⟩=>hc π s1 σ H1 vs us Q I1 r1 q1) he hpl
end
end L2
namespace HT
open PySem PyProof.Rows
section
open PySem.SeqAt
open PySem.AutoSeq1 (wpAny_loadPart')
open PySem.MeetsSeq PySem.MeetsSeq2 PySem.MeetsSeq3
end
section
variable {prog:AV}{w:A5}{A:A7}{E:AD->AH->Prop}{s:AH}
theorem cat_tup{t b:AI}{vs ws:List AD}{Q:AD->AH->Prop}(ht:IsTup s.heap t vs.toArray)(hb:IsTup s.heap b ws.toArray)(hv:vs≠[])
  (h1:ws=[]->Q (.ref t) s) (h2:ws≠[]->Q (.ref s.heap.objs.size) {s with heap:=s.heap.push {cls:=.type "tuple",data:=.seq (vs++ws).toArray} })
  (hsz:vs.length+ws.length<=sizeLine):AQ (model prog w) A (binaryOp .Add (.ref t) (.ref b)) Q E s:=by
 let⟨⟨cls,dd,data,sl⟩,ho,hc,n,hd⟩:=id ht;let⟨⟨cls2,dd2,data2,sl2⟩,ho2,hc2,n2,hd2⟩:=id hb;simp only at hc hd hc2 hd2;subst hc hd hc2 hd2;have e:vs.toArray++ws.toArray=(vs++ws).toArray:=by simp
 by_cases hw:ws=[]
 .exact FJ ⟨_,ho,rfl⟩ ⟨_,ho2,rfl⟩ Ds Ej Cc C6 (CW _ _)
   (tuple_addW1 t b vs.toArray ws.toArray n n2 dd dd2 sl sl2 (by simpa using hv) (by simp[hw])) ⟨ho,ho2,h1 hw⟩
 .refine FJ ⟨_,ho,rfl⟩ ⟨_,ho2,rfl⟩ Ds Ej Cc C6 (CW _ _)
   (tuple_addW2 t b vs.toArray ws.toArray n n2 dd dd2 sl sl2 (by simpa using hv) (by simpa using hw) (by rw[AW,AW];exact hsz)) ⟨ho,ho2,?_⟩
  rw[e];exact h2 hw
def sIx(n d:Nat):Option Int->Nat
 |none=>d
 |some v=>if v<0 then(v+(n:Int)).toNat else min v.toNat n
theorem sIx_le(n d:Nat)(hd:d<=n)(o:Option Int):sIx n d o<=n:=by
 cases o with
 |none=>exact hd
 |some v=>
  show (if v<0 then(v+(n:Int)).toNat else min v.toNat n)<=n
  by_cases hv:v<0
  .rw[if_pos hv];lia
  .rw[if_neg hv];exact Nat.min_le_right _ _
def zda(v:Int)(n d:Nat):(if v<0 then max (v+(n:Int)) 0 else min v (n:Int))=((sIx n d (AA v):Nat):Int):=by
 show (if v<0 then max (v+(n:Int)) 0 else min v (n:Int))=(((if v<0 then(v+(n:Int)).toNat else min v.toNat n):Nat):Int)
 by_cases hv:v<0
 .simp only[if_pos hv];lia
 .simp only[if_neg hv];lia
def zcw(lo hi:Option Int)(n:Nat):CU lo hi 1 (n:Int)=(((sIx n 0 lo:Nat):Int),((sIx n n hi:Nat):Int)):=by
 have h1:¬((1:Int)<0):=by lia
 unfold CU;erw[h1,if_false];refine Prod.ext ?_ ?_
 .cases lo with
  |none=>rfl
  |some v=>exact zda v n 0
 .cases hi with
  |none=>rfl
  |some v=>exact zda v n n
def zcy(i j:Nat):Bo (i:Int) (j:Int) 1=j-i:=by
 unfold Bo;have h1:(1:Int) > 0:=by lia
 erw[h1,if_true,Int.ediv_one];split<;>lia
def zaL{v:AD}{o:Option Int}{Q:Option Int->AH->Prop}(p:ED v o)(h:Q o s):AQ (model prog w) A (Fb v) Q E s:=by
 cases p with
 |none=>exact slicePart_none h
 |int i t=>exact slicePart_int h
theorem sliceApplied_gen{sl:AI}{vl vu:AD}{lo hi:Option Int}{n:Nat}{Q:Int×Int×Nat->AH->Prop}(hs:s.heap.IsSliceOf sl vl vu .none)(pl:ED vl lo)(pu:ED vu hi)
  (h:Q (((sIx n 0 lo:Nat):Int),1,sIx n n hi-sIx n 0 lo) s):AQ (model prog w) A (DZ (.ref sl) (pure (n:Int))) Q E s:=by
 let⟨os,hos,hcs,hds⟩:=id hs;unfold DZ GH;refine AB (AB (CD hos hds (x:=vl) rfl (AB (CD hos hds (x:=vu) rfl (AB (CD hos hds (x:=.none) rfl (AK ?_)))))));refine AB (slicePart_none ?_);show AQ _ _ (if ((1:Int)==0)=AC then _ else _) _ _ s;rw[if_neg ⋯];refine AB (zaL pl (AB (zaL pu (AB (AK ?_)))));show AQ _ _ (match CU lo hi 1 (n:Int)with|(lo,hi)=>pure (lo,(1:Int),Bo lo hi 1)) _ _ s;rw[zcw lo hi n];show AQ _ _ (pure (((sIx n 0 lo:Nat):Int),(1:Int),Bo ((sIx n 0 lo:Nat):Int) ((sIx n n hi:Nat):Int) 1)) _ _ s;rw[zcy];exact AK h
def zed(xs:Array AD)(i k:Nat):((Eu k).filterMap λ(m:Nat)=>xs[((i:Int)+(m:Int)*1).toNat]?).toArray=((xs.toList.drop i).take k).toArray:=by
 have e:(λ(m:Nat)=>xs[((i:Int)+(m:Int)*1).toNat]?)=λm=>xs[i+m]?:=by
  funext m
  have:((i:Int)+(m:Int)*1).toNat=i+m:=by lia
  rw[this]
 rw[e];have:=pick_run xs i k;rw[List.filterMap_map]at this;have e2:((λx=>xs[x]?) ∘ λx=>i+x)=λm=>xs[i+m]?:=rfl;rw[e2]at this;rw[this]
theorem getItem_tuple_cut{t sl:AI}{items:Array AD}{vl vu:AD}{lo hi:Option Int}{Q:AD->AH->Prop}(ht:IsTup s.heap t items)(hs:s.heap.IsSliceOf sl vl vu .none)(pl:ED vl lo)(pu:ED vu hi)
  (hw:¬(sIx items.size 0 lo=0/\sIx items.size items.size hi=items.size))
  (h:Q (.ref s.heap.objs.size) {s with heap:=s.heap.push {cls:=.type "tuple",data:=.seq ((items.toList.drop (sIx items.size 0 lo)).take (sIx items.size items.size hi-sIx items.size 0 lo)).toArray} })
  (hsz:items.size<=sizeLine):AQ (model prog w) A (getItem (.ref t) (.ref sl)) Q E s:=by
 have htake:sizeOk (.seq ((items.toList.drop (sIx items.size 0 lo)).take (sIx items.size items.size hi-sIx items.size 0 lo)).toArray):=by
  show ((items.toList.drop (sIx items.size 0 lo)).take (sIx items.size items.size hi-sIx items.size 0 lo)).toArray.size<=sizeLine;rw[AW,Dq,Dt,DI];lia
 have hj:sIx items.size items.size hi<=items.size:=sIx_le _ _ (AR _) hi;let⟨os,hos,hcs,hds⟩:=id hs;have hTs:s.TypeIs (.ref sl) "slice":=⟨os,hos,hcs⟩;unfold getItem
 try with_reducible refine BJ ?_
 first|refine AB (AK ?_)|skip
 refine AB (FK ht.typeIs ⋯ ?_);refine AB (BR (name:=AO "__getitem__") ht.typeIs An
  (BM An ht.typeIs Ee ?_ (Ey _ _)))
 show AQ _ _ (CO (.ref t) >>= _) _ _ s;refine AB (Eb ht ?_);refine AB (DL hTs ?_);rw[if_pos ⋯];refine AB (sliceApplied_gen hs pl pu ?_);have hno:¬((((sIx items.size 0 lo:Nat):Int)==0&&(1:Int)==1&&(sIx items.size items.size hi-sIx items.size 0 lo)==items.size)=AC):=by
  intro q;rw[AJ,AJ]at q;have q1:((sIx items.size 0 lo:Nat):Int)=0:=eq_of_beq q.1.1;have q2:sIx items.size items.size hi-sIx items.size 0 lo=items.size:=eq_of_beq q.2;exact hw ⟨by lia,by lia⟩
 show AQ _ _ (if (((sIx items.size 0 lo:Nat):Int)==0&&(1:Int)==1&&(sIx items.size items.size hi-sIx items.size 0 lo)==items.size)=AC then _ else _) _ _ s;rw[if_neg hno,zed]
 first
  |exact AB (m:=Bz _) (Aw (AK ⟨_,rfl,AK h⟩) htake)
  |exact AB (m:=Bz _) (Aw (AB (AK (AK ⟨_,rfl,AK h⟩))) htake)
  |exact AB (AB (m:=Bz _) (Aw (AK (AK ⟨_,rfl,AK h⟩)) htake))
  |exact AB (AB (m:=Bz _) (Aw (AK ⟨_,rfl,AK h⟩) htake))
end
end HT
namespace L2
open PySem PySem.Spec PyProof.Rows
abbrev TO:=St->Hp->(Option Int->Hp->Prop)->Prop
def PO(X:Cx)(e:Option AM)(t:TO):Prop:=
 ∀(π:List (AI×B8)) (s:AH) (σ:St) (H:Hp) (Q:Option Int->Hp->Prop),Inv X π σ H s->t σ H Q ->
  AQ (model X.prog X.w) X.A (evalPart e X.env) (λu s'=>∃o H',Inv X π σ H' s'/\ED u o/\Q o H') X.xe s
def ybV:TO:=λ_ H Q=>Q AE H
section
variable {X:Cx}{e:AM}{te:TE}{lo hi:Option AM}{tl th:TO}{pos p2:Bf}
def zgu:PO X AE ybV:=by
 intro π s σ H Q I h;rw[evalPart_none];exact AK ⟨AE,H,I,.none,h⟩
def SlR(X:Cx)(r:V->Option Int->Option Int->Hp->VK->Prop):Prop:=
 ∀(π:List (AI×B8)) (s:AH) (σ:St) (H:Hp) (x:V) (v vl vu:AD) (lo hi:Option Int) (sl:AI) (Q:VK),Inv X π σ H s->RelV x v->s.heap.IsSliceOf sl vl vu .none->ED vl lo->ED vu hi->r x lo hi H Q ->
  ∃T id,typeLookup (.type T) "__getitem__"=pure (AA (.builtin id))/\s.TypeIs v T/\AQ (model X.prog X.w) X.A (getItem v (.ref sl)) (EP X π σ Q) X.xe s
def tSl(r:V->Option Int->Option Int->Hp->VK->Prop)(te:TE)(tl th:TO):TE:=λσ H Q=>te σ H λx H1=>tl σ H1 λl H2=>th σ H2 λu H3=>r x l u H3 Q
def zen{r:V->Option Int->Option Int->Hp->VK->Prop}(hr:SlR X r)(he:PE X e te)(hl:PO X lo tl)(hu:PO X hi th):PE X (.Subscript e (.Slice lo hi AE p2) pos) (tSl r te tl th):=by
 intro π s σ H Q I h;refine Fq (thn (he π s σ H _ I h) λv s1 kq=>?_);let⟨x,H1,I1,r1,q1⟩:=kq;refine wpAny_Slice (thn (hl π s1 σ H1 _ I1 q1) λvl s2 kq=>?_);let⟨l,H2,I2,pl,q2⟩:=kq;refine thn (hu π s2 σ H2 _ I2 q2) λvu s3 kq=>?_;let⟨u,H3,I3,pu,q3⟩:=kq;rw[evalPart_none];refine AK ?_;have I4:Inv X π σ H3 {s3 with heap:=s3.heap.push {cls:=.type "slice",data:=.fields #[vl,vu,.none]} }:=I3.kept (t':=s3.toks) λb ob q=>AL _ q;let⟨T,id,hT,ht,hg⟩:=hr π {s3 with heap:=s3.heap.push {cls:=.type "slice",data:=.fields #[vl,vu,.none]} } σ H3 x v vl vu l u s3.heap.objs.size Q I4 r1 (Gk ..) pl pu q3;show AQ (model X.prog X.w) X.A (subscriptTail e (.Slice lo hi AE p2) v (.ref s3.heap.objs.size)) (EP X π σ Q) X.xe {s3 with heap:=s3.heap.push {cls:=.type "slice",data:=.fields #[vl,vu,.none]} };exact tail_any (ops:=[.ref s3.heap.objs.size,v]) ht hT hg (by with_unfolding_all rfl)
def ybF(xs:List V)(lo hi:Option Int):List V:=(xs.drop (HT.sIx xs.length 0 lo)).take (HT.sIx xs.length xs.length hi-HT.sIx xs.length 0 lo)
def zaj(xs:List V)(lo hi:Option Int):(ybF xs lo hi).length<=xs.length:=by
 unfold ybF;rw[Dq,Dt];lia
def yfE(K:AF):V->Option Int->Option Int->Hp->VK->Prop:=λx lo hi H Q=>∃a xs,x=.ref a/\SqT K H a xs /\
 ¬(HT.sIx xs.length 0 lo=0/\HT.sIx xs.length xs.length hi=xs.length)/\∀p,H p=AE->Q (.ref p) (upd H p (.tup (ybF xs lo hi)))
def zgX:SlR X (yfE X.K):=by
 intro π s σ H x v vl vu lo hi sl Q I rx hs pl pu h;let⟨a,xs,rfl,hx,hw,q⟩:=h
 cases rx
 let⟨its,r,ht,hz⟩:=I.tuple hx;have hlen:its.toArray.size=xs.length:=by rw[AW];exact r.length.symm
 refine⟨"tuple",_,An.lookup,ht.typeIs,?_⟩;refine HT.getItem_tuple_cut ht hs pl pu (by rw[hlen];exact hw) ?_ (by rw[hlen];exact hz);rw[hlen];refine⟨.ref s.heap.objs.size,_,I.laid (t':=s.toks) (o:=.tup (ybF xs lo hi)) (λb ob q=>AL _ q) (AR _) ?_,rfl,q _ (I.hok.fresh (AR _))⟩;exact⟨BK (zaj xs lo hi) hz,_,(r.drop (HT.sIx xs.length 0 lo)).take (HT.sIx xs.length xs.length hi-HT.sIx xs.length 0 lo),A1 _ rfl⟩
def ydE(K:AF):R2:=λx y H Q=>∃a b xs ys,x=.ref a/\y=.ref b/\SqT K H a xs/\SqT K H b ys/\xs≠[]/\xs.length+ys.length<=sizeLine /\
 (ys=[]->Q (.ref a) H)/\(ys≠[]->∀p,H p=AE->Q (.ref p) (upd H p (.tup (xs++ys))))
theorem Vals.nil_iff{xs:List V}{us:List AD}(r:Vals xs us):us=[] ↔ xs=[]:=by
 cases r with
 |nil=>simp
 |cons _ _=>simp
def zfu:OpR X (binaryOp .Add) (ydE X.K):=by
 intro π s σ H x y v u Q I rx ry h;let⟨a,b,xs,ys,rfl,rfl,ha,hb,hx,hz,q1,q2⟩:=h
 cases rx
 cases ry
 let⟨its,r1,p1,_⟩:=I.tuple ha;let⟨its2,r2,p2,_⟩:=I.tuple hb;refine HT.cat_tup p1 p2 (λz=>hx (r1.nil_iff.mp z)) (λz=>⟨.ref a,H,I,rfl,q1 (r2.nil_iff.mp z)⟩) (λz=>?_) (by rw[<-r1.length,<-r2.length];exact hz);refine⟨.ref s.heap.objs.size,_,I.laid (t':=s.toks) (o:=.tup (xs++ys)) (λb ob q=>AL _ q) (AR _) ?_,rfl,q2 (λw=>z (r2.nil_iff.mpr w)) _ (I.hok.fresh (AR _))⟩;exact⟨by rw[As];exact hz,_,r1.append r2,A1 _ rfl⟩
end
def ixN(n:Nat)(i:Int):Option Nat:=if 0<=i then(if i<n then AA i.toNat else AE)else if -(n:Int)<=i then AA (i+n).toNat else AE
def atI{α:Type}(xs:List α)(i:Int):Option α:=(ixN xs.length i).bind λj=>xs[j]?
def zdV{n:Nat}{i:Int}{j:Nat}(h:ixN n i=AA j):seqIndex? i n=AA j/\j<n/\-(n:Int)<=i/\i<n:=by
 unfold ixN at h
 by_cases h0:0<=i
 .rw[if_pos h0]at h
  by_cases h1:i<n
  .rw[if_pos h1]at h;have e:i.toNat=j:=A0 h;exact⟨by rw[F7 h0 h1,e],by lia,by lia,h1⟩
  .rw[if_neg h1]at h;cases h
 .rw[if_neg h0]at h
  by_cases h1:-(n:Int)<=i
  .rw[if_pos h1]at h;have e:(i+n).toNat=j:=A0 h;exact⟨by rw[seqIndex_neg ∅ h1,e],by lia,h1,by lia⟩
  .rw[if_neg h1]at h;cases h
def zbH{α:Type}{xs:List α}{i:Int}{v:α}(h:atI xs i=AA v):∃j,seqIndex? i xs.length=AA j/\xs[j]?=AA v/\j<xs.length/\-(xs.length:Int)<=i/\i<xs.length:=by
 unfold atI at h
 cases e:ixN xs.length i with
 |none=>rw[e]at h;cases h
 |some j=>
  rw[e]at h;let⟨h1,h2,h3,h4⟩:=zdV e;exact⟨j,h1,h,h2,h3,h4⟩
def yaW(b:AM):Prop:=∀o i,subscripted b AG o i=operate [o,i] (getItem o i)
def IxR(X:Cx)(r:R2):Prop:=
 ∀(value slice:AM) (π:List (AI×B8)) (s:AH) (σ:St) (H:Hp) (x y:V) (v u:AD) (Q:VK),Inv X π σ H s->RelV x v->RelV y u->r x y H Q ->
  subscripted slice AG v u=operate [v,u] (getItem v u)->AQ (model X.prog X.w) X.A (subscriptTail value slice v u) (EP X π σ Q) X.xe s
def MtR(X:Cx)(id:String)(r:V->List V->Hp->VK->Prop):Prop:=
 ∀(π:List (AI×B8)) (s:AH) (σ:St) (H:Hp) (x:V) (xs:List V) (v:AD) (us:List AD) (Q:VK),Inv X π σ H s->RelV x v->Vals xs us->r x xs H Q ->
  AQ (model X.prog X.w) X.A (call (.builtin id) (v::us)) (EP X π σ Q) X.xe s
section
variable {X:Cx}{a b:AM}{ta tb:TE}{pos:Bf}
theorem IxR.or{r r':R2}(h:IxR X r)(h':IxR X r'):IxR X (λx y H Q=>r x y H Q \/ r' x y H Q):=by
 intro value slice π s σ H x y v u Q I rx ry q hs;rcases q with q|q
 .exact h value slice π s σ H x y v u Q I rx ry q hs
 .exact h' value slice π s σ H x y v u Q I rx ry q hs
def ziR{r:R2}(hr:IxR X r)(ha:PE X a ta)(hb:PE X b tb)(hs:yaW b):PE X (.Subscript a b pos) (tOp r ta tb):=by
 intro π s σ H Q I h;exact Fq (zi6 ha hb I h λv u s2 x y H2 I2 rx ry q=>hr a b π s2 σ H2 x y v u Q I2 rx ry q (hs _ _))
def ydX(K:AF):R2:=λx y H Q=>∃p xs i v,x=.ref p/\y=.int i/\SqL K H p xs/\atI xs i=AA v/\Q v H
def yek(K:AF):R2:=λx y H Q=>∃p xs i v,x=.ref p/\y=.int i/\SqT K H p xs/\atI xs i=AA v/\Q v H
def yeb:R2:=λx y H Q=>∃z i c,x=.str z/\y=.int i/\z.length<=sizeLine/\atI z.cps.toList i=AA c/\Q (.str ⟨#[c]⟩) H
def zjp:IxR X (ydX X.K):=by
 intro value slice π s σ H x y v u Q I rx ry h hs;let⟨p,xs,i,z,rfl,rfl,hq,he,q⟩:=h
 cases rx
 let⟨t,rfl⟩:=ry;let⟨its,r,pl,hz⟩:=I.list hq;let⟨j,h1,h2,h3,h4,h5⟩:=zbH he;let⟨w,ew,rw'⟩:=r.get h2;have hl:=r.length;have hn:=zi1;have fin:EP X π σ Q w s:=⟨z,H,I,rw',q⟩
 by_cases h0:0<=i
 .have hj:i.toNat=j:=by
   rw[F7 h0 h5]at h1;exact A0 h1
  exact item_listR pl.isList h0 ∅ (by rw[hj];simpa using ew) fin hs
 .have hj:(i+(its.toArray.size:Int)).toNat=j:=by
   rw[seqIndex_neg ∅ h4]at h1;rw[AW,<-hl];exact A0 h1
  exact EF (x:=w) pl.isList.typeIs FL.lookup
   (wpAny_getItem_list_neg (Q:=λr s'=>r=w/\EP X π σ Q r s') pl.isList ∅ (by rw[AW]<;>lia) ∅ (by rw[hj];simpa using ew) ⟨rfl,fin⟩) hs
def zjq:IxR X (yek X.K):=by
 intro value slice π s σ H x y v u Q I rx ry h hs;let⟨p,xs,i,z,rfl,rfl,hq,he,q⟩:=h
 cases rx
 let⟨t,rfl⟩:=ry;let⟨its,r,pl,hz⟩:=I.tuple hq;let⟨j,h1,h2,h3,h4,h5⟩:=zbH he;let⟨w,ew,rw'⟩:=r.get h2;have hl:=r.length;have hn:=zi1;have fin:EP X π σ Q w s:=⟨z,H,I,rw',q⟩;exact EF (x:=w) pl.typeIs An.lookup
  (getItem_tuple (j:=j) (Q:=λr s'=>r=w/\EP X π σ Q r s') pl ∅ ∅ (by rw[AW,<-hl];exact h1) (by simpa using ew) ⟨rfl,fin⟩) hs
def zgK:IxR X yeb:=by
 intro value slice π s σ H x y v u Q I rx ry h hs;let⟨z,i,c,rfl,rfl,hz,he,q⟩:=h;let⟨t,rfl⟩:=rx;let⟨t',rfl⟩:=ry;let⟨j,h1,h2,h3,h4,h5⟩:=zbH he;have hl:z.cps.toList.length=z.length:=by simp[Str.length]
 rw[hl]at h1 h4 h5;have hn:=zi1;exact tail_any (Ft s z t) slot_str_getitem.lookup (getItem_str (c:=c) (by
  have e1:decide (i < -(2^63:Int))=false:=decide_eq_false ∅;have e2:decide (i ≥ 2^63)=false:=decide_eq_false ∅;rw[e1,e2,GR]) (by rw[h1];simpa using h2) ⟨.str ⟨#[c]⟩,H,I.tok _,⟨_,rfl⟩,q⟩) hs
def rIx(K:AF):R2:=λx y H Q=>ydX K x y H Q \/ yek K x y H Q \/ yeb x y H Q
def zb4:IxR X (rIx X.K):=zjp.or (zjq.or zgK)
def zcB(its:List AD)(n j:Nat)(u:AD):Az (·.setIfInBounds j u) {cls:=.type "list",data:=.seq its.toArray n}={cls:=.type "list",data:=.seq (its.set j u).toArray n}:=by
 simp[Az]
theorem Inv.lst{π:List (AI×B8)}{σ:St}{H:Hp}{s:AH}{p:AI}{xs:List V}(I:Inv X π σ H s)(h:H p=AA (.lst xs)):
  ∃(its:List AD) (n:Nat),Vals xs its/\s.heap.get? p=AA {cls:=.type "list",data:=.seq its.toArray n}/\xs.length<=sizeLine:=by
 let⟨z,its,n,r,e⟩:=I.hok p _ h;exact⟨its,n,r,e,z⟩
theorem Inv.lstUpd{π:List (AI×B8)}{σ:St}{H:Hp}{s:AH}{p:AI}{xs ys:List V}{its its':List AD}{n n':Nat}{f:B8->B8}(I:Inv X π σ H s)(h:H p=AA (.lst xs))
  (ho:s.heap.get? p=AA {cls:=.type "list",data:=.seq its.toArray n}) (hf:f {cls:=.type "list",data:=.seq its.toArray n}={cls:=.type "list",data:=.seq its'.toArray n'}) (r:Vals ys its') (hz:ys.length<=sizeLine) (t:Nat):
  Inv X π σ (upd H p (.lst ys)) {s with heap:=s.heap.update p f,toks:=t}:=by
 have e:(s.heap.update p f).get? p=AA {cls:=.type "list",data:=.seq its'.toArray n'}:=by
  rw[Ck f ho (by rw[hf]<;>rfl),hf]
 refine I.write (x:=p) (e:=p) (by rw[h];trivial) (.inl rfl) (λb u hb q=>(Cd _ _ (BY hb)).trans q) ⟨_,e⟩ ?_;exact⟨hz,its',n',r,e⟩
def ycl:V->V->V->Hp->(Hp->Prop)->Prop:=λo i v H Q=>∃p xs k j,o=.ref p/\i=.int k/\H p=AA (.lst xs)/\ixN xs.length k=AA j/\Q (upd H p (.lst (xs.set j v)))
def zcp:yeg X ycl:=by
 intro π s σ H o i v ov iv u Q I ro ri rv h;let⟨p,xs,k,j,rfl,rfl,hp,hj,q⟩:=h
 cases ro
 let⟨t,rfl⟩:=ri;let⟨its,n,r,ho,hz⟩:=I.lst hp;let⟨h1,h2,h3,h4⟩:=zdV hj;have hl:=r.length;have hn:=zi1;have I':Inv X π σ (upd H p (.lst (xs.set j v))) {s with heap:=s.heap.update p (Az (·.setIfInBounds j u))}:=
  I.lstUpd hp ho (zcB its n j u) (r.set rv j) (by rw[BB];exact hz) s.toks
 by_cases h0:0<=k
 .have hk:k.toNat=j:=by
   rw[F7 h0 h4]at h1;exact A0 h1
  exact PySem.W.ki_setAt ho h0 ∅ (by rw[AW,<-hl];exact h4) (by rw[hk];exact⟨_,I',q⟩)
 .have hk:(k+(its.toArray.size:Int)).toNat=j:=by
   rw[seqIndex_neg ∅ h3]at h1;rw[AW,<-hl];exact A0 h1
  exact PySem.W.ki_setBack ho ∅ (by rw[AW,<-hl];exact h3) ∅ (by rw[hk];exact⟨_,I',q⟩)
def zbc(lo hi:Option Int)(n:Nat):(sliceBounds lo hi AE n).1=((HT.sIx n 0 lo:Nat):Int)/\(sliceBounds lo hi AE n).2.1=((HT.sIx n n hi:Nat):Int)/\(sliceBounds lo hi AE n).2.2=1:=by
 refine⟨?_,?_,rfl⟩
 .cases lo with
  |none=>simp[sliceBounds,HT.sIx]
  |some i=>
   erw[sliceBounds,HT.sIx,F1,show (1:Int) > 0 by decide,if_true]
   by_cases h:i<0
   .simp only[h,if_true]<;>lia
   .simp only[h,if_false]<;>lia
 .cases hi with
  |none=>simp[sliceBounds,HT.sIx]
  |some i=>
   erw[sliceBounds,HT.sIx,F1,show (1:Int) > 0 by decide,if_true]
   by_cases h:i<0
   .simp only[h,if_true]<;>lia
   .simp only[h,if_false]<;>lia
def za1(its:List AD)(lo hi:Option Int):slicePick its.toArray lo hi AE=((its.drop (HT.sIx its.length 0 lo)).take (HT.sIx its.length its.length hi-HT.sIx its.length 0 lo)).toArray:=by
 let⟨h1,h2,h3⟩:=zbc lo hi its.toArray.size;unfold slicePick;rw[h1,h2,h3];erw[sliceRange_one,pick_run,AW]<;>rfl
def yez(K:AF):V->Option Int->Option Int->Hp->VK->Prop:=λx lo hi H Q=>∃a xs,x=.ref a/\SqL K H a xs/\∀p,H p=AE->Q (.ref p) (upd H p (.lst (ybF xs lo hi)))
def zcN:SlR X (yez X.K):=by
 intro π s σ H x v vl vu lo hi sl Q I rx hs pl pu h;let⟨a,xs,rfl,hx,q⟩:=h
 cases rx
 let⟨its,r,ht,hz⟩:=I.list hx;have hlen:=r.length;refine⟨"list",_,FL.lookup,ht.isList.typeIs,?_⟩;refine wpAny_getItem_list_slice ht.isList hs pl pu .none (by simp) ?_ (by rw[AW]<;>lia);rw[za1,<-hlen];refine⟨.ref s.heap.objs.size,_,I.laid (t':=s.toks) (o:=.lst (ybF xs lo hi)) (λb ob q=>AL _ q) (AR _) ?_,rfl,q _ (I.hok.fresh (AR _))⟩;exact⟨BK (zaj xs lo hi) hz,_,0,(r.drop (HT.sIx xs.length 0 lo)).take (HT.sIx xs.length xs.length hi-HT.sIx xs.length 0 lo),A1 _ rfl⟩
def yav:V->Bool
 |.non=>AC
 |.bl _=>AC
 |.int _=>AC
 |.str _=>AC
 |_=>AG
def eqV:V->V->Bool
 |.non,.non=>AC
 |.bl a,.bl b=>a==b
 |.bl a,.int b=>(if a then 1 else 0)==b
 |.int a,.bl b=>a==(if b then 1 else 0)
 |.int a,.int b=>a==b
 |.str a,.str b=>a==b
 |_,_=>AG
def zhN{A:A7}{s:AH}{y x:V}{u v:AD}(ry:RelV y u)(rx:RelV x v)(fy:yav y=AC)(fx:yav x=AC):Gm A s u v (eqV y x):=by
 cases y with
 |non=>
  cases ry
  cases x with
  |non=>cases rx;exact SeqAt.EqAt.same _
  |bl b=>cases rx;exact SeqAt.EqAt.none_bool b
  |int b=>let⟨t,rfl⟩:=rx;exact SeqAt.EqAt.none_int b t
  |str b=>let⟨t,rfl⟩:=rx;exact SeqAt.EqAt.none_str b t
  |_=>exact absurd (show AG=AC from fx) AT
 |bl a=>
  cases ry
  cases x with
  |non=>cases rx;exact SeqAt.EqAt.bool_none a
  |bl b=>cases rx;exact SeqAt.EqAt.bool_bool a b
  |int b=>let⟨t,rfl⟩:=rx;exact SeqAt.EqAt.bool_int a b t
  |str b=>let⟨t,rfl⟩:=rx;exact SeqAt.EqAt.bool_str a b t
  |_=>exact absurd (show AG=AC from fx) AT
 |int a=>
  let⟨t',rfl⟩:=ry
  cases x with
  |non=>cases rx;exact SeqAt.EqAt.int_none a t'
  |bl b=>cases rx;exact SeqAt.EqAt.int_bool a t' b
  |int b=>let⟨t,rfl⟩:=rx;exact SeqAt.EqAt.int_int a t' b t
  |str b=>let⟨t,rfl⟩:=rx;exact Ep a t' b t
  |_=>exact absurd (show AG=AC from fx) AT
 |str a=>
  let⟨t',rfl⟩:=ry
  cases x with
  |non=>cases rx;exact SeqAt.EqAt.str_none a t'
  |bl b=>cases rx;exact SeqAt.EqAt.str_bool a t' b
  |int b=>let⟨t,rfl⟩:=rx;exact Es a t' b t
  |str b=>let⟨t,rfl⟩:=rx;exact SeqAt.EqAt.str_str a t' b t
  |_=>exact absurd (show AG=AC from fx) AT
 |_=>exact absurd (show AG=AC from fy) AT
def eqU(x:V)(u:AD):Bool:=match u with
 |.none=>eqV .non x
 |.bool b=>eqV (.bl b) x
 |.int i _=>eqV (.int i) x
 |.str z _=>eqV (.str z) x
 |_=>AG
def zfk{x y:V}{u:AD}(r:RelV y u)(f:yav y=AC):eqU x u=eqV y x:=by
 cases y with
 |non=>cases r;rfl
 |bl b=>cases r;rfl
 |int i=>let⟨t,rfl⟩:=r;rfl
 |str z=>let⟨t,rfl⟩:=r;rfl
 |_=>exact absurd (show AG=AC from f) AT
def zbR{x:V}:∀{xs:List V} {us:List AD},Vals xs us->xs.all yav=AC->us.any (eqU x)=xs.any λy=>eqV y x
 |_,_,.nil,_=>rfl
 |y::xs,u::us,.cons r t,f=>by
  rw[Ao,AJ]at f;rw[Be,Be,zfk r f.1,zbR t f.2]
def za4{A:A7}{s:AH}{x:V}{v:AD}(rx:RelV x v)(fx:yav x=AC):∀{xs:List V} {us:List AD},Vals xs us->xs.all yav=AC->∀u∈us,Gm A s u v (eqU x u)
 |_,_,.nil,_=>λu hu=>by cases hu
 |y::xs,u::us,.cons r t,f=>λu' hu=>by
  rw[Ao,AJ]at f;rcases A8.mp hu with rfl|hu
  .rw[zfk r f.1];exact zhN r rx f.1 fx
  .exact za4 rx fx t f.2 u' hu
def inV(x:V)(xs:List V):Bool:=xs.any λy=>eqV y x
def rIn(K:AF)(neg:Bool):R2:=λx y H Q=>∃p xs,y=.ref p/\(SqL K H p xs \/ SqT K H p xs)/\yav x=AC/\xs.all yav=AC/\Q (.bl (if neg then !inV x xs else inV x xs)) H
def zbr:OpR X (compareOp .In) (rIn X.K AG):=by
 intro π s σ H x y v u Q I rx ry h;let⟨p,xs,rfl,hq,fx,fs,q⟩:=h
 cases ry
 rcases hq with hq|hq
 .let⟨its,r,pl,hz⟩:=I.list hq;refine SeqAt.in_listAt (eqU x) pl.isList (λw hw=>za4 rx fx r fs w (by simpa using hw)) ⟨.bl _,H,I,rfl,?_⟩;rw[show its.toArray.any (eqU x)=its.any (eqU x)by simp,zbR r fs];exact q
 .let⟨its,r,pl,hz⟩:=I.tuple hq;refine SeqAt.in_tupleAt (eqU x) pl (λw hw=>za4 rx fx r fs w (by simpa using hw)) ⟨.bl _,H,I,rfl,?_⟩;rw[show its.toArray.any (eqU x)=its.any (eqU x)by simp,zbR r fs];exact q
def zbB:yN X (.builtin "len") (λxs H Q=>∃p ys,xs=[.ref p]/\(SqL X.K H p ys \/ SqT X.K H p ys)/\Q (.int ys.length) H):=by
 intro π s σ H xs us Q I r h;let⟨p,ys,rfl,hq,q⟩:=h;let⟨u,rfl,rx⟩:=vals1 r
 cases rx
 have hn:=zi1;rcases hq with hq|hq
 .let⟨its,r',pl,hz⟩:=I.list hq;have hlen:=r'.length;exact Calls.call_len_list pl.isList (by erw[AW]<;>lia) ⟨.int ys.length,H,I.tok _,⟨s.toks+1,by rw[AW,hlen]⟩,q⟩
 .let⟨its,r',pl,hz⟩:=I.tuple hq;have hlen:=r'.length;exact len_tuple pl (by erw[AW]<;>lia) ⟨.int ys.length,H,I.tok _,⟨s.toks+1,by rw[AW,hlen]⟩,q⟩
def zbu:yN X (.builtin "len") (λxs H Q=>∃z,xs=[.str z]/\z.length<=sizeLine/\Q (.int z.length) H):=by
 intro π s σ H xs us Q I r h;let⟨z,rfl,hz,q⟩:=h;let⟨u,rfl,t,rfl⟩:=vals1 r;have hn:=zi1;exact len_str ∅ ⟨.int z.length,H,I.tok _,⟨_,rfl⟩,q⟩
def zV:yN X (.type "tuple") (λxs H Q=>∃p ys,xs=[.ref p]/\((SqL X.K H p ys/\∀l,H l=AE->Q (.ref l) (upd H l (.tup ys))) \/ (SqT X.K H p ys/\Q (.ref p) H))):=by
 intro π s σ H xs us Q I r h;let⟨p,ys,rfl,h⟩:=h;let⟨u,rfl,rx⟩:=vals1 r
 cases rx
 rcases h with⟨hq,q⟩|⟨hq,q⟩
 .let⟨its,r',pl,hz⟩:=I.list hq;have hlen:=r'.length;refine call_tuple_list pl.isList (λh' kp=>?_) (by erw[AW]<;>lia);have I1:Inv X π σ H {s with heap:=h'}:=I.kept (t':=s.toks) kp;have I2:Inv X π σ (upd H h'.objs.size (.tup ys)) {s with heap:=h'.push {cls:=.type "tuple",data:=.seq its.toArray} }:=
   I1.laid (t':=s.toks) (λb o e=>AL _ e) (AR _) (show yp X.prog X.w _ _ _ (.tup ys)from ⟨hz,its,r',A1 _ rfl⟩)
  exact⟨.ref h'.objs.size,_,I2,rfl,q _ (I1.hok.fresh (AR _))⟩
 .let⟨its,r',pl,hz⟩:=I.tuple hq;exact call_tuple_same pl ⟨.ref p,H,I,rfl,q⟩
def tyV(K:AF)(T:String)(x:V)(H:Hp):Prop:=match x with
 |.str _=>T="str"
 |.int _=>T="int"
 |.ref p=>(T="list"/\∃xs,SqL K H p xs) \/ (T="tuple"/\∃o,K.lookup p=AA o/\o.cls=.type "tuple"/\o.dict=AE) \/
   (T="dict"/\((∃kvs,H p=AA (.dK kvs)) \/ ∃kvs,H p=AA (.dT kvs))) \/ (T="set"/\∃S n,H p=AA (.set S n))
 |_=>False
def zhW{π:List (AI×B8)}{σ:St}{H:Hp}{s:AH}{T:String}{x:V}{v:AD}(I:Inv X π σ H s)(r:RelV x v)(ty:tyV X.K T x H):
  s.TypeIs v T/\∀a,v=.ref a->∃ob,s.heap.get? a=AA ob/\ob.dict=none:=by
 cases x with
 |str z=>
  let⟨t,rfl⟩:=r
  cases (show T="str" from ty)
  exact⟨Ft s z t,λ_ e=>nomatch e⟩
 |int i=>
  let⟨t,rfl⟩:=r
  cases (show T="int" from ty)
  exact⟨typeIs_int s i t,λ_ e=>nomatch e⟩
 |ref p=>
  cases r
  rcases ty with⟨rfl,xs,hq⟩|⟨rfl,o,hk,hc,hd⟩|⟨rfl,hk⟩|⟨rfl,S,n,hk⟩
  .let⟨its,_,pl,_⟩:=I.list hq;refine⟨pl.isList.typeIs,λa e=>?_⟩
   cases e
   let⟨o,n,e,c,hd,_⟩:=pl;exact⟨o,e,hd⟩
  .refine⟨⟨o,I.kIn p o hk,hc⟩,λa e=>?_⟩
   cases e
   exact⟨o,I.kIn _ o hk,hd⟩
  .have z:∃o,s.heap.get? p=AA o/\o.ExactDict:=by
    rcases hk with⟨kvs,hk⟩|⟨kvs,hk⟩
    .let⟨_,_,_,_,o,_,_,e,ex,_⟩:=I.hok p _ hk;exact⟨o,e,ex⟩
    .let⟨_,_,_,_,o,_,_,e,ex,_⟩:=I.hok p _ hk;exact⟨o,e,ex⟩
   let⟨o,e,ex⟩:=z;refine⟨⟨o,e,ex.1⟩,λa e2=>?_⟩
   cases e2
   exact⟨o,e,ex.2.1⟩
  .let⟨o,_,_,_,e,ex,_⟩:=I.hok p _ hk;refine⟨⟨o,e,ex.1⟩,λa e2=>?_⟩
   cases e2
   exact⟨o,e,ex.2.1⟩
 |_=>exact B1 ty
def tBM(K:AF)(T:String)(r:V->List V->Hp->VK->Prop)(to:TE)(t:TA):TE:=λσ H Q=>to σ H λx H1=>tyV K T x H1/\t σ H1 λxs H2=>r x xs H2 Q
variable {o e:AM}{es:List AM}{to:TE}{t:TA}{name:AS}{apos cpos:Bf}{T id:String}{r:V->List V->Hp->VK->Prop}
def ziu(pa:PlainAttrs T)(slot:Slot T name id)(hty:typeOf (.builtin id)=pure (.type "method_descriptor"))(hm:MtR X id r)(ho:PE X o to)(ha:PA X (e::es) t)
  (hbase:attributeBase o name X.env (eval o X.env)=eval o X.env:=by rfl)
  (hfew:((backTo cpos (starEach (e::es) X.env)).all (λx=>!x.1)&&(backToKw cpos (keywordEach [] X.env)).all (λx=>x.1.isSome)
   && decide ((e::es).length+([]:List CG).length+(if ([]:List CG).isEmpty then 0 else 1)<30))=true:=by rfl)
  (hline:(apos.endLine==cpos.line)=true:=by rfl) (hs:starEach (e::es) X.env=(AG,eval e X.env)::starEach es X.env:=by rfl) (hplain:(backTo cpos (starEach es X.env)).any (·.1)=false:=by rfl):
  PE X (.Call (.Attribute o name apos) (e::es) [] cpos) (tBM X.K T r to t):=by
 intro π s σ H Q I h;refine wpAny_Call_method_late hbase hfew hline rfl (thn (ho π s σ H _ I h) λv s1 kq=>?_);let⟨x,H1,I1,r1,ty,q1⟩:=kq;let⟨h1,h2⟩:=zhW I1 r1 ty;refine⟨T,id,pa,slot,hty,h1,h2,?_⟩;have hA:=ha cpos π s1 σ H1 _ I1 q1;rw[hs]at hA ⊢;refine EG (by show (AG || (backTo cpos (starEach es X.env)).any (·.1))=AG;rw[hplain]<;>rfl) (E4 ?_);exact thn hA λus s2 ⟨vs,H2,I2,r2,q2⟩=>hm π s2 σ H2 x vs v us Q I2 r1 r2 q2
/- xs.append(e),list.index on a module's tuple .. are MtR facts of 06m -/
end
def MtM(X:Cx)(id:String)(r:V->List V->Hp->VK->Prop):Prop:=
 ∀(π:List (AI×B8)) (s:AH) (σ:St) (H:Hp) (x:V) (xs:List V) (v:AD) (us:List AD) (Q:VK),Inv X π σ H s->RelV x v->Vals xs us->r x xs H Q ->
  AQ (model X.prog X.w) X.A (call (.builtin id) (v::us)) (EP X π σ Q) X.xe s
theorem Vals.one:∀{x:V} {us:List AD},Vals [x] us->∃u,us=[u]/\RelV x u
 |_,_,.cons r .nil=>⟨_,rfl,r⟩
section
variable {X:Cx}{π:List (AI×B8)}{σ:St}{H:Hp}{s:AH}{l b:AI}{xs ys zs:List V}
theorem Inv.lset{its its':List AD}{n:Nat}{f:Array AD->Array AD}{t':Nat}(I:Inv X π σ H s)(hH:H l=AA (.lst xs))
  (e:s.heap.get? l=AA {cls:=.type "list",data:=.seq its.toArray n}) (hf:f its.toArray=its'.toArray) (hv:Vals ys its') (hz:ys.length<=sizeLine):
  Inv X π σ (upd H l (.lst ys)) {s with heap:=s.heap.update l (Az f),toks:=t'}:=by
 have q:=PySem.IsL.update e f;rw[hf]at q;refine I.write (x:=l) (e:=l) (by rw[hH];exact trivial) (.inl rfl) (λb' u hb hu=>(Cd s.heap (Az f) (BY hb)).trans hu) ⟨_,q⟩ ?_;exact⟨hz,its',_,hv,q⟩
theorem Inv.lnew{its:List AD}{t':Nat}(I:Inv X π σ H s)(hv:Vals ys its)(hz:ys.length<=sizeLine):
  Inv X π σ (upd H s.heap.objs.size (.lst ys)) {s with heap:=s.heap.push {cls:=.type "list",data:=.seq its.toArray},toks:=t'}:=
 I.laid (λ_ _ q=>AL _ q) (AR _) ⟨hz,its,0,hv,A1 _ rfl⟩
theorem Inv.fresh(I:Inv X π σ H s):H s.heap.objs.size=none:=I.hok.fresh (AR _)
theorem Inv.lstM(I:Inv X π σ H s)(hH:H l=AA (.lst xs)):xs.length<=sizeLine/\∃(its:List AD) (n:Nat),Vals xs its/\xs.length=its.length/\s.heap.get? l=AA {cls:=.type "list",data:=.seq its.toArray n}:=by
 let⟨z,its,n,r,e⟩:=I.hok l _ hH;exact⟨z,its,n,r,r.length,e⟩
end
section
variable {X:Cx}
def ybN:V->List V->Hp->VK->Prop:=λx vs H Q=>∃l xs y,x=.ref l/\vs=[y]/\H l=AA (.lst xs)/\xs.length<sizeLine/\Q .non (upd H l (.lst (xs++[y])))
def zbq:MtM X "list.append" ybN:=by
 intro π s σ H x vs v us Q I rx rv h;let⟨l,xs,y,rfl,rfl,hH,hz,q⟩:=h
 cases rx
 let⟨u,rfl,ru⟩:=rv.one;let⟨z,its,n,r,hl,e⟩:=I.lstM hH;refine call_meets EW ⟨_,e,rfl⟩ F.entry_list_append (F.args_list_append_2 _ _) (PySem.list_append l its.toArray n u (by rw[AW];lia)) ⟨e,?_⟩;refine⟨.non,_,I.lset (its':=its++[u]) hH e (by simp) (r.append (.cons ru .nil)) ?_,rfl,q⟩;rw[As,Cm];lia
def yfJ:R2:=λx y H Q=>∃l b xs zs,x=.ref l/\y=.ref b/\H l=AA (.lst xs)/\H b=AA (.lst zs)/\xs.length+zs.length<=sizeLine/\∀p,H p=AE->Q (.ref p) (upd H p (.lst (xs++zs)))
def zhK:OpR X (binaryOp .Add) yfJ:=by
 intro π s σ H x y v u Q I rx ry h;let⟨l,b,xs,zs,rfl,rfl,hH,hB,hz,q⟩:=h
 cases rx
 cases ry
 let⟨z,its,n,r,hl,e⟩:=I.lstM hH;let⟨z2,its2,n2,r2,hl2,e2⟩:=I.lstM hB;refine PySem.P.add_list e e2 ?_ (by rw[AW,AW];lia);have ea:its.toArray++its2.toArray=(its++its2).toArray:=by simp
 rw[ea];exact⟨.ref _,_,I.lnew (t':=s.toks) (r.append r2) (by rw[As];lia),rfl,q _ I.fresh⟩
end
section
variable {prog:AV}{w:A5}{A:A7}{E:AD->AH->Prop}{s:AH}
end
section
variable {X:Cx}
end
end L2
namespace Att
open PySem PySem.W PySem.Calls PyProof.Rows
def zax{P:Params}{h:Ak}:∀(ns:List Int) (vs:List AD),WellAll P h vs (ns.map Gu)->Fh vs ns:=by
 intro ns
 induction ns with
 |nil=>
  intro vs w;rw[BQ]at w
  cases w
  exact .nil
 |cons n ns ih=>
  intro vs w;rw[AX]at w
  cases w with
  |cons a b=>
   cases a
   exact .cons _ _ (ih _ b)
def zdv{l:Dx}{n:Nat}(hn:l.most=AA n){P:Params}{h:Ak}{args:List WData}{vals:List AD}
  (hpre:l.row.toRowW.claim.pre args=AC) (hwl:WellAll P h vals args):
  ∃a vs ns,vals=[Ac a]/\args=[WData.list (ns.map Gu)]/\h.get? a=AA {cls:=.type "list",data:=.seq vs.toArray}/\Fh vs ns/\ns.length<=n:=by
 have hsh:WShape.hasAll [] args [.list .int]=true:=(pre_splitW hpre).1;have hc:l.pre.holds [] {args:=args}=true:=(pre_splitW hpre).2;let⟨d,r,rfl,h1,h2⟩:=hasAllW_cons hsh;obtain rfl:=hasAllW_nil h2;let⟨xs,rfl,h3⟩:=hasW_list h1;let⟨ns,rfl⟩:=items_int h3;have hlen:ns.length<=n:=by
  unfold OpenLaw.pre at hc;have h4:(WTm.not (.lt (.lit (.int (n:Int))) (.len (.arg 0)))).holds [] {args:=[.list (ns.map .int)]}=true:=by
   have h4:=(holds_andW hc).1;rw[hn]at h4;exact h4
  have h5:=condW_of h4 (w_not (w_lt w_lit (w_len_list (w_arg rfl))));rw[Ap]at h5;refine Nat.le_of_not_lt λq=>?_;have q':(n:Int)<((ns.length:Nat):Int):=by lia
  first
   |(rw[decide_eq_true q']at h5;exact absurd h5 ⋯)
   |(simp at h5;lia)
 cases hwl with
 |cons w1 w2=>
  cases w2
  cases w1 with
  |list ho hall=>exact⟨_,_,ns,rfl,rfl,ho,zax ns _ hall,hlen⟩
def zc7(l:Dx)(args:List WData):l.row.toRowW.claim.post args (.bool AC) args=true:=
 postW_of (r:=l.row.toRowW) (X:=(AC==AC))
  (show Gn [] (.bool AC) .bool=AC by first|rfl|decide|simp[Gn,WShape.arms,WShape.armsAll])
  (show (WTm.eq .res (.lit (.bool AC))).value [] {args:=args,res:=AA (.bool AC),after:=args}=AA (.bool (AC==AC))from w_eq_bool (w_res rfl) w_lit) rfl
theorem attach_call{l:Dx}{n:Nat}{q:AV}{loose:List AS}{XP:(AS->Option AD)->Ak->Prop}{YP:A5->Ak->Prop}{d:DefRec}
  (hn:l.most=AA n) (hdf:d.params.defaults=[])
  (call:∀(w:A5) (s₀ s₁:AH) (mg mb:AS->Option AD) (fa:AI) (o:B8) (pm cd doc:AD) (a:AI) (vs:List AD) (ns:List Int),
   Ground q loose [] XP w s₀ mg mb s₁.heap->YP w s₁.heap ->
   s₁.heap.get? fa=AA o->o.data=.func (docDef d.name d.params d.body d.scope pm cd doc)->s₁.heap.CodeRec cd d.name->mg d.name=AA (.ref fa) ->
   s₁.heap.get? a=AA {cls:=.type "list",data:=.seq vs.toArray}->Fh vs ns->ns.length<=n->s₁.gens=#[] ->
   codeAny (model l.prog w) callerA (.call (.ref fa) ⟨[.ref a],[]⟩) (λr s'=>r=.ok (.ret (.bool AC))/\OldK s₁.heap s'.heap/\s'.os=s₁.os/\Cy s'.gens) s₁):
  Fi q loose XP YP l.row.toRowW d [] (λf vs=>Fu f vs):=by
 intro w s₀ s₁ mg mb G Y fa o pm cd doc dV kV ho hd hcd hD hmg hg args vals as hpre hlay hrd hwl hlo;obtain rfl:dV=.none:=Dflts.none hD hdf;obtain rfl:kV=.none:=Dflts.noKw hD;let⟨a,vs,ns,rfl,rfl,hobj,hints,hlen⟩:=zdv hn hpre hwl;refine enter_call (EH (call w s₀ s₁ mg mb fa o pm cd doc a vs ns G Y ho (fd_plain hd) hcd hmg hobj hints hlen hg) λr s' hq=>?_);let⟨rfl,h2,h3,h4⟩:=hq;exact⟨.inl ⟨.bool AC,.bool AC,[],rfl,λ_=>rfl,.bool AC,zc7 l _,λ_=>⟨Gq,λ_ hm=>(nomatch hm)⟩⟩,h2,h3,h4⟩
section
variable {prog:AV}{w:A5}{A:A7}{E:AD->AH->Prop}{s:AH}{K:AF}
end
end Att
namespace L2
open PySem PySem.Spec PyProof.Rows
def zbC:∀{vs:List AD} {ns:List Int},Fh vs ns->Vals (ns.map V.int) vs
 |_,_,.nil=>.nil
 |_,_,.cons n t h=>.cons ⟨t,rfl⟩ (zbC h)
def Only(H:Hp):Prop:=∀b,H b=AE \/ ∃o xs,H b=AA (.frz o (.lst xs))
def zeo{P:AV}{w:A5}{K:AF}{mg mb:AS->Option AD}{CX:CXT}{k:Nat}{fa a:AI}{fd:Aj}{x:AS}{sp:Sp}{s₁:AH}{vs:List AD}{ns:List Int}
  (KX:K.In s₁.heap) (hns:s₁.heap.Ns mainGlobals mg) (hb:s₁.heap.Ns builtinsNs mb) (hbb:∀x:AS,x ≠ "__name__"->mb x=bootBuiltins x) (hlim:s₁.heap.NoLimit) (hg:s₁.gens=#[])
  (ha:s₁.heap.get? a=AA {cls:=.type "list",data:=.seq vs.toArray}) (hi:Fh vs ns) (hl:ns.length<=sizeLine) (hr:yat k callerA)
  (F:∀base:Ak,K.In base->base.Ns mainGlobals mg->yaG P w K mg base CX k fa fd [x] sp) (hbind:∀(s:AH) (u:AD),EC s fd ⟨[u],[]⟩ [(x,u)])
  (hsp:∀H:Hp,Only H->SqL K H a (ns.map V.int)->sp [.ref a] H (λv _=>v=.bl AC) λ_ _ _=>False)
  (hCX:∀H e s',CX [] H s₁ (λ_ _ _=>False) e s'->False):
  codeAny (model P w) callerA (.call (.ref fa) ⟨[.ref a],[]⟩) (λr s'=>r=.ok (.ret (.bool AC))/\OldK s₁.heap s'.heap/\s'.os=s₁.os/\Cy s'.gens) s₁:=by
 have rv:=zbC hi;have lenV:=hi.length;have core:∀H:Hp,Only H->SqL K H a (ns.map V.int)->HOk P w H s₁.heap->(∀b,H b≠AE->b=a)->(H a≠AE->K.lookup a=AE) ->
   codeAny (model P w) callerA (.call (.ref fa) ⟨[.ref a],[]⟩) (λr s'=>r=.ok (.ret (.bool AC))/\OldK s₁.heap s'.heap/\s'.os=s₁.os/\Cy s'.gens) s₁:=by
  intro H hO hS hok hA hK;have base_of:∀{b:AI} {o:B8},s₁.heap.get? b=AA o->H b=AE->(ybx s₁.heap H).get? b=AA o:=λe n=>zey e n;have noA:∀{b:AI} {o:B8} {es:Array BW} {ep:Nat},s₁.heap.get? b=AA o->o.data=.dict es ep->H b=none:=λ{b o es ep} e d=>by
   cases q:H b with
   |none=>rfl
   |some u=>
    have e':b=a:=hA b (by rw[q];simp);subst e';rw[ha]at e;cases e;have d':Data.seq vs.toArray _=Data.dict es ep:=d
    cases d'
  have nsK:∀{b:AI} {m:AS->Option AD},s₁.heap.Ns b m->(ybx s₁.heap H).Ns b m:=λ{b m} ⟨o,es,ep,e,d,r⟩=>⟨o,es,ep,base_of e (noA e d),d,r⟩;have hKb:K.In (ybx s₁.heap H):=λb o e=>base_of (KX b o e) (by
   cases q:H b with
   |none=>rfl
   |some u=>
    have e':b=a:=hA b (by rw[q];simp);subst e';rw[hK (by rw[q];simp)]at e;cases e)
  have hM:Mod K mg (ybx s₁.heap H):=⟨hKb,nsK hns,⟨mb,nsK hb,hbb⟩,let ⟨mc,h1,h2⟩:=hlim;⟨mc,nsK h1,h2⟩⟩;have e0:ycd P w K mg (ybx s₁.heap H) callerA [] s₁ H:=⟨rfl,hM,λb o e=>zgo e,G5 (zdZ _ _),trivial,λb hb=>absurd (show b∈([]:List AI)from hb) (by simp),hok,.of_eq hg⟩;refine EH ((F _ hKb (nsK hns)).run callerA [] s₁ H ⟨[.ref a],[]⟩ [.ref a] [.ref a] _ _ hr e0 (hbind s₁ (.ref a)) (.cons rfl .nil) (hsp H hO hS)) λr s' h=>?_
  cases r with
  |error e=>exact(hCX H e s' h).elim
  |ok fl=>
   cases fl with
   |next=>exact B1 h
   |brk=>exact B1 h
   |cont=>exact B1 h
   |ret u=>
    let⟨v,H',os,bare,un,hok',r',q⟩:=h;have q':v=.bl true:=q;subst q';obtain rfl:u=Dy true:=r';refine⟨rfl,OldK.of_keep λb o e=>?_,os,bare⟩
    cases q:H b with
    |none=>exact un.keep b o e q (by intro z;exact absurd (show b∈([]:List AI)from z) (by simp)) (by simp)
    |some u=>
     rcases hO b with z|⟨ob,xs,z⟩
     .rw[q]at z;cases z
     .have z2:=un.frzs b ob _ z;let⟨e1,_⟩:=hok b _ z;let⟨e2,_⟩:=hok' b _ z2;rw[e]at e1;cases e1;exact e2
 cases hk:K.lookup a with
 |some o=>
  have e:=KX a o hk;rw[ha]at e
  cases e
  refine core (λ_=>AE) (λ_=>.inl rfl) (.inr ⟨_,vs.toArray,_,hk,rfl,rfl,rfl,by rw[AW,lenV];exact hl,by simpa using rv⟩) (λb u z=>by have z':(AE:Option HO)=AA u:=z;cases z') (λb z=>absurd rfl z) λz=>absurd rfl z
 |none=>
  refine core (λb=>if b=a then AA (.frz {cls:=.type "list",data:=.seq vs.toArray} (.lst (ns.map V.int)))else AE) (λb=>?_) (.inl (.inr ⟨{cls:=.type "list",data:=.seq vs.toArray},if_pos rfl⟩)) (λb u z=>?_) (λb z=>?_) λ_=>hk
  .by_cases hb:b=a
   .exact .inr ⟨_,_,if_pos hb⟩
   .exact .inl (if_neg hb)
  .by_cases hb:b=a
   .have z':=(if_pos hb).symm.trans z
    cases z'
    subst hb;exact⟨ha,by rw[Ap];exact hl,vs,_,rv,ha⟩
   .have z':=(if_neg hb).symm.trans z
    cases z'
  .by_cases hb:b=a
   .exact hb
   .exact absurd (if_neg hb) z
theorem walk_of{l:Dx}{n k:Nat}{q:AV}{loose:List AS}{XP:(AS->Option AD)->Ak->Prop}{YP:A5->Ak->Prop}{d:DefRec}{K:Params->AF}{CX:A5->CXT}{sp:A5->Sp}{x:AS}
  (hn:l.most=AA n) (hn2:n<=sizeLine) (hdf:d.params.defaults=[]) (hr:yat k callerA)
  (hY:∀(w:A5) (h:Ak),YP w h->(K w.params).In h)
  (F:∀(w:A5) (mg:AS->Option AD) (fa:AI) (h:Ak),(K w.params).In h->h.Ns mainGlobals mg->mg d.name=AA (.ref fa) ->
   ∃fd:Aj,(∀(s:AH) (u:AD),EC s fd ⟨[u],[]⟩ [(x,u)]) /\
    ∀base:Ak,(K w.params).In base->base.Ns mainGlobals mg->yaG l.prog w (K w.params) mg base (CX w) k fa fd [x] (sp w))
  (hsp:∀(w:A5) (H:Hp) (a:AI) (ns:List Int),ns.length<=n->Only H->SqL (K w.params) H a (ns.map V.int)->sp w [.ref a] H (λv _=>v=.bl AC) λ_ _ _=>False)
  (hCX:∀(w:A5) (H:Hp) (s:AH) (e:AD) (s':AH),CX w [] H s (λ_ _ _=>False) e s'->False):
  Fi q loose XP YP l.row.toRowW d [] (λf vs=>Fu f vs):=by
 refine Att.attach_call hn hdf λw s₀ s₁ mg mb fa o pm cd doc a vs ns G Y ho hd hcd hmg hobj hints hlen hg=>?_;have KX:=hY w _ Y;let⟨fd,hb,hF⟩:=F w mg fa _ KX G.T.g hmg;exact zeo KX G.T.g G.T.b G.T.builtins G.T.nolimit hg hobj hints (BK hlen hn2) hr hF hb (λH hO hS=>hsp w H a ns hlen hO hS) λH e s'=>hCX w H s₁ e s'
def yH(s:Bd):Arguments:=match s with
 |.FunctionDef _ a _ _ _ _ _ _ _ _=>a
 |_=>{posonlyargs:=[],args:=[],vararg:=AE,kwonlyargs:=[],kw_defaults:=[],kwarg:=AE,defaults:=[]}
def yq(s:Bd):List Stmt:=match s with
 |.FunctionDef _ _ b _ _ _ _ _ _ _=>b
 |_=>[]
def yg(s:Bd):Scope:=match s with
 |.FunctionDef _ _ _ _ _ _ sc _ _ _=>sc
 |_=>{kind:=.function,names:=[],isGenerator:=AG,isCoroutine:=AG}
abbrev CX0:CXT:=λ_ _ _ _ _ _=>False
abbrev E0:XK:=λ_ _ _=>False
structure Fun(K:AF)(x qual:AS)(st:Bd)(f:AI)(fd:Aj):Prop where
 ex:∃(oc:AD) (od:Option AI) (kV doc pm:AD) (an:Option AI) (cdv ct:AD) (osl:Array (Option AD)),
  fd=BL x qual (yH st) (yq st) (yg st) .none kV doc pm an cdv ct/\K.lookup f=AA ⟨oc,od,.func fd,osl⟩/\Bj K cdv qual=AC
 kp:Ae K (.ref f)=AC
section
variable {P:AV}{w:A5}{K:AF}{mg:AS->Option AD}{base:Ak}
theorem Fun.binds{x qual:AS}{st:Bd}{f:AI}{fd:Aj}{ps:List AS}(F:Fun K x qual st f fd)
  (h:∀(kV doc pm:AD) (an:Option AI) (cdv ct:AD) (us:List AD),us.length=ps.length->bindArgs (BL x qual (yH st) (yq st) (yg st) .none kV doc pm an cdv ct) ⟨us,[]⟩=pure (ps.zip us)):Binds K fd ps []:=by
 let⟨oc,od,kV,doc,pm,an,cdv,ct,osl,rfl,lk,hcd⟩:=F.ex;exact .all (h kV doc pm an cdv ct)
end
section
variable {X:Cx}
end
end L2
namespace WE
open PySem PySem.Spec PyProof.Rows
open AutoSeq1 (wpAny_loadPart')
section
variable {pg:AV}{wd:A5}{A:A7}{Er:AD->AH->Prop}{s:AH}
def zcG{it t:AI}{i:Nat}{xs:Array AD}{x:AD}{Q:AD->AH->Prop}(hi:s.heap.IsTupleIter it t i)(ht:s.heap.IsTuple t xs)(hx:xs[i]?=AA x)
  (k:∀h',h'.IsTupleIter it t (i+1)->CF it s.heap h'->Q x {s with heap:=h'}):AQ (model pg wd) A (Bp (.ref it)) Q Er s:=by
 let⟨oi,gi,ci,di⟩:=id hi;let⟨ot,gt,_,nt,dt⟩:=ht;unfold Bp;refine AB (BR (name:=AO "__next__") hi.typeIs Bl (BM Bl hi.typeIs DM ?_ (DE _)));show AQ _ _ (field (.ref it) 0 >>= _) _ _ _;refine AB (CD gi di (x:=.ref t) rfl ?_);show AQ _ _ (if (Ac t==BN)=AC then _ else _) _ _ _;rw[if_neg (show ¬((Ac t==BN)=AC)from λz=>AT z)];show AQ _ _ (field (.ref it) 1 >>= _) _ _ _;refine AB (CD gi di (x:=.int i 0) rfl ?_);show AQ _ _ (seqItems? (.ref t) >>= _) _ _ _;refine AB (DQ gt dt ?_);erw[Cf,hx];refine AB (Cg gi di (by simp) (AK ⟨x,rfl,AK (k _ ?_ (CV ..))⟩));refine⟨_,Ck _ gi (EX (C4 di _)),(FM ..).trans ci,?_⟩;rw[C4 di];simp[rawInt]
def zdN{it t:AI}{i:Nat}{xs:Array AD}{Q:AD->AH->Prop}(hh:A.handled=AE)(hi:s.heap.IsTupleIter it t i)(ht:s.heap.IsTuple t xs)(hx:xs[i]?=AE)
  (k:∀h' e,Gh it s.heap h'->(∃o,h'.get? e=AA o/\o.cls=.type "StopIteration")->Er (.ref e) {s with heap:=h'}):AQ (model pg wd) A (Bp (.ref it)) Q Er s:=by
 let⟨oi,gi,ci,di⟩:=id hi;let⟨ot,gt,_,nt,dt⟩:=ht;unfold Bp;refine AB (BR (name:=AO "__next__") hi.typeIs Bl (BM Bl hi.typeIs DM ?_ (DE _)));show AQ _ _ (field (.ref it) 0 >>= _) _ _ _;refine AB (CD gi di (x:=.ref t) rfl ?_);show AQ _ _ (if (Ac t==BN)=AC then _ else _) _ _ _;rw[if_neg (show ¬((Ac t==BN)=AC)from λz=>AT z)];show AQ _ _ (field (.ref it) 1 >>= _) _ _ _;refine AB (CD gi di (x:=.int i 0) rfl ?_);show AQ _ _ (seqItems? (.ref t) >>= _) _ _ _;refine AB (DQ gt dt ?_);erw[Cf,hx];refine AB (Dz (AB (Cg gi di (by simp) ?_)));show AQ _ _ (newExc (.type "StopIteration") [] >>= _) _ _ _;refine AB ?_;erw[newExc,newTuple];refine AB (Aw ?_ (by size_fits));refine AB (m:=firstArgMember _ _) (wpAny_of_eq (a:=BN) (by first|rfl|(erw[firstArgMember];rfl)) ?_);refine Aw ?_ (by size_fits);erw[raiseNew];refine AB (wpAny_handled ?_);first|rw[show A.in1.handled=AE from hh]|rw[hh]
 refine AB (AK (wpAny_throw ?_));exact k _ _ (((CV ..).extBut.push _).push _) ⟨_,A1 _ rfl,rfl⟩
end
theorem draws_tuple{pg:AV}{wd:A5}{A:A7}(hh:A.handled=AE)(it t:AI)(hne:t≠it)(xs:Array AD):
  Draws pg wd A it [it,t] xs.size (λi v=>xs[i]?=AA v) (λi h=>h.IsTupleIter it t i/\h.IsTuple t xs) where
 live:=λ_ _ st=>let ⟨o,g,_⟩:=st.1;⟨o,g⟩
 frame:=λ_ _ _ st kp=>⟨let ⟨o,g,r⟩:=st.1;⟨o,kp it (by simp) o g,r⟩,let ⟨o,g,r⟩:=st.2;⟨o,kp t (by simp) o g,r⟩⟩
 item:=λi s Q E hi st hQ=>zcG st.1 st.2 (x:=xs[i]) (by simp[hi]) λh' hit' hs'=>hQ _ h' s.toks (by simp[hi]) ⟨hit',st.2.extBut hs'.extBut hne⟩ hs'
 done:=λs Q E st hE=>zdN hh st.1 st.2 (by simp) hE
def zbN(l:AI)(xs:Array AD)(n:Nat)(dc:Option AI)(sl:Array (Option AD)):
  Meets (EI.«enumerate.__new__» ⟨[.type "enumerate",.ref l],[]⟩) (λ_ R s=>s.heap.get? l=AA {cls:=.type "tuple",dict:=dc,data:=.seq xs n,slots:=sl} /\
   R (.ok (.ret (.ref (s.heap.push {cls:=.type "tuple_iterator",data:=.fields #[.ref l,.int 0 0]}).objs.size)))
    {s with heap:=(s.heap.push {cls:=.type "tuple_iterator",data:=.fields #[.ref l,.int 0 0]}).push {cls:=.type "enumerate",data:=.fields #[.none,.bool AG,.ref s.heap.objs.size,rawInt 0,.none,.none]} }):=
 .of_wp λprog w A R s h=>by
  let⟨hp,g,d,tk,os⟩:=s;let⟨gl,h⟩:=h;have hsub:=sub_enumerate;have hT:Heap.IsTuple (Shared.heap ⟨hp,g,d,tk,os⟩) l xs:=⟨_,gl,rfl,n,rfl⟩
  wp_walk using wpAny_loadPart' gl
  refine wpAny_stack_any λst=>AK ?_;split
  .rename_i c _ _ _ _ _
   cases (c==Fk "enumerate")
   .wp_walk using wpAny_loadPart' gl,C5 hT
    exact⟨_,rfl,h⟩
   .wp_walk using wpAny_loadPart' gl,C5 hT
    exact⟨_,rfl,h⟩
  .wp_walk using wpAny_loadPart' gl,C5 hT
   exact⟨_,rfl,h⟩
theorem call_enumT{pg:AV}{wd:A5}{A:A7}{Er:AD->AH->Prop}{s:AH}{l:AI}{xs:Array AD}{Q:AD->AH->Prop}(hT:s.heap.IsTuple l xs)
  (k:∀h',IsEnum h' (s.heap.objs.size+1) s.heap.objs.size 0 .none->h'.IsTupleIter s.heap.objs.size l 0->h'.objs.size=s.heap.objs.size+2 ->
   (∀b o,s.heap.get? b=AA o->h'.get? b=AA o)->Q (.ref (s.heap.objs.size+1)) {s with heap:=h'}):AQ (model pg wd) A (call (.type "enumerate") [.ref l]) Q Er s:=by
 let⟨⟨c,dct,dt,sl⟩,gl,hc,n,hd⟩:=hT
 cases (show c=.type "tuple" from hc)
 cases (show dt=.seq xs n from hd)
 refine callType_new F.called_enumerate ⋯ (F.typeCall_enumerate_1 _) (F.newCall_enumerate_1 _) (λobj=>F.args_object_init_2 obj _) F.entry_enumerate_new (zbN l xs n dct sl) ⟨gl,?_⟩;have hz:(s.heap.push {cls:=.type "tuple_iterator",data:=.fields #[.ref l,.int 0 0]}).objs.size=s.heap.objs.size+1:=Fv ..;show _/\_;rw[hz];have he:IsEnum ((s.heap.push {cls:=.type "tuple_iterator",data:=.fields #[.ref l,.int 0 0]}).push {cls:=.type "enumerate",data:=.fields #[.none,.bool AG,.ref s.heap.objs.size,rawInt 0,.none,.none]}) (s.heap.objs.size+1) s.heap.objs.size 0 .none:=by
  have q:=A1 (s.heap.push {cls:=.type "tuple_iterator",data:=.fields #[.ref l,.int 0 0]}) (o:={cls:=.type "enumerate",data:=.fields #[.none,.bool AG,.ref s.heap.objs.size,rawInt 0,.none,.none]}) rfl;rw[hz]at q;exact q
 exact⟨⟨_,he,rfl⟩,k _ he ⟨_,AL _ (A1 _ rfl),rfl,rfl⟩ (by rw[Fv,hz]) λb o y=>AL _ (AL _ y)⟩
end WE
namespace L2
open PySem PySem.Spec PyProof.Rows
section
variable {X:Cx}
def ycI(i j:Int):Prop:=0<j/\j<10000000000000000000000000000000000000000000000000000000000000000000000
def zeR:OpR X (binaryOp .FloorDiv) (rI ycI λi j=>.int (i/j)):=opI λi j _ _ _ _ _ hc q=>by
 let⟨h1,h2⟩:=hc;refine floordiv_int ∅ (by rw[Int.fdiv_eq_ediv_of_nonneg i ∅];exact q) (.inl (PyProof.noPylong_of_log2 ?_));have h0:j.natAbs≠0:=by lia
 refine AY ((Nat.log2_lt h0).mpr (?_:j.natAbs<2^250)) ⋯;have e:(10000000000000000000000000000000000000000000000000000000000000000000000:Nat)<2^250:=by decide
 lia
end
section
variable {X:Cx}{π:List (AI×B8)}{σ:St}{H:Hp}{s:AH}{h':Ak}
theorem Inv.turnLaid{t':Nat}{ch:List AI}{T:AI}{o:HO}(I:Inv X π σ H s)(hf:∀b∈ch,yaK X π H b)(k:∀b u,b∉ch->s.heap.get? b=AA u->h'.get? b=AA u)
  (hp:s.heap.objs.size<=T) (new:yp X.prog X.w (upd H T o) h' T o):Inv X π σ (upd H T o) {s with heap:=h',toks:=t'}:=by
 have hn:H T=none:=I.hok.fresh hp;have nch:∀b u,H b=AA u->b∉ch:=λb u e z=>by
  have q:=(hf b z).1;rw[e]at q
  cases q
 refine I.step (g':=s.gens) (d':=s.drawn) (ch:=ch) (λb hb=>?_) (λb u _ _ hc e _=>k b u hc e) (λb u _ _ hc e _=>⟨u.slots,k b u hc e⟩) (λb u _ e n=>?_) (λb u hc e=>⟨u,k b u hc e⟩) (λb xs e=>?_) (λb u v e=>?_) (λb ps e=>⟨#[],?_⟩) (λm hm=>?_) (λb u e=>?_) I.bare
 .let⟨f0,f1,f2,f3,f4,f5⟩:=hf b hb;exact⟨f3,f1,f4,f5⟩
 .rw[za (A3 (AY (AN e) hp))];exact n
 .rw[za (zb e hn)];exact e
 .rw[za (zb e hn)];exact e
 .rw[za (zb e hn),e];simp
 .let⟨ob,es,ep,ho,r⟩:=hm;exact⟨ob,es,ep,k _ ob (λz=>(hf _ z).2.1 rfl) ho,r⟩
 .by_cases hb:b=T
  .subst hb;rw[zc]at e
   cases e
   exact new
  .rw[za hb]at e;refine(I.hok b u e).stay (λc v hc q=>k c v ?_ q) (λc q=>by rw[za (zb q hn)];exact q) λc xs q=>by rw[za (zb q hn)];exact q
   rcases hc with z|z
   .rw[z];exact nch b u e
   .exact nch c _ z
theorem Inv.turnedL{t':Nat}{ch:List AI}(I:Inv X π σ H s)(hf:∀b∈ch,yaK X π H b)(k:∀b u,b∉ch->s.heap.get? b=AA u->h'.get? b=AA u):Inv X π σ H {s with heap:=h',toks:=t'}:=by
 have nch:∀b u,H b=AA u->b∉ch:=λb u e z=>by
  have q:=(hf b z).1;rw[e]at q
  cases q
 refine I.step (g':=s.gens) (d':=s.drawn) (ch:=ch) (λb hb=>?_) (λb u _ _ hc e _=>k b u hc e) (λb u _ _ hc e _=>⟨u.slots,k b u hc e⟩) (λ_ _ _ _ n=>n) (λb u hc e=>⟨u,k b u hc e⟩) (λ_ _ e=>e) (λ_ _ _ e=>e) (λb ps e=>⟨#[],by rw[e];simp⟩) (λm hm=>?_) (λb u e=>?_) I.bare
 .let⟨f0,f1,f2,f3,f4,f5⟩:=hf b hb;exact⟨f3,f1,f4,f5⟩
 .let⟨ob,es,ep,ho,r⟩:=hm;exact⟨ob,es,ep,k _ ob (λz=>(hf _ z).2.1 rfl) ho,r⟩
 .refine(I.hok b u e).stay (λc v hc q=>k c v ?_ q) (λ_ q=>q) λ_ _ q=>q;rcases hc with z|z
  .rw[z];exact nch b u e
  .exact nch c _ z
end
def Ite(K:AF)(a:AI):It:=
 ⟨λi H=>∃xs x,SqT K H a xs/\xs[i]?=AA x,λi H x H'=>∃T,H T=AE/\x=.ref T/\∀xs y,SqT K H a xs->xs[i]?=AA y->H'=upd H T (.tup [.int i,y]),λi H=>∃xs,SqT K H a xs/\xs.length=i⟩
def zaI{h:Ak}{a b:AI}{o u:B8}(x:h.get? a=AA o)(y:h.get? b=AA u)(z:o.cls≠u.cls):a≠b:=λe=>by
 subst e;rw[x]at y
 cases y
 exact z rfl
def zcA{P:AV}{w:A5}{K:AF}{es:List AM}{kk:Nat}{pos:Bf}(a e it:AI):
  Turn P w K (.Tuple es kk pos) (Ite K a) [e,it] e (λi h=>(∃old,IsEnum h e it i old)/\h.IsTupleIter it a i) where
 mem:=by simp
 obj:=λi h st b hb=>by
  let⟨⟨old,he⟩,oi,gi,ci,di⟩:=st;rcases A8.mp hb with z|z
  .subst z;exact⟨_,he,λv y=>nomatch y⟩
  .have z:b=it:=by simpa using z
   subst z;exact⟨oi,gi,λv y=>by rw[di]at y;cases y⟩
 keep:=λi h h' st k=>by
  let⟨⟨old,he⟩,oi,gi,r⟩:=st;exact⟨⟨old,k e (by simp) _ he⟩,oi,k it (by simp) _ gi,r⟩
 item:=by
  intro X hP hw hK hc i π s σ H E I hf st hg;subst hP hw hK;let⟨xs,x,hq,hx⟩:=hg;let⟨its,rv,p,hz⟩:=I.tuple hq;let⟨⟨old,he⟩,hi⟩:=st;let⟨oi,gi,ci,di⟩:=id hi;let⟨oa,ga,ca,na,da⟩:=id p;have nai:a≠it:=zaI ga gi (by rw[ca,ci];exact λz=>absurd (BC z) ⋯);have nei:e≠it:=zaI he gi (by rw[ci];exact λz=>absurd (BC z) ⋯);have nea:e≠a:=zaI he ga (by rw[ca];exact λz=>absurd (BC z) ⋯);have hl:=rv.length;have hil:i<its.toArray.size:=by
   have:=(Ab.mp hx).1;simpa using (by lia:i<its.length)
  have W:=FN (prog:=X.prog) (w:=X.w) (A:=X.A) (WE.draws_tuple (pg:=X.prog) (wd:=X.w) (A:=X.A.in1) (I.ok.hd hc) it a nai its.toArray) e nei (by simp[nei,nea]) (by simp);refine wpAny_pyNext_enum_itemD (WE.draws_tuple (pg:=X.prog) (wd:=X.w) (A:=X.A.in1) (I.ok.hd hc) it a nai its.toArray) he ⟨hi,p⟩ hil nei (by simp[nei,nea]) λy h1 tk hy ho hs' hT hsz' kp'=>⟨_,rfl,?_⟩;obtain⟨T,eT⟩:∃T,s.heap.objs.size=T:=⟨_,rfl⟩;have hsz:s.heap.objs.size<=T:=G5 eT;have kp:∀b o,b∉[e,it]->s.heap.get? b=AA o->h1.get? b=AA o:=λb o hb y=>kp' b o (λe'=>hb (by simp[e'])) (λe'=>hb (by simp[e'])) y;have mid:(∃x,IsEnumOut h1 e it ((i:Int)+1) x s.heap.objs.size)/\(h1.IsTupleIter it a (i+1)/\h1.IsTuple a its.toArray)/\s.heap.objs.size≠e/\s.heap.objs.size≠it:=⟨⟨_,ho⟩,hs',EA (AN he),EA (AN gi)⟩;rw[eT]at mid hT ⊢;refine W.go es kk pos i T _ _ E mid λh2 st2 kp2=>?_;let⟨u,hu,ru⟩:=rv.get hx;have ey:y=u:=A0 (hy.symm.trans (by simpa using hu));subst ey;have hch:∀b o,b∉[e,it]->s.heap.get? b=AA o->h2.get? b=AA o:=λb o hb q=>kp2 b o hb (kp b o hb q);have hTw:=W.apart i T h1 mid;have new:yp X.prog X.w (upd H T (.tup [.int i,x])) h2 T (.tup [.int i,x]):=by
   exact⟨by show 2<=sizeLine;decide,[.int i tk,y],.cons ⟨tk,rfl⟩ (.cons ru .nil),kp2 T _ hTw hT⟩
  have I2:=I.turnLaid (t':=tk+1) hf hch hsz new;refine⟨.ref T,_,I2,rfl,⟨T,I.hok.fresh hsz,rfl,λys z hy' hz'=>?_⟩,⟨st2.1,st2.2.1⟩,λb hb=>?_⟩
  .rw[I.tuple_inj hy' hq]at hz';rw[hx]at hz'
   cases hz'
   rfl
  .rw[za (λz:b=T=>hTw (z ▸ hb))];exact(hf b hb).1
 done:=by
  intro X hP hw hK hc i π s σ H E I hf st hg;subst hP hw hK;let⟨xs,hq,hx⟩:=hg;let⟨its,rv,p,hz⟩:=I.tuple hq;let⟨⟨old,he⟩,hi⟩:=st;let⟨oi,gi,ci,di⟩:=id hi;let⟨oa,ga,ca,na,da⟩:=id p;have nai:a≠it:=zaI ga gi (by rw[ca,ci];exact λz=>absurd (BC z) ⋯);have nei:e≠it:=zaI he gi (by rw[ci];exact λz=>absurd (BC z) ⋯);have nea:e≠a:=zaI he ga (by rw[ca];exact λz=>absurd (BC z) ⋯);have hl:=rv.length;have W:=FN (prog:=X.prog) (w:=X.w) (A:=X.A) (WE.draws_tuple (pg:=X.prog) (wd:=X.w) (A:=X.A.in1) (I.ok.hd hc) it a nai its.toArray) e nei (by simp[nei,nea]) (by simp);have en:its.toArray.size=i:=by simp;lia
  refine W.done s _ E (by rw[en];exact⟨⟨old,he⟩,hi,p⟩) λh2 tk kp=>⟨rfl,I.turnedL (t':=tk) hf kp⟩
 self:=λ_ _ _ _ _ st q=>by
  let⟨⟨old,he⟩,_⟩:=st;exact FO he q
def yfv(K:AF)(ta:TA):TI:=λσ H R=>ta σ H λvs H1=>∃a,vs=[.ref a]/\(∃xs,SqT K H1 a xs)/\R (Ite K a) H1
def zeB{X:Cx}{a:AM}{es:List AM}{kk:Nat}{tp:Bf}{ta:TA}{p pos:Bf}(hg:Gl X "enumerate")(hm:X.mg "enumerate"=AE)(ha:PA X [a] ta)(hs:starEach [a] X.env=[(AG,eval a X.env)]:=by rfl):
  PI X (.Tuple es kk tp) (.Call (.Name "enumerate" p) [a] [] pos) (yfv X.K ta):=by
 intro π s σ H R I h;refine Bk (zbs I hg hm boot_enumerate ?_);refine CN (thn (ha pos π s σ H _ I h) λus s1 kq=>?_) hs rfl;let⟨vs,H1,I1,r1,q1⟩:=kq;let⟨l,rfl,⟨xs,hq⟩,q⟩:=q1;let⟨u,rfl,ru⟩:=Vals.one r1
 cases (show u=Ac l from ru)
 let⟨its,rv,pt,hz⟩:=I1.tuple hq;refine WE.call_enumT (show s1.heap.IsTuple l its.toArray from pt) λh1 he hi hsz kp=>?_;refine FO he ?_;refine⟨_,[s1.heap.objs.size+1,s1.heap.objs.size],_,_,H1,rfl,I1.kept (t':=s1.toks) kp,zcA l _ s1.heap.objs.size,⟨⟨_,he⟩,hi⟩,λb hb=>?_,q⟩;have hb2:s1.heap.objs.size<=b:=by
  rcases A8.mp hb with z|z
  .subst z;exact DA _
  .have z:b=s1.heap.objs.size:=by simpa using z
   subst z;exact AR _
 exact I1.fpOk hb2 (I1.hok.fresh hb2)
abbrev No:AD->AH->Prop:=λ_ _=>False
abbrev ycp(ifs:List AM)(env:Env):Gp Bool:=forIn ifs AC λc r=>if r=AC then do let ok <-isTrue c env (eval c env);pure (DC ok)else pure (DC r)
section
variable {pg:AV}{wd:A5}{A:A7}{R:FZ->AH->Prop}{s:AH}
def zdB{elt tg iter:AM}{ifs:List AM}{sc:BH}{pos:Bf}{it acc:AD}{env:Env}(I:Nat->AH->Prop)
  (turn:∀n s,I n s->AQ (model pg wd) A (pyNext it) (λr s1=>match r with
   |none=>R (.ok .next) s1
   |some v=>AQ (model pg wd) A (letOwnedTupleGo tg it v) (λ_ s2=>AQ (model pg wd) A (assign tg env v) (λ_ s3=>AQ (model pg wd) A (ycp ifs env) (λok s4=>
     if ok=AC then AQ (model pg wd) A (eval elt env) (λx s5=>AQ (model pg wd) A (call (.builtin "list.append") [acc,x]) (λ_ s6=>∃m,m<n/\I m s6) No s5) No s4
     else ∃m,m<n/\I m s4) No s3) No s2) No s1) No s)
  (n:Nat) (h:I n s):codeAny (model pg wd) A (.compLoop (.ListComp elt [⟨tg,iter,ifs,0⟩] sc pos) 0 it acc env) R s:=by
 refine codeAny_loop rfl I (λn s hI=>?_) n h;show AQ _ A ((compTurn (.ListComp elt [⟨tg,iter,ifs,0⟩] sc pos) 0 it acc env).onRaise (λx=>do noteFrame x env;theTreesLotGoes x)) _ _ s;refine wpAny_noted ?_;rw[compTurn_list];refine AB (Cz (AB (B0 (turn n s hI) (λr s1 h1=>?_) λ_ _ f=>f.elim)))
 cases r with
 |none=>exact AK h1
 |some v=>
  refine AB (B0 h1 (λ_ s2 h2=>AB (B0 h2 (λ_ s3 h3=>AB (B0 h3 (λok s4 h4=>?_) λ_ _ f=>f.elim)) λ_ _ f=>f.elim)) λ_ _ f=>f.elim)
  cases ok with
  |false=>exact AK ⟨rfl,h4⟩
  |true=>exact AB (AB (B0 h4 (λx s5 h5=>AB (B0 h5 (λ_ s6 h6=>AK (AK ⟨rfl,h6⟩)) λ_ _ f=>f.elim)) λ_ _ f=>f.elim))
end
def yK(env:Env)(r:List (AS×AI))(x:AS×Ca):List (AS×AI):=if x.2=.free then(x.1,(env.cells.lookup x.1).getD 0)::r else r
def ycg(sc:BH)(env:Env):List (AS×AI):=sc.names.foldl (yK env) []
def zcz{α β:Type}{l:List α}{f:α->β->Gp (ForInStep β)}{g:β->α->β}(h:∀x∈l,∀c,f x c=pure (.yield (g c x))):∀c:β,forIn l c f=pure (l.foldl g c):=by
 induction l with
 |nil=>exact λ_=>rfl
 |cons x l ih=>
  intro c;rw[EO,h x Aa,pure_bind,CK];exact ih (λy hy=>h y (AU _ hy)) (g c x)
def zC{sc:BH}{env:Env}(hf:∀y∈sc.names,y.2=.free->∃c,env.cells.lookup y.1=AA c):closureFor sc env=pure (ycg sc env):=by
 erw[closureFor];rw[zcz (g:=yK env) (λx hx c=>?_)]
 .rfl
 .let⟨n,k⟩:=x
  by_cases hk:k=.free
  .subst hk;let⟨a,ha⟩:=hf _ hx rfl;have ha':env.cells.lookup n=AA a:=ha;simp[yK,cellOf,ha']
  .have hb:(k==CM)=false:=by simpa using hk
   simp[yK,hk,hb]
def zaN{env:Env}:∀(l:List (AS×Ca)) (r:List (AS×AI)),(∀y∈l,y.2=.free->∃c,env.cells.lookup y.1=AA c)->(∀x c,r.lookup x=AA c->env.cells.lookup x=AA c) ->
  ∀x c,(l.foldl (yK env) r).lookup x=AA c->env.cells.lookup x=AA c
 |[],r,_,h=>h
 |y::l,r,hf,h=>by
  refine zaN l (yK env r y) (λz hz=>hf z (AU _ hz)) λx c e=>?_;unfold yK at e
  by_cases hk:y.2=.free
  .let⟨a,ha⟩:=hf y Aa hk;rw[if_pos hk,BS]at e
   cases hx:x==y.1 with
   |true=>
    rw[hx,ha]at e;rw[eq_of_beq hx,ha];exact e
   |false=>
    rw[hx]at e;exact h x c e
  .rw[if_neg hk]at e;exact h x c e
def zao{env:Env}{x:AS}:∀(l:List (AS×Ca)) (r:List (AS×AI)),(∃c,r.lookup x=AA c)->∃c,(l.foldl (yK env) r).lookup x=AA c
 |[],r,h=>h
 |y::l,r,h=>by
  refine zao l (yK env r y) ?_;unfold yK
  by_cases hk:y.2=.free
  .rw[if_pos hk,BS]
   cases hx:x==y.1 with
   |true=>exact⟨_,rfl⟩
   |false=>exact h
  .rw[if_neg hk];exact h
def zW{env:Env}:∀(l:List (AS×Ca)) (r:List (AS×AI)),∀y∈l,y.2=.free->∃c,(l.foldl (yK env) r).lookup y.1=AA c
 |[],_,y,hy,_=>nomatch hy
 |z::l,r,y,hy,hk=>by
  rcases A8.mp hy with e|e
  .subst e;refine zao l (yK env r y) ?_;unfold yK;rw[if_pos hk,BS,beq_self_eq_true];exact⟨_,rfl⟩
  .exact zW l (yK env r z) y e hk
theorem mem_of_lookup{β:Type}{x:AS}{k:β}:∀{l:List (AS×β)},l.lookup x=AA k->(x,k)∈l
 |[],h=>nomatch h
 |y::l,h=>by
  rw[BS]at h
  cases hx:x==y.1 with
  |true=>
   rw[hx]at h
   cases h
   rw[eq_of_beq hx];exact Aa
  |false=>
   rw[hx]at h;exact AU _ (mem_of_lookup h)
def yb9(env:Env)(x:AS)(k:Ca):NameKind:=if (k==.free&&env.scope.kind==.function&&env.kindOf x==AA .cell)=AC then .cell else k
def zaF{sc:BH}{env:Env}(x:AS):(relabel sc env).names.lookup x=(sc.names.lookup x).map (yb9 env x):=by
 unfold relabel;show (sc.names.map λ(n,k)=>if (k==CM&&env.scope.kind==.function&&env.kindOf n==AA .cell)then(n,Ek)else(n,k)).lookup x=_
 induction sc.names with
 |nil=>rfl
 |cons y l ih=>
  let⟨n,k⟩:=y;rw[AX];show F8 x ((if (k==CM&&env.scope.kind==.function&&env.kindOf n==AA .cell)=AC then(n,Ek)else(n,k))::_)=_
  cases hx:x==n with
  |true=>
   have e:=eq_of_beq hx;subst e
   by_cases hc:(k==CM&&env.scope.kind==.function&&env.kindOf x==AA .cell)=AC
   .rw[if_pos hc,BS,beq_self_eq_true];simp[yb9,hc]
   .rw[if_neg hc,BS,beq_self_eq_true];simp[yb9,hc]
  |false=>
   by_cases hc:(k==CM&&env.scope.kind==.function&&env.kindOf n==AA .cell)=AC
   .rw[if_pos hc];erw[BS,hx];exact ih
   .rw[if_neg hc];erw[BS,hx];exact ih
structure CI where
 C:AI
 s:AH
 H:Hp
 fp:List AI
def cxC(X:Cx)(sc:BH)(NC:List AS)(j:CI):Cx where
 prog:=X.prog
 w:=X.w
 K:=X.K
 mg:=X.mg
 base:=X.base
 A:=X.A
 N:=NC
 s₀:=j.s
 H₀:=j.H
 env:=compEnvC sc (ycg sc X.env) j.C X.env
 outer:=X.stack
 stack:=X.stack
 ex:=j.fp
 fn:=λ_=>AG
 calm:=X.calm
 pn:=[]
 xe:=No
def inn(slots:List (Option Nat))(σ:St):St:=slots.map λo=>o.bind λj=>(σ[j]?).join
structure yG(X:Cx)(sc:BH)(NC:List AS)(slots:List (Option Nat)):Prop where
 kind:sc.kind=.function
 names:∀y∈sc.names,y.2=.local->sc.names.lookup y.1=AA .local
 nocell:∀y∈sc.names,y.2 ≠ .cell
 free:∀y∈sc.names,y.2=.free->X.env.scope.names.lookup y.1=AA .cell
 slot:∀(i:Nat) (x:AS) (j:Nat),NC[i]?=AA x->slots[i]?=AA (AA j)->X.N[j]?=AA x/\sc.names.lookup x=AA .free
 len:slots.length=NC.length
def zjr{X:Cx}{sc:BH}{NC:List AS}{slots:List (Option Nat)}(N:List AS)(so:BH)(hN:X.N=N)(hs:X.env.scope=so)(kind:sc.kind=.function)
  (names:∀y∈sc.names,y.2=.local->sc.names.lookup y.1=AA .local) (nocell:∀y∈sc.names,y.2 ≠ .cell) (free:∀y∈sc.names,y.2=.free->so.names.lookup y.1=AA .cell)
  (slot:∀p∈NC.zip slots,(p.2.all λj=>decide (N[j]?=AA p.1/\sc.names.lookup p.1=AA .free))=AC) (len:slots.length=NC.length):yG X sc NC slots:=by
 subst hN hs;refine⟨kind,names,nocell,free,λi x j e1 e2=>?_,len⟩;have hm:(x,AA j)∈NC.zip slots:=AZ (i:=i) (by rw[List.getElem?_zip_eq_some];exact⟨e1,e2⟩);have:=slot _ hm;simpa using this
section
variable {X:Cx}{sc:BH}{NC:List AS}{slots:List (Option Nat)}{π:List (AI×B8)}{σ:St}{H:Hp}{s:AH}
theorem yG.cells(O:yG X sc NC slots)(ok:X.Ok):∀y∈sc.names,y.2=.free->∃c,X.env.cells.lookup y.1=AA c:=λy hy hk=>ok.has y.1 (.inl (O.free y hy hk))
theorem yG.sub(O:yG X sc NC slots)(ok:X.Ok):∀x c,(ycg sc X.env).lookup x=AA c->X.env.cells.lookup x=AA c:=zaN sc.names [] (O.cells ok) λ_ _ e=>nomatch e
theorem yG.rel(O:yG X sc NC slots)(ok:X.Ok){x:AS}(h:sc.names.lookup x=AA .free):(relabel sc X.env).names.lookup x=AA .cell:=by
 rw[zaF,h];have e:X.env.kindOf x=AA .cell:=O.free _ (mem_of_lookup h) rfl;simp[yb9,ok.kind,e]
def zcC(I:Inv X π σ H s)(O:yG X sc NC slots){fp:List AI}(hf:∀b∈fp,yaK X π H b)(hob:∀b∈fp,∃o,s.heap.get? b=AA o){h1:Ak}{t':Nat}{m:AS->Option AD}(hns:h1.Ns s.heap.objs.size m)
  (hk:∀b o,s.heap.get? b=AA o->h1.get? b=AA o):Inv (cxC X sc NC ⟨s.heap.objs.size,s,H,fp⟩) [] (inn slots σ) H {s with heap:=h1,toks:=t'}:=by
 have sub:=O.sub I.ok;have fss:∀b,b≠X.env.locals->b∉X.fs->b∉frs X.stack:=λb h1 h2 hb=>(A8.mp (I.stkSub b hb)).elim h1 h2;have ltC:∀x c,(ycg sc X.env).lookup x=AA c->c<s.heap.objs.size:=λx c e=>by
  let⟨v,q⟩:=I.cell x c (sub x c e);exact q.lt
 refine⟨⟨I.ok.mod,O.kind,I.ok.glob,I.ok.blt,AR _,λx y c e1 e2=>I.ok.inj x y c (sub x c e1) (sub y c e2),λx hx=>?_,λ_ _ z=>(nomatch z),I.ok.hd,I.ok.frames,.inl rfl,λb hb=>⟨?_,λx c e=>(hf b hb).2.2.2.2.1 x c (sub x c e)⟩,I.bs,BK I.ok.bsz I.sz,λb o e hb=>?_,λb hb=>fss b (hf b hb).2.1 (hf b hb).2.2.1,I.stack,I.stkFree⟩,
  rfl,I.bare,Un.kept hk,⟨m,hns,λi x v e1 e2 e3=>?_⟩,λx c e=>?_,I.hok.fresh (AR _),λx c e=>I.freeC x c (sub x c e),λp hp=>(nomatch hp),I.hok.kept hk,?_⟩
 .have hx':(relabel sc X.env).names.lookup x=AA .cell \/ (relabel sc X.env).names.lookup x=AA .free:=hx;rw[zaF]at hx'
  cases q:sc.names.lookup x with
  |none=>
   rw[q]at hx';rcases hx' with z|z<;>cases z
  |some k=>
   have hm:=mem_of_lookup q;have hkf:k=.free:=by
    rw[q]at hx';have nc:=O.nocell _ hm
    by_cases hk:k=.free
    .exact hk
    .exfalso;have hb:(k==CM)=false:=by simpa using hk
     rcases hx' with z|z
     .simp[yb9,hb]at z;exact nc z
     .simp[yb9,hb]at z;exact hk z
   subst hkf;exact zW sc.names [] _ hm rfl
 .let⟨o,e⟩:=hob b hb;exact A3 (AN e)
 .rcases (hf b hb).2.2.2.1 with z|z
  .exact I.ok.noex b o e z
  .exact absurd (AY (AN e) (BK I.ok.bsz z)) (By _)
 .obtain⟨j,e4,e5⟩:∃j,slots[i]?=AA (AA j)/\σ[j]?=AA (AA v):=by
   have e2':(slots.map λo=>o.bind λj=>(σ[j]?).join)[i]?=AA (AA v):=e2;rw[BG]at e2'
   cases q:slots[i]? with
   |none=>
    rw[q]at e2'
    cases e2'
   |some o=>
    rw[q]at e2'
    cases o with
    |none=>cases e2'
    |some j=>
     refine⟨j,rfl,?_⟩;have e6:(σ[j]?).join=AA v:=A0 e2'
     cases q2:σ[j]? with
     |none=>
      rw[q2]at e6
      cases e6
     |some w=>
      rw[q2]at e6;have e7:w=AA v:=e6;rw[e7]
  let⟨e6,e7⟩:=O.slot i x j e1 e4;have kc:X.env.scope.names.lookup x=AA .cell:=O.free _ (mem_of_lookup e7) rfl;let⟨m0,hn0,hl⟩:=I.loc;let⟨u,r,lk⟩:=hl j x v e6 e5 (.inr (.inl kc));refine⟨u,r,.inr ⟨.inl (O.rel I.ok e7),?_⟩⟩;rcases lk with⟨z,_⟩|⟨_,c,hc,o,ho,hd⟩
  .rw[show X.env.kindOf x=AA .cell from kc]at z
   cases z
  .let⟨c',hc'⟩:=zW (env:=X.env) sc.names [] _ (mem_of_lookup e7) rfl;have e8:c'=c:=A0 ((sub x c' hc').symm.trans hc);subst e8;exact⟨c',hc',o,hk _ _ ho,hd⟩
 .let⟨v,o,ho,hd⟩:=I.cell x c (sub x c e);exact⟨v,o,hk _ _ ho,hd⟩
 .show (slots.map λo=>o.bind λj=>(σ[j]?).join).length=NC.length;rw[Ap,O.len]
def zcF(I:Inv X π σ H s){fp:List AI}(hf:∀b∈fp,yaK X π H b){C:AI}(hC:s.heap.objs.size<=C){pl:List (AI×B8)}{σ':St}{H':Hp}{s':AH}(J:Inv (cxC X sc NC ⟨C,s,H,fp⟩) pl σ' H' s')
  {h2:Ak} (hb:CF C s'.heap h2):Inv X π σ H' {s' with heap:=h2}:=by
 have nC:∀b o,s.heap.get? b=AA o->b≠C:=λb o e=>A3 (AY (AN e) hC);have B:Un (frs X.stack) fp H H' s.heap s'.heap:=J.base;have fC:H' C=none:=J.free;refine I.call' (ch:=fp) J.os ⟨λb o e n h3 h4=>(hb.2 b (nC b o e)).trans (B.keep b o e n h3 h4),λb o e n h3 h4=>?_,B.free,λb o e h4=>?_,B.tups,B.frzs,B.tbls⟩ (λb u e=>?_) J.bare λb h3=>⟨(hf b h3).2.2.2.1,(hf b h3).2.1,(hf b h3).2.2.2.2.1,(hf b h3).2.2.2.2.2⟩
 .let⟨sl,q⟩:=B.slot b o e n h3 h4;exact⟨sl,(hb.2 b (nC b o e)).trans q⟩
 .let⟨o',q⟩:=B.there b o e h4;exact⟨o',(hb.2 b (nC b o e)).trans q⟩
 .refine(J.hok b u e).stay (λc v hc q=>(hb.2 c λz=>?_).trans q) (λ_ q=>q) λ_ _ q=>q;subst z;rcases hc with z|z
  .rw[z,e]at fC
   cases fC
  .rw[z]at fC
   cases fC
end
def PTs(X:Cx)(ifs:List AM)(t:TT):Prop:=
 ∀(π:List (AI×B8)) (s:AH) (σ:St) (H:Hp) (Q:Bool->Hp->Prop),Inv X π σ H s->t σ H Q->AQ (model X.prog X.w) X.A (ycp ifs X.env) (TP X π σ Q) X.xe s
def ydA:TT:=λ_ H Q=>Q AC H
def zdI{X:Cx}:PTs X [] ydA:=λ_ _ _ H _ I h=>wpAny_tests_nil ⟨H,I,h⟩
def zdt{X:Cx}{c:AM}{t:TT}(h:PT X c t):PTs X [c] t:=λπ s σ H Q I q=>wpAny_tests_one (h π s σ H Q I q)
def ybQ(J:It)(D:AI)(g:TG)(ti:TT)(te:TE)(W:Nat->Nat->St->List V->Hp->Prop)(Q:Hp->Prop):Prop:=
 ∀i m σc ys H2,W i m σc ys H2->H2 D=AA (.lst ys)/\((J.stop i H2/\Q H2) \/ (J.go i H2/\ys.length<sizeLine/\∃N:St->List V->Hp->Prop,(∀σ' ys' H',N σ' ys' H'->∃m',m' < m/\W (i+1) m' σ' ys' H') /\
  ∀x H3,J.yld i H2 x H3->g x σc H3 λσ4 H4=>ti σ4 H4 λb H5=>if b=AC then te σ4 H5 λy H6=>H6 D=AA (.lst ys)/\N σ4 (ys++[y]) (upd H6 D (.lst (ys++[y])))else N σ4 ys H5))
def ybf(slots:List (Option Nat))(wi:TI)(g:TG)(ti:TT)(te:TE):TE:=λσ H Q=>wi σ H λJ H1=>∀D,H1 D=AE->∃W:Nat->Nat->St->List V->Hp->Prop,(∃m,W 0 m (inn slots σ) [] (upd H1 D (.lst [])))/\ybQ J D g ti te W (Q (.ref D))
section
variable {X:Cx}{sc:BH}{NC:List AS}{slots:List (Option Nat)}{elt tg iter:AM}{ifs:List AM}{pos:Bf}{g:TG}{ti:TT}{te:TE}
def zev(hc:X.calm=AC)(hg:∀j,PG (cxC X sc NC j) tg g)(ht:∀j,PTs (cxC X sc NC j) ifs ti)(he:∀j,PE (cxC X sc NC j) elt te){cj:CI}{it D:AI}{tn:Nat->Ak->Prop}{J:It}
  {W:Nat->Nat->St->List V->Hp->Prop} {Q:Hp->Prop} {R:FZ->AH->Prop} {s:AH} {σc:St} {ys:List V} {H:Hp} (T:Turn X.prog X.w X.K tg J cj.fp it tn)
  (I:Inv (cxC X sc NC cj) [] σc H s) (hf:∀b∈cj.fp,yaK (cxC X sc NC cj) [] H b) (st:tn 0 s.heap) {m:Nat} (w0:W 0 m σc ys H) (step:ybQ J D g ti te W Q)
  (fin:∀σ' H' s',Inv (cxC X sc NC cj) [] σ' H' s'->Q H'->R (.ok .next) s'):
  codeAny (model X.prog X.w) X.A (.compLoop (.ListComp elt [⟨tg,iter,ifs,0⟩] sc pos) 0 (.ref it) (.ref D) (cxC X sc NC cj).env) R s:=by
 have stat:∀{H':Hp},(∀b∈cj.fp,H' b=AE)->∀b∈cj.fp,yaK (cxC X sc NC cj) [] H' b:=λhn b hb=>⟨hn b hb,(hf b hb).2⟩;refine zdB (λn s'=>∃i σ' ys' H',Inv (cxC X sc NC cj) [] σ' H' s'/\tn i s'.heap/\(∀b∈cj.fp,H' b=AE)/\W i n σ' ys' H') ?_ m ⟨0,σc,ys,H,I,st,λb hb=>(hf b hb).1,w0⟩
 rintro n s3 ⟨i,σ3,ys3,H3,I3,st3,fr3,w3⟩
 let⟨hD,q⟩:=step i n σ3 ys3 H3 w3;rcases q with⟨stop,qn⟩|⟨go,hz,N,hN,turn⟩
 .refine thn (T.done (cxC X sc NC cj) rfl rfl rfl hc i [] s3 σ3 H3 No I3 (stat fr3) st3 stop) λr s4 kq=>?_;let⟨hr,I4⟩:=kq;subst hr;exact fin σ3 H3 s4 I4 qn
 .refine thn (T.item (cxC X sc NC cj) rfl rfl rfl hc i [] s3 σ3 H3 No I3 (stat fr3) st3 go) λr s4 kq=>?_;let⟨u,hr,h4⟩:=kq;subst hr;refine thn h4 λ_ s5 kq=>?_;let⟨x,H5,I5,r5,y5,st5,fr5⟩:=kq;have I5':=I5.pinned (stat fr5) (T.obj _ _ st5);refine thn (hg cj _ s5 σ3 H5 x u _ I5' r5 (turn x H5 y5)) λ_ s6 kq=>?_;let⟨σ6,H6,I6,q6⟩:=kq;refine thn (ht cj _ s6 σ6 H6 _ I6 q6) λok s7 kq=>?_;let⟨H7,I7,q7⟩:=kq;have again:∀{σ8:St} {ys8:List V} {H8:Hp} {s8:AH},Inv (cxC X sc NC cj) ([]++yaI cj.fp s5.heap) σ8 H8 s8->N σ8 ys8 H8->∃m,m<n/\∃i σ' ys' H',Inv (cxC X sc NC cj) [] σ' H' s8/\tn i s8.heap/\(∀b∈cj.fp,H' b=AE)/\W i m σ' ys' H':=λ{σ8 ys8 H8 s8} I8 n8=>by
   let⟨m',hm,w8⟩:=hN σ8 ys8 H8 n8;refine⟨m',hm,i+1,σ8,ys8,H8,I8.unpinned,T.keep _ _ _ st5 λb hb o e=>(I8.pin (b,o) (Ad _ (Ad _ (zF hb e)))).1,λb hb=>?_,w8⟩;let⟨o,e,d⟩:=T.obj _ _ st5 b hb;exact(I8.pin (b,o) (Ad _ (Ad _ (zF hb e)))).2.1
  cases ok with
  |false=>
   rw[if_neg AT]at q7 ⊢;exact again I7 q7
  |true=>
   rw[if_pos rfl]at q7 ⊢;refine thn (he cj _ s7 σ6 H7 _ I7 q7) λy s8 kq=>?_;let⟨v,H8,I8,r8,hD8,q8⟩:=kq;refine thn (zbq (X:=cxC X sc NC cj) _ s8 σ6 H8 (.ref D) [v] (.ref D) [y] (λz H'=>z=.non/\H'=upd H8 D (.lst (ys3++[v]))) I8 rfl (.cons r8 .nil) ⟨D,ys3,v,rfl,rfl,hD8,hz,rfl,rfl⟩) λz s9 kq=>?_;let⟨zv,H9,I9,r9,e1,e2⟩:=kq;subst e2;exact again I9 q8
def zaG(hc:X.calm=AC)(O:yG X sc NC slots)(hg:∀j,PG (cxC X sc NC j) tg g)(ht:∀j,PTs (cxC X sc NC j) ifs ti)(he:∀j,PE (cxC X sc NC j) elt te){π:List (AI×B8)}{s:AH}{σ:St}{H:Hp}(I:Inv X π σ H s)
  {it:AI} {fp:List AI} {tn:Nat->Ak->Prop} {J:It} (T:Turn X.prog X.w X.K tg J fp it tn) (st:tn 0 s.heap) (hf:∀b∈fp,yaK X π H b) {Q:VK}
  (h:∀D,H D=AE->∃W:Nat->Nat->St->List V->Hp->Prop,(∃m,W 0 m (inn slots σ) [] (upd H D (.lst [])))/\ybQ J D g ti te W (Q (.ref D))) {RR:AD->AI->FZ->AH->Prop}
  (fin:∀D C s' H',Q (.ref D) H'->(∃o m,s'.heap.get? C=AA o/\s'.heap.Ns C m/\∀v,o.data ≠ .cell v)->yaK X π H' C->(∀h2,CF C s'.heap h2->Inv X π σ H' {s' with heap:=h2})->RR (.ref D) C (.ok .next) s'):
  AQ (model X.prog X.w) X.A (newList []) (λacc s3=>AQ (model X.prog X.w) X.A (newFunctionEnv sc X.env.globals (ycg sc X.env) [] X.env.qual AE .none (AA X.env)) (λcenv s4=>
   codeAny (model X.prog X.w) X.A (.compStart (.ListComp elt [⟨tg,iter,ifs,0⟩] sc pos) 0 (.ref it) acc {cenv with scope:=relabel sc X.env}) (RR acc cenv.locals) s4) X.xe s3) X.xe s:=by
 refine Aw (wpAny_newFunctionEnv O.nocell (by intro y hy;simp at hy) (λh1 hns1 hsb1=>?_) O.kind);dsimp only at hns1 hsb1 ⊢;have hDn:H s.heap.objs.size=none:=I.hok.fresh (AR _);let⟨W,⟨m,w0⟩,step⟩:=h s.heap.objs.size hDn;obtain⟨s3,hs3⟩:∃x:AH,x=({s with heap:=s.heap.push {cls:=.type "list",dict:=AE,data:=.seq ([]:List AD).toArray} }:AH):=⟨_,rfl⟩;have e3:s3.heap=s.heap.push {cls:=.type "list",dict:=AE,data:=.seq ([]:List AD).toArray}:=by rw[hs3]
 rw[<-e3]at hns1 hsb1;have hp3:∀b o,s.heap.get? b=AA o->s3.heap.get? b=AA o:=λb o e=>by
  rw[e3];exact AL _ e
 have I3:Inv X π σ (upd H s.heap.objs.size (.lst [])) s3:=by
  have q:=I.laid (a:=s.heap.objs.size) (o:=.lst []) (h':=s3.heap) (t':=s.toks) hp3 (AR _) ⟨BI _,[],_,.nil,by rw[e3];exact A1 _ rfl⟩;rw[hs3]at q ⊢;exact q
 have hf3:∀b∈fp,yaK X π (upd H s.heap.objs.size (.lst [])) b:=λb hb=>by
  let⟨o,e,_⟩:=T.obj _ _ st b hb;refine⟨?_,(hf b hb).2⟩;rw[za (A3 (AN e))];exact(hf b hb).1
 have st3:tn 0 s3.heap:=T.keep _ _ _ st λb _ o e=>hp3 b o e;have hob:∀b∈fp,∃o,s3.heap.get? b=AA o:=λb hb=>by
  let⟨o,e,_⟩:=T.obj _ _ st3 b hb;exact⟨o,e⟩
 have hk1:∀b o,s3.heap.get? b=AA o->h1.get? b=AA o:=λb o e=>hsb1.extBut b o (A3 (AN e)) (AL _ e);have J1:=zcC (t':=s3.toks+([]:List (AS×AD)).length) I3 O hf3 hob hns1 hk1;have hfc:∀b∈fp,yaK (cxC X sc NC ⟨s3.heap.objs.size,s3,upd H s.heap.objs.size (.lst []),fp⟩) [] (upd H s.heap.objs.size (.lst [])) b:=λb hb=>
  ⟨(hf3 b hb).1,(J1.ok.exf b hb).1,J1.ok.exfs b hb,.inl hb,(J1.ok.exf b hb).2,λp hp=>nomatch hp⟩
 have loop:codeAny (model X.prog X.w) X.A (.compLoop (.ListComp elt [⟨tg,iter,ifs,0⟩] sc pos) 0 (.ref it) (.ref s.heap.objs.size) (cxC X sc NC ⟨s3.heap.objs.size,s3,upd H s.heap.objs.size (.lst []),fp⟩).env) (RR (.ref s.heap.objs.size) s3.heap.objs.size)
   {s3 with heap:=h1,toks:=s3.toks+([]:List (AS×AD)).length}:=by
  refine zev (D:=s.heap.objs.size) (Q:=Q (.ref s.heap.objs.size)) hc hg ht he T J1 hfc (T.keep _ _ _ st3 λb _ o e=>hk1 b o e) w0 step λσ' H' s' J' q'=>?_;have fC:H' s3.heap.objs.size=none:=J'.free;refine fin _ _ s' H' q' ?_ (I3.fpOk (AR _) fC) λh2 hb=>zcF I3 hf3 (AR _) J' hb;let⟨m',hn',_⟩:=J'.loc;let⟨o,es,ep,ho,hd,r⟩:=id hn';exact⟨o,m',ho,hn',λv z=>by rw[hd]at z;cases z⟩
 have self:=λ(RQ:AD->AH->Prop) (EE:AD->AH->Prop)=>T.self X.A 0 {s3 with heap:=h1,toks:=s3.toks+([]:List (AS×AD)).length} RQ EE (T.keep _ _ _ st3 λb _ o e=>hk1 b o e);subst hs3;exact codeAny_compStart_list loop (self _ _ loop)
variable {wi:TI}
def zbM(hc:X.calm=AC)(O:yG X sc NC slots)(hi:PI X tg iter wi)(hg:∀j,PG (cxC X sc NC j) tg g)(ht:∀j,PTs (cxC X sc NC j) ifs ti)(he:∀j,PE (cxC X sc NC j) elt te)
  (hs:∀x,foldedSetIterable iter X.env x=pure x:=by intro _;rfl):PE X (.ListComp elt [⟨tg,iter,ifs,0⟩] sc pos) (ybf slots wi g ti te):=by
 intro π s σ H Q I h;rw[eval_ListComp];refine De (use:=AE) rfl hs (zC (O.cells I.ok)) O.kind O.names (thn (hi π s σ H _ I h) λv s1 h1=>thn h1 λitv s2 h2=>?_);let⟨it,fp,tn,J,H2,rfl,I2,T,st2,f2,q2⟩:=h2;refine zaG hc O hg ht he I2 T st2 f2 q2 λD C s' H' q' ⟨o,m,ho,hn,_⟩ _ out=>⟨m,hn,λh2 hb=>⟨.ref D,H',out h2 hb,rfl,q'⟩⟩
def zgm{i:Nat}{x:AS}{px spos:Bf}(hN:X.N.Nodup)(hix:X.N[i]?=AA x)(hx:Loc X.env.scope x)(hc:X.calm=AC)(O:yG X sc NC slots)(hi:PI X tg iter wi)(hg:∀j,PG (cxC X sc NC j) tg g)(ht:∀j,PTs (cxC X sc NC j) ifs ti)(he:∀j,PE (cxC X sc NC j) elt te)
  (hsw:swapsWith (.ListComp elt [⟨tg,iter,ifs,0⟩] sc pos) (AA (.Name x px)) spos.line X.env=pure true:=by rfl) (hs:∀x,foldedSetIterable iter X.env x=pure x:=by intro _;rfl)
  (hf:X.fn x=AC \/ X.env.scope.names.lookup x=AA .local:=by first|exact .inl rfl|exact .inr rfl|assumption):PS X (.Assign [.Name x px] (.ListComp elt [⟨tg,iter,ifs,0⟩] sc pos) spos) (ydR (ybf slots wi g ti te) (ya4 i)):=by
 intro π s σ H Dd I h;rw[exec_Assign_Name_used _ _ _ _ hsw,arm_evalThenUse_ListComp];refine AB (Cz (AB (AB ?_)));refine De (Q:=λ_ s'=>AQ (model X.prog X.w) X.A (pure ()) (λ_ s''=>AQ (model X.prog X.w) X.A (pure G0) (SP X π Dd) X.xe s'') X.xe s') rfl hs (zC (O.cells I.ok)) O.kind O.names (thn (hi π s σ H _ I h) λv s1 h1=>thn h1 λitv s2 h2=>?_);let⟨it,fp,tn,J,H2,rfl,I2,T,st2,f2,q2⟩:=h2;refine zaG (Q:=λx H1=>ya4 i x σ H1 Dd.nx) hc O hg ht he I2 T st2 f2 q2 λD C s' H' q' ⟨o,m,ho,hn,hd⟩ FC out=>?_;have I':Inv X π σ H' s':=out s'.heap (Gr ..);have Ip:Inv X (π++[(C,o)]) σ H' s':=I'.pins_of λp hp=>(C0.mp hp).elim (λz=>I'.pin p (Ad _ z)) λz=>by
  have e:p=(C,o):=by simpa using z
  subst e;exact⟨ho,FC.1,FC.2.1,FC.2.2.1,hd⟩
 show AQ (model X.prog X.w) X.A (assign (.Name x px) X.env (.ref D)) _ _ s';refine FE (zD Ip hN hix hx (show RelV (.ref D) (.ref D)from rfl) (λs6 I6=>?_) hf);have g6:=(I6.pin (C,o) (Ad _ (Ad _ Aa))).1;let⟨o',es,ep,ho',r⟩:=hn;rw[ho]at ho'
 cases ho'
 refine⟨m,⟨o,es,ep,g6,r⟩,λh2 hb=>AK (AK ?_)⟩;exact⟨_,H',I6.unpinned.turned (t':=s6.toks) (λb u hb' e=>(hb.2 b hb').trans e) FC.1 FC.2.1 FC.2.2.2.1 FC.2.2.2.2.1 FC.2.2.2.2.2,q'⟩
end
def zca:∀{bs:List Bool} {us:List AD},Vals (bs.map V.bl) us->LSm.BoolsAre us bs
 |[],_,.nil=>.nil
 |b::bs,_,.cons r q=>by
  cases (show _=Dy b from r)
  exact .cons b (zca q)
section
variable {X:Cx}
def yfb(K:AF):List V->Hp->VK->Prop:=λxs H Q=>∃(l:AI) (bs:List Bool),xs=[.ref l]/\SqL K H l (bs.map V.bl)/\Q (.bl (bs.all id)) H
def zeO(hc:X.calm=AC):yN X (.builtin "all") (yfb X.K):=by
 intro π s σ H xs us Q I r h;let⟨l,bs,rfl,hq,q⟩:=h;let⟨u,rfl,ru⟩:=Vals.one r
 cases (show u=Ac l from ru)
 let⟨its,rv,pl,hz⟩:=I.list hq;have hb:=zca rv;have hl:=pl.isList;have hlt:l<s.heap.objs.size:=by
  let⟨_,e,_⟩:=hl;exact AN e
 refine call_all_walk (Db hl ?_);refine⟨s.heap.objs.size,[s.heap.objs.size,l],[s.heap.objs.size],its.toArray.size,_,_,λi=>(bs[i]?).getD AC,rfl,Walks.list (A:=X.A.in1) (I.ok.hd hc) _ l (A3 hlt) its.toArray,⟨⟨_,A1 _ rfl,rfl,rfl⟩,hl.push _⟩,λi v s' Q' E' hP hQ=>?_,λh' tk hk=>?_⟩
 .let⟨b,e,rfl⟩:=hb.get i v (by simpa using hP);erw[e,BU]at hQ;exact BO hQ
 .have e:((Eu its.toArray.size).all λi=>(bs[i]?).getD AC)=bs.all id:=by
   rw[AW,hb.length];exact LSm.range_all bs
  rw[e];exact⟨.bl _,H,I.kept (t':=tk) (LSm.kept_iter hk),rfl,q⟩
end
section
variable {X:Cx}{π:List (AI×B8)}{σ:St}{H:Hp}{s:AH}
end
section
variable {X:Cx}{a:AM}{ta:TE}{K:AF}
end
end L2
namespace L2
end L2
namespace L2
open PySem PySem.Spec PyProof.Rows
def CX1(P:AV)(w:A5):CXT:=λouter H s E e s'=>∃(a:AI) (cls a0:AD) (H':Hp) (B:Ak),e=.ref a/\s'.os=s.os/\Cy s'.gens/\G6 B outer a cls a0 s'.heap/\HOk P w H' s'.heap/\Un (frs outer) [] H H' s.heap s'.heap /\
 (∀b o,s.heap.get? b=AA o->H b=AE->b∉frs outer->B.get? b=AA o)/\(∀b u,H' b=AA u->∃o,B.get? b=AA o)/\(∀b o,s.heap.get? b=AA o->b∉frs outer->∃o',B.get? b=AA o')/\E cls AE H'
theorem yp.there{P:AV}{w:A5}{H:Hp}{h:Ak}{a:AI}{o:HO}(x:yp P w H h a o):∃ob,h.get? a=AA ob:=by
 induction o with
 |lst xs=>let⟨_,_,_,_,e⟩:=x;exact⟨_,e⟩
 |tup xs=>let⟨_,_,_,e⟩:=x;exact⟨_,e⟩
 |dK kvs=>let⟨_,_,_,_,ob,_,_,e,_⟩:=x;exact⟨ob,e⟩
 |dT kvs=>let⟨_,_,_,_,ob,_,_,e,_⟩:=x;exact⟨ob,e⟩
 |set S n=>let⟨ob,_,_,_,e,_⟩:=x;exact⟨ob,e⟩
 |ins C dx fs=>let⟨_,_,_,e,_⟩:=x;exact⟨_,e⟩
 |own y=>exact x
 |xd fs=>let⟨_,⟨ob,_,_,e,_⟩,_⟩:=x;exact⟨ob,e⟩
 |rng lo hi=>let⟨_,_,_,e⟩:=x;exact⟨_,e⟩
 |frz ob u ih=>exact⟨ob,x.1⟩
 |tbl ps=>exact⟨_,x⟩
 |met f y=>exact⟨_,x⟩
 |ext φ=>exact x.2.1
theorem HOk.inB{P:AV}{w:A5}{H:Hp}{h h' B:Ak}(ok:HOk P w H h)(hB:B.StaysIn h)(hB':B.StaysIn h')(tr:∀b u,H b=AA u->∃o,B.get? b=AA o):HOk P w H h':=λa o e=>
 (ok a o e).stay (λb u hb q=>by
  have hb':∃o,B.get? b=AA o:=by
   rcases hb with z|z
   .rw[z];exact tr a o e
   .exact tr b _ z
  let⟨o',q'⟩:=hb';have:=hB b o' q';rw[q]at this
  cases this
  exact hB' b u q') (λ_ q=>q) λ_ _ q=>q
section
variable {P:AV}{w:A5}{K:AF}{mg:AS->Option AD}{base:Ak}{N:List AS}{qual:AS}{scope:BH}{f:AI}{cd:AD}{A:A7}{outer:List Env}{s₀:AH}{H₀:Hp}{E:XK}
 {π:List (AI×B8)} {σ:St} {H:Hp} {s:AH}
def zd1{h':Ak}{e:AI}{cls:AD}{vs:List AD}(I:Inv (yaj (CX1 P w) P w K mg base N qual scope f cd A outer s₀ H₀ E) π σ H s)(hx:Fw s.heap h' e cls vs)(hE:E cls AE H):
  (yaj (CX1 P w) P w K mg base N qual scope f cd A outer s₀ H₀ E).xe (.ref e) {s with heap:=h'}:=by
 have stk:s.heap.FunFrames base (envOfC qual scope s₀.heap.objs.size f cd::outer):=I.stack;have hst:∀b,b∈frs (envOfC qual scope s₀.heap.objs.size f cd::outer)->b=s₀.heap.objs.size \/ b∈frs outer:=λb hb=>by
  have hb':b∈s₀.heap.objs.size::frs outer:=hb;exact A8.mp hb'
 have inB:∀b o,s.heap.get? b=AA o->b∉frs (envOfC qual scope s₀.heap.objs.size f cd::outer)->(CZ s.heap (frs (envOfC qual scope s₀.heap.objs.size f cd::outer))).get? b=AA o:=λb o q n=>Ec _ q n;have hB:(CZ s.heap (frs (envOfC qual scope s₀.heap.objs.size f cd::outer))).StaysIn s.heap:=λb o q=>Ew _ q;have bse:Un (frs outer) [] H₀ H s₀.heap s.heap:=I.base;have lt:∀b o,s₀.heap.get? b=AA o->b≠s₀.heap.objs.size:=λb o q=>A3 (AN q);have tr:∀b u,H b=AA u->∃o,(CZ s.heap (frs (envOfC qual scope s₀.heap.objs.size f cd::outer))).get? b=AA o:=λb u q=>by
  let⟨o,ho⟩:=yp.there (I.hok b u q);exact⟨o,inB b o ho λhb=>by
   have:=I.stkFree b hb;rw[q]at this
   cases this⟩
 refine wpAny_leaves_madeW (base:=CZ s.heap (frs (envOfC qual scope s₀.heap.objs.size f cd::outer))) (h:=s.heap) I.ok.frames rfl hB (PySem.W.funFrames_hide stk λenv he a ha=>DW.mpr ⟨env,he,ha⟩) hx λh'' t fl tu tn up=>?_;have up':s.heap.UpToSlots h'':=(G2 hx.keeps).trans up;refine⟨e,cls,_,H,_,rfl,I.os,I.bare,fl,HOk.inB I.hok hB fl.1 tr,⟨λb o q n hb _=>?_,λb o q n hb _=>?_,bse.free,λb o q _=>?_,bse.tups,bse.frzs,bse.tbls⟩,λb o q n hb=>?_,tr,λb o q hb=>?_,hE⟩
 .refine fl.1 b o (inB b o (bse.keep b o q n hb (by simp)) λz=>?_);rcases hst b z with z|z
  .exact lt b o q z
  .exact hb z
 .let⟨sl,q1⟩:=bse.slot b o q n hb (by simp);let⟨_,o',ho',hd⟩:=Bm stk (show b∈Ch (λ(z:Env)=>z.frame) _ from AU _ hb);let⟨sl',q2⟩:=up' b _ q1 (by rw[ho']at q1;cases q1;exact hd);exact⟨sl',q2⟩
 .let⟨o',q1⟩:=bse.there b o q (by simp)
  by_cases hb:b∈frs (envOfC qual scope s₀.heap.objs.size f cd::outer)
  .let⟨_,o2,ho',hd⟩:=Bm stk hb;let⟨sl',q2⟩:=up' b _ ho' hd;exact⟨_,q2⟩
  .exact⟨o',fl.1 b o' (inB b o' q1 hb)⟩
 .refine inB b o (bse.keep b o q n hb (by simp)) λz=>?_;rcases hst b z with z|z
  .exact lt b o q z
  .exact hb z
 .let⟨o',q1⟩:=bse.there b o q (by simp);refine⟨o',inB b o' q1 λz=>?_⟩;rcases hst b z with z|z
  .exact lt b o q z
  .exact hb z
def zjs:ycO (CX1 P w) (yaj (CX1 P w) P w K mg base N qual scope f cd A outer s₀ H₀ E) E:=by
 intro π σ H s e s' I h;let⟨a,cls,a0,H',B,rfl,os,bare,fl,hok,un,hB,tr,hT,hE⟩:=h;have bse:Un (frs outer) [] H₀ H s₀.heap s.heap:=I.base;have lt:∀b o,s₀.heap.get? b=AA o->b≠s₀.heap.objs.size:=λb o q=>A3 (AN q);have hst:∀b,b∈frs (envOfC qual scope s₀.heap.objs.size f cd::outer)->b=s₀.heap.objs.size \/ b∈frs outer:=λb hb=>by
  have hb':b∈s₀.heap.objs.size::frs outer:=hb;exact A8.mp hb'
 have un':Un (frs (envOfC qual scope s₀.heap.objs.size f cd::outer)) [] H H' s.heap s'.heap:=un;have kB:∀b o,s₀.heap.get? b=AA o->H₀ b=AE->b∉frs outer->B.get? b=AA o:=λb o q n hb=>hB b o (bse.keep b o q n hb (by simp)) (bse.free b o q n (by simp)) λz=>by
  rcases hst b z with z|z
  .exact lt b o q z
  .exact hb z
 have kT:∀b o,s₀.heap.get? b=AA o->b∉frs outer->∃o',B.get? b=AA o':=λb o q hb=>by
  let⟨o',q1⟩:=bse.there b o q (by simp);refine hT b o' q1 λz=>?_;rcases hst b z with z|z
  .exact lt b o q z
  .exact hb z
 refine wpAny_leaves_onW I.ok.frames rfl fl λh'' fl' up=>?_;refine⟨a,cls,a0,H',B,rfl,os.trans I.os,bare,fl',HOk.inB hok fl.1 fl'.1 tr,⟨λb o q n hb _=>fl'.1 b o (kB b o q n hb),λb o q n hb _=>?_,λb o q n _=>?_,λb o q _=>?_,λb xs q=>un'.tups b xs (bse.tups b xs q),λb o u q=>un'.frzs b o u (bse.frzs b o u q),λb ps q=>?_⟩,kB,tr,kT,hE⟩
 .let⟨sl,q1⟩:=bse.slot b o q n hb (by simp);have n1:=bse.free b o q n (by simp);let⟨sl1,q2⟩:=un'.slot b _ q1 n1 (AU _ hb) (by simp);let⟨_,o',ho',hd⟩:=Bm fl.2.2.1 (show b∈Ch (λ(z:Env)=>z.frame) _ from AU _ hb);let⟨sl',q3⟩:=up b _ q2 (by rw[ho']at q2;cases q2;exact hd);exact⟨sl',q3⟩
 .let⟨o',q1⟩:=bse.there b o q (by simp);exact un'.free b o' q1 (bse.free b o q n (by simp)) (by simp)
 .let⟨o',q1⟩:=bse.there b o q (by simp);let⟨o2,q2⟩:=un'.there b o' q1 (by simp)
  by_cases hb:b∈frs outer
  .let⟨_,o3,ho3,hd⟩:=Bm fl.2.2.1 (show b∈Ch (λ(z:Env)=>z.frame) _ from AU _ hb);let⟨sl',q3⟩:=up b _ ho3 hd;exact⟨_,q3⟩
  .let⟨o4,q4⟩:=kT b o q hb;exact⟨o4,fl'.1 b o4 q4⟩
 .let⟨m1,e1⟩:=bse.tbls b ps q;let⟨m2,e2⟩:=un'.tbls b _ e1;exact⟨m1++m2,by rw[e2,DR]⟩
end
section
variable {X:Cx}{e:AM}{es:List AM}{te:TE}
end
section
variable {X:Cx}{e:AM}{es:List AM}{t:TA}{E:XK}
end
structure ydU(K:AF)(C:AI):Prop where
 ga:Ah K (.ref C) "__getattribute__"=AA (AA (.builtin "BaseException.__getattribute__"))
 gh:Ah K (.ref C) "__getattr__"=AA AE
 cl:Ah K (.ref C) "__class__"=AA (AA (.builtin "object.__class__"))
 sb:GS K (.ref C) (.type "BaseException")=AA AC
 mo:GT K C (.type "object")=AA AC
 ct:∃cd,GU K C=AA cd
section
variable {pg:AV}{wd:A5}{A:A7}{E:AD->AH->Prop}{h:Ak}{g:Array GenState}{d:Drawn}{t:Nat}{os:OsState}{a C:AI}{o:B8}{K:AF}
end
def ye2(a C:AI):Ak->Prop:=λh=>∃o,h.get? a=AA o/\o.cls=.ref C
section
variable {X:Cx}
end
section
variable {X:Cx}{π:List (AI×B8)}{σ:St}{H:Hp}{s:AH}
end
section
variable {X:Cx}{π:List (AI×B8)}{σ:St}{H:Hp}{s:AH}
end
section
variable {X:Cx}{body suite:List Bd}{b₀:Bd}{x n:AS}{np hpos pos:Bf}{tb:XK->TS}{ts:TS}{W:AI}{i:Nat}
end
structure yaa(k:Nat)(A:A7):Prop where
 dp:A.depth+3*k+5<recursionLimit
 un:A.units+16*k+200<cLine
theorem yat.h{k:Nat}{A:A7}(r:yat k A):yaa k A:=⟨r.dp,r.un⟩
theorem yaa.deeper{k:Nat}{A:A7}(r:yaa (k+1) A)(env:Env):yaa k (A.deeper env):=⟨by have:=r.dp;show A.depth+1+3*k+5<_;lia,by have:=r.un;show A.units+3+16*k+200<_;lia⟩
structure ybh(P:AV)(w:A5)(K:AF)(mg:AS->Option AD)(base:Ak)(k:Nat)(f:AI)(fd:Aj)(ps:List AS)(sp:Sp):Prop where
 len:∀vs H Q E,sp vs H Q E->vs.length=ps.length
 run:∀(A:A7) (outer:List Env) (s:AH) (H:Hp) (args:Args) (us:List AD) (vs:List V) (Q:VK),yaa k A->ycd P w K mg base A outer s H->EC s fd args (ps.zip us)->Vals vs us->sp vs H Q E0 ->
  codeAny (model P w) A (.call (.ref f) args) (CR CX0 outer P w H s Q E0) s
abbrev ya6(P:AV)(w:A5)(K:AF)(mg:AS->Option AD)(base:Ak)(N:List AS)(qual:AS)(scope:BH)(f:AI)(cd:AD)(A:A7)(outer:List Env)(s:AH)(H:Hp):Cx:=
 {yaj CX0 P w K mg base N qual scope f cd A outer s H E0 with calm:=AG,xe:=No}
theorem Inv.calmless{X:Cx}{π:List (AI×B8)}{σ:St}{H:Hp}{s:AH}(I:Inv X π σ H s)(A:A7)(E:AD->AH->Prop)(hf:A.frames=X.A.frames):Inv {X with A:=A,calm:=AG,xe:=E} π σ H s:=
 ⟨⟨I.ok.mod,I.ok.kind,I.ok.glob,I.ok.blt,I.ok.above,I.ok.inj,I.ok.has,I.ok.cab,(λz=>nomatch z),hf.trans I.ok.frames,I.ok.stk,I.ok.exf,I.ok.bs,I.ok.bsz,I.ok.noex,I.ok.exfs,I.ok.funs,I.ok.frf⟩,I.os,I.bare,I.base,I.loc,I.cell,I.free,I.freeC,I.pin,I.hok,I.len⟩
section
variable {P:AV}{w:A5}{K:AF}{mg:AS->Option AD}{base:Ak}
theorem Fun.okH{x qual:AS}{st:Bd}{f:AI}{fd:Aj}{N ps:List AS}{k:Nat}{sp:Sp}(F:Fun K x qual st f fd)(S:yac N ps (yg st))(len:∀vs H Q E,sp vs H Q E->vs.length=ps.length)
  (hbody:∀(cdv:AD) (A:A7) (outer:List Env) (s:AH) (H:Hp) (vs:List V) (Q:VK),yaa k (A.deeper (envOfC qual (yg st) s.heap.objs.size f cdv))->sp vs H Q E0 ->
   ∃t,PSs (ya6 P w K mg base N qual (yg st) f cdv A outer s H) (yq st) t/\t {nx:=λ_ H'=>Q .non H',rt:=Q} (start N vs) H):ybh P w K mg base (k+1) f fd ps sp:=by
 let⟨oc,od,kV,doc,pm,an,cdv,ct,osl,rfl,lk,hcd⟩:=F.ex;refine⟨len,λA outer s H args us vs Q hr e0 hb r hsp=>?_⟩;have hl:=len _ _ _ _ hsp;have KX:K.In s.heap:=e0.mod.kin.keeps λb o e=>(e0.bs b o e).1;have lim:s.heap.NoLimit:=e0.mod.nolimit.keeps λb o e=>(e0.bs b o e).1;have hkind:∀y∈ps.zip us,(yg st).names.lookup y.1=AA .local \/ ((yg st).names.lookup y.1=AA .cell/\((cellsFrom (s.heap.objs.size+1) (yg st).names []).lookup y.1).isSome=AC):=λ⟨n,v⟩ hy=>by
  rcases S.par n (DD hy).1 with q|q
  .exact .inl q
  .exact .inr ⟨q,Cb _ _ _ (.inl q)⟩
 refine EV (by have:=hr.dp;lia) (KX _ _ lk) rfl S.co S.gen rfl (Ex KX hcd) (hb _ _ _ _ ?_);refine DY S.kind hkind λenv he s1 x=>?_;subst he;refine⟨lim.keeps x.toInCall.keep,codeAny_func ?_⟩;let⟨t,ht,hq⟩:=hbody cdv A outer s H vs Q (hr.deeper _) hsp;have e0':ycd P w K mg base {A with handled:=AE} outer s H:=⟨e0.frames,e0.mod,e0.bs,e0.bsz,e0.funs,e0.frf,e0.hok,e0.bare⟩;have I0:Inv (yaj CX0 P w K mg base N qual (yg st) f cdv {A with handled:=AE} outer s H E0) [] (start N vs) H s1:=zbd S rfl e0' hl r x;have I:Inv (ya6 P w K mg base N qual (yg st) f cdv A outer s H) [] (start N vs) H s1:=I0.calmless (A.deeper (envOfC qual (yg st) s.heap.objs.size f cdv)) No rfl;refine B0 (ht [] s1 (start N vs) H _ I hq) (λfl s' hs=>?_) λe s' z=>z.elim;have fin:∀{σ':St} {H':Hp} {v:V} {u:AD},Inv (ya6 P w K mg base N qual (yg st) f cdv A outer s H) [] σ' H' s'->RelV v u->Q v H'->CE outer P w H s Q u s':=
  λ{σ' H' v u} J rv q=>⟨v,H',J.os,J.bare,J.base,J.hok,rv,q⟩
 cases fl with
 |ret u=>
  let⟨v,σ',H',J,rv,q⟩:=hs;exact fin J rv q
 |next=>
  let⟨σ',H',J,q⟩:=hs;exact fin (v:=V.non) (u:=BN) J rfl q
 |brk=>
  let⟨_,_,_,q⟩:=hs;exact B1 q
 |cont=>
  let⟨_,_,_,q⟩:=hs;exact B1 q
end
section
variable {X:Cx}{k:Nat}{f:AI}{fd:Aj}{ps:List AS}{sp:Sp}{x:AS}{p pos:Bf}{e:AM}{es:List AM}{t:TA}
end
section
variable {P:AV}{w:A5}{K:AF}{mg:AS->Option AD}{base:Ak}
theorem own1{N:List AS}{qual:AS}{scope:BH}{f:AI}{cd:AD}{A:A7}{outer:List Env}{s:AH}{H:Hp}{E:XK}{CX:CXT}:
  Do (model (yaj CX P w K mg base N qual scope f cd A outer s H E).prog (yaj CX P w K mg base N qual scope f cd A outer s H E).w) (yaj CX P w K mg base N qual scope f cd A outer s H E).A (yaj CX P w K mg base N qual scope f cd A outer s H E).env (yaj CX P w K mg base N qual scope f cd A outer s H E).xe:=
 PassesOwn.leaving
end
section
variable {X:Cx}
end
section
variable {X:Cx}
end
section
variable {κ:Type}[DecidableEq κ]
def yah(kvs:List (κ×V))(k:κ):Option V:=(kvs.find? λkv=>decide (kv.1=k)).map (·.2)
def putK(kvs:List (κ×V))(k:κ)(v:V):List (κ×V):=
 if (kvs.any λkv=>decide (kv.1=k))=AC then kvs.map (λkv=>if kv.1=k then(kv.1,v)else kv)else kvs++[(k,v)]
def zo{p:κ×V}{r:List (κ×V)}{k:κ}(e:p.1=k):yah (p::r) k=AA p.2:=by simp[yah,Bb,e]
def zq{p:κ×V}{r:List (κ×V)}{k:κ}(e:¬p.1=k):yah (p::r) k=yah r k:=by simp[yah,Bb,e]
def zcl(k:κ):∀kvs:List (κ×V),(kvs.any λkv=>decide (kv.1=k))=(yah kvs k).isSome
 |[]=>rfl
 |p::r=>by
  rw[Be]
  by_cases e:p.1=k
  .simp only[zo e,decide_eq_true e,G7,Option.isSome_some]
  .rw[zq e,decide_eq_false e,GV];exact zcl k r
def zu(kvs:List (κ×V))(k:κ)(v:V):(putK kvs k v).length<=kvs.length+1:=by
 unfold putK;split
 .rw[Ap];lia
 .rw[As,Ag,Bt];lia
theorem ya7.isSome_eq{o:Option V}{u:Option AD}(r:ya7 o u):o.isSome=u.isSome:=by
 cases o with
 |none=>cases u with
  |none=>rfl
  |some _=>exact(show False from r).elim
 |some _=>cases u with
  |none=>exact(show False from r).elim
  |some _=>rfl
theorem ya7.getD{o:Option V}{u:Option AD}{d:V}{d':AD}(r:ya7 o u)(rd:RelV d d'):RelV (o.getD d) (u.getD d'):=by
 cases o with
 |none=>cases u with
  |none=>exact rd
  |some _=>exact(show False from r).elim
 |some _=>cases u with
  |none=>exact(show False from r).elim
  |some _=>exact r
theorem KV.val{kvs:List (κ×V)}{vs:List (κ×AD)}(r:KV kvs vs)(k:κ):ya7 (yah kvs k) (valueAt vs k):=by
 unfold KV at r
 induction r with
 |nil=>exact Bc
 |@cons p q ps qs h t ih=>
  let⟨h1,h2⟩:=h
  by_cases e:p.1=k
  .have e':q.1=k:=h1.symm.trans e;have b:valueAt (q::qs) k=AA q.2:=by simp[valueAt,Bb,e']
   rw[zo e,b];exact h2
  .have e':¬q.1=k:=λz=>e (h1.trans z);have b:valueAt (q::qs) k=valueAt qs k:=by simp[valueAt,Bb,e']
   rw[zq e,b];exact ih
theorem KV.any{kvs:List (κ×V)}{vs:List (κ×AD)}(r:KV kvs vs)(k:κ):(kvs.any λkv=>decide (kv.1=k))=vs.any λkv=>decide (kv.1=k):=by
 unfold KV at r
 induction r with
 |nil=>rfl
 |cons h t ih=>rw[Be,Be,ih,h.1]
theorem KV.repl{kvs:List (κ×V)}{vs:List (κ×AD)}(r:KV kvs vs)(k:κ){y:V}{u:AD}(ry:RelV y u):
  KV (kvs.map λkv=>if kv.1=k then(kv.1,y)else kv) (vs.map λkv=>if kv.1=k then(kv.1,u)else kv):=by
 unfold KV at r ⊢
 induction r with
 |nil=>exact .nil
 |@cons p q ps qs h t ih=>
  rw[AX,AX];refine .cons ?_ ih;let⟨h1,h2⟩:=h
  by_cases e:p.1=k
  .rw[if_pos e,if_pos (h1.symm.trans e)];exact⟨h1,ry⟩
  .rw[if_neg e,if_neg (λz=>e (h1.trans z))];exact⟨h1,h2⟩
theorem KV.put{kvs:List (κ×V)}{vs:List (κ×AD)}(r:KV kvs vs)(k:κ){y:V}{u:AD}(ry:RelV y u):KV (putK kvs k y) (stored vs k u):=by
 unfold putK stored;rw[r.any k]
 by_cases e:(vs.any λkv=>decide (kv.1=k))=AC
 .rw[if_pos e,if_pos e];exact r.repl k ry
 .rw[if_neg e,if_neg e];exact Gi r ⟨rfl,ry⟩
theorem KV.length{kvs:List (κ×V)}{vs:List (κ×AD)}(r:KV kvs vs):kvs.length=vs.length:=Bw r
end
def zcX{P:AV}{w:A5}{k:Key}{u:AD}(r:RelV (kV k) u):(yE P w).is k u=true:=by
 cases k with
 |inl i=>let⟨t,e⟩:=(show ∃t,u=GY i t from r);subst e;exact zbO P w i t
 |inr x=>let⟨t,e⟩:=(show ∃t,u=GZ x t from r);subst e;exact zbI P w x t
abbrev KT(H:Hp):List (List NK×V)->List (List NK×AI×AD)->Prop:=FW λp q=>p.1=q.1/\KyR H p.1 q.2.1/\RelV p.2 q.2.2
theorem KT.val{H:Hp}{kvs:List (List NK×V)}{xs:List (List NK×AI×AD)}(r:KT H kvs xs)(k:List NK):ya7 (yah kvs k) ((atKey xs k).map (·.2)):=by
 induction r with
 |nil=>exact Bc
 |@cons p q ps qs h t ih=>
  let⟨h1,_,h2⟩:=h
  by_cases e:p.1=k
  .have e':q.1=k:=h1.symm.trans e;have b:atKey (q::qs) k=AA q.2:=by simp[atKey,Bb,e']
   rw[zo e,b];exact h2
  .have e':¬q.1=k:=λz=>e (h1.trans z);have b:atKey (q::qs) k=atKey qs k:=by simp[atKey,Bb,e']
   rw[zq e,b];exact ih
theorem KT.repl{H:Hp}{kvs:List (List NK×V)}{xs:List (List NK×AI×AD)}(r:KT H kvs xs)(k:List NK){y:V}{u:AD}(ry:RelV y u):
  KT H (kvs.map λkv=>if kv.1=k then(kv.1,y)else kv) (xs.map (putAt k u)):=by
 induction r with
 |nil=>exact .nil
 |@cons p q ps qs h t ih=>
  rw[AX,AX];refine .cons ?_ ih;let⟨h1,h2,h3⟩:=h;unfold putAt
  by_cases e:p.1=k
  .rw[if_pos e,if_pos (h1.symm.trans e)];exact⟨h1,h2,ry⟩
  .rw[if_neg e,if_neg (λz=>e (h1.trans z))];exact⟨h1,h2,h3⟩
theorem KT.put{H:Hp}{kvs:List (List NK×V)}{xs:List (List NK×AI×AD)}(r:KT H kvs xs)(k:List NK){b:AI}{y:V}{u:AD}(hb:KyR H k b)(ry:RelV y u):
  KT H (putK kvs k y) (storedH xs k b u):=by
 have e:(kvs.any λkv=>decide (kv.1=k))=(atKey xs k).isSome:=by
  rw[zcl,(r.val k).isSome_eq,Option.isSome_map]
 unfold putK storedH;rw[e]
 by_cases q:(atKey xs k).isSome=AC
 .rw[if_pos q,if_pos q];exact r.repl k ry
 .rw[if_neg q,if_neg q];exact Gi r ⟨rfl,hb,ry⟩
theorem KT.keeps{H H':Hp}{kvs:List (List NK×V)}{xs:List (List NK×AI×AD)}(r:KT H kvs xs)(ht:∀b ys,H b=AA (.tup ys)->H' b=AA (.tup ys)):KT H' kvs xs:=
 Paired.mapP r λ_ _ z=>⟨z.1,z.2.1.stay ht,z.2.2⟩
section
variable {P:AV}{w:A5}{H:Hp}{h:Ak}{a:AI}
def zgG{u:HO}(ok:HOk P w H h)(e:Rd H a u):yp P w H h a u:=e.ok ok
def zdn{kvs:List (Key×V)}(ok:HOk P w H h)(e:Rd H a (.dK kvs)):kvs.length<=sizeLine/\(a==sysModules)=AG/\∃vs,KV kvs vs/\h.DictOf (yE P w) a vs:=
 show yp P w H h a (.dK kvs)from zgG ok e
def zgN{kvs:List (Key×V)}(ok:HOk P w H h)(e:H a=AA (.dK kvs)):kvs.length<=sizeLine/\(a==sysModules)=AG/\∃vs,KV kvs vs/\h.DictOf (yE P w) a vs:=zdn ok (.inl e)
mutual
theorem zhy(ok:HOk P w H h):∀(k:NK) (v:V) (u:AD),NKr H k v->RelV v u->NI h k u
 |.a k,v,u,x,r=>by cases (show v=kV k from x);exact zcX (P:=P) (w:=w) r
 |.t l,v,u,x,r=>by
  let⟨b,xs,rfl,g,hs⟩:=x
  cases (show u=Ac b from r)
  let⟨_,its,rv,h1⟩:=(show yp P w H h b (.tup xs)from ok b _ g);exact⟨b,its,rfl,h1,zfd ok l xs its hs rv⟩
theorem zfd(ok:HOk P w H h):∀(l:List NK) (xs:List V) (us:List AD),NKs H l xs->Vals xs us->NIs h l us
 |[],xs,us,x,r=>by cases (show xs=[]from x);cases r;rfl
 |k::l,xs,us,x,r=>by
  let⟨y,ys,rfl,h1,h2⟩:=x
  cases r with
  |cons r t=>exact⟨_,_,rfl,zhy ok k y _ h1 r,zfd ok l ys _ h2 t⟩
end
def zby{ks:List NK}(ok:HOk P w H h)(e:KyR H ks a):(yQ P w).is h ks a:=⟨zhy ok _ _ _ e.1 rfl,e.2⟩
def zdd{kvs:List (List NK×V)}(ok:HOk P w H h)(e:Rd H a (.dT kvs)):kvs.length<=sizeLine/\(a==sysModules)=AG /\
  ∃xs,KT H kvs xs/\h.DictOfH (yQ P w) a xs:=by
 let⟨z,y,xs,r,o,es,ep,h1,h2,h3,h4,h5⟩:=(show yp P w H h a (.dT kvs)from zgG ok e);refine⟨z,y,xs,r,o,es,ep,h1,h2,h3,h4,λx hx=>?_,h5⟩;have all:∀{l:List (List NK×V)} {m:List (List NK×AI×AD)},KT H l m->∀x∈m,(yQ P w).is h x.1 x.2.1:=by
  intro l m q
  induction q with
  |nil=>intro x hx;exact nomatch hx
  |@cons p q ps qs hq t ih=>
   intro x hx;rcases A8.mp hx with e|hx
   .subst e;exact zby ok (by rw[<-hq.1];exact hq.2.1)
   .exact ih x hx
 exact all r x hx
def zgy{kvs:List (List NK×V)}(ok:HOk P w H h)(e:H a=AA (.dT kvs)):kvs.length<=sizeLine/\(a==sysModules)=AG /\
  ∃xs,KT H kvs xs/\h.DictOfH (yQ P w) a xs:=zdd ok (.inl e)
end
def yca(H:Hp)(a:AI)(y:V)(r:Option V):Prop:=
 (∃kvs k,Rd H a (.dK kvs)/\y=kV k/\r=yah kvs k) \/ ∃kvs k b,Rd H a (.dT kvs)/\y=.ref b/\KyR H k b/\r=yah kvs k
def yef(H:Hp)(a:AI)(y v:V)(H':Hp):Prop:=
 (∃kvs k,H a=AA (.dK kvs)/\y=kV k/\kvs.length<sizeLine/\H'=upd H a (.dK (putK kvs k v))) \/
 ∃kvs k b,H a=AA (.dT kvs)/\y=.ref b/\KyR H k b/\kvs.length<sizeLine/\H'=upd H a (.dT (putK kvs k v))
section
variable {X:Cx}{π:List (AI×B8)}{σ:St}{H:Hp}{s:AH}{a:AI}{y v:V}{u r:AD}{o:Option V}{A:A7}{E:AD->AH->Prop}
theorem Inv.big(I:Inv X π σ H s):sysModules<s.heap.objs.size:=by
 have h:mainGlobals<s.heap.objs.size:=(I.mod.glob.keeps I.bk).lt;exact Nat.lt_trans ⋯ h
def zc3{Q:AD->AH->Prop}(hu:A.units+16<cLine)(I:Inv X π σ H s)(g:yca H a y (AA v))(ry:RelV y u)(h:∀w' s',Inv X π σ H s'->RelV v w'->Q w' s'):
  AQ (model X.prog X.w) A (getItem (.ref a) u) Q E s:=by
 rcases g with⟨kvs,k,e,ey,l⟩|⟨kvs,k,b,e,ey,eb,l⟩
 .subst ey;let⟨z,hd,vs,rel,dd⟩:=zdn I.hok e;let⟨w',hw,rw'⟩:=ya7.some_of (v:=v) (o:=valueAt vs k) (by rw[l];exact rel.val k);exact wpAny_getItem_of (zcX ry) dd.mapOf hw (h w' _ (I.tok _) rw')
 .subst ey
  cases (show u=Ac b from ry)
  let⟨z,hd,xs,rel,dd⟩:=zdd I.hok e;let⟨w',hw,rw'⟩:=ya7.some_of (v:=v) (o:=(atKey xs k).map (·.2)) (by rw[l];exact rel.val k);let⟨p,hp,hp2⟩:=EJ.mp hw;refine wpAny_getItem_heap ((show A.in1.units+8<cLine by erw[CQ];lia)) (zby I.hok eb) dd hp ?_;rw[hp2];exact h w' _ (I.tok _) rw'
def zbP{h':Ak}{t':Nat}{ob:HO}(I:Inv X π σ H s)(mu:Mut (H a))(hs:CF a s.heap h')(he:∃q,h'.get? a=AA q)(new:yp X.prog X.w (upd H a ob) h' a ob):
  Inv X π σ (upd H a ob) {s with heap:=h',toks:=t'}:=
 I.write (x:=a) (e:=a) mu (.inl rfl) (λb q hb z=>(hs.2 b hb).trans z) he new
def ze4{P:AV}{w:A5}{H':Hp}{h':Ak}{kvs:List (Key×V)}{vs:List (Key×AD)}(z:kvs.length<=sizeLine)(hd:(a==sysModules)=AG)(rel:KV kvs vs)(dd:h'.DictOf (yE P w) a vs):
  yp P w H' h' a (.dK kvs):=⟨z,hd,vs,rel,dd⟩
def zdx{H':Hp}{Q:Unit->AH->Prop}(hu:A.units+16<cLine)(I:Inv X π σ H s)(g:yef H a y v H')(ry:RelV y u)(rv:RelV v r)(h:∀s',Inv X π σ H' s'->Q () s'):
  AQ (model X.prog X.w) A (setItem (.ref a) u r) Q E s:=by
 rcases g with⟨kvs,k,e,ey,l,eH⟩|⟨kvs,k,b,e,ey,eb,l,eH⟩
 .subst ey eH;let⟨z,hd,vs,rel,dd⟩:=zgN I.hok e;have hz:vs.length<=sizeLine:=by rw[<-rel.length];exact z
  have hl:(putK kvs k v).length<=sizeLine:=by have:=zu kvs k v;lia
  refine wpAny_setItem_pairs (hsz:=hz) (zcX ry) dd λh' dd' hs=>h _ ?_;have he:∃q,h'.get? a=AA q:=let ⟨q,_,_,hq,_⟩:=dd';⟨q,hq⟩
  exact zbP I (by rw[e];exact Bc) hs he (ze4 hl hd (rel.put k rv) dd')
 .subst ey eH
  cases (show u=Ac b from ry)
  let⟨z,hd,xs,rel,dd⟩:=zgy I.hok e;have hz:xs.length<=sizeLine:=by rw[<-Bw rel];exact z
  have hl:(putK kvs k v).length<=sizeLine:=by have:=zu kvs k v;lia
  refine wpAny_setItem_heap (hsz:=hz) ((show A.in1.units+8<cLine by erw[CQ];lia)) (zby I.hok eb) dd λh' dd' hs=>h _ ?_;let⟨q,es,ep,hq,h2,h3,h4,_,h5⟩:=dd';refine zbP I (by rw[e];exact Bc) hs ⟨q,hq⟩ ⟨hl,hd,_,(rel.put k eb rv).keeps λc ys ec=>?_,q,es,ep,hq,h2,h3,h4,h5⟩;rw[za (ziv ec e (λz=>nomatch z))];exact ec
end
section
variable {X:Cx}{π:List (AI×B8)}{σ:St}{H:Hp}{s:AH}{a:AI}{kvs:List (Key×V)}{k:Key}{u:AD}{A:A7}{E:AD->AH->Prop}
end
def yex(i:AM):Prop:=∀ov iv,subscripted i AG ov iv=operate [ov,iv] (getItem ov iv)
def zfO{prog:AV}{w:A5}{A:A7}{E:AD->AH->Prop}{s:AH}{env:Env}{value slice:AM}{pos:Bf}{T id:String}{Q:AD->AH->Prop}
  (hl:typeLookup (.type T) "__getitem__"=pure (AA (.builtin id))) (hs:yex slice)
  (h:AQ (model prog w) A (eval value env) (λo s₁=>AQ (model prog w) A (eval slice env) (λi s₂=>s₂.TypeIs o T/\AQ (model prog w) A (getItem o i) Q E s₂) E s₁) E s):
  AQ (model prog w) A (eval (.Subscript value slice pos) env) Q E s:=by
 refine Fq (B0 h (λo s₁ h₁=>B0 h₁ (λi s₂ h₂=>?_) λ_ _ x=>x) λ_ _ x=>x);let⟨hT,h₂⟩:=h₂;unfold subscriptTail;refine AB ?_;rw[getitemInPython_of_ne hT.not_modules];refine AB (F9 hT hl ?_);have fin:AQ (model prog w) A (subscripted slice AG o i) (λr s₃=>AQ (model prog w) A (letTemporaryGo value o r >>= λ_=>pure r) Q E s₃) E s₂:=by
  rw[hs o i];exact wpAny_operating (B0 h₂ (λr s₃ h₃=>AB (wpAny_letTemporaryGo (AK h₃))) λ_ _ x=>x)
 first
  |exact AK (AB fin)
  |exact AB (AK (AB fin))
  |exact AB fin
def zbG{X:Cx}{π:List (AI×B8)}{σ:St}{H:Hp}{s:AH}{a:AI}{y:V}{o:Option V}(I:Inv X π σ H s)(g:yca H a y o):s.TypeIs (.ref a) "dict":=by
 rcases g with⟨kvs,k,e,_,_⟩|⟨kvs,k,b,e,_,_,_⟩
 .let⟨_,_,vs,_,dd⟩:=zdn I.hok e;exact dd.typeIs
 .let⟨_,_,xs,_,dd⟩:=zdd I.hok e;exact dd.typeIs
def ybR(td ty:TE):TE:=λσ H Q=>td σ H λx H1=>ty σ H1 λy H2=>∃a v,x=.ref a/\yca H2 a y (AA v)/\Q v H2
def yc6(td ty tv:TE):TS:=λD σ H=>tv σ H λv H1=>td σ H1 λx H2=>ty σ H2 λy H3=>∃a H4,x=.ref a/\yef H3 a y v H4/\D.nx σ H4
section
variable {X:Cx}{o i e value:AM}{pos pos' tpos:Bf}{td ty tv:TE}
def zdh(hu:X.A.units+16<cLine)(ho:PE X o td)(hi:PE X i ty)(hs:yex i):PE X (.Subscript o i pos) (ybR td ty):=by
 intro π s σ H Q I h;refine zfO PySem.F.slot_dict_getitem.lookup hs (thn (ho π s σ H _ I h) λu s1 kq=>?_);let⟨x,H1,I1,rx,q1⟩:=kq;refine thn (hi π s1 σ H1 _ I1 q1) λiv s2 kq=>?_;let⟨y,H2,I2,ry,a,v,ex,g,q2⟩:=kq;subst ex;obtain rfl:u=Ac a:=rx;exact⟨zbG I2 g,zc3 hu I2 g ry λw' s3 I3 rw'=>⟨v,H2,I3,rw',q2⟩⟩
def zgh(hu:X.A.units+16<cLine)(ho:PE X o td)(hi:PE X i ty)(hv:PE X value tv)(hs:swapsWith value (AA (.Subscript o i pos')) pos.line X.env=pure AG):
  PS X (.Assign [.Subscript o i pos'] value pos) (yc6 td ty tv):=by
 intro π s σ H D I h;refine wpAny_Assign_Subscript (thn (hv π s σ H _ I h) λr s1 kq=>?_) hs;let⟨v,H1,I1,rv,q1⟩:=kq;refine thn (ho π s1 σ H1 _ I1 q1) λu s2 kq=>?_;let⟨x,H2,I2,rx,q2⟩:=kq;refine thn (hi π s2 σ H2 _ I2 q2) λiv s3 kq=>?_;let⟨y,H3,I3,ry,a,H4,ex,g,q3⟩:=kq;subst ex;obtain rfl:u=Ac a:=rx;exact zdx hu I3 g ry rv λs4 I4=>⟨σ,H4,I4,q3⟩
end
def zet{P:AV}{w:A5}{H:Hp}(h:Ak)(hb:sysModules<h.objs.size):yp P w H (h.push {cls:=.type "dict",data:=.dict #[]}) h.objs.size (.dK []):=
 ⟨BI _,beq_eq_false_iff_ne.mpr (BY (A3 hb)),[],.nil,Heap.DictOf.new h⟩
def zeg{P:AV}{w:A5}{H:Hp}(h:Ak)(hb:sysModules<h.objs.size):yp P w H (h.push {cls:=.type "dict",data:=.dict #[]}) h.objs.size (.dT []):=
 ⟨BI _,beq_eq_false_iff_ne.mpr (BY (A3 hb)),[],.nil,_,#[],0,A1 _ rfl,⟨rfl,rfl,rfl⟩,rfl,rfl,List.nodup_nil⟩
def ycn:TE:=λ_ H Q=>∀p,H p=AE->Q (.ref p) (upd H p (.dT []))
section
variable {X:Cx}{pos:Bf}
def zjt:PE X (.Dict [] [] pos) ycn:=λπ s σ H Q I h=>
 wpAny_Dict_empty ⟨.ref s.heap.objs.size,_,I.laid (a:=s.heap.objs.size) (o:=.dT []) (t':=s.toks) (λ_ _ q=>AL _ q) (AR _) (zeg s.heap I.big),rfl,h _ (I.hok.fresh (AR _))⟩
end
def ya2:List (TE×TE)->St->Hp->(List (V×V)->Hp->Prop)->Prop
 |[],_,H,Q=>Q [] H
 |(tk,tv)::r,σ,H,Q=>tk σ H λx H1=>tv σ H1 λy H2=>ya2 r σ H2 λps H3=>Q ((x,y)::ps) H3
abbrev VV:List (V×V)->List (AD×AD)->Prop:=FW λp q=>RelV p.1 q.1/\RelV p.2 q.2
def PPs(X:Cx)(pos:Bf)(keys:List (Option AM))(values:List AM)(trs:List (TE×TE)):Prop:=
 ∀(π:List (AI×B8)) (s:AH) (σ:St) (H:Hp) (Q:List (V×V)->Hp->Prop),Inv X π σ H s->ya2 trs σ H Q ->
  AQ (model X.prog X.w) X.A (evalPairs (pairTrees keys values X.env pos)) (λvs s'=>∃ps H',Inv X π σ H' s'/\VV ps vs/\Q ps H') X.xe s
def zgf{X:Cx}{pos:Bf}:PPs X pos [] [] []:=λπ s σ H Q I h=>pairTrees_nil_walk ⟨[],H,I,.nil,h⟩
def zei{X:Cx}{pos:Bf}{k v:AM}{ks:List (Option AM)}{vs:List AM}{tk tv:TE}{trs:List (TE×TE)}(hk:PE X k tk)(hv:PE X v tv)(hr:PPs X pos ks vs trs):
  PPs X pos (AA k::ks) (v::vs) ((tk,tv)::trs):=λπ s σ H Q I h=>
 pairTrees_cons_walk (thn (hk π s σ H _ I h) λu s1 ⟨x,H1,I1,rx,q1⟩=>thn (hv π s1 σ H1 _ I1 q1) λw2 s2 ⟨y,H2,I2,ry,q2⟩=>
  thn (hr π s2 σ H2 _ I2 q2) λws s3 ⟨ps,H3,I3,rel,q3⟩=>⟨(x,y)::ps,H3,I3,.cons ⟨rx,ry⟩ rel,q3⟩)
def yas(kvs more:List (Key×V)):List (Key×V):=more.foldl (λacc kv=>putK acc kv.1 kv.2) kvs
theorem KV.merge:∀{more:List (Key×V)} {rs:List (Key×AD)} {kvs:List (Key×V)} {vs:List (Key×AD)},KV more rs->KV kvs vs->KV (yas kvs more) (merged vs rs):=by
 intro more rs kvs vs r;unfold KV at r
 induction r generalizing kvs vs with
 |nil=>intro q;exact q
 |@cons p q ps qs h t ih=>
  intro r0;have e:KV (putK kvs p.1 p.2) (stored vs q.1 q.2):=by
   have:=r0.put p.1 h.2;rw[<-h.1];exact this
  exact ih e
def zQ:∀(more kvs:List (Key×V)),(yas kvs more).length<=kvs.length+more.length
 |[],kvs=>by show kvs.length<=kvs.length+0;lia
 |p::r,kvs=>by
  have h1:=zQ r (putK kvs p.1 p.2);have h2:=zu kvs p.1 p.2;show (yas (putK kvs p.1 p.2) r).length<=_;rw[Ag];lia
def zaE{P:AV}{w:A5}:∀{kvs:List (Key×V)} {ws:List (AD×AD)},VV (kvs.map λkv=>(kV kv.1,kv.2)) ws->∃rs,Carries (yE P w) ws rs/\KV kvs rs
 |[],_,r=>by rw[BQ]at r;cases r;exact⟨[],Bc,.nil⟩
 |p::kvs,_,r=>by
  rw[AX]at r
  cases r with
  |@cons a b as bs h t=>
   let⟨rs,c,q⟩:=zaE (P:=P) (w:=w) t;let⟨b1,b2⟩:=b;exact⟨(p.1,b2)::rs,⟨zcX h.1,rfl,c⟩,.cons ⟨rfl,h.2⟩ q⟩
def ydu(trs:List (TE×TE)):TE:=λσ H Q=>∀p,H p=AE->ya2 trs σ (upd H p (.dK [])) λps H2=>H2 p=AA (.dK [])/\∃kvs:List (Key×V),ps=kvs.map (λkv=>(kV kv.1,kv.2))/\kvs.length<=15/\Q (.ref p) (upd H2 p (.dK (yas [] kvs)))
def zfH{X:Cx}{pos:Bf}{keys:List (Option AM)}{values:List AM}{trs:List (TE×TE)}(h:PPs X pos keys values trs)(hall:keys.all (·.isSome)=AC)(hl:keys.length=values.length)(h0:keys≠[])
  (h15:keys.length<=15):PE X (.Dict keys values pos) (ydu trs):=by
 intro π s σ H Q I q;have hn:=I.hok.fresh (AR s.heap.objs.size);have I1:=I.laid (a:=s.heap.objs.size) (o:=.dK []) (h':=s.heap.push {cls:=.type "dict",data:=.dict #[]}) (t':=s.toks) (λ_ _ q=>AL _ q) (AR _) (zet s.heap I.big);refine wpAny_Dict_walk (knd:=yE X.prog X.w) hall hl h0 h15 (thn (h π _ σ _ _ I1 (q _ hn)) λws s2 kq=>?_);let⟨ps,H2,I2,rel,e,kvs,ep,lk,q2⟩:=kq;subst ep;let⟨rs,c,rk⟩:=zaE (P:=X.prog) (w:=X.w) rel;let⟨z,hd,vs0,r0,dd⟩:=zgN I2.hok e
 cases r0
 refine⟨rs,c,dd,λh' dd' hs=>⟨.ref s.heap.objs.size,_,?_,rfl,q2⟩⟩;have hz:(yas [] kvs).length<=sizeLine:=by
  have h1:=zQ kvs [];rw[Bt]at h1;rw[Ax];lia
 have he:∃q,h'.get? s.heap.objs.size=AA q:=let ⟨q,_,_,hq,_⟩:=dd';⟨q,hq⟩
 exact zbP I2 (by rw[e];exact Bc) hs he (ze4 hz hd (rk.merge .nil) dd')
structure M2(X:Cx)(o:AM)(m:AS)(apos:Bf)(e f:AM)(cpos:Bf):Prop where
 base:attributeBase o m X.env (eval o X.env)=eval o X.env
 few:((backTo cpos (starEach [e,f] X.env)).all (λx=>!x.1)&&(backToKw cpos (keywordEach [] X.env)).all (λx=>x.1.isSome)
  && decide (([e,f]:List AM).length+([]:List CG).length+(if ([]:List CG).isEmpty then 0 else 1)<30))=AC
 line:(apos.endLine==cpos.line)=AC
 trees:backTo cpos (starEach [e,f] X.env)=[(AG,eval e X.env),(AG,eval f X.env)]
def IsD(H:Hp)(a:AI):Prop:=(∃kvs,Rd H a (.dK kvs)) \/ ∃kvs,Rd H a (.dT kvs)
def zg4{X:Cx}{π:List (AI×B8)}{σ:St}{H:Hp}{s:AH}{a:AI}(I:Inv X π σ H s)(d:IsD H a):
  s.TypeIs (.ref a) "dict"/\(∀b,Ac a=.ref b->∃ob,s.heap.get? b=AA ob/\ob.dict=AE)/\(a==sysModules)=false:=by
 rcases d with⟨kvs,e⟩|⟨kvs,e⟩
 .let⟨_,hd,vs,_,dd⟩:=zdn I.hok e;refine⟨dd.typeIs,λb q=>?_,hd⟩
  cases q
  let⟨ob,_,_,h1,h2,_⟩:=dd;exact⟨ob,h1,h2.2.1⟩
 .let⟨_,hd,xs,_,dd⟩:=zdd I.hok e;refine⟨dd.typeIs,λb q=>?_,hd⟩
  cases q
  let⟨ob,_,_,h1,h2,_⟩:=dd;exact⟨ob,h1,h2.2.1⟩
section
variable {X:Cx}{π:List (AI×B8)}{σ:St}{H:Hp}{s:AH}{a:AI}{y d:V}{u r:AD}{o:Option V}{A:A7}{E:AD->AH->Prop}
def zg8{Q:AD->AH->Prop}(hu:A.units+16<cLine)(I:Inv X π σ H s)(g:yca H a y o)(ry:RelV y u)(rd:RelV d r)(h:∀w' s',Inv X π σ H s'->RelV (o.getD d) w'->Q w' s'):
  AQ (model X.prog X.w) A (call (.builtin "dict.get") [.ref a,u,r]) Q E s:=by
 rcases g with⟨kvs,k,e,ey,l⟩|⟨kvs,k,b,e,ey,eb,l⟩
 .subst ey;let⟨z,hd,vs,rel,dd⟩:=zdn I.hok e;refine call_meetsIn Cn dd.typeIs EK (Du _ _ _) (meets_dict_get_default (yE X.prog X.w) a (zcX ry) hd r) ⟨_,dd.mapOf,h _ _ (I.tok _) ?_⟩;rw[l];exact(rel.val k).getD rd
 .subst ey
  cases (show u=Ac b from ry)
  let⟨z,hd,xs,rel,dd⟩:=zdd I.hok e;refine call_meetsIn Cn dd.typeIs EK (Du _ _ _) (meetsH_dict_get_default (yQ X.prog X.w) a b hd r) ⟨(show A.in1.units+8<cLine by erw[CQ];lia),k,xs,zby I.hok eb,dd,h _ _ (I.tok _) ?_⟩;rw[l];exact(rel.val k).getD rd
end
def ycf(td ty tx:TE):TE:=λσ H Q=>td σ H λx H1=>∃a,x=.ref a/\IsD H1 a/\ty σ H1 λy H2=>tx σ H2 λz H3=>∃o,yca H3 a y o/\Q (o.getD z) H3
section
variable {X:Cx}{o e f:AM}{apos cpos:Bf}{td ty tx:TE}
def zeA(hu:X.A.units+16<cLine)(ho:PE X o td)(he:PE X e ty)(hf:PE X f tx)(m:M2 X o "get" apos e f cpos):PE X (.Call (.Attribute o "get" apos) [e,f] [] cpos) (ycf td ty tx):=by
 intro π s σ H Q I h;refine wpAny_Call_method m.base m.few m.line PySem.F.plainAttrs_dict Cn PySem.F.type_dict_get (thn (ho π s σ H _ I h) λu s1 kq=>?_);let⟨x,H1,I1,rx,a,ex,d,q1⟩:=kq;subst ex;obtain rfl:u=Ac a:=rx;let⟨t1,t2,_⟩:=zg4 I1 d;refine⟨t1,t2,?_⟩;rw[m.trees];refine EG rfl (E4 (DX (thn (he π s1 σ H1 _ I1 q1) λiv s2 ⟨y,H2,I2,ry,q2⟩=>
  DX (thn (hf π s2 σ H2 _ I2 q2) λfv s3 ⟨z,H3,I3,rz,ov,g,q3⟩=>FI ?_))))
 exact zg8 hu I3 g ry rz λw' s4 I4 rw'=>⟨_,H3,I4,rw',q3⟩
end
section
variable {X:Cx}{π:List (AI×B8)}{σ:St}{H:Hp}{s:AH}{a:AI}{kvs:List (Key×V)}{A:A7}{E:AD->AH->Prop}
end
section
variable {X:Cx}{π:List (AI×B8)}{σ:St}{H:Hp}{s:AH}{a:AI}{y:V}{u:AD}{A:A7}{E:AD->AH->Prop}
end
end L2
namespace IC
open PySem
inductive PV where
 |non|bl (b:Bool)|int (i:Int)|str (x:AS)|tp (k:Bool) (xs:List PV)|lst (xs:List PV)|loc (n:Nat)|exn (c:Nat)|scr (xs:List PV)|fnc (j:Nat)
deriving Inhabited
abbrev PV.tup(xs:List PV):PV:=.tp AG xs
mutual
noncomputable def nL:PV->Bool
 |.loc _=>AG
 |.exn _=>AG
 |.fnc _=>AC
 |.tp _ xs=>nLs xs
 |.lst xs=>nLs xs
 |.scr xs=>nLs xs
 |_=>AC
noncomputable def nLs:List PV->Bool
 |[]=>AC
 |x::xs=>nL x&&nLs xs
end
mutual
noncomputable def shd(n:Nat):PV->Bool
 |.non=>AC
 |.bl _=>AC
 |.int _=>AC
 |.str x=>x.cps.all (· < 0x110000)
 |.tp _ xs=>decide (0<n)&&ya9 (n-1) xs
 |.lst xs=>decide (0<n)&&ya9 (n-1) xs
 |_=>AG
noncomputable def ya9(n:Nat):List PV->Bool
 |[]=>AC
 |x::xs=>shd n x&&ya9 n xs
end
abbrev shp(v:PV):Bool:=shd 60 v
def flat:PV->Bool
 |.non=>AC
 |.bl _=>AC
 |.int _=>AC
 |.str _=>AC
 |_=>AG
def bi(b:Bool):Int:=if b then 1 else 0
mutual
noncomputable def peq:PV->PV->Bool
 |.non,.non=>AC
 |.bl a,.bl b=>a==b
 |.bl a,.int j=>bi a==j
 |.int i,.bl b=>i==bi b
 |.int i,.int j=>i==j
 |.str x,.str y=>x==y
 |.tp _ xs,.tp _ ys=>yay xs ys
 |.lst xs,.lst ys=>yay xs ys
 |_,_=>AG
noncomputable def yay:List PV->List PV->Bool
 |[],[]=>AC
 |x::xs,y::ys=>peq x y&&yay xs ys
 |_,_=>AG
end
inductive Ob where
 |lst (xs:List PV)|dct (t:Bool) (kvs:List (PV×PV))|dead|ins (c:Nat) (fs:List (AS×PV))
abbrev Env:=List (Option PV)
abbrev SO:=List Ob
inductive R(α:Type) where
 |ok (a:α) (st:SO)|exc (c:Nat) (st:SO)|bad
def R.bind{α β:Type}(r:R α)(k:α->SO->R β):R β:=
 match r with
 |.ok a st=>k a st
 |.exc c st=>.exc c st
 |.bad=>.bad
inductive BOp where
 |add|sub|mul|fdiv|mod|pow|shl|shr|band|bor|bxor
inductive COp where
 |eq|ne|lt|le|gt|ge|is|isnot|isin|notin
inductive Ty where
 |int|bool|str|tuple|list|cls (c:Nat)|val
inductive Blt where
 |len|int|abs|min|max|tuple|list|all|sum|dict|rev|str|any
inductive Mth where
 |append|extend|get|bits|upper|insert|count|index|join|split|sidx|clear
inductive Tg where
 |n (i:Nat)|t (l:List Nat)
set_option genInjectivity false
mutual
inductive Ce where
 |cst (v:PV)
 |var (i:Nat)
 |bin (o:BOp) (a b:Ce)
 |neg (a:Ce)
 |not (a:Ce)
 |and (a b:Ce)
 |or (a b:Ce)
 |cmp (o:COp) (a b:Ce)
 |chain (o p:COp) (a b c:Ce)
 |ite (c a b:Ce)
 |tup (es:Ces)
 |lst (es:Ces)
 |newl (es:Ces)
 |newd (kvs:List (AS×Int))
 |dict0 (t:Bool)
 |idx (a i:Ce)
 |slc (a:Ce) (lo hi:Ce)
 |call (f:Nat) (args:Ces)
 |blt (b:Blt) (args:Ces)
 |mth (m:Mth) (o:Ce) (args:Ces)
 |isi (a:Ce) (t:List Ty)
 |comp (sl:List (Option Nat)) (tg:Tg) (it:Cit) (c:Ce) (e:Ce)
 |nope
 |cml (sl:List (Option Nat)) (tg:Tg) (i:Ce) (e:Ce)
 |srt (a:Ce)
 |dfl (i:Nat)
 |dne (a b:Ce)
inductive Ces where
 |nil
 |cons (e:Ce) (es:Ces)
inductive Cit where
 |seq (e:Ce)
 |range1 (a:Ce)
 |range2 (a b:Ce)
 |rangeD (a b:Ce)
 |enum (e:Ce)
 |zip (a b:Ce)
 |revl (e:Ce)
 |revr (a:Ce)
 |chars (e:Ce)
end
set_option genInjectivity true
abbrev Ce.i(n:Int):Ce:=.cst (.int n)
abbrev Ce.s(x:AS):Ce:=.cst (.str x)
abbrev Ce.v:=Ce.var
abbrev Ces.k:=Ces.cons
abbrev Ces.e:=Ces.nil
mutual
inductive Cs where
 |expr (e:Ce)
 |asg (t:Tg) (e:Ce)
 |six (o i e:Ce)
 |dput (o i e:Ce)
 |aug (i:Nat) (o:BOp) (e:Ce)
 |ret (e:Ce)
 |ite (c:Ce) (a b:Css)
 |for (t:Tg) (it:Cit) (b:Css)
 |while (c:Ce) (b:Css)
 |nope
inductive Css where
 |nil
 |cons (s:Cs) (ss:Css)
end
abbrev Css.k:=Css.cons
abbrev Css.e:=Css.nil
def yak(i j:Int):Bool:=(decide (i.natAbs<18446744073709551616)) || (decide (j.natAbs<18446744073709551616))
def binI(o:BOp)(i j:Int):Option PV:=
 match o with
 |.add=>AA (.int (i+j))
 |.sub=>AA (.int (i-j))
 |.mul=>if yak i j then AA (.int (i*j))else AE
 |.fdiv=>if 0<j/\j<10000000000000000000000000000000000000000000000000000000000000000000000 then AA (.int (i/j))else AE
 |.mod=>if 0<j then AA (.int (i%j))else AE
 |.pow=>if 0<=j/\j<=1000000/\i.natAbs<18446744073709551616 then AA (.int (i^j.toNat))else AE
 |.shl=>if 0<=j/\j<=1000000/\i.natAbs<18446744073709551616 then AA (.int (i*2^j.toNat))else AE
 |.shr=>if 0<=j then AA (.int (i/2^j.toNat))else AE
 |.band=>AA (.int (Builtin.bitAnd i j))
 |.bor=>AA (.int (Builtin.bitOr i j))
 |.bxor=>AA (.int (Builtin.bitXor i j))
def sizeMax:Nat:=16777216
def yd2(k:Bool)(a:List PV)(j:Bool)(b:List PV):PV:=if a.isEmpty then .tp j b else if b.isEmpty then .tp k a else .tup (a++b)
def yC(o:BOp)(x y:PV):Option PV:=
 match x,y with
 |.int i,.int j=>binI o i j
 |.int i,.bl b=>match o with
  |.add=>AA (.int (i+bi b))
  |_=>AE
 |.str a,.str b=>match o with
  |.add=>if a.length+b.length<=sizeMax then AA (.str (a++b))else AE
  |_=>AE
 |.tp k a,.tp j b=>match o with
  |.add=>if a.length+b.length<=sizeMax then AA (yd2 k a j b)else AE
  |_=>AE
 |.lst a,.lst b=>match o with
  |.add=>if a.length+b.length<=sizeMax then AA (.lst (a++b))else AE
  |_=>AE
 |_,_=>AE
def ya3(o:BOp)(x y:PV):Option PV:=
 match x,y with
 |.int i,.int j=>binI o i j
 |_,_=>AE
def isNon:PV->Bool
 |.non=>AC
 |_=>AG
def inL(x:PV):List PV->Bool
 |[]=>AG
 |y::ys=>peq y x || inL x ys
def inS(a b:AS):Bool:=(Eu (b.length+1)).any λi=>decide (i+a.length<=b.length)&&(b.cps.extract i (i+a.length)==a.cps)
def ybd(o:COp)(i j:Int):Option PV:=
 match o with
 |.lt=>AA (.bl (decide (i<j)))
 |.le=>AA (.bl (decide (i<=j)))
 |.gt=>AA (.bl (decide (j<i)))
 |.ge=>AA (.bl (decide (j<=i)))
 |_=>AE
def ydj(o:COp)(a b:AS):Option PV:=
 match o with
 |.lt=>AA (.bl (decide (a.cps.toList<b.cps.toList)))
 |.le=>AA (.bl (!decide (b.cps.toList<a.cps.toList)))
 |_=>AE
def yr(o:COp)(x y:PV):Option PV:=
 match o with
 |.eq=>if shp x&&shp y then AA (.bl (peq x y))else AE
 |.ne=>if shp x&&shp y then AA (.bl (!peq x y))else AE
 |.is=>match y with
  |.non=>AA (.bl (isNon x))
  |.bl b=>match x with
   |.bl a=>AA (.bl (a==b))
   |_=>AE
  |_=>AE
 |.isnot=>match y with
  |.non=>AA (.bl (!isNon x))
  |.bl b=>match x with
   |.bl a=>AA (.bl (!(a==b)))
   |_=>AE
  |_=>AE
 |.isin=>match x,y with
  |.str a,.str b=>AA (.bl (inS a b))
  |x,.tp _ l=>if flat x&&l.all flat then AA (.bl (inL x l))else AE
  |x,.lst l=>if flat x&&l.all flat then AA (.bl (inL x l))else AE
  |_,_=>AE
 |.notin=>match x,y with
  |.str a,.str b=>AA (.bl (!inS a b))
  |x,.tp _ l=>if flat x&&l.all flat then AA (.bl (!inL x l))else AE
  |x,.lst l=>if flat x&&l.all flat then AA (.bl (!inL x l))else AE
  |_,_=>AE
 |o=>match x,y with
  |.int i,.int j=>ybd o i j
  |.str a,.str b=>ydj o a b
  |_,_=>AE
def yag(st:SO)(x:PV):Option Bool:=
 match x with
 |.non=>AA AG
 |.bl b=>AA b
 |.int i=>AA (i != 0)
 |.str y=>if y.length<=sizeMax then AA ((y.length:Int) != 0)else AE
 |.tp _ xs=>AA (!xs.isEmpty)
 |.lst xs=>AA (!xs.isEmpty)
 |.loc n=>match st[n]? with
  |some (.lst xs)=>AA (!xs.isEmpty)
  |_=>AE
 |_=>AE
def ixI(n:Nat)(i:Int):Option Nat:=if 0<=i then(if i<n then AA i.toNat else AE)else if -(n:Int)<=i then AA (i+n).toNat else AE
def at?{α:Type}(xs:List α)(i:Int):Option α:=(ixI xs.length i).bind λj=>xs[j]?
def look(k:PV):List (PV×PV)->Option PV
 |[]=>AE
 |(a,b)::r=>if peq a k then AA b else look k r
def put(k v:PV)(kvs:List (PV×PV)):List (PV×PV):=
 if (kvs.any λp=>peq p.1 k)=AC then kvs.map (λp=>if peq p.1 k=AC then(p.1,v)else p)else kvs++[(k,v)]
def ybD:PV->Bool
 |.int _=>AC
 |.str _=>AC
 |_=>AG
mutual
noncomputable def yb1(n:Nat):PV->Bool
 |.int _=>AC
 |.str x=>x.cps.all (· < 0x110000)
 |.tp k xs=>!k&&decide (0<n)&&yaz (n-1) xs
 |_=>AG
noncomputable def yaz(n:Nat):List PV->Bool
 |[]=>AC
 |x::xs=>yb1 n x&&yaz n xs
end
def isKey(t:Bool)(k:PV):Bool:=
 match t with
 |false=>ybD k
 |true=>match k with
  |.tp AG xs=>yaz 5 xs
  |_=>AG
def yaw{α:Type}(xs:List α)(i:PV):Option α:=
 match i with
 |.int k=>at? xs k
 |_=>AE
def idxV(st:SO)(x i:PV):Option PV:=
 match x with
 |.tp _ xs=>yaw xs i
 |.lst xs=>yaw xs i
 |.str s=>if s.length<=sizeMax then(yaw s.cps.toList i).map λc=>.str ⟨#[c]⟩else AE
 |.loc n=>match st[n]? with
  |some (.lst xs)=>yaw xs i
  |_=>AE
 |_=>AE
def ybg(n:Nat)(v:Int):Nat:=if v<0 then(v+(n:Int)).toNat else min v.toNat n
def yb8(n:Nat)(lo:Option Int):Nat:=
 match lo with
 |none=>0
 |some i=>ybg n i
def ycv(n:Nat)(hi:Option Int):Nat:=
 match hi with
 |none=>n
 |some i=>ybg n i
def cut{α:Type}(xs:List α)(lo hi:Option Int):List α:=(xs.drop (yb8 xs.length lo)).take (ycv xs.length hi-yb8 xs.length lo)
def ybA:PV->Option (Option Int)
 |.non=>AA AE
 |.int i=>AA (AA i)
 |_=>AE
def ybO(x:PV)(a b:Option Int):Option PV:=
 match x with
 |.tp k xs=>if yb8 xs.length a=0/\ycv xs.length b=xs.length then AA (.tp k xs)else AA (.tup (cut xs a b))
 |.str s=>if s.length<=sizeMax then AA (.str ⟨(cut s.cps.toList a b).toArray⟩)else AE
 |.lst xs=>AA (.lst (cut xs a b))
 |.scr xs=>AA (.lst (cut xs a b))
 |_=>AE
def ycQ(x:PV)(a:Option Int)(hi:PV):Option PV:=
 match ybA hi with
 |some b=>ybO x a b
 |none=>AE
def yaJ(x:PV)(t:Ty):Bool:=
 match x,t with
 |.int _,.int=>AC
 |.bl _,.int=>AC
 |.bl _,.bool=>AC
 |.str _,.str=>AC
 |.tp _ _,.tuple=>AC
 |.lst _,.list=>AC
 |.exn c,.cls d=>c==d
 |.exn _,.val=>AC
 |_,_=>AG
def yct:Ty->Bool
 |.cls _=>AG
 |.val=>AG
 |_=>AC
def ybn(x:PV)(ts:List Ty):Option PV:=
 match x with
 |.loc _=>AE
 |.scr _=>AE
 |.fnc _=>AE
 |.exn c=>if ts.all yct then AE else AA (.bl (ts.any (yaJ (.exn c))))
 |x=>match ts with
  |[t]=>if yct t then AA (.bl (yaJ x t))else AE
  |_=>AE
def allB:List PV->Option Bool
 |[]=>AA AC
 |.bl b::r=>match allB r with
  |some c=>AA (b&&c)
  |none=>AE
 |_::_=>AE
def yei:List PV->Option Int
 |[]=>AA 0
 |.int i::r=>match yei r with
  |some c=>AA (i+c)
  |none=>AE
 |_::_=>AE
def yea:List PV->Option Int
 |[]=>AE
 |[.int i]=>AA i
 |.int i::r=>match yea r with
  |some c=>AA (if i<c then c else i)
  |none=>AE
 |_::_=>AE
def seqOf(st:SO):PV->Option (List PV)
 |.tp _ xs=>AA xs
 |.lst xs=>AA xs
 |.loc n=>match st[n]? with
  |some (.lst xs)=>AA xs
  |_=>AE
 |_=>AE
def yu(st:SO):PV->Option (List PV)
 |.lst xs=>AA xs
 |.loc n=>match st[n]? with
  |some (.lst xs)=>AA xs
  |_=>AE
 |_=>AE
def lenV(st:SO)(x:PV):Option PV:=
 match x with
 |.str s=>if s.length<=sizeMax then AA (.int s.length)else AE
 |x=>(seqOf st x).map λxs=>.int xs.length
def ye4(x:PV):Option PV:=
 match x with
 |.int i=>AA (.int i)
 |.bl k=>AA (.int (bi k))
 |_=>AE
def yc7(x:PV):Option PV:=
 match x with
 |.int i=>AA (.int (if i<0 then -i else i))
 |_=>AE
def yfl(x y:PV):Option PV:=
 match x,y with
 |.int i,.int j=>AA (.int (if j<i then j else i))
 |_,_=>AE
def maxV(x y:PV):Option PV:=
 match x,y with
 |.int i,.int j=>AA (.int (if i<j then j else i))
 |_,_=>AE
def yec(st:SO)(x:PV):Option PV:=
 match x with
 |.tp k xs=>AA (.tp k xs)
 |x=>(yu st x).map .tup
def yfD:PV->Option PV
 |.tp _ xs=>if xs.isEmpty then AE else AA (.tup xs.reverse)
 |.lst xs=>AA (.lst xs.reverse)
 |_=>AE
def anyB:List PV->Option Bool
 |[]=>AA AG
 |.bl b::r=>match anyB r with
  |some c=>AA (b || c)
  |none=>AE
 |_=>AE
def anyI:List PV->Option Bool
 |[]=>AA AG
 |.int i::r=>match anyI r with
  |some c=>AA ((i != 0) || c)
  |none=>AE
 |_=>AE
def yeL:PV->Option PV
 |.int i=>if i=0 then AA (.str "0")else if i=1 then AA (.str "1")else AE
 |_=>AE
def yaL(b:Blt)(st:SO)(vs:List PV):Option PV:=
 match vs with
 |[x]=>match b with
  |.len=>lenV st x
  |.int=>ye4 x
  |.abs=>yc7 x
  |.max=>(yu st x).bind λxs=>(yea xs).map .int
  |.tuple=>yec st x
  |.list=>(seqOf st x).map .lst
  |.all=>(yu st x).bind λxs=>(allB xs).map .bl
  |.sum=>(yu st x).bind λxs=>(yei xs).map .int
  |.rev=>yfD x
  |.str=>yeL x
  |.any=>match x with
   |.tp _ xs=>(anyI xs).map .bl
   |x=>(yu st x).bind λxs=>(anyB xs).map .bl
  |_=>AE
 |[x,y]=>match b with
  |.min=>yfl x y
  |.max=>maxV x y
  |_=>AE
 |_=>AE
def yU(st:SO):PV->Option (Bool×List (PV×PV))
 |.loc n=>match st[n]? with
  |some (.dct t xs)=>AA (t,xs)
  |_=>AE
 |_=>AE
def yar(m:Mth)(st:SO)(x:PV):Option Bool:=
 match m with
 |.append=>(yu st x).map λ_=>AC
 |.extend=>(yu st x).map λ_=>AC
 |.insert=>(yu st x).map λ_=>AC
 |.count=>(yu st x).map λ_=>AC
 |.index=>(yu st x).map λ_=>AC
 |.get=>(yU st x).map λ_=>AC
 |.bits=>match x with
  |.int _=>AA AC
  |_=>AE
 |.upper=>match x with
  |.str _=>AA AC
  |_=>AE
 |.join=>match x with
  |.str _=>AA AC
  |_=>AE
 |.split=>match x with
  |.str _=>AA AC
  |_=>AE
 |.sidx=>match x with
  |.str _=>AA AC
  |_=>AE
 |.clear=>match x with
  |.loc n=>(yu st (.loc n)).map λ_=>AC
  |_=>AE
def ydw(st:SO)(o v:PV):R PV:=
 match o with
 |.loc n=>match st[n]? with
  |some (.lst xs)=>if xs.length<1000000 then .ok .non (st.set n (.lst (xs++[v])))else .bad
  |_=>.bad
 |_=>.bad
def yfq(st:SO)(o v:PV):R PV:=
 match o with
 |.loc n=>match st[n]? with
  |some (.lst xs)=>match v with
   |.lst ys=>if xs.length+ys.length<=1000000 then .ok .non (st.set n (.lst (xs++ys)))else .bad
   |_=>.bad
  |_=>.bad
 |_=>.bad
def yfO(st:SO)(o i v:PV):R PV:=
 match o with
 |.loc n=>match st[n]? with
  |some (.lst xs)=>match i with
   |.int k=>if 0<=k/\k<=xs.length/\xs.length<1000000 then .ok .non (st.set n (.lst (xs.take k.toNat++v::xs.drop k.toNat)))else .bad
   |_=>.bad
  |_=>.bad
 |_=>.bad
def ycW(st:SO)(o k d:PV):R PV:=
 match yU st o with
 |some (t,kvs)=>if isKey t k then .ok ((look k kvs).getD d) st else .bad
 |none=>.bad
def yfp(st:SO)(o v:PV):R PV:=
 match yu st o with
 |some xs=>if flat v&&xs.all flat then .ok (.int (xs.countP λy=>peq y v)) st else .bad
 |none=>.bad
def ycK(v:PV):List PV->Option Nat
 |[]=>AE
 |y::ys=>if peq y v then AA 0 else(ycK v ys).map (·+1)
def yfj(st:SO)(o v:PV):R PV:=
 match yu st o with
 |some xs=>if flat v&&xs.all flat then(match ycK v xs with
  |some j=>.ok (.int j) st
  |none=>.bad)else .bad
 |none=>.bad
def upC(c:Nat):Nat:=if 97<=c/\c<=122 then c-32 else c
def upS(s:AS):Str:=⟨(s.cps.toList.map upC).toArray⟩
def ybj(c:Nat):List Nat->List (List Nat)
 |[]=>[[]]
 |x::xs=>if x=c then []::ybj c xs else match ybj c xs with
  |[]=>[[x]]
  |p::ps=>(x::p)::ps
def strsOf:List PV->Option (List AS)
 |[]=>AA []
 |.str s::r=>(strsOf r).map (s :: ·)
 |_=>AE
def ydl(st:SO)(o v:PV):R PV:=
 match o,yu st v with
 |.str s,AA xs=>match strsOf xs with
  |some ys=>if s.length<=10/\xs.length<=1000/\(ys.all λy=>decide (y.length<=1000))=AC then .ok (.str (Str.join s ys)) st else .bad
  |none=>.bad
 |_,_=>.bad
def yfW(st:SO)(o:PV):R PV:=
 match o with
 |.loc n=>match st[n]? with
  |some (.lst _)=>.ok .non (st.set n (.lst []))
  |_=>.bad
 |_=>.bad
def ydH(st:SO)(o v:PV):R PV:=
 match o,v with
 |.str s,.str y=>if s=AO "01" then(if y=AO "0" then .ok (.int 0) st else if y=AO "1" then .ok (.int 1) st else .bad)else .bad
 |_,_=>.bad
def ycq(st:SO)(o v:PV):R PV:=
 match o,v with
 |.str s,.str y=>match y.cps.toList with
  |[c]=>if s.length<=100000 then .ok (.lst ((ybj c s.cps.toList).map λl=>.str ⟨l.toArray⟩)) st else .bad
  |_=>.bad
 |_,_=>.bad
def ybI(m:Mth)(st:SO)(o:PV)(vs:List PV):R PV:=
 match m,vs with
 |.append,[v]=>ydw st o v
 |.extend,[v]=>yfq st o v
 |.insert,[i,v]=>yfO st o i v
 |.get,[k,d]=>ycW st o k d
 |.count,[v]=>yfp st o v
 |.index,[v]=>yfj st o v
 |.join,[v]=>ydl st o v
 |.split,[v]=>ycq st o v
 |.sidx,[v]=>ydH st o v
 |.clear,[]=>yfW st o
 |.bits,[]=>match o with
  |.int i=>.ok (.int (Builtin.Int.intBits i)) st
  |_=>.bad
 |.upper,[]=>match o with
  |.str s=>if s.cps.toList.all (· < 128)/\s.length<=1000000 then .ok (.str (upS s)) st else .bad
  |_=>.bad
 |_,_=>.bad
def toR(o:Option PV)(st:SO):R PV:=
 match o with
 |some v=>.ok v st
 |none=>.bad
def yx(t:Tg)(v:PV)(ρ:Env):Option Env:=
 match t,v with
 |.n i,v=>AA (ρ.set i (AA v))
 |.t l,.tp _ xs=>if l.length=xs.length then AA ((l.zip xs).foldl (λρ p=>ρ.set p.1 (AA p.2)) ρ)else AE
 |_,_=>AE
def yL:Nat->List PV->List PV
 |_,[]=>[]
 |k,x::xs=>.tup [.int k,x]::yL (k+1) xs
def ycF:List PV->List PV->List PV
 |x::xs,y::ys=>.tup [x,y]::ycF xs ys
 |_,_=>[]
def yfz:PV->Option (List PV)
 |.tp _ xs=>AA xs.reverse
 |.lst xs=>AA xs.reverse
 |_=>AE
def ycD:PV->Option (List PV)
 |.str s=>if s.length<=1000000 then AA (s.cps.toList.map λc=>.str ⟨#[c]⟩)else AE
 |_=>AE
def yfX(x y:PV):Option (List PV):=
 match x,y with
 |.tp _ xs,.tp _ ys=>if xs.length<=ys.length then AA (ycF xs ys)else AE
 |_,_=>AE
def yaT(s:AS):List (AS×PV)->Option PV
 |[]=>AE
 |(a,b)::r=>if decide (a=s)then AA b else yaT s r
def yF:Nat->Int->Int->List PV
 |0,_,_=>[]
 |n+1,a,d=>.int a::yF n (a+d) d
def ycJ(x:PV):Option (List PV):=
 match x with
 |.int j=>if j.natAbs<1000000000 then AA (yF j.toNat 0 1)else AE
 |_=>AE
def yeB(x:PV):Option (List PV):=
 match x with
 |.int j=>if 0<=j/\j<1000000000 then AA (yF j.toNat (j-1) (-1))else AE
 |_=>AE
def yeQ(x y:PV):Option (List PV):=
 match x,y with
 |.int i,.int j=>if i.natAbs<1000000000/\j.natAbs<1000000000 then AA (yF (j-i).toNat i 1)else AE
 |_,_=>AE
def yeX(x y:PV):Option (List PV):=
 match x,y with
 |.int i,.int j=>if i.natAbs<1000000000/\j.natAbs<1000000000 then AA (yF (i-j).toNat i (-1))else AE
 |_,_=>AE
def toL(o:Option (List PV))(st:SO):R (List PV):=
 match o with
 |some v=>.ok v st
 |none=>.bad
def ycV(f:AS)(v:PV):List (AS×PV)->List (AS×PV)
 |[]=>[(f,v)]
 |(g,x)::r=>if g=f then(g,v)::r else(g,x)::ycV f v r
inductive Fl where
 |nx (ρ:Env) (st:SO)|rt (v:PV) (st:SO)|bk (ρ:Env) (st:SO)|ct (ρ:Env) (st:SO)|exc (c:Nat) (ρ:Env) (st:SO)|bad
def onBl{α:Type}(x:PV)(k:Bool->R α):R α:=
 match x with
 |.bl b=>k b
 |_=>.bad
def onO{α:Type}(o:Option Bool)(k:Bool->R α):R α:=
 match o with
 |some b=>k b
 |none=>.bad
def onF(o:Option Bool)(k:Bool->Fl):Fl:=
 match o with
 |some b=>k b
 |none=>.bad
def onP{α:Type}(o:Option (Option Int))(k:Option Int->R α):R α:=
 match o with
 |some b=>k b
 |none=>.bad
def blO(o:Option PV):Option Bool:=
 match o with
 |some (.bl b)=>AA b
 |_=>AE
def yaH(o:Option PV)(ys:List PV):List PV:=
 match o with
 |some y=>y::ys
 |none=>ys
def yaF(one:PV->SO->R (Option PV)):List PV->SO->R (List PV)
 |[],st=>.ok [] st
 |x::xs,st=>(one x st).bind λo st1=>(yaF one xs st1).bind λys st2=>.ok (yaH o ys) st2
def yba(r:R (List PV)):R PV:=
 match r with
 |.ok ys st=>if ys.length<=1000000 then .ok (.lst ys) st else .bad
 |_=>.bad
def yae(one:PV->SO->R (Option PV))(n:Nat):Nat->Nat->SO->R (List PV)
 |0,_,_=>.bad
 |f+1,i,st=>match st[n]? with
  |some (.lst xs)=>match xs[i]? with
   |some x=>(one x st).bind λo st1=>(yae one n f (i+1) st1).bind λys st2=>.ok (yaH o ys) st2
   |none=>.ok [] st
  |_=>.bad
def ycs:PV->Option (AS×Int×Int)
 |.tp AG [.str s,.int i,.int j]=>AA (s,i,j)
 |_=>AE
def ltS(a b:AS×Int×Int):Bool:=if a.1=b.1 then(if a.2.1==b.2.1 then(if a.2.2==b.2.2 then AG else decide (a.2.2<b.2.2))else decide (a.2.1<b.2.1))else decide (a.1.cps.toList<b.1.cps.toList)
def ybY:List PV->Option PV
 |[]=>AA (.lst [])
 |[x]=>AA (.lst [x])
 |[x,y]=>match ycs x,ycs y with
  |some p,AA q=>AA (.lst (if ltS q p then [y,x]else [x,y]))
  |_,_=>AE
 |_=>AE
def ycy(st:SO)(x:PV):Option PV:=(yu st x).bind ybY
def yaM:PV×PV->Bool
 |(_,.int _)=>AC
 |_=>AG
def ivP:PV->Int
 |.int i=>i
 |_=>0
def ycE(st:SO)(o:Option (Option PV)):R PV:=
 match o with
 |some (AA v)=>match yU st v with
  |some (AC,kvs)=>if (kvs.all yaM&&decide (kvs.length<=1000))=AC then .ok (.loc st.length) (st++[.dct AC ((kvs.filter λp=>!(ivP p.2==0)).foldl (λacc kv=>put kv.1 kv.2 acc) [])])else .bad
  |_=>.bad
 |_=>.bad
def ybb(ka kb:List (PV×PV)):Bool:=ka.length==kb.length&&ka.all λp=>match look p.1 kb with
 |some v=>ivP p.2==ivP v
 |none=>AG
def ybv(st:SO)(x y:PV):Option PV:=
 match yU st x,yU st y with
 |some (AC,ka),AA (AC,kb)=>if (ka.all yaM&&kb.all yaM)=AC then AA (.bl (!ybb ka kb))else AE
 |_,_=>AE
mutual
noncomputable def ev(call:Nat->List PV->SO->R PV)(ρ:Env)(st:SO):Ce->R PV
 |.cst v=>.ok v st
 |.var i=>match ρ[i]? with
  |some (AA v)=>.ok v st
  |_=>.bad
 |.bin o a b=>(ev call ρ st a).bind λx st1=>(ev call ρ st1 b).bind λy st2=>toR (yC o x y) st2
 |.neg a=>(ev call ρ st a).bind λx st1=>match x with
  |.int i=>.ok (.int (-i)) st1
  |_=>.bad
 |.not a=>(ev call ρ st a).bind λx st1=>onBl x λk=>.ok (.bl (!k)) st1
 |.and a b=>(ev call ρ st a).bind λx st1=>onBl x λk=>cond k (ev call ρ st1 b) (.ok (.bl AG) st1)
 |.or a b=>(ev call ρ st a).bind λx st1=>onBl x λk=>cond k (.ok (.bl AC) st1) (ev call ρ st1 b)
 |.cmp o a b=>(ev call ρ st a).bind λx st1=>(ev call ρ st1 b).bind λy st2=>toR (yr o x y) st2
 |.chain o p a b c=>(ev call ρ st a).bind λx st1=>(ev call ρ st1 b).bind λy st2=>onO (blO (yr o x y)) λk=>cond k ((ev call ρ st2 c).bind λz st3=>toR (yr p y z) st3) (.ok (.bl AG) st2)
 |.ite c a b=>(ev call ρ st c).bind λx st1=>onO (yag st1 x) λk=>cond k (ev call ρ st1 a) (ev call ρ st1 b)
 |.tup es=>(evs call ρ st es).bind λvs st1=>if vs.length<=sizeMax then .ok (.tup vs) st1 else .bad
 |.lst es=>(evs call ρ st es).bind λvs st1=>if vs.length<=sizeMax then .ok (.lst vs) st1 else .bad
 |.newl es=>(evs call ρ st es).bind λvs st1=>if vs.length<=sizeMax then .ok (.loc st1.length) (st1++[.lst vs])else .bad
 |.newd kvs=>if kvs.length<=15 then .ok (.loc st.length) (st++[.dct AG (kvs.foldl (λacc kv=>put (.str kv.1) (.int kv.2) acc) [])])else .bad
 |.dict0 t=>.ok (.loc st.length) (st++[.dct t []])
 |.idx a i=>(ev call ρ st a).bind λx st1=>(ev call ρ st1 i).bind λy st2=>toR (idxV st2 x y) st2
 |.slc a l h=>(ev call ρ st a).bind λx st1=>(ev call ρ st1 l).bind λy st2=>onP (ybA y) λo=>(ev call ρ st2 h).bind λz st3=>toR (ycQ x o z) st3
 |.call f es=>(evs call ρ st es).bind λvs st1=>call f vs st1
 |.blt b es=>(evs call ρ st es).bind λvs st1=>toR (yaL b st1 vs) st1
 |.mth m o es=>(ev call ρ st o).bind λx st1=>onO (yar m st1 x) λ_=>(evs call ρ st1 es).bind λvs st2=>ybI m st2 x vs
 |.isi a ts=>(ev call ρ st a).bind λx st1=>toR (ybn x ts) st1
 |.comp sl tg it c e=>(evi call ρ st it).bind λxs st1=>
  let ρ0:Env:=sl.map λo=>o.bind λj=>(ρ[j]?).join
  yba (yaF (λx st2=>match yx tg x ρ0 with
   |none=>.bad
   |some ρ1=>(ev call ρ1 st2 c).bind λb st3=>onO (yag st3 b) λk=>cond k ((ev call ρ1 st3 e).bind λy st4=>.ok (AA y) st4) (.ok AE st3)) xs st1)
 |.nope=>.bad
 |.cml sl tg i e=>(ev call ρ st i).bind λv st1=>match v with
  |.loc n=>
   let ρ0:Env:=sl.map λo=>o.bind λj=>(ρ[j]?).join
   yba (yae (λx st2=>match yx tg x ρ0 with
    |none=>.bad
    |some ρ1=>(ev call ρ1 st2 e).bind λy st4=>.ok (AA y) st4) n 1000000 0 st1)
  |_=>.bad
 |.srt a=>(ev call ρ st a).bind λx st1=>toR (ycy st1 x) st1
 |.dfl i=>ycE st ρ[i]?
 |.dne a b=>(ev call ρ st a).bind λx st1=>(ev call ρ st1 b).bind λy st2=>toR (ybv st2 x y) st2
noncomputable def evs(call:Nat->List PV->SO->R PV)(ρ:Env)(st:SO):Ces->R (List PV)
 |.nil=>.ok [] st
 |.cons e es=>(ev call ρ st e).bind λv st1=>(evs call ρ st1 es).bind λvs st2=>.ok (v::vs) st2
noncomputable def evi(call:Nat->List PV->SO->R PV)(ρ:Env)(st:SO):Cit->R (List PV)
 |.seq e=>(ev call ρ st e).bind λv st1=>match v with
  |.tp _ xs=>.ok xs st1
  |.lst xs=>.ok xs st1
  |_=>.bad
 |.range1 a=>(ev call ρ st a).bind λx st1=>toL (ycJ x) st1
 |.range2 a b=>(ev call ρ st a).bind λx st1=>(ev call ρ st1 b).bind λy st2=>toL (yeQ x y) st2
 |.rangeD a b=>(ev call ρ st a).bind λx st1=>(ev call ρ st1 b).bind λy st2=>toL (yeX x y) st2
 |.enum e=>(ev call ρ st e).bind λv st1=>match v with
  |.tp _ xs=>.ok (yL 0 xs) st1
  |_=>.bad
 |.zip a b=>(ev call ρ st a).bind λx st1=>(ev call ρ st1 b).bind λy st2=>toL (yfX x y) st2
 |.revl e=>(ev call ρ st e).bind λv st1=>toL (yfz v) st1
 |.revr a=>(ev call ρ st a).bind λx st1=>toL (yeB x) st1
 |.chars e=>(ev call ρ st e).bind λv st1=>toL (ycD v) st1
end
def R.fl{α:Type}(r:R α)(ρ:Env)(k:α->SO->Fl):Fl:=
 match r with
 |.ok a st=>k a st
 |.exc c st=>.exc c ρ st
 |.bad=>.bad
def yX(f:Fl)(k:Env->SO->Fl):Fl:=
 match f with
 |.nx ρ st=>k ρ st
 |.ct ρ st=>k ρ st
 |.bk ρ st=>.nx ρ st
 |f=>f
def forL(t:Tg)(body:Env->SO->Fl):List PV->Env->SO->Fl
 |[],ρ,st=>.nx ρ st
 |x::xs,ρ,st=>match yx t x ρ with
  |none=>.bad
  |some ρ1=>yX (body ρ1 st) λρ2 st2=>forL t body xs ρ2 st2
def yV(test:Env->SO->R PV)(body:Env->SO->Fl):Nat->Env->SO->Fl
 |0,_,_=>.bad
 |n+1,ρ,st=>(test ρ st).fl ρ λx st1=>onF (yag st1 x) λk=>cond k (yX (body ρ st1) λρ2 st2=>yV test body n ρ2 st2) (.nx ρ st1)
def yaP(st:SO)(o i v:PV):Option SO:=
 match o with
 |.loc n=>match st[n]? with
  |some (.lst xs)=>match i with
   |.int k=>match ixI xs.length k with
    |some j=>AA (st.set n (.lst (xs.set j v)))
    |none=>AE
   |_=>AE
  |_=>AE
 |_=>AE
def yaS(st:SO)(o i v:PV):Option SO:=
 match o with
 |.loc n=>match st[n]? with
  |some (.dct t kvs)=>if isKey t i/\kvs.length<1000000 then AA (st.set n (.dct t (put i v kvs)))else AE
  |_=>AE
 |_=>AE
mutual
noncomputable def ex(call:Nat->List PV->SO->R PV)(ρ:Env)(st:SO):Cs->Fl
 |.expr e=>(ev call ρ st e).fl ρ λ_ st1=>.nx ρ st1
 |.asg t e=>(ev call ρ st e).fl ρ λv st1=>match yx t v ρ with
  |some ρ1=>.nx ρ1 st1
  |none=>.bad
 |.six o i e=>(ev call ρ st e).fl ρ λv st1=>(ev call ρ st1 o).fl ρ λx st2=>(ev call ρ st2 i).fl ρ λy st3=>match yaP st3 x y v with
  |some st4=>.nx ρ st4
  |none=>.bad
 |.dput o i e=>(ev call ρ st e).fl ρ λv st1=>(ev call ρ st1 o).fl ρ λx st2=>(ev call ρ st2 i).fl ρ λy st3=>match yaS st3 x y v with
  |some st4=>.nx ρ st4
  |none=>.bad
 |.aug i o e=>match ρ[i]? with
  |some (AA x)=>(ev call ρ st e).fl ρ λy st1=>match ya3 o x y with
   |some z=>.nx (ρ.set i (AA z)) st1
   |none=>.bad
  |_=>.bad
 |.ret e=>(ev call ρ st e).fl ρ λv st1=>.rt v st1
 |.ite c a b=>(ev call ρ st c).fl ρ λx st1=>onF (yag st1 x) λk=>cond k (exs call ρ st1 a) (exs call ρ st1 b)
 |.for t it b=>(evi call ρ st it).fl ρ λxs st1=>forL t (λρ2 st2=>exs call ρ2 st2 b) xs ρ st1
 |.while c b=>yV (λρ2 st2=>ev call ρ2 st2 c) (λρ2 st2=>exs call ρ2 st2 b) 100000 ρ st
 |.nope=>.bad
noncomputable def exs(call:Nat->List PV->SO->R PV)(ρ:Env)(st:SO):Css->Fl
 |.nil=>.nx ρ st
 |.cons s ss=>match ex call ρ st s with
  |.nx ρ1 st1=>exs call ρ1 st1 ss
  |f=>f
end
structure Fn where
 np:Nat
 ns:Nat
 pure:Bool
 body:Css
def ye(T:Nat->Option Fn):Nat->Nat->List PV->SO->R PV
 |0,_,_,_=>.bad
 |k+1,f,args,st=>match T f with
  |none=>.bad
  |some fn=>if args.length=fn.np then
    if fn.pure then
     if nLs args then match exs (ye T k) (args.map AA++Am (fn.ns-fn.np) AE) [] fn.body with
      |.rt v _=>if nL v then .ok v st else .bad
      |.nx _ _=>.ok .non st
      |.exc c _ _=>.exc c st
      |_=>.bad
     else .bad
    else match exs (ye T k) (args.map AA++Am (fn.ns-fn.np) AE) st fn.body with
     |.rt v st1=>.ok v st1
     |.nx _ st1=>.ok .non st1
     |.exc c _ st1=>.exc c st1
     |_=>.bad
   else .bad
def yj:List (Sum Ce Int)->Ces
 |[]=>.nil
 |.inl c::r=>.cons c (yj r)
 |.inr i::r=>.cons (.cst (.int i)) (yj r)
def yR:Ces->Ces->Ces
 |.nil,b=>b
 |.cons e r,b=>.cons e (yR r b)
end IC
namespace L2
open PySem PySem.Spec PyProof.Rows IC
abbrev Ph:=List (Option AI)
section
variable (K:AF)(cl:Nat->AI)(B:AI->Prop)(φ:Ph)(H:Hp)
def ybi(k:Bool)(a:AI)(xs:List V):Prop:=(H a=AA (.tup xs)/\¬B a/\AA a∉φ) \/
 k=AC/\∃(o:B8) (its:Array AD) (n:Nat),K.lookup a=AA o/\o.cls=.type "tuple"/\o.data=.seq its n/\its.size<=sizeLine/\Vals xs its.toList
def yb0(a:AI)(xs:List V):Prop:=H a=AA (.lst xs)/\¬B a/\AA a∉φ
def yc1(a:AI)(xs:List V):Prop:=(Rd H a (.lst xs)/\¬B a/\AA a∉φ) \/
 ∃(o:B8) (its:Array AD) (n:Nat),K.lookup a=AA o/\o.cls=.type "list"/\o.dict=AE/\o.data=.seq its n/\its.size<=sizeLine/\Vals xs its.toList
mutual
noncomputable def yc:PV->V->Prop
 |.non,x=>x=.non
 |.bl b,x=>x=.bl b
 |.int i,x=>x=.int i
 |.str s,x=>x=.str s
 |.tp k vs,x=>∃a xs,x=.ref a/\ybi K B φ H k a xs/\yd vs xs
 |.lst vs,x=>∃a xs,x=.ref a/\yb0 B φ H a xs/\yd vs xs
 |.loc n,x=>n<φ.length/\∃a,x=.ref a/\∀b,φ[n]?=AA (AA b)->b=a
 |.exn c,x=>∃a,x=.ref a/\H a=AA (.ext (ye2 a (cl c)))/\¬B a/\AA a∉φ
 |.scr vs,x=>∃a xs,x=.ref a/\yc1 K B φ H a xs/\yd vs xs
 |.fnc j,x=>x=.ref (cl (1000+j))
noncomputable def yd:List PV->List V->Prop
 |[],xs=>xs=[]
 |v::vs,xs=>∃y ys,xs=y::ys/\yc v y/\yd vs ys
end
def yaN:Key->PV
 |.inl i=>.int i
 |.inr y=>.str y
mutual
noncomputable def nkP:NK->PV
 |.a k=>yaN k
 |.t l=>.tup (yai l)
noncomputable def yai:List NK->List PV
 |[]=>[]
 |k::l=>nkP k::yai l
end
def DK:List (PV×PV)->List (Key×V)->Prop
 |[],ks=>ks=[]
 |(k,v)::r,ks=>∃q x s,ks=(q,x)::s/\k=yaN q/\yc K cl B φ H v x/\DK r s
def DT:List (PV×PV)->List (List NK×V)->Prop
 |[],ks=>ks=[]
 |(k,v)::r,ks=>∃q x s,ks=(q,x)::s/\k=.tup (yai q)/\yc K cl B φ H v x/\DT r s
def FS:List (AS×PV)->List (AS×V)->Prop
 |[],ks=>ks=[]
 |(k,v)::r,ks=>∃x s,ks=(k,x)::s/\yc K cl B φ H v x/\FS r s
def ybt:Ob->AI->Prop
 |.lst vs,a=>∃xs,H a=AA (.lst xs)/\yd K cl B φ H vs xs
 |.dct AG kvs,a=>∃ks,H a=AA (.dK ks)/\DK K cl B φ H kvs ks
 |.dct AC kvs,a=>∃ks,H a=AA (.dT ks)/\DT K cl B φ H kvs ks
 |.dead,_=>False
 |.ins c fs,a=>∃ks,(∃dx,H a=AA (.ins (cl c) dx ks))/\FS K cl B φ H fs ks
structure yh(st:SO):Prop where
 len:φ.length=st.length
 inj:∀(m n:Nat) (a:AI),φ[m]?=AA (AA a)->φ[n]?=AA (AA a)->m=n
 obj:∀(n:Nat) (a:AI),φ[n]?=AA (AA a)->∃o,st[n]?=AA o/\ybt K cl B φ H o a
 liv:∀(n:Nat) (o:Ob),st[n]?=AA o->o ≠ .dead->∃a,φ[n]?=AA (AA a)
 nb:∀a,AA a∈φ->¬B a
 dom:∀a,B a->∃o,H a=AA o
structure yo(ρ:IC.Env)(σ:St):Prop where
 len:ρ.length=σ.length
 get:∀(i:Nat) (v:PV),ρ[i]?=AA (AA v)->∃x,σ[i]?=AA (AA x)/\yc K cl B φ H v x
end
structure Step(φ:Ph)(H:Hp)(φ':Ph)(H':Hp):Prop where
 keep:∀b o,AA b∉φ->H b=AA o->H' b=AA o
 len:φ.length<=φ'.length
 pre:∀(n:Nat) (a:AI),n<φ.length->φ'[n]?=AA (AA a)->φ[n]?=AA (AA a)
 new:∀b,AA b∈φ'->AA b∈φ \/ H b=AE
theorem Step.rfl{φ:Ph}{H:Hp}:Step φ H φ H:=⟨λ_ _ _ e=>e,AR _,λ_ _ _ e=>e,λ_ h=>.inl h⟩
theorem Step.trans{φ φ1 φ2:Ph}{H H1 H2:Hp}(s:Step φ H φ1 H1)(t:Step φ1 H1 φ2 H2):Step φ H φ2 H2:=by
 refine⟨λb o n e=>?_,BK s.len t.len,λn a hn e=>s.pre n a hn (t.pre n a (AY hn s.len) e),λb hb=>?_⟩
 .refine t.keep b o (λh=>?_) (s.keep b o n e);rcases s.new b h with q|q
  .exact n q
  .rw[e]at q;cases q
 .rcases t.new b hb with q|q
  .exact s.new b q
  .by_cases h:AA b∈φ
   .exact .inl h
   .refine .inr ?_
    cases e:H b with
    |none=>exact Fj _
    |some o=>rw[s.keep b o h e]at q;cases q
section
variable {K:AF}{cl:Nat->AI}{B:AI->Prop}{φ φ':Ph}{H H':Hp}{st:SO}{ρ:IC.Env}{σ:St}
theorem Rd.step(s:Step φ H φ' H'){a:AI}{u:HO}(n:AA a∉φ)(r:Rd H a u):Rd H' a u/\AA a∉φ':=by
 have h:∃o,H a=AA o:=by
  rcases r with r|⟨o,r⟩<;>exact⟨_,r⟩
 refine⟨?_,λz=>?_⟩
 .rcases r with r|⟨o,r⟩
  .exact .inl (s.keep _ _ n r)
  .exact .inr ⟨o,s.keep _ _ n r⟩
 .let⟨o,e⟩:=h;rcases s.new a z with q|q
  .exact n q
  .rw[e]at q;cases q
theorem ybi.step(s:Step φ H φ' H'){k:Bool}{a:AI}{xs:List V}(r:ybi K B φ H k a xs):ybi K B φ' H' k a xs:=by
 rcases r with⟨r,b,n⟩|r
 .let⟨_,n'⟩:=(Rd.of r).step s n;exact .inl ⟨s.keep _ _ n r,b,n'⟩
 .exact .inr r
theorem yb0.step(s:Step φ H φ' H'){a:AI}{xs:List V}(r:yb0 B φ H a xs):yb0 B φ' H' a xs:=by
 let⟨r,b,n⟩:=r;let⟨_,n'⟩:=(Rd.of r).step s n;exact⟨s.keep _ _ n r,b,n'⟩
theorem yc1.step(s:Step φ H φ' H'){a:AI}{xs:List V}(r:yc1 K B φ H a xs):yc1 K B φ' H' a xs:=by
 rcases r with⟨r,b,n⟩|r
 .let⟨r',n'⟩:=r.step s n;exact .inl ⟨r',b,n'⟩
 .exact .inr r
mutual
theorem yc.step(s:Step φ H φ' H'):∀(v:PV) (x:V),yc K cl B φ H v x->yc K cl B φ' H' v x
 |.non,x,h=>by erw[yc]at h ⊢;exact h
 |.bl b,x,h=>by erw[yc]at h ⊢;exact h
 |.int i,x,h=>by erw[yc]at h ⊢;exact h
 |.str y,x,h=>by erw[yc]at h ⊢;exact h
 |.tp k vs,x,h=>by
  erw[yc]at h ⊢;let⟨a,xs,e,r,l⟩:=h;exact⟨a,xs,e,r.step s,yd.step s vs xs l⟩
 |.lst vs,x,h=>by
  erw[yc]at h ⊢;let⟨a,xs,e,r,l⟩:=h;exact⟨a,xs,e,r.step s,yd.step s vs xs l⟩
 |.loc n,x,h=>by
  erw[yc]at h ⊢;let⟨h1,a,e,h2⟩:=h;exact⟨AY h1 s.len,a,e,λb q=>h2 b (s.pre n b h1 q)⟩
 |.fnc j,x,h=>by erw[yc]at h ⊢;exact h
 |.exn c,x,h=>by
  erw[yc]at h ⊢;let⟨a,e,r,b,n⟩:=h;let⟨_,n'⟩:=(Rd.of r).step s n;exact⟨a,e,s.keep _ _ n r,b,n'⟩
 |.scr vs,x,h=>by
  erw[yc]at h ⊢;let⟨a,xs,e,r,l⟩:=h;exact⟨a,xs,e,r.step s,yd.step s vs xs l⟩
theorem yd.step(s:Step φ H φ' H'):∀(v:List PV) (x:List V),yd K cl B φ H v x->yd K cl B φ' H' v x
 |[],x,h=>by erw[yd]at h ⊢;exact h
 |v::vs,x,h=>by
  erw[yd]at h ⊢;let⟨y,ys,e,r,l⟩:=h;exact⟨y,ys,e,yc.step s v y r,yd.step s vs ys l⟩
end
theorem yo.step(s:Step φ H φ' H')(r:yo K cl B φ H ρ σ):yo K cl B φ' H' ρ σ:=⟨r.len,λi v e=>by
 let⟨x,h,q⟩:=r.get i v e;exact⟨x,h,q.step s⟩⟩
mutual
theorem yc.inn(hn:∀a,AA a∈φ->¬B a):∀(v:PV) (x:V),nL v=AC->yc K cl B φ H v x->yc K cl (λa=>B a \/ AA a∈φ) [] H v x
 |.non,x,_,h=>by erw[yc]at h ⊢;exact h
 |.bl b,x,_,h=>by erw[yc]at h ⊢;exact h
 |.int i,x,_,h=>by erw[yc]at h ⊢;exact h
 |.str y,x,_,h=>by erw[yc]at h ⊢;exact h
 |.tp k vs,x,q,h=>by
  erw[yc]at h ⊢;let⟨a,xs,e,r,l⟩:=h;refine⟨a,xs,e,?_,yd.inn hn vs xs (by simpa only[nL] using q) l⟩;rcases r with⟨r,b,n⟩|r
  .exact .inl ⟨r,λz=>z.elim b n,by simp⟩
  .exact .inr r
 |.lst vs,x,q,h=>by
  erw[yc]at h ⊢;let⟨a,xs,e,⟨r,b,n⟩,l⟩:=h;exact⟨a,xs,e,⟨r,λz=>z.elim b n,by simp⟩,yd.inn hn vs xs (by simpa only[nL] using q) l⟩
 |.loc n,x,q,h=>by simp[nL]at q
 |.fnc j,x,q,h=>by erw[yc]at h ⊢;exact h
 |.exn c,x,q,h=>by simp[nL]at q
 |.scr vs,x,q,h=>by
  erw[yc]at h ⊢;let⟨a,xs,e,r,l⟩:=h;refine⟨a,xs,e,?_,yd.inn hn vs xs (by simpa only[nL] using q) l⟩;rcases r with⟨r,b,n⟩|r
  .exact .inl ⟨r,λz=>z.elim b n,by simp⟩
  .exact .inr r
theorem yd.inn(hn:∀a,AA a∈φ->¬B a):∀(v:List PV) (x:List V),nLs v=AC->yd K cl B φ H v x->yd K cl (λa=>B a \/ AA a∈φ) [] H v x
 |[],x,_,h=>by erw[yd]at h ⊢;exact h
 |v::vs,x,q,h=>by
  erw[yd]at h ⊢;erw[nLs,AJ]at q;let⟨y,ys,e,r,l⟩:=h;exact⟨y,ys,e,yc.inn hn v y q.1 r,yd.inn hn vs ys q.2 l⟩
end
mutual
theorem yc.out{ψ:Ph}:∀(v:PV) (x:V),nL v=AC->yc K cl (λa=>B a \/ AA a∈φ) ψ H v x->yc K cl B φ H v x
 |.non,x,_,h=>by erw[yc]at h ⊢;exact h
 |.bl b,x,_,h=>by erw[yc]at h ⊢;exact h
 |.int i,x,_,h=>by erw[yc]at h ⊢;exact h
 |.str y,x,_,h=>by erw[yc]at h ⊢;exact h
 |.tp k vs,x,q,h=>by
  erw[yc]at h ⊢;let⟨a,xs,e,r,l⟩:=h;refine⟨a,xs,e,?_,yd.out vs xs (by simpa only[nL] using q) l⟩;rcases r with⟨r,b,n⟩|r
  .exact .inl ⟨r,λz=>b (.inl z),λz=>b (.inr z)⟩
  .exact .inr r
 |.lst vs,x,q,h=>by
  erw[yc]at h ⊢;let⟨a,xs,e,⟨r,b,n⟩,l⟩:=h;exact⟨a,xs,e,⟨r,λz=>b (.inl z),λz=>b (.inr z)⟩,yd.out vs xs (by simpa only[nL] using q) l⟩
 |.loc n,x,q,h=>by simp[nL]at q
 |.fnc j,x,q,h=>by erw[yc]at h ⊢;exact h
 |.exn c,x,q,h=>by simp[nL]at q
 |.scr vs,x,q,h=>by
  erw[yc]at h ⊢;let⟨a,xs,e,r,l⟩:=h;refine⟨a,xs,e,?_,yd.out vs xs (by simpa only[nL] using q) l⟩;rcases r with⟨r,b,n⟩|r
  .exact .inl ⟨r,λz=>b (.inl z),λz=>b (.inr z)⟩
  .exact .inr r
theorem yd.out{ψ:Ph}:∀(v:List PV) (x:List V),nLs v=AC->yd K cl (λa=>B a \/ AA a∈φ) ψ H v x->yd K cl B φ H v x
 |[],x,_,h=>by erw[yd]at h ⊢;exact h
 |v::vs,x,q,h=>by
  erw[yd]at h ⊢;erw[nLs,AJ]at q;let⟨y,ys,e,r,l⟩:=h;exact⟨y,ys,e,yc.out v y q.1 r,yd.out vs ys q.2 l⟩
end
theorem yd.length:∀{v:List PV} {x:List V},yd K cl B φ H v x->v.length=x.length
 |[],x,h=>by erw[yd]at h;subst h;rfl
 |v::vs,x,h=>by
  erw[yd]at h;let⟨y,ys,rfl,_,l⟩:=h;simp[yd.length l]
theorem DK.step(s:Step φ H φ' H'):∀{kvs:List (PV×PV)} {ks:List (Key×V)},DK K cl B φ H kvs ks->DK K cl B φ' H' kvs ks
 |[],ks,h=>h
 |(k,v)::r,ks,h=>by
  let⟨q,x,t,e,m,rv,l⟩:=h;exact⟨q,x,t,e,m,rv.step s,DK.step s l⟩
theorem DT.step(s:Step φ H φ' H'):∀{kvs:List (PV×PV)} {ks:List (List NK×V)},DT K cl B φ H kvs ks->DT K cl B φ' H' kvs ks
 |[],ks,h=>h
 |(k,v)::r,ks,h=>by
  let⟨q,x,t,e,m,rv,l⟩:=h;exact⟨q,x,t,e,m,rv.step s,DT.step s l⟩
theorem FS.step(s:Step φ H φ' H'):∀{kvs:List (AS×PV)} {ks:List (AS×V)},FS K cl B φ H kvs ks->FS K cl B φ' H' kvs ks
 |[],ks,h=>h
 |(k,v)::r,ks,h=>by
  let⟨x,t,e,rv,l⟩:=h;exact⟨x,t,e,rv.step s,FS.step s l⟩
theorem ybt.step(s:Step φ H φ' H'){o:Ob}{a:AI}(e:H' a=H a)(r:ybt K cl B φ H o a):ybt K cl B φ' H' o a:=by
 cases o with
 |lst vs=>
  let⟨xs,q,l⟩:=r;exact⟨xs,e.trans q,l.step s⟩
 |dct t kvs=>
  cases t with
  |false=>let⟨ks,q,l⟩:=r;exact⟨ks,e.trans q,l.step s⟩
  |true=>let⟨ks,q,l⟩:=r;exact⟨ks,e.trans q,l.step s⟩
 |dead=>exact r
 |ins c fs=>let⟨ks,⟨dx,q⟩,l⟩:=r;exact⟨ks,⟨dx,e.trans q⟩,l.step s⟩
theorem ybt.there{o:Ob}{a:AI}(r:ybt K cl B φ H o a):∃u,H a=AA u:=by
 cases o with
 |lst vs=>let⟨xs,q,l⟩:=r;exact⟨_,q⟩
 |dct t kvs=>cases t<;>(let⟨ks,q,l⟩:=r;exact⟨_,q⟩)
 |dead=>exact r.elim
 |ins c fs=>let⟨ks,⟨dx,q⟩,l⟩:=r;exact⟨_,q⟩
theorem yh.there(S:yh K cl B φ H st){a:AI}(h:AA a∈φ):∃u,H a=AA u:=by
 let⟨n,e⟩:=List.mem_iff_getElem?.mp h;let⟨o,_,r⟩:=S.obj n a e;exact r.there
theorem Step.upd{p:AI}{o:HO}(hp:H p=AE):Step φ H φ (upd H p o):=
 ⟨λb u n e=>by rw[za (zb e hp)];exact e,AR _,λ_ _ _ e=>e,λ_ h=>.inl h⟩
theorem yh.same(S:yh K cl B φ H st)(k:∀b o,H b=AA o->H' b=AA o):yh K cl B φ H' st:=by
 have s:Step φ H φ H':=⟨λb o _ e=>k b o e,AR _,λ_ _ _ e=>e,λ_ h=>.inl h⟩;refine⟨S.len,S.inj,λn a e=>?_,S.liv,S.nb,λa h=>?_⟩
 .let⟨o,q,r⟩:=S.obj n a e;let⟨u,z⟩:=r.there;exact⟨o,q,r.step s ((k a u z).trans z.symm)⟩
 .let⟨o,q⟩:=S.dom a h;exact⟨o,k a o q⟩
theorem yh.upd{p:AI}{o:HO}(S:yh K cl B φ H st)(hp:H p=AE):yh K cl B φ (upd H p o) st:=S.same λb u e=>by rw[za (zb e hp)];exact e
mutual
theorem yc.moreB{B':AI->Prop}(hn:∀y,B' y->B y \/ H y=AE):∀(v:PV) (x:V),yc K cl B φ H v x->yc K cl B' φ H v x
 |.non,x,h=>by erw[yc]at h ⊢;exact h
 |.bl b,x,h=>by erw[yc]at h ⊢;exact h
 |.int i,x,h=>by erw[yc]at h ⊢;exact h
 |.str y,x,h=>by erw[yc]at h ⊢;exact h
 |.tp k vs,x,h=>by
  erw[yc]at h ⊢;let⟨y,xs,e,r,l⟩:=h;refine⟨y,xs,e,?_,yd.moreB hn vs xs l⟩;rcases r with⟨r,b,n⟩|r
  .exact .inl ⟨r,λz=>(hn y z).elim b λq=>(by rw[q]at r;cases r),n⟩
  .exact .inr r
 |.lst vs,x,h=>by
  erw[yc]at h ⊢;let⟨y,xs,e,⟨r,b,n⟩,l⟩:=h;exact⟨y,xs,e,⟨r,λz=>(hn y z).elim b λq=>(by rw[q]at r;cases r),n⟩,yd.moreB hn vs xs l⟩
 |.loc n,x,h=>by erw[yc]at h ⊢;exact h
 |.fnc j,x,h=>by erw[yc]at h ⊢;exact h
 |.exn c,x,h=>by
  erw[yc]at h ⊢;let⟨y,e,r,b,n⟩:=h;exact⟨y,e,r,λz=>(hn y z).elim b λq=>(by rw[q]at r;cases r),n⟩
 |.scr vs,x,h=>by
  erw[yc]at h ⊢;let⟨y,xs,e,r,l⟩:=h;refine⟨y,xs,e,?_,yd.moreB hn vs xs l⟩;rcases r with⟨r,b,n⟩|r
  .refine .inl ⟨r,λz=>(hn y z).elim b λq=>?_,n⟩;rcases r with r|⟨o,r⟩<;>(rw[q]at r;cases r)
  .exact .inr r
theorem yd.moreB{B':AI->Prop}(hn:∀y,B' y->B y \/ H y=AE):∀(v:List PV) (x:List V),yd K cl B φ H v x->yd K cl B' φ H v x
 |[],x,h=>by erw[yd]at h ⊢;exact h
 |v::vs,x,h=>by
  erw[yd]at h ⊢;let⟨y,ys,e,r,l⟩:=h;exact⟨y,ys,e,yc.moreB hn v y r,yd.moreB hn vs ys l⟩
end
end
end L2
namespace L2
open PySem PySem.Spec PyProof.Rows
def CXH(X:Cx)(H:Hp)(s:AH)(E:XK)(e:AD)(s':AH):Prop:=
 ∃(C a:AI) (cls a0 fl:AD) (H':Hp) (B:Ak),X.s₀.heap.objs.size<=C/\e=.ref a/\s'.os=s.os/\Cy s'.gens /\
  (B.StaysIn s'.heap/\B.get? a=AE/\s'.heap.FunFrames B X.stack/\s'.heap.TracedAtW B a cls a0 fl)/\HOk X.prog X.w H' s'.heap/\Un (frs X.stack) [C] H H' s.heap s'.heap /\
  (∀b o,s.heap.get? b=AA o->H b=AE->b∉frs X.stack->b≠C->B.get? b=AA o)/\(∀b u,H' b=AA u->∃o,B.get? b=AA o)/\(∀b o,s.heap.get? b=AA o->b∉frs X.stack->b≠C->∃o',B.get? b=AA o')/\E cls AE H'
theorem CXH.mono{X:Cx}{H:Hp}{s:AH}{E E':XK}{e:AD}{s':AH}(h:CXH X H s E e s')(n:∀cls H',E cls AE H'->E' cls AE H'):CXH X H s E' e s':=by
 let⟨C,a,cls,a0,fl,H',B,r1,r2,r3,r4,r5,r6,r7,r8,r9,r10,r11⟩:=h;exact⟨C,a,cls,a0,fl,H',B,r1,r2,r3,r4,r5,r6,r7,r8,r9,r10,n _ _ r11⟩
section
variable {M:Model}{A:A7}{E:AD->AH->Prop}{s:AH}
def zb2{base:Ak}{env:Env}{outer:List Env}{L e:AI}{cls a0 fl:AD}{Q:Unit->AH->Prop}
  (hfr:A.frames=AA (env::outer)) (hf:env.frame=AA L) (f1:base.StaysIn s.heap) (f2:base.get? e=AE) (f3:s.heap.FunFrames base (env::outer)) (f4:s.heap.TracedAtW base e cls a0 fl)
  (hQ:∀h',G6 base outer e cls a0 h'->s.heap.UpToSlots h'->Q () {s with heap:=h'}):AQ M A («leaving» env (.ref e)) Q E s:=by
 by_cases hfl:fl=rawInt L
 .subst hfl;unfold «leaving»;refine AB (wpAny_noteFrame_againW hf f4 ?_);refine wpAny_landsW ⟨f1,f2,f3,f4⟩ λh' hfl up=>?_;let⟨k1,k2,⟨_,_,k3⟩,k4⟩:=hfl;exact hQ h' ⟨k1,k2,k3,k4⟩ up
 .let⟨oe,vs,T,oT,ts,he,⟨hcls,h0⟩,hd,h1,hnT,hTe,hT,hdT,h3⟩:=f4;subst hcls;unfold «leaving» noteFrame;erw[hf];refine AB (AB (CD he hd h1 ?_));rw[if_pos (show (Ac T != BN)=AC from by simp)];refine AB (CD hT hdT h3 ?_);rw[if_neg (show ¬((fl==rawInt L)=AC)from λz=>hfl (eq_of_beq z))];refine AB (Cg hT hdT (D0.mp h3).1 ?_);have other:∀b,b≠T->(s.heap.update T (El (·.setIfInBounds 3 BN))).get? b=s.heap.get? b:=λb hb=>Cd _ _ (BY hb);have noRecord:∀b o,s.heap.get? b=AA o->(∀vs,o.data ≠ .fields vs)->b≠T:=λb o hb hnf q=>by
   rw[q,hT]at hb;injection hb with hb;subst hb;exact hnf ts hdT
  refine wpAny_newEntryW hfr (f3.of_keeps λb o hb hnf=>⟨o,(other b (noRecord b o hb hnf)).trans hb,rfl⟩) hf ((other e (BY hTe)).trans he)
   (λb o hbo=>(other b λq=>by rw[q,hnT]at hbo;cases hbo).trans (f1 b o hbo)) f2 hd (D0.mp h1).1 h0
   λh' ⟨x1,⟨_,_,x2⟩,x3,x4⟩=>hQ h' ⟨x1,f2,x2,x3⟩ λb o hb hnf=>x4 b o ((other b (noRecord b o hb hnf)).trans hb) hnf
end
section
variable {P:AV}{w:A5}{K:AF}{mg:AS->Option AD}{base:Ak}{N:List AS}{qual:AS}{scope:BH}{f:AI}{cd:AD}{A:A7}{outer:List Env}{s₀:AH}{H₀:Hp}{E:XK}
def zju{π:List (AI×B8)}{σ:St}{H:Hp}{s:AH}{e:AD}{s':AH}(I:Inv (yaj (CX1 P w) P w K mg base N qual scope f cd A outer s₀ H₀ E) π σ H s)(h:CXH (yaj (CX1 P w) P w K mg base N qual scope f cd A outer s₀ H₀ E) H s E e s'):
  (yaj (CX1 P w) P w K mg base N qual scope f cd A outer s₀ H₀ E).xe e s':=by
 let⟨C,a,cls,a0,fl,H',B,hC,rfl,os,bare,⟨f1,f2,f3,f4⟩,hok,un,hB,tr,hT,hE⟩:=h;have bse:Un (frs outer) [] H₀ H s₀.heap s.heap:=I.base;have lt:∀b o,s₀.heap.get? b=AA o->b≠s₀.heap.objs.size:=λb o q=>A3 (AN q);have neC:∀b o,s₀.heap.get? b=AA o->b≠C:=λb o q=>A3 (AY (AN q) hC);have niC:∀b o,s₀.heap.get? b=AA o->b∉[C]:=λb o q z=>neC b o q (by simpa using z);have hst:∀b,b∈frs (envOfC qual scope s₀.heap.objs.size f cd::outer)->b=s₀.heap.objs.size \/ b∈frs outer:=λb hb=>by
  have hb':b∈s₀.heap.objs.size::frs outer:=hb;exact A8.mp hb'
 have un':Un (frs (envOfC qual scope s₀.heap.objs.size f cd::outer)) [C] H H' s.heap s'.heap:=un;have kB:∀b o,s₀.heap.get? b=AA o->H₀ b=AE->b∉frs outer->B.get? b=AA o:=λb o q n hb=>hB b o (bse.keep b o q n hb (by simp)) (bse.free b o q n (by simp)) (λz=>by
  rcases hst b z with z|z
  .exact lt b o q z
  .exact hb z) (neC b o q)
 have kT:∀b o,s₀.heap.get? b=AA o->b∉frs outer->∃o',B.get? b=AA o':=λb o q hb=>by
  let⟨o',q1⟩:=bse.there b o q (by simp);refine hT b o' q1 (λz=>?_) (neC b o q);rcases hst b z with z|z
  .exact lt b o q z
  .exact hb z
 refine zb2 I.ok.frames rfl f1 f2 f3 f4 λh'' fl' up=>?_;refine⟨a,cls,a0,H',B,rfl,os.trans I.os,bare,fl',HOk.inB hok f1 fl'.1 tr,⟨λb o q n hb _=>fl'.1 b o (kB b o q n hb),λb o q n hb _=>?_,λb o q n _=>?_,λb o q _=>?_,λb xs q=>un'.tups b xs (bse.tups b xs q),λb o u q=>un'.frzs b o u (bse.frzs b o u q),λb ps q=>?_⟩,kB,tr,kT,hE⟩
 .let⟨sl,q1⟩:=bse.slot b o q n hb (by simp);have n1:=bse.free b o q n (by simp);let⟨sl1,q2⟩:=un'.slot b _ q1 n1 (AU _ hb) (niC b o q);let⟨_,o',ho',hd⟩:=Bm f3 (show b∈Ch (λ(z:Env)=>z.frame) _ from AU _ hb);let⟨sl',q3⟩:=up b _ q2 (by rw[ho']at q2;cases q2;exact hd);exact⟨sl',q3⟩
 .let⟨o',q1⟩:=bse.there b o q (by simp);exact un'.free b o' q1 (bse.free b o q n (by simp)) (niC b o q)
 .let⟨o',q1⟩:=bse.there b o q (by simp);let⟨o2,q2⟩:=un'.there b o' q1 (niC b o q)
  by_cases hb:b∈frs outer
  .let⟨_,o3,ho3,hd⟩:=Bm f3 (show b∈Ch (λ(z:Env)=>z.frame) _ from AU _ hb);let⟨sl',q3⟩:=up b _ ho3 hd;exact⟨_,q3⟩
  .let⟨o4,q4⟩:=kT b o q hb;exact⟨o4,fl'.1 b o4 q4⟩
 .let⟨m1,e1⟩:=bse.tbls b ps q;let⟨m2,e2⟩:=un'.tbls b _ e1;exact⟨m1++m2,by rw[e2,DR]⟩
end
section
variable {pg:AV}{wd:A5}{A:A7}{R:FZ->AH->Prop}{s:AH}
end
section
variable {X:Cx}{sc:BH}{NC:List AS}{slots:List (Option Nat)}{elt tg iter:AM}{ifs:List AM}{pos:Bf}{g:TG}{ti:TT}{te:CI->TE}{E:XK}
end
end L2
namespace L2
open PySem PySem.Spec PyProof.Rows IC
structure Se where
 cl:Nat->AI
 call:Nat->List PV->SO->R PV
 may:Bool
section
variable (S:Se)(X:Cx)
def ExcAt(σ:St)(B:AI->Prop)(φ:Ph)(H:Hp)(k:Nat)(st':SO)(e:AD)(s':AH):Prop:=
 (∃π H1 s φ1,Inv X π σ H1 s/\Step φ H φ1 H1/\CX1 X.prog X.w X.stack H1 s (λcls _ H'=>cls=.ref (S.cl k)/\∃φ',Step φ1 H1 φ' H'/\yh X.K S.cl B φ' H' st') e s') \/
 (S.may=AC/\∃π H1 s φ1 h' e0 vs,Inv X π σ H1 s/\Step φ H φ1 H1/\yh X.K S.cl B φ1 H1 st'/\Fw s.heap h' e0 (.ref (S.cl k)) vs/\e=.ref e0/\s'={s with heap:=h'}) \/
 (S.may=AC/\∃π H1 s,Inv X π σ H1 s/\CXH X H1 s (λcls _ H'=>cls=.ref (S.cl k)/\∃φ',Step φ H φ' H'/\yh X.K S.cl B φ' H' st') e s')
def Run{α β:Type}(σ:St)(B:AI->Prop)(φ:Ph)(H:Hp)(Rel:Ph->Hp->α->β->Prop)(r:R α)(Q:β->Hp->Prop):Prop:=
 match r with
 |.ok v st'=>∀x H' φ',Step φ H φ' H'->yh X.K S.cl B φ' H' st'->Rel φ' H' v x->Q x H'
 |.exc k st'=>∀e s',ExcAt S X σ B φ H k st' e s'->X.xe e s'
 |.bad=>False
abbrev RV(B:AI->Prop):Ph->Hp->PV->V->Prop:=λφ H=>yc X.K S.cl B φ H
abbrev RL(B:AI->Prop):Ph->Hp->List PV->List V->Prop:=λφ H=>yd X.K S.cl B φ H
abbrev RB:Ph->Hp->Bool->Bool->Prop:=λ_ _ b c=>b=c
def tE(c:Ce):TE:=λσ H Q=>∃B φ st ρ,yh X.K S.cl B φ H st/\yo X.K S.cl B φ H ρ σ/\Run S X σ B φ H (RV S X B) (ev S.call ρ st c) Q
def tAs(c:Ces):TA:=λσ H Q=>∃B φ st ρ,yh X.K S.cl B φ H st/\yo X.K S.cl B φ H ρ σ/\Run S X σ B φ H (RL S X B) (evs S.call ρ st c) Q
def yau(r:R PV):R Bool:=r.bind λx st=>onO (yag st x) λb=>.ok b st
def tTs(c:Ce):TT:=λσ H Q=>∃B φ st ρ,yh X.K S.cl B φ H st/\yo X.K S.cl B φ H ρ σ/\Run S X σ B φ H RB (yau (ev S.call ρ st c)) Q
end
section
variable {S:Se}{X:Cx}{σ:St}{B:AI->Prop}{φ φ1:Ph}{H H1:Hp}
theorem ExcAt.back{k:Nat}{st':SO}{e:AD}{s':AH}(s:Step φ H φ1 H1)(h:ExcAt S X σ B φ1 H1 k st' e s'):ExcAt S X σ B φ H k st' e s':=by
 rcases h with⟨π,H2,t,φ2,I,q,c⟩|⟨m,π,H2,t,φ2,h',e0,vs,I,q,c⟩|⟨m,π,H2,t,I,c⟩
 .exact .inl ⟨π,H2,t,φ2,I,s.trans q,c⟩
 .exact .inr (.inl ⟨m,π,H2,t,φ2,h',e0,vs,I,s.trans q,c⟩)
 .exact .inr (.inr ⟨m,π,H2,t,I,c.mono λcls H' ⟨e1,φ',s2,r⟩=>⟨e1,φ',s.trans s2,r⟩⟩)
variable {α β γ δ:Type}{Rel:Ph->Hp->α->β->Prop}{G8:Ph->Hp->γ->δ->Prop}
theorem Run.on{r:R α}{Q:β->Hp->Prop}(s:Step φ H φ1 H1)(h:Run S X σ B φ H Rel r Q):Run S X σ B φ1 H1 Rel r Q:=by
 cases r with
 |ok v st'=>exact λx H' φ' t=>h x H' φ' (s.trans t)
 |exc k st'=>exact λe s' x=>h e s' (x.back s)
 |bad=>exact h
theorem Run.mono{r:R α}{Q Q':β->Hp->Prop}(h:Run S X σ B φ H Rel r Q)(k:∀x H',Q x H'->Q' x H'):Run S X σ B φ H Rel r Q':=by
 cases r with
 |ok v st'=>exact λx H' φ' t rs rv=>k x H' (h x H' φ' t rs rv)
 |exc c st'=>exact h
 |bad=>exact h
theorem Run.bind{r:R α}{k:α->SO->R γ}{Q:δ->Hp->Prop}(h:Run S X σ B φ H G8 (r.bind k) Q):
  Run S X σ B φ H Rel r λx H1=>∃v st1 φ1,Step φ H φ1 H1/\yh X.K S.cl B φ1 H1 st1/\Rel φ1 H1 v x/\Run S X σ B φ1 H1 G8 (k v st1) Q:=by
 cases r with
 |ok v st'=>exact λx H' φ' t rs rv=>⟨v,st',φ',t,rs,rv,Run.on t h⟩
 |exc c st'=>exact h
 |bad=>exact h
theorem Run.ok{v:α}{st:SO}{Q:β->Hp->Prop}(h:Run S X σ B φ H Rel (.ok v st) Q)(rs:yh X.K S.cl B φ H st){x:β}(rv:Rel φ H v x):Q x H:=h x H φ .rfl rs rv
theorem PE.imp{e:AM}{t t':TE}(h:PE X e t')(k:∀σ H Q,t σ H Q->t' σ H Q):PE X e t:=λπ s σ H Q I q=>h π s σ H Q I (k σ H Q q)
theorem PT.imp{e:AM}{t t':TT}(h:PT X e t')(k:∀σ H Q,t σ H Q->t' σ H Q):PT X e t:=λπ s σ H Q I q=>h π s σ H Q I (k σ H Q q)
theorem PW.imp{e:AM}{t t':TT}(h:PW X e t')(k:∀σ H Q,t σ H Q->t' σ H Q):PW X e t:=λwh π s σ H Q I q=>h wh π s σ H Q I (k σ H Q q)
theorem PA.imp{e:List AM}{t t':TA}(h:PA X e t')(k:∀σ H Q,t σ H Q->t' σ H Q):PA X e t:=λpos π s σ H Q I q=>h pos π s σ H Q I (k σ H Q q)
theorem tE.bind{c:Ce}{ρ:IC.Env}{st:SO}{k:PV->SO->R γ}{Q:δ->Hp->Prop}{P:V->Hp->Prop}(rs:yh X.K S.cl B φ H st)(re:yo X.K S.cl B φ H ρ σ)(h:Run S X σ B φ H G8 ((ev S.call ρ st c).bind k) Q)
  (n:∀x H1 v st1 φ1,Step φ H φ1 H1->yh X.K S.cl B φ1 H1 st1->yo X.K S.cl B φ1 H1 ρ σ->yc X.K S.cl B φ1 H1 v x->Run S X σ B φ1 H1 G8 (k v st1) Q->P x H1):tE S X c σ H P:=
 ⟨B,φ,st,ρ,rs,re,(Run.bind h).mono λx H1 ⟨v,st1,φ1,s,rs1,rv,h1⟩=>n x H1 v st1 φ1 s rs1 (re.step s) rv h1⟩
theorem tAs.bind{c:Ces}{ρ:IC.Env}{st:SO}{k:List PV->SO->R γ}{Q:δ->Hp->Prop}{P:List V->Hp->Prop}(rs:yh X.K S.cl B φ H st)(re:yo X.K S.cl B φ H ρ σ)(h:Run S X σ B φ H G8 ((evs S.call ρ st c).bind k) Q)
  (n:∀x H1 v st1 φ1,Step φ H φ1 H1->yh X.K S.cl B φ1 H1 st1->yo X.K S.cl B φ1 H1 ρ σ->yd X.K S.cl B φ1 H1 v x->Run S X σ B φ1 H1 G8 (k v st1) Q->P x H1):tAs S X c σ H P:=
 ⟨B,φ,st,ρ,rs,re,(Run.bind h).mono λx H1 ⟨v,st1,φ1,s,rs1,rv,h1⟩=>n x H1 v st1 φ1 s rs1 (re.step s) rv h1⟩
variable {i:Int}{b:Bool}{x:AS}{j:Nat}{pos:Bf}{e a a':AM}{c ca cb cc:Ce}
def zg3:PE X (.Constant (.int i) j pos) (tE S X (.cst (.int i))):=zi5.imp λσ H Q ⟨B,φ,st,ρ,rs,re,h⟩=>by
 erw[ev]at h;exact h.ok rs (by erw[yc])
def ziY:PE X (.Constant (.bool b) j pos) (tE S X (.cst (.bl b))):=zjj.imp λσ H Q ⟨B,φ,st,ρ,rs,re,h⟩=>by
 erw[ev]at h;exact h.ok rs (by erw[yc])
def zgL:PE X (.Constant .none j pos) (tE S X (.cst .non)):=zjk.imp λσ H Q ⟨B,φ,st,ρ,rs,re,h⟩=>by
 erw[ev]at h;exact h.ok rs (by erw[yc])
def zho:PE X (.Constant (.str x) j pos) (tE S X (.cst (.str x))):=zi9.imp λσ H Q ⟨B,φ,st,ρ,rs,re,h⟩=>by
 erw[ev]at h;exact h.ok rs (by erw[yc])
def zhb{i:Nat}(hN:X.N[i]?=AA x)(hv:Vis X.env.scope x)(hd:(x==("__debug__":AS))=false:=by decide)(hcd:(x==("__classdict__":AS))=false:=by decide):PE X (.Name x pos) (tE S X (.var i)):=
 (zb8 hN hv hd hcd).imp λσ H Q ⟨B,φ,st,ρ,rs,re,h⟩=>by
  erw[ev]at h
  cases q:ρ[i]? with
  |none=>rw[q]at h;exact h.elim
  |some o=>
   cases o with
   |none=>rw[q]at h;exact h.elim
   |some v=>
    rw[q]at h;let⟨y,hy,rv⟩:=re.get i v q;exact⟨y,hy,h.ok rs rv⟩
def zc1{v:PV}{y:AI}(hg:Gl X x)(hm:X.mg x=AA (.ref y))(hk:∀B φ H,yc X.K S.cl B φ H v (.ref y))(hd:(x==("__debug__":AS))=false:=by decide):PE X (.Name x pos) (tE S X (.cst v)):=
 (zdp hg hm (show RelV (.ref y) (.ref y)from rfl) hd).imp λσ H Q ⟨B,φ,st,ρ,rs,re,h⟩=>by
  erw[ev]at h;exact h.ok rs (hk B φ H)
def zr{o:Option PV}{st:SO}{Q:VK}(h:Run S X σ B φ H (RV S X B) (toR o st) Q)(rs:yh X.K S.cl B φ H st):∃z,o=AA z/\∀z' H' φ',Step φ H φ' H'->yh X.K S.cl B φ' H' st->yc X.K S.cl B φ' H' z z'->Q z' H':=by
 cases o with
 |none=>exact h.elim
 |some z=>exact⟨z,rfl,h⟩
def rT2(S:Se)(X:Cx)(f:PV->PV->Option PV):R2:=λx y H Q=>∃B φ st v w z,yh X.K S.cl B φ H st/\yc X.K S.cl B φ H v x/\yc X.K S.cl B φ H w y/\f v w=AA z /\
 ∀z' H' φ',Step φ H φ' H'->yh X.K S.cl B φ' H' st->yc X.K S.cl B φ' H' z z'->Q z' H'
def zif{op:Dn}{o:BOp}(ho:OpR X (binaryOp op) (rT2 S X (yC o)))(ha:PE X a (tE S X ca))(hb:PE X a' (tE S X cb)):PE X (.BinOp a op a' pos) (tE S X (.bin o ca cb)):=
 (ziH ho ha hb).imp λσ H Q ⟨B,φ,st,ρ,rs,re,h⟩=>by
  erw[ev]at h;refine tE.bind rs re h λx H1 v st1 φ1 s1 rs1 re1 rv h1=>tE.bind rs1 re1 h1 λy H2 w st2 φ2 s2 rs2 re2 rw h2=>?_;let⟨z,e,q⟩:=zr h2 rs2;exact⟨B,φ2,st2,v,w,z,rs2,rv.step s2,rw,e,q⟩
def zig{op:Ei}{o:COp}(ho:OpR X (compareOp op) (rT2 S X (yr o)))(ha:PE X a (tE S X ca))(hb:PE X a' (tE S X cb))(hm:behindInMarks op a'=AG):PE X (.Compare a [op] [a'] pos) (tE S X (.cmp o ca cb)):=
 (zf9 ho ha hb hm).imp λσ H Q ⟨B,φ,st,ρ,rs,re,h⟩=>by
  erw[ev]at h;refine tE.bind rs re h λx H1 v st1 φ1 s1 rs1 re1 rv h1=>tE.bind rs1 re1 h1 λy H2 w st2 φ2 s2 rs2 re2 rw h2=>?_;let⟨z,e,q⟩:=zr h2 rs2;exact⟨B,φ2,st2,v,w,z,rs2,rv.step s2,rw,e,q⟩
end
section
variable {S:Se}{X:Cx}{σ:St}{B:AI->Prop}{φ φ1:Ph}{H H1:Hp}{K:AF}{cl:Nat->AI}{st:SO}
theorem ybi.sq{k:Bool}{a:AI}{xs:List V}(r:ybi K B φ H k a xs):SqT K H a xs:=by
 rcases r with⟨r,_⟩|r
 .exact .inl (.inl r)
 .exact .inr r.2
theorem yb0.sq{a:AI}{xs:List V}(r:yb0 B φ H a xs):SqL K H a xs:=.inl (.inl r.1)
theorem yc.tup_new{vs:List PV}{xs:List V}{p:AI}(hp:H p=AE)(rs:yh K cl B φ H st)(r:yd K cl B φ H vs xs):yc K cl B φ (upd H p (.tup xs)) (.tup vs) (.ref p):=by
 erw[yc];refine⟨p,xs,rfl,.inl ⟨zc,λz=>?_,λz=>?_⟩,r.step (.upd hp)⟩
 .let⟨o,e⟩:=rs.dom p z;rw[hp]at e;cases e
 .let⟨o,e⟩:=rs.there z;rw[hp]at e;cases e
theorem yc.lst_new{vs:List PV}{xs:List V}{p:AI}(hp:H p=AE)(rs:yh K cl B φ H st)(r:yd K cl B φ H vs xs):yc K cl B φ (upd H p (.lst xs)) (.lst vs) (.ref p):=by
 erw[yc];refine⟨p,xs,rfl,⟨zc,λz=>?_,λz=>?_⟩,r.step (.upd hp)⟩
 .let⟨o,e⟩:=rs.dom p z;rw[hp]at e;cases e
 .let⟨o,e⟩:=rs.there z;rw[hp]at e;cases e
theorem yd.append:∀{vs ws:List PV} {xs ys:List V},yd K cl B φ H vs xs->yd K cl B φ H ws ys->yd K cl B φ H (vs++ws) (xs++ys)
 |[],ws,xs,ys,h,q=>by erw[yd]at h;subst h;exact q
 |v::vs,ws,xs,ys,h,q=>by
  erw[yd]at h;let⟨y,zs,rfl,r,l⟩:=h;show yd K cl B φ H (v::(vs++ws)) (y::(zs++ys));erw[yd];exact⟨y,zs++ys,rfl,r,yd.append l q⟩
theorem yd.get:∀{vs:List PV} {xs:List V} (j:Nat) {v:PV},yd K cl B φ H vs xs->vs[j]?=AA v->∃x,xs[j]?=AA x/\yc K cl B φ H v x
 |[],xs,j,v,h,e=>by simp at e
 |w::vs,xs,0,v,h,e=>by
  erw[yd]at h;let⟨y,zs,rfl,r,l⟩:=h;simp at e;subst e;exact⟨y,rfl,r⟩
 |w::vs,xs,j+1,v,h,e=>by
  erw[yd]at h;let⟨y,zs,rfl,r,l⟩:=h;let⟨x,q1,q2⟩:=yd.get j l (by simpa using e);exact⟨x,by simpa using q1,q2⟩
theorem yd.drop:∀{vs:List PV} {xs:List V} (n:Nat),yd K cl B φ H vs xs->yd K cl B φ H (vs.drop n) (xs.drop n)
 |vs,xs,0,h=>by simpa using h
 |[],xs,n+1,h=>by erw[yd]at h;subst h;simp[yd]
 |v::vs,xs,n+1,h=>by
  erw[yd]at h;let⟨y,ys,rfl,_,l⟩:=h;simpa using yd.drop n l
theorem yd.take:∀{vs:List PV} {xs:List V} (n:Nat),yd K cl B φ H vs xs->yd K cl B φ H (vs.take n) (xs.take n)
 |vs,xs,0,h=>by simp[yd]
 |[],xs,n+1,h=>by erw[yd]at h;subst h;simp[yd]
 |v::vs,xs,n+1,h=>by
  erw[yd]at h;let⟨y,ys,rfl,r,l⟩:=h;erw[List.take_succ_cons,yd];exact⟨y,ys.take n,rfl,r,yd.take n l⟩
def za5{f:AD->AD->Gp AD}{o:BOp}{C:Int->Int->Prop}{g:Int->Int->Int}(h:OpR X f (rI C λi j=>.int (g i j)))
  (hb:∀v w z,yC o v w=AA z->∃i j,v=.int i/\w=.int j/\C i j/\z=.int (g i j)):OpR X f (rT2 S X (yC o)):=by
 rintro π s σ H x y v u Q I rx ry ⟨B,φ,st,a,b,z,rs,ra,rb,e,q⟩
 let⟨i,j,rfl,rfl,hc,rfl⟩:=hb a b z e;erw[yc]at ra rb;subst ra rb;exact h π s σ H _ _ v u Q I rx ry ⟨i,j,rfl,rfl,hc,q _ H φ .rfl rs (by erw[yc])⟩
def zeq{f:AD->AD->Gp AD}{o:BOp}{g:Int->Int->Int}(h:OpR X f (rI0 λi j=>.int (g i j)))
  (hb:∀v w z,yC o v w=AA z->∃i j,v=.int i/\w=.int j/\z=.int (g i j)):OpR X f (rT2 S X (yC o)):=by
 rintro π s σ H x y v u Q I rx ry ⟨B,φ,st,a,b,z,rs,ra,rb,e,q⟩
 let⟨i,j,rfl,rfl,rfl⟩:=hb a b z e;erw[yc]at ra rb;subst ra rb;exact h π s σ H _ _ v u Q I rx ry ⟨i,j,rfl,rfl,q _ H φ .rfl rs (by erw[yc])⟩
def zf2(v w z:PV)(h:yC .sub v w=AA z):∃i j,v=.int i/\w=.int j/\z=.int (i-j):=by
 unfold yC at h;split at h<;>first|(cases h;done)|skip
 exact⟨_,_,rfl,rfl,(A0 h).symm⟩
def zfr(v w z:PV)(h:yC .mul v w=AA z):∃i j,v=.int i/\w=.int j/\ycz i j/\z=.int (i*j):=by
 unfold yC at h;split at h<;>first|(cases h;done)|skip
 rename_i i j;erw[IC.binI]at h;split at h
 .rename_i c;refine⟨i,j,rfl,rfl,?_,(A0 h).symm⟩;erw[yak,DF,decide_eq_true_eq]at c;unfold ycz;rcases c with c|c
  .left;constructor<;>lia
  .right;constructor<;>lia
 .cases h
def zek(v w z:PV)(h:yC .fdiv v w=AA z):∃i j,v=.int i/\w=.int j/\ycI i j/\z=.int (i/j):=by
 unfold yC at h;split at h<;>first|(cases h;done)|skip
 rename_i i j;erw[IC.binI]at h;split at h
 .rename_i c;exact⟨i,j,rfl,rfl,c,(A0 h).symm⟩
 .cases h
def zgc(v w z:PV)(h:yC .mod v w=AA z):∃i j,v=.int i/\w=.int j/\0<j/\z=.int (i%j):=by
 unfold yC at h;split at h<;>first|(cases h;done)|skip
 rename_i i j;erw[IC.binI]at h;split at h
 .rename_i c;exact⟨i,j,rfl,rfl,c,(A0 h).symm⟩
 .cases h
def zfS(v w z:PV)(h:yC .pow v w=AA z):∃i j,v=.int i/\w=.int j/\yem i j/\z=.int (i^j.toNat):=by
 unfold yC at h;split at h<;>first|(cases h;done)|skip
 rename_i i j;erw[IC.binI]at h;split at h
 .rename_i c;exact⟨i,j,rfl,rfl,⟨c.1,c.2.1,by have:=c.2.2;lia⟩,(A0 h).symm⟩
 .cases h
def zg0:OpR X (binaryOp .Sub) (rT2 S X (yC .sub)):=zeq zhz zf2
def zh1:OpR X (binaryOp .Mult) (rT2 S X (yC .mul)):=za5 zh9 zfr
def zgp:OpR X (binaryOp .FloorDiv) (rT2 S X (yC .fdiv)):=za5 zeR zek
def zgV:OpR X (binaryOp .Mod) (rT2 S X (yC .mod)):=za5 zhS zgc
def zie:OpR X (binaryOp .Pow) (rT2 S X (yC .pow)):=za5 zhm zfS
def ze:sizeMax=sizeLine:=by rw[Ax];rfl
def zfn:OpR X (binaryOp .Add) (λx y H Q=>∃a b ys,x=.ref a/\y=.ref b/\SqT X.K H a []/\SqT X.K H b ys/\Q (.ref b) H):=by
 intro π s σ H x y v u Q I rx ry h;let⟨a,b,ys,rfl,rfl,ha,hb,q⟩:=h
 cases rx
 cases ry
 let⟨its,r1,p1,_⟩:=I.tuple ha;let⟨its2,r2,p2,_⟩:=I.tuple hb;have:its=[]:=r1.nil_iff.mpr rfl;subst this;let⟨⟨cls,dd,data,sl⟩,ho,hc,n,hd⟩:=id p1;let⟨⟨cls2,dd2,data2,sl2⟩,ho2,hc2,n2,hd2⟩:=id p2;simp only at hc hd hc2 hd2;subst hc hd hc2 hd2;exact FJ ⟨_,ho,rfl⟩ ⟨_,ho2,rfl⟩ Ds Ej Cc C6 (CW _ _)
   (tuple_addW0 a b [].toArray its2.toArray n n2 dd dd2 sl sl2 (by simp)) ⟨ho,ho2,⟨.ref b,H,I,rfl,q⟩⟩
def zh5:OpR X (binaryOp .Add) (rT2 S X (yC .add)):=by
 rintro π s σ H x y v u Q I rx ry ⟨B,φ,st,a,b,z,rs,ra,rb,e,q⟩
 unfold yC at e;split at e
 .rename_i i j;erw[yc]at ra rb;subst ra rb
  cases e
  exact zhR π s σ H _ _ v u Q I rx ry ⟨i,j,rfl,rfl,q _ H φ .rfl rs (by erw[yc])⟩
 .rename_i i k;erw[yc]at ra rb;subst ra rb
  cases e
  exact zc6 π s σ H _ _ v u Q I rx ry ⟨i,k,rfl,rfl,q _ H φ .rfl rs (by erw[yc];cases k<;>rfl)⟩
 .rename_i i j;erw[yc]at ra rb;subst ra rb;dsimp only at e;split at e
  .rename_i c
   cases e
   exact zcD π s σ H _ _ v u Q I rx ry ⟨i,j,rfl,rfl,by rw[<-ze];exact c,q _ H φ .rfl rs (by erw[yc])⟩
  .cases e
 .rename_i k1 vs k2 ws;erw[yc]at ra rb;let⟨p,xs,rfl,r1,l1⟩:=ra;let⟨p',ys,rfl,r2,l2⟩:=rb;dsimp only at e;split at e
  .rename_i c
   cases e
   have n1:=l1.length;have n2:=l2.length;unfold yd2 at q
   cases vs with
   |nil=>
    have:xs=[]:=by cases xs with|nil=>rfl|cons _ _=>simp at n1
    subst this;refine zfn π s σ H _ _ v u Q I rx ry ⟨p,p',ys,rfl,rfl,r1.sq,r2.sq,q _ H φ .rfl rs ?_⟩;erw[F2,if_true,yc];exact⟨p',ys,rfl,r2,l2⟩
   |cons v1 vr=>
    erw[FP,Ay,if_false]at q;refine zfu π s σ H _ _ v u Q I rx ry ⟨p,p',xs,ys,rfl,rfl,r1.sq,r2.sq,?_,by rw[<-ze];lia,λz=>?_,λz t ht=>?_⟩
    .rintro rfl
     simp at n1
    .subst z;have:ws=[]:=by cases ws with|nil=>rfl|cons _ _=>simp at n2
     subst this;erw[F2,if_true]at q;refine q _ H φ .rfl rs ?_;erw[yc];exact⟨p,xs,rfl,r1,l1⟩
    .cases ws with
     |nil=>exact absurd (List.length_eq_zero_iff.mp n2.symm) z
     |cons w1 wr=>
      erw[FP,Ay,if_false]at q;exact q _ _ φ (.upd ht) (rs.upd ht) (.tup_new ht rs (l1.append l2))
  .cases e
 .rename_i vs ws;erw[yc]at ra rb;let⟨p,xs,rfl,r1,l1⟩:=ra;let⟨p',ys,rfl,r2,l2⟩:=rb;dsimp only at e;split at e
  .rename_i c
   cases e
   have n1:=l1.length;have n2:=l2.length;exact zhK π s σ H _ _ v u Q I rx ry ⟨p,p',xs,ys,rfl,rfl,r1.1,r2.1,by rw[<-ze];lia,λt ht=>q _ _ φ (.upd ht) (rs.upd ht) (.lst_new ht rs (l1.append l2))⟩
  .cases e
 .cases e
end
mutual
noncomputable def toD:PV->PyData
 |.non=>.none
 |.bl b=>.bool b
 |.int i=>.int i
 |.str x=>.str x
 |.tp _ xs=>.tuple (yaX xs)
 |.lst xs=>.list (yaX xs)
 |_=>.none
noncomputable def yaX:List PV->List PyData
 |[]=>[]
 |x::xs=>toD x::yaX xs
end
mutual
theorem zcT:∀(v:PV) (n:Nat),shd n v=AC->(toD v).canLay0=AC/\(toD v).depth<=n
 |.non,n,h=>by simp[toD,B5,BV]
 |.bl b,n,h=>by simp[toD,B5,BV]
 |.int i,n,h=>by simp[toD,B5,BV]
 |.str x,n,h=>by
  erw[shd]at h;erw[toD,B5,BV,BI,and_true];exact h
 |.tp _ xs,n,h=>by
  erw[shd,AJ,decide_eq_true_eq]at h;let⟨q1,q2⟩:=za7 xs (n-1) h.2;erw[toD,B5,BV];exact⟨q1,by lia⟩
 |.lst xs,n,h=>by
  erw[shd,AJ,decide_eq_true_eq]at h;let⟨q1,q2⟩:=za7 xs (n-1) h.2;erw[toD,B5,BV];exact⟨q1,by lia⟩
 |.loc k,n,h=>by simp[shd]at h
 |.fnc k,n,h=>by simp[shd]at h
 |.exn k,n,h=>by simp[shd]at h
 |.scr xs,n,h=>by simp[shd]at h
theorem za7:∀(v:List PV) (n:Nat),ya9 n v=AC->Bu (yaX v)=AC/\BP (yaX v)<=n
 |[],n,h=>by simp[yaX,Bu,BP]
 |v::vs,n,h=>by
  erw[ya9,AJ]at h;let⟨q1,q2⟩:=zcT v n h.1;let⟨q3,q4⟩:=za7 vs n h.2;erw[yaX,Bu,BP,AJ];exact⟨⟨q1,q3⟩,by lia⟩
end
def zE{v:PV}(h:shp v=AC):G9 (toD v)=true:=by
 let⟨q1,q2⟩:=zcT v 60 h;unfold G9;rw[q1,Dg,decide_eq_true_eq];lia
mutual
theorem zbW:∀(v w:PV) (n m:Nat),shd n v=AC->shd m w=AC->Ai (toD v) (toD w)=peq v w
 |.non,w,n,m,h,q=>by cases w<;>simp_all[toD,Ai,peq,shd]
 |.bl b,w,n,m,h,q=>by cases w<;>simp_all[toD,Ai,peq,shd,bi]
 |.int i,w,n,m,h,q=>by cases w<;>simp_all[toD,Ai,peq,shd,bi]
 |.str x,w,n,m,h,q=>by cases w<;>simp_all[toD,Ai,peq,shd]
 |.tp _ xs,.tp _ ys,n,m,h,q=>by
  erw[shd,AJ]at h q;erw[toD,Ai,peq];exact zaP xs ys (n-1) (m-1) h.2 q.2
 |.lst xs,.lst ys,n,m,h,q=>by
  erw[shd,AJ]at h q;erw[toD,Ai,peq];exact zaP xs ys (n-1) (m-1) h.2 q.2
 |.tp _ xs,.non,n,m,h,q=>by simp[toD,Ai,peq]
 |.tp _ xs,.bl _,n,m,h,q=>by simp[toD,Ai,peq]
 |.tp _ xs,.int _,n,m,h,q=>by simp[toD,Ai,peq]
 |.tp _ xs,.str _,n,m,h,q=>by simp[toD,Ai,peq]
 |.tp _ xs,.lst _,n,m,h,q=>by simp[toD,Ai,peq]
 |.lst xs,.non,n,m,h,q=>by simp[toD,Ai,peq]
 |.lst xs,.bl _,n,m,h,q=>by simp[toD,Ai,peq]
 |.lst xs,.int _,n,m,h,q=>by simp[toD,Ai,peq]
 |.lst xs,.str _,n,m,h,q=>by simp[toD,Ai,peq]
 |.lst xs,.tp _ _,n,m,h,q=>by simp[toD,Ai,peq]
 |.loc k,w,n,m,h,q=>by simp[shd]at h
 |.fnc k,w,n,m,h,q=>by simp[shd]at h
 |.exn k,w,n,m,h,q=>by simp[shd]at h
 |.scr k,w,n,m,h,q=>by simp[shd]at h
 |v,.loc k,n,m,h,q=>by simp[shd]at q
 |v,.fnc k,n,m,h,q=>by simp[shd]at q
 |v,.exn k,n,m,h,q=>by simp[shd]at q
 |v,.scr k,n,m,h,q=>by simp[shd]at q
theorem zaP:∀(v w:List PV) (n m:Nat),ya9 n v=AC->ya9 m w=AC->B4 (yaX v) (yaX w)=yay v w
 |[],[],n,m,h,q=>by simp[yaX,B4,yay]
 |[],y::ys,n,m,h,q=>by simp[yaX,B4,yay]
 |x::xs,[],n,m,h,q=>by simp[yaX,B4,yay]
 |x::xs,y::ys,n,m,h,q=>by
  erw[ya9,AJ]at h q;erw[yaX,B4,yay];rw[zbW x y n m h.1 q.1,zaP xs ys n m h.2 q.2]
end
section
variable {S:Se}{X:Cx}{σ:St}{B:AI->Prop}{φ φ1:Ph}{H H1:Hp}{st:SO}{π:List (AI×B8)}{s:AH}
mutual
theorem zO(I:Inv X π σ H s):∀(v:PV) (n:Nat) (x:V) (u:AD),shd n v=AC->yc X.K S.cl B φ H v x->RelV x u->∃as,Reads s.heap u (toD v) as
 |.non,n,x,u,h,r,q=>by
  erw[yc]at r;subst r;cases (show u=BN from q);exact⟨_,.none⟩
 |.bl b,n,x,u,h,r,q=>by
  erw[yc]at r;subst r;cases (show u=Dy b from q);exact⟨_,.bool b⟩
 |.int i,n,x,u,h,r,q=>by
  erw[yc]at r;subst r;let⟨t,rfl⟩:=q;exact⟨_,.int i t⟩
 |.str y,n,x,u,h,r,q=>by
  erw[yc]at r;subst r;let⟨t,rfl⟩:=q;exact⟨_,.str y t⟩
 |.tp _ vs,n,x,u,h,r,q=>by
  erw[yc]at r;let⟨a,xs,rfl,rt,l⟩:=r
  cases (show u=Ac a from q)
  erw[shd,AJ]at h;let⟨its,rv,⟨o,g,c,k,d⟩,_⟩:=I.tuple rt.sq;let⟨as,z⟩:=zat I vs (n-1) xs its h.2 l rv;exact⟨as,.tuple g c d (by simpa using z)⟩
 |.lst vs,n,x,u,h,r,q=>by
  erw[yc]at r;let⟨a,xs,rfl,rt,l⟩:=r
  cases (show u=Ac a from q)
  erw[shd,AJ]at h;let⟨its,rv,⟨o,k,g,c,_,d⟩,_⟩:=I.list (rt.sq (K:=X.K));let⟨as,z⟩:=zat I vs (n-1) xs its h.2 l rv;exact⟨_,.list g c d (by simpa using z)⟩
 |.loc k,n,x,u,h,r,q=>by simp[shd]at h
 |.fnc k,n,x,u,h,r,q=>by simp[shd]at h
 |.exn k,n,x,u,h,r,q=>by simp[shd]at h
 |.scr k,n,x,u,h,r,q=>by simp[shd]at h
theorem zat(I:Inv X π σ H s):∀(v:List PV) (n:Nat) (x:List V) (u:List AD),ya9 n v=AC->yd X.K S.cl B φ H v x->Vals x u->∃as,ReadsAll s.heap u (yaX v) as
 |[],n,x,u,h,r,q=>by
  erw[yd]at r;subst r;cases q;exact⟨_,.nil⟩
 |v::vs,n,x,u,h,r,q=>by
  erw[yd]at r;let⟨y,ys,rfl,rv,l⟩:=r;erw[ya9,AJ]at h
  cases q with
  |cons q1 q2=>
   let⟨as,z1⟩:=zO I v n y _ h.1 rv q1;let⟨bs,z2⟩:=zat I vs n ys _ h.2 l q2;exact⟨_,.cons z1 z2⟩
end
def zir(hu:X.A.units+64<cLine):OpR X (compareOp .Eq) (rT2 S X (yr .eq)):=by
 rintro π s σ H x y v u Q I rx ry ⟨B,φ,st,a,b,z,rs,ra,rb,e,q⟩
 erw[yr]at e;split at e
 .rename_i c;rw[AJ]at c
  cases e
  let⟨as,z1⟩:=zO (S:=S) I a 60 x v c.1 ra rx;let⟨bs,z2⟩:=zO (S:=S) I b 60 y u c.2 rb ry;refine eq_dataH z1 z2 (zE c.1) (zE c.2) hu ⟨.bl _,H,I,rfl,?_⟩;rw[zbW a b 60 60 c.1 c.2];exact q _ H φ .rfl rs (by erw[yc])
 .cases e
def ziF(hu:X.A.units+64<cLine):OpR X (compareOp .NotEq) (rT2 S X (yr .ne)):=by
 rintro π s σ H x y v u Q I rx ry ⟨B,φ,st,a,b,z,rs,ra,rb,e,q⟩
 erw[yr]at e;split at e
 .rename_i c;rw[AJ]at c
  cases e
  let⟨as,z1⟩:=zO (S:=S) I a 60 x v c.1 ra rx;let⟨bs,z2⟩:=zO (S:=S) I b 60 y u c.2 rb ry;refine ne_dataH z1 z2 (zE c.1) (zE c.2) hu ⟨.bl _,H,I,rfl,?_⟩;rw[zbW a b 60 60 c.1 c.2];exact q _ H φ .rfl rs (by erw[yc])
 .cases e
def zcQ{f:AD->AD->Gp AD}{o:COp}{g:Int->Int->Bool}(h:OpR X f (rI0 λi j=>.bl (g i j)))
  (hb:∀v w z,yr o v w=AA z->∃i j,v=.int i/\w=.int j/\z=.bl (g i j)):OpR X f (rT2 S X (yr o)):=by
 rintro π s σ H x y v u Q I rx ry ⟨B,φ,st,a,b,z,rs,ra,rb,e,q⟩
 let⟨i,j,rfl,rfl,rfl⟩:=hb a b z e;erw[yc]at ra rb;subst ra rb;exact h π s σ H _ _ v u Q I rx ry ⟨i,j,rfl,rfl,q _ H φ .rfl rs (by erw[yc])⟩
def zdc:OpR X (compareOp .LtE) (λx y H Q=>∃i j,x=.str i/\y=.str j/\Q (.bl (!decide (j.cps.toList<i.cps.toList))) H):=by
 intro π s σ H x y v u Q I rx ry h;let⟨i,j,rfl,rfl,q⟩:=h;let⟨t,rfl⟩:=rx;let⟨t',rfl⟩:=ry;exact PySem.P.le_str (zf I q rfl)
def ziy:OpR X (compareOp .Lt) (rT2 S X (yr .lt)):=by
 rintro π s σ H x y v u Q I rx ry ⟨B,φ,st,a,b,z,rs,ra,rb,e,q⟩
 erw[yr]at e;split at e
 .rename_i i j;erw[yc]at ra rb;subst ra rb
  cases e
  exact ziS π s σ H _ _ v u Q I rx ry ⟨i,j,rfl,rfl,q _ H φ .rfl rs (by erw[yc])⟩
 .rename_i i j;erw[yc]at ra rb;subst ra rb
  cases e
  exact zcM π s σ H _ _ v u Q I rx ry ⟨i,j,rfl,rfl,q _ H φ .rfl rs (by erw[yc])⟩
 .cases e
def ziI:OpR X (compareOp .LtE) (rT2 S X (yr .le)):=by
 rintro π s σ H x y v u Q I rx ry ⟨B,φ,st,a,b,z,rs,ra,rb,e,q⟩
 erw[yr]at e;split at e
 .rename_i i j;erw[yc]at ra rb;subst ra rb
  cases e
  exact ziE π s σ H _ _ v u Q I rx ry ⟨i,j,rfl,rfl,q _ H φ .rfl rs (by erw[yc])⟩
 .rename_i i j;erw[yc]at ra rb;subst ra rb
  cases e
  exact zdc π s σ H _ _ v u Q I rx ry ⟨i,j,rfl,rfl,q _ H φ .rfl rs (by erw[yc])⟩
 .cases e
def zcu{o:COp}{g:Int->Int->Bool}(ho:∀v w,yr o v w=match v,w with
   |.int i,.int j=>ybd o i j
   |.str a,.str b=>ydj o a b
   |_,_=>AE) (hs:∀a b,ydj o a b=AE) (hg:∀i j,ybd o i j=AA (.bl (g i j))) (v w z:PV) (h:yr o v w=AA z):∃i j,v=.int i/\w=.int j/\z=.bl (g i j):=by
 rw[ho]at h;split at h
 .rename_i i j;rw[hg]at h;exact⟨i,j,rfl,rfl,(A0 h).symm⟩
 .rw[hs]at h;cases h
 .cases h
def ziB:OpR X (compareOp .Gt) (rT2 S X (yr .gt)):=zcQ ziO (zcu (λ_ _=>rfl) (λ_ _=>rfl) λ_ _=>rfl)
def zis:OpR X (compareOp .GtE) (rT2 S X (yr .ge)):=zcQ zix (zcu (λ_ _=>rfl) (λ_ _=>rfl) λ_ _=>rfl)
theorem yc.isNon{K:AF}{cl:Nat->AI}{v:PV}{x:V}(r:yc K cl B φ H v x):decide (x=.non)=IC.isNon v:=by
 cases v with
 |loc n=>erw[yc]at r;let⟨_,a,rfl,_⟩:=r;rfl
 |non=>erw[yc]at r;subst r;rfl
 |bl b=>erw[yc]at r;subst r;rfl
 |int b=>erw[yc]at r;subst r;rfl
 |str b=>erw[yc]at r;subst r;rfl
 |tp k vs=>erw[yc]at r;let⟨a,xs,rfl,_⟩:=r;rfl
 |lst vs=>erw[yc]at r;let⟨a,xs,rfl,_⟩:=r;rfl
 |fnc j=>erw[yc]at r;subst r;rfl
 |exn vs=>erw[yc]at r;let⟨a,rfl,_⟩:=r;rfl
 |scr vs=>erw[yc]at r;let⟨a,xs,rfl,_⟩:=r;rfl
theorem yc.flat{K:AF}{cl:Nat->AI}{v:PV}{x:V}(r:yc K cl B φ H v x)(h:IC.flat v=AC):yav x=AC/\∀(w:PV) (y:V),IC.flat w=AC->yc K cl B φ H w y->eqV x y=peq v w:=by
 cases v with
 |non=>
  erw[yc]at r;subst r;refine⟨rfl,λw y hw rw=>?_⟩
  cases w<;>first|(simp[IC.flat]at hw;done)|(erw[yc]at rw;subst rw;simp[eqV,peq,bi])
 |bl b=>
  erw[yc]at r;subst r;refine⟨rfl,λw y hw rw=>?_⟩
  cases w<;>first|(simp[IC.flat]at hw;done)|(erw[yc]at rw;subst rw;simp[eqV,peq,bi])
 |int b=>
  erw[yc]at r;subst r;refine⟨rfl,λw y hw rw=>?_⟩
  cases w<;>first|(simp[IC.flat]at hw;done)|(erw[yc]at rw;subst rw;simp[eqV,peq,bi])
 |str b=>
  erw[yc]at r;subst r;refine⟨rfl,λw y hw rw=>?_⟩
  cases w<;>first|(simp[IC.flat]at hw;done)|(erw[yc]at rw;subst rw;simp[eqV,peq,bi])
 |_=>simp[IC.flat]at h
def zbZ{K:AF}{cl:Nat->AI}{v:PV}{x:V}(r:yc K cl B φ H v x)(h:IC.flat v=AC):∀{vs:List PV} {xs:List V},yd K cl B φ H vs xs->vs.all IC.flat=AC->xs.all yav=AC/\inV x xs=inL v vs
 |[],xs,l,_=>by erw[yd]at l;subst l;exact⟨rfl,rfl⟩
 |w::vs,xs,l,f=>by
  erw[yd]at l;let⟨y,ys,rfl,rw,l⟩:=l;rw[Ao,AJ]at f;let⟨q1,q2⟩:=zbZ r h l f.2;let⟨q3,q4⟩:=rw.flat f.1;refine⟨by rw[Ao,q3,q1];rfl,?_⟩;unfold inV at q2 ⊢;rw[Be,q2,q4 v x h r];rfl
end
def zgw(a b:AS):(!(Dp b a 0 b.length 1).isEmpty)=inS a b:=by
 rw[CJ,StrLaws.found_iff];unfold inS;rw[Cu];constructor
 .rintro⟨i,h1,h2⟩
  exact⟨i,by rw[Fm];lia,by rw[AJ,decide_eq_true_eq];exact⟨h1,h2⟩⟩
 .rintro⟨i,_,h⟩
  rw[AJ,decide_eq_true_eq]at h;exact⟨i,h.1,h.2⟩
section
variable {S:Se}{X:Cx}{σ:St}{B:AI->Prop}{φ φ1:Ph}{H H1:Hp}{st:SO}
def ziD:OpR X (compareOp .In) (rT2 S X (yr .isin)):=by
 rintro π s σ H x y v u Q I rx ry ⟨B,φ,st,a,b,z,rs,ra,rb,e,q⟩
 erw[yr]at e;split at e
 .rename_i i j;erw[yc]at ra rb;subst ra rb
  cases e
  exact zcP π s σ H _ _ v u Q I rx ry ⟨i,j,rfl,rfl,by rw[zgw];exact q _ H φ .rfl rs (by erw[yc])⟩
 .rename_i l;split at e
  .rename_i c;rw[AJ]at c
   cases e
   erw[yc]at rb;let⟨p,xs,rfl,r,l'⟩:=rb;let⟨q1,q2⟩:=zbZ ra c.1 l' c.2;exact zbr π s σ H _ _ v u Q I rx ry ⟨p,xs,rfl,.inr r.sq,(ra.flat c.1).1,q1,q _ H φ .rfl rs (by erw[yc];rw[<-q2];rfl)⟩
  .cases e
 .rename_i l;split at e
  .rename_i c;rw[AJ]at c
   cases e
   erw[yc]at rb;let⟨p,xs,rfl,r,l'⟩:=rb;let⟨q1,q2⟩:=zbZ ra c.1 l' c.2;exact zbr π s σ H _ _ v u Q I rx ry ⟨p,xs,rfl,.inl r.sq,(ra.flat c.1).1,q1,q _ H φ .rfl rs (by erw[yc];rw[<-q2];rfl)⟩
  .cases e
 .cases e
theorem yd.empty{K:AF}{cl:Nat->AI}{vs:List PV}{xs:List V}(l:yd K cl B φ H vs xs):vs.isEmpty=xs.isEmpty:=by
 have:=l.length
 cases vs<;>cases xs<;>simp_all
def zft{K:AF}{cl:Nat->AI}{v:PV}{x:V}{k:Bool}(rs:yh K cl B φ H st)(r:yc K cl B φ H v x)(h:yag st v=AA k):ydt K x H k:=by
 cases v with
 |non=>erw[yc]at r;subst r;cases h;rfl
 |bl b=>erw[yc]at r;subst r;cases h;rfl
 |int b=>erw[yc]at r;subst r;cases h;rfl
 |str b=>
  erw[yc]at r;subst r;erw[yag]at h;split at h
  .rename_i c
   cases h
   exact⟨by rw[<-ze];exact c,rfl⟩
  .cases h
 |tp k vs=>
  erw[yc]at r;let⟨a,xs,rfl,rt,l⟩:=r
  cases h
  exact .inr (.inl ⟨xs,rt.sq,by rw[l.empty]⟩)
 |lst vs=>
  erw[yc]at r;let⟨a,xs,rfl,rt,l⟩:=r
  cases h
  exact .inl ⟨xs,rt.sq,by rw[l.empty]⟩
 |loc n=>
  erw[yc]at r;let⟨hn,a,rfl,ha⟩:=r;erw[yag]at h;split at h
  .rename_i vs hv
   cases h
   let⟨b,hb⟩:=rs.liv n _ hv (by intro z;cases z);obtain rfl:=ha b hb;let⟨o,ho,ro⟩:=rs.obj n b hb;rw[hv]at ho;cases ho;let⟨xs,hx,l⟩:=ro;exact .inl ⟨xs,.of hx,by rw[l.empty]⟩
  .cases h
 |fnc c=>cases h
 |exn c=>cases h
 |scr c=>cases h
end
theorem R.bind_assoc{α β γ:Type}{r:R α}{k:α->SO->R β}{l:β->SO->R γ}:(r.bind k).bind l=r.bind λa s=>(k a s).bind l:=by
 cases r<;>rfl
section
variable {S:Se}{X:Cx}{σ:St}{B:AI->Prop}{φ φ1:Ph}{H H1:Hp}{st:SO}{ρ:IC.Env}{pos:Bf}{a b c d:AM}{ca cb cc:Ce}{es:List AM}{ces:Ces}
def zaV{o:COp}{v w z:PV}(h:yr o v w=AA z):∃k,z=.bl k:=by
 cases o<;>erw[yr]at h
 all_goals (repeat' split at h)<;>first|(cases h;done)|(cases h;exact⟨_,rfl⟩)|skip
 all_goals (erw[ybd]at h;cases h;exact⟨_,rfl⟩)
def zib{op:Ei}{o:COp}(ho:OpR X (compareOp op) (rT2 S X (yr o)))(ha:PE X a (tE S X ca))(hb:PE X b (tE S X cb))(hm:behindInMarks op b=AG):PT X (.Compare a [op] [b] pos) (tTs S X (.cmp o ca cb)):=
 (zbT ho ha hb hm).imp λσ H Q ⟨B,φ,st,ρ,rs,re,h⟩=>by
  erw[ev,yau,R.bind_assoc]at h;refine tE.bind rs re h λx H1 v st1 φ1 s1 rs1 re1 rv h1=>tE.bind rs1 re1 h1 λy H2 w st2 φ2 s2 rs2 re2 rw h2=>?_
  cases e:yr o v w with
  |none=>rw[e]at h2;exact h2.elim
  |some z=>
   let⟨k,rfl⟩:=zaV e;rw[e]at h2;refine⟨B,φ2,st2,v,w,.bl k,rs2,rv.step s2,rw,e,λz' H' φ' s' rs' rz=>?_⟩;erw[yc]at rz;exact⟨k,rz,h2 k H' φ' s' rs' rfl⟩
def zhp(ha:PE X a (tE S X ca))(he:∀whole,isTrue a X.env whole=(do let v <-whole;standAt a.pos;holding [v] (truthy v)):=by intro _;rfl):PT X a (tTs S X ca):=
 (zep ha he).imp λσ H Q ⟨B,φ,st,ρ,rs,re,h⟩=>by
  erw[yau]at h;refine tE.bind rs re h λx H1 v st1 φ1 s1 rs1 re1 rv h1=>?_
  cases e:yag st1 v with
  |none=>rw[e]at h1;exact h1.elim
  |some k=>
   rw[e]at h1;exact⟨k,zft rs1 rv e,h1.ok rs1 rfl⟩
theorem tTs.bind{γ δ:Type}{G8:Ph->Hp->γ->δ->Prop}{k:Bool->SO->R γ}{Q:δ->Hp->Prop}{P:Bool->Hp->Prop}(rs:yh X.K S.cl B φ H st)(re:yo X.K S.cl B φ H ρ σ)(h:Run S X σ B φ H G8 ((yau (ev S.call ρ st ca)).bind k) Q)
  (n:∀b H1 st1 φ1,Step φ H φ1 H1->yh X.K S.cl B φ1 H1 st1->yo X.K S.cl B φ1 H1 ρ σ->Run S X σ B φ1 H1 G8 (k b st1) Q->P b H1):tTs S X ca σ H P:=
 ⟨B,φ,st,ρ,rs,re,(Run.bind h).mono λx H1 ⟨v,st1,φ1,s,rs1,rv,h1⟩=>by
  subst rv;exact n v H1 st1 φ1 s rs1 (re.step s) h1⟩
def zbJ(r:R PV)(f:Bool->SO->R PV):yau (r.bind λx st1=>onBl x λb=>f b st1)=r.bind λx st1=>onBl x λb=>yau (f b st1):=by
 unfold yau;rw[R.bind_assoc]
 congr 1
 funext x st1
 cases x<;>rfl
theorem Run.bl_tru{r:R PV}{k:Bool->SO->R Bool}{Q:Bool->Hp->Prop}(h:Run S X σ B φ H RB (r.bind λx st1=>onBl x λb=>k b st1) Q):Run S X σ B φ H RB ((yau r).bind k) Q:=by
 cases r with
 |bad=>exact h
 |exc c s=>exact h
 |ok v s=>
  cases v with
  |bl b=>exact h
  |_=>exact h.elim
def zhL(ha:PT X a (tTs S X ca)):PT X (.UnaryOp .Not a pos) (tTs S X (.not ca)):=
 (zil ha).imp λσ H Q ⟨B,φ,st,ρ,rs,re,h⟩=>by
  erw[ev]at h;rw[zbJ _ λk st1=>.ok (.bl (!k)) st1]at h;exact tTs.bind rs re (Run.bl_tru (k:=λb st1=>.ok (!b) st1) h) λb H1 st1 φ1 s1 rs1 re1 h1=>h1.ok rs1 rfl
variable {rest:List AM}
def zga(ha:PT X a (tTs S X ca)):PW X (.BoolOp .And [a] pos) (tTs S X ca):=zgk ha
def zin(ha:PT X a (tTs S X ca)):PW X (.BoolOp .Or [a] pos) (tTs S X ca):=zgI ha
def zhU(ha:PT X a (tTs S X ca))(hb:PW X (.BoolOp .And (b::rest) pos) (tTs S X cb)):PW X (.BoolOp .And (a::b::rest) pos) (tTs S X (.and ca cb)):=
 (zii ha hb).imp λσ H Q ⟨B,φ,st,ρ,rs,re,h⟩=>by
  erw[ev]at h;rw[zbJ _ λk st1=>cond k (ev S.call ρ st1 cb) (.ok (.bl AG) st1)]at h;refine tTs.bind rs re (Run.bl_tru h) λk H1 st1 φ1 s1 rs1 re1 h1=>?_
  cases k with
  |false=>exact h1.ok rs1 rfl
  |true=>exact⟨B,φ1,st1,ρ,rs1,re1,h1⟩
def ziz(ha:PT X a (tTs S X ca))(hb:PW X (.BoolOp .Or (b::rest) pos) (tTs S X cb)):PW X (.BoolOp .Or (a::b::rest) pos) (tTs S X (.or ca cb)):=
 (ziM ha hb).imp λσ H Q ⟨B,φ,st,ρ,rs,re,h⟩=>by
  erw[ev]at h;rw[zbJ _ λk st1=>cond k (.ok (.bl AC) st1) (ev S.call ρ st1 cb)]at h;refine tTs.bind rs re (Run.bl_tru h) λk H1 st1 φ1 s1 rs1 re1 h1=>?_
  cases k with
  |true=>exact h1.ok rs1 rfl
  |false=>exact⟨B,φ1,st1,ρ,rs1,re1,h1⟩
def zfg{op:Ga}(h:PE X a (tE S X ca)):PE X (.BoolOp op [a] pos) (tE S X ca):=zhu h
def zff(ha:PE X a (tE S X ca))(hb:PE X (.BoolOp .And (b::rest) pos) (tE S X cb)):PE X (.BoolOp .And (a::b::rest) pos) (tE S X (.and ca cb)):=
 (zg7 ha hb).imp λσ H Q ⟨B,φ,st,ρ,rs,re,h⟩=>by
  erw[ev]at h;refine tE.bind rs re h λx H1 v st1 φ1 s1 rs1 re1 rv h1=>?_
  cases v with
  |bl k=>
   erw[yc]at rv;refine⟨k,rv,?_⟩
   cases k with
   |true=>exact⟨B,φ1,st1,ρ,rs1,re1,h1⟩
   |false=>exact h1.ok rs1 (by erw[yc])
  |_=>exact h1.elim
def zgO(ha:PE X a (tE S X ca))(hb:PE X (.BoolOp .Or (b::rest) pos) (tE S X cb)):PE X (.BoolOp .Or (a::b::rest) pos) (tE S X (.or ca cb)):=
 (ziX ha hb).imp λσ H Q ⟨B,φ,st,ρ,rs,re,h⟩=>by
  erw[ev]at h;refine tE.bind rs re h λx H1 v st1 φ1 s1 rs1 re1 rv h1=>?_
  cases v with
  |bl k=>
   erw[yc]at rv;refine⟨k,rv,?_⟩
   cases k with
   |false=>exact⟨B,φ1,st1,ρ,rs1,re1,h1⟩
   |true=>exact h1.ok rs1 (by erw[yc])
  |_=>exact h1.elim
def zg2(ha:PE X a (tE S X ca)):PE X (.UnaryOp .Not a pos) (tE S X (.not ca)):=
 (zg1 ha).imp λσ H Q ⟨B,φ,st,ρ,rs,re,h⟩=>by
  erw[ev]at h;refine tE.bind rs re h λx H1 v st1 φ1 s1 rs1 re1 rv h1=>?_
  cases v with
  |bl k=>
   erw[yc]at rv;exact⟨k,rv,h1.ok rs1 (by erw[yc])⟩
  |_=>exact h1.elim
def zgC(ha:PE X a (tE S X ca)):PE X (.UnaryOp .USub a pos) (tE S X (.neg ca)):=
 (ziP zij ha).imp λσ H Q ⟨B,φ,st,ρ,rs,re,h⟩=>by
  erw[ev]at h;refine tE.bind rs re h λx H1 v st1 φ1 s1 rs1 re1 rv h1=>?_;split at h1
  .simp only[yc]at rv;exact⟨_,rv,h1.ok rs1 (by erw[yc])⟩
  .exact h1.elim
def zhJ(hc:PT X c (tTs S X cc))(ha:PE X a (tE S X ca))(hb:PE X b (tE S X cb)):PE X (.IfExp c a b pos) (tE S X (.ite cc ca cb)):=
 (zex hc ha hb).imp λσ H Q ⟨B,φ,st,ρ,rs,re,h⟩=>by
  erw[ev]at h;have e:((ev S.call ρ st cc).bind λx st1=>onO (yag st1 x) λk=>cond k (ev S.call ρ st1 ca) (ev S.call ρ st1 cb))=(yau (ev S.call ρ st cc)).bind λk st1=>cond k (ev S.call ρ st1 ca) (ev S.call ρ st1 cb):=by
   unfold yau;rw[R.bind_assoc]
   congr 1
   funext x st1
   cases yag st1 x<;>rfl
  rw[e]at h;refine tTs.bind rs re h λk H1 st1 φ1 s1 rs1 re1 h1=>?_
  cases k with
  |true=>exact⟨B,φ1,st1,ρ,rs1,re1,h1⟩
  |false=>exact⟨B,φ1,st1,ρ,rs1,re1,h1⟩
def zdl:PA X [] (tAs S X .nil):=zi2.imp λσ H Q ⟨B,φ,st,ρ,rs,re,h⟩=>by
 erw[evs]at h;exact h.ok rs (by erw[yd])
def zaR(ha:PE X a (tE S X ca))(hr:PA X es (tAs S X ces))(hs:starEach (a::es) X.env=(AG,eval a X.env)::starEach es X.env:=by rfl):PA X (a::es) (tAs S X (.cons ca ces)):=
 (zp ha hr hs).imp λσ H Q ⟨B,φ,st,ρ,rs,re,h⟩=>by
  erw[evs]at h;refine tE.bind rs re h λx H1 v st1 φ1 s1 rs1 re1 rv h1=>tAs.bind rs1 re1 h1 λxs H2 vs st2 φ2 s2 rs2 re2 rvs h2=>?_;refine h2.ok rs2 ?_;erw[yd];exact⟨x,xs,rfl,rv.step s2,rvs⟩
def zhA{k:Nat}(h:PA X es (tAs S X ces)):PE X (.Tuple es k pos) (tE S X (.tup ces)):=
 (zfb h).imp λσ H Q ⟨B,φ,st,ρ,rs,re,h⟩=>by
  erw[ev]at h;refine tAs.bind rs re h λxs H1 vs st1 φ1 s1 rs1 re1 rv h1=>?_;split at h1
  .rename_i c;refine⟨by rw[<-ze,<-rv.length];exact c,λp hp=>h1 _ _ φ1 (.upd hp) (rs1.upd hp) (.tup_new hp rs1 rv)⟩
  .exact h1.elim
def zgQ(h:PA X es (tAs S X ces)):PE X (.List es pos) (tE S X (.lst ces)):=
 (ze3 h).imp λσ H Q ⟨B,φ,st,ρ,rs,re,h⟩=>by
  erw[ev]at h;refine tAs.bind rs re h λxs H1 vs st1 φ1 s1 rs1 re1 rv h1=>?_;split at h1
  .rename_i c;refine⟨by rw[<-ze,<-rv.length];exact c,λp hp=>h1 _ _ φ1 (.upd hp) (rs1.upd hp) (.lst_new hp rs1 rv)⟩
  .exact h1.elim
theorem Step.push{p:AI}{o:HO}(hp:H p=AE):Step φ H (φ++[AA p]) (L2.upd H p o):=by
 refine⟨λb u n e=>by rw[za (zb e hp)];exact e,by simp,λn a hn e=>?_,λb h=>?_⟩
 .rw[A2 hn]at e;exact e
 .rw[C0]at h;rcases h with h|h
  .exact .inl h
  .have:b=p:=by simpa using h
   subst this;exact .inr hp
theorem yh.push{K:AF}{cl:Nat->AI}{p:AI}{u:HO}{o:Ob}(rs:yh K cl B φ H st)(hp:H p=AE)(hb:¬B p)(ho:ybt K cl B (φ++[AA p]) (L2.upd H p u) o p):yh K cl B (φ++[AA p]) (L2.upd H p u) (st++[o]):=by
 have s:Step φ H (φ++[AA p]) (L2.upd H p u):=.push hp;have np:AA p∉φ:=λz=>by
  let⟨w,e⟩:=rs.there z;rw[hp]at e;cases e
 have hl:φ.length=st.length:=rs.len;refine⟨by simp[hl],λm n a e1 e2=>?_,λn a e=>?_,λn o' e ho'=>?_,λa h=>?_,λa h=>?_⟩
 .by_cases hm:m<φ.length
  .rw[A2 hm]at e1
   by_cases hn:n<φ.length
   .rw[A2 hn]at e2;exact rs.inj m n a e1 e2
   .rw[Af ∅]at e2;have:a=p:=by
     cases q:n-φ.length with
     |zero=>rw[q]at e2;simpa using e2.symm
     |succ k=>rw[q]at e2;simp at e2
    subst this;exact absurd (AZ e1) np
  .rw[Af ∅]at e1;have:m-φ.length=0/\a=p:=by
    cases q:m-φ.length with
    |zero=>rw[q]at e1;exact⟨rfl,by simpa using e1.symm⟩
    |succ k=>rw[q]at e1;simp at e1
   let⟨q1,rfl⟩:=this
   by_cases hn:n<φ.length
   .rw[A2 hn]at e2;exact absurd (AZ e2) np
   .rw[Af ∅]at e2;have:n-φ.length=0:=by
     cases q:n-φ.length with
     |zero=>rfl
     |succ k=>rw[q]at e2;simp at e2
    lia
 .by_cases hn:n<φ.length
  .rw[A2 hn]at e;let⟨o',q,r⟩:=rs.obj n a e;refine⟨o',by rw[A2 ∅];exact q,r.step s ?_⟩;rw[za]
   rintro rfl
   exact np (AZ e)
  .rw[Af ∅]at e;have:n-φ.length=0/\a=p:=by
    cases q:n-φ.length with
    |zero=>rw[q]at e;exact⟨rfl,by simpa using e.symm⟩
    |succ k=>rw[q]at e;simp at e
   let⟨q1,rfl⟩:=this;refine⟨o,?_,ho⟩;rw[Af ∅];have:n-st.length=0:=by lia
   rw[this];rfl
 .by_cases hn:n<φ.length
  .rw[A2 ∅]at e;let⟨a,q⟩:=rs.liv n o' e ho';exact⟨a,by rw[A2 hn];exact q⟩
  .rw[Af ∅]at e;have:n-st.length=0:=by
    cases q:n-st.length with
    |zero=>rfl
    |succ k=>rw[q]at e;simp at e
   refine⟨p,?_⟩;rw[Af ∅];have:n-φ.length=0:=by lia
   rw[this];rfl
 .rw[C0]at h;rcases h with h|h
  .exact rs.nb a h
  .have:a=p:=by simpa using h
   subst this;exact hb
 .let⟨w,e⟩:=rs.dom a h;exact⟨w,by rw[za (zb e hp)];exact e⟩
theorem yh.nB{K:AF}{cl:Nat->AI}{p:AI}(rs:yh K cl B φ H st)(hp:H p=AE):¬B p:=λz=>by
 let⟨o,e⟩:=rs.dom p z;rw[hp]at e;cases e
theorem yc.loc_new{K:AF}{cl:Nat->AI}{p:AI}(rs:yh K cl B φ H st):yc K cl B (φ++[AA p]) H1 (.loc st.length) (.ref p):=by
 erw[yc];have hl:=rs.len;refine⟨by simp[hl],p,rfl,λb e=>?_⟩;rw[Af ∅]at e;have:st.length-φ.length=0:=by lia
 rw[this]at e;simpa using e.symm
def zfy(h:PA X es (tAs S X ces)):PE X (.List es pos) (tE S X (.newl ces)):=
 (ze3 h).imp λσ H Q ⟨B,φ,st,ρ,rs,re,h⟩=>by
  erw[ev]at h;refine tAs.bind rs re h λxs H1 vs st1 φ1 s1 rs1 re1 rv h1=>?_;split at h1
  .rename_i c;refine⟨by rw[<-ze,<-rv.length];exact c,λp hp=>h1 _ _ (φ1++[AA p]) (.push hp) (rs1.push hp (rs1.nB hp) ⟨xs,zc,rv.step (.push hp)⟩) (.loc_new rs1)⟩
  .exact h1.elim
end
section
variable {S:Se}{X:Cx}{σ:St}{B:AI->Prop}{φ φ1:Ph}{H H1:Hp}{st:SO}{ρ:IC.Env}{pos p2:Bf}{a b c d:AM}{ca cb cc:Ce}{es:List AM}{ces:Ces}{K:AF}{cl:Nat->AI}
def zd4{o:COp}{v w:PV}{α β:Type}{Rel:Ph->Hp->α->β->Prop}{k:Bool->R α}{Q:β->Hp->Prop}(h:Run S X σ B φ H Rel (onO (blO (yr o v w)) k) Q):∃b,yr o v w=AA (.bl b)/\Run S X σ B φ H Rel (k b) Q:=by
 cases e:yr o v w with
 |none=>rw[e]at h;exact h.elim
 |some z=>
  let⟨b,rfl⟩:=zaV e;rw[e]at h;exact⟨b,rfl,h⟩
def zeI{op op':Ei}{o p:COp}(ho:OpR X (compareOp op) (rT2 S X (yr o)))(ho':OpR X (compareOp op') (rT2 S X (yr p)))(ha:PE X a (tE S X ca))(hb:PE X b (tE S X cb))(hc:PE X c (tE S X cc))
  (hm:lastMarks [op,op'] [b,c]=false:=by with_unfolding_all rfl):PE X (.Compare a [op,op'] [b,c] pos) (tE S X (.chain o p ca cb cc)):=
 (zeY ho ho' ha hb hc hm).imp λσ H Q ⟨B,φ,st,ρ,rs,re,h⟩=>by
  erw[ev]at h;refine tE.bind rs re h λx H1 v st1 φ1 s1 rs1 re1 rv h1=>tE.bind rs1 re1 h1 λy H2 w st2 φ2 s2 rs2 re2 rw h2=>?_;let⟨k,e,h2⟩:=zd4 h2;refine⟨B,φ2,st2,v,w,.bl k,rs2,rv.step s2,rw,e,λz' H' φ' s' rs' rz=>?_⟩;erw[yc]at rz;refine⟨k,rz,?_⟩
  cases k with
  |false=>exact h2 _ H' φ' s' rs' (by erw[yc])
  |true=>
   refine tE.bind rs' (re2.step s') (Run.on s' h2) λz H3 v3 st3 φ3 s3 rs3 re3 rv3 h3=>?_;let⟨q,eq,hq⟩:=zr h3 rs3;exact⟨B,φ3,st3,w,v3,q,rs3,(rw.step s').step s3,rv3,eq,hq⟩
def zez{op op':Ei}{o p:COp}(ho:OpR X (compareOp op) (rT2 S X (yr o)))(ho':OpR X (compareOp op') (rT2 S X (yr p)))(ha:PE X a (tE S X ca))(hb:PE X b (tE S X cb))(hc:PE X c (tE S X cc))
  (hm:lastMarks [op,op'] [b,c]=false:=by with_unfolding_all rfl):PT X (.Compare a [op,op'] [b,c] pos) (tTs S X (.chain o p ca cb cc)):=
 (zeW ho ho' ha hb hc hm).imp λσ H Q ⟨B,φ,st,ρ,rs,re,h⟩=>by
  erw[ev,yau,R.bind_assoc]at h;refine tE.bind rs re h λx H1 v st1 φ1 s1 rs1 re1 rv h1=>tE.bind rs1 re1 h1 λy H2 w st2 φ2 s2 rs2 re2 rw h2=>?_;have h2':Run S X σ B φ2 H2 RB (onO (blO (yr o v w)) λk=>cond k ((ev S.call ρ st2 cc).bind λz st3=>(toR (yr p w z) st3).bind λx st=>onO (yag st x) λb=>.ok b st) (.ok AG st2)) Q:=by
   cases e:yr o v w with
   |none=>rw[e]at h2;exact h2
   |some z=>
    let⟨b,rfl⟩:=zaV e;rw[e]at h2
    cases b with
    |false=>exact h2
    |true=>
     erw[blO,onO,cond_true,R.bind_assoc]at h2 ⊢;exact h2
  let⟨k,e,h2⟩:=zd4 h2';refine⟨B,φ2,st2,v,w,.bl k,rs2,rv.step s2,rw,e,λz' H' φ' s' rs' rz=>?_⟩;erw[yc]at rz;refine⟨k,rz,?_⟩
  cases k with
  |false=>exact⟨AG,rfl,h2 _ H' φ' s' rs' rfl⟩
  |true=>
   refine tE.bind rs' (re2.step s') (Run.on s' h2) λz H3 v3 st3 φ3 s3 rs3 re3 rv3 h3=>?_
   cases eq:yr p w v3 with
   |none=>rw[eq]at h3;exact h3.elim
   |some q=>
    let⟨b,rfl⟩:=zaV eq;rw[eq]at h3;refine⟨B,φ3,st3,w,v3,.bl b,rs3,(rw.step s').step s3,rv3,eq,λz2 H4 φ4 s4 rs4 rz4=>?_⟩;erw[yc]at rz4;exact⟨b,rz4,h3 b H4 φ4 s4 rs4 rfl⟩
theorem yd.at{vs:List PV}{xs:List V}{i:Int}{v:PV}(l:yd K cl B φ H vs xs)(h:at? vs i=AA v):∃x,atI xs i=AA x/\yc K cl B φ H v x:=by
 unfold at? at h;rw[l.length]at h;unfold atI
 cases e:ixI xs.length i with
 |none=>rw[e]at h;cases h
 |some j=>
  rw[e]at h;have e':ixN xs.length i=AA j:=e;rw[e'];exact l.get j h
theorem yh.list{n:Nat}{vs:List PV}{x:V}(rs:yh K cl B φ H st)(r:yc K cl B φ H (.loc n) x)(h:st[n]?=AA (.lst vs)):∃a xs,x=.ref a/\φ[n]?=AA (AA a)/\H a=AA (.lst xs)/\yd K cl B φ H vs xs:=by
 erw[yc]at r;let⟨hn,a,rfl,ha⟩:=r;let⟨b,hb⟩:=rs.liv n _ h (by intro z;cases z);obtain rfl:=ha b hb;let⟨o,ho,ro⟩:=rs.obj n b hb;rw[h]at ho;cases ho;let⟨xs,hx,l⟩:=ro;exact⟨b,xs,rfl,hb,hx,l⟩
def rTS(S:Se)(X:Cx)(f:SO->PV->PV->Option PV):R2:=λx y H Q=>∃B φ st v w z,yh X.K S.cl B φ H st/\yc X.K S.cl B φ H v x/\yc X.K S.cl B φ H w y/\f st v w=AA z /\
 ∀z' H' φ',Step φ H φ' H'->yh X.K S.cl B φ' H' st->yc X.K S.cl B φ' H' z z'->Q z' H'
def zai{α:Type}{xs:List α}{i:PV}{z:α}(h:yaw xs i=AA z):∃k,i=.int k/\at? xs k=AA z:=by
 cases i with
 |int k=>exact⟨k,rfl,h⟩
 |_=>cases h
def zfV:IxR X (rTS S X idxV):=by
 rintro value slice π s σ H x y v u Q I rx ry ⟨B,φ,st,a,i,z,rs,ra,ri,e,q⟩ hs
 cases a with
 |tp k vs=>
  let⟨k,rfl,e⟩:=zai e;erw[yc]at ra ri;subst ri;let⟨p,xs,rfl,rt,l⟩:=ra;let⟨w,e1,rw⟩:=l.at e;exact zb4 value slice π s σ H _ _ v u Q I rx ry (.inr (.inl ⟨p,xs,k,w,rfl,rfl,rt.sq,e1,q w H φ .rfl rs rw⟩)) hs
 |lst vs=>
  let⟨k,rfl,e⟩:=zai e;erw[yc]at ra ri;subst ri;let⟨p,xs,rfl,rt,l⟩:=ra;let⟨w,e1,rw⟩:=l.at e;exact zb4 value slice π s σ H _ _ v u Q I rx ry (.inl ⟨p,xs,k,w,rfl,rfl,rt.sq,e1,q w H φ .rfl rs rw⟩) hs
 |loc n=>
  erw[idxV]at e;split at e
  .rename_i vs h1;let⟨k,rfl,e⟩:=zai e;erw[yc]at ri;subst ri;let⟨p,xs,rfl,_,hx,l⟩:=rs.list ra h1;let⟨w,e1,rw⟩:=l.at e;exact zb4 value slice π s σ H _ _ v u Q I rx ry (.inl ⟨p,xs,k,w,rfl,rfl,.of hx,e1,q w H φ .rfl rs rw⟩) hs
  .cases e
 |str t=>
  erw[idxV]at e;split at e
  .rename_i hl
   cases e1:yaw t.cps.toList i with
   |none=>rw[e1]at e;cases e
   |some c=>
    rw[e1]at e
    cases e
    let⟨k,rfl,e1⟩:=zai e1;erw[yc]at ra ri;subst ra ri;exact zb4 value slice π s σ H _ _ v u Q I rx ry (.inr (.inr ⟨t,k,c,rfl,rfl,by rw[<-ze];exact hl,e1,q _ H φ .rfl rs (by erw[yc])⟩)) hs
  .cases e
 |_=>cases e
def zhD(ha:PE X a (tE S X ca))(hb:PE X b (tE S X cb))(hs:yaW b:=by exact λ_ _=>rfl):PE X (.Subscript a b pos) (tE S X (.idx ca cb)):=
 (ziR zfV ha hb hs).imp λσ H Q ⟨B,φ,st,ρ,rs,re,h⟩=>by
  erw[ev]at h;refine tE.bind rs re h λx H1 v st1 φ1 s1 rs1 re1 rv h1=>tE.bind rs1 re1 h1 λy H2 w st2 φ2 s2 rs2 re2 rw h2=>?_;let⟨z,e,q⟩:=zr h2 rs2;exact⟨B,φ2,st2,v,w,z,rs2,rv.step s2,rw,e,q⟩
theorem yd.cut{vs:List PV}{xs:List V}(lo hi:Option Int)(l:yd K cl B φ H vs xs):yd K cl B φ H (IC.cut vs lo hi) (ybF xs lo hi):=by
 have e1:∀n o,yb8 n o=HT.sIx n 0 o:=λn o=>by cases o<;>rfl
 have e2:∀n o,ycv n o=HT.sIx n n o:=λn o=>by cases o<;>rfl
 unfold IC.cut ybF;rw[l.length,e1,e2];exact(l.drop _).take _
def tO(S:Se)(X:Cx)(c:Ce):TO:=λσ H Q=>tE S X c σ H λx H1=>(x=.non/\Q AE H1) \/ ∃i,x=.int i/\Q (AA i) H1
def zge:PO X AE (tO S X (.cst .non)):=λπ s σ H Q I h=>by
 refine zgu π s σ H Q I ?_;let⟨B,φ,st,ρ,rs,re,h⟩:=h;erw[ev]at h;rcases h.ok rs (x:=V.non) (by erw[yc])with q|⟨i,z,_⟩
 .exact q.2
 .cases z
def zf6(ha:PE X a (tE S X ca)):PO X (AA a) (tO S X ca):=by
 intro π s σ H Q I hw;rw[evalPart_some];refine thn (ha π s σ H _ I hw) λu s1 kq=>?_;let⟨x,H1,I1,r1,q1⟩:=kq;rcases q1 with⟨rfl,q⟩|⟨i,rfl,q⟩
 .cases r1
  exact⟨AE,H1,I1,.none,q⟩
 .let⟨t,rfl⟩:=r1;exact⟨AA i,H1,I1,.int i t,q⟩
def rSl(S:Se)(X:Cx):V->Option Int->Option Int->Hp->VK->Prop:=λx lo hi H Q=>∃B φ st v z,yh X.K S.cl B φ H st/\yc X.K S.cl B φ H v x/\ybO v lo hi=AA z /\
 ∀z' H' φ',Step φ H φ' H'->yh X.K S.cl B φ' H' st->yc X.K S.cl B φ' H' z z'->Q z' H'
def zN{prog:AV}{w:A5}{A:A7}{E:AD->AH->Prop}{s:AH}{t sl:AI}{items:Array AD}{vl vu:AD}{lo hi:Option Int}{Q:AD->AH->Prop}(ht:IsTup s.heap t items)(hs:s.heap.IsSliceOf sl vl vu .none)(pl:ED vl lo)(pu:ED vu hi)
  (hw:HT.sIx items.size 0 lo=0/\HT.sIx items.size items.size hi=items.size)
  (h:Q (.ref t) s):AQ (model prog w) A (getItem (.ref t) (.ref sl)) Q E s:=by
 let⟨os,hos,hcs,hds⟩:=id hs;have hTs:s.TypeIs (.ref sl) "slice":=⟨os,hos,hcs⟩;unfold getItem
 try with_reducible refine BJ ?_
 first|refine AB (AK ?_)|skip
 refine AB (FK ht.typeIs ⋯ ?_);refine AB (BR (name:=AO "__getitem__") ht.typeIs An
  (BM An ht.typeIs Ee ?_ (Ey _ _)))
 show AQ _ _ (CO (.ref t) >>= _) _ _ s;refine AB (Eb ht ?_);refine AB (DL hTs ?_);rw[if_pos ⋯];refine AB (HT.sliceApplied_gen hs pl pu ?_);have hyes:(((HT.sIx items.size 0 lo:Nat):Int)==0&&(1:Int)==1&&(HT.sIx items.size items.size hi-HT.sIx items.size 0 lo)==items.size)=true:=by
  rw[hw.1,hw.2];simp
 show AQ _ _ (if (((HT.sIx items.size 0 lo:Nat):Int)==0&&(1:Int)==1&&(HT.sIx items.size items.size hi-HT.sIx items.size 0 lo)==items.size)=AC then _ else _) _ _ s;rw[if_pos hyes];refine AB (AB (DL ht.typeIs (AK ?_)));rw[if_pos ⋯]
 first
  |exact AB (AK (AK ⟨_,rfl,AK h⟩))
  |exact AB (Dz (AK ⟨_,rfl,AK h⟩))
  |(wp_step;wp_step;exact⟨_,rfl,AK h⟩)
def yfe(K:AF):V->Option Int->Option Int->Hp->VK->Prop:=λx lo hi H Q=>∃a xs,x=.ref a/\SqT K H a xs /\
 (HT.sIx xs.length 0 lo=0/\HT.sIx xs.length xs.length hi=xs.length)/\Q (.ref a) H
def zeU:SlR X (yfe X.K):=by
 intro π s σ H x v vl vu lo hi sl Q I rx hs pl pu h;let⟨a,xs,rfl,hx,hw,q⟩:=h
 cases rx
 let⟨its,r,ht,hz⟩:=I.tuple hx;have hlen:its.toArray.size=xs.length:=by rw[AW];exact r.length.symm
 refine⟨"tuple",_,An.lookup,ht.typeIs,?_⟩;exact zN ht hs pl pu (by rw[hlen];exact hw) ⟨.ref a,H,I,rfl,q⟩
def yfY:V->Option Int->Option Int->Hp->VK->Prop:=λx lo hi H Q=>∃y:AS,x=.str y/\y.length<=sizeLine/\Q (.str ⟨((y.cps.toList.drop (HT.sIx y.cps.toList.length 0 lo)).take (HT.sIx y.cps.toList.length y.cps.toList.length hi-HT.sIx y.cps.toList.length 0 lo)).toArray⟩) H
def zjv(lo hi:Option Int)(n:Nat):DN lo hi 1 n=sliceRange ((HT.sIx n 0 lo:Nat):Int) ((HT.sIx n n hi:Nat):Int) 1:=by
 unfold DN;erw[show (1:Int) > 0 by decide,if_true]
 congr 1
 .cases lo with
  |none=>simp[HT.sIx]
  |some i=>
   erw[HT.sIx]
   by_cases h:i<0
   .simp only[h,if_true]<;>lia
   .simp only[h,if_false]<;>lia
 .cases hi with
  |none=>simp[HT.sIx]
  |some i=>
   erw[HT.sIx]
   by_cases h:i<0
   .simp only[h,if_true]<;>lia
   .simp only[h,if_false]<;>lia
def zd3(y:AS)(lo hi:Option Int):Txt.slice y lo hi=⟨((y.cps.toList.drop (HT.sIx y.cps.toList.length 0 lo)).take (HT.sIx y.cps.toList.length y.cps.toList.length hi-HT.sIx y.cps.toList.length 0 lo)).toArray⟩:=by
 have hn:y.length=y.cps.toList.length:=by simp[Str.length]
 unfold Txt.slice;rw[zjv,hn,sliceRange_one];have ha:=HT.sIx_le y.cps.toList.length 0 (BI _) lo;have hb:=HT.sIx_le y.cps.toList.length y.cps.toList.length (AR _) hi;generalize HT.sIx y.cps.toList.length 0 lo=a,HT.sIx y.cps.toList.length y.cps.toList.length hi=b at *;split
 .rename_i c;erw[Ap,List.length_range,AJ,beq_iff_eq]at c;obtain⟨rfl,rfl⟩:a=0/\b=y.cps.toList.length:=by lia
  rw[Fx,Gb,F3]
 .rw[pick_run]
def zfp:SlR X yfY:=by
 intro π s σ H x v vl vu lo hi sl Q I rx hs pl pu h;let⟨y,rfl,hz,q⟩:=h;let⟨t,rfl⟩:=rx;rw[<-zd3]at q;refine⟨"str",_,PySem.F.slot_str_getitem.lookup,Ft _ _ _,?_⟩;have go:∀l u:Option (Int×Go),vl=partValue l->vu=partValue u->lo=l.map (·.1)->hi=u.map (·.1)->AQ (model X.prog X.w) X.A (getItem (.str y t) (.ref sl)) (EP X π σ Q) X.xe s:=by
  rintro l u rfl rfl rfl rfl
  refine wpAny_getItem_str_slice (l:=l) (u:=u) (st:=AE) hs rfl ?_;exact post_val_or_str ⟨BK (Txt.slice_le y _ _) hz,λt' k=>⟨.str _,H,I.tok k,⟨_,rfl⟩,q⟩⟩
 cases pl with
 |none=>
  cases pu with
  |none=>exact go AE AE rfl rfl rfl rfl
  |int j u=>exact go AE (AA (j,u)) rfl rfl rfl rfl
 |int i t1=>
  cases pu with
  |none=>exact go (AA (i,t1)) AE rfl rfl rfl rfl
  |int j u=>exact go (AA (i,t1)) (AA (j,u)) rfl rfl rfl rfl
def zfG:SlR X (rSl S X):=by
 rintro π s σ H x v vl vu lo hi sl Q I rx hs pl pu ⟨B,φ,st,w,z,rs,rw,e,q⟩
 have e1:∀n o,yb8 n o=HT.sIx n 0 o:=λn o=>by cases o<;>rfl
 have e2:∀n o,ycv n o=HT.sIx n n o:=λn o=>by cases o<;>rfl
 cases w with
 |tp k vs=>
  erw[ybO]at e;split at e
  .rename_i c
   cases e
   have rw':=rw;erw[yc]at rw;let⟨p,xs,rfl,rt,l⟩:=rw;refine zeU π s σ H _ v vl vu lo hi sl Q I rx hs pl pu ⟨p,xs,rfl,rt.sq,?_,q _ H φ .rfl rs rw'⟩;rw[l.length,e1,e2]at c;exact c
  .rename_i c
   cases e
   erw[yc]at rw;let⟨p,xs,rfl,rt,l⟩:=rw;refine zgX π s σ H _ v vl vu lo hi sl Q I rx hs pl pu ⟨p,xs,rfl,rt.sq,?_,λt ht=>q _ _ φ (.upd ht) (rs.upd ht) (.tup_new ht rs (l.cut lo hi))⟩;rw[l.length,e1,e2]at c;exact c
 |str y=>
  erw[ybO]at e;split at e
  .rename_i c
   cases e
   erw[yc]at rw;subst rw;refine zfp π s σ H _ v vl vu lo hi sl Q I rx hs pl pu ⟨y,rfl,by rw[<-ze];exact c,?_⟩;have:=q (.str ⟨(cut y.cps.toList lo hi).toArray⟩) H φ .rfl rs (by erw[yc]);rw[cut,e1,e2]at this;exact this
  .cases e
 |lst vs=>
  erw[ybO]at e
  cases e
  erw[yc]at rw;let⟨p,xs,rfl,rt,l⟩:=rw;exact zcN π s σ H _ v vl vu lo hi sl Q I rx hs pl pu ⟨p,xs,rfl,rt.sq,λt ht=>q _ _ φ (.upd ht) (rs.upd ht) (.lst_new ht rs (l.cut lo hi))⟩
 |scr vs=>
  erw[ybO]at e
  cases e
  erw[yc]at rw;let⟨p,xs,rfl,rt,l⟩:=rw;exact zcN π s σ H _ v vl vu lo hi sl Q I rx hs pl pu ⟨p,xs,rfl,(by rcases rt with rt|rt;exact .inl rt.1;exact .inr rt),λt ht=>q _ _ φ (.upd ht) (rs.upd ht) (.lst_new ht rs (l.cut lo hi))⟩
 |_=>cases e
def zhZ{lo hi:Option AM}(ha:PE X a (tE S X ca))(hl:PO X lo (tO S X cb))(hh:PO X hi (tO S X cc)):PE X (.Subscript a (.Slice lo hi AE p2) pos) (tE S X (.slc ca cb cc)):=
 (zen zfG ha hl hh).imp λσ H Q ⟨B,φ,st,ρ,rs,re,h⟩=>by
  erw[ev]at h;have oi:∀{v:PV} {x:V} {o:Option Int} {B φ H},yc X.K S.cl B φ H v x->ybA v=AA o->(x=.non/\o=AE) \/ ∃i,x=.int i/\o=AA i:=λ{v x o B φ H} r e=>by
   cases v with
   |non=>erw[yc]at r;cases e;exact .inl ⟨r,rfl⟩
   |int i=>erw[yc]at r;cases e;exact .inr ⟨i,r,rfl⟩
   |_=>cases e
  refine tE.bind rs re h λx H1 v st1 φ1 s1 rs1 re1 rv h1=>tE.bind rs1 re1 h1 λy H2 w st2 φ2 s2 rs2 re2 rw h2=>?_
  cases eo:ybA w with
  |none=>rw[eo]at h2;exact h2.elim
  |some o1=>
   rw[eo]at h2;have key:tO S X cc σ H2 λu H3=>rSl S X x o1 u H3 Q:=by
    refine tE.bind rs2 re2 h2 λy' H3 w' st3 φ3 s3 rs3 re3 rw' h3=>?_;let⟨z,e,q⟩:=zr h3 rs3;unfold ycQ at e
    cases eo':ybA w' with
    |none=>rw[eo']at e;cases e
    |some o2=>
     rw[eo']at e;have fin:rSl S X x o1 o2 H3 Q:=⟨B,φ3,st3,v,z,rs3,(rv.step s2).step s3,e,q⟩;rcases oi rw' eo' with⟨rfl,rfl⟩|⟨i,rfl,rfl⟩
     .exact .inl ⟨rfl,fin⟩
     .exact .inr ⟨i,rfl,fin⟩
   rcases oi rw eo with⟨rfl,rfl⟩|⟨i,rfl,rfl⟩
   .exact .inl ⟨rfl,key⟩
   .exact .inr ⟨i,rfl,key⟩
end
section
variable {S:Se}{X:Cx}{σ:St}{B:AI->Prop}{φ φ1:Ph}{H H1:Hp}{st:SO}{ρ:IC.Env}{p pos p2:Bf}{a b c d:AM}{ca cb cc:Ce}{es:List AM}{ces:Ces}{K:AF}{cl:Nat->AI}
def rB(S:Se)(X:Cx)(k:Blt):List V->Hp->VK->Prop:=λxs H Q=>∃B φ st vs z,yh X.K S.cl B φ H st/\yd X.K S.cl B φ H vs xs/\yaL k st vs=AA z /\
 ∀z' H' φ',Step φ H φ' H'->yh X.K S.cl B φ' H' st->yc X.K S.cl B φ' H' z z'->Q z' H'
theorem yd.one{v:PV}{xs:List V}(l:yd K cl B φ H [v] xs):∃x,xs=[x]/\yc K cl B φ H v x:=by
 erw[yd]at l;let⟨y,ys,rfl,r,rfl⟩:=l;exact⟨y,rfl,r⟩
theorem yd.two{v w:PV}{xs:List V}(l:yd K cl B φ H [v,w] xs):∃x y,xs=[x,y]/\yc K cl B φ H v x/\yc K cl B φ H w y:=by
 erw[yd]at l;let⟨y,ys,rfl,r,z,zs,rfl,r2,rfl⟩:=l;exact⟨y,z,rfl,r,r2⟩
def za2{k:Blt}{st:SO}{vs:List PV}{z:PV}(h:yaL k st vs=AA z)(h2:∀x y,yaL k st [x,y]=AE):∃x,vs=[x]:=by
 match vs,h with
 |[x],_=>exact⟨x,rfl⟩
 |[x,y],h=>rw[h2]at h;cases h
def zan{v:PV}{x:V}{vs:List PV}(rs:yh K cl B φ H st)(r:yc K cl B φ H v x)(h:yu st v=AA vs):∃a xs,x=.ref a/\SqL K H a xs/\yd K cl B φ H vs xs:=by
 cases v with
 |lst ws=>
  cases h
  erw[yc]at r;let⟨a,xs,rfl,rt,l⟩:=r;exact⟨a,xs,rfl,rt.sq,l⟩
 |loc n=>
  erw[yu]at h;split at h
  .rename_i ws hw
   cases h
   let⟨a,xs,rfl,_,hx,l⟩:=rs.list r hw;exact⟨a,xs,rfl,.of hx,l⟩
  .cases h
 |_=>cases h
def zih{v:PV}{x:V}{vs:List PV}(rs:yh K cl B φ H st)(r:yc K cl B φ H v x)(h:seqOf st v=AA vs):∃a xs,x=.ref a/\(SqL K H a xs \/ SqT K H a xs)/\yd K cl B φ H vs xs:=by
 cases v with
 |tp k ws=>
  cases h
  erw[yc]at r;let⟨a,xs,rfl,rt,l⟩:=r;exact⟨a,xs,rfl,.inr rt.sq,l⟩
 |lst ws=>
  let⟨a,xs,e,q,l⟩:=zan rs r (vs:=vs) h;exact⟨a,xs,e,.inl q,l⟩
 |loc n=>
  let⟨a,xs,e,q,l⟩:=zan rs r (vs:=vs) h;exact⟨a,xs,e,.inl q,l⟩
 |_=>cases h
def zh7:yN X (.builtin "len") (rB S X .len):=by
 rintro π s σ H xs us Q I r ⟨B,φ,st,vs,z,rs,l,e,q⟩
 let⟨v,rfl⟩:=za2 e λ_ _=>rfl;let⟨x,rfl,rv⟩:=l.one;erw[yaL,lenV]at e;split at e
 .rename_i t;split at e
  .rename_i c
   cases e
   erw[yc]at rv;subst rv;exact zbu π s σ H _ us Q I r ⟨t,rfl,by rw[<-ze];exact c,q _ H φ .rfl rs (by erw[yc])⟩
  .cases e
 .cases e1:seqOf st v with
  |none=>rw[e1]at e;cases e
  |some ws=>
   rw[e1]at e
   cases e
   let⟨a,ys,rfl,h,l⟩:=zih rs rv e1;refine zbB π s σ H _ us Q I r ⟨a,ys,rfl,?_,q _ H φ .rfl rs (by erw[yc];rw[l.length])⟩;exact h
def zh0:yN X (.builtin "abs") (rB S X .abs):=by
 rintro π s σ H xs us Q I r ⟨B,φ,st,vs,z,rs,l,e,q⟩
 let⟨v,rfl⟩:=za2 e λ_ _=>rfl;let⟨x,rfl,rv⟩:=l.one;erw[yaL]at e
 cases v with
 |int i=>
  cases e
  erw[yc]at rv;subst rv;exact zeh π s σ H _ us Q I r ⟨i,rfl,q _ H φ .rfl rs (by erw[yc])⟩
 |_=>cases e
theorem yd.ints:∀{ns:List Int} {xs:List V},yd K cl B φ H (ns.map .int) xs->xs=ns.map V.int
 |[],xs,h=>by simpa only[BQ,yd] using h
 |n::ns,xs,h=>by
  erw[AX,yd]at h;let⟨y,ys,rfl,r,l⟩:=h;erw[yc]at r;rw[r,yd.ints l];rfl
theorem yd.bls:∀{ns:List Bool} {xs:List V},yd K cl B φ H (ns.map .bl) xs->xs=ns.map V.bl
 |[],xs,h=>by simpa only[BQ,yd] using h
 |n::ns,xs,h=>by
  erw[AX,yd]at h;let⟨y,ys,rfl,r,l⟩:=h;erw[yc]at r;rw[r,yd.bls l];rfl
def zeK:yN X (.type "tuple") (rB S X .tuple):=by
 rintro π s σ H xs us Q I r ⟨B,φ,st,vs,z,rs,l,e,q⟩
 let⟨v,rfl⟩:=za2 e λ_ _=>rfl;let⟨x,rfl,rv⟩:=l.one;erw[yaL,yec]at e;split at e
 .cases e
  erw[yc]at rv;let⟨a,ys,rfl,rt,l⟩:=rv;exact zV π s σ H _ us Q I r ⟨a,ys,rfl,.inr ⟨rt.sq,q _ H φ .rfl rs (by erw[yc];exact⟨a,ys,rfl,rt,l⟩)⟩⟩
 .cases e1:yu st v with
  |none=>rw[e1]at e;cases e
  |some ws=>
   rw[e1]at e
   cases e
   let⟨a,ys,rfl,h,l⟩:=zan rs rv e1;exact zV π s σ H _ us Q I r ⟨a,ys,rfl,.inl ⟨h,λt ht=>q _ _ φ (.upd ht) (rs.upd ht) (.tup_new ht rs l)⟩⟩
def zfh:∀{vs:List PV} {m:Bool},IC.allB vs=AA m->∃ns:List Bool,vs=ns.map .bl/\m=ns.all id
 |[],m,h=>by cases h;exact⟨[],rfl,rfl⟩
 |.bl i::r,m,h=>by
  erw[IC.allB]at h;split at h
  .rename_i c e
   cases h
   let⟨ns,e1,e2⟩:=zfh e;exact⟨i::ns,by rw[e1];rfl,by rw[e2];rfl⟩
  .cases h
 |.non::r,m,h=>by cases h
 |.int _::r,m,h=>by cases h
 |.str _::r,m,h=>by cases h
 |.tp _ _::r,m,h=>by cases h
 |.lst _::r,m,h=>by cases h
 |.loc _::r,m,h=>by cases h
 |.fnc _::r,m,h=>by cases h
 |.exn _::r,m,h=>by cases h
 |.scr _::r,m,h=>by cases h
def zhd(hc:X.calm=AC):yN X (.builtin "all") (rB S X .all):=by
 rintro π s σ H xs us Q I r ⟨B,φ,st,vs,z,rs,l,e,q⟩
 let⟨v,rfl⟩:=za2 e λ_ _=>rfl;let⟨x,rfl,rv⟩:=l.one;erw[yaL]at e
 cases e1:yu st v with
 |none=>rw[e1]at e;cases e
 |some ws=>
  rw[e1]at e;erw[Bg]at e
  cases e2:IC.allB ws with
  |none=>rw[e2]at e;cases e
  |some m=>
   rw[e2]at e
   cases e
   let⟨ns,rfl,rfl⟩:=zfh e2;let⟨a,ys,rfl,h,l⟩:=zan rs rv e1;rw[l.bls]at h;exact zeO hc π s σ H _ us Q I r ⟨a,ns,rfl,h,q _ H φ .rfl rs (by erw[yc])⟩
variable {x:AS}{id T:String}{k:Blt}
def zhe(hc:yN X (.builtin id) (rB S X k))(hg:Gl X x)(hm:X.mg x=AE)(hv:bootBuiltins x=AA (.builtin id))(ha:PA X (a::es) (tAs S X ces))(hn:x ≠ "__name__":=by decide)(hdb:(x==("__debug__":AS))=false:=by decide)
  (he:starEach (a::es) X.env=(AG,eval a X.env)::starEach es X.env:=by rfl) (hpl:(backTo pos (starEach es X.env)).any (·.1)=false:=by rfl):PE X (.Call (.Name x p) (a::es) [] pos) (tE S X (.blt k ces)):=
 (za6 hc hg hm hv ha hn hdb he hpl).imp λσ H Q ⟨B,φ,st,ρ,rs,re,h⟩=>by
  erw[ev]at h;refine tAs.bind rs re h λxs H1 vs st1 φ1 s1 rs1 re1 rv h1=>?_;let⟨z,e,q⟩:=zr h1 rs1;exact⟨B,φ1,st1,vs,z,rs1,rv,e,q⟩
def zgA(hc:yN X (.type T) (rB S X k))(hg:Gl X x)(hm:X.mg x=AE)(hv:bootBuiltins x=AA (.type T))(ha:PA X (a::es) (tAs S X ces))(hn:x ≠ "__name__":=by decide)(hdb:(x==("__debug__":AS))=false:=by decide)
  (he:starEach (a::es) X.env=(AG,eval a X.env)::starEach es X.env:=by rfl) (hpl:(backTo pos (starEach es X.env)).any (·.1)=false:=by rfl):PE X (.Call (.Name x p) (a::es) [] pos) (tE S X (.blt k ces)):=
 (zbz hc hg hm hv ha hn hdb he hpl).imp λσ H Q ⟨B,φ,st,ρ,rs,re,h⟩=>by
  erw[ev]at h;refine tAs.bind rs re h λxs H1 vs st1 φ1 s1 rs1 re1 rv h1=>?_;let⟨z,e,q⟩:=zr h1 rs1;exact⟨B,φ1,st1,vs,z,rs1,rv,e,q⟩
end
section
variable {S:Se}{X:Cx}{σ:St}{B:AI->Prop}{φ φ1:Ph}{H H1:Hp}{st:SO}{ρ:IC.Env}{p pos p2 apos:Bf}{a b c d:AM}{ca cb cc:Ce}{es:List AM}{ces:Ces}{K:AF}{cl:Nat->AI}
theorem Step.put{l:AI}{u:HO}(hl:AA l∈φ):Step φ H φ (L2.upd H l u):=
 ⟨λb o n e=>by rw[za (show b≠l from λz=>n (by rw[z];exact hl))];exact e,AR _,λ_ _ _ e=>e,λ_ h=>.inl h⟩
theorem yh.put{n:Nat}{l:AI}{u:HO}{o:Ob}(rs:yh K cl B φ H st)(hn:φ[n]?=AA (AA l))(ho:ybt K cl B φ (L2.upd H l u) o l):yh K cl B φ (L2.upd H l u) (st.set n o):=by
 have hm:AA l∈φ:=AZ hn;have s:Step φ H φ (L2.upd H l u):=.put hm;have hlt:n<st.length:=by rw[<-rs.len];exact(Ab.mp hn).1
 refine⟨by rw[BB];exact rs.len,rs.inj,λm a e=>?_,λm o' e ho'=>?_,rs.nb,λa h=>?_⟩
 .by_cases hmn:m=n
  .subst hmn;rw[hn]at e;cases e;exact⟨o,by rw[Aq hlt],ho⟩
  .let⟨o',q,r⟩:=rs.obj m a e;refine⟨o',by rw[Al (BY hmn)];exact q,r.step s ?_⟩;rw[za]
   rintro rfl
   exact hmn (rs.inj m n a e hn)
 .by_cases hmn:m=n
  .subst hmn;exact⟨l,hn⟩
  .rw[Al (BY hmn)]at e;exact rs.liv m o' e ho'
 .let⟨w,e⟩:=rs.dom a h
  by_cases z:a=l
  .subst z;exact⟨u,zc⟩
  .exact⟨w,by rw[za z];exact e⟩
def zjb:1000000<=sizeLine:=by rw[Ax];decide
def zdz{m:Mth}{v:PV}{st:SO}{α β:Type}{Rel:Ph->Hp->α->β->Prop}{k:Bool->R α}{Q:β->Hp->Prop}(h:Run S X σ B φ H Rel (onO (yar m st v) k) Q):∃b,yar m st v=AA b/\Run S X σ B φ H Rel (k b) Q:=by
 cases e:yar m st v with
 |none=>rw[e]at h;exact h.elim
 |some z=>rw[e]at h;exact⟨z,rfl,h⟩
def zdK(ha:PE X a (tE S X ca))(hb:PE X b (tE S X cb))(hs:starEach [b] X.env=[(AG,eval b X.env)]:=by rfl)(hbase:attributeBase a "append" X.env (eval a X.env)=eval a X.env:=by rfl)(hline:(apos.endLine==pos.line)=true:=by rfl)
  (hfew:((backTo pos (starEach [b] X.env)).all (λx=>!x.1)&&(backToKw pos (keywordEach [] X.env)).all (λx=>x.1.isSome)&&decide (([b]:List AM).length+([]:List CG).length+(if ([]:List CG).isEmpty then 0 else 1)<30))=true:=by rfl):
  PE X (.Call (.Attribute a "append" apos) [b] [] pos) (tE S X (.mth .append ca (.cons cb .nil))):=
 (ziu PySem.F.plainAttrs_list EW PySem.F.type_list_append zbq ha (zaR (S:=S) hb zdl hs) hbase hfew hline hs rfl).imp λσ H Q ⟨B,φ,st,ρ,rs,re,h⟩=>by
  erw[ev]at h;refine tE.bind rs re h λx H1 v st1 φ1 s1 rs1 re1 rv h1=>?_;let⟨_,e1,h1⟩:=zdz h1;have t1:∃ws,yu st1 v=AA ws:=by
   erw[yar]at e1
   cases q:yu st1 v with
   |none=>rw[q]at e1;cases e1
   |some ws=>exact⟨ws,rfl⟩
  let⟨ws,t1⟩:=t1;let⟨l,xs,rfl,hl,_⟩:=zan rs1 rv t1;refine⟨.inl ⟨rfl,xs,hl⟩,tAs.bind rs1 re1 h1 λys H2 vs st2 φ2 s2 rs2 re2 rvs h2=>?_⟩;have rv2:=rv.step s2;rcases vs with _|⟨w,_|⟨w',t⟩⟩
  .exact h2.elim
  .let⟨y,rfl,rw⟩:=rvs.one;unfold ybI at h2;erw[ydw]at h2;split at h2
   .rename_i n;split at h2
    .rename_i zs hz;split at h2
     .rename_i c;let⟨l',xs',e,hn,hx,lr⟩:=rs2.list rv2 hz
      cases e
      refine⟨l,xs',y,rfl,rfl,hx,by have:=zjb;have:=lr.length;lia,?_⟩;exact h2 _ _ φ2 (.put (AZ hn)) (rs2.put hn ⟨_,zc,(lr.append (by erw[yd];exact⟨y,[],rfl,rw,rfl⟩)).step (.put (AZ hn))⟩) (by erw[yc])
     .exact h2.elim
    .exact h2.elim
   .exact h2.elim
  .exact h2.elim
end
section
variable (S:Se)(X:Cx)
def yao(B:AI->Prop)(φ:Ph)(H:Hp)(f:Fl)(D:Ends):Prop:=
 match f with
 |.nx ρ' st'=>∀σ' H' φ',Step φ H φ' H'->yh X.K S.cl B φ' H' st'->yo X.K S.cl B φ' H' ρ' σ'->D.nx σ' H'
 |.rt v st'=>∀x H' φ',Step φ H φ' H'->yh X.K S.cl B φ' H' st'->yc X.K S.cl B φ' H' v x->D.rt x H'
 |.bk ρ' st'=>∀σ' H' φ',Step φ H φ' H'->yh X.K S.cl B φ' H' st'->yo X.K S.cl B φ' H' ρ' σ'->D.bk σ' H'
 |.ct ρ' st'=>∀σ' H' φ',Step φ H φ' H'->yh X.K S.cl B φ' H' st'->yo X.K S.cl B φ' H' ρ' σ'->D.ct σ' H'
 |.exc k ρ' st'=>∀σ' φ1 H1 e s',Step φ H φ1 H1->yo X.K S.cl B φ1 H1 ρ' σ'->ExcAt S X σ' B φ1 H1 k st' e s'->X.xe e s'
 |.bad=>False
def tS(c:Cs):TS:=λD σ H=>∃B φ st ρ,yh X.K S.cl B φ H st/\yo X.K S.cl B φ H ρ σ/\yao S X B φ H (ex S.call ρ st c) D
def tSs(c:Css):TS:=λD σ H=>∃B φ st ρ,yh X.K S.cl B φ H st/\yo X.K S.cl B φ H ρ σ/\yao S X B φ H (exs S.call ρ st c) D
end
section
variable {S:Se}{X:Cx}{σ:St}{B:AI->Prop}{φ φ1:Ph}{H H1:Hp}{st:SO}{ρ:IC.Env}{D:Ends}{pos p2 px:Bf}{a b c o:AM}{ca cb cc:Ce}{s1:Bd}{ss ss':List Bd}{c1:Cs}{cs cs':Css}
theorem yao.on{f:Fl}(s:Step φ H φ1 H1)(h:yao S X B φ H f D):yao S X B φ1 H1 f D:=by
 cases f with
 |nx ρ st=>exact λσ' H' φ' t=>h σ' H' φ' (s.trans t)
 |rt ρ st=>exact λσ' H' φ' t=>h σ' H' φ' (s.trans t)
 |bk ρ st=>exact λσ' H' φ' t=>h σ' H' φ' (s.trans t)
 |ct ρ st=>exact λσ' H' φ' t=>h σ' H' φ' (s.trans t)
 |exc k ρ st=>exact λσ' φ2 H2 e s' t=>h σ' φ2 H2 e s' (s.trans t)
 |bad=>exact h
theorem tE.fl{k:PV->SO->Fl}{P:V->Hp->Prop}(rs:yh X.K S.cl B φ H st)(re:yo X.K S.cl B φ H ρ σ)(h:yao S X B φ H ((ev S.call ρ st ca).fl ρ k) D)
  (n:∀x H1 v st1 φ1,Step φ H φ1 H1->yh X.K S.cl B φ1 H1 st1->yo X.K S.cl B φ1 H1 ρ σ->yc X.K S.cl B φ1 H1 v x->yao S X B φ1 H1 (k v st1) D->P x H1):tE S X ca σ H P:=by
 refine⟨B,φ,st,ρ,rs,re,?_⟩
 cases e:ev S.call ρ st ca with
 |ok v st'=>
  rw[e]at h;exact λx H' φ' s rs' rv=>n x H' v st' φ' s rs' (re.step s) rv (h.on s)
 |exc k st'=>
  rw[e]at h;exact λe s' x=>h σ φ H e s' .rfl re x
 |bad=>rw[e]at h;exact h
theorem PS.imp{t t':TS}(h:PS X s1 t')(k:∀D σ H,t D σ H->t' D σ H):PS X s1 t:=λπ s σ H D I q=>h π s σ H D I (k D σ H q)
theorem PSs.imp{t t':TS}(h:PSs X ss t')(k:∀D σ H,t D σ H->t' D σ H):PSs X ss t:=λπ s σ H D I q=>h π s σ H D I (k D σ H q)
theorem yo.set{K:AF}{cl:Nat->AI}(r:yo K cl B φ H ρ σ)(i:Nat){v:PV}{x:V}(rv:yc K cl B φ H v x):yo K cl B φ H (ρ.set i (AA v)) (σ.set i (AA x)):=by
 refine⟨by rw[BB,BB];exact r.len,λj w e=>?_⟩
 by_cases h:j=i
 .subst h
  by_cases hl:j<ρ.length
  .rw[Aq hl]at e
   cases e
   exact⟨x,by rw[Aq (by rw[<-r.len];exact hl)],rv⟩
  .rw[Bn (by rw[BB];lia)]at e
   cases e
 .rw[Al (BY h)]at e ⊢;exact r.get j w e
def zia:PSs X [] (tSs S X .nil):=zjl.imp λD σ H ⟨B,φ,st,ρ,rs,re,h⟩=>by
 erw[exs]at h;exact h σ H φ .rfl rs re
def zfE(h1:PS X s1 (tS S X c1))(h2:PSs X ss (tSs S X cs)):PSs X (s1::ss) (tSs S X (.cons c1 cs)):=
 (zel h1 h2).imp λD σ H ⟨B,φ,st,ρ,rs,re,h⟩=>by
  erw[exs]at h;refine⟨B,φ,st,ρ,rs,re,?_⟩
  cases e:ex S.call ρ st c1 with
  |nx ρ1 st1=>
   rw[e]at h;exact λσ' H' φ' s rs' re'=>⟨B,φ',st1,ρ1,rs',re',h.on s⟩
  |rt v st1=>rw[e]at h;exact h
  |bk ρ1 st1=>rw[e]at h;exact h
  |ct ρ1 st1=>rw[e]at h;exact h
  |exc k ρ1 st1=>rw[e]at h;exact h
  |bad=>rw[e]at h;exact h
def zfZ(he:PE X a (tE S X ca))(hs:swapsWith a AE pos.line X.env=pure false:=by rfl):PS X (.Expr a pos) (tS S X (.expr ca)):=
 (zfU he hs).imp λD σ H ⟨B,φ,st,ρ,rs,re,h⟩=>by
  erw[ex]at h;exact tE.fl rs re h λx H1 v st1 φ1 s rs1 re1 rv h1=>h1 σ H1 φ1 .rfl rs1 re1
def zgE(he:PE X a (tE S X ca)):PS X (.Return (AA a) pos) (tS S X (.ret ca)):=
 (zhc he).imp λD σ H ⟨B,φ,st,ρ,rs,re,h⟩=>by
  erw[ex]at h;exact tE.fl rs re h λx H1 v st1 φ1 s rs1 re1 rv h1=>h1 x H1 φ1 .rfl rs1 rv
def zf3:PS X (.Return AE pos) (tS S X (.ret (.cst .non))):=
 zjm.imp λD σ H ⟨B,φ,st,ρ,rs,re,h⟩=>by
  erw[ex,ev,R.fl]at h;exact h .non H φ .rfl rs (by erw[yc])
def zhC{i:Nat}{x:AS}(hN:X.N.Nodup)(hi:X.N[i]?=AA x)(hx:Loc X.env.scope x)(he:PE X a (tE S X ca))(hs:swapsWith a (AA (.Name x px)) pos.line X.env=pure false:=by rfl)
  (hf:X.fn x=AC \/ X.env.scope.names.lookup x=AA .local:=by first|exact .inl rfl|exact .inr rfl|assumption):PS X (.Assign [.Name x px] a pos) (tS S X (.asg (.n i) ca)):=
 (zg5 hN hi hx he hs hf).imp λD σ H ⟨B,φ,st,ρ,rs,re,h⟩=>by
  erw[ex]at h;exact tE.fl rs re h λx H1 v st1 φ1 s rs1 re1 rv h1=>h1 _ H1 φ1 .rfl rs1 (re1.set i rv)
theorem flT(r:R PV)(f:Bool->SO->Fl):(r.fl ρ λx st1=>onF (yag st1 x) λk=>f k st1)=(yau r).fl ρ f:=by
 cases r with
 |ok v s=>
  erw[R.fl,yau,R.bind]
  cases yag s v<;>rfl
 |exc c s=>rfl
 |bad=>rfl
theorem tTs.fl{k:Bool->SO->Fl}{P:Bool->Hp->Prop}(rs:yh X.K S.cl B φ H st)(re:yo X.K S.cl B φ H ρ σ)(h:yao S X B φ H ((yau (ev S.call ρ st ca)).fl ρ k) D)
  (n:∀b H1 st1 φ1,Step φ H φ1 H1->yh X.K S.cl B φ1 H1 st1->yo X.K S.cl B φ1 H1 ρ σ->yao S X B φ1 H1 (k b st1) D->P b H1):tTs S X ca σ H P:=by
 refine⟨B,φ,st,ρ,rs,re,?_⟩
 cases e:yau (ev S.call ρ st ca)with
 |ok v st'=>
  rw[e]at h;exact λx H' φ' s rs' rv=>by
   subst rv;exact n v H' st' φ' s rs' (re.step s) (h.on s)
 |exc k st'=>
  rw[e]at h;exact λe s' x=>h σ φ H e s' .rfl re x
 |bad=>rw[e]at h;exact h
def ziG(hc:PT X c (tTs S X cc))(ha:PSs X ss (tSs S X cs))(hb:PSs X ss' (tSs S X cs')):PS X (.If c ss ss' pos) (tS S X (.ite cc cs cs')):=
 (ziQ hc ha hb).imp λD σ H ⟨B,φ,st,ρ,rs,re,h⟩=>by
  erw[ex]at h;rw[flT _ λk st1=>cond k (exs S.call ρ st1 cs) (exs S.call ρ st1 cs')]at h;refine tTs.fl rs re h λk H1 st1 φ1 s rs1 re1 h1=>?_
  cases k with
  |true=>exact⟨B,φ1,st1,ρ,rs1,re1,h1⟩
  |false=>exact⟨B,φ1,st1,ρ,rs1,re1,h1⟩
def zhO{i:Nat}{x:AS}{op:Dn}{bo:BOp}(hN:X.N.Nodup)(hi:X.N[i]?=AA x)(hx:Loc X.env.scope x)(he:PE X a (tE S X ca))(ho:PIp X op (rT2 S X (ya3 bo)))
  (hf:X.fn x=AC \/ X.env.scope.names.lookup x=AA .local:=by first|exact .inl rfl|exact .inr rfl|assumption) (hd:(x==("__debug__":AS))=false:=by decide) (hcd:(x==("__classdict__":AS))=false:=by decide):PS X (.AugAssign (.Name x px) op a pos) (tS S X (.aug i bo ca)):=
 (zhP hN hi hx he ho hf).imp λD σ H ⟨B,φ,st,ρ,rs,re,h⟩=>by
  erw[ex]at h
  cases q:ρ[i]? with
  |none=>rw[q]at h;exact h.elim
  |some w=>
   cases w with
   |none=>rw[q]at h;exact h.elim
   |some w=>
    rw[q]at h;let⟨y,hy,rw⟩:=re.get i w q;refine⟨y,hy,tE.fl rs re h λz H1 v st1 φ1 s rs1 re1 rv h1=>?_⟩
    cases e:ya3 bo w v with
    |none=>rw[e]at h1;exact h1.elim
    |some u=>
     rw[e]at h1;exact⟨B,φ1,st1,w,v,u,rs1,rw.step s,rv,e,λz' H' φ' s' rs' rz=>h1 _ H' φ' s' rs' ((re1.step s').set i rz)⟩
end
section
variable (S:Se)(X:Cx)
structure Drw(B:AI->Prop)(φ0:Ph)(H0:Hp)(xs:List PV)(J:It):Prop where
 stop:∀φ H,Step φ0 H0 φ H->J.stop xs.length H
 go:∀(i:Nat) φ H,Step φ0 H0 φ H->i<xs.length->J.go i H
 yld:∀(i:Nat) φ H st x H' (B':AI->Prop),(∀y,B' y->B y \/ H0 y=AE)->Step φ0 H0 φ H->yh X.K S.cl B' φ H st->i<xs.length->J.yld i H x H'->∃v,xs[i]?=AA v/\yc X.K S.cl B' φ H' v x/\∀b o,H b=AA o->H' b=AA o
abbrev RD(B:AI->Prop):Ph->Hp->List PV->It->Prop:=λφ H=>Drw S X B φ H
def tI(c:Cit):TI:=λσ H R=>∃B φ st ρ,yh X.K S.cl B φ H st/\yo X.K S.cl B φ H ρ σ/\Run S X σ B φ H (RD S X B) (evi S.call ρ st c) R
end
section
variable {S:Se}{X:Cx}{σ:St}{B:AI->Prop}{φ φ1:Ph}{H H1:Hp}{st:SO}{ρ:IC.Env}{D:Ends}{pos p p2 px:Bf}{a b c o tg l:AM}{ca cb cc:Ce}{es:List AM}{ces:Ces}{ss:List Bd}{cs:Css}{ci:Cit}{ct:Tg}
def zfx:PE X a (tE S X .nope):=λπ s σ H Q I ⟨B,φ,st,ρ,rs,re,h⟩=>by
 erw[ev]at h;exact h.elim
def zgg{s1:Bd}:PS X s1 (tS S X .nope):=λπ s σ H D I ⟨B,φ,st,ρ,rs,re,h⟩=>by
 erw[ex]at h;exact h.elim
theorem PI.imp{t t':TI}(h:PI X tg l t')(k:∀σ H R,t σ H R->t' σ H R):PI X tg l t:=λπ s σ H R I q=>h π s σ H R I (k σ H R q)
def zeZ{tl:TE}(hl:PE X l tl):PI X tg l (λσ H R=>tl σ H λx H1=>∃a,x=.ref a/\(((∃xs,SqL X.K H1 a xs)/\R (Itl X.K a) H1) \/ ((∃xs,SqT X.K H1 a xs)/\R (Itt X.K a) H1))):=by
 intro π s σ H R I h;refine thn (hl π s σ H _ I h) λv s1 kq=>?_;let⟨x,H1,I1,r1,q1⟩:=kq;let⟨a,e,q1⟩:=q1;subst e
 cases r1
 rcases q1 with⟨⟨xs,hq⟩,q⟩|⟨⟨xs,hq⟩,q⟩
 .let⟨its,rv,p,hz⟩:=I1.list hq;refine Db p.isList ?_;refine⟨s1.heap.objs.size,[s1.heap.objs.size],_,_,H1,rfl,I1.kept (t':=s1.toks) λb o e=>AL _ e,zc9 a _,⟨_,A1 _ rfl,rfl,rfl⟩,λb hb=>?_,q⟩;have e:b=s1.heap.objs.size:=by simpa using hb
  subst e;exact I1.fpOk (AR _) (I1.hok.fresh (AR _))
 .let⟨its,rv,p,hz⟩:=I1.tuple hq;refine C5 (show s1.heap.IsTuple a its.toArray from p) ?_;refine⟨s1.heap.objs.size,[s1.heap.objs.size],_,_,H1,rfl,I1.kept (t':=s1.toks) λb o e=>AL _ e,zcv a _,⟨_,A1 _ rfl,rfl,rfl⟩,λb hb=>?_,q⟩;have e:b=s1.heap.objs.size:=by simpa using hb
  subst e;exact I1.fpOk (AR _) (I1.hok.fresh (AR _))
def zf1{k:Bool}{vs:List PV}{xs:List V}{y:AI}(rt:ybi X.K B φ H k y xs)(l:yd X.K S.cl B φ H vs xs):Drw S X B φ H vs (Itt X.K y):=by
 have hl:=l.length;refine⟨λφ' H' s=>⟨xs,(rt.step s).sq,by lia⟩,λi φ' H' s hi=>⟨xs,xs[i]'∅,(rt.step s).sq,by simp[show i<xs.length by lia]⟩,λi φ' H' st x H2 B' hB s rs hi q=>?_⟩;let⟨rfl,q⟩:=q;obtain⟨v,hv⟩:∃v,vs[i]?=AA v:=⟨vs[i],by simp[hi]⟩;let⟨x',hx',rv⟩:=l.get i hv;have:=q xs (rt.step s).sq;rw[this]at hx'
 cases hx'
 exact⟨v,hv,(rv.moreB hB).step s,λ_ _ e=>e⟩
def zfY{vs:List PV}{xs:List V}{y:AI}(rt:yb0 B φ H y xs)(l:yd X.K S.cl B φ H vs xs):Drw S X B φ H vs (Itl X.K y):=by
 have hl:=l.length;refine⟨λφ' H' s=>⟨xs,(rt.step s).sq,by lia⟩,λi φ' H' s hi=>⟨xs,xs[i]'∅,(rt.step s).sq,by simp[show i<xs.length by lia]⟩,λi φ' H' st x H2 B' hB s rs hi q=>?_⟩;let⟨rfl,q⟩:=q;obtain⟨v,hv⟩:∃v,vs[i]?=AA v:=⟨vs[i],by simp[hi]⟩;let⟨x',hx',rv⟩:=l.get i hv;have:=q xs (rt.step s).sq;rw[this]at hx'
 cases hx'
 exact⟨v,hv,(rv.moreB hB).step s,λ_ _ e=>e⟩
def zhl(hl:PE X l (tE S X ca)):PI X tg l (tI S X (.seq ca)):=
 (zeZ hl).imp λσ H R ⟨B,φ,st,ρ,rs,re,h⟩=>by
  erw[evi]at h;refine tE.bind rs re h λx H1 v st1 φ1 s1 rs1 re1 rv h1=>?_
  cases v with
  |tp k vs=>
   erw[yc]at rv;let⟨y,xs,rfl,rt,l⟩:=rv;exact⟨y,rfl,.inr ⟨⟨xs,rt.sq⟩,h1.ok rs1 (zf1 rt l)⟩⟩
  |lst vs=>
   erw[yc]at rv;let⟨y,xs,rfl,rt,l⟩:=rv;exact⟨y,rfl,.inl ⟨⟨xs,rt.sq⟩,h1.ok rs1 (zfY rt l)⟩⟩
  |_=>exact h1.elim
def zaB:∀(n:Nat) (lo d:Int) (i:Nat),(yF n lo d)[i]?=if i<n then AA (.int (lo+i*d))else AE
 |0,lo,d,i=>by simp[yF]
 |n+1,lo,d,0=>by simp[yF]
 |n+1,lo,d,i+1=>by
  erw[yF,A6];rw[zaB n (lo+d) d i]
  by_cases h:i<n
  .rw[if_pos h,if_pos ∅,Int.natCast_succ,Int.add_mul,Int.one_mul,Int.add_assoc,Gc d]
  .rw[if_neg h,if_neg ∅]
def zG:∀(n:Nat) (lo d:Int),(yF n lo d).length=n
 |0,lo,d=>rfl
 |n+1,lo,d=>by simp[yF,zG n]
def zcO{lo:Int}{n:Nat}:Drw S X B φ H (yF n lo 1) (Itr lo n):=by
 refine⟨λφ' H' s=>by rw[zG];exact AR _,λi φ' H' s hi=>by rw[zG]at hi;exact hi,λi φ' H' st x H2 B' hB s rs hi q=>?_⟩;rw[zG]at hi;let⟨rfl,rfl⟩:=q;refine⟨.int (lo+i),?_,by erw[yc],λ_ _ e=>e⟩;rw[zaB,if_pos hi,Gg]
def zgx{o:Option (List PV)}{st:SO}{Q:It->Hp->Prop}(h:Run S X σ B φ H (RD S X B) (toL o st) Q):∃xs,o=AA xs/\Run S X σ B φ H (RD S X B) (.ok xs st) Q:=by
 cases o with
 |none=>exact h.elim
 |some z=>exact⟨z,rfl,h⟩
def zdD(hg:Gl X "range")(hm:X.mg "range"=AE)(ha:PE X a (tE S X ca))(hs:starEach [a] X.env=[(AG,eval a X.env)]:=by rfl):PI X tg (.Call (.Name "range" p) [a] [] pos) (tI S X (.range1 ca)):=
 (zd6 hg hm (zp ha zi2 hs) hs).imp λσ H R ⟨B,φ,st,ρ,rs,re,h⟩=>by
  erw[evi]at h;refine tE.bind rs re h λx H1 v st1 φ1 s1 rs1 re1 rv h1=>?_;let⟨xs,e,h1⟩:=zgx h1
  cases v with
  |int j=>
   erw[ycJ]at e;split at e
   .cases e
    erw[yc]at rv;subst rv;exact⟨j,rfl,by lia,by lia,h1.ok rs1 zcO⟩
   .cases e
  |_=>cases e
def zal:∀(xs:List PV) (k i:Nat),(yL k xs)[i]?=(xs[i]?).map λx=>.tup [.int ((k+i:Nat):Int),x]
 |[],k,i=>by simp[yL]
 |x::xs,k,0=>by simp[yL]
 |x::xs,k,i+1=>by
  erw[yL,A6];rw[zal xs (k+1) i];have:k+1+i=k+(i+1):=by lia
  rw[this]
def zar:∀(xs:List PV) (k:Nat),(yL k xs).length=xs.length
 |[],k=>rfl
 |x::xs,k=>by simp[yL,zar xs]
def zeV{k:Bool}{vs:List PV}{xs:List V}{y:AI}(rt:ybi X.K B φ H k y xs)(l:yd X.K S.cl B φ H vs xs):Drw S X B φ H (yL 0 vs) (Ite X.K y):=by
 have hl:=l.length;have hp:=zar vs 0;refine⟨λφ' H' s=>⟨xs,(rt.step s).sq,by lia⟩,λi φ' H' s hi=>⟨xs,xs[i]'∅,(rt.step s).sq,by simp[show i<xs.length by lia]⟩,λi φ' H' st x H2 B' hB s rs hi q=>?_⟩;let⟨T,hT,rfl,q⟩:=q;obtain⟨v,hv⟩:∃v,vs[i]?=AA v:=⟨vs[i]'∅,by simp[show i<vs.length by lia]⟩;let⟨x',hx',rv⟩:=l.get i hv;have e:=q xs x' (rt.step s).sq hx';subst e;refine⟨.tup [.int i,v],?_,.tup_new hT rs ?_,λb o e=>by rw[za (zb e hT)];exact e⟩
 .rw[zal,hv];simp
 .simp only[yd,yc];exact⟨_,_,rfl,rfl,x',[],rfl,(rv.moreB hB).step s,rfl⟩
def zf7{es:List AM}{kk:Nat}{tp:Bf}(hg:Gl X "enumerate")(hm:X.mg "enumerate"=AE)(ha:PE X a (tE S X ca))(hs:starEach [a] X.env=[(AG,eval a X.env)]:=by rfl):
  PI X (.Tuple es kk tp) (.Call (.Name "enumerate" p) [a] [] pos) (tI S X (.enum ca)):=
 (zeB hg hm (zp ha zi2 hs) hs).imp λσ H R ⟨B,φ,st,ρ,rs,re,h⟩=>by
  erw[evi]at h;refine tE.bind rs re h λx H1 v st1 φ1 s1 rs1 re1 rv h1=>?_
  cases v with
  |tp k vs=>
   erw[yc]at rv;let⟨y,xs,rfl,rt,l⟩:=rv;exact⟨y,rfl,⟨xs,rt.sq⟩,h1.ok rs1 (zeV rt l)⟩
  |_=>exact h1.elim
def tG(S:Se)(X:Cx)(t:Tg):TG:=λv σ H Q=>∃B φ st ρ w ρ',yh X.K S.cl B φ H st/\yo X.K S.cl B φ H ρ σ/\yc X.K S.cl B φ H w v/\yx t w ρ=AA ρ'/\∀σ',yo X.K S.cl B φ H ρ' σ'->Q σ' H
theorem PG.imp{t t':TG}(h:PG X tg t')(k:∀v σ H Q,t v σ H Q->t' v σ H Q):PG X tg t:=λπ s σ H v u Q I rv q=>h π s σ H v u Q I rv (k v σ H Q q)
def zf4{i:Nat}{x:AS}(hN:X.N.Nodup)(hi:X.N[i]?=AA x)(hx:Loc X.env.scope x)(hf:X.fn x=AC \/ X.env.scope.names.lookup x=AA .local:=by first|exact .inl rfl|exact .inr rfl|assumption):PG X (.Name x pos) (tG S X (.n i)):=
 (zbU hN hi hx hf).imp λv σ H Q ⟨B,φ,st,ρ,w,ρ',rs,re,rv,e,q⟩=>by
  cases e
  exact q _ (re.set i rv)
def gNs(l:List Nat):TGs:=λvs σ H Q=>vs.length=l.length/\Q ((l.zip vs).foldl (λσ p=>σ.set p.1 (AA p.2)) σ) H
theorem PGs.imp{es:List AM}{t t':TGs}(h:PGs X es t')(k:∀v σ H Q,t v σ H Q->t' v σ H Q):PGs X es t:=λπ s σ H vs us Q I rv q=>h π s σ H vs us Q I rv (k vs σ H Q q)
def zfX:PGs X [] (gNs []):=zjn.imp λvs σ H Q ⟨h,q⟩=>by
 cases vs with
 |nil=>exact⟨rfl,q⟩
 |cons _ _=>cases h
def zeM{es:List AM}{l:List Nat}{i:Nat}{x:AS}(hN:X.N.Nodup)(hi:X.N[i]?=AA x)(hx:Loc X.env.scope x)(h2:PGs X es (gNs l))(hf:X.fn x=AC \/ X.env.scope.names.lookup x=AA .local:=by first|exact .inl rfl|exact .inr rfl|assumption):PGs X (.Name x pos::es) (gNs (i::l)):=
 (zee (zbU hN hi hx hf) h2).imp λvs σ H Q ⟨h,q⟩=>by
  cases vs with
  |nil=>cases h
  |cons v vs=>exact⟨v,vs,rfl,by simpa using h,q⟩
theorem yo.sets{K:AF}{cl:Nat->AI}:∀(l:List Nat) {vs:List PV} {xs:List V} {ρ:IC.Env} {σ:St},yo K cl B φ H ρ σ->yd K cl B φ H vs xs ->
  yo K cl B φ H ((l.zip vs).foldl (λρ p=>ρ.set p.1 (AA p.2)) ρ) ((l.zip xs).foldl (λσ p=>σ.set p.1 (AA p.2)) σ)
 |[],vs,xs,ρ,σ,re,l=>by simpa using re
 |i::is,[],xs,ρ,σ,re,l=>by
  erw[yd]at l;subst l;simpa using re
 |i::is,v::vs,xs,ρ,σ,re,l=>by
  erw[yd]at l;let⟨y,ys,rfl,r,l⟩:=l;erw[D1,CK];exact yo.sets is (re.set i r) l
def zgF{es:List AM}{l:List Nat}{k:Nat}(hc:X.calm=AC)(h:PGs X es (gNs l))(hn:(assignEach es X.env).length=l.length:=by rfl)(hst:(assignEach es X.env).findIdx? (·.1)=none:=by rfl):PG X (.Tuple es k pos) (tG S X (.t l)):=
 (zhH hc h hn hst).imp λv σ H Q ⟨B,φ,st,ρ,w,ρ',rs,re,rv,e,q⟩=>by
  cases w with
  |tp kk vs=>
   erw[yx]at e;split at e
   .rename_i c
    cases e
    erw[yc]at rv;let⟨y,xs,rfl,rt,lr⟩:=rv;have hl:=lr.length;exact⟨y,xs,rfl,rt.sq,by lia,by lia,q _ (yo.sets l re lr)⟩
   .cases e
  |_=>cases e
def zgj{es:List AM}{l:List Nat}{k:Nat}(he:PE X a (tE S X ca))(hg:PG X (.Tuple es k p2) (tG S X (.t l)))(hs:swapsWithSole [.Tuple es k p2] a pos.line X.env=pure false:=by rfl)(hw:swappedStores [.Tuple es k p2] a X.env=pure none:=by rfl):
  PS X (.Assign [.Tuple es k p2] a pos) (tS S X (.asg (.t l) ca)):=
 (ze5 he hg hs hw).imp λD σ H ⟨B,φ,st,ρ,rs,re,h⟩=>by
  erw[ex]at h;refine tE.fl rs re h λx H1 v st1 φ1 s rs1 re1 rv h1=>?_
  cases e:yx (.t l) v ρ with
  |none=>rw[e]at h1;exact h1.elim
  |some ρ'=>
   rw[e]at h1;exact⟨B,φ1,st1,ρ,v,ρ',rs1,re1,rv,e,λσ' re'=>h1 σ' H1 φ1 .rfl rs1 re'⟩
theorem tI.fl{k:List PV->SO->Fl}{P:It->Hp->Prop}(rs:yh X.K S.cl B φ H st)(re:yo X.K S.cl B φ H ρ σ)(h:yao S X B φ H ((evi S.call ρ st ci).fl ρ k) D)
  (n:∀x H1 v st1 φ1,Step φ H φ1 H1->yh X.K S.cl B φ1 H1 st1->yo X.K S.cl B φ1 H1 ρ σ->Drw S X B φ1 H1 v x->yao S X B φ1 H1 (k v st1) D->P x H1):tI S X ci σ H P:=by
 refine⟨B,φ,st,ρ,rs,re,?_⟩
 cases e:evi S.call ρ st ci with
 |ok v st'=>
  rw[e]at h;exact λx H' φ' s rs' rv=>n x H' v st' φ' s rs' (re.step s) rv (h.on s)
 |exc k st'=>
  rw[e]at h;exact λe s' x=>h σ φ H e s' .rfl re x
 |bad=>rw[e]at h;exact h
def zhg(hp:Do (model X.prog X.w) X.A X.env X.xe)(hc:X.calm=AC)(hi:PI X tg l (tI S X ci))(hg:PG X tg (tG S X ct))(hb:PSs X ss (tSs S X cs))(hs:∀x,foldedSetIterable l X.env x=pure x:=by intro _;rfl):
  PS X (.For tg l ss [] pos) (tS S X (.for ct ci cs)):=
 (zhV hp hc hi hg hb hs).imp λD σ H ⟨B,φ,st,ρ,rs,re,h⟩=>by
  erw[ex]at h;refine tI.fl rs re h λJ H1 xs st1 φ1 s1 rs1 re1 dr h1=>?_;refine⟨λi m σ H=>∃φ st ρ,i+m=xs.length/\Step φ1 H1 φ H/\yh X.K S.cl B φ H st/\yo X.K S.cl B φ H ρ σ/\yao S X B φ H (forL ct (λρ2 st2=>exs S.call ρ2 st2 cs) (xs.drop i) ρ st) D,
   ⟨xs.length,φ1,st1,ρ,by lia,.rfl,rs1,re1,by simpa using h1⟩,?_⟩
  rintro i m σ2 H2 ⟨φ2,st2,ρ2,hm,s2,rs2,re2,h2⟩
  by_cases hi:i<xs.length
  .refine .inr ⟨dr.go i φ2 H2 s2 hi,λσ' H'=>∃φ st ρ,Step φ1 H1 φ H'/\yh X.K S.cl B φ H' st/\yo X.K S.cl B φ H' ρ σ'/\yao S X B φ H' (forL ct (λρ2 st2=>exs S.call ρ2 st2 cs) (xs.drop (i+1)) ρ st) D,
    λσ' H' ⟨φ,st,ρ,s,q⟩=>⟨m-1,by lia,φ,st,ρ,by lia,s,q⟩,λx H3 hy=>?_⟩
   let⟨v,hv,rv,kk⟩:=dr.yld i φ2 H2 st2 x H3 B (λ_ z=>.inl z) s2 rs2 hi hy;have e:xs.drop i=v::xs.drop (i+1):=by
    rw[Bq hi];rw[BE hi]at hv;rw[A0 hv]
   have s3:Step φ2 H2 φ2 H3:=⟨λb o _ e=>kk b o e,AR _,λ_ _ _ e=>e,λ_ h=>.inl h⟩;have rs3:yh X.K S.cl B φ2 H3 st2:=rs2.same kk;rw[e,forL]at h2
   cases eb:yx ct v ρ2 with
   |none=>rw[eb]at h2;exact h2.elim
   |some ρ3=>
    rw[eb]at h2;refine⟨B,φ2,st2,ρ2,v,ρ3,rs3,re2.step s3,rv,eb,λσ' re'=>⟨B,φ2,st2,ρ3,rs3,re',?_⟩⟩;have h3:=yao.on s3 h2;dsimp only at h3
    cases ee:exs S.call ρ3 st2 cs with
    |nx ρ4 st4=>
     rw[ee]at h3;exact λσ4 H4 φ4 s4 rs4 re4=>⟨φ4,st4,ρ4,s2.trans (s3.trans s4),rs4,re4,yao.on s4 h3⟩
    |ct ρ4 st4=>
     rw[ee]at h3;exact λσ4 H4 φ4 s4 rs4 re4=>⟨φ4,st4,ρ4,s2.trans (s3.trans s4),rs4,re4,yao.on s4 h3⟩
    |bk ρ4 st4=>rw[ee]at h3;exact h3
    |rt v4 st4=>rw[ee]at h3;exact h3
    |exc k ρ4 st4=>rw[ee]at h3;exact h3
    |bad=>rw[ee]at h3;exact h3
  .have e:i=xs.length:=by lia
   subst e;rw[Dv,forL]at h2;exact .inl ⟨dr.stop φ2 H2 s2,h2 σ2 H2 φ2 .rfl rs2 re2⟩
def zeG(hp:Do (model X.prog X.w) X.A X.env X.xe)(hc:PT X c (tTs S X cc))(hb:PSs X ss (tSs S X cs)):PS X (.While c ss [] pos) (tS S X (.while cc cs)):=
 (zeE hp hc hb).imp λD σ H ⟨B,φ,st,ρ,rs,re,h⟩=>by
  erw[ex]at h;refine⟨λm σ H=>∃φ st ρ,yh X.K S.cl B φ H st/\yo X.K S.cl B φ H ρ σ/\yao S X B φ H (yV (λρ2 st2=>ev S.call ρ2 st2 cc) (λρ2 st2=>exs S.call ρ2 st2 cs) m ρ st) D,⟨100000,φ,st,ρ,rs,re,h⟩,?_⟩
  rintro m σ2 H2 ⟨φ2,st2,ρ2,rs2,re2,h2⟩
  cases m with
  |zero=>exact h2.elim
  |succ m=>
   rw[yV]at h2;rw[flT _ λk st1=>cond k (yX (exs S.call ρ2 st1 cs) λρ2 st2=>yV (λρ2 st2=>ev S.call ρ2 st2 cc) (λρ2 st2=>exs S.call ρ2 st2 cs) m ρ2 st2) (.nx ρ2 st1)]at h2;refine tTs.fl rs2 re2 h2 λk H3 st3 φ3 s3 rs3 re3 h3=>?_
   cases k with
   |false=>exact h3 σ2 H3 φ3 .rfl rs3 re3
   |true=>
    refine⟨λσ' H'=>∃φ st ρ,yh X.K S.cl B φ H' st/\yo X.K S.cl B φ H' ρ σ'/\yao S X B φ H' (yV (λρ2 st2=>ev S.call ρ2 st2 cc) (λρ2 st2=>exs S.call ρ2 st2 cs) m ρ st) D,
     λσ' H' q=>⟨m,by lia,q⟩,B,φ3,st3,ρ2,rs3,re3,?_⟩
    erw[cond_true]at h3
    cases ee:exs S.call ρ2 st3 cs with
    |nx ρ4 st4=>
     rw[ee]at h3;exact λσ4 H4 φ4 s4 rs4 re4=>⟨φ4,st4,ρ4,rs4,re4,yao.on s4 h3⟩
    |ct ρ4 st4=>
     rw[ee]at h3;exact λσ4 H4 φ4 s4 rs4 re4=>⟨φ4,st4,ρ4,rs4,re4,yao.on s4 h3⟩
    |bk ρ4 st4=>rw[ee]at h3;exact h3
    |rt v4 st4=>rw[ee]at h3;exact h3
    |exc k ρ4 st4=>rw[ee]at h3;exact h3
    |bad=>rw[ee]at h3;exact h3
end
section
variable (S:Se)(K:AF)
def yd9{α β:Type}(B:AI->Prop)(φ:Ph)(H:Hp)(Rel:Ph->Hp->α->β->Prop)(r:R α)(Q:β->Hp->Prop):Prop:=
 match r with
 |.ok v st'=>∀x H' φ',Step φ H φ' H'->yh K S.cl B φ' H' st'->Rel φ' H' v x->Q x H'
 |_=>False
def tE0(c:Ce):TE:=λσ H Q=>∃B φ st ρ,yh K S.cl B φ H st/\yo K S.cl B φ H ρ σ/\yd9 S K B φ H (λφ H=>yc K S.cl B φ H) (ev S.call ρ st c) Q
def tT0(c:Ce):TT:=λσ H Q=>∃B φ st ρ,yh K S.cl B φ H st/\yo K S.cl B φ H ρ σ/\yd9 S K B φ H RB (yau (ev S.call ρ st c)) Q
def tG0(t:Tg):TG:=λv σ H Q=>∃B φ st ρ w ρ',yh K S.cl B φ H st/\yo K S.cl B φ H ρ σ/\yc K S.cl B φ H w v/\yx t w ρ=AA ρ'/\∀σ',yo K S.cl B φ H ρ' σ'->Q σ' H
end
section
variable {S:Se}{X:Cx}{K:AF}{cl:Nat->AI}{σ:St}{B:AI->Prop}{φ φ1:Ph}{H H1:Hp}{st:SO}{ρ:IC.Env}{pos p p2 px:Bf}{a b c o tg l elt iter:AM}{ca cb cc ce:Ce}{ci:Cit}{ct:Tg}
def zdf(hK:X.K=K)(h:PE X a (tE S X ca)):PE X a (tE0 S K ca):=by
 subst hK;refine h.imp λσ H Q kq=>?_;let⟨B,φ,st,ρ,rs,re,q⟩:=kq;refine ⟨B,φ,st,ρ,rs,re,?_⟩
 cases e:ev S.call ρ st ca with
 |ok v st'=>rw[e]at q;exact q
 |exc k st'=>rw[e]at q;exact q.elim
 |bad=>rw[e]at q;exact q
def zfJ(hK:X.K=K)(h:PT X a (tTs S X ca)):PTs X [a] (tT0 S K ca):=by
 subst hK;refine zdt (h.imp λσ H Q kq=>?_);let⟨B,φ,st,ρ,rs,re,q⟩:=kq;refine ⟨B,φ,st,ρ,rs,re,?_⟩
 cases e:yau (ev S.call ρ st ca)with
 |ok v st'=>rw[e]at q;exact q
 |exc k st'=>rw[e]at q;exact q.elim
 |bad=>rw[e]at q;exact q
def zej:PTs X [] (tT0 S K (.cst (.bl AC))):=λπ s σ H Q I ⟨B,φ,st,ρ,rs,re,q⟩=>by
 refine zdI π s σ H Q I ?_;erw[ev,yau,R.bind,yag,onO]at q;exact q AC H φ .rfl rs rfl
def zcW(hK:X.K=K)(h:PG X tg (tG S X ct)):PG X tg (tG0 S K ct):=by
 subst hK;exact h
theorem ybi.skip{k:Bool}{D y:AI}{u:HO}{xs:List V}(hD:B D)(r:ybi K B φ H k y xs):ybi K B φ (L2.upd H D u) k y xs:=by
 rcases r with⟨r,b,n⟩|r
 .exact .inl ⟨by rw[za (show y≠D from λz=>b (z ▸ hD))];exact r,b,n⟩
 .exact .inr r
mutual
theorem yc.skip{D:AI}{u:HO}(hD:B D):∀(v:PV) (x:V),yc K cl B φ H v x->yc K cl B φ (L2.upd H D u) v x
 |.non,x,h=>by erw[yc]at h ⊢;exact h
 |.bl b,x,h=>by erw[yc]at h ⊢;exact h
 |.int i,x,h=>by erw[yc]at h ⊢;exact h
 |.str y,x,h=>by erw[yc]at h ⊢;exact h
 |.tp k vs,x,h=>by
  erw[yc]at h ⊢;let⟨y,xs,e,r,l⟩:=h;exact⟨y,xs,e,r.skip hD,yd.skip hD vs xs l⟩
 |.lst vs,x,h=>by
  erw[yc]at h ⊢;let⟨y,xs,e,⟨r,b,n⟩,l⟩:=h;exact⟨y,xs,e,⟨by rw[za (show y≠D from λz=>b (z ▸ hD))];exact r,b,n⟩,yd.skip hD vs xs l⟩
 |.loc n,x,h=>by erw[yc]at h ⊢;exact h
 |.fnc j,x,h=>by erw[yc]at h ⊢;exact h
 |.exn c,x,h=>by
  erw[yc]at h ⊢;let⟨y,e,r,b,n⟩:=h;exact⟨y,e,by rw[za (show y≠D from λz=>b (z ▸ hD))];exact r,b,n⟩
 |.scr vs,x,h=>by
  erw[yc]at h ⊢;let⟨y,xs,e,r,l⟩:=h;refine⟨y,xs,e,?_,yd.skip hD vs xs l⟩;rcases r with⟨r,b,n⟩|r
  .refine .inl ⟨?_,b,n⟩;have ne:y≠D:=λz=>b (z ▸ hD);rcases r with r|⟨o,r⟩
   .exact .inl (by rw[za ne];exact r)
   .exact .inr ⟨o,by rw[za ne];exact r⟩
  .exact .inr r
theorem yd.skip{D:AI}{u:HO}(hD:B D):∀(v:List PV) (x:List V),yd K cl B φ H v x->yd K cl B φ (L2.upd H D u) v x
 |[],x,h=>by erw[yd]at h ⊢;exact h
 |v::vs,x,h=>by
  erw[yd]at h ⊢;let⟨y,ys,e,r,l⟩:=h;exact⟨y,ys,e,yc.skip hD v y r,yd.skip hD vs ys l⟩
end
theorem DK.skip{D:AI}{u:HO}(hD:B D):∀{kvs:List (PV×PV)} {ks:List (Key×V)},DK K cl B φ H kvs ks->DK K cl B φ (L2.upd H D u) kvs ks
 |[],ks,h=>h
 |(k,v)::r,ks,h=>by
  let⟨q,x,t,e,m,rv,l⟩:=h;exact⟨q,x,t,e,m,rv.skip hD,DK.skip hD l⟩
theorem DT.skip{D:AI}{u:HO}(hD:B D):∀{kvs:List (PV×PV)} {ks:List (List NK×V)},DT K cl B φ H kvs ks->DT K cl B φ (L2.upd H D u) kvs ks
 |[],ks,h=>h
 |(k,v)::r,ks,h=>by
  let⟨q,x,t,e,m,rv,l⟩:=h;exact⟨q,x,t,e,m,rv.skip hD,DT.skip hD l⟩
theorem FS.skip{D:AI}{u:HO}(hD:B D):∀{kvs:List (AS×PV)} {ks:List (AS×V)},FS K cl B φ H kvs ks->FS K cl B φ (L2.upd H D u) kvs ks
 |[],ks,h=>h
 |(k,v)::r,ks,h=>by
  let⟨x,t,e,rv,l⟩:=h;exact⟨x,t,e,rv.skip hD,FS.skip hD l⟩
theorem yh.skip{D:AI}{u:HO}(hD:B D)(rs:yh K cl B φ H st):yh K cl B φ (L2.upd H D u) st:=by
 refine⟨rs.len,rs.inj,λn y e=>?_,rs.liv,rs.nb,λy h=>?_⟩
 .let⟨o,q,r⟩:=rs.obj n y e;have ne:y≠D:=λz=>rs.nb y (AZ e) (z ▸ hD);refine⟨o,q,?_⟩
  cases o with
  |lst vs=>
   let⟨xs,hx,l⟩:=r;exact⟨xs,by rw[za ne];exact hx,l.skip hD⟩
  |dct t kvs=>
   cases t with
   |false=>
    let⟨xs,hx,l⟩:=r;exact⟨xs,by rw[za ne];exact hx,l.skip hD⟩
   |true=>
    let⟨xs,hx,l⟩:=r;exact⟨xs,by rw[za ne];exact hx,l.skip hD⟩
  |ins c fs=>
   let⟨ks,⟨dx,hx⟩,l⟩:=r;exact⟨ks,⟨dx,by rw[za ne];exact hx⟩,l.skip hD⟩
  |dead=>exact r.elim
 .by_cases z:y=D
  .subst z;exact⟨u,zc⟩
  .let⟨w,e⟩:=rs.dom y h;exact⟨w,by rw[za z];exact e⟩
theorem yo.skip{D:AI}{u:HO}(hD:B D)(re:yo K cl B φ H ρ σ):yo K cl B φ (L2.upd H D u) ρ σ:=⟨re.len,λi v e=>by
 let⟨x,h,q⟩:=re.get i v e;exact⟨x,h,q.skip hD⟩⟩
def Bx(B:AI->Prop)(D:AI):AI->Prop:=λy=>B y \/ y=D
def zdr{D:AI}(hn:H D=AE):∀y,Bx B D y->B y \/ H y=none:=λy z=>z.elim .inl λq=>.inr (q ▸ hn)
theorem yc.more{D:AI}(hn:H D=AE){v:PV}{x:V}(h:yc K cl B φ H v x):yc K cl (Bx B D) φ H v x:=h.moreB (zdr hn)
theorem yd.more{D:AI}(hn:H D=AE){v:List PV}{x:List V}(h:yd K cl B φ H v x):yd K cl (Bx B D) φ H v x:=h.moreB (zdr hn)
mutual
theorem yc.less{D:AI}:∀(v:PV) (x:V),yc K cl (Bx B D) φ H v x->yc K cl B φ H v x
 |.non,x,h=>by erw[yc]at h ⊢;exact h
 |.bl b,x,h=>by erw[yc]at h ⊢;exact h
 |.int i,x,h=>by erw[yc]at h ⊢;exact h
 |.str y,x,h=>by erw[yc]at h ⊢;exact h
 |.tp k vs,x,h=>by
  erw[yc]at h ⊢;let⟨y,xs,e,r,l⟩:=h;refine⟨y,xs,e,?_,yd.less vs xs l⟩;rcases r with⟨r,b,n⟩|r
  .exact .inl ⟨r,λz=>b (.inl z),n⟩
  .exact .inr r
 |.lst vs,x,h=>by
  erw[yc]at h ⊢;let⟨y,xs,e,⟨r,b,n⟩,l⟩:=h;exact⟨y,xs,e,⟨r,λz=>b (.inl z),n⟩,yd.less vs xs l⟩
 |.loc n,x,h=>by erw[yc]at h ⊢;exact h
 |.fnc j,x,h=>by erw[yc]at h ⊢;exact h
 |.exn c,x,h=>by
  erw[yc]at h ⊢;let⟨y,e,r,b,n⟩:=h;exact⟨y,e,r,λz=>b (.inl z),n⟩
 |.scr vs,x,h=>by
  erw[yc]at h ⊢;let⟨y,xs,e,r,l⟩:=h;refine⟨y,xs,e,?_,yd.less vs xs l⟩;rcases r with⟨r,b,n⟩|r
  .exact .inl ⟨r,λz=>b (.inl z),n⟩
  .exact .inr r
theorem yd.less{D:AI}:∀(v:List PV) (x:List V),yd K cl (Bx B D) φ H v x->yd K cl B φ H v x
 |[],x,h=>by erw[yd]at h ⊢;exact h
 |v::vs,x,h=>by
  erw[yd]at h ⊢;let⟨y,ys,e,r,l⟩:=h;exact⟨y,ys,e,yc.less v y r,yd.less vs ys l⟩
end
theorem DK.more{D:AI}(hn:H D=AE):∀{kvs:List (PV×PV)} {ks:List (Key×V)},DK K cl B φ H kvs ks->DK K cl (Bx B D) φ H kvs ks
 |[],ks,h=>h
 |(k,v)::r,ks,h=>by
  let⟨q,x,t,e,m,rv,l⟩:=h;exact⟨q,x,t,e,m,rv.more hn,DK.more hn l⟩
theorem DT.more{D:AI}(hn:H D=AE):∀{kvs:List (PV×PV)} {ks:List (List NK×V)},DT K cl B φ H kvs ks->DT K cl (Bx B D) φ H kvs ks
 |[],ks,h=>h
 |(k,v)::r,ks,h=>by
  let⟨q,x,t,e,m,rv,l⟩:=h;exact⟨q,x,t,e,m,rv.more hn,DT.more hn l⟩
theorem FS.more{D:AI}(hn:H D=AE):∀{kvs:List (AS×PV)} {ks:List (AS×V)},FS K cl B φ H kvs ks->FS K cl (Bx B D) φ H kvs ks
 |[],ks,h=>h
 |(k,v)::r,ks,h=>by
  let⟨x,t,e,rv,l⟩:=h;exact⟨x,t,e,rv.more hn,FS.more hn l⟩
theorem DK.less{D:AI}:∀{kvs:List (PV×PV)} {ks:List (Key×V)},DK K cl (Bx B D) φ H kvs ks->DK K cl B φ H kvs ks
 |[],ks,h=>h
 |(k,v)::r,ks,h=>by
  let⟨q,x,t,e,m,rv,l⟩:=h;exact⟨q,x,t,e,m,rv.less,DK.less l⟩
theorem DT.less{D:AI}:∀{kvs:List (PV×PV)} {ks:List (List NK×V)},DT K cl (Bx B D) φ H kvs ks->DT K cl B φ H kvs ks
 |[],ks,h=>h
 |(k,v)::r,ks,h=>by
  let⟨q,x,t,e,m,rv,l⟩:=h;exact⟨q,x,t,e,m,rv.less,DT.less l⟩
theorem FS.less{D:AI}:∀{kvs:List (AS×PV)} {ks:List (AS×V)},FS K cl (Bx B D) φ H kvs ks->FS K cl B φ H kvs ks
 |[],ks,h=>h
 |(k,v)::r,ks,h=>by
  let⟨x,t,e,rv,l⟩:=h;exact⟨x,t,e,rv.less,FS.less l⟩
theorem yh.less{D:AI}(rs:yh K cl (Bx B D) φ H st):yh K cl B φ H st:=by
 refine⟨rs.len,rs.inj,λn y e=>?_,rs.liv,λy h z=>rs.nb y h (.inl z),λy h=>rs.dom y (.inl h)⟩;let⟨o,q,r⟩:=rs.obj n y e;refine⟨o,q,?_⟩
 cases o with
 |lst vs=>let⟨xs,hx,l⟩:=r;exact⟨xs,hx,l.less⟩
 |dct t kvs=>cases t<;>(let⟨xs,hx,l⟩:=r;exact⟨xs,hx,l.less⟩)
 |ins c fs=>let⟨ks,hx,l⟩:=r;exact⟨ks,hx,l.less⟩
 |dead=>exact r.elim
theorem yh.more{D:AI}{u:HO}(hn:H D=AE)(rs:yh K cl B φ H st):yh K cl (Bx B D) φ (L2.upd H D u) st:=by
 have nD:AA D∉φ:=λz=>by
  let⟨w,e⟩:=rs.there z;rw[hn]at e;cases e
 have s:Step φ H φ (L2.upd H D u):=.upd hn;have rs':=rs.upd (o:=u) hn;refine⟨rs.len,rs.inj,λn y e=>?_,rs.liv,λy h z=>z.elim (rs.nb y h) λq=>nD (q ▸ h),λy h=>?_⟩
 .let⟨o,q,r⟩:=rs.obj n y e;have ne:y≠D:=λz=>nD (z ▸ AZ e);have hD:Bx B D D:=.inr rfl;refine⟨o,q,?_⟩
  cases o with
  |lst vs=>let⟨xs,hx,l⟩:=r;exact⟨xs,by rw[za ne];exact hx,(l.more hn).skip hD⟩
  |dct t kvs=>
   cases t with
   |false=>let⟨xs,hx,l⟩:=r;exact⟨xs,by rw[za ne];exact hx,(l.more hn).skip hD⟩
   |true=>let⟨xs,hx,l⟩:=r;exact⟨xs,by rw[za ne];exact hx,(l.more hn).skip hD⟩
  |ins c fs=>let⟨ks,⟨dx,hx⟩,l⟩:=r;exact⟨ks,⟨dx,by rw[za ne];exact hx⟩,(l.more hn).skip hD⟩
  |dead=>exact r.elim
 .rcases h with h|h
  .exact rs'.dom y h
  .subst h;exact⟨u,zc⟩
theorem yo.more{D:AI}{u:HO}(hn:H D=AE)(re:yo K cl B φ H ρ σ):yo K cl (Bx B D) φ (L2.upd H D u) ρ σ:=⟨re.len,λi v e=>by
 let⟨x,h,q⟩:=re.get i v e;exact⟨x,h,(q.more hn).skip (.inr rfl)⟩⟩
def yJ:Tg->List (Option Nat)->Bool
 |.n i,sl=>decide (sl[i]?=AA AE)
 |.t l,sl=>l.all λi=>decide (sl[i]?=AA AE)
def zb5:∀(l:List Nat) (vs:List PV) (ρ:IC.Env) (j:Nat),j∉l->((l.zip vs).foldl (λρ p=>ρ.set p.1 (AA p.2)) ρ)[j]?=ρ[j]?
 |[],vs,ρ,j,h=>by simp
 |i::is,[],ρ,j,h=>by simp
 |i::is,v::vs,ρ,j,h=>by
  erw[D1,CK];rw[zb5 is vs _ j λz=>h (AU _ z),Al]
  rintro rfl
  exact h Aa
def zch:∀(l:List Nat) (vs:List PV) (ρ:IC.Env),((l.zip vs).foldl (λρ p=>ρ.set p.1 (AA p.2)) ρ).length=ρ.length
 |[],vs,ρ=>by simp
 |i::is,[],ρ=>by simp
 |i::is,v::vs,ρ=>by
  erw[D1,CK];rw[zch is vs,BB]
theorem yo.untgt{sl:List (Option Nat)}{ρ0 ρ1:IC.Env}{v:PV}(hf:yJ ct sl=AC)(h0:∀(i:Nat),sl[i]?=AA AE->ρ0[i]?=AA AE)(hb:yx ct v ρ0=AA ρ1)(re:yo K cl B φ H ρ1 σ):yo K cl B φ H ρ0 σ:=by
 cases ct with
 |n i=>
  cases hb
  erw[yJ,decide_eq_true_eq]at hf;refine⟨by rw[<-re.len,BB],λj w e=>re.get j w ?_⟩;rw[Al]
  .exact e
  .rintro rfl
   rw[h0 _ hf]at e;cases e
 |t l=>
  cases v with
  |tp k vs=>
   erw[yx]at hb;split at hb
   .cases hb
    erw[yJ,B3,decide_eq_true_eq]at hf;refine⟨by rw[<-re.len,zch],λj w e=>re.get j w ?_⟩;rw[zb5]
    .exact e
    .intro z;rw[h0 _ (hf j z)]at e;cases e
   .cases hb
  |_=>cases hb
theorem yo.inn{sl:List (Option Nat)}(re:yo K cl B φ H ρ σ):yo K cl B φ H (sl.map λo=>o.bind λj=>(ρ[j]?).join) (L2.inn sl σ):=by
 unfold L2.inn;refine⟨by simp,λi v e=>?_⟩;rw[BG]at e ⊢
 cases q:sl[i]? with
 |none=>rw[q]at e;cases e
 |some o=>
  rw[q]at e
  cases o with
  |none=>cases e
  |some j=>
   erw[C2,Bg,Option.some.injEq]at e ⊢
   cases q2:ρ[j]? with
   |none=>rw[q2]at e;cases e
   |some w=>
    rw[q2]at e;erw[Option.join_some]at e;subst e;let⟨x,hx,rv⟩:=re.get j v q2;exact⟨x,by rw[hx];rfl,rv⟩
def zjc:1000000<sizeLine:=by rw[Ax];decide
def zhB{α:Type}{o:Option Bool}{k:Bool->R α}{z:α}{s:SO}(h:onO o k=.ok z s):∃b,o=AA b/\k b=.ok z s:=by
 cases o with
 |none=>cases h
 |some b=>exact⟨b,rfl,h⟩
def zj{α β:Type}{r:R α}{k:α->SO->R β}{z:β}{s:SO}(h:r.bind k=.ok z s):∃a s1,r=.ok a s1/\k a s1=.ok z s:=by
 cases r with
 |ok a s1=>exact⟨a,s1,rfl,h⟩
 |exc c s=>cases h
 |bad=>cases h
def zbt{sl:List (Option Nat)}(hf:yJ ct sl=AC){H:Hp}{Q:VK}(h:tE S X (.comp sl ct ci cc ce) σ H Q):ybf sl (tI S X ci) (tG0 S X.K ct) (tT0 S X.K cc) (tE0 S X.K ce) σ H Q:=by
  let⟨B,φ,st,ρ,rs,re,h⟩:=h;erw[ev]at h;refine⟨B,φ,st,ρ,rs,re,(Run.bind h).mono λJ H1 kq=>?_⟩;let⟨xs,st1,φ1,s1,rs1,dr,h1⟩:=kq;refine λD hD=>?_
  generalize hone:(λ(x:PV) (st2:SO)=>match yx ct x (sl.map λo=>o.bind λj=>(ρ[j]?).join)with
   |none=>(R.bad:R (Option PV))
   |some ρ1=>(ev S.call ρ1 st2 cc).bind λb st3=>onO (yag st3 b) λk=>cond k ((ev S.call ρ1 st3 ce).bind λy st4=>.ok (AA y) st4) (.ok AE st3))=one at h1
  cases e:yaF one xs st1 with
  |exc k s=>rw[e]at h1;exact h1.elim
  |bad=>rw[e]at h1;exact h1.elim
  |ok zs st5=>
   rw[e]at h1;erw[yba]at h1;split at h1
   case isFalse=>exact h1.elim
   rename_i hz;have nB:¬B D:=rs1.nB hD;have nD:AA D∉φ1:=λz=>by
    let⟨w,e⟩:=rs1.there z;rw[hD]at e;cases e
   refine⟨λi m σc ys H2=>∃φ2 st2 vs rest,i+m=xs.length/\Step φ1 H1 φ2 H2/\H2 D=AA (.lst ys)/\AA D∉φ2/\yh X.K S.cl (Bx B D) φ2 H2 st2/\yo X.K S.cl (Bx B D) φ2 H2 (sl.map λo=>o.bind λj=>(ρ[j]?).join) σc /\
     yd X.K S.cl (Bx B D) φ2 H2 vs ys/\yaF one (xs.drop i) st2=.ok rest st5/\vs++rest=zs,
    ⟨xs.length,φ1,st1,[],zs,by lia,.upd hD,zc,nD,rs1.more hD,(yo.inn (re.step s1)).more hD,by erw[yd],by simpa using e,rfl⟩,?_⟩
   rintro i m σc ys H2 ⟨φ2,st2,vs,rest,hm,s2,hD2,nD2,rs2,re2,l2,ec,ez⟩
   refine⟨hD2,?_⟩
   by_cases hi:i<xs.length
   .have hl2:=l2.length;have hml:=zjc;have hzl:=congrArg B6 ez;rw[As]at hzl;refine .inr ⟨dr.go i φ2 H2 s2 hi,by lia,λσ' ys' H'=>∃φ2 st2 vs rest,Step φ1 H1 φ2 H'/\H' D=AA (.lst ys')/\AA D∉φ2/\yh X.K S.cl (Bx B D) φ2 H' st2/\yo X.K S.cl (Bx B D) φ2 H' (sl.map λo=>o.bind λj=>(ρ[j]?).join) σ' /\
     yd X.K S.cl (Bx B D) φ2 H' vs ys'/\yaF one (xs.drop (i+1)) st2=.ok rest st5/\vs++rest=zs,λσ' ys' H' ⟨φ2,st2,vs,rest,q⟩=>⟨m-1,by lia,φ2,st2,vs,rest,by lia,q⟩,λx H3 hy=>?_⟩
    let⟨v,hv,rv,kk⟩:=dr.yld i φ2 H2 st2 x H3 (Bx B D) (λy z=>z.elim .inl λq=>.inr (q ▸ hD)) s2 rs2 hi hy;have s3:Step φ2 H2 φ2 H3:=⟨λb o _ e=>kk b o e,AR _,λ_ _ _ e=>e,λ_ h=>.inl h⟩;have rs3:yh X.K S.cl (Bx B D) φ2 H3 st2:=rs2.same kk;have ed:xs.drop i=v::xs.drop (i+1):=by
     rw[Bq hi];rw[BE hi]at hv;rw[A0 hv]
    rw[ed,yaF]at ec;let⟨o,st3,e1,ec⟩:=zj ec;let⟨rest',st4,e2,ec⟩:=zj ec;rw[<-hone]at e1;dsimp only at e1
    cases eb:yx ct v (sl.map λo=>o.bind λj=>(ρ[j]?).join)with
    |none=>rw[eb]at e1;cases e1
    |some ρ1=>
     rw[eb]at e1;dsimp only at e1;let⟨bv,st6,e3,e1⟩:=zj e1;let⟨k,e4,e1⟩:=zhB e1;have er:st4=st5/\yaH o rest'=rest:=by
      injection ec with q1 q2;exact⟨q2,q1⟩
     let⟨rfl,rfl⟩:=er;refine⟨Bx B D,φ2,st2,_,v,ρ1,rs3,re2.step s3,rv,eb,λσ4 re4=>⟨Bx B D,φ2,st2,ρ1,rs3,re4,?_⟩⟩;have et:yau (ev S.call ρ1 st2 cc)=.ok k st6:=by
      rw[e3];erw[yau,R.bind,e4,onO]
     rw[et]
     rintro k' H5 φ5 s5 rs5 rfl
     have nD5:AA D∉φ5:=λz=>by
      rcases s5.new D z with q|q
      .exact nD2 q
      .rw[kk D _ hD2]at q;cases q
     have hD5:H5 D=AA (.lst ys):=s5.keep D _ nD2 (kk D _ hD2);have s25:Step φ1 H1 φ5 H5:=s2.trans (s3.trans s5);have l5:=(l2.step s3).step s5;have re5:yo X.K S.cl (Bx B D) φ5 H5 ρ1 σ4:=re4.step s5;have h0:∀(i:Nat),sl[i]?=AA AE->(sl.map λo=>o.bind λj=>(ρ[j]?).join)[i]?=AA none:=λi q=>by
      rw[BG,q];rfl
     cases k with
     |false=>
      erw[cond_false]at e1
      cases e1
      exact⟨φ5,_,vs,rest',s25,hD5,nD5,rs5,yo.untgt hf h0 eb re5,l5,e2,ez⟩
     |true=>
      erw[cond_true]at e1;let⟨y,st7,e5,e1⟩:=zj e1
      cases e1
      refine⟨Bx B D,φ5,st6,ρ1,rs5,re5,?_⟩;rw[e5];intro y' H6 φ6 s6 rs6 ry;have nD6:AA D∉φ6:=λz=>by
       rcases s6.new D z with q|q
       .exact nD5 q
       .rw[hD5]at q;cases q
      have hD6:H6 D=AA (.lst ys):=s6.keep D _ nD5 hD5;have hBD:Bx B D D:=.inr rfl;refine⟨hD6,φ6,_,vs++[y],rest',?_,zc,nD6,rs6.skip hBD,(yo.untgt hf h0 eb (re5.step s6)).skip hBD,((l5.step s6).append (by erw[yd];exact⟨y',[],rfl,ry,rfl⟩)).skip hBD,e2,?_⟩
      .have s16:=s25.trans s6;exact⟨λb o n q=>by rw[za (zb q hD)];exact s16.keep b o n q,s16.len,s16.pre,s16.new⟩
      .simpa [yaH] using ez
   .have ei:i=xs.length:=by lia
    subst ei;rw[Dv,yaF]at ec
    cases ec
    refine .inl ⟨dr.stop φ2 H2 s2,h1 (.ref D) H2 φ2 s2 rs2.less ?_⟩;erw[yc];exact⟨D,ys,rfl,⟨hD2,nB,nD2⟩,by rw[<-ez,Bs];exact l2.less⟩
def zfT{sc:BH}{NC:List AS}{sl:List (Option Nat)}{ifs:List AM}(hc:X.calm=AC)(O:yG X sc NC sl)(hf:yJ ct sl=AC)(hi:PI X tg iter (tI S X ci))(hg:∀j,PG (cxC X sc NC j) tg (tG0 S X.K ct))
  (ht:∀j,PTs (cxC X sc NC j) ifs (tT0 S X.K cc)) (he:∀j,PE (cxC X sc NC j) elt (tE0 S X.K ce)) (hs:∀x,foldedSetIterable iter X.env x=pure x:=by intro _;rfl):
  PE X (.ListComp elt [⟨tg,iter,ifs,0⟩] sc pos) (tE S X (.comp sl ct ci cc ce)):=
 (zbM hc O hi hg ht he hs).imp λσ H Q h=>zbt hf h
def zgs{sc:BH}{NC:List AS}{sl:List (Option Nat)}{ifs:List AM}{i:Nat}{x:AS}{spos:Bf}(hN:X.N.Nodup)(hix:X.N[i]?=AA x)(hx:Loc X.env.scope x)(hc:X.calm=AC)(O:yG X sc NC sl)(hf:yJ ct sl=AC)(hi:PI X tg iter (tI S X ci))(hg:∀j,PG (cxC X sc NC j) tg (tG0 S X.K ct))
  (ht:∀j,PTs (cxC X sc NC j) ifs (tT0 S X.K cc)) (he:∀j,PE (cxC X sc NC j) elt (tE0 S X.K ce))
  (hsw:swapsWith (.ListComp elt [⟨tg,iter,ifs,0⟩] sc pos) (AA (.Name x px)) spos.line X.env=pure true:=by rfl) (hs:∀x,foldedSetIterable iter X.env x=pure x:=by intro _;rfl)
  (hfn:X.fn x=AC \/ X.env.scope.names.lookup x=AA .local:=by first|exact .inl rfl|exact .inr rfl|assumption):PS X (.Assign [.Name x px] (.ListComp elt [⟨tg,iter,ifs,0⟩] sc pos) spos) (tS S X (.asg (.n i) (.comp sl ct ci cc ce))):=
 (zgm hN hix hx hc O hi hg ht he hsw hs hfn).imp λD σ H ⟨B,φ,st,ρ,rs,re,h⟩=>by
  refine zbt hf ?_;erw[ex]at h;exact tE.fl rs re h λx H1 v st1 φ1 s rs1 re1 rv h1=>h1 _ H1 φ1 .rfl rs1 (re1.set i rv)
end
end L2
namespace IC
open PySem
def RLe{α:Type}(r q:R α):Prop:=r=.bad \/ r=q
def FLe(f g:Fl):Prop:=f=.bad \/ f=g
abbrev Cl:=Nat->List PV->SO->R PV
theorem RLe.rfl{α:Type}{r:R α}:RLe r r:=.inr (Fj _)
theorem FLe.rfl{f:Fl}:FLe f f:=.inr (Fj _)
theorem RLe.bind{α β:Type}{r q:R α}{k l:α->SO->R β}(h:RLe r q)(hk:∀a s,RLe (k a s) (l a s)):RLe (r.bind k) (q.bind l):=by
 rcases h with h|h
 .subst h;exact .inl (Fj _)
 .subst h
  cases r with
  |ok a s=>exact hk a s
  |exc c s=>exact .rfl
  |bad=>exact .rfl
theorem RLe.comp{r q:R (List PV)}(h:RLe r q):RLe (yba r) (yba q):=by
 rcases h with h|h
 .subst h;exact .inl (Fj _)
 .subst h;exact .rfl
end IC
namespace L2
open PySem PySem.Spec PyProof.Rows IC
def spI(K:AF)(cl:Nat->AI)(call:Nat->List PV->SO->R PV)(f:Nat):Sp:=λvs H Q E=>∃B φ st args,yh K cl B φ H st/\yd K cl B φ H args vs/\match call f args st with
 |.ok v st'=>∀x H' φ',Step φ H φ' H'->yh K cl B φ' H' st'->yc K cl B φ' H' v x->Q x H'
 |.exc c st'=>∀H' φ',Step φ H φ' H'->yh K cl B φ' H' st'->E (.ref (cl c)) AE H'
 |.bad=>False
section
variable {S:Se}{X:Cx}{k:Nat}{f:AI}{fd:Aj}{ps ks:List AS}{sp:Sp}{dvs:List V}{ds:List AD}{x:AS}{p pos:Bf}{e:AM}{es:List AM}{t tk:TA}{CX:CXT}{σ:St}{H:Hp}
def zec{π:List (AI×B8)}{s:AH}{Q:VK}{us:List AD}{vs:List V}{E:XK}(F:yaG X.prog X.w X.K X.mg X.base CX k f fd ps sp)(hr:yat k X.A)(hb:Binds X.K fd ps ds)(hd:Vals dvs ds)
  (I:Inv X π σ H s) (r:Vals vs us) (h:sp (vs++dvs) H Q E) (hx:∀e s',CX X.stack H s E e s'->X.xe e s'):AQ (model X.prog X.w) X.A (call (.ref f) us) (EP X π σ Q) X.xe s:=by
 have r2:Vals (vs++dvs) (us++ds):=r.append hd;have hl:(us++ds).length=ps.length:=by rw[<-r2.length];exact F.len _ _ _ _ h
 refine wpAny_call (EH (F.run X.A X.stack s H ⟨us,[]⟩ (us++ds) (vs++dvs) Q E hr I.env0 (hb s us I.kIn hl) r2 h) λr s' hq=>?_)
 cases r with
 |error e=>exact hx e s' hq
 |ok fl=>
  cases fl with
  |ret u=>exact I.after hq
  |next=>exact B1 hq
  |brk=>exact B1 hq
  |cont=>exact B1 hq
def ybG(CX:CXT)(X:Cx)(sp:Sp)(dvs:List V)(t:TA):TE:=λσ H Q=>t σ H λvs H1=>∃E:XK,sp (vs++dvs) H1 Q E/\∀π s e s',Inv X π σ H1 s->CX X.stack H1 s E e s'->X.xe e s'
def zes(F:yaG X.prog X.w X.K X.mg X.base CX k f fd ps sp)(hr:yat k X.A)(hg:Gl X x)(hm:X.mg x=AA (.ref f))(hk:Ae X.K (.ref f)=AC)(hb:Binds X.K fd ps ds)(hd:Vals dvs ds)
  (ha:PA X (e::es) t) (hdb:(x==("__debug__":AS))=false:=by decide) (he:starEach (e::es) X.env=(AG,eval e X.env)::starEach es X.env:=by rfl) (hpl:(backTo pos (starEach es X.env)).any (·.1)=false:=by rfl):
  PE X (.Call (.Name x p) (e::es) [] pos) (ybG CX X sp dvs t):=by
 intro π s σ H Q I h;refine Bk (za8 I hg hm ?_ hdb);refine PySem.W.callWith_K (h₀:=X.base) I.ok.mod.kin hk (thn (ha pos π s σ H _ I h) λus s1 kq=>?_) he hpl;let⟨vs,H1,I1,r,E,q,hx⟩:=kq;refine ⟨I1.kIn,?_⟩;exact zec F hr hb hd I1 r q λe s' c=>hx π s1 e s' I1 c
def zd2(F:yaG X.prog X.w X.K X.mg X.base CX k f fd ps sp)(hr:yat k X.A)(hg:Gl X x)(hm:X.mg x=AA (.ref f))(hk:Ae X.K (.ref f)=AC)(hb:Binds X.K fd ps ds)(hd:Vals dvs ds)
  (hdb:(x==("__debug__":AS))=false:=by decide):PE X (.Call (.Name x p) [] [] pos) (ybG CX X sp dvs ycU):=by
 intro π s σ H Q I h;let⟨E,q,hx⟩:=h;refine Bk (za8 I hg hm ?_ hdb);exact PySem.W.callWith_K0 I.kIn hk (zec F hr hb hd I .nil q λe s' c=>hx π s e s' I c)
variable {B:AI->Prop}{φ:Ph}{st:SO}{ces:Ces}{fi:Nat}
def zav{vs:List PV}{xs:List V}{Q:VK}(rs:yh X.K S.cl B φ H st)(l:yd X.K S.cl B φ H vs xs)(h:Run S X σ B φ H (RV S X B) (S.call fi vs st) Q):
  ∃E:XK,spI X.K S.cl S.call fi xs H Q E/\∀π s e s',Inv X π σ H s->CX1 X.prog X.w X.stack H s E e s'->X.xe e s':=by
 cases c:S.call fi vs st with
 |ok v st'=>
  rw[c]at h;refine⟨λ_ _ _=>False,⟨B,φ,st,vs,rs,l,by rw[c];exact h⟩,λπ s e s' _ z=>?_⟩;let⟨_,_,_,_,_,_,_,_,_,_,_,_,_,_,z⟩:=z;exact z.elim
 |exc k st'=>
  rw[c]at h;refine⟨λcls _ H'=>cls=.ref (S.cl k)/\∃φ',Step φ H φ' H'/\yh X.K S.cl B φ' H' st',⟨B,φ,st,vs,rs,l,by rw[c];exact λH' φ' s r=>⟨rfl,φ',s,r⟩⟩,λπ s e s' I z=>h e s' (.inl ⟨π,H,s,φ,I,.rfl,z⟩)⟩
 |bad=>rw[c]at h;exact h.elim
def zfK(F:yaG X.prog X.w X.K X.mg X.base (CX1 X.prog X.w) k f fd ps (spI X.K S.cl S.call fi))(hr:yat k X.A)(hg:Gl X x)(hm:X.mg x=AA (.ref f))(hk:Ae X.K (.ref f)=AC)(hb:Binds X.K fd ps [])
  (ha:PA X (e::es) (tAs S X ces)) (hdb:(x==("__debug__":AS))=false:=by decide) (he:starEach (e::es) X.env=(AG,eval e X.env)::starEach es X.env:=by rfl) (hpl:(backTo pos (starEach es X.env)).any (·.1)=false:=by rfl):
  PE X (.Call (.Name x p) (e::es) [] pos) (tE S X (.call fi ces)):=
 (zes F hr hg hm hk hb .nil ha hdb he hpl).imp λσ H Q ⟨B,φ,st,ρ,rs,re,h⟩=>by
  erw[ev]at h;refine tAs.bind rs re h λxs H1 vs st1 φ1 s1 rs1 re1 rv h1=>?_;rw[Bs];exact zav rs1 rv h1
def zeu(F:yaG X.prog X.w X.K X.mg X.base (CX1 X.prog X.w) k f fd ps (spI X.K S.cl S.call fi))(hr:yat k X.A)(hg:Gl X x)(hm:X.mg x=AA (.ref f))(hk:Ae X.K (.ref f)=AC)(hb:Binds X.K fd ps [])
  (hdb:(x==("__debug__":AS))=false:=by decide):PE X (.Call (.Name x p) [] [] pos) (tE S X (.call fi .nil)):=
 (zd2 F hr hg hm hk hb .nil hdb).imp λσ H Q ⟨B,φ,st,ρ,rs,re,h⟩=>by
  erw[ev,evs,R.bind]at h;exact zav rs (by erw[yd];rfl) h
end
section
variable {P:AV}{w:A5}{K:AF}{mg:AS->Option AD}{base:Ak}{cl:Nat->AI}{T:Nat->Option IC.Fn}{fi:Nat}{fn:IC.Fn}{x qual:AS}{stm:Bd}{f:AI}{fd:Aj}{N ps:List AS}{k:Nat}
theorem CX1.mono{outer:List BF}{H:Hp}{s:AH}{E E':XK}{e:AD}{s':AH}(h:CX1 P w outer H s E e s')(n:∀cls H',E cls AE H'->E' cls AE H'):CX1 P w outer H s E' e s':=by
 let⟨a,cls,a0,H',Bh,r1,r2,r3,r4,r5,r6,r7,r8,r9,r10⟩:=h;exact⟨a,cls,a0,H',Bh,r1,r2,r3,r4,r5,r6,r7,r8,r9,n _ _ r10⟩
theorem yo.start{B:AI->Prop}{φ:Ph}{H:Hp}{args:List PV}{vs:List V}(l:yd K cl B φ H args vs)(n:Nat)(hn:N.length-vs.length=n):yo K cl B φ H (args.map AA++Am n AE) (L2.start N vs):=by
 have hl:=l.length;unfold L2.start;refine⟨by simp[hl,hn],λi v e=>?_⟩
 by_cases hi:i<args.length
 .rw[A2 (by simpa using hi),BG]at e
  cases q:args[i]? with
  |none=>rw[q]at e;cases e
  |some v'=>
   rw[q]at e
   cases e
   let⟨y,hy,rv⟩:=l.get i q;exact⟨y,by rw[A2 (by simp;lia),BG,hy];rfl,rv⟩
 .rw[Af (by simp;lia),Dr]at e;split at e<;>cases e
theorem leave{N:List AS}{scope:BH}{cd:AD}{A:A7}{outer:List BF}{s₀:AH}{H₀:Hp}{E:XK}{call:Nat->List PV->SO->R PV}{σ:St}{B:AI->Prop}{φ:Ph}{H:Hp}{c:Nat}{st':SO}{e:AD}{s':AH}
  (h:ExcAt ⟨cl,call,AC⟩ (yaj (CX1 P w) P w K mg base N qual scope f cd A outer s₀ H₀ E) σ B φ H c st' e s') (n:∀φ' H',Step φ H φ' H'->yh K cl B φ' H' st'->E (.ref (cl c)) AE H'):
  (yaj (CX1 P w) P w K mg base N qual scope f cd A outer s₀ H₀ E).xe e s':=by
 rcases h with⟨π,H1,s,φ1,I,s1,q⟩|⟨_,π,H1,s,φ1,h',e0,vs,I,s1,rs,mk,rfl,rfl⟩|⟨_,π,H1,s,I,q⟩
 .exact zjs π σ H1 s e s' I (q.mono λcls H' ⟨e1,φ',s2,r⟩=>by subst e1;exact n φ' H' (s1.trans s2) r)
 .exact zd1 I mk (n φ1 H1 s1 rs)
 .exact zju I (q.mono λcls H' ⟨e1,φ',s2,r⟩=>by subst e1;exact n φ' H' s2 r)
def zdE(hT:T fi=AA fn):∀(args:List PV) (st:SO),ye T (k+1) fi args st ≠ .bad->args.length=fn.np:=λargs st hne=>by
 apply Classical.byContradiction;intro c;apply hne;rw[ye,hT];exact if_neg c
def ze8(hT:T fi=AA fn)(hnp:ps.length=fn.np){vs:List V}{H:Hp}{Q:VK}{E:XK}(h:spI K cl (ye T (k+1)) fi vs H Q E):vs.length=ps.length:=by
 let⟨B,φ,st,args,rs,l,h⟩:=h;rw[hnp,<-l.length];refine zdE (k:=k) hT args st λz=>?_;rw[z]at h;exact h
def zfz(hT:T fi=AA fn)(hns:N.length=fn.ns){scope:BH}{cdv:AD}{A:A7}{outer:List BF}{s:AH}{vs:List V}{H:Hp}{Q:VK}{E:XK}(h:spI K cl (ye T (k+1)) fi vs H Q E):
  tSs ⟨cl,ye T k,AC⟩ (yaj (CX1 P w) P w K mg base N qual scope f cdv A outer s H E) fn.body {nx:=λ_ H'=>Q .non H',rt:=Q} (L2.start N vs) H:=by
 let⟨B,φ,st,args,rs,l,h⟩:=h;have hl:args.length=fn.np:=zdE (k:=k) hT args st λz=>by rw[z]at h;exact h
 have hlen:=l.length;rw[ye,hT]at h;dsimp only at h;rw[if_pos hl]at h
 by_cases hp:fn.pure=AC
 .rw[if_pos hp]at h
  by_cases hz:nLs args=AC
  .rw[if_pos hz]at h;have rs0:yh K cl (λa=>B a \/ AA a∈φ) [] H []:=⟨rfl,λm n a e=>by simp at e,λn a e=>by simp at e,λn o e=>by simp at e,λa z=>by simp at z,λa z=>z.elim (rs.dom a) rs.there⟩;have back:∀{φ':Ph} {H':Hp},Step [] H φ' H'->Step φ H φ H'/\yh K cl B φ H' st:=λ{φ' H'} s'=>
    have kk:∀b o,H b=AA o->H' b=AA o:=λb o e=>s'.keep b o (by simp) e
    ⟨⟨λb o _ e=>kk b o e,AR _,λ_ _ _ e=>e,λ_ h=>.inl h⟩,rs.same kk⟩
   refine⟨_,[],[],_,rs0,yo.start (yd.inn rs.nb args vs hz l) (fn.ns-fn.np) ∅,?_⟩;show yao _ _ _ _ _ (exs (ye T k) (args.map AA++Am (fn.ns-fn.np) AE) [] fn.body) _
   cases e:exs (ye T k) (args.map AA++Am (fn.ns-fn.np) AE) [] fn.body with
   |nx ρ' st'=>
    rw[e]at h;intro σ' H' φ' s' rs' re';let⟨s2,r2⟩:=back s';exact h .non H' φ s2 r2 (by erw[yc])
   |rt v st'=>
    rw[e]at h;dsimp only at h
    by_cases hv:nL v=AC
    .rw[if_pos hv]at h;intro y H' φ' s' rs' rv;let⟨s2,r2⟩:=back s';exact h y H' φ s2 r2 (yc.out v y hv rv)
    .rw[if_neg hv]at h;exact h.elim
   |exc c ρ' st'=>
    rw[e]at h;intro σ' φ1 H1 ev s' s1 _ ex;refine leave ex λφ2 H2 s2 _=>?_;let⟨s3,r3⟩:=back (s1.trans s2);exact h H2 φ s3 r3
   |bk ρ' st'=>rw[e]at h;exact h.elim
   |ct ρ' st'=>rw[e]at h;exact h.elim
   |bad=>rw[e]at h;exact h.elim
  .rw[if_neg hz]at h;exact h.elim
 .rw[if_neg hp]at h;refine⟨B,φ,st,_,rs,yo.start l (fn.ns-fn.np) ∅,?_⟩;show yao _ _ _ _ _ (exs (ye T k) (args.map AA++Am (fn.ns-fn.np) AE) st fn.body) _
  cases e:exs (ye T k) (args.map AA++Am (fn.ns-fn.np) AE) st fn.body with
  |nx ρ' st'=>
   rw[e]at h;intro σ' H' φ' s' rs' re';exact h .non H' φ' s' rs' (by erw[yc])
  |rt v st'=>
   rw[e]at h;intro y H' φ' s' rs' rv;exact h y H' φ' s' rs' rv
  |exc c ρ' st'=>
   rw[e]at h;intro σ' φ1 H1 ev s' s1 _ ex;exact leave ex λφ2 H2 s2 r2=>h H2 φ2 (s1.trans s2) r2
  |bk ρ' st'=>rw[e]at h;exact h.elim
  |ct ρ' st'=>rw[e]at h;exact h.elim
  |bad=>rw[e]at h;exact h.elim
end
def tyN:Ty->String
 |.int=>"int" | .bool=>"bool" | .str=>"str" | .tuple=>"tuple" | .list=>"list" | _=>""
structure ydv(K:AF)(t:Ty):Prop where
 n:Av K (.type "NoneType") (.type (tyN t))=AA (yaJ .non t)
 b:Av K (.type "bool") (.type (tyN t))=AA (yaJ (.bl AC) t)
 i:Av K (.type "int") (.type (tyN t))=AA (yaJ (.int 0) t)
 s:Av K (.type "str") (.type (tyN t))=AA (yaJ (.str FY) t)
 p:Av K (.type "tuple") (.type (tyN t))=AA (yaJ (.tp AC []) t)
 l:Av K (.type "list") (.type (tyN t))=AA (yaJ (.lst []) t)
section
variable {S:Se}{X:Cx}{σ:St}{B:AI->Prop}{φ:Ph}{H:Hp}{st:SO}{p pos p2 px:Bf}{a b c d o:AM}{ca cb cc:Ce}{t:Ty}
def yeW(S:Se)(X:Cx)(t:Ty):List V->Hp->VK->Prop:=λxs H Q=>∃B φ st v x z,xs=[x,.ty (tyN t)]/\yh X.K S.cl B φ H st/\yc X.K S.cl B φ H v x/\ybn v [t]=AA z/\yct t=AC /\
 ∀z' H' φ',Step φ H φ' H'->yh X.K S.cl B φ' H' st->yc X.K S.cl B φ' H' z z'->Q z' H'
def zgB(Z:ydv X.K t):yN X (.builtin "isinstance") (yeW S X t):=by
 rintro π s σ H xs us Q I r ⟨B,φ,st,v,x,z,rfl,rs,rv,e,hb,q⟩
 let⟨u,c',rfl,ru,rc⟩:=vals2 r
 cases (show c'=Fk (tyN t)from rc)
 have fin:∀(k:Bool) (tk:Nat),z=.bl k->EP X π σ Q (.bool k) {s with toks:=tk}:=λk tk ez=>⟨.bl k,H,I.tok tk,rfl,q _ H φ .rfl rs (by subst ez;erw[yc])⟩
 cases v with
 |non=>
  erw[yc]at rv;subst rv
  cases (show u=BN from ru)
  erw[ybn,hb,if_true]at e;exact CL PySem.W.kitx_none I.kIn Bc Z.n (λz=>nomatch z) λtk=>fin _ tk (by cases e;cases t<;>rfl)
 |bl k=>
  erw[yc]at rv;subst rv
  cases (show u=Dy k from ru)
  erw[ybn,hb,if_true]at e;exact CL PySem.W.kitx_bool I.kIn Bc Z.b (λz=>nomatch z) λtk=>fin _ tk (by cases e;cases t<;>rfl)
 |int k=>
  erw[yc]at rv;subst rv;let⟨tk,rfl⟩:=ru;erw[ybn,hb,if_true]at e;exact CL PySem.W.kitx_int I.kIn Bc Z.i (λz=>nomatch z) λtk=>fin _ tk (by cases e;cases t<;>rfl)
 |str k=>
  erw[yc]at rv;subst rv;let⟨tk,rfl⟩:=ru;erw[ybn,hb,if_true]at e;exact CL PySem.W.kitx_str I.kIn Bc Z.s (λz=>nomatch z) λtk=>fin _ tk (by cases e;cases t<;>rfl)
 |tp k vs=>
  erw[yc]at rv;let⟨y,ys,rfl,rt,l⟩:=rv
  cases (show u=Ac y from ru)
  erw[ybn,hb,if_true]at e;let⟨its,_,⟨o,g,c,_,_⟩,_⟩:=I.tuple rt.sq;exact CL PySem.W.kitx_tuple I.kIn ⟨o,g,c⟩ Z.p (λz=>nomatch z) λtk=>fin _ tk (by cases e;cases t<;>rfl)
 |lst vs=>
  erw[yc]at rv;let⟨y,ys,rfl,rt,l⟩:=rv
  cases (show u=Ac y from ru)
  erw[ybn,hb,if_true]at e;let⟨_,_,n,_,h1⟩:=(show yp X.prog X.w H s.heap y (.lst ys)from I.hok y _ rt.1);exact CL PySem.W.kitx_list I.kIn ⟨_,h1,rfl⟩ Z.l (λz=>nomatch z) λtk=>fin _ tk (by cases e;cases t<;>rfl)
 |loc n=>cases e
 |scr n=>cases e
 |fnc n=>cases e
 |exn n=>erw[ybn,Ao,List.all_nil,hb,Em,if_true]at e;cases e
def zgY{T:AS}(Z:ydv X.K t)(ht:yct t=AC)(hg:Gl X "isinstance")(hm:X.mg "isinstance"=AE)(hgT:Gl X T)(hmT:X.mg T=AE)(hT:bootBuiltins T=AA (.type (tyN t)))(ha:PE X a (tE S X ca))(hnT:T ≠ "__name__":=by decide)(hdT:(T==("__debug__":AS))=false:=by decide)
  (he:starEach [a,.Name T p2] X.env=(AG,eval a X.env)::starEach [.Name T p2] X.env:=by rfl) (hpl:(backTo pos (starEach [.Name T p2] X.env)).any (·.1)=false:=by rfl):
  PE X (.Call (.Name "isinstance" p) [a,.Name T p2] [] pos) (tE S X (.isi ca [t])):=
 (za6 (zgB Z) hg hm Fc (zp ha (zp (zfD (v:=.ty (tyN t)) hgT hmT hT rfl hnT hdT) zi2) he) ⋯ ⋯ he hpl).imp λσ H Q ⟨B,φ,st,ρ,rs,re,h⟩=>by
  erw[ev]at h;refine tE.bind rs re h λx H1 v st1 φ1 s1 rs1 re1 rv h1=>?_;let⟨z,e,q⟩:=zr h1 rs1;exact⟨B,φ1,st1,v,x,z,rfl,rs1,rv,e,ht,q⟩
def zeX{st4:SO}{x y v:PV}(h:yaP st x y v=AA st4):∃n xs k j,x=.loc n/\st[n]?=AA (.lst xs)/\y=.int k/\ixI xs.length k=AA j/\st4=st.set n (.lst (xs.set j v)):=by
 cases x with
 |loc n=>
  erw[yaP]at h
  cases q:st[n]? with
  |none=>rw[q]at h;cases h
  |some o=>
   rw[q]at h
   cases o with
   |lst xs=>
    cases y with
    |int k=>
     dsimp only at h
     cases q2:ixI xs.length k with
     |none=>rw[q2]at h;cases h
     |some j=>rw[q2]at h;exact⟨n,xs,k,j,rfl,q,rfl,q2,(A0 h).symm⟩
    |_=>cases h
   |_=>cases h
 |_=>cases h
theorem yd.put{K:AF}{cl:Nat->AI}:∀{vs:List PV} {xs:List V} (j:Nat) {v:PV} {x:V},yd K cl B φ H vs xs->yc K cl B φ H v x->yd K cl B φ H (vs.set j v) (xs.set j x)
 |[],xs,j,v,x,l,r=>by erw[yd]at l;subst l;simp[yd]
 |w::vs,xs,0,v,x,l,r=>by
  erw[yd]at l;let⟨y,ys,rfl,_,l⟩:=l;erw[Au,yd];exact⟨x,ys,rfl,r,l⟩
 |w::vs,xs,j+1,v,x,l,r=>by
  erw[yd]at l;let⟨y,ys,rfl,ry,l⟩:=l;erw[BA,yd];exact⟨y,ys.set j x,rfl,ry,yd.put j l r⟩
def zhs(he:PE X a (tE S X ca))(ho:PE X b (tE S X cb))(hi:PE X c (tE S X cc))(hs:swapsWithSole [.Subscript b c px] a pos.line X.env=pure false:=by rfl)(hw:swappedStores [.Subscript b c px] a X.env=pure none:=by rfl)
  (hg:PG X (.Subscript b c px) (yew (tE S X cb) (tE S X cc) ycl):=by exact ze2 ‹_› ‹_› zcp):PS X (.Assign [.Subscript b c px] a pos) (tS S X (.six cb cc ca)):=
 (ze5 he hg hs hw).imp λD σ H ⟨B,φ,st,ρ,rs,re,h⟩=>by
  erw[ex]at h;refine tE.fl rs re h λv' H1 v st1 φ1 s1 rs1 re1 rv h1=>tE.fl rs1 re1 h1 λx' H2 x st2 φ2 s2 rs2 re2 rx h2=>tE.fl rs2 re2 h2 λy' H3 y st3 φ3 s3 rs3 re3 ry h3=>?_
  cases e:yaP st3 x y v with
  |none=>rw[e]at h3;exact h3.elim
  |some st4=>
   rw[e]at h3;let⟨n,xs,k,j,rfl,hn,rfl,hj,rfl⟩:=zeX e;erw[yc]at ry;subst ry;let⟨l,ys,rfl,hp,hx,lr⟩:=rs3.list (rx.step s3) hn;refine⟨l,ys,k,j,rfl,rfl,hx,by rw[<-lr.length];exact hj,?_⟩;have s4:Step φ3 H3 φ3 (L2.upd H3 l (.lst (ys.set j v'))):=.put (AZ hp);exact h3 σ _ φ3 s4 (rs3.put hp ⟨_,zc,(lr.put j ((rv.step s2).step s3)).step s4⟩) (re3.step s4)
end
section
variable {S:Se}{X:Cx}{σ:St}{B:AI->Prop}{φ:Ph}{H:Hp}{st:SO}{p pos p2 px py pt pt2 apos:Bf}{a b c d o:AM}{ca cb cc:Ce}{kt k2:Nat}
def zhQ{i j:Nat}{x y:AS}(hc:X.calm=AC)(hN:X.N.Nodup)(hi:X.N[i]?=AA x)(hj:X.N[j]?=AA y)(hij:i≠j)(h:PS X (.Assign [.Tuple [.Name x px,.Name y py] kt pt] (.Tuple [a,b] k2 pt2) pos) (yej i j (tAs S X (.cons ca (.cons cb .nil))))):
  PS X (.Assign [.Tuple [.Name x px,.Name y py] kt pt] (.Tuple [a,b] k2 pt2) pos) (tS S X (.asg (.t [i,j]) (.tup (.cons ca (.cons cb .nil))))):=
 h.imp λD σ H ⟨B,φ,st,ρ,rs,re,h⟩=>by
  erw[ex,ev]at h;refine⟨B,φ,st,ρ,rs,re,?_⟩
  cases e:evs S.call ρ st (.cons ca (.cons cb .nil))with
  |bad=>rw[e]at h;exact h
  |exc k st'=>rw[e]at h;exact λe s' x=>h σ φ H e s' .rfl re x
  |ok vs st'=>
   rw[e]at h;intro xs H' φ' s rs' l;erw[R.bind]at h;split at h
   .rcases vs with _|⟨v,_|⟨w,_|⟨u,t⟩⟩⟩
    .exact h.elim
    .exact h.elim
    .let⟨v',w',rfl,rv,rw⟩:=l.two;refine⟨v',w',rfl,?_⟩;exact h _ H' φ' s rs' (((re.step s).set i rv).set j rw)
    .exact h.elim
   .exact h.elim
def zfv{bo:BOp}{v w z:PV}(h:ya3 bo v w=AA z):∃i j,v=.int i/\w=.int j/\IC.binI bo i j=AA z:=by
 unfold ya3 at h;split at h
 .exact⟨_,_,rfl,rfl,h⟩
 .cases h
def zfR:PIp X .Add (rT2 S X (ya3 .add)):=by
 rintro π s σ H x y v u Q I rx ry ⟨B,φ,st,a,b,z,rs,ra,rb,e,q⟩
 let⟨i,j,rfl,rfl,e⟩:=zfv e
 cases e
 erw[yc]at ra rb;subst ra rb;exact zhr π s σ H _ _ v u Q I rx ry ⟨i,j,rfl,rfl,q _ H φ .rfl rs (by erw[yc])⟩
end
end L2
namespace WK
open PySem L2 IC
def GC(K:AF)(mg:AS->Option AD)(cl:Nat->AI)(x:AS)(v:PV):Prop:=∃y:AI,mg x=AA (.ref y)/\∀B φ H,yc K cl B φ H v (.ref y)
def ziJ{S:Se}{X:Cx}{x:AS}{v:PV}{pos:Bf}(hg:Gl X x)(h:GC X.K X.mg S.cl x v)(hd:(x==("__debug__":AS))=false:=by decide):PE X (.Name x pos) (tE S X (.cst v)):=by
 let⟨y,hm,hk⟩:=h;exact zc1 hg hm hk hd
def zhT:bootBuiltins "int"=AA (.type "int"):=by decide +kernel
def zfo:bootBuiltins "bool"=AA (.type "bool"):=by decide +kernel
def zgP:bootBuiltins "str"=AA (.type "str"):=by decide +kernel
def zce:bootBuiltins "tuple"=AA (.type "tuple"):=by decide +kernel
def zhk:bootBuiltins "len"=AA (.builtin "len"):=by decide +kernel
def zhG:bootBuiltins "abs"=AA (.builtin "abs"):=by decide +kernel
def zh6:bootBuiltins "all"=AA (.builtin "all"):=by decide +kernel
end WK
namespace L2
open PySem PySem.Spec PyProof.Rows IC
def shC:Sum Ce Int->Option Int
 |.inl _=>AE
 |.inr i=>AA i
def yam:List (Option Int)->List V->List V
 |[],_=>[]
 |some i::r,zs=>.int i::yam r zs
 |none::r,z::zs=>z::yam r zs
 |none::_,[]=>[]
def pick:List (Option Int)->List V->List V
 |none::r,v::vs=>v::pick r vs
 |some _::r,_::vs=>pick r vs
 |_,_=>[]
def nKw:List (Option Int)->Nat
 |[]=>0
 |none::r=>nKw r+1
 |some _::r=>nKw r
def yb6:Ces->Nat
 |.nil=>0
 |.cons _ r=>yb6 r+1
def gK(np:Nat)(sh:List (Option Int))(vs zs:List V):List V:=if vs.length=np/\zs.length=nKw sh then vs++yam sh zs else []
def zcZ{call:Nat->List PV->SO->R PV}{ρ:IC.Env}:∀(a:Ces) {st st':SO} {vs:List PV},evs call ρ st a=.ok vs st'->vs.length=yb6 a
 |.nil,st,st',vs,h=>by erw[evs]at h;cases h;rfl
 |.cons e r,st,st',vs,h=>by
  erw[evs]at h
  cases q:ev call ρ st e with
  |ok v s1=>
   rw[q]at h;erw[R.bind]at h
   cases q2:evs call ρ s1 r with
   |ok ws s2=>
    rw[q2]at h
    cases h
    simp[yb6,zcZ r q2]
   |exc c s=>rw[q2]at h;cases h
   |bad=>rw[q2]at h;cases h
  |exc c s=>rw[q]at h;cases h
  |bad=>rw[q]at h;cases h
def zdY{call:Nat->List PV->SO->R PV}{ρ:IC.Env}:∀(a b:Ces) (st:SO),evs call ρ st (yR a b)=(evs call ρ st a).bind λvs st1=>(evs call ρ st1 b).bind λws st2=>.ok (vs++ws) st2
 |.nil,b,st=>by
  erw[yR,evs,R.bind,BX]
  cases evs call ρ st b<;>rfl
 |.cons e r,b,st=>by
  erw[yR,evs]
  cases ev call ρ st e with
  |ok v st1=>
   erw[R.bind];rw[zdY r b st1]
   cases evs call ρ st1 r with
   |ok vs st2=>
    erw[R.bind]
    cases evs call ρ st2 b<;>rfl
   |exc c s=>rfl
   |bad=>rfl
  |exc c s=>rfl
  |bad=>rfl
section
variable {S:Se}{X:Cx}{k:Nat}{f:AI}{fd:Aj}{ps ks:List AS}{sp:Sp}{x:AS}{p pos kpos:Bf}{e:AM}{es:List AM}{kws:List CG}{nm:Option AS}{t tk:TA}{CX:CXT}{ca:Ce}{ces:Ces}{items:List (Sum Ce Int)}{g:List AD->List AD->List AD}{gV:List V->List V->List V}
def zY{K:AF}{cl:Nat->AI}{B:AI->Prop}{φ:Ph}{H:Hp}{call:Nat->List PV->SO->R PV}{ρ:IC.Env}:∀(items:List (Sum Ce Int)) {st st':SO} {vs:List PV} {xs:List V},evs call ρ st (yj items)=.ok vs st'->yd K cl B φ H vs xs->yam (items.map shC) (pick (items.map shC) xs)=xs/\(pick (items.map shC) xs).length=nKw (items.map shC)
 |[],st,st',vs,xs,h,l=>by
  erw[yj,evs]at h
  cases h
  erw[yd]at l;subst l;exact⟨rfl,rfl⟩
 |.inl c::r,st,st',vs,xs,h,l=>by
  erw[yj,evs]at h;let⟨v,s1,e1,h⟩:=zj h;let⟨ws,s2,e2,h⟩:=zj h
  cases h
  erw[yd]at l;let⟨y,ys,rfl,_,l⟩:=l;let⟨q1,q2⟩:=zY r e2 l;erw[AX,shC,pick,yam,nKw,Ag,q1,q2];exact⟨trivial,trivial⟩
 |.inr i::r,st,st',vs,xs,h,l=>by
  erw[yj,evs,ev]at h;let⟨v,s1,e1,h⟩:=zj h;let⟨ws,s2,e2,h⟩:=zj h
  cases h
  cases e1
  erw[yd,yc]at l;let⟨y,ys,rfl,rfl,l⟩:=l;let⟨q1,q2⟩:=zY r e2 l;erw[AX,shC,pick,yam,nKw,q1,q2];exact⟨trivial,trivial⟩
def tK(S:Se)(X:Cx)(items:List (Sum Ce Int)):TA:=λσ H Q=>∃B φ st ρ,yh X.K S.cl B φ H st/\yo X.K S.cl B φ H ρ σ/\Run S X σ B φ H (RL S X B) (evs S.call ρ st (yj items)) λxs H'=>Q (pick (items.map shC) xs) H'
theorem PK.imp{t t':TA}(h:PK X kws t')(k:∀σ H Q,t σ H Q->t' σ H Q):PK X kws t:=λpos π s σ H Q I q=>h pos π s σ H Q I (k σ H Q q)
def zhn:PK X [] (tK S X []):=zjo.imp λσ H Q ⟨B,φ,st,ρ,rs,re,h⟩=>by
 erw[yj,evs]at h;exact h.ok rs (x:=[]) (by erw[yd])
def ziw{i:Int}(h:PK X kws (tK S X items)):PK X kws (tK S X (.inr i::items)):=h.imp λσ H Q ⟨B,φ,st,ρ,rs,re,h⟩=>by
 erw[yj,evs,ev,R.bind]at h;refine⟨B,φ,st,ρ,rs,re,?_⟩
 cases e:evs S.call ρ st (yj items)with
 |ok vs st'=>
  rw[e]at h;intro xs H' φ' s rs' l;exact h (.int i::xs) H' φ' s rs' (by erw[yd,yc];exact⟨_,_,rfl,rfl,l⟩)
 |exc c s=>rw[e]at h;exact h
 |bad=>rw[e]at h;exact h
def ziA(ha:PE X e (tE S X ca))(h:PK X kws (tK S X items)):PK X (⟨nm,e,kpos⟩ :: kws) (tK S X (.inl ca::items)):=(zfF ha h).imp λσ H Q ⟨B,φ,st,ρ,rs,re,h⟩=>by
 erw[yj,evs]at h;refine tE.bind rs re h λx H1 v st1 φ1 s1 rs1 re1 rv h1=>⟨B,φ1,st1,ρ,rs1,re1,?_⟩;refine(Run.bind (Rel:=RL S X B) h1).mono λxs H2 kq=>?_;let⟨ws,st2,φ2,s2,rs2,l,h2⟩:=kq;exact h2.ok rs2 (x:=x::xs) (by erw[yd];exact⟨x,xs,rfl,rv.step s2,l⟩)
def zem{fi:Nat}(F:yaG X.prog X.w X.K X.mg X.base (CX1 X.prog X.w) k f fd ps (spI X.K S.cl S.call fi))(hr:yat k X.A)(hg:Gl X x)(hm:X.mg x=AA (.ref f))(hk:Ae X.K (.ref f)=AC){np:Nat}(hb:∃g,ya0 X.K fd ps ks g (gK np (items.map shC)))(hnp:yb6 ces=np)
  (ha:PA X (e::es) (tAs S X ces)) (hkw:PK X kws (tK S X items)) (hall:(backToKw pos (keywordEach kws X.env)).all (·.1.isSome)=true:=by rfl) (hks:(backToKw pos (keywordEach kws X.env)).filterMap (·.1)=ks:=by rfl)
  (hdb:(x==("__debug__":AS))=false:=by decide) (he:starEach (e::es) X.env=(AG,eval e X.env)::starEach es X.env:=by rfl)
  (hpl:((backTo pos (starEach (e::es) X.env)).any (·.1) || (backToKw pos (keywordEach kws X.env)).any (·.1.isNone))=false:=by rfl):
  PE X (.Call (.Name x p) (e::es) kws pos) (tE S X (.call fi (yR ces (yj items)))):=by
 intro π s σ H Q I ⟨B,φ,st,ρ,rs,re,h⟩;erw[ev]at h;rw[zdY,R.bind_assoc]at h;refine Bk (za8 I hg hm ?_ hdb);have h0:tAs S X ces σ H λvs H1=>tK S X items σ H1 λzs H2=>∃E:XK,spI X.K S.cl S.call fi (gK np (items.map shC) vs zs) H2 Q E/\∀π s e s',Inv X π σ H2 s->CX1 X.prog X.w X.stack H2 s E e s'->X.xe e s':=by
  have hlen:∀vs st',evs S.call ρ st ces=.ok vs st'->vs.length=np:=λvs st' q=>(zcZ ces q).trans hnp;refine⟨B,φ,st,ρ,rs,re,?_⟩
  cases q:evs S.call ρ st ces with
  |exc c s=>rw[q]at h;exact h
  |bad=>rw[q]at h;exact h
  |ok vs st1=>
  rw[q]at h;intro xs H1 φ1 s1 rs1 rv;have h1:=Run.on s1 h;have re1:=re.step s1;have hv:=hlen vs st1 q;refine⟨B,φ1,st1,ρ,rs1,re1,?_⟩;have h1:Run S X σ B φ1 H1 (RV S X B) (((evs S.call ρ st1 (yj items)).bind λa st=>(R.ok (vs++a) st:R (List PV))).bind λvs st1=>S.call fi vs st1) Q:=h1;rw[R.bind_assoc]at h1
  cases e:evs S.call ρ st1 (yj items)with
  |ok ws st2=>
   rw[e]at h1;intro ys H2 φ2 s2 rs2 l2;let⟨m1,m2⟩:=zY items e l2;have eg:gK np (items.map shC) xs (pick (items.map shC) ys)=xs++ys:=by
    unfold gK;rw[if_pos ⟨by rw[<-rv.length];exact hv,m2⟩,m1]
   show ∃E:XK,spI X.K S.cl S.call fi (gK np (items.map shC) xs (pick (items.map shC) ys)) H2 Q E/\_;rw[eg];exact zav rs2 ((rv.step s2).append l2) (Run.on s2 h1)
  |exc c s=>rw[e]at h1;exact h1
  |bad=>rw[e]at h1;exact h1
 refine PySem.W.callWith_KW (h₀:=X.base) I.ok.mod.kin hk hall (thn (ha pos π s σ H _ I h0) λus s1 kq=>?_) hpl he;let⟨vs,H1,I1,r,q⟩:=kq;refine thn (hkw pos π s1 σ H1 _ I1 q) λws s2 kq=>?_;let⟨zs,H2,I2,rz,E,q2,hx⟩:=kq;refine ⟨I2.kIn,?_⟩;rw[hks];let⟨g,hb⟩:=hb;have r2:=hb.rel r rz;have hl:(g us ws).length=ps.length:=by rw[<-r2.length];exact F.len _ _ _ _ q2
 refine wpAny_call (EH (F.run X.A X.stack s2 H2 ⟨us,ks.zip ws⟩ (g us ws) (gK np (items.map shC) vs zs) Q E hr I2.env0 (hb.to s2 us ws I2.kIn hl) r2 q2) λr s' hq=>?_)
 cases r with
 |error e=>exact hx π s2 e s' I2 hq
 |ok fl=>
  cases fl with
  |ret u=>exact I2.after hq
  |next=>exact B1 hq
  |brk=>exact B1 hq
  |cont=>exact B1 hq
end
def yax:List (Option Int)->List AD->List AD->List AD
 |[],_,_=>[]
 |some _::r,ws,d::ds=>d::yax r ws ds
 |none::r,w::ws,_::ds=>w::yax r ws ds
 |_,_,_=>[]
def zaq:∀(sh:List (Option Int)) (ds:List Int) {zs:List V} {ws us:List AD},Vals (ds.map V.int) us->Vals zs ws->sh.length=ds.length->(∀p∈sh.zip ds,∀i,p.1=AA i->i=p.2)->Vals (yam sh zs) (yax sh ws us)
 |[],ds,zs,ws,us,r,q,hl,h=>.nil
 |some i::r,[],zs,ws,us,rr,q,hl,h=>by simp at hl
 |some i::r,d::ds,zs,ws,_,.cons a b,q,hl,h=>by
  have:i=d:=h (AA i,d) (by simp) i rfl;subst this;exact .cons a (zaq r ds b q (by simpa using hl) λp hp=>h p (by simp[hp]))
 |none::r,[],zs,ws,us,rr,q,hl,h=>by simp at hl
 |none::r,d::ds,_,_,_,.cons a b,.nil,hl,h=>.nil
 |none::r,d::ds,_,_,_,.cons a b,.cons c q,hl,h=>.cons c (zaq r ds b q (by simpa using hl) λp hp=>h p (by simp[hp]))
structure FnD(K:AF)(mg:AS->Option AD)(x:AS)(st:Bd)(ps:List AS)(ds:List Int)(f:AI)(fd:Aj):Prop where
 ex:∃(oc:AD) (od:Option AI) (dT:AI) (kV doc pm:AD) (an:Option AI) (cdv ct:AD) (osl:Array (Option AD)) (o:B8) (its:Array AD) (n:Nat),
  fd=BL x x (yH st) (yq st) (yg st) (.ref dT) kV doc pm an cdv ct/\K.lookup f=AA ⟨oc,od,.func fd,osl⟩/\Bj K cdv x=AC/\K.lookup dT=AA o/\o.data=.seq its n/\Vals (ds.map V.int) its.toList
 kp:Ae K (.ref f)=AC
 m:mg x=AA (.ref f)
theorem kbD{K:AF}{mg:AS->Option AD}{x:AS}{st:Bd}{ps ks:List AS}{ds:List Int}{f:AI}{fd:Aj}{np off:Nat}{sh:List (Option Int)}(D:FnD K mg x st ps ds f fd)(hnk:ks.length=nKw sh)(hsh:sh.length=(ds.drop off).length)(hd':((sh.zip (ds.drop off)).all λp=>p.1.all λi=>decide (i=p.2))=AC)
  (h:∀(dT:AI) (kV doc pm:AD) (an:Option AI) (cdv ct:AD) (us ws its:List AD),us.length=np->ws.length=ks.length->its.length=ds.length ->
   ∃k,bindArgs (BL x x (yH st) (yq st) (yg st) (.ref dT) kV doc pm an cdv ct) ⟨us,ks.zip ws⟩=seqItems? (.ref dT) >>= k/\k (AA its.toArray)=pure (ps.zip (us++yax sh ws (its.drop off)))) (hps:0<ps.length):
  ∃g,ya0 K fd ps ks g (gK np sh):=by
 have hd:∀p∈sh.zip (ds.drop off),∀i,p.1=AA i->i=p.2:=λp hp i hi=>by
  have:=B3.mp hd' p hp;rw[hi]at this;simpa using this
 let⟨oc,od,dT,kV,doc,pm,an,cdv,ct,osl,o,its,n,rfl,lk,hcd,lo,hs,r⟩:=D.ex;refine⟨λus ws=>if us.length=np/\ws.length=nKw sh then us++yax sh ws (its.toList.drop off)else [],⟨λs us ws KX hl=>?_,λ{vs us zs ws} rv rz=>?_⟩⟩
 .by_cases c:us.length=np/\ws.length=nKw sh
  .rw[if_pos c]at hl ⊢;let⟨k,h1,h2⟩:=h dT kV doc pm an cdv ct us ws its.toList c.1 (by rw[hnk];exact c.2) (by rw[<-r.length,Ap]);exact BindsTo.of_defaults rfl (KX _ _ lo) hs h1 (by simpa using h2)
  .rw[if_neg c]at hl;simp at hl;lia
 .unfold gK;have e1:=rv.length;have e2:=rz.length
  by_cases c:us.length=np/\ws.length=nKw sh
  .rw[if_pos c,if_pos ∅];refine rv.append (zaq sh (ds.drop off) ?_ rz hsh hd);rw[List.map_drop];exact r.drop off
  .rw[if_neg c,if_neg ∅];exact .nil
section
variable {P:AV}{w:A5}{K:AF}{mg:AS->Option AD}{base:Ak}{cl:Nat->AI}{T:Nat->Option IC.Fn}{fi:Nat}{fn:IC.Fn}{x:AS}{stm:Bd}{f:AI}{fd:Aj}{N ps:List AS}{ds:List Int}{k:Nat}
end
def zaW(a b:Key):peq (yaN a) (yaN b)=decide (a=b):=by
 rw[CJ]
 cases a<;>cases b<;>simp[yaN,peq]
mutual
theorem zgU:∀a b:NK,peq (nkP a) (nkP b)=decide (a=b)
 |.a k,.a j=>by
  rw[nkP,nkP,zaW]
  by_cases e:k=j<;>simp[e]
 |.a k,.t l=>by rw[nkP,nkP];cases k<;>simp[yaN,peq]
 |.t l,.a k=>by rw[nkP,nkP];cases k<;>simp[yaN,peq]
 |.t l,.t m=>by
  rw[nkP,nkP];erw[peq,zb1 l m]
  by_cases e:l=m<;>simp[e]
theorem zb1:∀a b:List NK,yay (yai a) (yai b)=decide (a=b)
 |[],[]=>by simp[yai,yay]
 |[],y::ys=>by simp[yai,yay]
 |x::xs,[]=>by simp[yai,yay]
 |x::xs,y::ys=>by
  erw[yai,yay,zgU x y,zb1 xs ys]
  by_cases e:x=y<;>by_cases f:xs=ys<;>simp[e,f]
end
def zad(a b:List NK):peq (.tup (yai a)) (.tup (yai b))=decide (a=b):=by
 erw[peq,zb1]
def zgi{k:PV}(h:ybD k=AC):∃q,k=yaN q:=by
 cases k with
 |int i=>exact⟨.inl i,rfl⟩
 |str i=>exact⟨.inr i,rfl⟩
 |_=>cases h
mutual
theorem ziT:∀(k:PV) (n:Nat),yb1 n k=AC->∃q:NK,k=nkP q/\B5 (nkD q)=AC/\(nkD q).depth<=n
 |.int i,n,_=>⟨.a (.inl i),rfl,rfl,BI _⟩
 |.str x,n,h=>⟨.a (.inr x),rfl,h,BI _⟩
 |.tp k xs,n,h=>by
  erw[yb1,AJ,decide_eq_true_eq,B9]at h;let⟨q,e,c,d⟩:=zeb xs (n-1) h.2;refine⟨.t q,by rw[h.1.1,e];rfl,c,?_⟩;erw[nkD,BV];lia
 |.non,n,h=>by cases h
 |.bl _,n,h=>by cases h
 |.lst _,n,h=>by cases h
 |.loc _,n,h=>by cases h
 |.exn _,n,h=>by cases h
 |.scr _,n,h=>by cases h
 |.fnc _,n,h=>by cases h
theorem zeb:∀(ks:List PV) (n:Nat),yaz n ks=AC->∃qs:List NK,ks=yai qs/\Bu (yaA qs)=AC/\BP (yaA qs)<=n
 |[],n,_=>⟨[],rfl,rfl,BI _⟩
 |k::ks,n,h=>by
  erw[yaz,AJ]at h;let⟨q,e1,c1,d1⟩:=ziT k n h.1;let⟨qs,e2,c2,d2⟩:=zeb ks n h.2;refine⟨q::qs,by rw[e1,e2];rfl,by erw[yaA,Bu,c1,c2];rfl,?_⟩;erw[yaA,BP];lia
end
section
variable {S:Se}{X:Cx}{K:AF}{cl:Nat->AI}{σ:St}{B:AI->Prop}{φ:Ph}{H:Hp}{st:SO}{p pos p2 px apos:Bf}{a b c d o:AM}{ca cb cc:Ce}
def zi7{q:Key}{x:V}:yc K cl B φ H (yaN q) x ↔ x=kV q:=by
 cases q<;>simp[yaN,yc,kV]
mutual
theorem zd8:∀(q:NK) (x:V),yc K cl B φ H (nkP q) x->NKr H q x
 |.a k,x,r=>zi7.mp r
 |.t l,x,r=>by
  erw[nkP,yc]at r;let⟨y,xs,rfl,rt,rl⟩:=r;rcases rt with⟨rt,_⟩|⟨z,_⟩
  .exact⟨y,xs,rfl,rt,zdC l xs rl⟩
  .cases z
theorem zdC:∀(q:List NK) (xs:List V),yd K cl B φ H (yai q) xs->NKs H q xs
 |[],xs,l=>show xs=[]by simpa only[yai,yd] using l
 |q::qs,xs,l=>by
  erw[yai,yd]at l;let⟨y,ys,rfl,r,l⟩:=l;exact⟨y,ys,rfl,zd8 q y r,zdC qs ys l⟩
end
theorem DK.look{q:Key}:∀{kvs:List (PV×PV)} {ks:List (Key×V)},DK K cl B φ H kvs ks->∀{v:PV} {x:V},yc K cl B φ H v x->yc K cl B φ H ((IC.look (yaN q) kvs).getD v) ((yah ks q).getD x)
 |[],ks,h,v,x,r=>by cases h;exact r
 |(k,w)::t,ks,h,v,x,r=>by
  let⟨q',y,s,rfl,rfl,rv,l⟩:=h;erw[IC.look,zaW]
  by_cases e:q'=q
  .rw[zo (p:=(q',y)) e];simp[e,rv]
  .rw[zq (p:=(q',y)) e];erw[decide_eq_true_eq,e,if_false];exact DK.look l r
theorem DT.look{q:List NK}:∀{kvs:List (PV×PV)} {ks:List (List NK×V)},DT K cl B φ H kvs ks->∀{v:PV} {x:V},yc K cl B φ H v x->yc K cl B φ H ((IC.look (.tup (yai q)) kvs).getD v) ((yah ks q).getD x)
 |[],ks,h,v,x,r=>by cases h;exact r
 |(k,w)::t,ks,h,v,x,r=>by
  let⟨q',y,s,rfl,rfl,rv,l⟩:=h;erw[IC.look,zad]
  by_cases e:q'=q
  .rw[zo (p:=(q',y)) e];simp[e,rv]
  .rw[zq (p:=(q',y)) e];erw[decide_eq_true_eq,e,if_false];exact DT.look l r
theorem DK.any{q:Key}:∀{kvs:List (PV×PV)} {ks:List (Key×V)},DK K cl B φ H kvs ks->(kvs.any λp=>peq p.1 (yaN q))=ks.any λkv=>decide (kv.1=q)
 |[],ks,h=>by cases h;rfl
 |(k,w)::t,ks,h=>by
  let⟨q',y,s,rfl,rfl,rv,l⟩:=h;erw[Be,zaW,DK.any l]
theorem DT.any{q:List NK}:∀{kvs:List (PV×PV)} {ks:List (List NK×V)},DT K cl B φ H kvs ks->(kvs.any λp=>peq p.1 (.tup (yai q)))=ks.any λkv=>decide (kv.1=q)
 |[],ks,h=>by cases h;rfl
 |(k,w)::t,ks,h=>by
  let⟨q',y,s,rfl,rfl,rv,l⟩:=h;erw[Be,zad,DT.any l]
theorem DK.map{q:Key}{v:PV}{x:V}(r:yc K cl B φ H v x):∀{kvs:List (PV×PV)} {ks:List (Key×V)},DK K cl B φ H kvs ks->DK K cl B φ H (kvs.map λp=>if peq p.1 (yaN q)=AC then(p.1,v)else p) (ks.map λkv=>if kv.1=q then(kv.1,x)else kv)
 |[],ks,h=>by cases h;exact rfl
 |(k,w)::t,ks,h=>by
  let⟨q',y,s,rfl,rfl,rv,l⟩:=h;erw[AX,zaW,decide_eq_true_eq]
  by_cases e:q'=q
  .simp only[e,if_true];exact⟨q,x,_,rfl,rfl,r,DK.map r l⟩
  .simp only[e,if_false];exact⟨q',y,_,rfl,rfl,rv,DK.map r l⟩
theorem DT.map{q:List NK}{v:PV}{x:V}(r:yc K cl B φ H v x):∀{kvs:List (PV×PV)} {ks:List (List NK×V)},DT K cl B φ H kvs ks->DT K cl B φ H (kvs.map λp=>if peq p.1 (.tup (yai q))=AC then(p.1,v)else p) (ks.map λkv=>if kv.1=q then(kv.1,x)else kv)
 |[],ks,h=>by cases h;exact rfl
 |(k,w)::t,ks,h=>by
  let⟨q',y,s,rfl,rfl,rv,l⟩:=h;erw[AX,zad,decide_eq_true_eq]
  by_cases e:q'=q
  .simp only[e,if_true];exact⟨q,x,_,rfl,rfl,r,DT.map r l⟩
  .simp only[e,if_false];exact⟨q',y,_,rfl,rfl,rv,DT.map r l⟩
theorem DK.snoc{q:Key}{v:PV}{x:V}(r:yc K cl B φ H v x):∀{kvs:List (PV×PV)} {ks:List (Key×V)},DK K cl B φ H kvs ks->DK K cl B φ H (kvs++[(yaN q,v)]) (ks++[(q,x)])
 |[],ks,h=>by cases h;exact⟨q,x,[],rfl,rfl,r,rfl⟩
 |(k,w)::t,ks,h=>by
  let⟨q',y,s,rfl,rfl,rv,l⟩:=h;exact⟨q',y,_,rfl,rfl,rv,DK.snoc r l⟩
theorem DT.snoc{q:List NK}{v:PV}{x:V}(r:yc K cl B φ H v x):∀{kvs:List (PV×PV)} {ks:List (List NK×V)},DT K cl B φ H kvs ks->DT K cl B φ H (kvs++[(.tup (yai q),v)]) (ks++[(q,x)])
 |[],ks,h=>by cases h;exact⟨q,x,[],rfl,rfl,r,rfl⟩
 |(k,w)::t,ks,h=>by
  let⟨q',y,s,rfl,rfl,rv,l⟩:=h;exact⟨q',y,_,rfl,rfl,rv,DT.snoc r l⟩
theorem DK.put{q:Key}{v:PV}{x:V}{kvs:List (PV×PV)}{ks:List (Key×V)}(l:DK K cl B φ H kvs ks)(r:yc K cl B φ H v x):DK K cl B φ H (IC.put (yaN q) v kvs) (putK ks q x):=by
 unfold IC.put putK;rw[DK.any l];split
 .exact DK.map r l
 .exact DK.snoc r l
theorem DT.put{q:List NK}{v:PV}{x:V}{kvs:List (PV×PV)}{ks:List (List NK×V)}(l:DT K cl B φ H kvs ks)(r:yc K cl B φ H v x):DT K cl B φ H (IC.put (.tup (yai q)) v kvs) (putK ks q x):=by
 unfold IC.put putK;rw[DT.any l];split
 .exact DT.map r l
 .exact DT.snoc r l
theorem DK.len:∀{kvs:List (PV×PV)} {ks:List (Key×V)},DK K cl B φ H kvs ks->kvs.length=ks.length
 |[],ks,h=>by cases h;rfl
 |(k,w)::t,ks,h=>by
  let⟨q',y,s,rfl,rfl,rv,l⟩:=h;simp[DK.len l]
theorem DT.len:∀{kvs:List (PV×PV)} {ks:List (List NK×V)},DT K cl B φ H kvs ks->kvs.length=ks.length
 |[],ks,h=>by cases h;rfl
 |(k,w)::t,ks,h=>by
  let⟨q',y,s,rfl,rfl,rv,l⟩:=h;simp[DT.len l]
theorem yh.dct{n:Nat}{t:Bool}{kvs:List (PV×PV)}{x:V}(rs:yh K cl B φ H st)(r:yc K cl B φ H (.loc n) x)(h:st[n]?=AA (.dct t kvs)):∃y,x=.ref y/\φ[n]?=AA (AA y)/\ybt K cl B φ H (.dct t kvs) y:=by
 erw[yc]at r;let⟨hn,y,rfl,ha⟩:=r;let⟨z,hz⟩:=rs.liv n _ h (by intro z;cases z);obtain rfl:=ha z hz;let⟨o,ho,ro⟩:=rs.obj n z hz;rw[h]at ho;cases ho;exact⟨z,rfl,hz,ro⟩
def zz{v:PV}{t:Bool}{kvs:List (PV×PV)}(h:yU st v=AA (t,kvs)):∃n,v=.loc n/\st[n]?=AA (.dct t kvs):=by
 cases v with
 |loc n=>
  erw[yU]at h;split at h
  .rename_i t' xs q
   cases h
   exact⟨n,rfl,q⟩
  .cases h
 |_=>cases h
def zdm{k:PV}(h:isKey AG k=AC):∃q,k=yaN q:=zgi h
def zcR{k:PV}(h:isKey AC k=AC):∃q:List NK,k=.tup (yai q)/\yc0 q:=by
 cases k with
 |tp b xs=>
  cases b with
  |false=>
   let⟨qs,rfl,c,d⟩:=zeb xs 5 h;exact⟨qs,rfl,c,Dc d⟩
  |true=>cases h
 |_=>cases h
def zdj{q:List NK}{x:V}(hq:yc0 q)(r:yc K cl B φ H (.tup (yai q)) x):∃y,x=.ref y/\KyR H q y:=by
 have r':yc K cl B φ H (nkP (.t q)) x:=r;let⟨b,xs,rfl,g,hs⟩:=zd8 (.t q) x r';exact⟨b,rfl,⟨b,xs,rfl,g,hs⟩,hq⟩
def zdP:PE X (.Dict [] [] pos) (tE S X (.dict0 AC)):=zjt.imp λσ H Q ⟨B,φ,st,ρ,rs,re,h⟩=>by
 erw[ev]at h;exact λp hp=>h _ _ (φ++[AA p]) (.push hp) (rs.push hp (rs.nB hp) ⟨[],zc,rfl⟩) (.loc_new rs)
def zgJ(hu:X.A.units+16<cLine)(ha:PE X a (tE S X ca))(hb:PE X b (tE S X cb))(hc:PE X c (tE S X cc))(m:M2 X a "get" apos b c pos:=by exact⟨rfl,rfl,rfl,rfl⟩):PE X (.Call (.Attribute a "get" apos) [b,c] [] pos) (tE S X (.mth .get ca (.cons cb (.cons cc .nil)))):=
 (zeA hu ha hb hc m).imp λσ H Q ⟨B,φ,st,ρ,rs,re,h⟩=>by
  erw[ev]at h;refine tE.bind rs re h λx H1 v st1 φ1 s1 rs1 re1 rv h1=>?_;let⟨_,e1,h1⟩:=zdz h1;erw[yar]at e1
  cases q:yU st1 v with
  |none=>rw[q]at e1;cases e1
  |some tk=>
   let⟨t,kvs⟩:=tk;let⟨n,rfl,hn⟩:=zz q;let⟨y,rfl,hy,ro⟩:=rs1.dct rv hn;refine⟨y,rfl,?_,?_⟩
   .cases t with
    |false=>let⟨ks,hk,_⟩:=ro;exact .inl ⟨ks,.inl hk⟩
    |true=>let⟨ks,hk,_⟩:=ro;exact .inr ⟨ks,.inl hk⟩
   .simp only[evs,R.bind_assoc]at h1;refine tE.bind rs1 re1 h1 λkx H2 kv st2 φ2 s2 rs2 re2 rk h2=>tE.bind rs2 re2 h2 λdx H3 dv st3 φ3 s3 rs3 re3 rd h3=>?_;erw[R.bind]at h3;unfold ybI at h3;erw[ycW]at h3
    cases q3:yU st3 (.loc n)with
    |none=>rw[q3]at h3;exact h3.elim
    |some tk3=>
     let⟨t3,kvs3⟩:=tk3;rw[q3]at h3;dsimp only at h3;split at h3
     .rename_i hk;let⟨n',e',hn3⟩:=zz q3
      cases e'
      let⟨y3,ey,hy3,ro3⟩:=rs3.dct ((rv.step s2).step s3) hn3
      cases ey
      have rk3:=rk.step s3
      cases t3 with
      |false=>
       let⟨q,rfl⟩:=zdm hk;let⟨ks,hks,l⟩:=ro3;refine⟨yah ks q,.inl ⟨ks,q,.inl hks,zi7.mp rk3,rfl⟩,h3.ok rs3 (DK.look l rd)⟩
      |true=>
       let⟨q,rfl,hq⟩:=zcR hk;let⟨ks,hks,l⟩:=ro3;let⟨b',rfl,hb'⟩:=zdj hq rk3;exact⟨yah ks q,.inr ⟨ks,q,b',.inl hks,rfl,hb',rfl⟩,h3.ok rs3 (DT.look l rd)⟩
     .exact h3.elim
def zdL{st4:SO}{x y v:PV}(h:yaS st x y v=AA st4):∃n t kvs,x=.loc n/\st[n]?=AA (.dct t kvs)/\isKey t y=AC/\kvs.length<1000000/\st4=st.set n (.dct t (IC.put y v kvs)):=by
 cases x with
 |loc n=>
  erw[yaS]at h;split at h
  .rename_i t kvs q;split at h
   .rename_i c;exact⟨n,t,kvs,rfl,q,c.1,c.2,(A0 h).symm⟩
   .cases h
  .cases h
 |_=>cases h
def zgl(hu:X.A.units+16<cLine)(ho:PE X b (tE S X cb))(hi:PE X c (tE S X cc))(hv:PE X a (tE S X ca))(hs:swapsWith a (AA (.Subscript b c px)) pos.line X.env=pure false:=by rfl):PS X (.Assign [.Subscript b c px] a pos) (tS S X (.dput cb cc ca)):=
 (zgh hu ho hi hv hs).imp λD σ H ⟨B,φ,st,ρ,rs,re,h⟩=>by
  erw[ex]at h;refine tE.fl rs re h λv' H1 v st1 φ1 s1 rs1 re1 rv h1=>tE.fl rs1 re1 h1 λx' H2 x st2 φ2 s2 rs2 re2 rx h2=>tE.fl rs2 re2 h2 λy' H3 y st3 φ3 s3 rs3 re3 ry h3=>?_
  cases e:yaS st3 x y v with
  |none=>rw[e]at h3;exact h3.elim
  |some st4=>
   rw[e]at h3;let⟨n,t,kvs,rfl,hn,hk,hl,rfl⟩:=zdL e;let⟨l,rfl,hp,ro⟩:=rs3.dct (rx.step s3) hn;have rv3:=(rv.step s2).step s3;have hm:=zjb
   cases t with
   |false=>
    let⟨q,rfl⟩:=zdm hk;let⟨ks,hks,ld⟩:=ro;have s4:Step φ3 H3 φ3 (L2.upd H3 l (.dK (putK ks q v'))):=.put (AZ hp);refine⟨l,_,rfl,.inl ⟨ks,q,hks,zi7.mp ry,by have:=ld.len;lia,rfl⟩,h3 σ _ φ3 s4 (rs3.put hp ⟨_,zc,(ld.put rv3).step s4⟩) (re3.step s4)⟩
   |true=>
    let⟨q,rfl,hq⟩:=zcR hk;let⟨ks,hks,ld⟩:=ro;let⟨b',rfl,hb'⟩:=zdj hq ry;have s4:Step φ3 H3 φ3 (L2.upd H3 l (.dT (putK ks q v'))):=.put (AZ hp);refine⟨l,_,rfl,.inr ⟨ks,q,b',hks,rfl,hb',by have:=ld.len;lia,rfl⟩,h3 σ _ φ3 s4 (rs3.put hp ⟨_,zc,(ld.put rv3).step s4⟩) (re3.step s4)⟩
def trC(kvs:List (AS×Int)):List (TE×TE):=kvs.map λkv=>(tC (.str kv.1),tC (.int kv.2))
def zhx:PPs X pos [] [] (trC []):=zgf
def zfq{ks:List (Option AM)}{vs:List AM}{kvs:List (AS×Int)}{x:AS}{i:Int}{j1 j2:Nat}{p1 p2:Bf}(h:PPs X pos ks vs (trC kvs)):PPs X pos (AA (.Constant (.str x) j1 p1)::ks) (.Constant (.int i) j2 p2::vs) (trC ((x,i)::kvs)):=zei zi9 zi5 h
def zaK:∀(kvs:List (AS×Int)) {σ:St} {H:Hp} {Q:List (V×V)->Hp->Prop},Q (kvs.map λkv=>(.str kv.1,.int kv.2)) H->ya2 (trC kvs) σ H Q
 |[],σ,H,Q,h=>h
 |kv::r,σ,H,Q,h=>zaK r (Q:=λps H3=>Q ((.str kv.1,.int kv.2)::ps) H3) h
theorem DK.fold:∀(kvs:List (AS×Int)) {acc:List (PV×PV)} {ks:List (Key×V)},DK K cl B φ H acc ks->DK K cl B φ H (kvs.foldl (λacc kv=>IC.put (.str kv.1) (.int kv.2) acc) acc) (yas ks (kvs.map λkv=>(DJ kv.1,.int kv.2)))
 |[],acc,ks,l=>l
 |kv::r,acc,ks,l=>by
  unfold yas;erw[CK,AX];exact DK.fold r (l.put (q:=DJ kv.1) (x:=.int kv.2) (by erw[yc]))
def zfA{ks:List (Option AM)}{vs:List AM}{kvs:List (AS×Int)}(h:PPs X pos ks vs (trC kvs))(hall:ks.all (·.isSome)=true:=by rfl)(hl:ks.length=vs.length:=by rfl)(h0:ks≠[]:=by simp)(h15:ks.length<=15:=by decide):PE X (.Dict ks vs pos) (tE S X (.newd kvs)):=
 (zfH h hall hl h0 h15).imp λσ H Q ⟨B,φ,st,ρ,rs,re,h⟩=>by
  erw[ev]at h;split at h
  .rename_i c;intro p hp;refine zaK kvs ⟨zc,kvs.map λkv=>(DJ kv.1,.int kv.2),by simp[kV],by simpa using c,?_⟩;rw[zf0];exact h _ _ (φ++[AA p]) (.push hp) (rs.push hp (rs.nB hp) ⟨_,zc,DK.fold kvs rfl⟩) (.loc_new rs)
  .exact h.elim
end
section
variable {S:Se}{X:Cx}{σ:St}{B:AI->Prop}{φ:Ph}{H:Hp}{p pos p3 p4:Bf}{a b tg:AM}{ca cb:Ce}
end
end L2
namespace WK
open PySem L2 IC
section
variable {K:AF}{cl:Nat->AI}{B:AI->Prop}{φ:Ph}{H:Hp}
def ze0:yd K cl B φ H [] []:=by erw[yd]
def zdM{v:PV}{x:V}{vs:List PV}{xs:List V}(h:yc K cl B φ H v x)(l:yd K cl B φ H vs xs):yd K cl B φ H (v::vs) (x::xs):=by
 erw[yd];exact⟨x,xs,rfl,h,l⟩
end
def zgR{P:AV}{w:A5}{outer:List BF}{H:Hp}{s:AH}{e:AD}{s':AH}(h:CX1 P w outer H s (λ_ _ _=>False) e s'):False:=by
 let⟨_,_,_,_,_,_,_,_,_,_,_,_,_,_,z⟩:=h;exact z
def zdk{K:AF}{cl:Nat->AI}{B:AI->Prop}{φ:Ph}{H:Hp}:∀ns:List Int,yd K cl B φ H (ns.map .int) (ns.map V.int)
 |[]=>ze0
 |n::ns=>zdM (by erw[yc]) (zdk ns)
def spX(K:AF)(call:Nat->List PV->SO->R PV)(fi:Nat):Sp:=λvs H Q E=>∀cl,spI K cl call fi vs H Q E
def zc4{K:AF}{call:Nat->List PV->SO->R PV}{fi:Nat}{H:Hp}{a:AI}{ns:List Int}(ht:∀ns:List Int,ns.length<=63->call fi [.scr (ns.map .int)] []=.ok (.bl AC) [])(hl:ns.length<=63)(hS:SqL K H a (ns.map V.int)):
  spX K call fi [.ref a] H (λv _=>v=.bl AC) λ_ _ _=>False:=by
 intro cl;refine⟨λ_=>False,[],[],[.scr (ns.map .int)],⟨rfl,λm n a e=>by simp at e,λn a e=>by simp at e,λn o e=>by simp at e,λa z=>by simp at z,λa z=>z.elim⟩,zdM ?_ ze0,?_⟩
 .simp only[yc];refine⟨a,_,rfl,?_,zdk ns⟩;rcases hS with hS|hS
  .exact .inl ⟨hS,λz=>z,by simp⟩
  .exact .inr hS
 .rw[ht ns hl];intro x H' φ' _ _ r;simpa only[yc] using r
end WK
namespace L2
open PySem PySem.Spec PyProof.Rows IC
def zcU{l:List AS}(h:l.Nodup){i j:Nat}(hi:i<l.length)(hj:j<l.length)(e:l[i]=l[j]):i=j:=by
 rcases Nat.lt_trichotomy i j with q|q|q
 .exact absurd e (D7.mp h i j hi hj q)
 .exact q
 .exact absurd e.symm (D7.mp h j i hj hi q)
section
variable {X:Cx}{π:List (AI×B8)}{σ:St}{H:Hp}{s:AH}
theorem Inv.drop{h':Ak}{m:AS->Option AD}{v:Option AD}{i:Nat}{n:AS}(I:Inv X π σ H s)(hN:X.N.Nodup)(hi:X.N[i]?=AA n)(hm:s.heap.Ns X.env.locals m)(look:∀(i:Nat) (x:AS) (v:V),X.N[i]?=AA x->σ[i]?=AA (AA v)->Vis X.env.scope x->∃u,RelV v u/\Look X.env s.heap m x u)(hs:CF X.env.locals s.heap h')(hn:h'.Ns X.env.locals (λx=>if x=n then v else m x)):Inv X π (σ.set i AE) H {s with heap:=h'}:=by
 have k:∀b u,b≠X.env.locals->s.heap.get? b=AA u->h'.get? b=AA u:=λb u hb q=>(hs.2 b hb).trans q;have nl:∀b o,X.s₀.heap.get? b=AA o->b≠X.env.locals:=λb o e=>A3 (AY (AN e) I.ok.above);refine⟨I.ok,I.os,I.bare,⟨λb o q n hb hx=>k b o (nl b o q) (I.base.keep b o q n hb hx),λb o q n hb hx=>?_,I.base.free,λb o q hx=>?_,I.base.tups,I.base.frzs,I.base.tbls⟩,⟨_,hn,λj x v e1 e2 hv=>?_⟩,λx c e=>?_,I.free,I.freeC,λp hp=>?_,λb u e=>?_,?_⟩
 .let⟨sl,q1⟩:=I.base.slot b o q n hb hx;exact⟨sl,k b _ (nl b o q) q1⟩
 .let⟨o',q1⟩:=I.base.there b o q hx;exact⟨o',k b o' (nl b o q) q1⟩
 .have hj:j≠i:=λz=>by
   subst z;rw[Ci]at e2;erw[if_true]at e2;split at e2<;>cases e2
  rw[Al (BY hj)]at e2;have hx:x≠n:=λz=>by
   subst z;let⟨l1,g1⟩:=Ab.mp e1;let⟨l2,g2⟩:=Ab.mp hi;exact hj (zcU hN l1 l2 (g1.trans g2.symm))
  let⟨u,r,lk⟩:=look j x v e1 e2 hv;refine⟨u,r,?_⟩;rcases lk with⟨q1,q2⟩|⟨q1,c,q2,o,q3,q4⟩
  .exact .inl ⟨q1,by dsimp only;rw[if_neg hx];exact q2⟩
  .exact .inr ⟨q1,c,q2,o,k c o (I.cne x c q2) q3,q4⟩
 .let⟨v,o,ho,hd⟩:=I.cell x c e;exact⟨v,o,k c o (I.cne x c e) ho,hd⟩
 .let⟨q1,q2,q3,q4⟩:=I.pin p hp;exact⟨k _ _ q3 q1,q2,q3,q4⟩
 .refine(I.hok b u e).stay (λc v hc q=>k c v (λz=>?_) q) (λ_ q=>q) λ_ _ q=>q;have fr:=I.free;subst z;rcases hc with z|z
  .rw[z,e]at fr
   cases fr
  .rw[z]at fr
   cases fr
 .rw[BB];exact I.len
end
section
variable {X:Cx}{body suite:List Bd}{b₀:Bd}{x n:AS}{np hpos pos:Bf}{W:AI}{i:Nat}
end
section
variable {S:Se}{X:Cx}{σ:St}{B:AI->Prop}{φ φ1:Ph}{H H1:Hp}{st:SO}{ρ:IC.Env}{D:Ends}{body suite:List Bd}{b₀:Bd}{x n:AS}{p p2 np hpos pos cpos:Bf}{W:AI}{i:Nat}{cb ch:Css}{a e:AM}{es:List AM}{ca ce:Ce}{ces:Ces}
theorem yo.drop{K:AF}{cl:Nat->AI}(r:yo K cl B φ H ρ σ)(i:Nat):yo K cl B φ H (ρ.set i AE) (σ.set i AE):=by
 refine⟨by rw[BB,BB];exact r.len,λj w e=>?_⟩
 by_cases h:j=i
 .subst h;rw[Ci]at e;erw[if_true]at e;split at e<;>cases e
 .rw[Al (BY h)]at e ⊢;exact r.get j w e
abbrev Se.quiet(S:Se):Se:={S with may:=AG}
theorem all_nil{P:Nat->Prop}:∀c∈([]:List Nat),P c:=λ_ h=>by cases h
theorem all_cons{P:Nat->Prop}{c:Nat}{cs:List Nat}(h:P c)(t:∀d∈cs,P d):∀d∈c::cs,P d:=λd hd=>by
 rcases A8.mp hd with e|e
 .exact e ▸ h
 .exact t d e
structure yck(K:AF)(mg:AS->Option AD)(C:AI)(x:AS):Prop where
 m:mg x=AA (.ref C)
 q:En K C [.type "ValueError",.type "Exception",.type "BaseException",.type "object"] "ValueError.__new__"=AC
def tyZ(cl:Nat->AI):Ty->AD
 |.cls d=>.ref (cl d)
 |_=>.type "ValueError"
def yfy(K:AF)(cl:Nat->AI)(c:Nat)(t:Ty):Prop:=Av K (.ref (cl c)) (tyZ cl t)=AA (yaJ (.exn c) t)
end
section
variable {S:Se}{X:Cx}{p pos p2 px apos:Bf}{a b:AM}{ca cb:Ce}
def GCI(mg:AS->Option AD)(x:AS)(i:Int):Prop:=∃t,mg x=AA (.int i t)
def zhi{x:AS}{i:Int}(hg:Gl X x)(h:GCI X.mg x i)(hd:(x==("__debug__":AS))=false:=by decide):PE X (.Name x pos) (tE S X (.cst (.int i))):=by
 let⟨t,hm⟩:=h;exact(zdp hg hm (show RelV (.int i) (.int i t)from ⟨t,rfl⟩) hd).imp λσ H Q ⟨B,φ,st,ρ,rs,re,h⟩=>by
  erw[ev]at h;exact h.ok rs (by erw[yc])
end
end L2
namespace WE
open PySem PySem.Spec PyProof.Rows
section
variable {prog:AV}{w:A5}{A:A7}{E:AD->AH->Prop}{s:AH}
def ycj(h:Ak)(a t:AI)(i:Int):Prop:=∃o,h.get? a=AA o/\o.cls=.type "reversed"/\o.data=.fields #[.ref t,rawInt i]
theorem ycj.typeIs{a t:AI}{i:Int}(x:ycj s.heap a t i):s.TypeIs (.ref a) "reversed":=let ⟨o,ho,hc,_⟩:=x;⟨o,ho,hc⟩
end
end WE
namespace L2
open PySem PySem.Spec PyProof.Rows
end L2
namespace L2
open PySem PySem.Spec PyProof.Rows IC
open Classical in
section
variable {S:Se}{X:Cx}{σ:St}{B:AI->Prop}{φ φ1:Ph}{H H1:Hp}{st:SO}{ρ:IC.Env}{p pos p2 px py pt pt2:Bf}{a b c d o a' b' c' d':AM}{ca cb cc cd ce cf:Ce}{π:List (AI×B8)}{s:AH}{kt k2:Nat}{es:List AM}{ces:Ces}{x:AS}
def rTs(S:Se)(X:Cx)(f:SO->PV->PV->Option PV):R2:=λx y H Q=>∃B φ st v w z,yh X.K S.cl B φ H st/\yc X.K S.cl B φ H v x/\yc X.K S.cl B φ H w y/\f st v w=AA z /\
 ∀z' H' φ',Step φ H φ' H'->yh X.K S.cl B φ' H' st->yc X.K S.cl B φ' H' z z'->Q z' H'
end
end L2
namespace IC
open PySem
end IC
namespace L2
open PySem PySem.Spec PyProof.Rows IC
section
variable {S:Se}{X:Cx}{σ:St}{B:AI->Prop}{φ:Ph}{H:Hp}{p p2 pos pos2 apos:Bf}{a b tg:AM}{ca cb:Ce}
end
end L2
namespace WE
open PySem PySem.Spec PyProof.Rows
section
variable {pg:AV}{wd:A5}{A:A7}{Er:AD->AH->Prop}{s:AH}
end
end WE
namespace L2
open PySem PySem.Spec PyProof.Rows
end L2
namespace L2
open PySem PySem.Spec PyProof.Rows IC
inductive ybr(K:AF)(cl:Nat->AI)(w:A5):List (AS×PV)->List BW->Prop
 |nil:ybr K cl w [] []
 |cons {k:AS} {v:PV} {t:Go} {u:AD} {x:V} {D:List (AS×PV)} {es:List BW} (hr:RelV x u) (hv:∀B φ H,yc K cl B φ H v x) (h:ybr K cl w D es):ybr K cl w ((k,v)::D) (⟨D2 w.params k,.str k t,u⟩ :: es)
def GD(K:AF)(w:A5)(mg:AS->Option AD)(cl:Nat->AI)(x:AS)(D:List (AS×PV)):Prop:=
 ∃(y:AI) (es:Array BW) (ep:Nat),mg x=AA (.ref y)/\K.lookup y=AA ⟨.type "dict",AE,.dict es ep,#[]⟩/\(y==sysModules)=AG/\ybr K cl w D es.toList/\(D.map (·.1)).Nodup
theorem ybr.pairs{K:AF}{cl:Nat->AI}{P:AV}{w:A5}{D:List (AS×PV)}{es:List BW}(h:ybr K cl w D es):
  ∃vs:List (AS×AD),Pairs (strKind P w) es vs/\(∀e∈es,∃k,(strKind P w).is k e.key=AC/\e.hash=(strKind P w).hash k)/\vs.map (·.1)=D.map (·.1) /\
   (∀s,(valueAt vs s).isSome=(yaT s D).isSome)/\∀s v,yaT s D=AA v->∃u x,valueAt vs s=AA u/\RelV x u/\∀B φ H,yc K cl B φ H v x:=by
 induction h with
 |nil=>exact⟨[],.nil,λe he=>(by cases he),rfl,λs=>rfl,λs v e=>by cases e⟩
 |@cons k v t u x D es hr hv h ih=>
  let⟨vs,h1,h2,h3,h4,h5⟩:=ih;have hat:∀s,valueAt ((k,u)::vs) s=if k=s then AA u else valueAt vs s:=λs=>by
   unfold valueAt;rw[Bb]
   by_cases e:k=s
   .simp[e]
   .simp[e]
  refine⟨(k,u)::vs,.cons (Ez P w k t) rfl h1,λe he=>?_,by rw[AX,AX,h3],λs=>?_,λs v' e=>?_⟩
  .rcases A8.1 he with rfl|he
   .exact⟨k,Ez P w k t,rfl⟩
   .exact h2 e he
  .rw[hat,yaT]
   by_cases e:k=s
   .rw[if_pos e,if_pos (by simpa using e)];rfl
   .rw[if_neg e,if_neg (by simpa using e),h4]
  .rw[yaT]at e;rw[hat]
   by_cases q:k=s
   .rw[if_pos (by simpa using q)]at e
    cases e
    exact⟨u,x,by rw[if_pos q],hr,hv⟩
   .rw[if_neg (by simpa using q)]at e;let⟨u',x',e1,e2,e3⟩:=h5 s v' e;exact⟨u',x',by rw[if_neg q];exact e1,e2,e3⟩
section
variable {S:Se}{X:Cx}{σ:St}{B:AI->Prop}{φ:Ph}{H:Hp}{st:SO}{pos p:Bf}{a b i:AM}{ca cb:Ce}{x:AS}{D:List (AS×PV)}{ty:TE}
end
section
variable {K:AF}{cl:Nat->AI}{B:AI->Prop}{φ:Ph}{H:Hp}{st:SO}
end
section
variable {S:Se}{X:Cx}{K:AF}{cl:Nat->AI}{σ:St}{B:AI->Prop}{φ φ1:Ph}{H H1:Hp}{st:SO}{ρ:IC.Env}{pos p p2 px:Bf}{a b c o tg l elt iter:AM}{ca cb cc ce:Ce}{ci:Cit}{ct:Tg}
end
section
variable {K:AF}{cl:Nat->AI}{B:AI->Prop}{φ:Ph}{H:Hp}{st:SO}
theorem FS.lookup{f:AS}:∀{fs:List (AS×PV)} {ks:List (AS×V)},FS K cl B φ H fs ks->(∀v,fs.lookup f=AA v->∃x,ks.lookup f=AA x/\yc K cl B φ H v x)/\(fs.lookup f=AE->ks.lookup f=AE)
 |[],ks,h=>by
  cases (show ks=[]from h)
  exact⟨nofun,λ_=>rfl⟩
 |(k,v)::r,ks,h=>by
  let⟨x,s,rfl,rv,l⟩:=h;let⟨q1,q2⟩:=FS.lookup (f:=f) l;erw[F8]
  cases e:f==k with
  |true=>exact⟨λw z=>by cases z;exact⟨x,rfl,rv⟩,λz=>by cases z⟩
  |false=>exact⟨q1,q2⟩
theorem FS.put{f:AS}{v:PV}{x:V}(r:yc K cl B φ H v x):∀{fs:List (AS×PV)} {ks:List (AS×V)},FS K cl B φ H fs ks->FS K cl B φ H (ycV f v fs) (ydL f x ks)
 |[],ks,h=>by
  cases (show ks=[]from h)
  exact⟨x,[],rfl,r,rfl⟩
 |(k,w)::q,ks,h=>by
  let⟨y,s,rfl,ry,l⟩:=h;erw[ycV,ydL]
  by_cases c:k=f
  .rw[if_pos c,if_pos c];exact⟨x,s,rfl,r,l⟩
  .rw[if_neg c,if_neg c];exact⟨y,_,rfl,ry,FS.put r l⟩
theorem FS.len:∀{fs:List (AS×PV)} {ks:List (AS×V)},FS K cl B φ H fs ks->fs.length=ks.length
 |[],ks,h=>by cases (show ks=[]from h);rfl
 |(k,w)::q,ks,h=>by
  let⟨y,s,rfl,ry,l⟩:=h;simp[FS.len l]
theorem yh.ins{n c:Nat}{fs:List (AS×PV)}{x:V}(rs:yh K cl B φ H st)(r:yc K cl B φ H (.loc n) x)(h:st[n]?=AA (.ins c fs)):∃y ks dx,x=.ref y/\φ[n]?=AA (AA y)/\H y=AA (.ins (cl c) dx ks)/\FS K cl B φ H fs ks:=by
 erw[yc]at r;let⟨hn,y,rfl,hy⟩:=r;let⟨a,ha⟩:=rs.liv n _ h (by intro z;cases z);let⟨o,ho,ro⟩:=rs.obj n a ha;have e:=hy a ha;subst e;rw[h]at ho
 cases ho
 let⟨ks,⟨dx,q⟩,l⟩:=ro;exact⟨a,ks,dx,rfl,ha,q,l⟩
end
section
variable {S:Se}{X:Cx}{σ:St}{B:AI->Prop}{φ φ1:Ph}{H H1:Hp}{st:SO}{ρ:IC.Env}{p pos pos' p2 apos:Bf}{a b d o e:AM}{ca cb cc:Ce}{es:List AM}{ces:Ces}{c i k:Nat}{f m x:AS}{fa:AI}{fd:Aj}{ps:List AS}
end
inductive ybs(w:A5)(fa:Nat->AI):List (AS×Nat)->List BW->Prop
 |nil:ybs w fa [] []
 |cons {k:AS} {i:Nat} {t:Go} {D:List (AS×Nat)} {es:List BW} (h:ybs w fa D es):ybs w fa ((k,i)::D) (⟨D2 w.params k,.str k t,.ref (fa i)⟩ :: es)
def GDF(K:AF)(w:A5)(mg:AS->Option AD)(fa:Nat->AI)(x:AS)(D:List (AS×Nat)):Prop:=
 ∃(y:AI) (es:Array BW) (ep:Nat),mg x=AA (.ref y)/\K.lookup y=AA ⟨.type "dict",AE,.dict es ep,#[]⟩/\ybs w fa D es.toList/\(D.map (·.1)).Nodup
theorem ybs.pairs{P:AV}{w:A5}{fa:Nat->AI}{D:List (AS×Nat)}{es:List BW}(h:ybs w fa D es):
  ∃vs:List (AS×AD),Pairs (strKind P w) es vs/\(∀e∈es,∃k,(strKind P w).is k e.key=AC/\e.hash=(strKind P w).hash k)/\vs.map (·.1)=D.map (·.1) /\
   ∀s i,D.lookup s=AA i->valueAt vs s=AA (.ref (fa i)):=by
 induction h with
 |nil=>exact⟨[],.nil,λe he=>(by cases he),rfl,λs v e=>by cases e⟩
 |@cons k i t D es h ih=>
  let⟨vs,h1,h2,h3,h5⟩:=ih;have hat:∀s,valueAt ((k,Ac (fa i))::vs) s=if k=s then AA (.ref (fa i))else valueAt vs s:=λs=>by
   unfold valueAt;rw[Bb]
   by_cases e:k=s
   .simp[e]
   .simp[e]
  refine⟨(k,.ref (fa i))::vs,.cons (Ez P w k t) rfl h1,λe he=>?_,by rw[AX,AX,h3],λs j e=>?_⟩
  .rcases A8.1 he with rfl|he
   .exact⟨k,Ez P w k t,rfl⟩
   .exact h2 e he
  .rw[hat];erw[F8]at e
   by_cases q:k=s
   .subst q;rw[beq_self_eq_true]at e
    cases e
    rw[if_pos rfl]
   .rw[beq_eq_false_iff_ne.2 (BY q)]at e;rw[if_neg q];exact h5 s j e
section
variable {S:Se}{X:Cx}{σ:St}{B:AI->Prop}{φ:Ph}{H:Hp}{st:SO}{ρ:IC.Env}{pos p p1 p2 p3 p4 p5 p6 p7:Bf}{a b i e n:AM}{es:List AM}{ca cn:Ce}{ces:Ces}{x y:AS}{D:List (AS×Nat)}{ty:TE}{t:TA}{fa:Nat->AI}{fdd:Nat->Aj}{ps:Nat->List AS}{k ix:Nat}
structure Makers(S:Se)(X:Cx)(k:Nat)(D:List (AS×Nat))(fa:Nat->AI)(fdd:Nat->Aj)(ps:Nat->List AS):Prop where
 F:∀s j,D.lookup s=AA j->yaG X.prog X.w X.K X.mg X.base (CX1 X.prog X.w) k (fa j) (fdd j) (ps j) (spI X.K S.cl S.call j)
 kp:∀s j,D.lookup s=AA j->Ae X.K (.ref (fa j))=AC
 b:∀s j,D.lookup s=AA j->Binds X.K (fdd j) (ps j) []
end
section
variable {P:AV}{w:A5}{K:AF}{mg:AS->Option AD}{base:Ak}{cl:Nat->AI}{T:Nat->Option IC.Fn}{fi:Nat}{fn:IC.Fn}{x qual:AS}{stm:Bd}{f:AI}{fd:Aj}{N ps:List AS}{k m:Nat}
def zeJ:yaG P w K mg base (CX1 P w) m f fd ps (spI K cl (ye T 0) fi):=
 ⟨λvs H Q E ⟨_,_,_,_,_,_,h⟩=>by rw[ye]at h;exact h.elim,λA outer s H args us vs Q E _ _ _ _ ⟨_,_,_,_,_,_,h⟩=>by rw[ye]at h;exact h.elim⟩
end
theorem yaa.units{k:Nat}{A:A7}(r:yaa k A):A.units+64<cLine:=by have:=r.un;lia
section
variable {P:AV}{w:A5}{K:AF}{mg:AS->Option AD}{base:Ak}{cl:Nat->AI}{T:Nat->Option IC.Fn}{fi:Nat}{fn:IC.Fn}{x qual:AS}{stm:Bd}{f:AI}{fd:Aj}{N ps:List AS}{k m:Nat}
def zeC(hT:T fi=AA fn)(hns:N.length=fn.ns)(hpu:fn.pure=AG){scope:BH}{cdv:AD}{A:A7}{outer:List BF}{s:AH}{vs:List V}{H:Hp}{Q:VK}(h:spI K cl (ye T (k+1)) fi vs H Q E0):
  tSs ⟨cl,ye T k,AG⟩ (ya6 P w K mg base N qual scope f cdv A outer s H) fn.body {nx:=λ_ H'=>Q .non H',rt:=Q} (L2.start N vs) H:=by
 let⟨B,φ,st,args,rs,l,h⟩:=h;have hl:args.length=fn.np:=zdE (k:=k) hT args st λz=>by rw[z]at h;exact h
 have hlen:=l.length;rw[ye,hT]at h;dsimp only at h;rw[if_pos hl,hpu,if_neg (by simp)]at h;refine⟨B,φ,st,_,rs,yo.start l (fn.ns-fn.np) ∅,?_⟩;show yao _ _ _ _ _ (exs (ye T k) (args.map AA++Am (fn.ns-fn.np) AE) st fn.body) _
 cases e:exs (ye T k) (args.map AA++Am (fn.ns-fn.np) AE) st fn.body with
 |nx ρ' st'=>
  rw[e]at h;intro σ' H' φ' s' rs' re';exact h .non H' φ' s' rs' (by erw[yc])
 |rt v st'=>
  rw[e]at h;intro y H' φ' s' rs' rv;exact h y H' φ' s' rs' rv
 |exc c ρ' st'=>
  rw[e]at h;intro σ' φ1 H1 ev s' s1 _ ex;rcases ex with⟨π,H2,s2,φ2,I,s3,q⟩|⟨hm,_⟩|⟨hm,_⟩
  .let⟨_,cls,_,H',_,_,_,_,_,_,_,_,_,_,e1,φ',s4,r⟩:=q;exact(h H' φ' (s1.trans (s3.trans s4)) r).elim
  .cases hm
  .cases hm
 |bk ρ' st'=>rw[e]at h;exact h.elim
 |ct ρ' st'=>rw[e]at h;exact h.elim
 |bad=>rw[e]at h;exact h.elim
def zhE(hT:T fi=AA fn)(F:Fun K x qual stm f fd)(Sc:yac N ps (yg stm))(hnp:ps.length=fn.np)(hns:N.length=fn.ns)(hpu:fn.pure=AG)
  (body:∀(cdv:AD) (A:A7) (outer:List BF) (s:AH) (H:Hp),yaa m (A.deeper (envOfC qual (yg stm) s.heap.objs.size f cdv)) ->
   PSs (ya6 P w K mg base N qual (yg stm) f cdv A outer s H) (yq stm) (tSs ⟨cl,ye T k,AG⟩ (ya6 P w K mg base N qual (yg stm) f cdv A outer s H) fn.body)):
  ybh P w K mg base (m+1) f fd ps (spI K cl (ye T (k+1)) fi):=
 F.okH Sc (λvs H Q E h=>ze8 hT hnp h) λcdv A outer s H vs Q hr h=>⟨_,body cdv A outer s H hr,zeC hT hns hpu h⟩
def zeN:ybh P w K mg base m f fd ps (spI K cl (ye T 0) fi):=
 ⟨λvs H Q E ⟨_,_,_,_,_,_,h⟩=>by rw[ye]at h;exact h.elim,λA outer s H args us vs Q _ _ _ _ ⟨_,_,_,_,_,_,h⟩=>by rw[ye]at h;exact h.elim⟩
end
section
variable {S:Se}{X:Cx}{σ:St}{B:AI->Prop}{φ:Ph}{H:Hp}{st:SO}{ρ:IC.Env}{p pos:Bf}{e:AM}{es:List AM}{ces:Ces}{fi k:Nat}{x:AS}{f:AI}{fd:Aj}{ps:List AS}
end
end L2
namespace L2
open PySem IC
section
variable {S:Se}{X:Cx}{σ:St}{B:AI->Prop}{φ φ1:Ph}{H H1:Hp}{st:SO}{ρ:IC.Env}{p pos p2 px py pt pt2:Bf}{a b c d o a' b' c' d':AM}{ca cb cc cd ce cf:Ce}{π:List (AI×B8)}{s:AH}{kt k2:Nat}{es:List AM}{ces:Ces}{x:AS}
end
end L2
namespace L2
open PySem PySem.Spec PyProof.Rows
section
variable {X:Cx}
end
end L2
namespace L2
open PySem PySem.Spec PyProof.Rows IC
section
variable {S:Se}{X:Cx}{σ:St}{B:AI->Prop}{φ φ1:Ph}{H H1:Hp}{st:SO}{ρ:IC.Env}{p pos p2 apos:Bf}{a b c d:AM}{ca cb cc:Ce}{es:List AM}{ces:Ces}{K:AF}{cl:Nat->AI}
end
section
variable {S:Se}{X:Cx}{a b:AM}{c i:Nat}{j:Int}{f:AS}{pos tpos:Bf}
end
end L2
namespace HT
open PySem PySem.Spec PyProof.Rows
section
variable {prog:AV}{w:A5}{A:A7}{E:AD->AH->Prop}{s:AH}
end
end HT
namespace L2
open PySem PySem.Spec PyProof.Rows IC
section
variable {S:Se}{X:Cx}{pos p2:Bf}{e e3:AM}{te t3:TE}{a:AM}{ca c3:Ce}
theorem yd.reverse{K:AF}{cl:Nat->AI}{B:AI->Prop}{φ:Ph}{H:Hp}:∀{vs:List PV} {xs:List V},yd K cl B φ H vs xs->yd K cl B φ H vs.reverse xs.reverse
 |[],xs,h=>by
  erw[yd]at h;subst h;erw[List.reverse_nil,yd]
 |v::vs,xs,h=>by
  erw[yd]at h;let⟨y,ys,rfl,r,l⟩:=h;rw[FQ,FQ];exact(yd.reverse l).append (by erw[yd];exact⟨y,[],rfl,r,rfl⟩)
end
section
variable {X:Cx}{prog:AV}{w:A5}{A:A7}{E:AD->AH->Prop}{s:AH}
end
section
variable {S:Se}{X:Cx}{pos px:Bf}{a:AM}{ca:Ce}
end
end L2
namespace PySem
open Sem (wp)
def zL:entryFor table "dict.update.loop"=AA EI.«dict.update.loop»:=entryFor_of_tree (by kernel_rfl)
def zh:plainId "dict.update.loop"=true:=by decide +kernel
section
variable {prog:AV}{w:A5}{K:Type}[DecidableEq K]{A:A7}{R:FZ->AH->Prop}
def ycA(knd:Dm prog w K)(h:Ak)(v:AD)(x:K×AI×AD):Prop:=∃p,v=.ref p/\h.get? p=AA {cls:=.type "tuple",data:=.seq #[.ref x.2.1,x.2.2]}/\knd.is h x.1 x.2.1
def yM(knd:Dm prog w K)(h:Ak):List AD->List (K×AI×AD)->Prop
 |[],[]=>True
 |v::vs,x::xs=>ycA knd h v x/\yM knd h vs xs
 |_,_=>False
def yW(xs more:List (K×AI×AD)):List (K×AI×AD):=more.foldl (λacc x=>storedH acc x.1 x.2.1 x.2.2) xs
theorem yM.keep{knd:Dm prog w K}(hst:∀{h h' k a},knd.is h k a->(∀b o,h.get? b=AA o->o.cls=.type "tuple"->h'.get? b=AA o)->knd.is h' k a){h h':Ak}(hk:∀b o,h.get? b=AA o->o.cls=.type "tuple"->h'.get? b=AA o):
  ∀{vs xs},yM knd h vs xs->yM knd h' vs xs
 |[],[],_=>Bc
 |_::_,_::_,⟨⟨p,e,g,i⟩,r⟩=>⟨⟨p,e,hk _ _ g rfl,hst i hk⟩,yM.keep hst hk r⟩
def zbX(xs:List (K×AI×AD))(k:K)(a:AI)(v:AD):(storedH xs k a v).length<=xs.length+1:=by
 unfold storedH;split<;>simp
end
end PySem
namespace L2
open PySem PySem.Spec PyProof.Rows
def DPs(H:Hp):List V->List (List NK×V)->Prop
 |[],ks=>ks=[]
 |x::xs,ks=>∃k y r q b,ks=(k,y)::r/\x=.ref q/\H q=AA (.tup [.ref b,y])/\KyR H k b/\DPs H xs r
def yad(kvs more:List (List NK×V)):List (List NK×V):=more.foldl (λacc kv=>putK acc kv.1 kv.2) kvs
theorem KT.merge{H:Hp}{more:List (List NK×V)}{rs:List (List NK×AI×AD)}(r:KT H more rs):∀{kvs:List (List NK×V)} {xs:List (List NK×AI×AD)},KT H kvs xs->KT H (yad kvs more) (yW xs rs):=by
 induction r with
 |nil=>intro kvs xs q;exact q
 |@cons p q ps qs h t ih=>
  intro kvs xs r0;have e:=r0.put p.1 h.2.1 h.2.2;rw[h.1]at e;have:=ih e;rw[<-h.1]at this;show KT H (yad (putK kvs p.1 p.2) ps) (yW (storedH xs q.1 q.2.1 q.2.2) qs);rw[<-h.1];exact this
def zaC:∀(more kvs:List (List NK×V)),(yad kvs more).length<=kvs.length+more.length
 |[],kvs=>by show kvs.length<=kvs.length+0;lia
 |p::r,kvs=>by
  have h1:=zaC r (putK kvs p.1 p.2);have h2:=zu kvs p.1 p.2;show (yad (putK kvs p.1 p.2) r).length<=_;rw[Ag];lia
def zeH{P:AV}{w:A5}{h h':Ak}{k:List NK}{a:AI}(i:(yQ P w).is h k a)(q:∀b o,h.get? b=AA o->o.cls=.type "tuple"->h'.get? b=AA o):(yQ P w).is h' k a:=by
 exact⟨NI.stay (λb its g=>q b _ g rfl) _ _ i.1,i.2⟩
def zcr{P:AV}{w:A5}{H:Hp}{h:Ak}(ok:HOk P w H h):∀{xs:List V} {us:List AD} {kvs:List (List NK×V)},DPs H xs kvs->Vals xs us->∃rs,yM (yQ P w) h us rs/\KT H kvs rs
 |[],_,_,d,.nil=>by cases (show _=[]from d);exact⟨[],Bc,.nil⟩
 |x::xs,u::us,_,d,.cons rx t=>by
  let⟨k,y,r,q,b,rfl,rfl,hq,hb,d'⟩:=d;let⟨rs,p,kt⟩:=zcr ok d' t
  cases (show u=Ac q from rx)
  let⟨_,its,rv,g⟩:=(show yp P w H h q (.tup [.ref b,y])from ok q _ hq);let⟨u1,u2,rfl,r1,r2⟩:=vals2 rv
  cases (show u1=Ac b from r1)
  exact⟨(k,b,u2)::rs,⟨⟨q,rfl,g,zby ok hb⟩,p⟩,.cons ⟨rfl,hb,r2⟩ kt⟩
section
variable {X:Cx}
end
end L2
namespace L2
open PySem PySem.Spec PyProof.Rows IC
section
variable {K:AF}{cl:Nat->AI}{B:AI->Prop}{φ:Ph}{H:Hp}
theorem DT.fold:∀{kvs:List (PV×PV)} {more:List (List NK×V)},DT K cl B φ H kvs more->∀{acc:List (PV×PV)} {ks:List (List NK×V)},DT K cl B φ H acc ks->DT K cl B φ H (kvs.foldl (λacc kv=>IC.put kv.1 kv.2 acc) acc) (yad ks more)
 |[],_,d,_,_,a=>by cases (show _=[]from d);exact a
 |(k,v)::kvs,_,d,acc,ks,a=>by
  let⟨q,x,s,rfl,rfl,rv,d'⟩:=d;exact DT.fold d' (a.put rv)
end
section
variable {S:Se}{X:Cx}{a:AM}{ca:Ce}{p pos:Bf}
def zfs:bootBuiltins "dict"=AA (.type "dict"):=by decide +kernel
end
end L2
namespace PySem
open Sem (wp)
def zay{prog:AV}{w:A5}{A:A7}{E:AD->AH->Prop}{s:AH}{a:AI}{xs:Array AD}{Q:Option AD->AH->Prop}
  {n:Nat} (hx:s.heap.get? a=AA {cls:=.type "list",data:=.seq xs n}) (hA:A.handled=AE)
  (h:∀h' tk,(∀b ob,s.heap.get? b=AA ob->h'.get? b=AA ob)->Q AE {s with heap:=h',toks:=tk}):
  AQ (model prog w) A (getAttr? (.ref a) "keys") Q E s:=by
 let⟨hp,g,d,tk,os⟩:=s;have hT:∀tk',(⟨hp,g,d,tk',os⟩:AH).TypeIs (.ref a) "list":=λ_=>⟨_,hx,rfl⟩;have hm:typeLookup (.type "list") "keys"=pure none:=by rw[typeLookup_type,builtinLookup_eq_fast];kernel_rfl
 have f1:=sub_AttributeError;have f3:=CY.lookup;have f4:=CY.bind (.ref a);have f5:=am_list_getattr_none;unfold getAttr? getAttrBy? getAttrBy
 repeat (any_goals (first|assumption|exact hT _|((with_reducible show AQ _ _ (call (Value.builtin "list.__getattribute__") _ _) _ _ _);refine call_meets CY (hT _) am_entry_list_getattribute (F.args_list_getattribute_2 _ _) (meets_getattribute_miss_list a xs _ _ "keys" _ hm (by decide +kernel)) ⟨hx,hA,λh' tk' e hx'=>?_⟩)|wp_step))
 let⟨t',u',he⟩:=hx'.there;show AQ _ _ (getattributeRaised _ _ _ _ _ _ _) _ _ _;unfold getattributeRaised
 repeat (any_goals (first|assumption|wp_step))
 exact h _ _ hx'.keeps
section
variable {prog:AV}{w:A5}{K:Type}[DecidableEq K]{A:A7}{R:FZ->AH->Prop}
def zbm{knd:Dm prog w K}(hst:∀{h h' k a},knd.is h k a->(∀b o,h.get? b=AA o->o.cls=.type "tuple"->h'.get? b=AA o)->knd.is h' k a){d t it:AI}{its:Array AD}(hh:A.in1.handled=AE)(hu:knd.room A.in1):
  ∀(rest:List (K×AI×AD)) (i:Nat) (xs:List (K×AI×AD)) (s:AH),s.heap.IsListIter it t i->s.heap.IsList t its->yM knd s.heap (its.toList.drop i) rest->s.heap.DictOfH knd d xs->xs.length+rest.length<=sizeLine ->
  (∀h' tk,h'.DictOfH knd d (yW xs rest)->(∀b o,b≠d->b≠it->s.heap.get? b=AA o->h'.get? b=AA o)->R (.ok (.ret .none)) {s with heap:=h',toks:=tk}) ->
  codeAny (model prog w) A (.builtin "dict.update.loop" ⟨[.ref d,.ref it,rawInt i,.none],[]⟩) R s
 |[],i,xs,s,hi,ht,hp,hd,hz,hR=>by
  refine Fd zL ?_;rw[E5 zh _];show AQ _ A.in1 (pyNext (.ref it) >>= _) _ _ s;have e:its[i]?=none:=by
   rw[<-Co]
   cases q:its.toList.drop i with
   |nil=>exact List.getElem?_eq_none_iff.mpr (List.drop_eq_nil_iff.mp q)
   |cons _ _=>rw[q]at hp;exact hp.elim
  let⟨od,es,ep,gd,cd,r⟩:=id hd;let⟨oi,gi,ci,di⟩:=id hi;have ndi:d≠it:=λz=>by subst z;rw[gd]at gi;cases gi;rw[cd.1]at ci;exact absurd (BC ci) ⋯
  refine AB (EU hh hi ht e λh' hb=>?_);have kp:∀b o,b≠d->b≠it->s.heap.get? b=AA o->h'.get? b=AA o:=λb o _ n e=>hb b o n e;show AQ _ A.in1 (GW d [] >>= _) _ _ _;refine AB (AK (AK ?_));refine hR h' s.toks ⟨od,es,ep,hb _ _ ndi gd,cd,r.1,r.2.1,λx hx=>hst (r.2.2.1 x hx) λb o g c=>hb b o (λz=>?_) g,r.2.2.2⟩ kp;subst z;rw[gi]at g;cases g;rw[c]at ci;exact absurd (BC ci) ⋯
 |x::rest,i,xs,s,hi,ht,hp,hd,hz,hR=>by
  refine Fd zL ?_;rw[E5 zh _];show AQ _ A.in1 (pyNext (.ref it) >>= _) _ _ s
  cases q:its.toList.drop i with
  |nil=>rw[q]at hp;exact hp.elim
  |cons v vs=>
   rw[q]at hp;let⟨⟨p,rfl,gp,hk⟩,hr⟩:=hp;have hil:i<its.toList.length:=by
    have:=congrArg B6 q;erw[Dt,Ag]at this;lia
   have e:its[i]?=AA (.ref p):=by
    rw[<-Co];have:=congrArg (·[0]?) q;simpa [List.getElem?_drop] using this
   have hvs:its.toList.drop (i+1)=vs:=by
    rw[<-List.drop_drop,q];rfl
   let⟨od,es,ep,gd,cd,r⟩:=id hd;let⟨oi,gi,ci,di⟩:=id hi;have ndi:d≠it:=λz=>by subst z;rw[gd]at gi;cases gi;rw[cd.1]at ci;exact absurd (BC ci) ⋯
   refine AB (EB hi ht e λh1 hi1 sb=>?_);have nit:∀b o,s.heap.get? b=AA o->o.cls=.type "tuple"->b≠it:=λb o g c z=>by
    subst z;rw[gi]at g;cases g;rw[c]at ci;exact absurd (BC ci) ⋯
   have nd:∀b o,s.heap.get? b=AA o->o.cls=.type "tuple"->b≠d:=λb o g c z=>by
    subst z;rw[gd]at g;cases g;rw[cd.1]at c;exact absurd (BC c) ⋯
   have k1:∀b o,s.heap.get? b=AA o->o.cls=.type "tuple"->h1.get? b=AA o:=λb o g c=>(sb.2 b (nit b o g c)).trans g;have hd1:h1.DictOfH knd d xs:=⟨od,es,ep,(sb.2 d ndi).trans gd,cd,r.1,r.2.1,λx hx=>hst (r.2.2.1 x hx) k1,r.2.2.2⟩;have gp1:=k1 p _ gp rfl;have hk1:=hst hk k1;show AQ _ A.in1 (holding [.ref p] _ >>= _) _ _ _;refine AB (BJ ?_);refine AB (wpAny_tryCatch ?_);have hT:({s with heap:=h1}:AH).TypeIs (.ref p) "tuple":=⟨_,gp1,rfl⟩;unfold Gd;refine AB (DL hT ?_);rw[if_pos ⋯];refine AB (DQ gp1 rfl (AK ?_));show AQ _ A.in1 (holding [.ref x.2.1,x.2.2] (dictSet d (.ref x.2.1) x.2.2)) _ _ _;refine BJ (wpAny_dictSet_heap (s:={s with heap:=h1}) hu hk1 hd1 (λh2 hd2 sb2=>?_) (by erw[Ag]at hz;lia));have k2:∀b o,s.heap.get? b=AA o->o.cls=.type "tuple"->h2.get? b=AA o:=λb o g c=>(sb2.2 b (nd b o g c)).trans (k1 b o g c);refine AK ⟨plainId_quiet zh _,zbm (t:=t) (its:=its) hst hh hu rest (i+1) (storedH xs x.1 x.2.1 x.2.2) _ ?_ ?_ ?_ hd2 ?_ λh' tk a b=>hR h' tk a λc o n1 n2 g=>b c o n1 n2 ((sb2.2 c n1).trans ((sb.2 c n2).trans g))⟩
   .let⟨o1,g1,r1⟩:=hi1;exact⟨o1,(sb2.2 it (BY ndi)).trans g1,r1⟩
   .let⟨ol,gl,cl,nl,dl⟩:=ht;refine⟨ol,(sb2.2 t λz=>?_).trans ((sb.2 t λz=>?_).trans gl),cl,nl,dl⟩
    .subst z;rw[gd]at gl;cases gl;rw[cd.1]at cl;exact absurd (BC cl) ⋯
    .subst z;rw[gi]at gl;cases gl;rw[ci]at cl;exact absurd (BC cl) ⋯
   .rw[hvs];exact hr.keep hst k2
   .have:=zbX xs x.1 x.2.1 x.2.2;erw[Ag]at hz;lia
def zac{knd:Dm prog w K}(hst:∀{h h' k a},knd.is h k a->(∀b o,h.get? b=AA o->o.cls=.type "tuple"->h'.get? b=AA o)->knd.is h' k a){t:AI}{its:List AD}{E:AD->AH->Prop}{s:AH}{Q:AD->AH->Prop}(hh:A.handled=AE)(hu:∀A':A7,A'.units<=A.units+8->knd.room A')
  {rest:List (K×AI×AD)} {n0:Nat} (ht:s.heap.get? t=AA {cls:=.type "list",data:=.seq its.toArray n0}) (hp:yM knd s.heap its rest) (hz:rest.length<=sizeLine)
  (h:∀h' tk,h'.DictOfH knd s.heap.objs.size (yW [] rest)->(∀b o,s.heap.get? b=AA o->h'.get? b=AA o)->Q (.ref s.heap.objs.size) {s with heap:=h',toks:=tk}):
  AQ (model prog w) A (call (.type "dict") [.ref t]) Q E s:=by
 refine callType_codes (Q₁:=λobj s₁=>obj=.ref s.heap.objs.size/\s₁={s with heap:=s.heap.push {cls:=.type "dict",data:=.dict #[]} }) F.kt_called_dict (F.kt_typeCall_dict_1 _) F.entry_dict_init (kt_code_dict_new _ ⟨rfl,rfl⟩) ?_
 rintro obj s₁ ⟨rfl,rfl⟩
 have hnew:(s.heap.push {cls:=.type "dict",data:=.dict #[]}).DictOfH knd s.heap.objs.size []:=Gv s.heap;have kp1:∀b o,s.heap.get? b=AA o->(s.heap.push {cls:=.type "dict",data:=.dict #[]}).get? b=AA o:=λb o e=>AL _ e;refine⟨hnew.typeIs,F.args_dict_init_2 _ _,?_⟩;unfold EI.«dict.__init__»;refine AB ?_;unfold GX;refine AB (Cp hnew.typeIs ?_);show AQ _ _ (pure (s.heap.objs.size,[Ac t])) _ _ _;refine AK ?_;show AQ _ _ (Dw "dict.__init__" s.heap.objs.size (.ref t) [] .none) _ _ _;unfold Dw;have ht1:=kp1 _ _ ht;refine AB (DL (T:="list") ⟨_,ht1,rfl⟩ ?_);rw[if_pos ⋯];refine AB (zay (s:={s with heap:=s.heap.push {cls:=.type "dict",data:=.dict #[]} }) ht1 (by simpa using hh) λh2 tk2 kp2=>?_);have kp12:∀b o,s.heap.get? b=AA o->h2.get? b=AA o:=λb o e=>kp2 b o (kp1 b o e);have ht2:=kp12 _ _ ht;have hd2:h2.DictOfH knd s.heap.objs.size []:=by
  let⟨o,es,ep,g,c,r⟩:=hnew;exact⟨o,es,ep,kp2 _ _ g,c,r.1,r.2.1,λx hx=>by simp at hx,r.2.2.2⟩
 show AQ _ _ (rule _ >>= _) _ _ _;refine AB (Dz ?_);refine AB (Db (s:={s with heap:=h2,toks:=tk2}) ⟨_,ht2,rfl,_,rfl⟩ ?_);refine AK ⟨plainId_quiet zh _,?_⟩;have kp3:∀b o,h2.get? b=AA o->(h2.push {cls:=.type "list_iterator",data:=.fields #[.ref t,.int 0 0]}).get? b=AA o:=λb o e=>AL _ e;refine zbm hst (t:=t) (its:=its.toArray) ?_ ?_ rest 0 [] _ ⟨_,A1 _ rfl,rfl,rfl⟩ ⟨_,kp3 _ _ ht2,rfl,_,rfl⟩ ?_ ?_ (by simpa using hz) λh' tk a b=>⟨rfl,?_⟩
 .simpa using hh
 .exact hu _ (by simp)
 .have:yM knd h2 its rest:=hp.keep hst λb o e _=>kp12 b o e;simpa using this.keep hst λb o e _=>kp3 b o e
 .let⟨o,es,ep,g,c,r⟩:=hd2;exact⟨o,es,ep,kp3 _ _ g,c,r.1,r.2.1,λx hx=>by simp at hx,r.2.2.2⟩
 .refine h h' tk a λc o g=>b c o (λz=>?_) (λz=>?_) (kp3 _ _ (kp12 _ _ g))
  .subst z;exact absurd (AN g) (By _)
  .have l1:=AN (kp12 _ _ g);rw[z]at l1;exact absurd l1 (By _)
end
end PySem
namespace L2
open PySem PySem.Spec PyProof.Rows
section
variable {X:Cx}
def zaX(hu:X.A.units+16<cLine)(hc:X.calm=AC):yN X (.type "dict") (λxs H Q=>∃p ps kvs,xs=[.ref p]/\H p=AA (.lst ps)/\DPs H ps kvs/\kvs.length<=1000/\∀d,H d=AE->Q (.ref d) (upd H d (.dT (yad [] kvs)))):=by
 intro π s σ H xs us Q I r h;let⟨p,ps,kvs,rfl,hp,hd,hl,q⟩:=h;let⟨u,rfl,rx⟩:=vals1 r
 cases rx
 let⟨_,its,n0,rv,g⟩:=(show yp X.prog X.w H s.heap p (.lst ps)from I.hok p _ hp);let⟨rs,pr,kt⟩:=zcr I.hok hd rv;have hn:H s.heap.objs.size=none:=I.hok.fresh (AR _);refine zac zeH (I.ok.hd hc) (λA' z=>show A'.units+8<cLine by lia) g pr (by rw[<-Bw kt,Ax];lia) λh' tk dd kp=>⟨.ref s.heap.objs.size,_,I.laid (t':=tk) kp (AR _) ?_,rfl,q _ hn⟩;let⟨o,es,ep,h1,h2,h3,h4,_,h5⟩:=dd;have ml:(yad [] kvs).length<=0+kvs.length:=zaC kvs [];have ml2:(yad [] kvs).length<=sizeLine:=by rw[Ax];lia
 refine⟨ml2,?_,_,((kt.merge .nil)).keeps λc ys ec=>?_,o,es,ep,h1,h2,h3,h4,h5⟩
 .have:=I.big;exact beq_eq_false_iff_ne.2 (EA this)
 .rw[za (zb ec hn)];exact ec
end
end L2
namespace PySem
open Sem (wp)
section
variable {prog:AV}{w:A5}{A:A7}{E:AD->AH->Prop}{s:AH}
def zfC{d:AI}{od:B8}{es:Array BW}{ep:Nat}{Q:AD->AH->Prop}(hd:(d==sysModules)=AG)(hod:s.heap.get? d=AA od)(hT:s.TypeIs (.ref d) "dict")(hdd:od.data=.dict es ep)
  (hQ:Q (.ref s.heap.objs.size) {s with heap:=s.heap.push {cls:=.type "dict_keyiterator",data:=.fields #[.ref d,.int 0 0,.int es.size 0,.int ep 0]} }):
  AQ (model prog w) A (pyIter (.ref d)) Q E s:=by
 refine FR hT F4 (BM F4 hT F.entry_dict_iter ?_ (F.args_dict_iter_1 _));unfold EI.«dict.__iter__»;refine AB ?_;unfold GI;refine AB (Cp hT ?_);show AQ _ _ (pure (Ac d)) _ _ s;refine AK ?_;show AQ _ _ (Cq d >>= _) _ _ s;unfold Cq;rw[if_neg (by rw[hd];exact AT)];refine AB (AK ?_);refine AB (Ba hod hdd ?_);refine AB (C3 hod hdd ?_);refine AB (Aw (AK ⟨_,rfl,"dict_keyiterator",_,⟨_,A1 _ rfl,rfl⟩,BD.lookup,?_⟩));simpa [rawInt] using hQ
def zgt{it d:AI}{i ep:Nat}{od:B8}{es:Array BW}{Q:Option AD->AH->Prop}(hit:s.heap.IsKeyIter it d i es.size ep)
  (hod:s.heap.get? d=AA od) (hdd:od.data=.dict es ep) (hlt':i<es.size)
  (hQ:∀h',h'.IsKeyIter it d (i+1) es.size ep->CF it s.heap h'->Q (AA es[i].key) {s with heap:=h'}):
  AQ (model prog w) A (pyNext (.ref it)) Q E s:=by
 let⟨o,ho,hc,hd⟩:=id hit;unfold pyNext;refine AB (wpAny_attempt (BR (name:=AO "__next__") hit.typeIs BD
  (BM BD hit.typeIs DB ?_ (Cv _))))
 refine AB (AK ?_);refine AB ?_;refine AB ?_
 first|refine AB (B7 hit.typeIs (AK ?_))|refine AB (CA hit.typeIs (AK ?_))
 refine AB (wpAny_fieldsOf ho hd ?_);have hown:DG "dict_keyiterator"=false:=by decide
 erw[hown,Ay,if_false];show AQ _ _ (if (Ac d==BN)=AC then _ else _) _ _ s;rw[if_neg (show ¬((Ac d==BN)=AC)from AT)];refine AB (AK ?_);refine AB (Ba hod hdd ?_);rw[if_neg (by simp)];refine AB (AK ?_);refine AB (C3 hod hdd ?_);rw[if_neg (by simp)];refine AK ?_;erw[show ¬((i:Int)<0)from by lia,if_false,Cf,D8 hlt'];refine AB ?_
 first|refine AB (B7 hit.typeIs (AK ?_))|refine AB (CA hit.typeIs (AK ?_))
 refine AB (EY hit.typeIs ?_);show AQ _ _ (setField (.ref it) 1 (rawInt ((i:Int)+1)) >>= _) _ _ s;refine AB (Cg ho hd (by simp) ?_);have hit':(s.heap.update it (El (·.setIfInBounds 1 (rawInt ((i:Int)+1))))).IsKeyIter it d (i+1) es.size ep:=
  ⟨_,Ck _ ho (EX (C4 hd _)),(FM ..).trans hc,by rw[C4 hd];simp[rawInt]⟩
 refine AB (BJ ?_);refine AB (EY (s:={s with heap:=s.heap.update it (El (·.setIfInBounds 1 (rawInt ((i:Int)+1))))}) hit'.typeIs ?_);show AQ _ _ (pure es[i].key) _ _ _;exact AK (AK ⟨_,rfl,AK (hQ _ hit' (CV ..))⟩)
def zgW{it d:AI}{i ep:Nat}{od:B8}{es:Array BW}{Q:Option AD->AH->Prop}(hh:A.handled=AE)(hit:s.heap.IsKeyIter it d i es.size ep)
  (hod:s.heap.get? d=AA od) (hdd:od.data=.dict es ep) (hge:es.size<=i)
  (hQ:∀h',Gh it s.heap h'->Q AE {s with heap:=h'}):AQ (model prog w) A (pyNext (.ref it)) Q E s:=by
 let⟨o,ho,hc,hd⟩:=id hit;unfold pyNext;refine AB (wpAny_attempt (BR (name:=AO "__next__") hit.typeIs BD
  (BM BD hit.typeIs DB ?_ (Cv _))))
 refine AB (AK ?_);refine AB ?_;refine AB ?_
 first|refine AB (B7 hit.typeIs (AK ?_))|refine AB (CA hit.typeIs (AK ?_))
 refine AB (wpAny_fieldsOf ho hd ?_);have hown:DG "dict_keyiterator"=false:=by decide
 erw[hown,Ay,if_false];show AQ _ _ (if (Ac d==BN)=AC then _ else _) _ _ s;rw[if_neg (show ¬((Ac d==BN)=AC)from AT)];refine AB (AK ?_);refine AB (Ba hod hdd ?_);rw[if_neg (by simp)];refine AB (AK ?_);refine AB (C3 hod hdd ?_);rw[if_neg (by simp)];refine AK ?_;erw[show ¬((i:Int)<0)from by lia,if_false,Cf,Array.getElem?_eq_none hge];refine AB ?_
 first|refine AB (B7 hit.typeIs (AK ?_))|refine AB (CA hit.typeIs (AK ?_))
 show AQ _ _ (setField (.ref it) 0 .none >>= _) _ _ s;refine AB (Cg ho hd (by simp) ?_);show AQ _ _ (newExc (.type "StopIteration") [] >>= _) _ _ _;refine AB ?_;erw[newExc,newTuple];refine AB (Aw ?_ (by size_fits));refine AB (m:=firstArgMember _ _) (wpAny_of_eq (a:=BN) (by first|rfl|(erw[firstArgMember];rfl)) ?_);refine Aw ?_ (by size_fits);erw[raiseNew];refine AB (wpAny_handled ?_);rw[show A.in1.handled=AE from hh];refine AB (AK (wpAny_throw ?_));refine AB (Dl (T:="StopIteration") (b:=AC) ⟨_,A1 _ rfl,rfl⟩ isSubtype_stop ?_);exact AK (hQ _ (((CV ..).extBut.push _).push _))
def zfP{it d:AI}{i n ep:Nat}{Q:AD->AH->Prop}(hit:s.heap.IsKeyIter it d i n ep)(h:Q (.ref it) s):AQ (model prog w) A (pyIter (.ref it)) Q E s:=by
 refine FR hit.typeIs DH (BM DH hit.typeIs F.entry_dict_keyiterator_iter ?_ (F.args_dict_keyiterator_iter_1 _));show AQ _ _ (ret (.ref it)) _ _ s;exact AK ⟨_,rfl,"dict_keyiterator",_,hit.typeIs,BD.lookup,h⟩
end
end PySem
namespace L2
open PySem PySem.Spec PyProof.Rows
def ycT(X:Cx)(a:AI):Prop:=∀o u,X.H₀ a≠AA (.frz o u)
section
variable {X:Cx}{π:List (AI×B8)}{σ:St}{H:Hp}{s:AH}{a:AI}{o:B8}{u:HO}
theorem Inv.noFz(I:Inv X π σ H s)(h:∀o v,H a≠AA (.frz o v)):ycT X a:=λo v e=>h o v (I.base.frzs a o v e)
theorem Inv.fz(I:Inv X π σ H s)(mu:Mut (H a))(e:H a=AA u)(g:s.heap.get? a=AA o)(nt:∀xs,u ≠ .tup xs):Inv X π σ (upd H a (.frz o u)) s:=by
 refine I.write (t':=s.toks) (h':=s.heap) mu (.inl rfl) (λ_ _ _ q=>q) ⟨o,g⟩ ⟨by rw[<-g],?_⟩;refine(I.hok a u e).stay (λ_ _ _ q=>q) (λb q=>?_) λb xs q=>?_
 .rw[za λz=>?_];exact q;subst z;rw[q]at mu;exact mu
 .rw[za λz=>?_];exact q;subst z;rw[q]at mu;exact mu
theorem Inv.unfz(I:Inv X π σ H s)(e:H a=AA (.frz o u))(n:ycT X a):Inv X π σ (upd H a u) s:=by
 have nn:∀b,H b=AE->b≠a:=λb q z=>by subst z;rw[e]at q;cases q
 refine⟨I.ok,I.os,I.bare,⟨I.base.keep,I.base.slot,λb ob q m hx=>?_,I.base.there,λb xs q=>?_,λb ob v q=>?_,λb ps q=>?_⟩,I.loc,I.cell,?_,λx c q=>?_,λp hp=>?_,λb v q=>?_,I.len⟩
 .have:=I.base.free b ob q m hx;rw[za (nn b this)];exact this
 .have:=I.base.tups b xs q;rw[za λz=>by subst z;rw[e]at this;cases this];exact this
 .rw[za λz=>by subst z;exact n _ _ q];exact I.base.frzs b ob v q
 .let⟨more,h⟩:=I.base.tbls b ps q;exact⟨more,by rw[za λz=>by subst z;rw[e]at h;cases h];exact h⟩
 .rw[za (nn _ I.free)];exact I.free
 .rw[za (nn _ (I.freeC x c q))];exact I.freeC x c q
 .let⟨q1,q2,q3⟩:=I.pin p hp;exact⟨q1,by rw[za (nn _ q2)];exact q2,q3⟩
 .have ho:∀c y,H c=AA (.own y)->upd H a u c=AA (.own y):=λc y r=>by rw[za λz=>by subst z;rw[e]at r;cases r];exact r
  have ht:∀c xs,H c=AA (.tup xs)->upd H a u c=AA (.tup xs):=λc xs r=>by rw[za λz=>by subst z;rw[e]at r;cases r];exact r
  by_cases hb:b=a
  .subst hb;rw[zc]at q
   cases q
   exact(I.hok b _ e).2.stay (λ_ _ _ q=>q) (λc r=>ho c _ r) ht
  .rw[za hb]at q;exact(I.hok b v q).stay (λ_ _ _ q=>q) (λc r=>ho c _ r) ht
def yce(X:Cx)(t:TE):TE:=λσ H Q=>t σ H λx H'=>∃a o u,H' a=AA (.frz o u)/\ycT X a/\Q x (upd H' a u)
def zfQ{e:AM}{t:TE}(h:PE X e t):PE X e (yce X t):=λπ s σ H Q I q=>
 thn (h π s σ H _ I q) λv s1 ⟨x,H1,I1,r1,a,o,u,e1,n1,q1⟩=>⟨x,_,I1.unfz e1 n1,r1,q1⟩
end
def ydb(a:AI)(o:B8)(kvs:List (List NK×V)):It:=
 ⟨λi H=>H a=AA (.frz o (.dT kvs))/\i<kvs.length,λi H x H'=>H'=H/\∃k v b,kvs[i]?=AA (k,v)/\x=.ref b/\KyR H k b,λi H=>H a=AA (.frz o (.dT kvs))/\kvs.length<=i⟩
theorem KT.at{H:Hp}{kvs:List (List NK×V)}{xs:List (List NK×AI×AD)}(r:KT H kvs xs):∀{i:Nat} {p:List NK×V},kvs[i]?=AA p->∃q,xs[i]?=AA q/\p.1=q.1/\KyR H p.1 q.2.1/\RelV p.2 q.2.2:=by
 induction r with
 |nil=>intro i p e;simp at e
 |@cons p q ps qs h t ih=>
  intro i p' e
  cases i with
  |zero=>simp at e;subst e;exact⟨q,rfl,h⟩
  |succ i=>exact ih (by simpa using e)
theorem KT.keys{H:Hp}{kvs:List (List NK×V)}{xs:List (List NK×AI×AD)}(r:KT H kvs xs):kvs.map (·.1)=xs.map (·.1):=by
 induction r with
 |nil=>rfl
 |cons h t ih=>erw[AX];rw[h.1,ih]
def zdo{P:AV}{w:A5}{K:AF}{tg:AM}{a it:AI}{o:B8}{kvs:List (List NK×V)}{es:Array BW}{ep:Nat}(hd:o.data=.dict es ep):
  Turn P w K tg (ydb a o kvs) [it] it (λi h=>es.size=kvs.length/\h.IsKeyIter it a i es.size ep) where
 mem:=by simp
 obj:=λi h st b hb=>by
  have e:b=it:=by simpa using hb
  subst e;let⟨_,o,e,c,d⟩:=st;exact⟨o,e,λv z=>by rw[d]at z;cases z⟩
 keep:=λi h h' st k=>by
  let⟨l,o,e,r⟩:=st;exact⟨l,o,k it (by simp) o e,r⟩
 item:=by
  intro X hP hw hK hc i π s σ H E I hf st hg;subst hP hw hK;let⟨hq,hi⟩:=hg;let⟨g,z,y,xs,r,o',es',ep',h1,h2,h3,h4,h5⟩:=(show yp X.prog X.w H s.heap a (.frz o (.dT kvs))from I.hok a _ hq);rw[g]at h1
  cases h1
  rw[hd]at h3
  cases h3
  let⟨f0,f1,f2,f3,f4,f5⟩:=hf it (by simp);refine zgt st.2 g hd (by rw[st.1];exact hi) λh' st' sb=>?_;have I1:Inv X π σ H {s with heap:=h'}:=I.turned (t':=s.toks) (λb o hb e=>(sb.2 b hb).trans e) f0 f1 f3 f4 f5;obtain⟨⟨k,v⟩,hkv⟩:∃p,kvs[i]?=AA p:=⟨kvs[i],BE hi⟩;let⟨q,hq2,e1,e2,e3⟩:=KT.at r hkv;have hek:es[i]'(by rw[st.1];exact hi)=entryOfKey (yQ X.prog X.w) q:=by
   have h6:es.toList[i]?=AA (entryOfKey (yQ X.prog X.w) q):=by rw[h4,BG,hq2];rfl
   rw[Co,D8 (by rw[st.1];exact hi)]at h6;exact A0 h6
  let⟨o2,e,c,d⟩:=id st';refine⟨_,rfl,zeD (s:={s with heap:=h'}) e c d ⋯ ⟨.ref q.2.1,H,I1,?_,⟨rfl,k,v,q.2.1,hkv,rfl,e2⟩,⟨st.1,st'⟩,λb hb=>(hf b hb).1⟩⟩;rw[hek];rfl
 done:=by
  intro X hP hw hK hc i π s σ H E I hf st hg;subst hP hw hK;let⟨hq,hi⟩:=hg;let⟨g,_⟩:=(show yp X.prog X.w H s.heap a (.frz o (.dT kvs))from I.hok a _ hq);let⟨f0,f1,f2,f3,f4,f5⟩:=hf it (by simp);exact zgW (I.ok.hd hc) st.2 g hd (by rw[st.1];exact hi) λh' eb=>⟨rfl,I.turned (t':=s.toks) (λb o hb e=>eb b o hb e) f0 f1 f3 f4 f5⟩
 self:=λ_ _ _ _ _ st h=>zfP st.2 h
section
variable {X:Cx}{tg:AM}
def ycN(X:Cx)(tl:TE):TI:=λσ H R=>tl σ H λx H1=>∃a kvs,x=.ref a/\H1 a=AA (.dT kvs)/\∀o,ycT X a->(kvs.map (·.1)).Nodup->R (ydb a o kvs) (upd H1 a (.frz o (.dT kvs)))
def zfW{l:AM}{tl:TE}(hl:PE X l tl):PI X tg l (ycN X tl):=by
 intro π s σ H R I h;refine thn (hl π s σ H _ I h) λv s1 kq=>?_;let⟨x,H1,I1,r1,q1⟩:=kq;let⟨a,kvs,e,hq,q⟩:=q1;subst e
 cases r1
 let⟨z,y,xs,r,o,es,ep,h1,h2,h3,h4,h5⟩:=(show yp X.prog X.w H1 s1.heap a (.dT kvs)from I1.hok a _ hq);have hsz:es.size=kvs.length:=by
  have:=congrArg B6 h4;rw[Ap,<-Bw r]at this;simpa using this
 have nd:(kvs.map (·.1)).Nodup:=by rw[KT.keys r];exact h5
 refine zfC y h1 ⟨o,h1,h2.1⟩ h3 ?_;have I2:=I1.fz (by rw[hq];exact Bc) hq h1 λxs z=>by cases z
 have hn:H1 s1.heap.objs.size=none:=I1.hok.fresh (AR _);have hne:s1.heap.objs.size≠a:=λz=>by rw[z]at hn;rw[hn]at hq;cases hq
 refine⟨s1.heap.objs.size,[s1.heap.objs.size],_,ydb a o kvs,upd H1 a (.frz o (.dT kvs)),rfl,I2.kept (t':=s1.toks) λb o e=>AL _ e,zdo h3,⟨hsz,_,A1 _ rfl,rfl,rfl⟩,λb hb=>?_,
  q o (I1.noFz λo v z=>by rw[hq]at z;cases z) nd⟩
 have e:b=s1.heap.objs.size:=by simpa using hb
 subst e;exact I1.fpOk (AR _) (by rw[za hne];exact hn)
end
end L2
namespace PySem.W
open PySem PySem.Calls PyProof.Rows
def yc3{α:Type}(f:Bool):KasT α->Option α
 |.ret a=>AA a
 |.ask i j k=>if i=1/\j=0 then yc3 f (k f)else AE
def zd9{α:Type}{f:Bool}{cmp:Nat->Nat->(Bool->AH->Prop)->AH->Prop}{Q:α->AH->Prop}{s:AH}(h:∀C:Bool->AH->Prop,C f s->cmp 1 0 C s):
  ∀(t:KasT α) (a:α),yc3 f t=AA a->Q a s->t.kasWp cmp Q s
 |.ret a,b,e,q=>by cases e;exact q
 |.ask i j k,b,e,q=>by
  erw[yc3]at e;split at e
  .rename_i c;let⟨rfl,rfl⟩:=c;exact h _ (zd9 h (k f) b e q)
  .cases e
section
variable {prog:AV}{w:A5}{A:A7}{E:AD->AH->Prop}{s:AH}{a:AI}{x y:AD}
def ybE(prog:AV)(w:A5)(A:A7)(s:AH)(x y:AD)(f:Bool):Prop:=
 (∀Q:SortKind->AH->Prop,Q (tuples' AC) s->AQ (model prog w) A (keyKind' #[x,y]) Q (λ_ _=>False) s) /\
 ∀Q:Bool->AH->Prop,Q f s->AQ (model prog w) A (keyLt' (tuples' AC) y x) Q (λ_ _=>False) s
def outTwo(f:Bool)(x y:AD):List Value:=if f=AC then [y,x]else [x,y]
theorem srt_tree{n:Nat}{f:Bool}{P:G3->AH->Prop}(ho:s.heap.get? a=AA (seqObj "list" [x,y].toArray n))
  (hk:∀h',(∀b o,b≠a->s.heap.get? b=AA o->h'.get? b=AA o)->ybE prog w A {s with heap:=h'} x y f)
  (h:P (.done (.ret .none)) {s with heap:=sortedHeap s.heap a [x,y] (outTwo f x y).toArray}):
  AQ (model prog w) A (EI.«list.sort» ⟨[.ref a],[]⟩) P E s:=by
 rw[Fe];have ha:a<s.heap.objs.size:=AN ho;refine AB (listItems_at ho rfl ?_);refine AB (Dh ho rfl ?_ (by simp[Ax]) (BI _));obtain⟨e1,ho1⟩:∃e1,(s.heap.update a (Az λ_=>(#[]:Array AD))).get? a=AA (seqObj "list" #[] e1):=⟨_,Ff ho λ_=>#[]⟩;refine AB (E6 ho1 rfl ?_);refine AB (wpAny_newTuple ?_ (by simp[Ax]));refine AB (Eo ?_ (BI _));refine BJ ?_;have ho6:(((s.heap.update a (Az λ_=>(#[]:Array AD))).push (seqObj "tuple" [x,y].toArray 0)).push (seqObj "list" #[] 0)).get? a=AA (seqObj "list" #[] e1):=by
  rw[Bv _ _ _ (by rw[Fy,CS];exact A3 (Cj ha)),Bv _ _ _ (by rw[CS];exact A3 ha)];exact ho1
 show AQ (model prog w) A _ P E {s with heap:=((s.heap.update a (Az λ_=>(#[]:Array AD))).push (seqObj "tuple" [x,y].toArray 0)).push (seqObj "list" #[] 0)};dsimp only;have hn2:¬ [x,y].toArray.size<2:=by simp
 rw[if_neg hn2,if_neg hn2];let⟨k1,k2⟩:=hk (((s.heap.update a (Az λ_=>(#[]:Array AD))).push (seqObj "tuple" [x,y].toArray 0)).push (seqObj "list" #[] 0)) λb o hb e=>by
  refine AL _ (AL _ ?_);rw[Ef _ _ _ _ hb];exact e
 refine AB (B0 (k1 (λκ s'=>κ=tuples' AC/\s'={s with heap:=((s.heap.update a (Az λ_=>(#[]:Array AD))).push (seqObj "tuple" [x,y].toArray 0)).push (seqObj "list" #[] 0)}) ⟨rfl,rfl⟩) ?_ λ_ _ z=>z.elim)
 rintro κ s' ⟨rfl,rfl⟩
 refine AB (B0 (kat_run (ks:=[x,y]) (vs:=[x,y]) (G:=λp s'=>s'={s with heap:=((s.heap.update a (Az λ_=>(#[]:Array AD))).push (seqObj "tuple" [x,y].toArray 0)).push (seqObj "list" #[] 0)}/\p=(if f=AC then #[1,0]else #[0,1])) (Q:=λst' s'=>(arrOf st').map (·.2)=(outTwo f x y).toArray/\failedOf st'=AE/\s'={s with heap:=((s.heap.update a (Az λ_=>(#[]:Array AD))).push (seqObj "tuple" [x,y].toArray 0)).push (seqObj "list" #[] 0)})
  rfl (show 2<=2 by decide) (show 2<64 by decide) (λp st' s' a1 a2 a3 a4=>⟨?_,a3,a4.1⟩) ?_) ?_ λ_ _ e=>e)
 .rw[kat_snds (vs:=[x,y]) rfl a2,a4.2]
  cases f<;>rfl
 .refine zd9 (f:=f) (λC hC=>k2 C hC) _ (if f=AC then #[1,0]else #[0,1]) ?_ ⟨rfl,rfl⟩;show yc3 f (kas_sort 2)=_
  cases f<;>decide
 rintro⟨⟨⟩,st'⟩ s' ⟨har,hf,rfl⟩
 dsimp only;rw[har];have hsz:(outTwo f x y).toArray.size<=sizeLine:=by cases f<;>simp[outTwo,Ax]
 refine AB (E6 ho6 rfl ?_);refine AB (Dh ho6 rfl ?_ (BI _) (Dc hsz));rw[hf];erw[bne_self_eq_false,Ay,if_false];exact AK h
theorem srt_tree1{n:Nat}{vs:List AD}{P:G3->AH->Prop}(h2:vs.length<2)(ho:s.heap.get? a=AA (seqObj "list" vs.toArray n))
  (h:P (.done (.ret .none)) {s with heap:=sortedHeap s.heap a vs vs.toArray}):
  AQ (model prog w) A (EI.«list.sort» ⟨[.ref a],[]⟩) P E s:=by
 rw[Fe];have ha:a<s.heap.objs.size:=AN ho;have hz:vs.toArray.size<=sizeLine:=by rw[AW,Ax];lia
 refine AB (listItems_at ho rfl ?_);refine AB (Dh ho rfl ?_ hz (BI _));obtain⟨e1,ho1⟩:∃e1,(s.heap.update a (Az λ_=>(#[]:Array AD))).get? a=AA (seqObj "list" #[] e1):=⟨_,Ff ho λ_=>#[]⟩;refine AB (E6 ho1 rfl ?_);refine AB (wpAny_newTuple ?_ (by show vs.length<=_;rw[Ax];lia));refine AB (Eo ?_ (BI _));refine BJ ?_;have ho6:(((s.heap.update a (Az λ_=>(#[]:Array AD))).push (seqObj "tuple" vs.toArray 0)).push (seqObj "list" #[] 0)).get? a=AA (seqObj "list" #[] e1):=by
  rw[Bv _ _ _ (by rw[Fy,CS];exact A3 (Cj ha)),Bv _ _ _ (by rw[CS];exact A3 ha)];exact ho1
 show AQ (model prog w) A _ P E {s with heap:=((s.heap.update a (Az λ_=>(#[]:Array AD))).push (seqObj "tuple" vs.toArray 0)).push (seqObj "list" #[] 0)};dsimp only;have hlt:vs.toArray.size<2:=by simpa using h2
 rw[if_pos hlt,if_pos hlt];refine AB (AK ?_);rw[StateT.run_pure];refine AB (AK ?_);dsimp only;have hout:(arrOf (SortSt.mk' general' (vs.toArray.zip vs.toArray) #[] 7 AE)).map (·.2)=vs.toArray:=by
  show ((vs.toArray.zip vs.toArray).map (·.2))=vs.toArray;apply Array.toList_inj.mp;simp[List.map_snd_zip]
 rw[hout];refine AB (E6 ho6 rfl ?_);refine AB (Dh ho6 rfl ?_ (BI _) (Dc hz));erw[bne_self_eq_false,Ay,if_false];exact AK h
theorem srt_call{l:AI}{vs out:List AD}{Q:AD->AH->Prop}(hl:s.heap.IsList l vs.toArray)(h64:vs.length<=2)
  (ht:∀(s':AH) (a:AI) (n:Nat) (P:G3->AH->Prop) (E:AD->AH->Prop),(∀b o,s.heap.get? b=AA o->s'.heap.get? b=AA o/\b≠a)->s'.heap.get? a=AA (seqObj "list" vs.toArray n)->P (.done (.ret .none)) {s' with heap:=sortedHeap s'.heap a vs out.toArray} ->
   AQ (model prog w) A.in1.in1 (EI.«list.sort» ⟨[.ref a],[]⟩) P E s')
  (h:Q (.ref (s.heap.objs.size+1)) {s with heap:=sortedAll s.heap vs out.toArray}):
  AQ (model prog w) A (call (.builtin "sorted") [.ref l]) Q E s:=by
 refine Calls.call_function_entry kind_sorted plain_sorted entry_sorted (args_sorted1 _) ?_;unfold EI.«sorted»;refine AB (m:=checkCount "sorted" 1 1 _) (AK ?_);refine AB (collect_list hl ?_ (by rw[Ax];lia));refine AB (Eo ?_ (by rw[Ax];lia));have hsz:((s.heap.push (seqObj "list" #[] 0)).update s.heap.objs.size (Az (·++vs.toArray))).objs.size=s.heap.objs.size+1:=by
  rw[CS,Fy]
 have hoL:(((s.heap.push (seqObj "list" #[] 0)).update s.heap.objs.size (Az (·++vs.toArray))).push (seqObj "list" vs.toArray 0)).get? (s.heap.objs.size+1)=AA (seqObj "list" vs.toArray 0):=by
  rw[<-hsz];exact A1 _ rfl
 have keep:∀b o,s.heap.get? b=AA o->(((s.heap.push (seqObj "list" #[] 0)).update s.heap.objs.size (Az (·++vs.toArray))).push (seqObj "list" vs.toArray 0)).get? b=AA o:=λb o q=>by
  have hlt:b<s.heap.objs.size:=AN q;rw[Bv _ _ _ (by rw[hsz];exact A3 (Cj hlt)),Ef _ _ _ _ (A3 hlt),Bv _ _ _ (A3 hlt)];exact q
 show AQ _ _ _ _ _ {s with heap:=((s.heap.push (seqObj "list" #[] 0)).update s.heap.objs.size (Az (·++vs.toArray))).push (seqObj "list" vs.toArray 0)};rw[hsz];refine AB (BJ (BM slot_list_sort ⟨_,hoL,rfl⟩ entry_list_sort (ht {s with heap:=((s.heap.push (seqObj "list" #[] 0)).update s.heap.objs.size (Az (·++vs.toArray))).push (seqObj "list" vs.toArray 0)} _ 0 _ _ (λb o q=>⟨keep b o q,A3 (Cj (AN q))⟩) hoL ⟨_,rfl,?_⟩) (args_list_sort _)));exact AK ⟨_,rfl,h⟩
def ltT(a b:AS×Int×Int):Bool:=if a.1=b.1 then(if a.2.1==b.2.1 then(if a.2.2==b.2.2 then AG else decide (a.2.2<b.2.2))else decide (a.2.1<b.2.1))else decide (a.1.cps.toList<b.1.cps.toList)
theorem ask_two{b c:AI}{p q:AS×Int×Int}{t1 t2 t3 u1 u2 u3:Go}(gb:s.heap.get? b=AA {cls:=.type "tuple",data:=.seq #[.str p.1 t1,.int p.2.1 t2,.int p.2.2 t3]})(gc:s.heap.get? c=AA {cls:=.type "tuple",data:=.seq #[.str q.1 u1,.int q.2.1 u2,.int q.2.2 u3]}):
  ybE prog w A s (.ref b) (.ref c) (ltT q p):=by
 refine⟨λQ h=>?_,λQ h=>?_⟩
 .refine kat_kind (vs:=[.ref b,.ref c]) (fs:=[.str p.1 t1,.str q.1 u1]) (T:=.type "str") (.cons gb rfl rfl rfl (.cons gc rfl rfl rfl .nil)) (show 0<2 by decide) (λv hv=>?_) ⋯ h;have:∃x t,v=.str x t:=by
   erw[A8,Bi,or_false]at hv;rcases hv with rfl|rfl<;>exact⟨_,_,rfl⟩
  let⟨x,t,rfl⟩:=this;exact .now
 .refine kat_lt gc rfl gb rfl (kat_cons (FV ?_));unfold ltT at h
  by_cases e1:q.1=p.1
  .rw[if_pos e1]at h;rw[show decide (q.1=p.1)=AC from by simp[e1]];refine kat_yes (kat_cons (Ct ?_))
   cases e2:(q.2.1==p.2.1)with
   |true=>
    rw[e2,if_pos rfl]at h;refine kat_yes (kat_cons (Ct ?_))
    cases e3:(q.2.2==p.2.2)with
    |true=>
     rw[e3,if_pos rfl]at h;exact kat_yes (kat_nil h)
    |false=>
     rw[e3,if_neg ⋯]at h;exact kat_no (kat_one _ _ (lt_int h))
   |false=>
    rw[e2,if_neg ⋯]at h;exact kat_no (kat_one _ _ (lt_int h))
  .rw[if_neg e1]at h;rw[show decide (q.1=p.1)=AG from by simp[e1]];exact kat_no (oneLt_str h)
end
end PySem.W
namespace PySem
open Sem (wp)
section
variable {prog:AV}{w:A5}{K:Type}[DecidableEq K]{knd:Dm prog w K}{A:A7}{E:AD->AH->Prop}{s:AH}
def ycL:AD->Int
 |.int i _=>i
 |_=>0
def ych(xs:List (K×AI×AD)):Prop:=∀x∈xs,∃i t,x.2.2=.int i t
def yaf(xb:List (K×AI×AD))(x:K×AI×AD):Bool:=match atKey xb x.1 with
 |some p=>ycL x.2.2==ycL p.2
 |none=>AG
def zbb{nm:String}{a b:AI}{xa xb:List (K×AI×AD)}{Q:Bool->AH->Prop}(hu:knd.room A)(ha:(a==sysModules)=AG)(hb:(b==sysModules)=AG)
  (da:s.heap.DictOfH knd a xa) (db:s.heap.DictOfH knd b xb) (ia:ych xa) (ib:ych xb) (h:Q (xa.length==xb.length&&xa.all (yaf xb)) s):
  AQ (model prog w) A (EL nm a b) Q E s:=by
 let⟨oa,es,ep,hoa,_,hda,hpa,hka,hna⟩:=da;let⟨ob,es',ep',hob,_,hdb,hpb,hkb,hnb⟩:=db;have hla:xa.length=es.size:=(Fg hpa).symm;have hlb:xb.length=es'.size:=(Fg hpb).symm;rw[hla,hlb]at h;unfold EL Cq;rw[if_neg (show ¬(a==sysModules)=AC by rw[ha];exact AT),if_neg (show ¬(b==sysModules)=AC by rw[hb];exact AT)];refine AB (AK (AB (AK ?_)));refine AB (Ba hoa hda ?_);dsimp only;refine AB (Ba hob hdb ?_)
 by_cases hsz:es.size=es'.size
 case neg=>
  rw[if_pos (by simpa using hsz)];have hbf:(es.size==es'.size)=false:=by simpa using hsz
  rw[hbf,DV]at h;exact AB (Dz (AK h))
 case pos=>
  have h':Q (xa.all (yaf xb)) s:=by simpa [hsz] using h
  obtain⟨r,hr0⟩:∃r,xa.all (yaf xb)=r:=⟨_,rfl⟩;rw[hr0]at h';rw[if_neg (by rw[hsz];simp)];refine AB (C3 hoa hda ?_);refine AB ?_;rw[E7];erw[Ge,Gb,Nat.add_sub_cancel,Nat.div_one];refine wpAny_forIn_list _
   (λrest q s'=>s'=s/\q=(AE,())/\∃i,rest=Gj i (es.size-i)/\i<=es.size/\(xa.drop i).all (yaf xb)=r)
   _ ?_ ?_ _ _ ⟨rfl,rfl,0,by simp,BI _,hr0⟩
  .rintro x rest q s' ⟨rfl,rfl,i,hr,hi,hpre⟩
   have hlt:i<es.size:=by
    rcases EM i es.size with h|h
    .exact h
    .rw[Nat.sub_eq_zero_of_le h]at hr;simp at hr
   obtain⟨rfl,hrest⟩:x=i/\rest=Gj (i+1) (es.size-(i+1)):=by
    have e:es.size-i=(es.size-(i+1))+1:=by lia
    rw[e,F5]at hr;injection hr with h1 h2;exact⟨h1,h2⟩
   refine AB (Ba hoa hda ?_);have hlt':x<xa.length:=by rw[hla];exact hlt
   obtain⟨y,hy⟩:∃y,xa[x]=y:=⟨_,rfl⟩;have hget:xa[x]?=AA y:=by rw[BE hlt',hy]
   have hmem:y∈xa:=by rw[<-hy];exact F6 hlt'
   have hdrop:xa.drop x=y::xa.drop (x+1):=by rw[<-hy];exact Bq hlt'
   have hent:es[x]?=AA (entryOfKey knd y):=by rw[entry_at hpa x,hget];rfl
   rw[hent];rw[hdrop,Ao]at hpre;let⟨iy,ty,ey⟩:=ia y hmem;show AQ _ _ (holding [.ref y.2.1,y.2.2] _ >>= _) _ _ _;refine AB (BJ (AB (wpAny_dictFind_heap hu (hka y hmem) hob hdb hpb hkb hnb (λhno=>?_) (λj p hj=>?_))))
   .have hn:yaf xb y=false:=by unfold yaf;rw[atKey_none_of_get hno]
    rw[hn,DV]at hpre;rw[<-hpre]at h';refine AK ?_;show AQ _ _ (if (!false)=AC then _ else _) _ _ _;rw[if_pos ⋯];exact AK (AK h')
   .have hv:yaf xb y=(ycL y.2.2==ycL p.2):=by unfold yaf;rw[atKey_of_get hnb hj]
    refine AB (Ba hob hdb ?_);rw[entry_at hpb j,hj];let⟨ip,tp,ep2⟩:=ib _ (AZ hj);have ep2:p.2=.int ip tp:=ep2;show AQ _ _ (holding [p.2] (eqBool y.2.2 p.2)) _ _ _;rw[hv,ey,ep2]at hpre;rw[ey,ep2];refine BJ (Ct ?_);have hpre:((iy==ip)&&(xa.drop (x+1)).all (yaf xb))=r:=hpre
    cases hb:(iy==ip)with
    |false=>
     rw[hb,DV]at hpre;rw[<-hpre]at h';show AQ _ _ (if (!false)=AC then _ else _) _ _ _;rw[if_pos ⋯];exact AK (AK h')
    |true=>
     rw[hb,Dg]at hpre;show AQ _ _ (if (!true)=AC then _ else _) _ _ _;rw[if_neg ⋯];refine AB (C3 hoa hda ?_);rw[if_neg (by simp)];exact AK ⟨rfl,rfl,x+1,hrest,hlt,hpre⟩
  .rintro q s' ⟨rfl,rfl,i,hr,hi,hpre⟩
   have hin:i=es.size:=by
    rcases EM i es.size with h|h
    .have e:es.size-i=(es.size-(i+1))+1:=by lia
     rw[e,F5]at hr;exact nomatch hr
    .exact Nat.le_antisymm hi h
   refine AK ?_;rw[hin,<-hla,Dv]at hpre;rw[<-hpre]at h';exact h'
def ziW{a b:AI}{xa xb:List (K×AI×AD)}{Q:AD->AH->Prop}(hu:knd.room A.in1)(ha:(a==sysModules)=AG)(hb:(b==sysModules)=AG)
  (da:s.heap.DictOfH knd a xa) (db:s.heap.DictOfH knd b xb) (hu2:A.units<cLine) (ia:ych xa) (ib:ych xb) (h:Q (.bool (!(xa.length==xb.length&&xa.all (yaf xb)))) s):
  AQ (model prog w) A (compareOp .NotEq (.ref a) (.ref b)) Q E s:=by
 refine wpAny_richCompare_same_room (op:=.NotEq) da.typeIs db.typeIs E8 (BM E8 da.typeIs PySem.F.entry_dict_ne ?_ (PySem.F.args_dict_ne_2 _ _)) hu2;show AQ _ _ (D9 "__ne__" ⟨[.ref a,.ref b],[]⟩ >>= _) _ _ s;refine AB ?_;unfold D9;refine AB (Cp da.typeIs ?_);show AQ _ _ (pure (Ac a,Ac b)) _ _ s;refine AK ?_;refine AB (Dl (T:="dict") db.typeIs PySem.F.sub_dict_dict ?_);erw[Eh,Ay,if_false];refine AB (AK (AB (AK ?_)));refine AB (zbb hu ha hb da db ia ib ?_);refine AK ⟨_,rfl,?_,?_⟩
 .exact λx=>nomatch x
 .simpa using h
end
end PySem
namespace L2
open PySem PySem.Spec PyProof.Rows
def yaQ(kvs:List (List NK×V)):Prop:=∀p∈kvs,∃i,p.2=.int i
def vI:V->Int
 |.int i=>i
 |_=>0
def ybW(ka kb:List (List NK×V)):Bool:=ka.length==kb.length&&ka.all λp=>match yah kb p.1 with
 |some v=>vI p.2==vI v
 |none=>AG
def zbV{v:V}{u:AD}(r:RelV v u)(h:∃i,v=.int i):ycL u=vI v/\∃i t,u=.int i t:=by
 let⟨i,rfl⟩:=h;let⟨t,rfl⟩:=r;exact⟨rfl,i,t,rfl⟩
theorem KT.ints{H:Hp}{ka:List (List NK×V)}{xa:List (List NK×AI×AD)}(r:KT H ka xa)(h:yaQ ka):ych xa:=by
 induction r with
 |nil=>intro x hx;cases hx
 |@cons p q ps qs hp t ih=>
  intro x hx;rcases A8.1 hx with rfl|hx
  .exact(zbV hp.2.2 (h p Aa)).2
  .exact ih (λp hp=>h p (AU _ hp)) x hx
theorem KT.same{H:Hp}{kb:List (List NK×V)}{xb:List (List NK×AI×AD)}(rb:KT H kb xb)(hb:yaQ kb){ka:List (List NK×V)}{xa:List (List NK×AI×AD)}(r:KT H ka xa)(h:yaQ ka):
  xa.all (yaf xb)=ka.all λp=>match yah kb p.1 with
   |some v=>vI p.2==vI v
   |none=>false:=by
 induction r with
 |nil=>rfl
 |@cons p q ps qs hp t ih=>
  rw[Ao,Ao,ih λp hp=>h p (AU _ hp)]
  congr 1
  unfold yaf;have e:=rb.val p.1;rw[<-hp.1];have ev:=(zbV hp.2.2 (h p Aa)).1
  cases q1:atKey xb p.1 with
  |none=>
   rw[q1]at e
   cases q2:yah kb p.1 with
   |none=>rfl
   |some v=>rw[q2]at e;exact e.elim
  |some y=>
   rw[q1]at e
   cases q2:yah kb p.1 with
   |none=>rw[q2]at e;exact e.elim
   |some v=>
    rw[q2]at e;have hv:∃i,v=.int i:=by
     unfold yah at q2;let⟨z,hz,rfl⟩:=EJ.1 q2;exact hb z (List.mem_of_find?_eq_some hz)
    have:=(zbV (show RelV v y.2 from e) hv).1;erw[ev,this]
section
variable {X:Cx}
def zgZ(hu:X.A.units+16<cLine):OpR X (compareOp .NotEq) (λx y H Q=>∃a b ka kb,x=.ref a/\y=.ref b/\H a=AA (.dT ka)/\H b=AA (.dT kb)/\yaQ ka/\yaQ kb/\Q (.bl (!ybW ka kb)) H):=by
 intro π s σ H x y v u Q I rx ry h;let⟨a,b,ka,kb,rfl,rfl,ha,hb,ia,ib,q⟩:=h
 cases (show v=Ac a from rx)
 cases (show u=Ac b from ry)
 let⟨_,na,xa,ra,da⟩:=zgy I.hok ha;let⟨_,nb,xb,rb,db⟩:=zgy I.hok hb;refine ziW (show X.A.in1.units+8<cLine by erw[CQ];lia) na nb da db ∅ (ra.ints ia) (rb.ints ib) ⟨.bl _,H,I,rfl,?_⟩;rw[KT.same rb ib ra ia,<-Bw ra,<-Bw rb];exact q
end
section
variable {X:Cx}
def zjd{x y z:V}{us:List AD}(r:Vals [x,y,z] us):∃u v w,us=[u,v,w]/\RelV x u/\RelV y v/\RelV z w:=by
 cases r with
 |cons h1 t=>cases t with
  |cons h2 t=>cases t with
   |cons h3 t=>cases t;exact⟨_,_,_,rfl,h1,h2,h3⟩
def zbQ:bootBuiltins "sorted"=AA (.builtin "sorted"):=by decide +kernel
def zb3:yN X (.builtin "sorted") (λxs H Q=>∃p ps,xs=[.ref p]/\H p=AA (.lst ps)/\((ps.length<2/\∀d,H d=AE->Q (.ref d) (upd H d (.lst ps))) \/
  ∃(b c:AI) (pb pc:AS×Int×Int),ps=[.ref b,.ref c]/\H b=AA (.tup [.str pb.1,.int pb.2.1,.int pb.2.2])/\H c=AA (.tup [.str pc.1,.int pc.2.1,.int pc.2.2]) /\
   ∀d,H d=AE->Q (.ref d) (upd H d (.lst (if PySem.W.ltT pc pb=AC then [.ref c,.ref b]else [.ref b,.ref c]))))):=by
 intro π s σ H xs us Q I r h;let⟨p,ps,rfl,hp,h⟩:=h;let⟨u,rfl,rx⟩:=vals1 r
 cases rx
 let⟨z,its,n0,rv,g⟩:=(show yp X.prog X.w H s.heap p (.lst ps)from I.hok p _ hp);have hl:=rv.length;have hfin:∀(out:List AD) (os:List V),Vals os out->os.length<=sizeLine->(∀d,H d=AE->Q (.ref d) (upd H d (.lst os)))->EP X π σ Q (.ref (s.heap.objs.size+1)) {s with heap:=sortedAll s.heap its out.toArray}:=λout os ro hz q=>by
  have hn:H (s.heap.objs.size+1)=none:=I.hok.fresh (DA _);let⟨e,ge⟩:=sortedAll_at s.heap its out.toArray;exact⟨.ref (s.heap.objs.size+1),_,I.laid (o:=.lst os) (t':=s.toks) (λb o e=>sortedAll_old e) (DA _) ⟨hz,out,e,ro,ge⟩,rfl,q _ hn⟩
 rcases h with⟨h2,q⟩|⟨b,c,pb,pc,rfl,hb,hc,q⟩
 .refine PySem.W.srt_call (vs:=its) (out:=its) ⟨_,g,rfl,_,rfl⟩ ∅ (λs' a n P E kp ga hP=>PySem.W.srt_tree1 ∅ ga hP) (hfin its ps rv z q)
 .let⟨u1,u2,rfl,r1,r2⟩:=vals2 rv
  cases (show u1=Ac b from r1)
  cases (show u2=Ac c from r2)
  let⟨_,ib,rb,gb⟩:=(show yp X.prog X.w H s.heap b (.tup _)from I.hok b _ hb);let⟨_,ic,rc,gc⟩:=(show yp X.prog X.w H s.heap c (.tup _)from I.hok c _ hc);let⟨b1,b2,b3,rfl,⟨t1,rfl⟩,⟨t2,rfl⟩,⟨t3,rfl⟩⟩:=zjd rb;let⟨c1,c2,c3,rfl,⟨v1,rfl⟩,⟨v2,rfl⟩,⟨v3,rfl⟩⟩:=zjd rc;refine PySem.W.srt_call (vs:=[.ref b,.ref c]) (out:=PySem.W.outTwo (PySem.W.ltT pc pb) (.ref b) (.ref c)) ⟨_,g,rfl,_,rfl⟩ (by simp) (λs' a n P E kp ga hP=>PySem.W.srt_tree ga (λh' kp'=>?_) hP) (hfin _ _ ?_ ?_ q)
  .exact PySem.W.ask_two (kp' _ _ (kp _ _ gb).2 (kp _ _ gb).1) (kp' _ _ (kp _ _ gc).2 (kp _ _ gc).1)
  .unfold PySem.W.outTwo;split
   .exact .cons rfl (.cons rfl .nil)
   .exact .cons rfl (.cons rfl .nil)
  .rw[Ax];split<;>simp
end
def zaH{κ:Type}[DecidableEq κ]:∀{kvs:List (κ×V)} {j:Nat} {k:κ} {v:V},(kvs.map (·.1)).Nodup->kvs[j]?=AA (k,v)->yah kvs k=AA v
 |[],j,k,v,_,e=>by simp at e
 |p::r,0,k,v,_,e=>by
  simp at e;subst e;exact zo rfl
 |p::r,j+1,k,v,n,e=>by
  erw[AX,C1]at n;have e':r[j]?=AA (k,v):=by simpa using e
  rw[zq λz=>n.1 (by rw[z];exact EN.2 ⟨(k,v),AZ e',rfl⟩)];exact zaH n.2 e'
theorem DPs.keep{H H':Hp}(ht:∀b xs,H b=AA (.tup xs)->H' b=AA (.tup xs)):∀{ys:List V} {ks:List (List NK×V)},DPs H ys ks->DPs H' ys ks
 |[],_,d=>d
 |x::xs,_,d=>by
  let⟨k,y,r,q,b,e1,e2,hq,hb,d'⟩:=d;exact⟨k,y,r,q,b,e1,e2,ht _ _ hq,hb.stay ht,DPs.keep ht d'⟩
theorem DPs.snoc{H:Hp}{k:List NK}{y:V}{q b:AI}(hq:H q=AA (.tup [.ref b,y]))(hb:KyR H k b):∀{ys:List V} {ks:List (List NK×V)},DPs H ys ks->DPs H (ys++[.ref q]) (ks++[(k,y)])
 |[],ks,d=>by
  cases (show ks=[]from d)
  exact⟨k,y,[],q,b,rfl,rfl,hq,hb,rfl⟩
 |x::xs,_,d=>by
  let⟨k',y',r,q',b',rfl,rfl,hq',hb',d'⟩:=d;exact⟨k',y',r++[(k,y)],q',b',rfl,rfl,hq',hb',DPs.snoc hq hb d'⟩
theorem DPs.len{H:Hp}:∀{ys:List V} {ks:List (List NK×V)},DPs H ys ks->ys.length=ks.length
 |[],ks,d=>by cases (show ks=[]from d);rfl
 |x::xs,_,d=>by
  let⟨k',y',r,q',b',rfl,rfl,hq',hb',d'⟩:=d;simp[DPs.len d']
def nzK(p:List NK×V):Bool:=!decide (p.2=.int 0)
def yfU(i:Nat):TE:=λσ H Q=>∃a kvs,σ[i]?=AA (AA (.ref a))/\H a=AA (.dT kvs)/\yaQ kvs/\kvs.length<=1000 /\
 ∀H' D ys,(∀b o,H b=AA o->H' b=AA o)->H' D=AA (.lst ys)->DPs H' ys (kvs.filter nzK)->Q (.ref D) H'
def zer{X:Cx}{slots:List (Option Nat)}{kt dt i:Nat}(h0:slots[kt]?=AA AE)(h1:slots[dt]?=AA (AA i)){σ:St}{H:Hp}{Q:VK}(h:yfU i σ H Q):
  yce X (ybf slots (ycN X (ybo i)) (ya4 kt) (ybS (tOp rNe (ybR (ybo dt) (ybo kt)) (tC (.int 0)))) (yee (ybq (ybo kt) (ybq (ybR (ybo dt) (ybo kt)) ycU)))) σ H Q:=by
 let⟨a,kvs,hσ,ha,hi,hl,q⟩:=h;refine⟨.ref a,hσ,a,kvs,rfl,ha,λo nf nd D hD=>?_⟩;have hDa:D≠a:=λz=>by subst z;rw[zc]at hD;cases hD
 rw[za hDa]at hD;have hkd:kt≠dt:=λz=>by subst z;rw[h0]at h1;cases h1
 have e0:(inn slots σ)[dt]?=AA (AA (.ref a)):=by
  unfold inn;rw[BG,h1];simp[hσ]
 have hkl:kt<(inn slots σ).length:=by
  unfold inn;rw[Ap];exact(Ab.1 h0).1
 refine⟨λj m σc ys H2=>j+m=kvs.length/\σc[dt]?=AA (AA (.ref a))/\kt<σc.length/\H2 a=AA (.frz o (.dT kvs))/\H2 D=AA (.lst ys)/\(∀b w,H b=AA w->b≠a->H2 b=AA w)/\DPs H2 ys ((kvs.take j).filter nzK),
  ⟨kvs.length,by lia,e0,hkl,by rw[za (BY hDa),zc],zc,λb w e ne=>by rw[za (zb e hD),za ne];exact e,by simp[DPs]⟩,?_⟩
 rintro j m σc ys H2 ⟨hm,hd,hk,h2a,h2D,ext,dp⟩
 refine⟨h2D,?_⟩;have hys:=dp.len;have hfl:=EZ nzK (kvs.take j);have htl:=List.length_take_le j kvs
 by_cases hj:j<kvs.length
 .obtain⟨⟨k,v⟩,hkv⟩:∃p,kvs[j]?=AA p:=⟨kvs[j],BE hj⟩;let⟨n,hn⟩:=hi _ (AZ hkv);have hn:v=.int n:=hn;have hval:=zaH nd hkv;have htk:kvs.take (j+1)=kvs.take j++[(k,v)]:=by rw[List.take_add_one,hkv];rfl
  refine .inr ⟨⟨h2a,hj⟩,by rw[Ax];lia,λσ' ys' H'=>(j+1)+(m-1)=kvs.length/\σ'[dt]?=AA (AA (.ref a))/\kt<σ'.length/\H' a=AA (.frz o (.dT kvs))/\H' D=AA (.lst ys')/\(∀b w,H b=AA w->b≠a->H' b=AA w)/\DPs H' ys' ((kvs.take (j+1)).filter nzK),
   λσ' ys' H' w=>⟨m-1,by lia,w⟩,?_⟩
  rintro x H3 ⟨rfl,k',v',b,hkv',rfl,kb⟩
  rw[hkv]at hkv'
  cases hkv'
  have sd:(σc.set kt (AA (.ref b)))[dt]?=AA (AA (.ref a)):=by rw[Al hkd];exact hd
  have sk:(σc.set kt (AA (.ref b)))[kt]?=AA (AA (.ref b)):=by rw[Aq hk]
  have sl:kt<(σc.set kt (AA (.ref b))).length:=by rw[BB];exact hk
  have dg:yca H3 a (.ref b) (AA v):=.inr ⟨kvs,k,b,.inr ⟨o,h2a⟩,rfl,kb,hval.symm⟩;refine⟨.ref a,sd,.ref b,sk,a,v,rfl,dg,by rw[hn];rfl,_,rfl,?_⟩;have hnz:nzK (k,v)=!decide (v=.int 0):=rfl
  cases e:(!decide (v=V.int 0))with
  |false=>
   dsimp only;rw[if_neg AT];refine⟨by lia,sd,sl,h2a,h2D,ext,?_⟩;rw[htk,FA,C7 (by rw[hnz,e];exact AT)];simpa using dp
  |true=>
   dsimp only;rw[if_pos rfl];refine⟨.ref b,sk,.ref a,sd,.ref b,sk,a,v,rfl,dg,by rw[Ax];simp,λp hp=>?_⟩;have npD:p≠D:=λz=>by subst z;rw[h2D]at hp;cases hp
   have npa:p≠a:=λz=>by subst z;rw[h2a]at hp;cases hp
   have tup:∀c xs,H3 c=AA (.tup xs)->upd (upd H3 p (.tup [.ref b,v])) D (.lst (ys++[.ref p])) c=AA (.tup xs):=λc xs q=>by
    rw[za (show c≠D from λz=>by subst z;rw[h2D]at q;cases q),za (zb q hp)];exact q
   refine⟨by rw[za (BY npD)];exact h2D,by lia,sd,sl,by rw[za (BY hDa),za (BY npa)];exact h2a,zc,λc w e ne=>?_,?_⟩
   .have:=ext c w e ne;rw[za (zb e hD),za (zb this hp)];exact this
   .rw[htk,FA,C8 (by rw[hnz,e])];exact DPs.snoc (by rw[za npD,zc]) (kb.stay tup) (dp.keep tup)
 .refine .inl ⟨⟨h2a,by lia⟩,a,o,.dT kvs,h2a,nf,q _ D ys (λb w e=>?_) ?_ ?_⟩
  .by_cases hb:b=a
   .subst hb;rw[zc,<-e,ha]
   .rw[za hb];exact ext b w e hb
  .rw[za hDa];exact h2D
  .rw[List.take_of_length_le ∅]at dp;exact dp.keep λc xs q=>by rw[za λz=>by subst z;rw[h2a]at q;cases q];exact q
end L2
namespace L2
open PySem PySem.Spec PyProof.Rows IC
section
variable {K:AF}{cl:Nat->AI}{B:AI->Prop}{φ:Ph}{H:Hp}
theorem DT.ints:∀{kvs:List (PV×PV)} {ks:List (List NK×V)},DT K cl B φ H kvs ks->kvs.all yaM=AC->yaQ ks
 |[],ks,h,_=>by cases (show ks=[]from h);intro p hp;cases hp
 |(k,v)::r,ks,h,a=>by
  let⟨q,x,s,rfl,rfl,rv,l⟩:=h;erw[Ao,AJ]at a;intro p hp;rcases A8.1 hp with rfl|hp
  .cases v with
   |int i=>erw[yc]at rv;exact⟨i,rv⟩
   |_=>exact absurd a.1 AT
  .exact DT.ints l a.2 p hp
def zbS{v:PV}{x:V}(a:yaM ((.non:PV),v)=AC)(r:yc K cl B φ H v x):vI x=ivP v/\x=.int (ivP v):=by
 cases v with
 |int i=>erw[yc]at r;subst r;exact⟨rfl,rfl⟩
 |_=>exact absurd a AT
def zaS{p:PV×PV}(h:yaM p=AC):yaM ((.non:PV),p.2)=true:=by
 let⟨a,b⟩:=p
 cases b<;>first|rfl|exact h
theorem DT.filt:∀{kvs:List (PV×PV)} {ks:List (List NK×V)},DT K cl B φ H kvs ks->kvs.all yaM=AC->DT K cl B φ H (kvs.filter λp=>!(ivP p.2==0)) (ks.filter nzK)
 |[],ks,h,_=>by cases (show ks=[]from h);rfl
 |(k,v)::r,ks,h,a=>by
  let⟨q,x,s,rfl,rfl,rv,l⟩:=h;erw[Ao,AJ]at a;have e:=(zbS (zaS a.1) rv).2;have en:nzK (q,x)=!(ivP v==0):=by
   show (!decide (x=V.int 0))=_;have e:x=.int (ivP v):=e;rw[e,zdT]
  have ih:=DT.filt l a.2
  cases hb:!(ivP v==0)with
  |false=>
   rw[C7 (by show ¬(!(ivP v==0))=AC;rw[hb];decide),C7 (by rw[en,hb];decide)];exact ih
  |true=>
   rw[C8 (by show (!(ivP v==0))=AC;exact hb),C8 (by rw[en,hb])];exact⟨q,x,_,rfl,rfl,rv,ih⟩
theorem DT.find{q:List NK}:∀{kvs:List (PV×PV)} {ks:List (List NK×V)},DT K cl B φ H kvs ks->kvs.all yaM=AC ->
  (match IC.look (.tup (yai q)) kvs with|some v=>AA (ivP v)|none=>AE)=(yah ks q).map vI
 |[],ks,h,_=>by cases (show ks=[]from h);rfl
 |(k,v)::r,ks,h,a=>by
  let⟨q',x,s,rfl,rfl,rv,l⟩:=h;erw[Ao,AJ]at a;have e:=(zbS (zaS a.1) rv).1;erw[IC.look,zad]
  by_cases eq:q'=q
  .rw[zo (p:=(q',x)) eq];erw[eq,decide_true,if_true,C2];exact congrArg AA e.symm
  .rw[zq (p:=(q',x)) eq];erw[decide_eq_true_eq,eq,if_false];exact DT.find l a.2
theorem DT.all{kb:List (PV×PV)}{sb:List (List NK×V)}(b:DT K cl B φ H kb sb)(hb:kb.all yaM=AC):∀{kvs:List (PV×PV)} {ks:List (List NK×V)},DT K cl B φ H kvs ks->kvs.all yaM=AC ->
  (ks.all λp=>match yah sb p.1 with|some v=>vI p.2==vI v|none=>AG)=kvs.all λp=>match IC.look p.1 kb with|some v=>ivP p.2==ivP v|none=>AG
 |[],ks,h,_=>by cases (show ks=[]from h);rfl
 |(k,v)::r,ks,h,a=>by
  let⟨q,x,s,rfl,rfl,rv,l⟩:=h;erw[Ao,AJ]at a;have e:=(zbS (zaS a.1) rv).1;rw[Ao,Ao,DT.all b hb l a.2]
  congr 1
  have f:=b.find hb (q:=q);dsimp only
  cases e1:IC.look (.tup (yai q)) kb with
  |none=>
   rw[e1]at f
   cases e2:yah sb q with
   |none=>rfl
   |some y=>rw[e2]at f;cases f
  |some w=>
   rw[e1]at f
   cases e2:yah sb q with
   |none=>rw[e2]at f;cases f
   |some y=>
    rw[e2]at f;have f:ivP w=vI y:=A0 f;have e:vI x=ivP v:=e;erw[f,e]
theorem DT.same{ka kb:List (PV×PV)}{sa sb:List (List NK×V)}(a:DT K cl B φ H ka sa)(b:DT K cl B φ H kb sb)(ha:ka.all yaM=AC)(hb:kb.all yaM=AC):ybW sa sb=ybb ka kb:=by
 unfold ybW ybb;rw[<-a.len,<-b.len];exact congrArg (λz=>ka.length==kb.length&&z) (DT.all b hb a ha)
def zea{v:PV}{p:AS×Int×Int}{x:V}(e:ycs v=AA p)(r:yc K cl B φ H v x):∃b,x=.ref b/\H b=AA (.tup [.str p.1,.int p.2.1,.int p.2.2]):=by
 unfold ycs at e;split at e
 .cases e
  erw[yc]at r;let⟨b,xs,rfl,rt,l⟩:=r;erw[yd,yc]at l;let⟨y1,_,rfl,rfl,y2,_,rfl,rfl,y3,_,rfl,rfl,rfl⟩:=l;rcases rt with⟨rt,_⟩|⟨z,_⟩
  .exact⟨b,rfl,rt⟩
  .cases z
 .cases e
end
section
variable {S:Se}{X:Cx}{σ:St}{a b:AM}{ca cb:Ce}{p pos:Bf}
def zht{K:AF}{cl:Nat->AI}{B:AI->Prop}{φ:Ph}{H:Hp}{st:SO}{v:PV}{x:V}{ws:List PV}(rs:yh K cl B φ H st)(r:yc K cl B φ H v x)(e:yu st v=AA ws):∃l ys,x=.ref l/\H l=AA (.lst ys)/\yd K cl B φ H ws ys:=by
 cases v with
 |lst xs=>
  cases e
  erw[yc]at r;let⟨l,ys,rfl,⟨h,_⟩,rl⟩:=r;exact⟨l,ys,rfl,h,rl⟩
 |loc n=>
  erw[yu]at e;split at e
  .rename_i xs hz
   cases e
   let⟨l,ys,rfl,hn,hx,lr⟩:=rs.list r hz;exact⟨l,ys,rfl,hx,lr⟩
  .cases e
 |_=>cases e
def zhw(hg:Gl X "sorted")(hm:X.mg "sorted"=AE)(ha:PE X a (tE S X ca))
  (he:starEach [a] X.env=(AG,eval a X.env)::starEach [] X.env:=by rfl):PE X (.Call (.Name "sorted" p) [a] [] pos) (tE S X (.srt ca)):=
 (za6 zb3 hg hm zbQ (zp ha zi2 he) ⋯ ⋯ he rfl).imp λσ H Q ⟨B,φ,st,ρ,rs,re,h⟩=>by
  erw[ev]at h;refine tE.bind rs re h λx H1 v st1 φ1 s1 rs1 re1 rv h1=>?_;let⟨z,e,q⟩:=zr h1 rs1;unfold ycy at e;let⟨ws,e1,e2⟩:=Option.bind_eq_some_iff.1 e;let⟨l,ys,rfl,hl,rl⟩:=zht rs1 rv e1;have fin:∀(d:AI),H1 d=AE->∀(os:List PV) (us:List V),yd X.K S.cl B φ1 H1 os us->z=.lst os->Q (.ref d) (upd H1 d (.lst us)):=λd hd os us ro ez=>by
   subst ez;refine q _ _ φ1 (.upd hd) (rs1.upd hd) ?_;have nD:AA d∉φ1:=λz=>by
    let⟨w,e⟩:=rs1.there z;rw[hd]at e;cases e
   erw[yc];exact⟨d,us,rfl,⟨zc,rs1.nB hd,nD⟩,ro.step (.upd hd)⟩
  have hlen:=rl.length;refine⟨l,ys,rfl,hl,?_⟩;unfold ybY at e2;split at e2
  .cases e2
   exact .inl ⟨by rw[<-hlen];decide,λd hd=>fin d hd _ _ rl rfl⟩
  .cases e2
   exact .inl ⟨by rw[<-hlen];show 1<2;decide,λd hd=>fin d hd _ _ rl rfl⟩
  .rename_i x y;split at e2
   .rename_i pb pc e3 e4
    cases e2
    erw[yd]at rl;let⟨y1,_,rfl,r1,y2,_,rfl,r2,rfl⟩:=rl;let⟨b,rfl,hb⟩:=zea e3 r1;let⟨c,rfl,hc⟩:=zea e4 r2;refine .inr ⟨b,c,pb,pc,rfl,hb,hc,λd hd=>?_⟩
    cases hlt:ltS pc pb with
    |true=>
     rw[hlt]at fin;rw[if_pos (show PySem.W.ltT pc pb=AC from hlt)];exact fin d hd [y,x] [.ref c,.ref b] (by erw[yd];exact⟨_,_,rfl,r2,_,_,rfl,r1,rfl⟩) rfl
    |false=>
     rw[hlt]at fin;rw[if_neg (show ¬PySem.W.ltT pc pb=AC from λz=>by rw[show PySem.W.ltT pc pb=AG from hlt]at z;cases z)];exact fin d hd [x,y] [.ref b,.ref c] (by erw[yd];exact⟨_,_,rfl,r1,_,_,rfl,r2,rfl⟩) rfl
   .cases e2
  .cases e2
def zhX{sc:BH}{NC:List AS}{i:Nat}{k d:AS}{j0 x1:Nat}{p0 p1 p2 p3 p4 p5 p6 p7 p8 p9 p10 p11 pz:Bf}(hu:X.A.units+16<cLine)(hc:X.calm=AC)(hg:Gl X "dict")(hm:X.mg "dict"=AE)
  (O:yG X sc NC [AE,AA i]) (hi:PE X (.Name d p0) (ybo i)) (hgn:∀j,PG (cxC X sc NC j) (.Name k p1) (ya4 0)) (hk:∀j q,PE (cxC X sc NC j) (.Name k q) (ybo 0)) (hd:∀j q,PE (cxC X sc NC j) (.Name d q) (ybo 1)):
  PE X (.Call (.Name "dict" p) [.ListComp (.Tuple [.Name k p2,.Subscript (.Name d p3) (.Name k p4) p5] x1 p6) [⟨.Name k p1,.Name d p0,[.Compare (.Subscript (.Name d p7) (.Name k p8) p9) [.NotEq] [.Constant (.int 0) j0 pz] p10],0⟩] sc p11] [] pos) (tE S X (.dfl i)):=
 (zbz (zaX hu hc) hg hm zfs (zp ((zfQ (zbM hc O (zfW hi) hgn (λj=>zdt (zbT ziL (zdh hu (hd j p7) (hk j p8) (λ_ _=>rfl)) zi5 rfl))
  (λj=>zfb (zp (hk j p2) (zp (zdh hu (hd j p3) (hk j p4) (λ_ _=>rfl)) zi2))))).imp λσ H Q h=>zer rfl rfl h) zi2 rfl) ⋯ ⋯ rfl rfl).imp λσ H Q ⟨B,φ,st,ρ,rs,re,h⟩=>by
  erw[ev]at h;unfold ycE at h;split at h
  .rename_i v hv;split at h
   .rename_i kvs hkv;split at h
    .rename_i c;rw[AJ,decide_eq_true_eq]at c;let⟨n,rfl,hn⟩:=zz hkv;let⟨x,hx,rx⟩:=re.get i _ hv;let⟨y,rfl,hy,ro⟩:=rs.dct rx hn;let⟨ks,hks,l⟩:=ro;have hlen:=l.len;have hfl:=EZ nzK ks;refine⟨y,ks,hx,hks,l.ints c.1,by lia,λH' D ys ext hD dp=>⟨D,ys,ks.filter nzK,rfl,hD,dp,by lia,λd' hd'=>?_⟩⟩;have s0:Step φ H φ H':=⟨λb o _ e=>ext b o e,AR _,λ_ _ _ e=>e,λ_ h=>.inl h⟩;have rs0:=rs.same ext;exact h _ _ (φ++[AA d']) (s0.trans (.push hd')) (rs0.push hd' (rs0.nB hd') ⟨_,zc,((l.filt c.1).step s0 |>.fold (acc:=[]) (ks:=[]) rfl).step (.push hd')⟩) (.loc_new rs0)
    .exact h.elim
   .exact h.elim
  .exact h.elim
def zgT(hu:X.A.units+16<cLine):OpR X (compareOp .NotEq) (rTs S X ybv):=by
 rintro π s σ H x y v u Q I rx ry ⟨B,φ,st,a,b,z,rs,ra,rb,e,q⟩
 unfold ybv at e;split at e
 .rename_i ka kb e1 e2;split at e
  .rename_i c;rw[AJ]at c
   cases e
   let⟨n,rfl,hn⟩:=zz e1;let⟨n',rfl,hn'⟩:=zz e2;let⟨y1,rfl,_,⟨k1,h1,l1⟩⟩:=rs.dct ra hn;let⟨y2,rfl,_,⟨k2,h2,l2⟩⟩:=rs.dct rb hn';refine zgZ hu π s σ H _ _ v u Q I rx ry ⟨y1,y2,k1,k2,rfl,rfl,h1,h2,l1.ints c.1,l2.ints c.2,?_⟩;rw[DT.same l1 l2 c.1 c.2];exact q _ H φ .rfl rs (by erw[yc])
  .cases e
 .cases e
def zgn{st:SO}{x y z:PV}(h:ybv st x y=AA z):∃k,z=.bl k:=by
 unfold ybv at h;split at h
 .split at h
  .cases h;exact⟨_,rfl⟩
  .cases h
 .cases h
def zhv(hu:X.A.units+16<cLine)(ha:PE X a (tE S X ca))(hb:PE X b (tE S X cb))(hm:behindInMarks .NotEq b=AG):PT X (.Compare a [.NotEq] [b] pos) (tTs S X (.dne ca cb)):=
 (zbT (zgT hu) ha hb hm).imp λσ H Q ⟨B,φ,st,ρ,rs,re,h⟩=>by
  erw[ev,yau,R.bind_assoc]at h;refine tE.bind rs re h λx H1 v st1 φ1 s1 rs1 re1 rv h1=>tE.bind rs1 re1 h1 λy H2 w st2 φ2 s2 rs2 re2 rw h2=>?_
  cases e:ybv st2 v w with
  |none=>rw[e]at h2;exact h2.elim
  |some z=>
   let⟨k,rfl⟩:=zgn e;rw[e]at h2;refine⟨B,φ2,st2,v,w,.bl k,rs2,rv.step s2,rw,e,λz' H' φ' s' rs' rz=>?_⟩;erw[yc]at rz;exact⟨k,rz,h2 k H' φ' s' rs' rfl⟩
end
section
variable {X:Cx}
end
section
variable {S:Se}{X:Cx}{σ:St}{B:AI->Prop}{φ φ1:Ph}{H H1:Hp}{st:SO}{ρ:IC.Env}{p pos p2 apos:Bf}{a b:AM}{ca cb:Ce}{K:AF}{cl:Nat->AI}
end
section
variable {S:Se}{X:Cx}{σ:St}{B:AI->Prop}{φ:Ph}{H:Hp}{st:SO}{p pos p2 px apos:Bf}{a b c d o tg l:AM}{ca cb cc:Ce}{ct:Tg}{ss:List Bd}{cs:Css}
end
section
variable {S:Se}{X:Cx}{σ:St}{B:AI->Prop}{φ φ1:Ph}{H H1:Hp}{st:SO}{ρ:IC.Env}{pos:Bf}{a b tg elt iter:AM}{ca cb ce:Ce}{ct:Tg}
def zcE{sl:List (Option Nat)}(hf:yJ ct sl=AC){H:Hp}{Q:VK}(h:tE S X (.cml sl ct ca ce) σ H Q):
  ybf sl (λσ H R=>tE S X ca σ H λx H1=>∃a,x=.ref a/\(((∃xs,SqL X.K H1 a xs)/\R (Itl X.K a) H1) \/ ((∃xs,SqT X.K H1 a xs)/\R (Itt X.K a) H1))) (tG0 S X.K ct) ydA (tE0 S X.K ce) σ H Q:=by
 let⟨B,φ,st,ρ,rs,re,h⟩:=h;erw[ev]at h;refine tE.bind rs re h λx H1 v st1 φ1 s1 rs1 re1 rv h1=>?_
 cases v with
 |loc n=>
  dsimp only at h1
  generalize hone:(λ(x:PV) (st2:SO)=>match yx ct x (sl.map λo=>o.bind λj=>(ρ[j]?).join)with
   |none=>(R.bad:R (Option PV))
   |some ρ1=>(ev S.call ρ1 st2 ce).bind λy st4=>.ok (AA y) st4)=one at h1
  cases e:yae one n 1000000 0 st1 with
  |exc k s=>rw[e]at h1;exact h1.elim
  |bad=>rw[e]at h1;exact h1.elim
  |ok zs st5=>
   rw[e]at h1;erw[yba]at h1;split at h1
   case isFalse=>exact h1.elim
   rename_i hz;have e0:=e;unfold yae at e0;split at e0
   case h_2=>cases e0
   rename_i ws0 hws0;have hlo:yu st1 (.loc n)=AA ws0:=by erw[yu,hws0]
   let⟨y,us0,rfl,hq0,_⟩:=zan rs1 rv hlo;refine⟨y,rfl,.inl ⟨⟨us0,hq0⟩,λD hD=>?_⟩⟩;have nB:¬B D:=rs1.nB hD;have nD:AA D∉φ1:=λz=>by
    let⟨w,e⟩:=rs1.there z;rw[hD]at e;cases e
   refine⟨λi m σc ys H2=>∃φ2 st2 vs rest,Step φ1 H1 φ2 H2/\H2 D=AA (.lst ys)/\AA D∉φ2/\yh X.K S.cl (Bx B D) φ2 H2 st2/\yo X.K S.cl (Bx B D) φ2 H2 (sl.map λo=>o.bind λj=>(ρ[j]?).join) σc /\
     yd X.K S.cl (Bx B D) φ2 H2 vs ys/\yae one n m i st2=.ok rest st5/\vs++rest=zs,
    ⟨1000000,φ1,st1,[],zs,.upd hD,zc,nD,rs1.more hD,(yo.inn re1).more hD,by erw[yd],e,rfl⟩,?_⟩
   rintro i m σc ys H2 ⟨φ2,st2,vs,rest,s2,hD2,nD2,rs2,re2,l2,ec,ez⟩
   refine⟨hD2,?_⟩
   cases m with
   |zero=>rw[yae]at ec;cases ec
   |succ m=>
    unfold yae at ec
    cases eo:st2[n]? with
    |none=>rw[eo]at ec;cases ec
    |some ob=>
     rw[eo]at ec
     cases ob with
     |lst xs=>
      dsimp only at ec;have rvB:yc X.K S.cl (Bx B D) φ2 H2 (.loc n) (.ref y):=by
       have q:=rv.step s2;erw[yc]at q ⊢;exact q
      have hlo2:yu st2 (.loc n)=AA xs:=by erw[yu,eo]
      let⟨y',us,ey,hq,l⟩:=zan rs2 rvB hlo2
      cases ey
      have hl:=l.length
      cases ex:xs[i]? with
      |none=>
       rw[ex]at ec
       cases ec
       have hle:xs.length<=i:=by
        rcases EM i xs.length with z|z
        .rw[BE z]at ex;cases ex
        .exact z
       refine .inl ⟨⟨us,hq,by lia⟩,h1 (.ref D) H2 φ2 s2 rs2.less ?_⟩;erw[yc];exact⟨D,ys,rfl,⟨hD2,nB,nD2⟩,by rw[<-ez,Bs];exact l2.less⟩
      |some v=>
       rw[ex]at ec;dsimp only at ec;let⟨x,hx,rx⟩:=l.get i ex;let⟨o,st3,e1,ec⟩:=zj ec;let⟨rest',st4,e2,ec⟩:=zj ec;have er:st4=st5/\yaH o rest'=rest:=by
        injection ec with q1 q2;exact⟨q2,q1⟩
       let⟨rfl,rfl⟩:=er;have hl2:=l2.length;have hml:=zjc;have hzl:=congrArg B6 ez;rw[<-hone]at e1;dsimp only at e1
       cases eb:yx ct v (sl.map λo=>o.bind λj=>(ρ[j]?).join)with
       |none=>rw[eb]at e1;cases e1
       |some ρ1=>
        rw[eb]at e1;dsimp only at e1;let⟨yv,st6,e5,e1⟩:=zj e1
        cases e1
        erw[yaH,As,Ag]at hzl;refine .inr ⟨⟨us,x,hq,hx⟩,by lia,λσ' ys' H'=>∃φ2 st2 vs rest,Step φ1 H1 φ2 H'/\H' D=AA (.lst ys')/\AA D∉φ2/\yh X.K S.cl (Bx B D) φ2 H' st2/\yo X.K S.cl (Bx B D) φ2 H' (sl.map λo=>o.bind λj=>(ρ[j]?).join) σ' /\
         yd X.K S.cl (Bx B D) φ2 H' vs ys'/\yae one n m (i+1) st2=.ok rest st4/\vs++rest=zs,λσ' ys' H' q=>⟨m,Nat.lt_succ_self m,q⟩,λx' H3 hy=>?_⟩
        let⟨e3,hy⟩:=hy;subst e3;have:=hy us hq;rw[hx]at this
        cases this
        refine⟨Bx B D,φ2,st2,_,v,ρ1,rs2,re2,rx,eb,λσ4 re4=>?_⟩;dsimp only[ydA];rw[if_pos rfl];refine⟨Bx B D,φ2,st2,ρ1,rs2,re4,?_⟩;rw[e5];intro y' H6 φ6 s6 rs6 ry;have nD6:AA D∉φ6:=λz=>by
         rcases s6.new D z with q|q
         .exact nD2 q
         .rw[hD2]at q;cases q
        have hD6:H6 D=AA (.lst ys):=s6.keep D _ nD2 hD2;have hBD:Bx B D D:=.inr rfl;have h0:∀(i:Nat),sl[i]?=AA AE->(sl.map λo=>o.bind λj=>(ρ[j]?).join)[i]?=AA none:=λi q=>by
         rw[BG,q];rfl
        refine⟨hD6,φ6,_,vs++[yv],rest',?_,zc,nD6,rs6.skip hBD,(yo.untgt hf h0 eb (re4.step s6)).skip hBD,((l2.step s6).append (by erw[yd];exact⟨y',[],rfl,ry,rfl⟩)).skip hBD,e2,?_⟩
        .have s16:=s2.trans s6;exact⟨λb o n q=>by rw[za (zb q hD)];exact s16.keep b o n q,s16.len,s16.pre,s16.new⟩
        .simpa [yaH] using ez
     |_=>cases ec
 |_=>exact h1.elim
def zh3{sc:BH}{NC:List AS}{sl:List (Option Nat)}(hc:X.calm=AC)(O:yG X sc NC sl)(hf:yJ ct sl=AC)(hi:PE X iter (tE S X ca))(hg:∀j,PG (cxC X sc NC j) tg (tG0 S X.K ct))
  (he:∀j,PE (cxC X sc NC j) elt (tE0 S X.K ce)) (hs:∀x,foldedSetIterable iter X.env x=pure x:=by intro _;rfl):
  PE X (.ListComp elt [⟨tg,iter,[],0⟩] sc pos) (tE S X (.cml sl ct ca ce)):=
 (zbM hc O (zeZ hi) hg (λj=>zdI) he hs).imp λσ H Q h=>zcE hf h
end
end L2
namespace L2
open PySem PySem.Spec PyProof.Rows IC WK
inductive GK where
 |fn (i:Nat)|fnD (i:Nat)|cst (v:PV)|dct (D:List (AS×PV))|exc (c:Nat)|cls (c i:Nat)
structure Gs where
 g:AS->Option GK
 b:AS->Bool
 t:Ty->Bool
 fl:Nat->AS->Bool
 me:Nat->AS->Option Nat
 kb:Nat->Nat->List AS->Option (List (Option Int))
 mr:AS->Option (List (AS×Nat))
 fv:AS->Nat->Bool
 xk:Nat->Ty->Bool
 xc:Nat->AS->Bool
 xm:Nat->AS->Bool
 qf:Nat->Bool
structure Kx where
 N:List AS
 sc:BH
 own:Bool
 h:Bool
def Fo(m:Nat)(S:Se)(X:Cx)(i:Nat)(f:AI)(fd:Aj)(ps:List AS):Prop:=yaG X.prog X.w X.K X.mg X.base (CX1 X.prog X.w) m f fd ps (spI X.K S.cl S.call i)
structure Glo(γ:Gs)(m:Nat)(S:Se)(X:Cx):Prop where
 F:∀x i,γ.g x=AA (.fn i)->∃f fd ps,Fo m S X i f fd ps/\X.mg x=AA (.ref f)/\Ae X.K (.ref f)=AC/\Binds X.K fd ps []
 Q:∀x i np ks sh,γ.g x=AA (.fnD i)->γ.kb i np ks=AA sh->∃f fd ps,Fo m S X i f fd ps/\X.mg x=AA (.ref f)/\Ae X.K (.ref f)=AC/\∃g,ya0 X.K fd ps ks g (gK np sh)
 C:∀x v,γ.g x=AA (.cst v)->GC X.K X.mg S.cl x v \/ ∃i,v=.int i/\GCI X.mg x i
 D:∀x d,γ.g x=AA (.dct d)->GD X.K X.w X.mg S.cl x d
 E:∀x c,γ.g x=AA (.exc c)->yck X.K X.mg (S.cl c) x
 N:∀x c i,γ.g x=AA (.cls c i)->X.mg x=AA (.ref (S.cl c))/\∃f fd ps,Mk X.K (S.cl c) f/\Fo m S X i f fd ps/\Binds X.K fd ps []
 B:∀x,γ.b x=AC->X.mg x=AE
 T:∀t,γ.t t=AC->ydv X.K t
 A:∀c f,γ.fl c f=AC->Cls X.K (S.cl c)/\ybz X.K (S.cl c) f
 M:∀c n i,γ.me c n=AA i->Cls X.K (S.cl c)/\∃f fd ps,Meth X.K (S.cl c) n f/\Fo m S X i f fd ps/\Binds X.K fd ps []
 K:∀y D,γ.mr y=AA D->∃fa fdd ps,Makers S X m D fa fdd ps/\GDF X.K X.w X.mg fa y D
 V:∀x i,γ.g x=AA (.fn i)->γ.fv x i=AC->X.mg x=AA (.ref (S.cl (1000+i)))
 I:∀c t,γ.xk c t=AC->ydU X.K (S.cl c)/\yfy X.K S.cl c t
 L:∀d x,γ.xc d x=AC->X.mg x=AA (.ref (S.cl d))
 H:∀c x,γ.xm c x=AC->∃W,X.mg x=AA (.ref W)/\Fz X.K (.ref (S.cl c)) (.ref W)=AA AC
 Z:∀x i,γ.g x=AA (.fn i)->γ.qf i=AC->∃f fd ps,ybh X.prog X.w X.K X.mg X.base m f fd ps (spI X.K S.cl S.call i)/\X.mg x=AA (.ref f)/\Ae X.K (.ref f)=AC/\Binds X.K fd ps []
structure Good(γ:Gs)(κ:Kx)(m:Nat)(S:Se)(X:Cx):Prop where
 n:X.N=κ.N
 sc:X.env.scope=κ.sc
 calm:κ.h=AG->X.calm=AC
 room:yaa (m+1) X.A
 hd:κ.h=AG->X.A.handled=AE
 own:κ.own=AC->Do (model X.prog X.w) X.A X.env X.xe/\(∀x,X.fn x=AC)/\S.may=AC
 top:κ.own=AC->(∃outer,X.stack=X.env::outer)/\X.ex=[]/\X.env.frame=AA X.env.locals
 glo:Glo γ m S X
theorem Good.rm{γ:Gs}{κ:Kx}{m:Nat}{S:Se}{X:Cx}(G:Good γ κ m S X)(h:κ.h=AG):yat (m+1) X.A:=⟨G.hd h,G.room.dp,G.room.un⟩
def zfm{k:Nat}{A:A7}(r:yaa k A):A.units+16<cLine:=by have:=r.units;lia
def zd0{k:Nat}{A:A7}(r:yaa k A):A.units+16<cLine:=by have:=r.units;lia
abbrev Pr(P:Prop):Type:=Option (PLift P)
abbrev YE(γ:Gs)(κ:Kx)(e:AM)(c:Ce):Prop:=∀m S X,Good γ κ m S X->PE X e (tE S X c)
abbrev YT(γ:Gs)(κ:Kx)(e:AM)(c:Ce):Prop:=∀m S X,Good γ κ m S X->PT X e (tTs S X c)
abbrev YW(γ:Gs)(κ:Kx)(e:AM)(c:Ce):Prop:=∀m S X,Good γ κ m S X->PW X e (tTs S X c)
abbrev YA(γ:Gs)(κ:Kx)(e:List AM)(c:Ces):Prop:=∀m S X,Good γ κ m S X->PA X e (tAs S X c)
abbrev YO(γ:Gs)(κ:Kx)(e:Option AM)(c:Ce):Prop:=∀m S X,Good γ κ m S X->PO X e (tO S X c)
abbrev YS(γ:Gs)(κ:Kx)(s:Bd)(c:Cs):Prop:=∀m S X,Good γ κ m S X->PS X s (tS S X c)
abbrev YSs(γ:Gs)(κ:Kx)(s:List Bd)(c:Css):Prop:=∀m S X,Good γ κ m S X->PSs X s (tSs S X c)
def an{P Q:Prop}(a:Pr P)(k:P->Pr Q):Pr Q:=match a with
 |some h=>k h.down
 |none=>AE
def ok{P:Prop}(h:P):Pr P:=AA ⟨h⟩
def ask(p:Prop)[Decidable p]:Pr p:=if h:p then AA ⟨h⟩else AE
def nst:AM->Bool
 |.Starred _ _=>AG
 |_=>AC
def ziZ{a:AM}{es:List AM}{env:BF}(h:nst a=AC):starEach (a::es) env=(AG,eval a env)::starEach es env:=by
 cases a<;>first|rfl|cases h
def ycu(es:List AM):Bool:=es.all nst
theorem stars{pos:Bf}{env:BF}:∀{es:List AM},ycu es=AC->(backTo pos (starEach es env)).any (·.1)=AG
 |[],_=>rfl
 |a::es,h=>by
  erw[ycu,Ao,AJ]at h;rw[ziZ h.1];have:=stars (pos:=pos) (env:=env) (es:=es) h.2;simpa [backTo] using this
def nco:AM->Bool
 |.ListComp ..=>AG
 |.SetComp ..=>AG
 |.DictComp ..=>AG
 |_=>AC
theorem swp{a:AM}{t:Option AM}{l:Nat}{env:BF}(h:nco a=AC):swapsWith a t l env=pure false:=by
 cases a<;>first|rfl|cases h
def nse:AM->Bool
 |.Set ..=>AG
 |_=>AC
theorem fse{a:AM}{env:BF}(h:nse a=AC):∀x,foldedSetIterable a env x=pure x:=by
 cases a<;>first|exact λ_=>rfl|cases h
theorem nmk{op:Ei}{a:AM}(h:nse a=AC):behindInMarks op a=false:=by
 cases a<;>first|rfl|cases h
def nsl:AM->Bool
 |.Slice ..=>AG
 |_=>AC
theorem pix{a:AM}(h:nsl a=AC):yaW a:=by
 cases a<;>first|exact λ_ _=>rfl|cases h
def ntu:AM->Bool
 |.Tuple ..=>AG
 |_=>AC
def nte:AM->Bool
 |.UnaryOp ..=>AG
 |.BoolOp ..=>AG
 |.IfExp ..=>AG
 |.Compare ..=>AG
 |_=>AC
theorem itr{a:AM}{env:BF}(h:nte a=AC):∀whole,isTrue a env whole=(do let v <-whole;standAt a.pos;holding [v] (truthy v)):=by
 cases a<;>first|exact λ_=>rfl|cases h
def nca:AM->Bool
 |.Call ..=>AG
 |_=>AC
def zje{a:AM}{f:AS}{env:BF}{w:Gp AD}(h:nca a=AC):attributeBase a f env w=w:=by
 cases a<;>first|rfl|cases h
def mOp(op:Dn)(o:BOp):Pr (∀S X,OpR X (binaryOp op) (rT2 S X (yC o))):=
 match op,o with
 |.Add,.add=>ok (λ_ _=>zh5)
 |.Sub,.sub=>ok (λ_ _=>zg0)
 |.Mult,.mul=>ok (λ_ _=>zh1)
 |.FloorDiv,.fdiv=>ok (λ_ _=>zgp)
 |.Mod,.mod=>ok (λ_ _=>zgV)
 |.Pow,.pow=>ok (λ_ _=>zie)
 |_,_=>AE
def mCm(op:Ei)(o:COp):Pr (∀m S X,yaa m X.A->OpR X (compareOp op) (rT2 S X (yr o))):=
 match op,o with
 |.Eq,.eq=>ok (λ_ _ _ r=>zir r.units)
 |.NotEq,.ne=>ok (λ_ _ _ r=>ziF r.units)
 |.Lt,.lt=>ok (λ_ _ _ _=>ziy)
 |.LtE,.le=>ok (λ_ _ _ _=>ziI)
 |.Gt,.gt=>ok (λ_ _ _ _=>ziB)
 |.GtE,.ge=>ok (λ_ _ _ _=>zis)
 |.In,.isin=>ok (λ_ _ _ _=>ziD)
 |_,_=>AE
def ycc(sc:BH)(x:AS):Bool:=match sc.names.lookup x with
 |some .local=>AC
 |some .cell=>AC
 |some .free=>AC
 |_=>AG
def zba{sc:BH}{x:AS}(h:ycc sc x=AC):Vis sc x:=by
 unfold ycc at h;split at h
 .exact .inl ‹_›
 .exact .inr (.inl ‹_›)
 .exact .inr (.inr ‹_›)
 .cases h
def yc2(sc:BH)(x:AS):Bool:=match sc.names.lookup x with
 |some .local=>AC
 |some .cell=>AC
 |_=>AG
def zdO{sc:BH}{x:AS}(h:yc2 sc x=AC):Loc sc x:=by
 unfold yc2 at h;split at h
 .exact .inl ‹_›
 .exact .inr ‹_›
 .cases h
def pln(x:AS):Bool:=!(x==("__debug__":AS))&&!(x==("__classdict__":AS))&&!(x==("__name__":AS))
def zi0{x:AS}(h:pln x=AC):(x==("__debug__":AS))=false:=by
 erw[pln,AJ,B9]at h;exact h.1.1
def zi3{x:AS}(h:pln x=AC):(x==("__classdict__":AS))=false:=by
 erw[pln,AJ,B9]at h;exact h.1.2
def zi8{x:AS}(h:pln x=AC):x ≠ "__name__":=by
 erw[pln,AJ,B9]at h;intro e;rw[e]at h;exact absurd h.2 ⋯
def hf(κ:Kx){P:Prop}(f:κ.h=AG->Pr P):Pr P:=if h:κ.h=AG then f h else AE
def glB(κ:Kx)(x:AS):Bool:=decide (κ.sc.names.lookup x=AA .globalImplicit)&&pln x
def zm{γ:Gs}{κ:Kx}{m:Nat}{S:Se}{X:Cx}(G:Good γ κ m S X){x:AS}(h:glB κ x=AC):Gl X x:=by
 erw[glB,AJ,decide_eq_true_eq]at h;show X.env.scope.names.lookup x=_;rw[G.sc];exact h.1
def zab{κ:Kx}{x:AS}(h:glB κ x=AC):pln x=true:=by
 erw[glB,AJ]at h;exact h.2
def setB(κ:Kx)(i:Nat)(x:AS):Bool:=decide (κ.N[i]?=AA x)&&decide κ.N.Nodup&&yc2 κ.sc x&&(κ.own || decide (κ.sc.names.lookup x=AA .local))&&pln x
structure yda(X:Cx)(i:Nat)(x:AS):Prop where
 d:X.N.Nodup
 i:X.N[i]?=AA x
 l:Loc X.env.scope x
 f:X.fn x=AC \/ X.env.scope.names.lookup x=AA .local
 p:pln x=AC
def zy{γ:Gs}{κ:Kx}{m:Nat}{S:Se}{X:Cx}(G:Good γ κ m S X){i:Nat}{x:AS}(h:setB κ i x=AC):yda X i x:=by
 erw[setB,AJ,DF,decide_eq_true_eq]at h;let⟨⟨⟨⟨h1,h2⟩,h3⟩,h4⟩,h5⟩:=h;refine⟨by rw[G.n];exact h2,by rw[G.n];exact h1,by rw[G.sc];exact zdO h3,?_,h5⟩;rcases h4 with h4|h4
 .exact .inl ((G.own h4).2.1 x)
 .exact .inr (by rw[G.sc];exact h4)
def gFn(γ:Gs)(x:AS)(i:Nat):Pr (γ.g x=AA (.fn i)):=match h:γ.g x with
 |some (.fn j)=>if e:j=i then AA ⟨by subst e;rfl⟩else AE
 |_=>AE
section
variable {γ:Gs}{κ:Kx}{ca cb cc:Ce}{ces:Ces}
def yeD(v:PV)(e:AM):Pr (YE γ κ e (.cst v)):=
 match e with
 |.Constant (.int i) _ _=>match v with
  |.int j=>an (ask (i=j)) λh=>ok (λ_ _ _ _=>by cases h;exact zg3)
  |_=>AE
 |.Constant (.bool i) _ _=>match v with
  |.bl j=>an (ask (i=j)) λh=>ok (λ_ _ _ _=>by cases h;exact ziY)
  |_=>AE
 |.Constant .none _ _=>match v with
  |.non=>ok (λ_ _ _ _=>zgL)
  |_=>AE
 |.Constant (.str i) _ _=>match v with
  |.str j=>an (ask (i=j)) λh=>ok (λ_ _ _ _=>by cases h;exact zho)
  |_=>AE
 |_=>AE
def yfc(i:Nat)(e:AM):Pr (YE γ κ e (.var i)):=
 match e with
 |.Name x _=>an (ask (κ.N[i]?=AA x/\ycc κ.sc x=AC/\pln x=AC)) λh=>ok (λ_ _ _ G=>zhb (by rw[G.n];exact h.1) (by rw[G.sc];exact zba h.2.1) (zi0 h.2.2) (zi3 h.2.2))
 |_=>AE
def yft(o:BOp)(e:AM)(fa:∀x,Pr (YE γ κ x ca))(fb:∀x,Pr (YE γ κ x cb)):Pr (YE γ κ e (.bin o ca cb)):=
 match e with
 |.BinOp a op b _=>
  an (mOp op o) λho=>an (fa a) λha=>an (fb b) λhb=>ok (λm S X G=>zif (ho S X) (ha m S X G) (hb m S X G))
 |_=>AE
def yf0(e:AM)(fa:∀x,Pr (YE γ κ x ca)):Pr (YE γ κ e (.neg ca)):=
 match e with
 |.UnaryOp .USub a _=>
  an (fa a) λha=>ok (λm S X G=>zgC (ha m S X G))
 |_=>AE
def yf1(e:AM)(fa:∀x,Pr (YE γ κ x ca)):Pr (YE γ κ e (.not ca)):=
 match e with
 |.UnaryOp .Not a _=>
  an (fa a) λha=>ok (λm S X G=>zg2 (ha m S X G))
 |_=>AE
def yeA(o:COp)(e:AM)(fa:∀x,Pr (YE γ κ x ca))(fb:∀x,Pr (YE γ κ x cb)):Pr (YE γ κ e (.cmp o ca cb)):=
 match e with
 |.Compare a [op] [b] _=>
  an (mCm op o) λho=>an (ask (nse b=AC)) λhs=>an (fa a) λha=>an (fb b) λhb=>ok (λm S X G=>zig (ho _ S X G.room) (ha m S X G) (hb m S X G) (nmk hs))
 |_=>AE
def ydn(o:COp)(e:AM)(fa:∀x,Pr (YE γ κ x ca))(fb:∀x,Pr (YE γ κ x cb)):Pr (YT γ κ e (.cmp o ca cb)):=
 match e with
 |.Compare a [op] [b] _=>
  an (mCm op o) λho=>an (ask (nse b=AC)) λhs=>an (fa a) λha=>an (fb b) λhb=>ok (λm S X G=>zib (ho _ S X G.room) (ha m S X G) (hb m S X G) (nmk hs))
 |_=>AE
theorem lmk{op op':Ei}{b c:AM}(h:nse c=AC):lastMarks [op,op'] [b,c]=false:=nmk h
def yf5(o p:COp)(e:AM)(fa:∀x,Pr (YE γ κ x ca))(fb:∀x,Pr (YE γ κ x cb))(fc:∀x,Pr (YE γ κ x cc)):Pr (YE γ κ e (.chain o p ca cb cc)):=
 match e with
 |.Compare a [op,op'] [b,c] _=>
  an (mCm op o) λho=>an (mCm op' p) λhp=>an (ask (nse c=AC)) λhs=>an (fa a) λha=>an (fb b) λhb=>an (fc c) λhc=>ok (λm S X G=>zeI (ho _ S X G.room) (hp _ S X G.room) (ha m S X G) (hb m S X G) (hc m S X G) (lmk hs))
 |_=>AE
def ydI(o p:COp)(e:AM)(fa:∀x,Pr (YE γ κ x ca))(fb:∀x,Pr (YE γ κ x cb))(fc:∀x,Pr (YE γ κ x cc)):Pr (YT γ κ e (.chain o p ca cb cc)):=
 match e with
 |.Compare a [op,op'] [b,c] _=>
  an (mCm op o) λho=>an (mCm op' p) λhp=>an (ask (nse c=AC)) λhs=>an (fa a) λha=>an (fb b) λhb=>an (fc c) λhc=>ok (λm S X G=>zez (ho _ S X G.room) (hp _ S X G.room) (ha m S X G) (hb m S X G) (hc m S X G) (lmk hs))
 |_=>AE
def yfu(e:AM)(fc:∀x,Pr (YT γ κ x cc))(fa:∀x,Pr (YE γ κ x ca))(fb:∀x,Pr (YE γ κ x cb)):Pr (YE γ κ e (.ite cc ca cb)):=
 match e with
 |.IfExp c a b _=>
  an (fc c) λhc=>an (fa a) λha=>an (fb b) λhb=>ok (λm S X G=>zhJ (hc m S X G) (ha m S X G) (hb m S X G))
 |_=>AE
def yeM(e:AM)(fa:∀x,Pr (YA γ κ x ces)):Pr (YE γ κ e (.tup ces)):=
 match e with
 |.Tuple es _ _=>
  an (fa es) λha=>ok (λm S X G=>zhA (ha m S X G))
 |_=>AE
def ye1(e:AM)(fa:∀x,Pr (YA γ κ x ces)):Pr (YE γ κ e (.lst ces)):=
 match e with
 |.List es _=>
  an (fa es) λha=>ok (λm S X G=>zgQ (ha m S X G))
 |_=>AE
def ydO(e:AM)(fa:∀x,Pr (YA γ κ x ces)):Pr (YE γ κ e (.newl ces)):=
 match e with
 |.List es _=>
  an (fa es) λha=>ok (λm S X G=>zfy (ha m S X G))
 |_=>AE
def ydp(t:Bool)(e:AM):Pr (YE γ κ e (.dict0 t)):=
 match t,e with
 |true,.Dict [] [] _=>ok (λ_ _ _ _=>zdP)
 |_,_=>AE
def mIdx(e:AM)(fa:∀x,Pr (YE γ κ x ca))(fb:∀x,Pr (YE γ κ x cb)):Pr (YE γ κ e (.idx ca cb)):=
 match e with
 |.Subscript a b _=>
  an (ask (nsl b=AC)) λhs=>an (fa a) λha=>an (fb b) λhb=>ok (λm S X G=>zhD (ha m S X G) (hb m S X G) (pix hs))
 |_=>AE
def yeF(e:AM)(fa:∀x,Pr (YE γ κ x ca))(fb:∀x,Pr (YO γ κ x cb))(fc:∀x,Pr (YO γ κ x cc)):Pr (YE γ κ e (.slc ca cb cc)):=
 match e with
 |.Subscript a (.Slice l h AE _) _=>
  an (fa a) λha=>an (fb l) λhb=>an (fc h) λhc=>ok (λm S X G=>zhZ (ha m S X G) (hb m S X G) (hc m S X G))
 |_=>AE
def ydZ(c:Ce)(e:Option AM)(fa:∀x,Pr (YE γ κ x c)):Pr (YO γ κ e c):=
 match e with
 |none=>match c with
  |.cst .non=>ok (λ_ _ _ _=>zge)
  |_=>AE
 |some a=>
  an (fa a) λha=>ok (λm S X G=>zf6 (ha m S X G))
inductive Fs(γ:Gs)(κ:Kx):Ces->Type where
 |nil:Fs γ κ .nil
 |cons {c:Ce} {cs:Ces} (f:∀x,Pr (YE γ κ x c)) (r:Fs γ κ cs):Fs γ κ (.cons c cs)
def yaV:{ces:Ces}->Fs γ κ ces->(es:List AM)->Pr (YA γ κ es ces)
 |_,.nil,[]=>ok λ_ _ _ _=>zdl
 |_,.cons f r,a::es=>an (ask (nst a=AC)) λhs=>an (f a) λha=>an (yaV r es) λhr=>ok λm S X G=>zaR (ha m S X G) (hr m S X G) (ziZ hs)
 |_,_,_=>AE
structure Sp2(γ:Gs)(κ:Kx)(ces:Ces)(np:Nat) where
 c1:Ces
 c2:Ces
 f1:Fs γ κ c1
 f2:Fs γ κ c2
 h:yR c1 c2=ces
 l:yb6 c1=np
def ybC:(np:Nat)->{ces:Ces}->Fs γ κ ces->Option (Sp2 γ κ ces np)
 |0,ces,F=>AA ⟨.nil,ces,.nil,F,rfl,rfl⟩
 |n+1,_,.cons f r=>match ybC n r with
  |some s=>AA ⟨.cons _ s.c1,s.c2,.cons f s.f1,s.f2,by rw[yR,s.h],by rw[yb6,s.l]⟩
  |none=>AE
 |_,_,_=>AE
structure It2(γ:Gs)(κ:Kx)(ces:Ces)(sh:List (Option Int))(kws:List CG) where
 it:List (Sum Ce Int)
 h:yj it=ces
 s:it.map shC=sh
 k:∀m S X,Good γ κ m S X->PK X kws (tK S X it)
def ybl:(sh:List (Option Int))->{ces:Ces}->Fs γ κ ces->(kws:List CG)->Option (It2 γ κ ces sh kws)
 |[],_,.nil,[]=>AA ⟨[],rfl,rfl,λ_ _ _ _=>zhn⟩
 |none::sh,.cons c _,.cons f r,⟨_,e,_⟩ :: kws=>match f e,ybl sh r kws with
  |some h,AA q=>AA ⟨.inl c::q.it,by rw[yj,q.h],by rw[AX,q.s];rfl,λm S X G=>ziA (h.down m S X G) (q.k m S X G)⟩
  |_,_=>AE
 |some i::sh,.cons (.cst (.int j)) _,.cons _ r,kws=>if e:i=j then match ybl sh r kws with
  |some q=>AA ⟨.inr i::q.it,by rw[yj,q.h,e],by rw[AX,q.s];rfl,λm S X G=>ziw (q.k m S X G)⟩
  |none=>AE
  else AE
 |_,_,_,_=>AE
def kwN:List CG->List AS
 |[]=>[]
 |⟨AA x,_,_⟩ :: r=>x::kwN r
 |_::r=>kwN r
def kwB:List CG->Bool
 |[]=>AC
 |⟨AA _,_,_⟩ :: r=>kwB r
 |_=>AG
def zhf{pos:Bf}{env:BF}:∀{kws:List CG},kwB kws=AC->(backToKw pos (keywordEach kws env)).all (·.1.isSome)=AC/\(backToKw pos (keywordEach kws env)).filterMap (·.1)=kwN kws/\(backToKw pos (keywordEach kws env)).any (·.1.isNone)=AG
 |[],_=>⟨rfl,rfl,rfl⟩
 |⟨AA x,e,_⟩ :: r,h=>by
  let⟨h1,h2,h3⟩:=zhf (pos:=pos) (env:=env) (kws:=r) h;erw[backToKw]at h1 h2 h3 ⊢;erw[keywordEach,AX,Ao,CB,Be,h1,h2,h3,kwN];simp
def yfB(hκ:κ.h=AG)(i:Nat)(F:Fs γ κ ces)(e:AM):Pr (YE γ κ e (.call i ces)):=
 match e with
 |.Call (.Name x _) [] [] _=>match F with
  |.nil=>an (ask (glB κ x=AC)) λhg=>an (gFn γ x i) λhf=>ok λm S X G=>by
   let⟨f,fd,ps,h1,h2,h3,h4⟩:=G.glo.F x i hf;exact zeu h1 ((G.rm hκ).mono (DA m)) (zm G hg) h2 h3 h4 (zi0 (zab hg))
  |_=>AE
 |.Call (.Name x _) (a::es) kws _=>an (ask (glB κ x=AC/\nst a=AC/\ycu es=AC)) λhg=>
  match hx:γ.g x with
  |some (.fn j)=>match kws with
   |[]=>an (ask (j=i)) λhj=>an (yaV F (a::es)) λha=>ok λm S X G=>by
    subst hj;let⟨f,fd,ps,h1,h2,h3,h4⟩:=G.glo.F x j hx;exact zfK h1 ((G.rm hκ).mono (DA m)) (zm G hg.1) h2 h3 h4 (ha m S X G) (zi0 (zab hg.1)) (ziZ hg.2.1) (stars hg.2.2)
   |_=>AE
  |some (.fnD j)=>match hk:γ.kb j (es.length+1) (kwN kws)with
   |none=>AE
   |some sh=>match ybC (es.length+1) F with
    |none=>AE
    |some s=>match ybl sh s.f2 kws with
     |none=>AE
     |some q=>an (ask (kwB kws=AC/\j=i)) λhw=>an (yaV s.f1 (a::es)) λha=>ok λm S X G=>by
      let⟨hw,rfl⟩:=hw;let⟨f,fd,ps,h1,h2,h3,h4⟩:=G.glo.Q x j _ _ sh hx hk;rw[<-s.h,<-q.h];rw[<-q.s]at h4;have w:=λ{pos}=>zhf (pos:=pos) (env:=X.env) hw;exact zem h1 ((G.rm hκ).mono (DA m)) (zm G hg.1) h2 h3 h4 s.l (ha m S X G) (q.k m S X G) w.1 w.2.1 (zi0 (zab hg.1)) (ziZ hg.2.1) (by
       rw[w.2.2,GR];exact stars (es:=a::es) (by erw[ycu,Ao,hg.2.1,Dg];exact hg.2.2))
  |_=>AE
 |_=>AE
abbrev ydk(b:Blt)(x:AS):Prop:=∀S X,X.calm=AC->(∃id,yN X (.builtin id) (rB S X b)/\bootBuiltins x=AA (.builtin id)) \/ ∃T,yN X (.type T) (rB S X b)/\bootBuiltins x=AA (.type T)
def yff(b:Blt)(x:AS):Pr (ydk b x):=
 match b with
 |.len=>an (ask (x="len")) λh=>ok λ_ _ _=>.inl ⟨_,zh7,h ▸ zhk⟩
 |.abs=>an (ask (x="abs")) λh=>ok λ_ _ _=>.inl ⟨_,zh0,h ▸ zhG⟩
 |.tuple=>an (ask (x="tuple")) λh=>ok λ_ _ _=>.inr ⟨_,zeK,h ▸ zce⟩
 |.all=>an (ask (x="all")) λh=>ok λ_ _ c=>.inl ⟨_,zhd c,h ▸ zh6⟩
 |_=>AE
def yfS(b:Blt)(F:Fs γ κ ces)(e:AM):Pr (YE γ κ e (.blt b ces)):=
 match e with
 |.Call (.Name x _) (a::es) [] _=>hf κ λhκ=>an (ask (glB κ x=AC/\nst a=AC/\ycu es=AC/\γ.b x=AC)) λhg=>an (yff b x) λhb=>an (yaV F (a::es)) λha=>ok λm S X G=>by
  rcases hb S X (G.calm hκ)with⟨id,h1,h2⟩|⟨T,h1,h2⟩
  .exact zhe h1 (zm G hg.1) (G.glo.B x hg.2.2.2) h2 (ha m S X G) (zi8 (zab hg.1)) (zi0 (zab hg.1)) (ziZ hg.2.1) (stars hg.2.2.1)
  .exact zgA h1 (zm G hg.1) (G.glo.B x hg.2.2.2) h2 (ha m S X G) (zi8 (zab hg.1)) (zi0 (zab hg.1)) (ziZ hg.2.1) (stars hg.2.2.1)
 |_=>AE
def ye3(b:Blt)(F:Fs γ κ ces)(e:AM):Pr (YE γ κ e (.blt b ces)):=
 match b with
 |b=>yfS b F e
def yeH(e:AM)(fa:∀x,Pr (YE γ κ x ca)):Pr (YE γ κ e (.srt ca)):=
 match e with
 |.Call (.Name x _) [a] [] _=>an (ask (x="sorted"/\glB κ x=AC/\nst a=AC/\γ.b x=AC)) λh=>an (fa a) λha=>ok λm S X G=>by
  let⟨rfl,h1,h2,h3⟩:=h;exact zhw (zm G h1) (G.glo.B _ h3) (ha m S X G) (ziZ h2)
 |_=>AE
def ydm(e:AM)(fa:∀x,Pr (YE γ κ x ca))(fb:∀x,Pr (YE γ κ x cb)):Pr (YT γ κ e (.dne ca cb)):=
 match e with
 |.Compare a [.NotEq] [b] _=>an (ask (nse b=AC)) λhs=>an (fa a) λha=>an (fb b) λhb=>ok (λm S X G=>zhv (zd0 G.room) (ha m S X G) (hb m S X G) (nmk hs))
 |_=>AE
def tyB(t:Ty)(x:AS):Pr (yct t=AC/\bootBuiltins x=AA (.type (tyN t))):=
 match t with
 |.int=>an (ask (x="int")) λh=>ok ⟨rfl,h ▸ zhT⟩
 |.bool=>an (ask (x="bool")) λh=>ok ⟨rfl,h ▸ zfo⟩
 |.str=>an (ask (x="str")) λh=>ok ⟨rfl,h ▸ zgP⟩
 |.tuple=>an (ask (x="tuple")) λh=>ok ⟨rfl,h ▸ zce⟩
 |_=>AE
def yfw(ts:List Ty)(e:AM)(fa:∀x,Pr (YE γ κ x ca)):Pr (YE γ κ e (.isi ca ts)):=
 match ts,e with
 |[t],.Call (.Name n _) [a,.Name x _] [] _=>an (ask (n="isinstance"/\glB κ n=AC/\γ.b n=AC/\glB κ x=AC/\γ.b x=AC/\γ.t t=AC/\nst a=AC)) λh=>an (tyB t x) λht=>an (fa a) λha=>ok λm S X G=>by
  let⟨rfl,h1,h2,h3,h4,h5,h6⟩:=h;exact zgY (G.glo.T t h5) ht.1 (zm G h1) (G.glo.B _ h2) (zm G h3) (G.glo.B _ h4) ht.2 (ha m S X G) (zi8 (zab h3)) (zi0 (zab h3)) (ziZ h6) rfl
 |_,_=>AE
mutual
noncomputable def ydS:(a b:PV)->Pr (a=b)
 |.non,.non=>ok rfl
 |.bl a,.bl b=>an (ask (a=b)) λh=>ok (by rw[h])
 |.int a,.int b=>an (ask (a=b)) λh=>ok (by rw[h])
 |.str a,.str b=>an (ask (a=b)) λh=>ok (by rw[h])
 |.tp k a,.tp j b=>an (ask (k=j)) λh=>an (ybM a b) λg=>ok (by rw[h,g])
 |.lst a,.lst b=>an (ybM a b) λg=>ok (by rw[g])
 |_,_=>AE
noncomputable def ybM:(a b:List PV)->Pr (a=b)
 |[],[]=>ok rfl
 |a::x,b::y=>an (ydS a b) λh=>an (ybM x y) λg=>ok (by rw[h,g])
 |_,_=>AE
end
def eqD:(a b:List (AS×PV))->Pr (a=b)
 |[],[]=>ok rfl
 |(k,a)::x,(j,b)::y=>an (ask (k=j)) λe=>an (ydS a b) λh=>an (eqD x y) λg=>ok (by rw[e,h,g])
 |_,_=>AE
def yfd(v:PV)(e:AM):Pr (YE γ κ e (.cst v)):=
 match e with
 |.Name x _=>match h:γ.g x with
  |some (.cst u)=>an (ask (glB κ x=AC)) λhg=>an (ydS u v) λhv=>ok λm S X G=>by
   subst hv;rcases G.glo.C x u h with q|⟨i,rfl,q⟩
   .exact ziJ (zm G hg) q (zi0 (zab hg))
   .exact zhi (zm G hg) q (zi0 (zab hg))
  |some (.fn i)=>match v with
   |.fnc j=>an (ask (glB κ x=AC/\γ.fv x i=AC/\i=j)) λhg=>ok λm S X G=>by
    let⟨h1,h2,rfl⟩:=hg;exact zc1 (zm G h1) (G.glo.V x i h h2) (λB φ H=>by erw[yc]) (zi0 (zab h1))
   |_=>AE
  |_=>AE
 |e=>yeD v e
def zjw{pos:Bf}{env:BF}{b:AM}(h:nst b=AC):((backTo pos (starEach [b] env)).all (λx=>!x.1)&&(backToKw pos (keywordEach [] env)).all (λx=>x.1.isSome)&&decide (([b]:List AM).length+([]:List CG).length+(if ([]:List CG).isEmpty then 0 else 1)<30))=true:=by
 rw[ziZ h];rfl
def yfi(k:Mth)(F:Fs γ κ ces)(e:AM)(fa:∀x,Pr (YE γ κ x ca)):Pr (YE γ κ e (.mth k ca ces)):=
 match k,e,F with
 |.append,.Call (.Attribute a n ap) [b] [] pos,.cons fb .nil=>an (ask (n="append"/\nca a=AC/\nst b=AC/\(ap.endLine==pos.line)=AC)) λh=>an (fa a) λha=>an (fb b) λhb=>ok λm S X G=>by
  let⟨rfl,h1,h2,h3⟩:=h;exact zdK (ha m S X G) (hb m S X G) (ziZ h2) (zje h1) h3 (zjw h2)
 |.get,.Call (.Attribute a n ap) [b,c] [] pos,.cons fb (.cons fc .nil)=>an (ask (n="get"/\nca a=AC/\nst b=AC/\nst c=AC/\(ap.endLine==pos.line)=AC)) λh=>an (fa a) λha=>an (fb b) λhb=>an (fc c) λhc=>ok λm S X G=>by
  let⟨rfl,h1,h2,h4,h3⟩:=h;exact zgJ (zfm G.room) (ha m S X G) (hb m S X G) (hc m S X G) ⟨zje h1,by rw[ziZ h2,ziZ h4];rfl,h3,by rw[ziZ h2,ziZ h4];rfl⟩
 |_,_,_=>AE
end
structure Ev(γ:Gs)(c:Ce) where
 e:∀κ x,Pr (YE γ κ x c)
 t:∀κ x,Pr (YT γ κ x c)
 w:∀κ op l pos,Pr (YW γ κ (.BoolOp op l pos) c)
section
variable {γ:Gs}{ca cb cc:Ce}
def w1{c:Ce}(t:∀κ x,Pr (YT γ κ x c))(κ:Kx)(op:Ga)(l:List AM)(pos:Bf):Pr (YW γ κ (.BoolOp op l pos) c):=
 match op,l with
 |.And,[a]=>an (t κ a) λh=>ok λm S X G=>zga (h m S X G)
 |.Or,[a]=>an (t κ a) λh=>ok λm S X G=>zin (h m S X G)
 |_,_=>AE
def plT{c:Ce}(e:∀κ x,Pr (YE γ κ x c))(κ:Kx)(x:AM):Pr (YT γ κ x c):=an (ask (nte x=AC)) λh=>an (e κ x) λhe=>ok λm S X G=>zhp (he m S X G) (itr h)
def plain{c:Ce}(e:∀κ x,Pr (YE γ κ x c)):Ev γ c:=⟨e,plT e,w1 (plT e)⟩
def ybp{c:Ce}(e:∀κ x,Pr (YE γ κ x c))(t:∀κ x,Pr (YT γ κ x c)):Ev γ c:=⟨e,t,w1 t⟩
def yfC(A:Ev γ ca)(κ:Kx)(e:AM):Pr (YT γ κ e (.not ca)):=
 match e with
 |.UnaryOp .Not a _=>an (A.t κ a) λh=>ok λm S X G=>zhL (h m S X G)
 |_=>AE
def yfo(A:Ev γ ca)(B:Ev γ cb)(κ:Kx)(e:AM):Pr (YE γ κ e (.and ca cb)):=
 match e with
 |.BoolOp .And (a::b::[]) _=>an (A.e κ a) λha=>an (B.e κ b) λhb=>ok λm S X G=>zff (ha m S X G) (zfg (hb m S X G))
 |.BoolOp .And (a::b::c::r) p=>an (A.e κ a) λha=>an (B.e κ (.BoolOp .And (b::c::r) p)) λhb=>ok λm S X G=>zff (ha m S X G) (hb m S X G)
 |_=>AE
def orE(A:Ev γ ca)(B:Ev γ cb)(κ:Kx)(e:AM):Pr (YE γ κ e (.or ca cb)):=
 match e with
 |.BoolOp .Or (a::b::[]) _=>an (A.e κ a) λha=>an (B.e κ b) λhb=>ok λm S X G=>zgO (ha m S X G) (zfg (hb m S X G))
 |.BoolOp .Or (a::b::c::r) p=>an (A.e κ a) λha=>an (B.e κ (.BoolOp .Or (b::c::r) p)) λhb=>ok λm S X G=>zgO (ha m S X G) (hb m S X G)
 |_=>AE
def ydc(A:Ev γ ca)(B:Ev γ cb)(κ:Kx)(op:Ga)(l:List AM)(pos:Bf):Pr (YW γ κ (.BoolOp op l pos) (.and ca cb)):=
 match op,l with
 |.And,a::b::r=>an (A.t κ a) λha=>an (B.w κ .And (b::r) pos) λhb=>ok λm S X G=>zhU (ha m S X G) (hb m S X G)
 |_,_=>AE
def orW(A:Ev γ ca)(B:Ev γ cb)(κ:Kx)(op:Ga)(l:List AM)(pos:Bf):Pr (YW γ κ (.BoolOp op l pos) (.or ca cb)):=
 match op,l with
 |.Or,a::b::r=>an (A.t κ a) λha=>an (B.w κ .Or (b::r) pos) λhb=>ok λm S X G=>ziz (ha m S X G) (hb m S X G)
 |_,_=>AE
def ptW{c:Ce}(w:∀κ op l pos,Pr (YW γ κ (.BoolOp op l pos) c))(κ:Kx)(e:AM):Pr (YT γ κ e c):=
 match e with
 |.BoolOp op l p=>an (w κ op l p) λh=>ok λm S X G=>PW.pt (h m S X G)
 |_=>AE
def yeq{c:Ce}(t:∀κ x,Pr (YT γ κ x c))(w:∀κ op l pos,Pr (YW γ κ (.BoolOp op l pos) c))(κ:Kx)(op:Ga)(l:List AM)(pos:Bf):Pr (YW γ κ (.BoolOp op l pos) c):=
 match l with
 |[a]=>w1 t κ op [a] pos
 |l=>w κ op l pos
def ydh(A:Ev γ ca)(B:Ev γ cb):Ev γ (.and ca cb):=⟨yfo A B,ptW (ydc A B),yeq (ptW (ydc A B)) (ydc A B)⟩
def yf3(A:Ev γ ca)(B:Ev γ cb):Ev γ (.or ca cb):=⟨orE A B,ptW (orW A B),yeq (ptW (orW A B)) (orW A B)⟩
end
abbrev YI(γ:Gs)(κ:Kx)(tg l:AM)(c:Cit):Prop:=∀m S X,Good γ κ m S X->PI X tg l (tI S X c)
abbrev YG(γ:Gs)(κ:Kx)(tg:AM)(c:Tg):Prop:=∀m S X,Good γ κ m S X->PG X tg (tG S X c)
section
variable {γ:Gs}{κ:Kx}{ca cb cc ce:Ce}{ci:Cit}
def yfM(e:∀x,Pr (YE γ κ x ca))(tg l:AM):Pr (YI γ κ tg l (.seq ca)):=an (e l) λh=>ok λm S X G=>zhl (h m S X G)
def iR1(fa:∀x,Pr (YE γ κ x ca))(tg l:AM):Pr (YI γ κ tg l (.range1 ca)):=
 match l with
 |.Call (.Name x _) [a] [] _=>an (ask (x="range"/\glB κ x=AC/\γ.b x=AC/\nst a=AC)) λh=>an (fa a) λha=>ok λm S X G=>by
  let⟨rfl,h1,h2,h3⟩:=h;exact zdD (zm G h1) (G.glo.B _ h2) (ha m S X G) (ziZ h3)
 |_=>AE
def ydf(fa:∀x,Pr (YE γ κ x ca))(tg l:AM):Pr (YI γ κ tg l (.enum ca)):=
 match tg,l with
 |.Tuple _ _ _,.Call (.Name x _) [a] [] _=>an (ask (x="enumerate"/\glB κ x=AC/\γ.b x=AC/\nst a=AC)) λh=>an (fa a) λha=>ok λm S X G=>by
  let⟨rfl,h1,h2,h3⟩:=h;exact zf7 (zm G h1) (G.glo.B _ h2) (ha m S X G) (ziZ h3)
 |_,_=>AE
def gNm(κ:Kx):(l:List Nat)->(es:List AM)->Pr (∀m S X,Good γ κ m S X->PGs X es (gNs l)/\(assignEach es X.env).length=l.length/\(assignEach es X.env).findIdx? (·.1)=AE)
 |[],[]=>ok λ_ _ _ _=>⟨zfX,rfl,rfl⟩
 |i::l,.Name x _::es=>an (ask (setB κ i x=AC)) λh=>an (gNm κ l es) λhr=>ok λm S X G=>by
  have s:=zy G h;let⟨h1,h2,h3⟩:=hr m S X G;refine⟨zeM s.d s.i s.l h1 s.f,?_,?_⟩
  .simp only[assignEach,Ag,h2]
  .simp only[assignEach,List.findIdx?_cons,h3];rfl
 |_,_=>AE
def mTg(ct:Tg)(tg:AM):Pr (YG γ κ tg ct):=
 match ct,tg with
 |.n i,.Name x _=>an (ask (setB κ i x=AC)) λh=>ok λm S X G=>let s:=zy G h;zf4 s.d s.i s.l s.f
 |.t l,.Tuple es _ _=>hf κ λhκ=>an (gNm κ l es) λh=>ok λm S X G=>zgF (G.calm hκ) (h m S X G).1 (h m S X G).2.1 (h m S X G).2.2
 |_,_=>AE
def tgN:AM->List AS
 |.Name x _=>[x]
 |.Tuple es _ _=>es.filterMap fun
  |.Name x _=>AA x
  |_=>AE
 |_=>[]
def yaO(N:List AS)(sl:List (Option Nat))(tg:AM):List Str:=tgN tg++(sl.drop (tgN tg).length).filterMap λo=>o.bind λj=>N[j]?
def yaD(sc so:BH):Scope:={sc with names:=sc.names.map λ(n,k)=>if (k==CM&&so.kind==.function&&so.names.lookup n==AA .cell)then(n,Ek)else(n,k)}
def yZ(N:List AS)(so sc:BH)(NC:List AS)(sl:List (Option Nat)):Bool:=
 decide (sc.kind=.function)&&(sc.names.all λy=>y.2 != .local || decide (sc.names.lookup y.1=AA .local))&&(sc.names.all λy=>y.2 != .cell)&&(sc.names.all λy=>y.2 != .free || decide (so.names.lookup y.1=AA .cell)) &&
  ((NC.zip sl).all λp=>p.2.all λj=>decide (N[j]?=AA p.1/\sc.names.lookup p.1=AA .free))&&decide (sl.length=NC.length)
def zaQ{X:Cx}{sc:BH}{NC:List AS}{sl:List (Option Nat)}(h:yZ X.N X.env.scope sc NC sl=AC):yG X sc NC sl:=by
 erw[yZ,AJ,decide_eq_true_eq,B3,DF,bne_iff_ne,ne_eq]at h;let⟨⟨⟨⟨⟨h1,h2⟩,h3⟩,h4⟩,h5⟩,h6⟩:=h;exact zjr _ _ rfl rfl h1 (λy hy e=>(h2 y hy).resolve_left λz=>z e) h3 (λy hy e=>(h4 y hy).resolve_left λz=>z e) (λp hp=>by simpa using h5 p hp) h6
theorem Good.comp{m:Nat}{S:Se}{X:Cx}(G:Good γ κ m S X)(sc:BH)(NC:List AS)(j:CI):Good γ ⟨NC,yaD sc κ.sc,AG,κ.h⟩ m S (cxC X sc NC j):=by
 refine⟨rfl,?_,G.calm,G.room,G.hd,(λh=>nomatch h),(λh=>nomatch h),⟨G.glo.F,G.glo.Q,G.glo.C,G.glo.D,G.glo.E,G.glo.N,G.glo.B,G.glo.T,G.glo.A,G.glo.M,λy D h=>let ⟨fa,fdd,ps,M,d⟩:=G.glo.K y D h;⟨fa,fdd,ps,⟨M.F,M.kp,M.b⟩,d⟩,G.glo.V,G.glo.I,G.glo.L,G.glo.H,G.glo.Z⟩⟩;show relabel sc X.env=_;rw[<-G.sc];rfl
def yfK(c:Ce)(f:∀x,Pr (YT γ κ x c))(ifs:List AM):Pr (∀m S X,Good γ κ m S X->PTs X ifs (tT0 S X.K c)):=
 match ifs with
 |[]=>match c with
  |.cst (.bl AC)=>ok λ_ _ _ _=>zej
  |_=>AE
 |[a]=>an (f a) λh=>ok λm S X G=>zfJ rfl (h m S X G)
 |_=>AE
structure yb2(γ:Gs)(κ:Kx)(sl:List (Option Nat))(ct:Tg)(ci:Cit)(cc ce:Ce)(elt tg it:AM)(ifs:List AM)(sc:BH):Prop where
 q:∀m S X,Good γ κ m S X->∃NC,yG X sc NC sl/\PI X tg it (tI S X ci)/\(∀j,PG (cxC X sc NC j) tg (tG0 S X.K ct))/\(∀j,PTs (cxC X sc NC j) ifs (tT0 S X.K cc))/\∀j,PE (cxC X sc NC j) elt (tE0 S X.K ce)
 f:yJ ct sl=AC
 s:nse it=AC
def mCo(sl:List (Option Nat))(ct:Tg)(fi:∀tg l,Pr (YI γ κ tg l ci))(C:Ev γ cc)(E:Ev γ ce)(elt tg it:AM)(ifs:List AM)(sc:BH):Pr (yb2 γ κ sl ct ci cc ce elt tg it ifs sc):=
 an (ask (yZ κ.N κ.sc sc (yaO κ.N sl tg) sl=AC/\yJ ct sl=AC/\nse it=AC)) λh=>an (fi tg it) λhi=>an (mTg (γ:=γ) (κ:=⟨yaO κ.N sl tg,yaD sc κ.sc,AG,κ.h⟩) ct tg) λhg=>
  an (yfK (γ:=γ) (κ:=⟨yaO κ.N sl tg,yaD sc κ.sc,AG,κ.h⟩) cc (C.t _) ifs) λht=>an (E.e ⟨yaO κ.N sl tg,yaD sc κ.sc,AG,κ.h⟩ elt) λhe=>ok ⟨λm S X G=>⟨yaO κ.N sl tg,by
   rw[<-G.n,<-G.sc]at h;rw[<-G.n];exact zaQ h.1,hi m S X G,λj=>zcW rfl (hg m S _ (G.comp sc _ j)),λj=>ht m S _ (G.comp sc _ j),λj=>zdf rfl (he m S _ (G.comp sc _ j))⟩,h.2.1,h.2.2⟩
def ydM(sl:List (Option Nat))(ct:Tg)(fi:∀tg l,Pr (YI γ κ tg l ci))(C:Ev γ cc)(E:Ev γ ce)(e:AM):Pr (YE γ κ e (.comp sl ct ci cc ce)):=
 match e with
 |.ListComp elt [⟨tg,it,ifs,0⟩] sc _=>hf κ λhκ=>an (mCo sl ct fi C E elt tg it ifs sc) λh=>ok λm S X G=>by
  let⟨NC,h1,h2,h3,h4,h5⟩:=h.q m S X G;exact zfT (G.calm hκ) h1 h.f h2 h3 h4 h5 (fse h.s)
 |_=>AE
def yeI(sl:List (Option Nat))(ct:Tg)(fa:∀x,Pr (YE γ κ x ca))(E:Ev γ ce)(e:AM):Pr (YE γ κ e (.cml sl ct ca ce)):=
 match e with
 |.ListComp elt [⟨tg,it,[],0⟩] sc _=>hf κ λhκ=>an (ask (yZ κ.N κ.sc sc (yaO κ.N sl tg) sl=AC/\yJ ct sl=AC/\nse it=AC)) λh=>an (fa it) λhi=>an (mTg (γ:=γ) (κ:=⟨yaO κ.N sl tg,yaD sc κ.sc,AG,κ.h⟩) ct tg) λhg=>
  an (E.e ⟨yaO κ.N sl tg,yaD sc κ.sc,AG,κ.h⟩ elt) λhe=>ok λm S X G=>zh3 (NC:=yaO κ.N sl tg) (G.calm hκ) (by rw[<-G.n,<-G.sc]at h;rw[<-G.n];exact zaQ h.1) h.2.1 (hi m S X G) (λj=>zcW rfl (hg m S _ (G.comp sc _ j))) (λj=>zdf rfl (he m S _ (G.comp sc _ j))) (fse h.2.2)
 |_=>AE
end
section
variable {γ:Gs}{κ:Kx}
def yfA(i:Nat)(e:AM):Pr (YE γ κ e (.dfl i)):=
 match e with
 |.Call (.Name x _) [.ListComp (.Tuple [.Name k1 _,.Subscript (.Name d1 _) (.Name k2 _) _] _ _) [⟨.Name k p1,.Name d _,[.Compare (.Subscript (.Name d2 _) (.Name k3 _) _) [.NotEq] [.Constant (.int z) _ _] _],0⟩] sc _] [] _=>
  hf κ λhκ=>an (ask (x="dict"/\glB κ x=AC/\γ.b x=AC)) λh=>an (ask (k1=k/\d1=d/\k2=k/\d2=d/\k3=k/\z=0)) λhn=>
  an (ask (yZ κ.N κ.sc sc (yaO κ.N [AE,AA i] (.Name k p1)) [AE,AA i]=AC/\κ.N[i]?=AA d/\ycc κ.sc d=AC/\pln d=AC/\pln k=AC)) λhc=>
  an (ask ((yaO κ.N [AE,AA i] (.Name k p1))[0]?=AA k/\(yaO κ.N [AE,AA i] (.Name k p1))[1]?=AA d/\ycc (yaD sc κ.sc) k=AC/\ycc (yaD sc κ.sc) d=AC/\setB ⟨yaO κ.N [AE,AA i] (.Name k p1),yaD sc κ.sc,AG,κ.h⟩ 0 k=AC)) λhv=>ok λm S X G=>by
   let⟨rfl,h1,h3⟩:=h;let⟨rfl,rfl,rfl,rfl,rfl,rfl⟩:=hn;let⟨c1,c2,c3,c4,c5⟩:=hc;let⟨v1,v2,v3,v4,v5⟩:=hv;have GC:=λj=>G.comp sc (yaO κ.N [AE,AA i] (.Name k3 p1)) j;exact zhX (NC:=yaO κ.N [AE,AA i] (.Name k3 p1)) (zd0 G.room) (G.calm hκ) (zm G h1) (G.glo.B _ h3) (by rw[<-G.n,<-G.sc]at c1;rw[<-G.n];exact zaQ c1)
    (zb8 (by rw[G.n];exact c2) (by rw[G.sc];exact zba c3) (zi0 c4) (zi3 c4))
    (λj=>let s:=zy (GC j) v5;zbU s.d s.i s.l s.f)
    (λj q=>zb8 (by rw[(GC j).n];exact v1) (by rw[(GC j).sc];exact zba v3) (zi0 c5) (zi3 c5))
    (λj q=>zb8 (by rw[(GC j).n];exact v2) (by rw[(GC j).sc];exact zba v4) (zi0 c4) (zi3 c4))
 |_=>AE
end
section
variable {γ:Gs}{κ:Kx}
def mPp:(kvs:List (AS×Int))->(ks:List (Option AM))->(vs:List AM)->Pr (∀X pos,PPs X pos ks vs (trC kvs))
 |[],[],[]=>ok λ_ _=>zhx
 |(x,i)::r,AA (.Constant (.str y) _ _)::ks,.Constant (.int j) _ _::vs=>an (ask (y=x/\j=i)) λh=>an (mPp r ks vs) λhr=>ok λX pos=>by
  let⟨rfl,rfl⟩:=h;exact zfq (hr X pos)
 |_,_,_=>AE
def ydG(kvs:List (AS×Int))(e:AM):Pr (YE γ κ e (.newd kvs)):=
 match e with
 |.Dict ks vs pos=>an (mPp kvs ks vs) λh=>an (ask (ks.all (·.isSome)=AC/\ks.length=vs.length/\ks.length≠0/\ks.length<=15)) λq=>ok λm S X G=>zfA (h X pos) q.1 q.2.1 (λz=>q.2.2.1 (by rw[z];rfl)) q.2.2.2
 |_=>AE
end
mutual
noncomputable def ch(γ:Gs):(c:Ce)->Ev γ c
 |.cst v=>plain λκ x=>yfd v x
 |.var i=>plain λκ x=>yfc i x
 |.bin o a b=>plain λκ x=>yft o x ((ch γ a).e κ) ((ch γ b).e κ)
 |.neg a=>plain λκ x=>yf0 x ((ch γ a).e κ)
 |.not a=>ybp (λκ x=>yf1 x ((ch γ a).e κ)) (yfC (ch γ a))
 |.and a b=>ydh (ch γ a) (ch γ b)
 |.or a b=>yf3 (ch γ a) (ch γ b)
 |.cmp o a b=>ybp (λκ x=>yeA o x ((ch γ a).e κ) ((ch γ b).e κ)) (λκ x=>ydn o x ((ch γ a).e κ) ((ch γ b).e κ))
 |.chain o p a b c=>ybp (λκ x=>yf5 o p x ((ch γ a).e κ) ((ch γ b).e κ) ((ch γ c).e κ)) (λκ x=>ydI o p x ((ch γ a).e κ) ((ch γ b).e κ) ((ch γ c).e κ))
 |.ite c a b=>plain λκ x=>yfu x ((ch γ c).t κ) ((ch γ a).e κ) ((ch γ b).e κ)
 |.tup es=>plain λκ x=>yeM x (yaV (chs γ es κ))
 |.lst es=>plain λκ x=>ye1 x (yaV (chs γ es κ))
 |.newl es=>plain λκ x=>ydO x (yaV (chs γ es κ))
 |.newd kvs=>plain λκ x=>ydG kvs x
 |.dict0 t=>plain λκ x=>ydp t x
 |.srt a=>plain λκ x=>yeH x ((ch γ a).e κ)
 |.dfl i=>plain λκ x=>yfA i x
 |.dne a b=>ybp (λ_ _=>AE) (λκ x=>ydm x ((ch γ a).e κ) ((ch γ b).e κ))
 |.idx a i=>plain λκ x=>mIdx x ((ch γ a).e κ) ((ch γ i).e κ)
 |.slc a l h=>plain λκ x=>yeF x ((ch γ a).e κ) (λo=>ydZ l o ((ch γ l).e κ)) (λo=>ydZ h o ((ch γ h).e κ))
 |.call f es=>plain λκ x=>hf κ λh=>yfB h f (chs γ es κ) x
 |.blt b es=>plain λκ x=>ye3 b (chs γ es κ) x
 |.mth k o es=>plain λκ x=>yfi k (chs γ es κ) x ((ch γ o).e κ)
 |.isi a ts=>plain λκ x=>yfw ts x ((ch γ a).e κ)
 |.comp sl tg it c e=>plain λκ x=>ydM sl tg (chi γ it κ) (ch γ c) (ch γ e) x
 |.cml sl tg i e=>plain λκ x=>yeI sl tg ((ch γ i).e κ) (ch γ e) x
 |.nope=>plain λκ x=>ok λ_ _ _ _=>zfx
noncomputable def chs(γ:Gs):(cs:Ces)->(κ:Kx)->Fs γ κ cs
 |.nil,_=>.nil
 |.cons c cs,κ=>.cons (λx=>(ch γ c).e κ x) (chs γ cs κ)
noncomputable def chi(γ:Gs):(c:Cit)->(κ:Kx)->∀tg l,Pr (YI γ κ tg l c)
 |.seq a,κ=>yfM ((ch γ a).e κ)
 |.range1 a,κ=>iR1 ((ch γ a).e κ)
 |.enum a,κ=>ydf ((ch γ a).e κ)
 |_,_=>λ_ _=>AE
end
section
variable {γ:Gs}{κ:Kx}{ca cb cc ce:Ce}{ci:Cit}{ct:Tg}{cs cs':Css}{ces:Ces}
def swB(so:BH)(x:AS)(px pos:Bf)(sc:BH):Bool:=(if so.kind.isAnnotationScope then D3 else so.kind)==.function&&so.names.lookup x==AA .local&&px.line==pos.line&&!(sc.names.any λ(n,k)=>n==x&&(k==.local || k==.cell))
def zjx{elt:AM}{gs:List Comprehension}{sc:BH}{pos px:Bf}{x:AS}{l:Nat}{env:BF}:swapsWith (.ListComp elt gs sc pos) (AA (.Name x px)) l env=pure (swB env.scope x px pos sc):=rfl
def ydy(f:∀x,Pr (YE γ κ x ca))(s:Bd):Pr (YS γ κ s (.expr ca)):=
 match s with
 |.Expr a _=>an (ask (nco a=AC)) λhs=>an (f a) λh=>ok λm S X G=>zfZ (h m S X G) (swp hs)
 |_=>AE
def yfQ(i:Nat)(f:∀x,Pr (YE γ κ x ca))(s:Bd):Pr (YS γ κ s (.asg (.n i) ca)):=
 match s with
 |.Assign [.Name x _] a _=>an (ask (nco a=AC/\setB κ i x=AC)) λhs=>an (f a) λh=>ok λm S X G=>let q:=zy G hs.2;zhC q.d q.i q.l (h m S X G) (swp hs.1) q.f
 |_=>AE
def ydq(i:Nat)(sl:List (Option Nat))(ct:Tg)(fi:∀tg l,Pr (YI γ κ tg l ci))(C:Ev γ cc)(E:Ev γ ce)(s:Bd):Pr (YS γ κ s (.asg (.n i) (.comp sl ct ci cc ce))):=
 match s with
 |.Assign [.Name x px] (.ListComp elt [⟨tg,it,ifs,0⟩] sc p) _=>hf κ λhκ=>an (ask (setB κ i x=AC/\swB κ.sc x px p sc=AC)) λhs=>an (mCo sl ct fi C E elt tg it ifs sc) λh=>ok λm S X G=>by
  let⟨NC,h1,h2,h3,h4,h5⟩:=h.q m S X G;have q:=zy G hs.1;exact zgs q.d q.i q.l (G.calm hκ) h1 h.f h2 h3 h4 h5 (by rw[zjx,G.sc,hs.2]) (fse h.s) q.f
 |_=>AE
def zjf{a:AM}(h:nst a=AC):(match (generalizing:=false) a with | .Starred _ _=>AC|_=>AG)=false:=by
 revert h;cases a<;>intro h<;>first|rfl|cases h
def swD(so:BH)(x y:AS)(px py:Bf)(a b:AM):Bool:=(if so.kind.isAnnotationScope then D3 else so.kind)==.function&&so.names.lookup x==AA .local&&so.names.lookup y==AA .local&&py.line==px.line&&nst a&&nst b&&!(x==y)&&!(foldedForSure 8 a&&foldedForSure 8 b)&&!(constantsAlone 8 a&&constantsAlone 8 b)
def zjy{x y:AS}{px py pt pt2:Bf}{kt k2:Nat}{a b:AM}{env:BF}(h:swD env.scope x y px py a b=AC):
  swappedStores [.Tuple [.Name x px,.Name y py] kt pt] (.Tuple [a,b] k2 pt2) env=pure (AA [x,y]):=by
 erw[swD,AJ,B9]at h;let⟨⟨⟨⟨⟨⟨⟨⟨h1,h2⟩,h3⟩,h4⟩,h5⟩,h6⟩,h7⟩,h8⟩,h9⟩:=h;have k1:(env.blockKind != .function)=false:=by
  show (!((if env.scope.kind.isAnnotationScope then D3 else env.scope.kind)==.function))=AG;rw[h1];rfl
 have k2:env.kindOf x=AA .local:=eq_of_beq h2;have k3:env.kindOf y=AA .local:=eq_of_beq h3;have k4:py.line=px.line:=eq_of_beq h4;have k7:¬y=x:=λz=>by subst z;simp at h7
 have m1:=zjf h5;have m2:=zjf h6;have c8:¬(foldedForSure 8 a=AC/\foldedForSure 8 b=AC):=λz=>by rw[z.1,z.2]at h8;cases h8
 have c9:¬(constantsAlone 8 a=AC/\constantsAlone 8 b=AC):=λz=>by rw[z.1,z.2]at h9;cases h9
 have x1:(Expr.Name x px).pos=px:=rfl;have x2:(Expr.Name y py).pos=py:=rfl;unfold swappedStores;simp[k1,m1,m2,k2,k3,k4,List.eraseDups_cons,k7,x1,x2,c8,c9,CB];intro z;exfalso;rcases z with z|z
 .exact AT (m1.symm.trans z)
 .exact AT (m2.symm.trans z)
def yfI(i j:Nat)(fa:∀x,Pr (YE γ κ x ca))(fb:∀x,Pr (YE γ κ x cb))(s:Bd):Pr (YS γ κ s (.asg (.t [i,j]) (.tup (.cons ca (.cons cb .nil))))):=
 match s with
 |.Assign [.Tuple [.Name x px,.Name y py] _ _] (.Tuple [a,b] _ _) _=>hf κ λhκ=>an (ask (setB κ i x=AC/\setB κ j y=AC/\i≠j/\swD κ.sc x y px py a b=AC)) λh=>an (fa a) λha=>an (fb b) λhb=>ok λm S X G=>by
  let⟨h1,h2,h3,h4⟩:=h;have q:=zy G h1;have r:=zy G h2;have h5:=h4;erw[swD,AJ]at h5;have e1:X.env.scope.names.lookup x=AA .local:=by rw[G.sc];exact eq_of_beq h5.1.1.1.1.1.1.1.2
  have e2:X.env.scope.names.lookup y=AA .local:=by rw[G.sc];exact eq_of_beq h5.1.1.1.1.1.1.2
  exact zhQ (G.calm hκ) q.d q.i r.i h3 (zg9 (G.calm hκ) q.d q.i r.i h3 e1 e2 (zaR (ha m S X G) (zaR (hb m S X G) zdl (ziZ h5.1.1.1.2)) (ziZ h5.1.1.1.1.2)) (zjy (by rw[G.sc];exact h4)))
 |_=>AE
theorem sw0{es:List AM}{k:Nat}{p:Bf}{a:AM}{env:BF}(h:ntu a=AC):swappedStores [.Tuple es k p] a env=pure none:=by
 cases a<;>first|rfl|cases h
theorem sw1{b c:AM}{p:Bf}{a:AM}{env:BF}:swappedStores [.Subscript b c p] a env=pure none:=by
 cases a<;>rfl
def zjg{t a:AM}{l:Nat}{env:BF}(h:nco a=AC):swapsWithSole [t] a l env=pure false:=by
 show swapsWith a (AA t) l env=_;exact swp h
theorem asS{b c:AM}{pos:Bf}{env:BF}(h:nsl c=AC):∀v,assign (.Subscript b c pos) env v=(do
   let ov <-holding [v] (eval b env)
   let iv <-holding [v,ov] (eval c env)
   standAt pos
   holding [v,ov,iv] (setItem ov iv v)
   release [v,ov,iv] []):=by
 cases c<;>first|exact λ_=>rfl|cases h
def yeE(l:List Nat)(f:∀x,Pr (YE γ κ x ca))(s:Bd):Pr (YS γ κ s (.asg (.t l) ca)):=
 match s with
 |.Assign [.Tuple es k p] a _=>an (ask (nco a=AC/\ntu a=AC)) λhs=>an (mTg (γ:=γ) (κ:=κ) (.t l) (.Tuple es k p)) λhg=>an (f a) λh=>ok λm S X G=>zgj (h m S X G) (hg m S X G) (zjg hs.1) (sw0 hs.2)
 |_=>AE
def yfP(f:∀x,Pr (YE γ κ x cc))(fo:∀x,Pr (YE γ κ x ca))(fi:∀x,Pr (YE γ κ x cb))(s:Bd):Pr (YS γ κ s (.six ca cb cc)):=
 match s with
 |.Assign [.Subscript b c _] a _=>an (ask (nco a=AC/\nsl c=AC)) λhs=>an (f a) λh=>an (fo b) λho=>an (fi c) λhi=>ok λm S X G=>zhs (h m S X G) (ho m S X G) (hi m S X G) (zjg hs.1) sw1 (ze2 (ho m S X G) (hi m S X G) zcp (asS hs.2))
 |_=>AE
def ydN(f:∀x,Pr (YE γ κ x cc))(fo:∀x,Pr (YE γ κ x ca))(fi:∀x,Pr (YE γ κ x cb))(s:Bd):Pr (YS γ κ s (.dput ca cb cc)):=
 match s with
 |.Assign [.Subscript b c _] a _=>an (ask (nco a=AC)) λhs=>an (f a) λh=>an (fo b) λho=>an (fi c) λhi=>ok λm S X G=>zgl (zfm G.room) (ho m S X G) (hi m S X G) (h m S X G) (swp hs)
 |_=>AE
def yfa(op:Dn)(o:BOp):Pr (∀S X,PIp X op (rT2 S X (ya3 o))):=
 match op,o with
 |.Add,.add=>ok λ_ _=>zfR
 |_,_=>AE
def yeO(i:Nat)(o:BOp)(f:∀x,Pr (YE γ κ x ca))(s:Bd):Pr (YS γ κ s (.aug i o ca)):=
 match s with
 |.AugAssign (.Name x _) op a _=>an (ask (setB κ i x=AC)) λh=>an (yfa op o) λhp=>an (f a) λha=>ok λm S X G=>let q:=zy G h;zhO q.d q.i q.l (ha m S X G) (hp S X) q.f (zi0 q.p) (zi3 q.p)
 |_=>AE
def yeN(c:Ce)(f:∀x,Pr (YE γ κ x c))(s:Bd):Pr (YS γ κ s (.ret c)):=
 match s with
 |.Return (AA a) _=>an (f a) λh=>ok λm S X G=>zgE (h m S X G)
 |.Return AE _=>match c with
  |.cst .non=>ok λ_ _ _ _=>zf3
  |_=>AE
 |_=>AE
def sIf(fc:∀x,Pr (YT γ κ x cc))(fa:∀x,Pr (YSs γ κ x cs))(fb:∀x,Pr (YSs γ κ x cs'))(s:Bd):Pr (YS γ κ s (.ite cc cs cs')):=
 match s with
 |.If c a b _=>an (fc c) λhc=>an (fa a) λha=>an (fb b) λhb=>ok λm S X G=>ziG (hc m S X G) (ha m S X G) (hb m S X G)
 |_=>AE
def yeZ(ct:Tg)(fi:∀tg l,Pr (YI γ κ tg l ci))(fb:∀x,Pr (YSs γ κ x cs))(s:Bd):Pr (YS γ κ s (.for ct ci cs)):=
 match s with
 |.For tg l b [] _=>hf κ λhκ=>an (ask (κ.own=AC/\nse l=AC)) λho=>an (fi tg l) λhi=>an (mTg (γ:=γ) (κ:=κ) ct tg) λhg=>an (fb b) λhb=>ok λm S X G=>zhg (G.own ho.1).1 (G.calm hκ) (hi m S X G) (hg m S X G) (hb m S X G) (fse ho.2)
 |_=>AE
def sWh(fc:∀x,Pr (YT γ κ x cc))(fb:∀x,Pr (YSs γ κ x cs))(s:Bd):Pr (YS γ κ s (.while cc cs)):=
 match s with
 |.While c b [] _=>an (ask (κ.own=AC)) λho=>an (fc c) λhc=>an (fb b) λhb=>ok λm S X G=>zeG (G.own ho).1 (hc m S X G) (hb m S X G)
 |_=>AE
end
mutual
noncomputable def chS(γ:Gs):(c:Cs)->(κ:Kx)->∀s,Pr (YS γ κ s c)
 |.expr e,κ=>ydy ((ch γ e).e κ)
 |.asg (.n i) (.comp sl ct ci cc ce),κ=>ydq i sl ct (chi γ ci κ) (ch γ cc) (ch γ ce)
 |.asg (.n i) c,κ=>yfQ i ((ch γ c).e κ)
 |.asg (.t [i,j]) (.tup (.cons a (.cons b .nil))),κ=>yfI i j ((ch γ a).e κ) ((ch γ b).e κ)
 |.asg (.t l) c,κ=>yeE l ((ch γ c).e κ)
 |.six o i e,κ=>yfP ((ch γ e).e κ) ((ch γ o).e κ) ((ch γ i).e κ)
 |.dput o i e,κ=>ydN ((ch γ e).e κ) ((ch γ o).e κ) ((ch γ i).e κ)
 |.aug i o e,κ=>yeO i o ((ch γ e).e κ)
 |.ret e,κ=>yeN e ((ch γ e).e κ)
 |.ite c a b,κ=>sIf ((ch γ c).t κ) (ybK γ a κ) (ybK γ b κ)
 |.for t it b,κ=>yeZ t (chi γ it κ) (ybK γ b κ)
 |.while c b,κ=>sWh ((ch γ c).t κ) (ybK γ b κ)
 |.nope,_=>λ_=>ok λ_ _ _ _=>zgg
noncomputable def ybK(γ:Gs):(c:Css)->(κ:Kx)->∀s,Pr (YSs γ κ s c)
 |.nil,_,[]=>ok λ_ _ _ _=>zia
 |.cons c cs,κ,s::ss=>an (chS γ c κ s) λh=>an (ybK γ cs κ ss) λhr=>ok λm S X G=>zfE (h m S X G) (hr m S X G)
 |_,_,_=>AE
end
inductive Dk where
 |fn|fd (ds:List Int)|me (c:Nat)|ini (c:Nat)
structure Df where
 gn:AS
 nm:AS
 q:AS
 st:Bd
 N:List AS
 ps:List AS
 fn:IC.Fn
 k:Dk
def scB(N P:List AS)(sc:BH):Bool:=decide (sc.kind=.function)&&!sc.isCoroutine&&!sc.isGenerator&&decide N.Nodup&&decide (N.take P.length=P)&&P.all (yc2 sc)&&sc.names.all λy=>y.2 != .free
def zfa{N P:List AS}{sc:BH}(h:scB N P sc=AC):yac N P sc:=by
 erw[scB,AJ,decide_eq_true_eq,B9,B3,bne_iff_ne,ne_eq]at h;let⟨⟨⟨⟨⟨⟨h1,h2⟩,h3⟩,h4⟩,h5⟩,h6⟩,h7⟩:=h;exact⟨h1,h2,h3,h4,h5,λx hx=>zdO (h6 x hx),h7⟩
def okD(γ:Gs)(d:Df):Bool:=scB d.N d.ps (yg d.st)&&decide (d.ps.length=d.fn.np)&&decide (d.N.length=d.fn.ns)&&(ybK γ d.fn.body ⟨d.N,yg d.st,AC,AG⟩ (yq d.st)).isSome
def ya8{α:Type}(P:α->Prop):List α->Prop
 |[]=>True
 |d::r=>P d/\ya8 P r
theorem ya8.get{α:Type}{P:α->Prop}:∀{l:List α},ya8 P l->∀d∈l,P d
 |_::_,h,d,hd=>by
  rcases A8.1 hd with rfl|hd
  .exact h.1
  .exact h.2.get d hd
def ya1:List AS->(List AD->Prop)->Prop
 |[],P=>P []
 |_::r,P=>∀a,ya1 r λus=>P (a::us)
theorem ya1.get:∀{ps:List AS} {P:List AD->Prop},ya1 ps P->∀us,us.length=ps.length->P us
 |[],P,h,[],_=>h
 |_::r,P,h,a::us,e=>(h a).get us (by simpa using e)
def yaE(d:Df):Prop:=∀(kV doc pm:AD) (an:Option AI) (cdv ct:AD),ya1 d.ps λus=>bindArgs (BL d.nm d.q (yH d.st) (yq d.st) (yg d.st) .none kV doc pm an cdv ct) ⟨us,[]⟩=pure (d.ps.zip us)
structure ybu(K:AF)(d:Df)(dv:AD)(f:AI)(fd:Aj):Prop where
 ex:∃(oc:AD) (od:Option AI) (kV doc pm:AD) (an:Option AI) (cdv ct:AD) (osl:Array (Option AD)),
  fd=BL d.nm d.q (yH d.st) (yq d.st) (yg d.st) dv kV doc pm an cdv ct/\K.lookup f=AA ⟨oc,od,.func fd,osl⟩/\Bj K cdv d.q=AC
 kp:Ae K (.ref f)=AC
def At(K:AF)(cn:Nat->AS)(d:Df)(f:AI):Prop:=
 match d.k with
 |.fn=>Ar K mainGlobals d.gn=AA (AA (.ref f))/\yaE d
 |.fd _=>Ar K mainGlobals d.gn=AA (AA (.ref f))
 |.me c=>yaE d/\∃q,Ar K mainGlobals (cn c)=AA (AA (.ref q))/\Ah K (.ref q) d.nm=AA (AA (.ref f))/\C9 K (.ref f)=AC
 |.ini c=>yaE d/\∃q,Ar K mainGlobals (cn c)=AA (AA (.ref q))/\Ah K (.ref q) d.nm=AA (AA (.ref f))/\C9 K (.ref f)=AC/\ER K q=AC/\Ae K (.ref q)=AC
def DvP(K:AF)(d:Df)(dv:AD):Prop:=
 match d.k with
 |.fd ds=>∃dT o its n,dv=.ref dT/\K.lookup dT=AA o/\o.data=.seq its n/\Vals (ds.map V.int) its.toList
 |_=>dv=.none
def yb7(K:AF)(cn:Nat->AS)(d:Df):Prop:=∃dv f fd,ybu K d dv f fd/\At K cn d f/\DvP K d dv
section
variable {K:AF}{cn:Nat->AS}{gn nm:AS}{st:Bd}{N ps:List AS}{fn:IC.Fn}{f:AI}{oc:AD}{od:Option AI}{kV doc pm:AD}{an:Option AI}{cdv ct:AD}{osl:Array (Option AD)}
theorem rowFn(a:Ar K mainGlobals gn=AA (AA (.ref f)))(l:K.lookup f=AA ⟨oc,od,.func (BL nm nm (yH st) (yq st) (yg st) .none kV doc pm an cdv ct),osl⟩)
  (c:Bj K cdv nm=AC) (p:Ae K (.ref f)=AC) (b:yaE ⟨gn,nm,nm,st,N,ps,fn,.fn⟩):yb7 K cn ⟨gn,nm,nm,st,N,ps,fn,.fn⟩:=
 ⟨.none,f,_,⟨⟨oc,od,kV,doc,pm,an,cdv,ct,osl,rfl,l,c⟩,p⟩,⟨a,b⟩,rfl⟩
theorem rowFd{ds:List Int}{dT:AI}{o:B8}{its:Array AD}{n:Nat}(a:Ar K mainGlobals gn=AA (AA (.ref f)))(l:K.lookup f=AA ⟨oc,od,.func (BL nm nm (yH st) (yq st) (yg st) (.ref dT) kV doc pm an cdv ct),osl⟩)
  (c:Bj K cdv nm=AC) (p:Ae K (.ref f)=AC) (d:K.lookup dT=AA o) (e:o.data=.seq its n) (v:Vals (ds.map V.int) its.toList):yb7 K cn ⟨gn,nm,nm,st,N,ps,fn,.fd ds⟩:=
 ⟨.ref dT,f,_,⟨⟨oc,od,kV,doc,pm,an,cdv,ct,osl,rfl,l,c⟩,p⟩,a,dT,o,its,n,rfl,d,e,v⟩
theorem rowMe{qn:AS}{cc:Nat}{q:AI}(z:Ar K mainGlobals (cn cc)=AA (AA (.ref q)))(a:Ah K (.ref q) nm=AA (AA (.ref f)))(i:C9 K (.ref f)=AC)(l:K.lookup f=AA ⟨oc,od,.func (BL nm qn (yH st) (yq st) (yg st) .none kV doc pm an cdv ct),osl⟩)
  (c:Bj K cdv qn=AC) (p:Ae K (.ref f)=AC) (b:yaE ⟨gn,nm,qn,st,N,ps,fn,.me cc⟩):yb7 K cn ⟨gn,nm,qn,st,N,ps,fn,.me cc⟩:=
 ⟨.none,f,_,⟨⟨oc,od,kV,doc,pm,an,cdv,ct,osl,rfl,l,c⟩,p⟩,⟨b,q,z,a,i⟩,rfl⟩
theorem rowIni{qn:AS}{cc:Nat}{q:AI}(z:Ar K mainGlobals (cn cc)=AA (AA (.ref q)))(a:Ah K (.ref q) nm=AA (AA (.ref f)))(i:C9 K (.ref f)=AC)(l:K.lookup f=AA ⟨oc,od,.func (BL nm qn (yH st) (yq st) (yg st) .none kV doc pm an cdv ct),osl⟩)
  (c:Bj K cdv qn=AC) (p:Ae K (.ref f)=AC) (b:yaE ⟨gn,nm,qn,st,N,ps,fn,.ini cc⟩) (mk:ER K q=AC) (kq:Ae K (.ref q)=AC):yb7 K cn ⟨gn,nm,qn,st,N,ps,fn,.ini cc⟩:=
 ⟨.none,f,_,⟨⟨oc,od,kV,doc,pm,an,cdv,ct,osl,rfl,l,c⟩,p⟩,⟨b,q,z,a,i,mk,kq⟩,rfl⟩
theorem gdf_mk{w:A5}{h:Ak}{mg:AS->Option AD}{x:AS}{D:List (AS×Nat)}{fa:Nat->AI}{y:AI}{es:Array BW}{ep:Nat}(X:K.In h)(G:h.Ns mainGlobals mg)(a:Ar K mainGlobals x=AA (AA (.ref y)))(l:K.lookup y=AA ⟨.type "dict",AE,.dict es ep,#[]⟩)
  (r:ybs w fa D es.toList) (n:(D.map (·.1)).Nodup):GDF K w mg fa x D:=⟨y,es,ep,Di X G a,l,r,n⟩
theorem gd_mk{w:A5}{h:Ak}{mg:AS->Option AD}{x:AS}{D:List (AS×PV)}{cl:Nat->AI}{y:AI}{es:Array BW}{ep:Nat}(X:K.In h)(G:h.Ns mainGlobals mg)(a:Ar K mainGlobals x=AA (AA (.ref y)))(l:K.lookup y=AA ⟨.type "dict",AE,.dict es ep,#[]⟩)
  (s:(y==sysModules)=AG) (r:ybr K cl w D es.toList) (n:(D.map (·.1)).Nodup):GD K w mg cl x D:=⟨y,es,ep,Di X G a,l,s,r,n⟩
end
abbrev KoV(K:AF)(v:PV)(u:AD):Prop:=∃x:V,RelV x u/\∀cl B φ H,yc K cl B φ H v x
abbrev KoL(K:AF)(vs:List PV)(us:List AD):Prop:=∃xs:List V,Vals xs us/\∀cl B φ H,yd K cl B φ H vs xs
mutual
noncomputable def ydo(K:AF):(v:PV)->(u:AD)->Pr (KoV K v u)
 |.int i,.int j t=>an (ask (i=j)) λh=>ok ⟨.int i,⟨t,by rw[h]⟩,λ_ _ _ _=>by erw[yc]⟩
 |.str i,.str j t=>an (ask (i=j)) λh=>ok ⟨.str i,⟨t,by rw[h]⟩,λ_ _ _ _=>by erw[yc]⟩
 |.tp AC vs,.ref a=>match h:K.lookup a with
  |some ⟨c,_,.seq its n,_⟩=>an (ask (c=.type "tuple"/\its.size<=sizeLine)) λq=>an (ycP K vs its.toList) λr=>ok (by
    let⟨xs,r1,r2⟩:=r;refine⟨.ref a,rfl,λcl B φ H=>?_⟩;erw[yc];exact⟨a,xs,rfl,.inr ⟨rfl,_,its,n,h,q.1,rfl,q.2,r1⟩,r2 cl B φ H⟩)
  |_=>AE
 |_,_=>AE
noncomputable def ycP(K:AF):(vs:List PV)->(us:List AD)->Pr (KoL K vs us)
 |[],[]=>ok ⟨[],.nil,λ_ _ _ _=>by erw[yd]⟩
 |v::vs,u::us=>an (ydo K v u) λh=>an (ycP K vs us) λr=>ok (by
   let⟨x,h1,h2⟩:=h;let⟨xs,r1,r2⟩:=r;refine⟨x::xs,.cons h1 r1,λcl B φ H=>?_⟩;erw[yd];exact⟨x,xs,rfl,h2 cl B φ H,r2 cl B φ H⟩)
 |_,_=>AE
end
theorem con_row{K:AF}{cl:Nat->AI}{w:A5}{k:AS}{v:PV}{tk:Go}{u:AD}{D:List (AS×PV)}{es:List BW}(c:(ydo K v u).isSome=AC)(h:ybr K cl w D es):ybr K cl w ((k,v)::D) (⟨D2 w.params k,.str k tk,u⟩ :: es):=by
 let⟨⟨x,r,q⟩,_⟩:=A4.1 c;exact .cons r (q cl) h
theorem frow_cons{w:A5}{fa:Nat->AI}{k:AS}{i:Nat}{tk:Go}{a:AI}{D:List (AS×Nat)}{es:List BW}(e:fa i=a)(h:ybs w fa D es):ybs w fa ((k,i)::D) (⟨D2 w.params k,.str k tk,.ref a⟩ :: es):=by
 subst e;exact .cons h
structure Tb where
 tbl:List Df
 al:List (AS×GK)
 bs:List AS
 ts:List Ty
 fl:List (Nat×AS)
 me:List ((Nat×AS)×Nat)
 kb:List ((Nat×Nat×List AS)×List (Option Int))
 cn:List (Nat×AS)
 dd:List (AS×List (AS×PV))
 ml:List (AS×List (AS×Nat))
 xs:List (Nat×Ty)
 xc:List (Nat×AS)
 xm:List (Nat×AS)
 qh:List AS
abbrev eF(x:AS)(i:Nat):AS×GK:=(x,.fn i)
abbrev eD(x:AS)(i:Nat):AS×GK:=(x,.fnD i)
abbrev eC(x:AS)(v:PV):AS×GK:=(x,.cst v)
abbrev eK(i n:Nat)(ks:List AS)(sh:List (Option Int)):(Nat×Nat×List AS)×List (Option Int):=((i,n,ks),sh)
def tyE:Ty->Ty->Bool
 |.int,.int=>AC
 |.bool,.bool=>AC
 |.str,.str=>AC
 |.tuple,.tuple=>AC
 |.list,.list=>AC
 |_,_=>AG
def zgS{a b:Ty}(h:tyE a b=AC):a=b:=by
 cases a<;>cases b<;>first|rfl|cases h
def tyX:Ty->Ty->Bool
 |.cls a,.cls b=>a==b
 |.val,.val=>AC
 |_,_=>AG
def zgM{a b:Ty}(h:tyX a b=AC):a=b:=by
 cases a<;>cases b<;>first|rfl|(cases h;done)|(rw[eq_of_beq (show _=AC from h)])
def Tb.gs(t:Tb):Gs:=⟨λx=>t.al.lookup x,λx=>t.bs.contains x,λy=>t.ts.any (tyE y),λc f=>t.fl.contains (c,f),λc n=>t.me.lookup (c,n),λi n ks=>t.kb.lookup (i,n,ks),λx=>t.ml.lookup x,λx i=>decide (t.cn.lookup (1000+i)=AA x),λc y=>t.xs.any λp=>p.1==c&&tyX p.2 y,λd x=>t.xc.contains (d,x),λc x=>t.xm.contains (c,x),λi=>match t.tbl[i]? with
 |some d=>t.qh.contains d.gn
 |none=>AG⟩
def nmA(K:AF)(x:AS):Option Addr:=match Ar K mainGlobals x with
 |some (AA (.ref q))=>AA q
 |_=>AE
def clA(K:AF)(t:Tb)(c:Nat):Addr:=((t.cn.lookup c).bind (nmA K)).getD 0
def cnm(t:Tb)(c:Nat):Str:=(t.cn.lookup c).getD ""
def faA(K:AF)(t:Tb)(i:Nat):Addr:=match t.tbl[i]? with
 |some d=>match d.k with
  |.fn=>(nmA K d.gn).getD 0
  |.fd _=>(nmA K d.gn).getD 0
  |.me c=>match Ah K (.ref (clA K t c)) d.nm with
   |some (AA (.ref f))=>f
   |_=>0
  |.ini c=>match Ah K (.ref (clA K t c)) d.nm with
   |some (AA (.ref f))=>f
   |_=>0
 |none=>0
def ybU:Dk->Bool
 |.fn=>AC
 |_=>AG
def yc8:Dk->Bool
 |.fd _=>AC
 |_=>AG
def yeV:PV->Bool
 |.int _=>AC
 |.tp _ _=>AC
 |_=>AG
def alB(K:AF)(t:Tb):AS×GK->Bool
 |(x,.fn i)=>match t.tbl[i]? with
  |some d=>ybU d.k&&(decide (x=d.gn) || decide (nmA K x=nmA K d.gn))
  |none=>AG
 |(x,.fnD i)=>match t.tbl[i]? with
  |some d=>yc8 d.k&&(decide (x=d.gn) || decide (nmA K x=nmA K d.gn))
  |none=>AG
 |(x,.cst v)=>yeV v&&match Ar K mainGlobals x with
  |some (AA u)=>(ydo K v u).isSome
  |_=>AG
 |(x,.dct d)=>t.dd.any λp=>decide (p.1=x)&&(eqD p.2 d).isSome
 |(x,.exc c)=>decide (t.cn.lookup c=AA x)&&(nmA K x).any λq=>En K q [.type "ValueError",.type "Exception",.type "BaseException",.type "object"] "ValueError.__new__"
 |(x,.cls c i)=>decide (t.cn.lookup c=AA x)&&(nmA K x).isSome&&match t.tbl[i]? with
  |some d=>match d.k with
   |.ini c'=>decide (c'=c)&&decide (d.nm="__init__")
   |_=>AG
  |none=>AG
def yd5(K:AF)(t:Ty):Bool:=
 decide (Av K (.type "NoneType") (.type (tyN t))=AA (yaJ .non t))&&decide (Av K (.type "bool") (.type (tyN t))=AA (yaJ (.bl AC) t))&&decide (Av K (.type "int") (.type (tyN t))=AA (yaJ (.int 0) t))&&decide (Av K (.type "str") (.type (tyN t))=AA (yaJ (.str FY) t))&&decide (Av K (.type "tuple") (.type (tyN t))=AA (yaJ (.tp AC []) t))&&decide (Av K (.type "list") (.type (tyN t))=AA (yaJ (.lst []) t))
def ycY(K:AF)(q:AI):Bool:=FX K q FY&&FG K q&&FH K q&&decide (Ah K (.ref q) "__setattr__"=AA (AA (.builtin "object.__setattr__")))
def zde{K:AF}{q:AI}(h:ycY K q=AC):Cls K q:=by
 erw[ycY,AJ,decide_eq_true_eq]at h;exact⟨h.1.1.1,h.1.1.2,h.1.2,h.2⟩
def ydB(K:AF)(q:AI):Bool:=decide (Ah K (.ref q) "__getattribute__"=AA (AA (.builtin "BaseException.__getattribute__")))&&decide (Ah K (.ref q) "__getattr__"=AA AE)&&decide (Ah K (.ref q) "__class__"=AA (AA (.builtin "object.__class__")))&&decide (GS K (.ref q) (.type "BaseException")=AA AC)&&decide (GT K q (.type "object")=AA AC)&&(GU K q).isSome
def zfB{K:AF}{q:AI}(h:ydB K q=AC):ydU K q:=by
 erw[ydB,AJ,decide_eq_true_eq]at h;let⟨⟨⟨⟨⟨h1,h2⟩,h3⟩,h4⟩,h5⟩,h6⟩:=h;exact⟨h1,h2,h3,h4,h5,A4.1 h6⟩
def ydW(K:AF)(t:Tb):Bool:=
 t.xs.all (λp=>ydB K (clA K t p.1)&&decide (Av K (.ref (clA K t p.1)) (tyZ (clA K t) p.2)=AA (yaJ (.exn p.1) p.2))) &&
  t.xc.all (λp=>decide (t.cn.lookup p.1=AA p.2)&&(nmA K p.2).isSome) &&
  t.xm.all λp=>(nmA K p.2).any λW=>decide (Fz K (.ref (clA K t p.1)) (.ref W)=AA AC)
def ycC(K:AF)(t:Tb):Bool:=
 t.al.all (alB K t)&&t.bs.all (λx=>decide (Ar K mainGlobals x=AA AE))&&t.ts.all (yd5 K) &&
  t.fl.all (λp=>(t.cn.lookup p.1).isSome&&(nmA K (cnm t p.1)).any λq=>ycY K q&&decide (Ah K (.ref q) p.2=AA AE)) &&
  t.me.all (λp=>(t.cn.lookup p.1.1).isSome&&(nmA K (cnm t p.1.1)).any λq=>ycY K q&&match t.tbl[p.2]? with
   |some d=>(match d.k with
    |.me c=>decide (c=p.1.1)
    |_=>AG)&&decide (d.nm=p.1.2)
   |none=>AG) &&
  t.ml.all λp=>p.2.all λq=>match t.tbl[q.2]? with
   |some d=>ybU d.k
   |none=>AG
def ydx(K:AF)(t:Tb):Bool:=ycC K t&&ydW K t
def fd0:FuncData:=BL "" "" (yH (.Pass ⟨0,0,0,0⟩)) [] (yg (.Pass ⟨0,0,0,0⟩)) .none .none .none .none AE .none .none
def fdA(K:AF)(t:Tb)(i:Nat):FuncData:=match K.lookup (faA K t i)with
 |some ⟨_,_,.func fd,_⟩=>fd
 |_=>fd0
def psA(t:Tb)(i:Nat):List Str:=match t.tbl[i]? with
 |some d=>d.ps
 |none=>[]
theorem lkm{α β:Type}[BEq α][LawfulBEq α]{x:α}{k:β}:∀{l:List (α×β)},l.lookup x=AA k->(x,k)∈l
 |[],h=>nomatch h
 |y::l,h=>by
  rw[BS]at h
  cases hx:x==y.1 with
  |true=>rw[hx]at h;cases h;rw[eq_of_beq hx];exact Aa
  |false=>rw[hx]at h;exact AU _ (lkm h)
def KbP(t:Tb)(p:(Nat×Nat×List AS)×List (Option Int)):Prop:=∀d ds,t.tbl[p.1.1]?=AA d->d.k=.fd ds->∀(K:AF) (mg:AS->Option AD) (f:AI) (fd:Aj),FnD K mg d.nm d.st d.ps ds f fd->∃g,ya0 K fd d.ps p.1.2.2 g (gK p.1.2.1 p.2)
structure Fact(t:Tb)(w:A5)(K:AF)(mg:AS->Option AD):Prop where
 X:∀x u,Ar K mainGlobals x=AA u->mg x=u
 R:ya8 (yb7 K (cnm t)) t.tbl
 B:ydx K t=AC
 D:ya8 (λp=>∀cl,GD K w mg cl p.1 p.2) t.dd
 Kb:ya8 (KbP t) t.kb
 Ml:ya8 (λp=>GDF K w mg (faA K t) p.1 p.2) t.ml
def zgH{K:AF}{x:AS}{q:AI}(h:nmA K x=AA q):Ar K mainGlobals x=AA (AA (.ref q)):=by
 unfold nmA at h;split at h
 .cases h;assumption
 .cases h
def zI{K:AF}{x:AS}{q:AI}(h:Ar K mainGlobals x=AA (AA (.ref q))):nmA K x=AA q:=by
 erw[nmA,h]
def zct{K:AF}{t:Tb}{c:Nat}{q:AI}(h:nmA K (cnm t c)=AA q)(hc:(t.cn.lookup c).isSome=AC):clA K t c=q:=by
 let⟨x,e⟩:=A4.1 hc;erw[clA,e,Bg];erw[cnm,e,BU]at h;rw[h];rfl
def okH(t:Tb)(d:Df):Bool:=(ybK t.gs d.fn.body ⟨d.N,yg d.st,AG,AC⟩ (yq d.st)).isSome&&!d.fn.pure&&ybU d.k
def okT(t:Tb)(d:Df):Bool:=okD t.gs d&&(!t.qh.contains d.gn || okH t d)&&match d.k with
 |.fn=>AC
 |.fd _=>decide (d.q=d.nm)
 |.me c=>(t.cn.lookup c).isSome
 |.ini c=>(t.cn.lookup c).isSome&&decide (d.nm="__init__")
section
variable {t:Tb}{w:A5}{K:AF}{mg:AS->Option AD}{T:Nat->Option IC.Fn}{P:AV}{base:Ak}{k:Nat}
def z5(F:Fact t w K mg)(O:∀d∈t.tbl,okT t d=AC){i:Nat}{d:Df}(h:t.tbl[i]?=AA d):∃dv fd,ybu K d dv (faA K t i) fd/\At K (cnm t) d (faA K t i)/\DvP K d dv:=by
 have hm:=AZ h;let⟨dv,f,fd,h1,h2,h3⟩:=F.R.get d hm;have e:f=faA K t i:=by
  have o:=O d hm;erw[okT,AJ]at o;have o:=o.2;erw[faA,h];unfold At at h2
  cases q:d.k with
  |fn=>
   rw[q]at h2;erw[zI h2.1,BU]
  |fd ds=>
   rw[q]at h2;have h2:Ar K mainGlobals d.gn=AA (AA (.ref f)):=h2;erw[zI h2,BU]
  |me c=>
   rw[q]at h2 o;let⟨_,q',e1,e2,_⟩:=h2;erw[zct (zI e1) o,e2]
  |ini c=>
   rw[q]at h2 o;let⟨_,q',e1,e2,_⟩:=h2;erw[AJ]at o;erw[zct (zI e1) o.1,e2]
 subst e;exact⟨dv,fd,h1,h2,h3⟩
theorem ybu.binds{d:Df}{f:AI}{fd:Aj}(R:ybu K d .none f fd)(b:yaE d):Binds K fd d.ps []:=
 Fun.binds ⟨R.ex,R.kp⟩ λkV doc pm an cdv ct us hl=>(b kV doc pm an cdv ct).get us hl
theorem ybu.ok{d:Df}{dv:AD}{f:AI}{fd:Aj}{fi m:Nat}{cl:Nat->AI}(R:ybu K d dv f fd)(hT:T fi=AA d.fn)(Sc:yac d.N d.ps (yg d.st))(hnp:d.ps.length=d.fn.np)(hns:d.N.length=d.fn.ns)
  (body:∀(cdv:AD) (A:A7) (outer:List BF) (s:AH) (H:Hp) (E:XK),yat m (A.deeper (envOfC d.q (yg d.st) s.heap.objs.size f cdv)) ->
   PSs (yaj (CX1 P w) P w K mg base d.N d.q (yg d.st) f cdv A outer s H E) (yq d.st) (tSs ⟨cl,ye T k,AC⟩ (yaj (CX1 P w) P w K mg base d.N d.q (yg d.st) f cdv A outer s H E) d.fn.body)):
  yaG P w K mg base (CX1 P w) (m+1) f fd d.ps (spI K cl (ye T (k+1)) fi):=by
 let⟨oc,od,kV,doc,pm,an,cdv,ct,osl,rfl,lk,hcd⟩:=R.ex;exact ziV lk hcd Sc (λvs H Q E h=>ze8 hT hnp h) λA outer s H vs Q E hr h=>⟨_,body cdv A outer s H E hr,zfz hT hns h⟩
def Fn2(t:Tb)(P:AV)(w:A5)(K:AF)(mg:AS->Option AD)(base:Ak)(T:Nat->Option IC.Fn)(k:Nat):Prop:=
 ∀i d dv fd,t.tbl[i]?=AA d->ybu K d dv (faA K t i) fd->yaG P w K mg base (CX1 P w) (2*k) (faA K t i) fd d.ps (spI K (clA K t) (ye T k) i)
def FnH(t:Tb)(P:AV)(w:A5)(K:AF)(mg:AS->Option AD)(base:Ak)(T:Nat->Option IC.Fn)(k:Nat):Prop:=
 ∀i d fd,t.tbl[i]?=AA d->t.qh.contains d.gn=AC->ybu K d .none (faA K t i) fd->ybh P w K mg base (2*k) (faA K t i) fd d.ps (spI K (clA K t) (ye T k) i)
def zcq(F:Fact t w K mg)(O:∀d∈t.tbl,okT t d=AC)(C:Fn2 t P w K mg base T k)(CH:FnH t P w K mg base T k){N:List AS}{q:AS}{sc:BH}{f:AI}{cdv:AD}{A:A7}{outer:List BF}{s:AH}{H:Hp}{E:XK}:
  Glo t.gs (2*k) ⟨clA K t,ye T k,AC⟩ (yaj (CX1 P w) P w K mg base N q sc f cdv A outer s H E):=by
 have B:=F.B;erw[ydx,AJ]at B;let⟨B,B2⟩:=B;erw[ycC,AJ,B3]at B;erw[ydW,AJ,B3]at B2;let⟨⟨⟨⟨⟨b1,b2⟩,b3⟩,b4⟩,b5⟩,b6⟩:=B;let⟨⟨b7,b8⟩,b9⟩:=B2;have mgr:∀{x:AS} {a:AI},nmA K x=AA a->mg x=AA (.ref a):=λh=>F.X _ _ (zgH h);have same:∀{x y:AS} {a:AI},(decide (x=y) || decide (nmA K x=nmA K y))=AC->nmA K y=AA a->nmA K x=AA a:=λ{x y a} h e=>by
  erw[DF,decide_eq_true_eq]at h;rcases h with rfl|h
  .exact e
  .rw[h];exact e
 refine⟨λx i h=>?_,λx i np ks sh h hk=>?_,λx v h=>?_,λx d h=>?_,λx c h=>?_,λx c i h=>?_,λx h=>?_,λy h=>?_,λc n h=>?_,λc n i h=>?_,λy D h=>?_,λx i h hv=>?_,λc y h=>?_,λd x h=>?_,λc x h=>?_,λx i h hq=>?_⟩
 .have q:=b1 _ (lkm h);erw[alB]at q;split at q
  .rename_i d hd;erw[AJ]at q;let⟨dv,fd,r1,r2,r3⟩:=z5 F O hd;have hk:d.k=.fn:=by cases e:d.k<;>rw[e]at q<;>first|rfl|cases q.1
   erw[At,hk]at r2;erw[DvP,hk]at r3;subst r3;exact⟨_,fd,d.ps,C i d _ fd hd r1,mgr (same q.2 (zI r2.1)),r1.kp,r1.binds r2.2⟩
  .cases q
 .have q:=b1 _ (lkm h);erw[alB]at q;split at q
  .rename_i d hd;erw[AJ]at q;let⟨dv,fd,r1,r2,r3⟩:=z5 F O hd;obtain⟨ds,hk'⟩:∃ds,d.k=.fd ds:=by cases e:d.k<;>rw[e]at q<;>first|exact⟨_,rfl⟩|cases q.1
   erw[At,hk']at r2;erw[DvP,hk']at r3;let⟨dT,o,its,n,rfl,e1,e2,e3⟩:=r3;have oo:=O d (AZ hd);erw[okT,hk',AJ,decide_eq_true_eq]at oo;have D:FnD K (λ_=>AA (.ref (faA K t i))) d.nm d.st d.ps ds (faA K t i) fd:=by
    let⟨oc,od,kV,doc,pm,an,cdv,ct,osl,z1,z2,z3⟩:=r1.ex;rw[oo.2]at z1 z3;exact⟨⟨oc,od,dT,kV,doc,pm,an,cdv,ct,osl,o,its,n,z1,z2,z3,e1,e2,e3⟩,r1.kp,rfl⟩
   exact⟨_,fd,d.ps,C i d _ fd hd r1,mgr (same q.2 (zI r2)),r1.kp,F.Kb.get _ (lkm hk) d ds hd hk' K _ _ _ D⟩
  .cases q
 .have q:=b1 _ (lkm h);erw[alB,AJ]at q;let⟨q0,q⟩:=q;split at q
  .rename_i u hu;let⟨⟨y,r,z⟩,_⟩:=A4.1 q;have hm:=F.X _ _ hu
   cases v with
   |int i=>
    have z:=z (λ_=>0) (λ_=>False) [] (λ_=>AE);erw[yc]at z;subst z;let⟨tk,rfl⟩:=r;exact .inr ⟨i,rfl,tk,hm⟩
   |tp b vs=>
    have z0:=z (λ_=>0) (λ_=>False) [] (λ_=>AE);erw[yc]at z0;let⟨a,xs,rfl,_⟩:=z0;have r:u=.ref a:=r;subst r;exact .inl ⟨a,hm,λB φ H=>z _ B φ H⟩
   |_=>cases q0
  .cases q
 .have q:=b1 _ (lkm h);erw[alB,Cu,AJ,decide_eq_true_eq]at q;let⟨p,hp,rfl,q⟩:=q;let⟨⟨e⟩,_⟩:=A4.1 q;rw[<-e];exact F.D.get p hp _
 .have q:=b1 _ (lkm h);erw[alB,AJ,decide_eq_true_eq,CP]at q;let⟨q1,q2,q3⟩:=q;let⟨a,ha⟩:=A4.1 q2;have e:clA K t c=a:=by erw[clA,q1,Bg,ha,BU]
  erw[ha,ES]at q3;exact⟨by show mg x=AA (.ref (clA K t c));rw[e];exact mgr ha,by show En K (clA K t c) _ _=AC;rw[e];exact q3⟩
 .have q:=b1 _ (lkm h);erw[alB,AJ,decide_eq_true_eq]at q;let⟨⟨q1,q2⟩,q3⟩:=q;let⟨a,ha⟩:=A4.1 q2;have e:clA K t c=a:=by erw[clA,q1,Bg,ha,BU]
  split at q3
  .rename_i d hd
   cases hk:d.k with
   |ini c'=>
    rw[hk]at q3;erw[AJ,decide_eq_true_eq]at q3;let⟨rfl,hn⟩:=q3;let⟨dv,fd,r1,r2,r3⟩:=z5 F O hd;erw[At,hk]at r2;erw[DvP,hk]at r3;subst r3;let⟨r0,q',r4,r5,r6,r7,r8⟩:=r2;have e2:q'=a:=by
     have:nmA K (cnm t c')=AA q':=zI r4;erw[cnm,q1,BU,ha]at this;exact(A0 this).symm
    subst e2;rw[hn]at r5;refine⟨by show mg x=AA (.ref (clA K t c'));rw[e];exact mgr ha,_,fd,d.ps,?_,C i d _ fd hd r1,r1.binds r0⟩;show Mk K (clA K t c') _;rw[e];exact⟨r7,r5,r6,r8⟩
   |_=>rw[hk]at q3;cases q3
  .cases q3
 .have q:x∈t.bs:=by simpa [Tb.gs] using h
  have:=b2 x q;erw[decide_eq_true_eq]at this;exact F.X _ _ this
 .simp only[Tb.gs,Cu]at h;let⟨y',hy,e⟩:=h;have:=zgS e;subst this;have q:=b3 y hy;erw[yd5,AJ,decide_eq_true_eq]at q;exact⟨q.1.1.1.1.1,q.1.1.1.1.2,q.1.1.1.2,q.1.1.2,q.1.2,q.2⟩
 .have q:(c,n)∈t.fl:=by simpa [Tb.gs] using h
  have q:=b4 _ q;erw[AJ,CP,decide_eq_true_eq]at q;let⟨q1,q2,q3⟩:=q;let⟨a,ha⟩:=A4.1 q2;erw[ha,ES]at q3;have e:clA K t c=a:=zct ha q1;show Cls K (clA K t c)/\ybz K (clA K t c) n;rw[e];exact⟨zde q3.1,q3.2⟩
 .have q:=b5 _ (lkm h);erw[AJ,CP,decide_eq_true_eq]at q;let⟨q1,q2,q3,q4⟩:=q;let⟨a,ha⟩:=A4.1 q2;erw[ha,ES]at q3;have e:clA K t c=a:=zct ha q1;split at q4
  .rename_i d hd;erw[AJ,decide_eq_true_eq]at q4;let⟨q4,hn⟩:=q4
   cases hk:d.k with
   |me c'=>
    rw[hk]at q4;have q4:c'=c:=by simpa using q4
    subst q4;let⟨dv,fd,r1,r2,r3⟩:=z5 F O hd;erw[At,hk]at r2;erw[DvP,hk]at r3;subst r3;let⟨r0,q',r4,r5,r6⟩:=r2;have e2:q'=a:=A0 ((zI r4).symm.trans ha);subst e2;refine⟨by show Cls K (clA K t c');rw[e];exact zde q3,_,fd,d.ps,?_,C i d _ fd hd r1,r1.binds r0⟩;show Meth K (clA K t c') n _;rw[e,<-hn];exact⟨r5,r6,r1.kp⟩
   |_=>rw[hk]at q4;cases q4
  .cases q4
 .have q:=b6 _ (lkm h);have g:∀s j,D.lookup s=AA j->∃d dv fd,t.tbl[j]?=AA d/\ybu K d dv (faA K t j) fd/\dv=.none/\yaE d/\fd=fdA K t j/\d.ps=psA t j:=λs j hj=>by
   have q:=q _ (lkm hj);split at q
   .rename_i d hd;let⟨dv,fd,r1,r2,r3⟩:=z5 F O hd;have hk:d.k=.fn:=by cases e:d.k<;>rw[e]at q<;>first|rfl|cases q
    erw[At,hk]at r2;erw[DvP,hk]at r3;let⟨oc,od,kV,doc,pm,an,cdv,ct,osl,_,lk,_⟩:=r1.ex;exact⟨d,dv,fd,hd,r1,r3,r2.2,by erw[fdA,lk],by erw[psA,hd]⟩
   .cases q
  refine⟨faA K t,fdA K t,psA t,⟨λs j hj=>?_,λs j hj=>?_,λs j hj=>?_⟩,F.Ml.get _ (lkm h)⟩
  .let⟨d,dv,fd,h1,h2,h3,h4,h5,h6⟩:=g s j hj;rw[<-h5,<-h6];exact C j d dv fd h1 h2
  .let⟨d,dv,fd,h1,h2,h3,h4,h5,h6⟩:=g s j hj;exact h2.kp
  .let⟨d,dv,fd,h1,h2,h3,h4,h5,h6⟩:=g s j hj;subst h3;rw[<-h5,<-h6];exact h2.binds h4
 .have q:=b1 _ (lkm h);erw[alB]at q;split at q
  .rename_i d hd;erw[AJ]at q;let⟨dv,fd,r1,r2,r3⟩:=z5 F O hd;have hk:d.k=.fn:=by cases e:d.k<;>rw[e]at q<;>first|rfl|cases q.1
   erw[At,hk]at r2;have hn:=same q.2 (zI r2.1);have e:t.cn.lookup (1000+i)=AA x:=of_decide_eq_true hv;have z:clA K t (1000+i)=faA K t i:=by erw[clA,e,Bg,hn,BU]
   show mg x=AA (.ref (clA K t (1000+i)));rw[z];exact mgr hn
  .cases q
 .let⟨p,hp,q⟩:=Cu.1 h;erw[AJ,beq_iff_eq]at q;let⟨rfl,q⟩:=q;have:=zgM q;subst this;have b:=b7 p hp;erw[decide_eq_true_eq]at b;exact⟨zfB b.1,b.2⟩
 .have b:=b8 _ (E1.1 h);erw[decide_eq_true_eq]at b;let⟨a,ha⟩:=A4.1 b.2;have e:clA K t d=a:=by erw[clA,b.1,Bg,ha,BU]
  show mg x=AA (.ref (clA K t d));rw[e];exact mgr ha
 .have b:=b9 _ (E1.1 h)
  cases ha:nmA K x with
  |none=>rw[ha]at b;cases b
  |some W=>
   rw[ha]at b;exact⟨W,mgr ha,of_decide_eq_true b⟩
 .have q:=b1 _ (lkm h);erw[alB]at q;split at q
  .rename_i d hd;erw[AJ]at q;let⟨dv,fd,r1,r2,r3⟩:=z5 F O hd;have hk:d.k=.fn:=by cases e:d.k<;>rw[e]at q<;>first|rfl|cases q.1
   erw[At,hk]at r2;erw[DvP,hk]at r3;subst r3;have hq:t.qh.contains d.gn=true:=by simpa only[Tb.gs,hd] using hq
   exact⟨_,fd,d.ps,CH i d fd hd hq r1,mgr (same q.2 (zI r2.1)),r1.kp,r1.binds r2.2⟩
  .cases q
def zdb(F:Fact t w K mg)(O:∀d∈t.tbl,okT t d=AC)(hT:∀i d,t.tbl[i]?=AA d->T i=AA d.fn):∀k,Fn2 t P w K mg base T k/\FnH t P w K mg base T k
 |0=>⟨λi d dv fd _ _=>zeJ,λi d fd _ _ _=>zeN⟩
 |k+1=>by
  have ih:=zdb F O hT k;refine⟨λi d dv fd h R=>?_,λi d fd h hq R=>?_⟩
  .have o:=O d (AZ h);erw[okT,okD,AJ,decide_eq_true_eq]at o;let⟨⟨⟨⟨⟨o1,o2⟩,o3⟩,o4⟩,_⟩,_⟩:=o;let⟨⟨y⟩,_⟩:=A4.1 o4;exact R.ok (m:=2*k+1) (hT i d h) (zfa o1) o2 o3 λ_ _ _ _ _ _ hr=>y (2*k) _ _ ⟨rfl,rfl,λ_=>rfl,hr.h,λ_=>hr.hd,λ_=>⟨own1,λ_=>rfl,rfl⟩,λ_=>⟨⟨_,rfl⟩,rfl,rfl⟩,zcq F O ih.1 ih.2⟩
  .have o:=O d (AZ h);erw[okT,okD,AJ,decide_eq_true_eq]at o;let⟨⟨⟨⟨⟨o1,o2⟩,o3⟩,_⟩,oq⟩,_⟩:=o;have oh:okH t d=true:=by rw[hq]at oq;simpa using oq
   erw[okH,AJ,B9]at oh;let⟨⟨y⟩,_⟩:=A4.1 oh.1.1;refine zhE (m:=2*k+1) (hT i d h) ⟨R.ex,R.kp⟩ (zfa o1) o2 o3 oh.1.2 λcdv A outer s H hr=>y (2*k) _ _ ⟨rfl,rfl,(λh=>nomatch h),hr,(λh=>nomatch h),(λh=>nomatch h),(λh=>nomatch h),?_⟩;have G:=zcq (N:=d.N) (q:=d.q) (sc:=yg d.st) (f:=faA K t i) (cdv:=cdv) (A:=A) (outer:=outer) (s:=s) (H:=H) (E:=E0) F O ih.1 ih.2;exact⟨G.F,G.Q,G.C,G.D,G.E,G.N,G.B,G.T,G.A,G.M,λy D h=>let ⟨fa,fdd,ps,M,d⟩:=G.K y D h;⟨fa,fdd,ps,⟨M.F,M.kp,M.b⟩,d⟩,G.V,G.I,G.L,G.H,G.Z⟩
def zfI(F:Fact t w K mg)(O:∀d∈t.tbl,okT t d=AC)(hT:∀i d,t.tbl[i]?=AA d->T i=AA d.fn)(k:Nat):Fn2 t P w K mg base T k:=(zdb F O hT k).1
def yb4:Nat->(List AD->Prop)->Prop
 |0,P=>P []
 |n+1,P=>∀a,yb4 n λus=>P (a::us)
theorem yb4.get:∀{n:Nat} {P:List AD->Prop},yb4 n P->∀us,us.length=n->P us
 |0,P,h,[],_=>h
 |n+1,P,h,a::us,e=>(h a).get us (by simpa using e)
theorem kbP{i np:Nat}{ks:List AS}{sh:List (Option Int)}{d:Df}{ds:List Int}(hd:t.tbl[i]?=AA d)(hk:d.k=.fd ds)(h1:ks.length=nKw sh)(h2:sh.length=(ds.drop (ds.length-sh.length)).length)
  (h3:((sh.zip (ds.drop (ds.length-sh.length))).all λp=>p.1.all λi=>decide (i=p.2))=AC) (hp:0<d.ps.length)
  (h:∀(dT:AI) (kV doc pm:AD) (an:Option AI) (cdv ct:AD),yb4 np λus=>yb4 ks.length λws=>yb4 ds.length λits=>
   ∃k,bindArgs (BL d.nm d.nm (yH d.st) (yq d.st) (yg d.st) (.ref dT) kV doc pm an cdv ct) ⟨us,ks.zip ws⟩=seqItems? (.ref dT) >>= k/\k (AA its.toArray)=pure (d.ps.zip (us++yax sh ws (its.drop (ds.length-sh.length))))):KbP t ((i,np,ks),sh):=by
 intro d' ds' e1 e2 K mg f fd D;have e1:t.tbl[i]?=AA d':=e1;rw[hd]at e1
 cases e1
 rw[hk]at e2
 cases e2
 exact kbD D h1 h2 h3 (λdT kV doc pm an cdv ct us ws its z1 z2 z3=>(((h dT kV doc pm an cdv ct).get us z1).get ws z2).get its z3) hp
theorem all_mk2{h:Ak}{fx:AI}(X:K.In h)(G:h.Ns mainGlobals mg)(hfa:mg "law"=AA (.ref fx))(R:ya8 (yb7 K (cnm t)) t.tbl)(B:ydx K t=AC)(D:ya8 (λp=>∀cl,GD K w mg cl p.1 p.2) t.dd)(Kb:ya8 (KbP t) t.kb)(Ml:ya8 (λp=>GDF K w mg (faA K t) p.1 p.2) t.ml)
  (O:t.tbl.all (okT t)=AC) (hT:∀i d,t.tbl[i]?=AA d->T i=AA d.fn) {L:Nat} {st:Bd} {N:List AS} {fn:IC.Fn} (hL:t.tbl[L]?=AA ⟨"law","law","law",st,N,["_law_script"],fn,.fn⟩) (lvl:Nat):
  ∃fd:Aj,(∀(s:AH) (v:AD),EC s fd ⟨[v],[]⟩ [("_law_script",v)])/\∀base:Ak,K.In base->base.Ns mainGlobals mg->yaG P w K mg base (CX1 P w) (2*lvl) fx fd ["_law_script"] (spX K (ye T lvl) L):=by
 have F:Fact t w K mg:=⟨λx u e=>by
  cases u with
  |none=>exact PySem.W.mg_none_of X G e
  |some v=>exact Di X G e,R,B,D,Kb,Ml⟩
 have O':=B3.1 O;let⟨dv,fd,r1,r2,r3⟩:=z5 F O' hL;have r3:dv=.none:=r3;subst r3;have r2:Ar K mainGlobals "law"=AA (AA (.ref (faA K t L)))/\yaE _:=r2;have e:=Value.ref.inj (A0 (hfa.symm.trans (Di X G r2.1)));subst e;refine⟨fd,λs v=>?_,λbase _ _=>(zfI F O' hT lvl L _ _ fd hL r1).imp λ_ _ _ _ h=>h _⟩;let⟨oc,od,kV,doc,pm,an,cdv,ct,osl,rfl,_⟩:=r1.ex;exact .of_eq (r2.2 kV doc pm an cdv ct v)
end
end L2
namespace IC
open PySem
def ydF:PV:=(.tp AC [(.str "f"),(.tp AC [(.int 0),(.int 0),(.int 0),(.int 0)])])
def yeC:PV:=(.tp AC [(.int 0),(.int 0),(.int 1)])
def ya:PV:=(.tp AC [(.int 0),(.int 1),(.int 0)])
def yeP:PV:=(.tp AC [(.str "turned"),(.str "bare")])
def yd3:PV:=(.tp AC [(.tp AC [(.str "m"),(.tp AC [(.int 0),(.int 0),(.int 0),(.int 0)])]),(.tp AC [(.str "m"),(.tp AC [(.int 1),(.int 0),(.int 0),(.int 0)])]),(.tp AC [(.str "m"),(.tp AC [(.int 2),(.int 0),(.int 0),(.int 0)])]),(.tp AC [(.str "m"),(.tp AC [(.int 3),(.int 0),(.int 0),(.int 0)])])])
def yci:PV:=(.tp AC [(.str "z"),(.tp AC [(.int 0),(.int 0),(.int 0),(.int 0)])])
def yeR:PV:=(.tp AC [(.str "sum"),(.str "difference"),(.str "compare"),(.str "both"),(.str "any"),(.str "odd"),(.str "product"),(.str "signed product"),(.str "quotient"),(.str "signed quotient")])
def yeT:PV:=(.tp AC [(.str "both"),(.str "any"),(.str "odd")])
def yd0:PV:=(.tp AC [(.str "s"),(.tp AC [(.int 0),(.int 0),(.int 0),(.int 0)])])
def yeo:PV:=(.tp AC [(.str "left"),(.str "right"),(.str "down"),(.str "roll")])
def yd4:PV:=(.tp AC [(.str "t"),(.tp AC [(.int 0),(.int 0),(.int 0),(.int 0)])])
section zq
local macro_rules|`(#[$x,*])=>do
 let mut a←`(.e)
 for y in x.getElems.reverse do a←`(.k $y $a)
 pure a
def yeY:Fn:=⟨5,5,AC,#[.ret (.tup #[.v 0,.tup #[.v 1,.v 2,.v 3,.v 4]])]⟩
def yfh:Fn:=⟨1,1,AC,#[.ret (.blt .tuple #[.comp [AE] (.n 0) (.seq (.v 0)) (.cst (.bl AC)) (.tup #[.s "row",.v 0])])]⟩
def yfm:Fn:=⟨3,3,AC,#[.ret (.tup #[.tup #[.s "rounds",.v 0,.v 1,.v 2]])]⟩
def yfx:Fn:=⟨5,5,AC,#[.ret (.tup #[.s "slice",.v 0,.tup #[.i 0,.i 0,.i 0,.i 0],.tup #[.v 1,.v 2,.v 3,.v 4]])]⟩
def yfF:Fn:=⟨6,6,AC,#[.ret (.tup #[.v 0,.tup #[.i 0,.v 2,.i 0,.v 3,.v 4,.v 5],.v 1])]⟩
def yfG:Fn:=⟨3,4,AC,#[.asg (.n 3) (.tup #[.call 4 (yR #[.i 1,.tup #[.call 3 (yR #[.v 1] (yj [.inr 0,.inl (.i 1),.inr 0,.inr 0]))]] (yj [.inr 0,.inr 0,.inr 0,.inr 0])),.call 4 (yR #[.neg (.i 1),.tup #[.call 3 (yR #[.v 0] (yj [.inr 0,.inl (.i 1),.inr 0,.inr 0]))]] (yj [.inr 0,.inr 0,.inr 0,.inr 0]))]),.ret (.call 2 #[.tup #[.v 2,.i 1,.i 0],.v 3,.call 1 #[.lst #[.tup #[.s "move",.call 0 (yR #[.v 0] (yj [.inr 0,.inl (.i 1),.inr 0,.inr 0])),.call 0 (yR #[.v 1] (yj [.inr 0,.inl (.i 1),.inr 0,.inr 0]))]]]])]⟩
def yfH:Fn:=⟨2,2,AC,#[.ret (.call 2 #[.v 1,.tup .e,.call 1 #[.lst #[.tup #[.s "twice",.call 0 (yR #[.v 0] (yj [.inr 0,.inr 0,.inl (.i 1),.inr 0])),.call 0 (yR #[.v 0] (yj [.inr 0,.inr 0,.inl (.i 1),.inr 0]))]]]])]⟩
def yfN:Fn:=⟨1,1,AC,#[.ret (.tup #[.s "sum",.v 0,.cst yci,.cst yci])]⟩
def yy:Fn:=⟨1,1,AC,#[.ret (.lst #[.tup #[.s "set",.v 0,.i 1],.tup #[.s "less",.v 0,.v 0,.cst yci]])]⟩
def yz:Fn:=⟨3,4,AC,#[.asg (.n 3) (.tup #[.s "any",.cst yd0,.cst yd0,.call 0 (yR #[.v 0] (yj [.inr 0,.inl (.i 1),.inr 0,.inl (.v 1)]))]),.ret (.bin .add (.bin .add (.call 1 #[.lst #[.tup #[.s "set",.cst yd0,.i 0]]]) (.call 2 #[.v 2,.tup .e,.call 1 #[.lst #[.v 3]]])) (.call 1 #[.lst #[.tup #[.s "ask",.cst yd0]]]))]⟩
def yA:Fn:=⟨2,3,AC,#[.asg (.n 2) (.lst #[.tup #[.s "twice",.cst yd4,.call 0 (yR #[.s "c",.bin .sub (.v 0) (.i 1)] (yj [.inr 0,.inr 0,.inl (.v 1)]))],.call 7 #[.idx (.cst yd3) (.i 3)]]),.ret (.bin .add (.call 9 #[.s "c",.i 0,.tup #[.v 0,.v 1,.i 0]]) (.call 1 #[.bin .add (.call 8 #[.idx (.cst yd3) (.i 2)]) (.v 2)]))]⟩
def yB:Fn:=⟨0,0,AC,#[.ret (.bin .add (.bin .add (.call 13 #[.s "a",.s "b",.s "c",.s "d"]) (.call 12 .e)) (.call 10 #[.i 0,.i 1]))]⟩
def yfT:Fn:=⟨0,0,AC,#[.ret (.bin .add (.call 9 #[.s "b",.i 0,.cst ya]) (.call 1 #[.call 8 #[.idx (.cst yd3) (.i 0)]]))]⟩
def yf2:Fn:=⟨4,6,AC,#[.asg (.n 4) (.tup #[.call 4 (yR #[.i 1,.tup #[.call 3 (yR #[.v 0] (yj [.inr 0,.inr 0,.inr 0,.inl (.i 1)]))]] (yj [.inl (.i 1),.inr 0,.inr 0,.inr 0])),.call 4 (yR #[.neg (.i 1),.tup #[.call 3 (yR #[.v 2] (yj [.inr 0,.inr 0,.inr 0,.inl (.i 1)])),.call 3 (yR #[.v 1] (yj [.inr 0,.inr 0,.inr 0,.inl (.i 1)]))]] (yj [.inr 0,.inr 0,.inr 0,.inl (.i 1)])),.call 4 (yR #[.neg (.i 1),.tup #[.call 3 (yR #[.v 3,.i 1] (yj [.inr 0,.inr 0,.inl (.i 1)]))]] (yj [.inr 0,.inr 0,.inr 0,.inl (.i 1)])),.call 4 (yR #[.neg (.i 1),.tup #[.call 3 (yR #[.s "e"] (yj [.inr 0,.inr 0,.inr 0,.inl (.i 1)]))]] (yj [.inr 0,.inr 0,.inr 0,.inr 0]))]),.asg (.n 5) (.bin .add (.bin .add (.bin .add (.call 14 #[.v 3]) (.call 15 #[.v 3,.v 1])) (.call 16 #[.v 3,.v 1])) (.call 17 #[.v 2])),.ret (.bin .add (.call 5 (yR #[.s "e",.v 0] (yj [.inr 0]))) (.call 2 #[.cst yeC,.v 4,.v 5]))]⟩
def yT:Fn:=⟨1,1,AC,#[.ret (.bin .add (.bin .add (.call 1 #[.lst #[.tup #[.s "mark",.i 0]]]) (.call 6 #[.s "e",.cst ya])) (.call 6 #[.v 0,.tup #[.i 1,.i 1,.i 0]]))]⟩
def yY:Fn:=⟨2,4,AC,#[.asg (.n 2) (.tup #[.s "less",.call 0 (yR #[.v 0] (yj [.inr 0,.inr 0,.inl (.i 1),.inr 0])),.call 0 (yR #[.v 0] (yj [.inr 0,.inr 0,.inl (.i 1),.inr 0])),.call 0 (yR #[.v 1] (yj [.inr 0,.inr 0,.inl (.i 1),.inr 0]))]),.asg (.n 3) (.call 0 (yR #[.v 0] (yj [.inr 0,.inr 0,.inr 0,.inl (.i 1)]))),.ret (.bin .add (.call 2 #[.cst ya,.tup .e,.call 1 #[.lst #[.v 2]]]) (.call 1 #[.lst #[.tup #[.s "less",.v 3,.v 3,.cst yci]]]))]⟩
def yf4:Fn:=⟨2,5,AC,#[.asg (.n 2) (.lst #[.tup #[.s "both",.cst yd4,.call 0 (yR #[.v 1] (yj [.inr 0,.inr 0,.inl (.i 1),.inr 0])),.cst ydF],.tup #[.s "sum",.call 0 (yR #[.v 0] (yj [.inr 0,.inr 0,.inl (.i 1),.inr 0])),.call 0 (yR #[.v 0] (yj [.inr 0,.inr 0,.inl (.i 1),.inr 0])),.cst yd4]]),.asg (.n 3) (.call 0 (yR #[.v 0] (yj [.inr 0,.inr 0,.inr 0,.inl (.i 1)]))),.asg (.n 4) (.call 1 #[.lst #[.tup #[.s "less",.cst ydF,.cst yci,.cst yci],.tup #[.s "mark",.i 0]]]),.ret (.bin .add (.bin .add (.v 4) (.call 2 #[.cst ya,.tup .e,.call 1 #[.v 2]])) (.call 1 #[.lst #[.tup #[.s "sum",.v 3,.v 3,.cst yci]]]))]⟩
def y0:Fn:=⟨1,1,AC,#[.ret (.bin .add (.call 1 #[.lst #[.tup #[.s "bare",.cst ydF,.cst ydF],.tup #[.s "ask",.cst ydF]]]) (.call 6 #[.v 0,.cst ya]))]⟩
def yep:Fn:=⟨1,1,AC,#[.ite (.not (.call 19 #[.v 0])) #[.nope] .e,.ite (.cmp .eq (.idx (.v 0) (.i 0)) (.s "led")) #[.nope] .e,.ite (.cmp .isin (.idx (.v 0) (.i 0)) (.cst yeo)) #[.nope] .e,.ite (.cmp .isin (.idx (.v 0) (.i 0)) (.cst yeT)) #[.nope] .e,.ret (.call 20 #[.idx (.v 0) (.i 0)])]⟩
def yf6:Fn:=⟨1,1,AC,#[.ite (.or (.not (.isi (.v 0) [.tuple])) (.cmp .eq (.blt .len #[.v 0]) (.i 0))) #[.nope] .e,.ite (.cmp .eq (.idx (.v 0) (.i 0)) (.s "led")) #[.nope] .e,.ite (.cmp .isin (.idx (.v 0) (.i 0)) (.cst yeo)) #[.nope] .e,.ret (.and (.cmp .eq (.blt .len #[.v 0]) (.i 1)) (.or (.cmp .isin (.idx (.v 0) (.i 0)) (.cst yeR)) (.cmp .isin (.idx (.v 0) (.i 0)) (.cst yeP))))]⟩
def y4:Fn:=⟨1,1,AC,#[.ite (.cmp .eq (.v 0) (.s "sum")) #[.nope] .e,.ite (.cmp .eq (.v 0) (.s "difference")) #[.nope] .e,.ite (.cmp .eq (.v 0) (.s "turned")) #[.nope] .e,.ite (.cmp .eq (.v 0) (.s "compare")) #[.nope] .e,.ite (.cmp .eq (.v 0) (.s "bare")) #[.nope] .e,.ite (.cmp .eq (.v 0) (.s "product")) #[.nope] .e,.ite (.cmp .eq (.v 0) (.s "signed product")) #[.nope] .e,.ite (.cmp .eq (.v 0) (.s "quotient")) #[.ret (.call 11 .e)] .e,.nope]⟩
def yd8:Fn:=⟨1,1,AG,#[.ret (.newl #[.slc (.v 0) (.cst .non) (.i 63),.i 0,.i 0,.cst (.bl AG)])]⟩
def yS:Fn:=⟨1,8,AC,#[.asg (.n 1) (.tup #[.i 2147483647,.i 2147483629,.i 2147483587,.i 2147483579,.i 2147483563]),.asg (.n 2) (.i 0),.for (.t [3,4]) (.enum (.v 1)) #[.asg (.n 5) (.bin .add (.v 0) (.idx (.tup #[.i 11,.i 101,.i 1009,.i 10007,.i 100003]) (.v 3))),.asg (.n 5) (.bin .mod (.bin .mul (.v 5) (.bin .add (.i 48271) (.bin .mul (.i 2) (.v 3)))) (.v 4)),.asg (.n 6) (.bin .mod (.bin .mul (.v 5) (.v 5)) (.v 4)),.asg (.n 7) (.bin .mod (.bin .mul (.bin .mod (.bin .mul (.v 6) (.v 6)) (.v 4)) (.v 5)) (.v 4)),.asg (.n 2) (.bin .add (.bin .mul (.v 2) (.v 4)) (.v 7))],.ret (.v 2)]⟩
def yI:Fn:=⟨1,4,AG,#[.asg (.t [1,2]) (.tup #[.idx (.v 0) (.i 0),.idx (.v 0) (.i 1)]),.asg (.n 3) (.bin .add (.bin .mul (.i 31) (.v 2)) (.i 7)),.ite (.cmp .gt (.blt .len #[.v 1]) (.i 0)) #[.asg (.n 3) (.bin .mul (.i 104729) (.bin .fdiv (.v 2) (.blt .len #[.v 1]))),.asg (.n 3) (.bin .add (.v 3) (.idx (.v 1) (.bin .mod (.v 2) (.blt .len #[.v 1]))))] .e,.six (.v 0) (.i 1) (.bin .add (.v 2) (.i 1)),.six (.v 0) (.i 3) (.or (.cmp .ge (.v 2) (.blt .len #[.v 1])) (.cmp .lt (.v 3) (.bin .pow (.i 10) (.i 18)))),.ite (.idx (.v 0) (.i 3)) #[.six (.v 0) (.i 2) (.call 22 #[.v 3])] #[.six (.v 0) (.i 2) (.bin .sub (.v 3) (.bin .pow (.i 10) (.i 18)))]]⟩
def yD:Fn:=⟨2,4,AG,#[.asg (.n 2) (.i 0),.while (.and (.cmp .lt (.v 2) (.i 64)) (.or (.cmp .eq (.idx (.v 0) (.i 2)) (.i 0)) (.and (.idx (.v 0) (.i 3)) (.cmp .lt (.idx (.v 0) (.i 2)) (.bin .mul (.v 1) (.i 4096)))))) #[.expr (.call 23 #[.v 0]),.aug 2 .add (.i 1),.ite (.and (.idx (.v 0) (.i 3)) (.cmp .lt (.idx (.v 0) (.i 2)) (.bin .mul (.v 1) (.i 4096)))) #[.six (.v 0) (.i 2) (.bin .add (.idx (.v 0) (.i 2)) (.bin .mul (.bin .mul (.v 1) (.i 4096)) (.bin .add (.i 1) (.bin .mod (.idx (.v 0) (.i 2)) (.i 4093)))))] .e],.asg (.n 3) (.bin .mod (.idx (.v 0) (.i 2)) (.v 1)),.six (.v 0) (.i 2) (.bin .fdiv (.idx (.v 0) (.i 2)) (.v 1)),.ret (.v 3)]⟩
def yed:Fn:=⟨2,2,AG,#[.ret (.tup #[.bin .add (.i 4) (.call 24 #[.v 0,.i 13]),.bin .add (.i 1) (.call 24 #[.v 0,.v 1])])]⟩
def yf7:Fn:=⟨1,1,AC,#[.ret (.and (.isi (.v 0) [.int]) (.not (.isi (.v 0) [.bool])))]⟩
def yf8:Fn:=⟨3,3,AC,#[.ite (.or (.not (.isi (.v 0) [.tuple])) (.cmp .ne (.blt .len #[.v 0]) (.v 1))) #[.nope] .e,.ret (.blt .all #[.comp [AE,AA 2] (.n 0) (.seq (.v 0)) (.cst (.bl AC)) (.and (.call 26 #[.v 0]) (.chain .le .le (.bin .sub (.i 0) (.v 1)) (.v 0) (.v 1)))])]⟩
def yf9:Fn:=⟨1,1,AC,#[.ret (.and (.isi (.v 0) [.str]) (.and (.cmp .eq (.blt .len #[.v 0]) (.i 1)) (.cmp .isin (.v 0) (.s "abcdefghijklmnopqrstuvwxyz"))))]⟩
def y6:Fn:=⟨1,1,AC,#[.ret (.and (.isi (.v 0) [.tuple]) (.and (.cmp .eq (.blt .len #[.v 0]) (.i 2)) (.and (.call 28 #[.idx (.v 0) (.i 0)]) (.call 27 #[.idx (.v 0) (.i 1),.i 4,.i 200]))))]⟩
def y7:Fn:=⟨1,2,AC,#[.ite (.or (.not (.isi (.v 0) [.tuple])) (.or (.cmp .lt (.blt .len #[.v 0]) (.i 2)) (.not (.isi (.idx (.v 0) (.i 0)) [.str])))) #[.ret (.cst (.bl AG))] .e,.ite (.cmp .eq (.idx (.v 0) (.i 0)) (.s "mark")) #[.ret (.and (.cmp .eq (.blt .len #[.v 0]) (.i 2)) (.and (.call 26 #[.idx (.v 0) (.i 1)]) (.cmp .isin (.idx (.v 0) (.i 1)) (.tup #[.i 0,.i 1]))))] .e,.ite (.cmp .eq (.idx (.v 0) (.i 0)) (.s "ask")) #[.ret (.and (.cmp .eq (.blt .len #[.v 0]) (.i 2)) (.call 29 #[.idx (.v 0) (.i 1)]))] .e,.ite (.cmp .eq (.idx (.v 0) (.i 0)) (.s "set")) #[.ret (.and (.cmp .eq (.blt .len #[.v 0]) (.i 3)) (.and (.call 29 #[.idx (.v 0) (.i 1)]) (.and (.call 26 #[.idx (.v 0) (.i 2)]) (.cmp .isin (.idx (.v 0) (.i 2)) (.tup #[.i 0,.i 1])))))] .e,.asg (.n 1) (.newd [("move",3),("bare",3),("twice",3),("half",3),("sum",4),("less",4),("both",4),("any",4),("odd",4)]),.dput (.v 1) (.s "times") (.i 5),.ite (.or (.cmp .ne (.mth .get (.v 1) #[.idx (.v 0) (.i 0),.i 0]) (.blt .len #[.v 0])) (.not (.blt .all #[.comp [AE] (.n 0) (.seq (.slc (.v 0) (.i 1) (.cst .non))) (.cst (.bl AC)) (.call 29 #[.v 0])]))) #[.ret (.cst (.bl AG))] .e,.ret (.or (.cmp .ne (.idx (.v 0) (.i 0)) (.s "times")) (.cmp .ne (.idx (.v 0) (.i 1)) (.idx (.v 0) (.i 2))))]⟩
def yga:Fn:=⟨1,1,AC,#[.ite (.cmp .eq (.v 0) (.tup #[.s "mark"])) #[.ret (.cst (.bl AC))] .e,.ite (.or (.not (.isi (.v 0) [.tuple])) (.or (.cmp .ne (.blt .len #[.v 0]) (.i 4)) (.or (.cmp .ne (.idx (.v 0) (.i 0)) (.s "slice")) (.not (.call 28 #[.idx (.v 0) (.i 1)]))))) #[.ret (.cst (.bl AG))] .e,.ret (.and (.call 27 #[.idx (.v 0) (.i 2),.i 4,.i 200]) (.call 27 #[.idx (.v 0) (.i 3),.i 4,.i 200]))]⟩
def y8:Fn:=⟨1,2,AC,#[.ite (.or (.not (.isi (.v 0) [.tuple])) (.cmp .gt (.blt .len #[.v 0]) (.i 20))) #[.ret (.cst (.bl AG))] .e,.for (.n 1) (.seq (.v 0)) #[.ite (.or (.not (.isi (.v 1) [.tuple])) (.or (.cmp .ne (.blt .len #[.v 1]) (.i 3)) (.not (.call 27 #[.idx (.v 1) (.i 1),.i 6,.i 200])))) #[.ret (.cst (.bl AG))] .e,.ite (.or (.not (.call 26 #[.idx (.v 1) (.i 0)])) (.or (.cmp .ge (.blt .abs #[.idx (.v 1) (.i 0)]) (.bin .pow (.i 10) (.i 40))) (.not (.isi (.idx (.v 1) (.i 2)) [.tuple])))) #[.ret (.cst (.bl AG))] .e,.ite (.or (.cmp .gt (.blt .len #[.idx (.v 1) (.i 2)]) (.i 2)) (.not (.blt .all #[.comp [AE] (.n 0) (.seq (.idx (.v 1) (.i 2))) (.cst (.bl AC)) (.call 31 #[.v 0])]))) #[.ret (.cst (.bl AG))] .e],.ret (.cst (.bl AC))]⟩
def ygb:Fn:=⟨2,2,AC,#[.ite (.or (.not (.isi (.v 0) [.tuple])) (.cmp .lt (.blt .len #[.v 0]) (.i 2))) #[.ret (.cst (.bl AG))] .e,.ite (.cmp .eq (.idx (.v 0) (.i 0)) (.s "row")) #[.ret (.and (.cmp .eq (.blt .len #[.v 0]) (.i 2)) (.call 30 #[.idx (.v 0) (.i 1)]))] .e,.ite (.or (.cmp .ne (.idx (.v 0) (.i 0)) (.s "rounds")) (.or (.cmp .ne (.blt .len #[.v 0]) (.i 4)) (.or (.cmp .gt (.v 1) (.i 1)) (.not (.call 27 #[.idx (.v 0) (.i 1),.i 3,.i 200]))))) #[.ret (.cst (.bl AG))] .e,.ite (.or (.not (.call 32 #[.idx (.v 0) (.i 2)])) (.not (.isi (.idx (.v 0) (.i 3)) [.tuple]))) #[.ret (.cst (.bl AG))] .e,.ret (.blt .all #[.comp [AE,AA 1] (.n 0) (.seq (.idx (.v 0) (.i 3))) (.cst (.bl AC)) (.call 33 #[.v 0,.bin .add (.v 1) (.i 1)])])]⟩
def yl:Fn:=⟨1,1,AC,#[.ret (.and (.isi (.v 0) [.tuple]) (.blt .all #[.comp [AE] (.n 0) (.seq (.v 0)) (.cst (.bl AC)) (.call 33 #[.v 0,.i 0])]))]⟩
def yeh:Fn:=⟨4,4,AC,#[.ret (.bin .add (.bin .add (.bin .add (.idx (.v 0) (.i 0)) (.bin .mul (.idx (.v 0) (.i 1)) (.v 1))) (.bin .mul (.idx (.v 0) (.i 2)) (.v 2))) (.bin .mul (.idx (.v 0) (.i 3)) (.v 3)))]⟩
def yel:Fn:=⟨3,3,AC,#[.ret (.bin .add (.bin .add (.idx (.v 0) (.i 0)) (.bin .mul (.idx (.v 0) (.i 1)) (.v 2))) (.bin .mul (.bin .mul (.idx (.v 0) (.i 2)) (.v 1)) (.v 2)))]⟩
def yt:Fn:=⟨4,18,AG,#[.asg (.n 4) (.dict0 AC),.for (.t [5,6,7]) (.seq (.v 0)) #[.asg (.t [8,9,10,11,12,13]) (.v 6),.asg (.n 14) (.newl .e),.for (.n 15) (.seq (.v 7)) #[.asg (.n 16) (.tup #[.s "",.i 0,.i 1]),.ite (.cmp .eq (.idx (.v 15) (.i 0)) (.s "slice")) #[.asg (.n 16) (.tup #[.idx (.v 15) (.i 1),.call 35 #[.idx (.v 15) (.i 2),.v 3,.i 0,.v 2],.call 35 #[.idx (.v 15) (.i 3),.v 3,.i 0,.v 2]])] .e,.expr (.mth .append (.v 14) #[.v 16])],.ite (.blt .all #[.cml [AE] (.n 0) (.v 14) (.cmp .lt (.idx (.v 0) (.i 1)) (.idx (.v 0) (.i 2)))]) #[.asg (.n 17) (.tup #[.bin .add (.bin .add (.v 8) (.bin .mul (.v 9) (.v 3))) (.bin .mul (.v 1) (.bin .add (.bin .mul (.v 11) (.v 3)) (.bin .mul (.v 13) (.v 2)))),.blt .tuple #[.srt (.v 14)]]),.dput (.v 4) (.v 17) (.bin .add (.mth .get (.v 4) #[.v 17,.i 0]) (.v 5))] .e],.ret (.dfl 4)]⟩
def yb:Fn:=⟨2,2,AC,#[.ret (.tup #[.s "slice",.v 0,.tup #[.i 0,.i 0,.i 0,.i 0],.tup #[.v 1,.i 0,.i 0,.i 0]])]⟩
def yf:Fn:=⟨4,8,AC,#[.ite (.cmp .eq (.v 0) (.s "product")) #[.nope,.nope] .e,.ite (.cmp .eq (.v 0) (.s "quotient")) #[.asg (.n 5) (.tup #[.bin .mul (.v 1) (.v 2),.i 0,.i 0,.i 0,.i 0,.i 0]),.asg (.n 4) (.lst #[.tup #[.i 1,.tup #[.v 3,.i 0,.i 0,.i 0,.i 0,.i 0],.tup #[.call 38 #[.s "a",.v 2]]],.tup #[.neg (.i 1),.v 5,.tup #[.call 38 #[.s "c",.v 2],.call 38 #[.s "b",.v 2]]]]),.ret (.bin .add (.v 4) (.lst #[.tup #[.neg (.i 1),.v 5,.tup #[.call 38 #[.s "d",.bin .add (.v 2) (.i 1)]]],.tup #[.neg (.i 1),.tup #[.i 0,.i 0,.i 0,.i 0,.i 0,.i 0],.tup #[.call 38 #[.s "e",.v 2]]]]))] .e,.nope,.nope,.nope,.nope]⟩
def yab:Fn:=⟨4,5,AC,#[.for (.n 4) (.seq (.v 0)) #[.ite (.and (.cmp .eq (.idx (.v 4) (.i 0)) (.s "rounds")) (.cmp .eq (.idx (.v 4) (.i 1)) (.v 2))) #[.ite (.blt .all #[.comp [AE,AE,AA 1,AA 2,AA 4] (.t [0,1]) (.seq (.v 3)) (.cst (.bl AC)) (.call 41 #[.idx (.v 4) (.i 2),.v 2,.v 3,.v 0,.v 1])]) #[.ret (.cst (.bl AC))] .e] .e],.nope]⟩
def yw:Fn:=⟨5,6,AC,#[.for (.n 5) (.range1 (.bin .add (.call 36 #[.v 2,.v 3,.v 4]) (.i 1))) #[.ite (.dne (.call 37 #[.v 0,.v 3,.v 4,.v 5]) (.call 37 #[.call 39 #[.v 1,.v 3,.v 4,.v 5],.v 3,.v 4,.v 5])) #[.nope] .e],.ret (.cst (.bl AC))]⟩
def ybe:Fn:=⟨1,4,AC,#[.asg (.n 1) (.call 21 #[.v 0]),.asg (.n 2) (.comp [AE,AA 1] (.n 0) (.range1 (.i 2)) (.cst (.bl AC)) (.call 25 #[.v 1,.i 4])),.asg (.n 3) (.call 18 #[.tup #[.s "quotient"]]),.ret (.and (.call 34 #[.v 3]) (.call 40 #[.v 3,.s "quotient",.tup #[.i 0,.i 0,.i 1],.v 2]))]⟩
end zq
def Tl:List Fn:=[yeY,yfh,yfm,yfx,yfF,yfG,yfH,yfN,yy,yz,yA,yB,yfT,yf2,yT,yY,yf4,y0,yep,yf6,y4,yd8,yS,yI,yD,yed,yf7,yf8,yf9,y6,y7,yga,y8,ygb,yl,yeh,yel,yt,yb,yf,yab,yw,ybe]
def T(i:Nat):Option Fn:=Tl[i]?
abbrev yi:Nat:=18
abbrev ygc:Nat:=21
abbrev yes:Nat:=22
abbrev ygd:Nat:=23
abbrev yet:Nat:=24
abbrev yeu:Nat:=25
abbrev ym:Nat:=34
abbrev ygh:Nat:=35
abbrev yge:Nat:=37
abbrev ygi:Nat:=38
abbrev y9:Nat:=39
abbrev ygf:Nat:=40
abbrev yk:Nat:=41
abbrev yd1:Nat:=42
end IC
namespace WK
open PySem L2 IC
def top(i:Nat):Stmt:=Cr.main.body.getD i (.Pass ⟨0,0,0,0⟩)
def tbQ:Tb where
 tbl:=[⟨"word","word","word",top 9,["letter","c","i","j","m"],["letter","c","i","j","m"],yeY,.fd [0,0,0,0]⟩,⟨"rows","rows","rows",top 11,["told"],["told"],yfh,.fn⟩,⟨"rounds","rounds","rounds",top 12,["count","sentence","inner"],["count","sentence","inner"],yfm,.fn⟩,⟨"lowest","lowest","lowest",top 13,["letter","c","i","j","m"],["letter","c","i","j","m"],yfx,.fd [0,0,0,0]⟩,⟨"term","term","term",top 14,["f","things","i","p","q","r"],["f","things","i","p","q","r"],yfF,.fd [0,0,0,0]⟩,⟨"moved","moved","moved",top 15,["to","source","c","sentence"],["to","source","c"],yfG,.fd [0]⟩,⟨"doubled","doubled","doubled",top 16,["letter","count"],["letter","count"],yfH,.fn⟩,⟨"kept_mark","kept_mark","kept_mark",top 17,["to"],["to"],yfN,.fn⟩,⟨"kept_contrary","kept_contrary","kept_contrary",top 18,["to"],["to"],yy,.fn⟩,⟨"asked_words","asked_words","asked_words",top 21,["letter","m","count","gathered"],["letter","m","count"],yz,.fn⟩,⟨"answer_marks","answer_marks","answer_marks",top 22,["c","m","sign"],["c","m"],yA,.fn⟩,⟨"quotient_telling","quotient_telling","quotient_telling",top 41,[],[],yB,.fn⟩,⟨"by_nought","by_nought","by_nought",top 42,[],[],yfT,.fn⟩,⟨"divided","divided","divided",top 43,["x","y","answer","rest","sentence","one_place"],["x","y","answer","rest"],yf2,.fn⟩,⟨"next_place","next_place","next_place",top 44,["rest"],["rest"],yT,.fn⟩,⟨"less_divisor","less_divisor","less_divisor",top 45,["rest","y","taken","top"],["rest","y"],yY,.fn⟩,⟨"put_back","put_back","put_back",top 46,["rest","y","added","top","begun"],["rest","y"],yf4,.fn⟩,⟨"next_figure","next_figure","next_figure",top 47,["answer"],["answer"],y0,.fn⟩,⟨"telling","telling","telling",top 93,["deed"],["deed"],yep,.fn⟩,⟨"is_deed","is_deed","is_deed",top 94,["thing"],["thing"],yf6,.fn⟩,⟨"named_telling","named_telling","named_telling",top 96,["name"],["name"],y4,.fn⟩,⟨"_law_fresh","_law_fresh","_law_fresh",top 98,["_law_script"],["_law_script"],yd8,.fn⟩,⟨"_law_mixed","_law_mixed","_law_mixed",top 99,["_law_seed","_law_primes","_law_number","_law_k","_law_prime","_law_far","_law_square","_law_power"],["_law_seed"],yS,.fn⟩,⟨"_law_fill","_law_fill","_law_fill",top 100,["_law_state","_law_cells","_law_at_here","_law_seed"],["_law_state"],yI,.fn⟩,⟨"_law_take","_law_take","_law_take",top 101,["_law_state","_law_many","_law_turns","_law_digit"],["_law_state","_law_many"],yD,.fn⟩,⟨"_law_sizes","_law_sizes","_law_sizes",top 102,["_law_state","_law_most"],["_law_state","_law_most"],yed,.fn⟩,⟨"_law_whole","_law_whole","_law_whole",top 103,["_law_thing_here"],["_law_thing_here"],yf7,.fn⟩,⟨"_law_wholes","_law_wholes","_law_wholes",top 104,["_law_thing_here","_law_many","_law_most"],["_law_thing_here","_law_many","_law_most"],yf8,.fn⟩,⟨"_law_letter","_law_letter","_law_letter",top 105,["_law_thing_here"],["_law_thing_here"],yf9,.fn⟩,⟨"_law_index_cell","_law_index_cell","_law_index_cell",top 106,["_law_thing_here"],["_law_thing_here"],y6,.fn⟩,⟨"_law_telling_row","_law_telling_row","_law_telling_row",top 107,["_law_row","_law_lengths"],["_law_row"],y7,.fn⟩,⟨"_law_thing","_law_thing","_law_thing",top 108,["_law_thing_here"],["_law_thing_here"],yga,.fn⟩,⟨"_law_is_sentence","_law_is_sentence","_law_is_sentence",top 109,["_law_told","_law_term"],["_law_told"],y8,.fn⟩,⟨"_law_part","_law_part","_law_part",top 110,["_law_part_here","_law_deep"],["_law_part_here","_law_deep"],ygb,.fn⟩,⟨"_law_is_telling","_law_is_telling","_law_is_telling",top 111,["_law_told"],["_law_told"],yl,.fn⟩,⟨"_law_at","_law_at","_law_at",top 112,["_law_index","_law_i","_law_j","_law_n"],["_law_index","_law_i","_law_j","_law_n"],yeh,.fn⟩,⟨"_law_count","_law_count","_law_count",top 113,["_law_count_here","_law_w","_law_n"],["_law_count_here","_law_w","_law_n"],yel,.fn⟩,⟨"_law_reckoned","_law_reckoned","_law_reckoned",top 114,["_law_terms","_law_w","_law_n","_law_i","_law_sums","_law_f","_law_numbers","_law_things","_law_c","_law_by_i","_law_by_j","_law_p","_law_q","_law_r","_law_parts","_law_thing_here","_law_part_here","_law_key"],["_law_terms","_law_w","_law_n","_law_i"],yt,.fn⟩,⟨"_law_lowest","_law_lowest","_law_lowest",top 115,["_law_letter_here","_law_many"],["_law_letter_here","_law_many"],yb,.fn⟩,⟨"_law_due_terms","_law_due_terms","_law_due_terms",top 116,["_law_word","_law_w","_law_n","_law_i","_law_here","_law_wide","_law_sign_told","_law_zeros"],["_law_word","_law_w","_law_n","_law_i"],yf,.fn⟩,⟨"_law_says","_law_says","_law_says",top 117,["_law_told","_law_word","_law_count_here","_law_sizes_here","_law_part_here"],["_law_told","_law_word","_law_count_here","_law_sizes_here"],yab,.fn⟩,⟨"_law_part_says","_law_part_says","_law_part_says",top 118,["_law_sentence","_law_word","_law_count_here","_law_w","_law_n","_law_i"],["_law_sentence","_law_word","_law_count_here","_law_w","_law_n"],yw,.fn⟩,⟨"law","law","law",top 119,["_law_script","_law_state","_law_sizes_here","_law_told"],["_law_script"],ybe,.fn⟩]
 al:=[eD "word" 0,eF "rows" 1,eF "rounds" 2,eD "lowest" 3,eD "term" 4,eD "moved" 5,eF "doubled" 6,eF "kept_mark" 7,eF "kept_contrary" 8,eF "asked_words" 9,eF "answer_marks" 10,eF "quotient_telling" 11,eF "by_nought" 12,eF "divided" 13,eF "next_place" 14,eF "less_divisor" 15,eF "put_back" 16,eF "next_figure" 17,eF "telling" 18,eF "is_deed" 19,eF "named_telling" 20,eF "_law_fresh" 21,eF "_law_mixed" 22,eF "_law_fill" 23,eF "_law_take" 24,eF "_law_sizes" 25,eF "_law_whole" 26,eF "_law_wholes" 27,eF "_law_letter" 28,eF "_law_index_cell" 29,eF "_law_telling_row" 30,eF "_law_thing" 31,eF "_law_is_sentence" 32,eF "_law_part" 33,eF "_law_is_telling" 34,eF "_law_at" 35,eF "_law_count" 36,eF "_law_reckoned" 37,eF "_law_lowest" 38,eF "_law_due_terms" 39,eF "_law_says" 40,eF "_law_part_says" 41,eF "law" 42,eC "BACK" ydF,eC "EACH_PLACE" yeC,eC "EACH_WORD" ya,eC "LONE" yeP,eC "MARKS" yd3,eC "NIL" yci,eC "PAIRED" yeR,eC "PAIRWISE" yeT,eC "SEEN" yd0,eC "SHIFTS" yeo,eC "SPARE" yd4]
 bs:=["abs","all","bool","dict","enumerate","int","isinstance","len","range","sorted","str","tuple"]
 ts:=[.bool,.int,.str,.tuple]
 fl:=[]
 me:=[]
 kb:=[eK 0 1 ["i"] [AA 0,AE,AA 0,AA 0],eK 0 1 ["i","m"] [AA 0,AE,AA 0,AE],eK 0 1 ["j"] [AA 0,AA 0,AE,AA 0],eK 0 1 ["m"] [AA 0,AA 0,AA 0,AE],eK 0 2 ["m"] [AA 0,AA 0,AE],eK 3 1 ["i"] [AA 0,AE,AA 0,AA 0],eK 3 1 ["m"] [AA 0,AA 0,AA 0,AE],eK 3 2 ["m"] [AA 0,AA 0,AE],eK 4 2 [] [AA 0,AA 0,AA 0,AA 0],eK 4 2 ["i"] [AE,AA 0,AA 0,AA 0],eK 4 2 ["r"] [AA 0,AA 0,AA 0,AE],eK 5 2 [] [AA 0]]
 cn:=[]
 dd:=[]
 ml:=[]
 xs:=[]
 xc:=[]
 xm:=[]
 qh:=[]
theorem ok_all:tbQ.tbl.all (okT tbQ)=true:=by decide +kernel
theorem T_ok:∀i d,tbQ.tbl[i]?=AA d->T i=AA d.fn:=λi d h=>by
 have e:Tl=tbQ.tbl.map (·.fn):=rfl;rw[T,e,BG,h];rfl
theorem kb_all:ya8 (KbP tbQ) tbQ.kb:=by
 repeat' (first|exact trivial|(refine⟨kbP rfl rfl rfl rfl rfl ⋯ ?_,?_⟩;((repeat intro _);exact⟨_,rfl,rfl⟩)))
end WK
namespace IC
open PySem
def ybm(call:Cl)(t:Tg)(b:Css)(xs:List PV)(ρ:Env)(st:SO):Fl:=forL t (λρ2 st2=>exs call ρ2 st2 b) xs ρ st
def yan(call:Cl)(c:Ce)(b:Css)(n:Nat)(ρ:Env)(st:SO):Fl:=yV (λρ2 st2=>ev call ρ2 st2 c) (λρ2 st2=>exs call ρ2 st2 b) n ρ st
def ybT(call:Cl)(ρ0:Env)(t:Tg)(c e:Ce)(x:PV)(st2:SO):R (Option PV):=match yx t x ρ0 with
 |none=>.bad
 |some ρ1=>(ev call ρ1 st2 c).bind λb st3=>onO (yag st3 b) λk=>cond k ((ev call ρ1 st3 e).bind λy st4=>.ok (AA y) st4) (.ok AE st3)
def yZ(call:Cl)(ρ0:Env)(t:Tg)(c e:Ce)(xs:List PV)(st:SO):R (List PV):=yaF (ybT call ρ0 t c e) xs st
def yal(f:Fl)(k:Env->SO->Fl):Fl:=
 match f with
 |.nx ρ st=>k ρ st
 |f=>f
def nxO(o:Option Env)(st:SO):Fl:=
 match o with
 |some ρ=>.nx ρ st
 |none=>.bad
def stO(ρ:Env)(o:Option SO):Fl:=
 match o with
 |some st=>.nx ρ st
 |none=>.bad
section
variable {call:Cl}{ρ:Env}{st:SO}
theorem x_for{t:Tg}{it:Cit}{b:Css}:ex call ρ st (.for t it b)=(evi call ρ st it).fl ρ λxs st1=>ybm call t b xs ρ st1:=rfl
def zgq{c:Ce}{b:Css}:ex call ρ st (.while c b)=yan call c b 100000 ρ st:=rfl
theorem v_comp{sl:List (Option Nat)}{t:Tg}{it:Cit}{c e:Ce}:ev call ρ st (.comp sl t it c e)=(evi call ρ st it).bind λxs st1=>yba (yZ call (sl.map λo=>o.bind λj=>(ρ[j]?).join) t c e xs st1):=rfl
def zag{t:Tg}{b:Css}:ybm call t b [] ρ st=.nx ρ st:=rfl
def zA{t:Tg}{b:Css}{x:PV}{xs:List PV}{ρ1:Env}(h:yx t x ρ=AA ρ1):ybm call t b (x::xs) ρ st=yX (exs call ρ1 st b) λρ2 st2=>ybm call t b xs ρ2 st2:=by
 rw[ybm,forL,h];rfl
def zb6{t:Tg}{b:Css}(P:Nat->Env->SO->Prop):∀(xs:List PV) (i:Nat) (ρ:Env) (st:SO),P i ρ st ->
  (∀(j:Nat) (x:PV) (ρ:Env) (st:SO),xs[j]?=AA x->P (i+j) ρ st->∃ρ1 ρ2 st2,yx t x ρ=AA ρ1/\exs call ρ1 st b=.nx ρ2 st2/\P (i+j+1) ρ2 st2) ->
  ∃ρ' st',ybm call t b xs ρ st=.nx ρ' st'/\P (i+xs.length) ρ' st'
 |[],i,ρ,st,h,_=>⟨ρ,st,zag,h⟩
 |x::xs,i,ρ,st,h,k=>by
  let⟨ρ1,ρ2,st2,e1,e2,h2⟩:=k 0 x ρ st rfl h;let⟨ρ',st',e3,h3⟩:=zb6 P xs (i+1) ρ2 st2 h2 λj y ρ st hy hp=>by
   have:=k (j+1) y ρ st (by simpa using hy) (by rw[show i+(j+1)=i+1+j by lia];exact hp);rw[show i+(j+1)+1=i+1+j+1 by lia]at this;exact this
  refine⟨ρ',st',?_,by rw[Ag,show i+(xs.length+1)=i+1+xs.length by lia];exact h3⟩;rw[zA e1,e2];exact e3
def zd7{c:Ce}{b:Css}{n:Nat}{x:PV}{st1 st2:SO}{ρ2:Env}(h:ev call ρ st c=.ok x st1)(ht:yag st1 x=AA AC)(hb:exs call ρ st1 b=.nx ρ2 st2):yan call c b (n+1) ρ st=yan call c b n ρ2 st2:=by
 rw[yan,yV,h];erw[R.fl,ht,onF,cond_true,hb,yX];rfl
def zbY{c:Ce}{b:Css}{n:Nat}{x:PV}{st1:SO}(h:ev call ρ st c=.ok x st1)(ht:yag st1 x=AA AG):yan call c b (n+1) ρ st=.nx ρ st1:=by
 rw[yan,yV,h];erw[R.fl,ht,onF,cond_false]
def zdw{ρ0:Env}{t:Tg}{c e:Ce}:yZ call ρ0 t c e [] st=.ok [] st:=rfl
def zX{ρ0:Env}{t:Tg}{c e:Ce}{x:PV}{xs:List PV}:yZ call ρ0 t c e (x::xs) st=(ybT call ρ0 t c e x st).bind λo st1=>(yZ call ρ0 t c e xs st1).bind λys st2=>.ok (yaH o ys) st2:=rfl
def zbp{ρ0:Env}{t:Tg}{c e:Ce}{f:PV->PV}:∀(xs:List PV),(∀x∈xs,ybT call ρ0 t c e x st=.ok (AA (f x)) st)->yZ call ρ0 t c e xs st=.ok (xs.map f) st
 |[],_=>zdw
 |x::xs,h=>by
  rw[zX,h x Aa];erw[R.bind];rw[zbp xs λy hy=>h y (AU _ hy)];rfl
theorem xs_nil:exs call ρ st .nil=.nx ρ st:=rfl
theorem xs_cons{s:Cs}{ss:Css}:exs call ρ st (.cons s ss)=yal (ex call ρ st s) λρ1 st1=>exs call ρ1 st1 ss:=rfl
theorem x_asg{t:Tg}{e:Ce}:ex call ρ st (.asg t e)=(ev call ρ st e).fl ρ λv st1=>nxO (yx t v ρ) st1:=rfl
theorem x_expr{e:Ce}:ex call ρ st (.expr e)=(ev call ρ st e).fl ρ λ_ st1=>.nx ρ st1:=rfl
theorem x_ret{e:Ce}:ex call ρ st (.ret e)=(ev call ρ st e).fl ρ λv st1=>.rt v st1:=rfl
theorem x_ite{c:Ce}{a b:Css}:ex call ρ st (.ite c a b)=(ev call ρ st c).fl ρ λx st1=>onF (yag st1 x) λk=>cond k (exs call ρ st1 a) (exs call ρ st1 b):=rfl
theorem x_six{o i e:Ce}:ex call ρ st (.six o i e)=(ev call ρ st e).fl ρ λv st1=>(ev call ρ st1 o).fl ρ λx st2=>(ev call ρ st2 i).fl ρ λy st3=>stO ρ (yaP st3 x y v):=rfl
theorem x_dput{o i e:Ce}:ex call ρ st (.dput o i e)=(ev call ρ st e).fl ρ λv st1=>(ev call ρ st1 o).fl ρ λx st2=>(ev call ρ st2 i).fl ρ λy st3=>stO ρ (yaS st3 x y v):=rfl
def ziN{i:Nat}{o:BOp}{e:Ce}{x:PV}(h:ρ[i]?=AA (AA x)):ex call ρ st (.aug i o e)=(ev call ρ st e).fl ρ λy st1=>nxO ((ya3 o x y).map λz=>ρ.set i (AA z)) st1:=by
 rw[ex,h];show (ev call ρ st e).fl ρ _=_;refine congrArg _ (funext λy=>funext λst1=>?_)
 cases ya3 o x y<;>rfl
end
theorem ve1(call:Nat->List PV->SO->R PV)(ρ:Env)(st:SO)(v:PV):
  ev call ρ st (Ce.cst v)=R.ok v st:=rfl
theorem ve2(call:Nat->List PV->SO->R PV)(ρ:Env)(st:SO)(i:Nat):
  ev call ρ st (Ce.var i) =
  match ρ[i]? with
  |some (AA v)=>R.ok v st
  |x=>R.bad:=rfl
theorem ve3(call:Nat->List PV->SO->R PV)(ρ:Env)(st:SO)(o:BOp)(a b:Ce):
  ev call ρ st (Ce.bin o a b)=R.bind (ev call ρ st a) λx st1=>R.bind (ev call ρ st1 b) λy st2=>toR (yC o x y) st2:=rfl
theorem ve4(call:Nat->List PV->SO->R PV)(ρ:Env)(st:SO)(a:Ce):
  ev call ρ st (Ce.neg a) =
  R.bind (ev call ρ st a) λx st1=>
   match x with
   |PV.int i=>R.ok (PV.int (-i)) st1
   |x=>R.bad:=rfl
theorem ve5(call:Nat->List PV->SO->R PV)(ρ:Env)(st:SO)(a:Ce):
  ev call ρ st (Ce.not a)=R.bind (ev call ρ st a) λx st1=>onBl x λk=>R.ok (PV.bl !k) st1:=rfl
theorem ve6(call:Nat->List PV->SO->R PV)(ρ:Env)(st:SO)(a b:Ce):
  ev call ρ st (Ce.and a b)=R.bind (ev call ρ st a) λx st1=>onBl x λk=>bif k then ev call ρ st1 b else R.ok (PV.bl AG) st1:=rfl
theorem ve7(call:Nat->List PV->SO->R PV)(ρ:Env)(st:SO)(a b:Ce):
  ev call ρ st (Ce.or a b)=R.bind (ev call ρ st a) λx st1=>onBl x λk=>bif k then R.ok (PV.bl AC) st1 else ev call ρ st1 b:=rfl
theorem ve8(call:Nat->List PV->SO->R PV)(ρ:Env)(st:SO)(o:COp)(a b:Ce):
  ev call ρ st (Ce.cmp o a b)=R.bind (ev call ρ st a) λx st1=>R.bind (ev call ρ st1 b) λy st2=>toR (yr o x y) st2:=rfl
theorem ve9(call:Nat->List PV->SO->R PV)(ρ:Env)(st:SO)(o p:COp)(a b c:Ce):
  ev call ρ st (Ce.chain o p a b c)=R.bind (ev call ρ st a) λx st1=>R.bind (ev call ρ st1 b) λy st2=>onO (blO (yr o x y)) λk=>bif k then R.bind (ev call ρ st2 c) λz st3=>toR (yr p y z) st3 else R.ok (PV.bl AG) st2:=rfl
theorem ve10(call:Nat->List PV->SO->R PV)(ρ:Env)(st:SO)(c a b:Ce):
  ev call ρ st (Ce.ite c a b)=R.bind (ev call ρ st c) λx st1=>onO (yag st1 x) λk=>bif k then ev call ρ st1 a else ev call ρ st1 b:=rfl
theorem ve11(call:Nat->List PV->SO->R PV)(ρ:Env)(st:SO)(es:Ces):
  ev call ρ st (Ce.tup es)=R.bind (evs call ρ st es) λvs st1=>if B6 vs<=sizeMax then R.ok (PV.tup vs) st1 else R.bad:=rfl
theorem ve12(call:Nat->List PV->SO->R PV)(ρ:Env)(st:SO)(es:Ces):
  ev call ρ st (Ce.lst es)=R.bind (evs call ρ st es) λvs st1=>if B6 vs<=sizeMax then R.ok (PV.lst vs) st1 else R.bad:=rfl
theorem ve13(call:Nat->List PV->SO->R PV)(ρ:Env)(st:SO)(es:Ces):
  ev call ρ st (Ce.newl es)=R.bind (evs call ρ st es) λvs st1=>if B6 vs<=sizeMax then R.ok (PV.loc (B6 st1)) (st1++[Ob.lst vs])else R.bad:=rfl
theorem ve14(call:Nat->List PV->SO->R PV)(ρ:Env)(st:SO)(kvs:List (AS×Int)):
  ev call ρ st (Ce.newd kvs)=if B6 kvs<=15 then R.ok (PV.loc (B6 st)) (st++[Ob.dct AG (List.foldl (λacc kv=>put (PV.str (Prod.fst kv)) (PV.int (Prod.snd kv)) acc) [] kvs)])else R.bad:=rfl
theorem ve15(call:Nat->List PV->SO->R PV)(ρ:Env)(st:SO)(t:Bool):
  ev call ρ st (Ce.dict0 t)=R.ok (PV.loc (B6 st)) (st++[Ob.dct t []]):=rfl
theorem ve16(call:Nat->List PV->SO->R PV)(ρ:Env)(st:SO)(a i:Ce):
  ev call ρ st (Ce.idx a i)=R.bind (ev call ρ st a) λx st1=>R.bind (ev call ρ st1 i) λy st2=>toR (idxV st2 x y) st2:=rfl
theorem ve17(call:Nat->List PV->SO->R PV)(ρ:Env)(st:SO)(a l h:Ce):
  ev call ρ st (Ce.slc a l h)=R.bind (ev call ρ st a) λx st1=>R.bind (ev call ρ st1 l) λy st2=>onP (ybA y) λo=>R.bind (ev call ρ st2 h) λz st3=>toR (ycQ x o z) st3:=rfl
theorem ve18(call:Nat->List PV->SO->R PV)(ρ:Env)(st:SO)(f:Nat)(es:Ces):
  ev call ρ st (Ce.call f es)=R.bind (evs call ρ st es) λvs st1=>call f vs st1:=rfl
theorem ve19(call:Nat->List PV->SO->R PV)(ρ:Env)(st:SO)(b:Blt)(es:Ces):
  ev call ρ st (Ce.blt b es)=R.bind (evs call ρ st es) λvs st1=>toR (yaL b st1 vs) st1:=rfl
theorem ve20(call:Nat->List PV->SO->R PV)(ρ:Env)(st:SO)(m:Mth)(o:Ce)(es:Ces):
  ev call ρ st (Ce.mth m o es)=R.bind (ev call ρ st o) λx st1=>onO (yar m st1 x) λx_1=>R.bind (evs call ρ st1 es) λvs st2=>ybI m st2 x vs:=rfl
theorem ve21(call:Nat->List PV->SO->R PV)(ρ:Env)(st:SO)(a:Ce)(ts:List Ty):
  ev call ρ st (Ce.isi a ts)=R.bind (ev call ρ st a) λx st1=>toR (ybn x ts) st1:=rfl
theorem ve24(call:Nat->List PV->SO->R PV)(ρ:Env)(st:SO):
  ev call ρ st Ce.nope=R.bad:=rfl
theorem ve41(call:Nat->List PV->SO->R PV)(ρ:Env)(st:SO)(sl:List (Option Nat))(tg:Tg)(i e:Ce):
  ev call ρ st (Ce.cml sl tg i e) =
  R.bind (ev call ρ st i) λv st1=>
   match v with
   |PV.loc n=>
    have ρ0:=List.map (λo=>Option.bind o λj=>Option.join ρ[j]?) sl;
    yba
     (yae
      (λx st2=>
       match yx tg x ρ0 with
       |none=>R.bad
       |some ρ1=>R.bind (ev call ρ1 st2 e) λy st4=>R.ok (AA y) st4)
      n 1000000 0 st1)
   |x=>R.bad:=rfl
theorem ve46(call:Nat->List PV->SO->R PV)(ρ:Env)(st:SO)(a:Ce):
  ev call ρ st (Ce.srt a)=R.bind (ev call ρ st a) λx st1=>toR (ycy st1 x) st1:=rfl
theorem ve47(call:Nat->List PV->SO->R PV)(ρ:Env)(st:SO)(i:Nat):
  ev call ρ st (Ce.dfl i)=ycE st ρ[i]?:=rfl
theorem ve48(call:Nat->List PV->SO->R PV)(ρ:Env)(st:SO)(a b:Ce):
  ev call ρ st (Ce.dne a b)=R.bind (ev call ρ st a) λx st1=>R.bind (ev call ρ st1 b) λy st2=>toR (ybv st2 x y) st2:=rfl
end IC
namespace WK
open IC PySem
mutual
noncomputable def pvq:PV->PV->Bool
 |.non,.non=>AC
 |.bl a,.bl b=>a==b
 |.int i,.int j=>decide (i=j)
 |.str x,.str y=>decide (x=y)
 |.tp k xs,.tp l ys=>(k==l)&&ybZ xs ys
 |.lst xs,.lst ys=>ybZ xs ys
 |_,_=>AG
noncomputable def ybZ:List PV->List PV->Bool
 |[],[]=>AC
 |x::xs,y::ys=>pvq x y&&ybZ xs ys
 |_,_=>AG
end
mutual
theorem zdS:∀(a b:PV),pvq a b=AC->a=b
 |.non,b,h=>by cases b<;>simp[pvq]at h ⊢
 |.bl a,b,h=>by cases b<;>simp[pvq]at h ⊢;exact h
 |.int a,b,h=>by cases b<;>simp[pvq]at h ⊢;exact h
 |.str a,b,h=>by cases b<;>simp[pvq]at h ⊢;exact h
 |.tp k xs,b,h=>by
  cases b<;>simp[pvq]at h ⊢
  exact⟨h.1,zbL _ _ h.2⟩
 |.lst xs,b,h=>by
  cases b<;>simp[pvq]at h ⊢
  exact zbL _ _ h
 |.loc _,b,h=>by cases b<;>simp[pvq]at h
 |.fnc _,b,h=>by cases b<;>simp[pvq]at h
 |.exn _,b,h=>by cases b<;>simp[pvq]at h
 |.scr _,b,h=>by cases b<;>simp[pvq]at h
theorem zbL:∀(a b:List PV),ybZ a b=AC->a=b
 |[],b,h=>by cases b<;>simp[ybZ]at h ⊢
 |x::xs,b,h=>by
  cases b with
  |nil=>simp[ybZ]at h
  |cons y ys=>
   simp[ybZ]at h;rw[zdS x y h.1,zbL xs ys h.2]
end
def isOk(r:R PV)(v:PV):Bool:=match r with
 |.ok w []=>pvq w v
 |_=>AG
def zdU{r:R PV}{v:PV}(h:isOk r v=AC):r=.ok v []:=by
 match r with
 |.ok w []=>rw[zdS w v h]
 |.ok w (_::_)=>simp[isOk]at h
 |.exc _ _=>simp[isOk]at h
 |.bad=>simp[isOk]at h
def chS(c:Nat):Str:=⟨#[c]⟩
def yds(c:Nat)(i:Int):PV:=.tup [.str (chS c),.int i]
abbrev Mem:=Nat->Int->Int
def upd(M:Mem)(c:Nat)(i v:Int):Mem:=λd j=>if d=c/\j=i then v else M d j
def Rel(kvs:List (PV×PV))(M:Mem):Prop:=∀c i,(look (yds c i) kvs).getD (.int 0)=.int (M c i)
abbrev Cel:=Nat×Int
inductive Rw where
 |mark (d:Int)|ask (x:Cel)|set (t:Cel) (d:Int)|move (t x:Cel)|bare (t x:Cel)|twice (t x:Cel)|half (t x:Cel)
 |sum (t x y:Cel)|less (t x y:Cel)|both (t x y:Cel)|any (t x y:Cel)|odd (t x y:Cel)
def zeL{st:SO}{n:Nat}{o:Ob}(h:st[n]?=AA o):st=st.set n o:=by
 refine FT λi=>?_;rw[Ci];split
 .rename_i e;subst e;split
  .exact h
  .rename_i z;rw[Bn ∅]at h
   cases h
 .rfl
def zap(i:Int):shp (.int i)=true:=rfl
section
variable {st:SO}{k:Bool}{a b c d e:PV}{r:List PV}{i j:Int}
theorem ix0:idxV st (.tp k (a::r)) (.int 0)=AA a:=by simp[idxV,yaw,at?,ixI]
theorem ix1:idxV st (.tp k (a::b::r)) (.int 1)=AA b:=by
 have:(1:Int)<(r.length:Int)+1+1:=by lia
 simp[idxV,yaw,at?,ixI,this]
theorem ix2:idxV st (.tp k (a::b::c::r)) (.int 2)=AA c:=by
 have:(2:Int)<(r.length:Int)+1+1+1:=by lia
 simp[idxV,yaw,at?,ixI,this]
theorem ix3:idxV st (.tp k (a::b::c::d::r)) (.int 3)=AA d:=by
 have:(3:Int)<(r.length:Int)+1+1+1+1:=by lia
 simp[idxV,yaw,at?,ixI,this]
theorem b_add:yC .add (.int i) (.int j)=AA (.int (i+j)):=rfl
theorem b_sub:yC .sub (.int i) (.int j)=AA (.int (i-j)):=rfl
def zgz(h:i.natAbs<18446744073709551616 \/ j.natAbs<18446744073709551616):yC .mul (.int i) (.int j)=AA (.int (i*j)):=by
 have:yak i j=true:=by simpa [yak] using h
 simp[yC,binI,this]
def z8(h:i.natAbs<18446744073709551616):yC .mul (.int i) (.int j)=AA (.int (i*j)):=zgz (.inl h)
def z7(h:j.natAbs<18446744073709551616):yC .mul (.int i) (.int j)=AA (.int (i*j)):=zgz (.inr h)
theorem b_mul2:yC .mul (.int 2) (.int j)=AA (.int (2*j)):=zgz (.inl ⋯)
def ziq(h:0<j)(h2:j<18446744073709551616*18446744073709551616):yC .fdiv (.int i) (.int j)=AA (.int (i/j)):=by
 have h3:j<10000000000000000000000000000000000000000000000000000000000000000000000:=by lia
 simp[yC,binI,h,h3]
theorem b_div2:yC .fdiv (.int i) (.int 2)=AA (.int (i/2)):=rfl
def zhj(h:0<j):yC .mod (.int i) (.int j)=AA (.int (i%j)):=by simp[yC,binI,h]
theorem toR_some{v:PV}:toR (AA v) st=.ok v st:=rfl
theorem c_ne:yr .ne (.int i) (.int j)=AA (.bl (!(i==j))):=by simp[yr,zap,peq]
theorem c_eq:yr .eq (.int i) (.int j)=AA (.bl (i==j)):=by simp[yr,zap,peq]
theorem c_lt:yr .lt (.int i) (.int j)=AA (.bl (decide (i<j))):=rfl
theorem c_le:yr .le (.int i) (.int j)=AA (.bl (decide (i<=j))):=rfl
theorem c_gt:yr .gt (.int i) (.int j)=AA (.bl (decide (j<i))):=rfl
theorem c_ge:yr .ge (.int i) (.int j)=AA (.bl (decide (j<=i))):=rfl
theorem t_bl{b:Bool}:yag st (.bl b)=AA b:=rfl
theorem on_t{f:Bool->Fl}{b:Bool}:onF (AA b) f=f b:=rfl
theorem ono{α:Type}{f:Bool->R α}{b:Bool}:onO (AA b) f=f b:=rfl
theorem stO_some{ρ:IC.Env}:stO ρ (AA st)=.nx ρ st:=rfl
theorem nxO_some{ρ:IC.Env}:nxO (AA ρ) st=.nx ρ st:=rfl
theorem fl_ok{α:Type}{a:α}{ρ:IC.Env}{k:α->SO->Fl}:(R.ok a st).fl ρ k=k a st:=rfl
theorem bd_ok{α β:Type}{a:α}{k:α->SO->R β}:(R.ok a st).bind k=k a st:=rfl
theorem th_nx{ρ:IC.Env}{k:IC.Env->SO->Fl}:yal (.nx ρ st) k=k ρ st:=rfl
theorem th_rt{v:PV}{k:IC.Env->SO->Fl}:yal (.rt v st) k=.rt v st:=rfl
theorem fl_exc{α:Type}{c:Nat}{ρ:IC.Env}{k:α->SO->Fl}:(R.exc c st:R α).fl ρ k=.exc c ρ st:=rfl
theorem bd_exc{α β:Type}{c:Nat}{k:α->SO->R β}:(R.exc c st:R α).bind k=.exc c st:=rfl
theorem th_exc{c:Nat}{ρ:IC.Env}{k:IC.Env->SO->Fl}:yal (.exc c ρ st) k=.exc c ρ st:=rfl
theorem noLocs_ints:∀(l:List Int),nLs (l.map PV.int)=AC
 |[]=>rfl
 |_::l=>by simp[nLs,nL,noLocs_ints l]
theorem bT_n{i:Nat}{v:PV}{ρ:IC.Env}:yx (.n i) v ρ=AA (ρ.set i (AA v)):=rfl
theorem mget{o k d:PV}:ybI .get st o [k,d]=ycW st o k d:=rfl
end
def yP:PV:=.tup [.int 2147483647,.int 2147483629,.int 2147483587,.int 2147483579,.int 2147483563]
def ycM:Css:=match yS.body with
 |.cons _ (.cons _ (.cons (.for _ _ b) _))=>b
 |_=>.nil
def zak{c:Cl}{s num g p:Int}{i:Nat}{u5 u6 u7:Option PV}(hg:∀st,idxV st (.tup [.int 11,.int 101,.int 1009,.int 10007,.int 100003]) (.int i)=AA (.int g))(hi:i<5)(hp:0<p)(hp2:p<18446744073709551616):
  ∃num' v5 v6 v7,exs c [AA (.int s),AA yP,AA (.int num),AA (.int i),AA (.int p),u5,u6,u7] [] ycM=.nx [AA (.int s),AA yP,AA (.int num'),AA (.int i),AA (.int p),v5,v6,v7] []:=by
 have h1:∀z:Int,yC .mul (.int z) (.int (48271+2*(i:Int)))=AA (.int (z*(48271+2*(i:Int)))):=λz=>z7 ∅;have h2:∀z y:Int,yC .mul (.int z) (.int (y%p))=AA (.int (z*(y%p))):=λz y=>z7 (by
  have a:=ET y (show p≠0 by lia);have b:=D4 y hp;lia)
 have h3:∀z:Int,yC .mul (.int z) (.int p)=AA (.int (z*p)):=λz=>z7 ∅;erw[ycM,yS,Ag,Bt,Nat.zero_add,Nat.reduceAdd,if_true,xs_cons,xs_nil,x_asg,IC.ve1,IC.ve2,IC.ve3,IC.ve11,IC.ve16,evs,A9,A6,bd_ok,fl_ok,toR_some,bT_n,nxO_some,th_nx,Au,BA,sizeMax,Nat.reduceLeDiff,b_add,b_mul2,hg,h1,h2,h3,zhj hp];exact⟨_,_,_,_,rfl⟩
def zeS{c:Cl}{s num:Int}{u5 u6 u7:Option PV}(i:Nat)(p:Int)(h:(i,p)∈[(0,(2147483647:Int)),(1,2147483629),(2,2147483587),(3,2147483579),(4,2147483563)]):
  ∃num' v5 v6 v7,exs c [AA (.int s),AA yP,AA (.int num),AA (.int i),AA (.int p),u5,u6,u7] [] ycM=.nx [AA (.int s),AA yP,AA (.int num'),AA (.int i),AA (.int p),v5,v6,v7] []:=by
 erw[A8,Prod.mk.injEq,Bi,or_false]at h;rcases h with⟨rfl,rfl⟩|⟨rfl,rfl⟩|⟨rfl,rfl⟩|⟨rfl,rfl⟩|⟨rfl,rfl⟩
 .exact zak (λ_=>rfl) ⋯ ⋯ ⋯
 .exact zak (λ_=>rfl) ⋯ ⋯ ⋯
 .exact zak (λ_=>rfl) ⋯ ⋯ ⋯
 .exact zak (λ_=>rfl) ⋯ ⋯ ⋯
 .exact zak (λ_=>rfl) ⋯ ⋯ ⋯
def yc4:List PV:=[.tup [.int 0,.int 2147483647],.tup [.int 1,.int 2147483629],.tup [.int 2,.int 2147483587],.tup [.int 3,.int 2147483579],.tup [.int 4,.int 2147483563]]
theorem mixed(k:Nat)(s:Int)(st:SO):∃num,ye T (k+1) yes [.int s] st=.ok (.int num) st:=by
 let⟨ρ',st',h,num,a,b,c,d,e,e1,e2⟩:=zb6 (call:=ye T k) (t:=.t [3,4]) (b:=ycM) (λ_ ρ st=>∃num a b c d e,ρ=[AA (.int s),AA yP,AA (.int num),a,b,c,d,e]/\st=[]) yc4 0 [AA (.int s),AA yP,AA (.int 0),AE,AE,AE,AE,AE] [] ⟨_,_,_,_,_,_,rfl,rfl⟩ (by
  rintro j x ρ st hx ⟨num,a,b,c,d,e,rfl,rfl⟩
  have hx:=AZ hx;have hx:∃i p,x=.tup [.int ((i:Nat):Int),.int p]/\(i,p)∈[(0,(2147483647:Int)),(1,2147483629),(2,2147483587),(3,2147483579),(4,2147483563)]:=by
   erw[yc4,A8,Bi,or_false]at hx;rcases hx with rfl|rfl|rfl|rfl|rfl
   .exact⟨0,_,rfl,by simp⟩
   .exact⟨1,_,rfl,by simp⟩
   .exact⟨2,_,rfl,by simp⟩
   .exact⟨3,_,rfl,by simp⟩
   .exact⟨4,_,rfl,by simp⟩
  let⟨i,p,rfl,hm⟩:=hx;let⟨num',v5,v6,v7,hh⟩:=zeS (c:=ye T k) (s:=s) (num:=num) (u5:=c) (u6:=d) (u7:=e) i p hm;exact⟨_,_,_,rfl,hh,_,_,_,_,_,_,rfl,rfl⟩)
 subst e1 e2;refine⟨num,?_⟩;rw[ye];have hb:yS.body=.cons (.asg (.n 1) (.tup (.cons (.cst (.int 2147483647)) (.cons (.cst (.int 2147483629)) (.cons (.cst (.int 2147483587)) (.cons (.cst (.int 2147483579)) (.cons (.cst (.int 2147483563)) .nil))))))) (.cons (.asg (.n 2) (.cst (.int 0))) (.cons (.for (.t [3,4]) (.enum (.var 1)) ycM) (.cons (.ret (.var 2)) .nil))):=rfl;have hT:T yes=AA ⟨1,8,AC,yS.body⟩:=rfl;have hp:PV.tup [.int 2147483647,.int 2147483629,.int 2147483587,.int 2147483579,.int 2147483563]=yP:=rfl;rw[hT,hb];have h5:ev (ye T k) [AA (.int s),AE,AE,AE,AE,AE,AE,AE] [] (.tup (.cons (.cst (.int 2147483647)) (.cons (.cst (.int 2147483629)) (.cons (.cst (.int 2147483587)) (.cons (.cst (.int 2147483579)) (.cons (.cst (.int 2147483563)) .nil))))))=.ok yP []:=by
  simp[IC.ve1,IC.ve11,evs,R.bind,sizeMax,yP]
 have he:evi (ye T k) [AA (.int s),AA yP,AA (.int 0),AE,AE,AE,AE,AE] [] (.enum (.var 1))=.ok yc4 []:=by
  simp[evi,IC.ve2,R.bind,yP,yL,yc4]
 erw[Ag,Bt,if_true,nLs,nL,Em,AX,BQ,Dj,Am,CT,BX,xs_cons,xs_nil,x_asg,x_for,x_ret,h5,R.fl,yx,nxO,yal,Au,BA,IC.ve1,he,h,IC.ve2,A9,A6]
def zcc(f:PV->Bool):∀xs:List PV,allB (xs.map λx=>.bl (f x))=AA (xs.all f)
 |[]=>rfl
 |x::xs=>by simp[allB,zcc f xs]
def zb0(ys:List PV)(h:ys.length<=1000000)(st:SO):yba (.ok ys st)=.ok (.lst ys) st:=by simp[yba,h]
def zcK(f:PV->Bool)(xs:List PV)(st:SO):yaL .all st [.lst (xs.map λx=>.bl (f x))]=AA (.bl (xs.all f)):=by
 simp[yaL,yu,zcc]
def zeT(n:Nat)(h:n<1000):ycJ (.int (n:Int))=AA (yF n 0 1):=by
 simp[ycJ];lia
def za3{z:Int}(h:0<=z):∃n:Nat,z=n:=⟨z.toNat,by lia⟩
def yby(st:SO)(f:Fl):R PV:=
 match f with
 |.rt v _=>if nL v then .ok v st else .bad
 |.nx _ _=>.ok .non st
 |.exc c _ _=>.exc c st
 |_=>.bad
def zi{T:Nat->Option IC.Fn}{k f:Nat}{fn:IC.Fn}{args:List PV}{st:SO}(hT:T f=AA fn)(hp:fn.pure=AC)(hl:args.length=fn.np)(hn:nLs args=AC):
  ye T (k+1) f args st=yby st (exs (ye T k) (args.map AA++Am (fn.ns-fn.np) AE) [] fn.body):=by
 rw[ye,hT];dsimp only;rw[if_pos hl,if_pos hp,if_pos hn];rfl
def outI(f:Fl):R PV:=
 match f with
 |.rt v st1=>.ok v st1
 |.nx _ st1=>.ok .non st1
 |.exc c _ st1=>.exc c st1
 |_=>.bad
def za9{T:Nat->Option IC.Fn}{k f:Nat}{fn:IC.Fn}{args:List PV}{st:SO}(hT:T f=AA fn)(hp:fn.pure=AG)(hl:args.length=fn.np):
  ye T (k+1) f args st=outI (exs (ye T k) (args.map AA++Am (fn.ns-fn.np) AE) st fn.body):=by
 rw[ye,hT];dsimp only;rw[if_pos hl,hp,if_neg (by simp)];rfl
def zfi{st:SO}{v:PV}:outI (.rt v st)=.ok v st:=rfl
def zdA{st s:SO}{b:Bool}:yby st (.rt (.bl b) s)=.ok (.bl b) st:=rfl
def zcJ{st s:SO}{b:Int}:yby st (.rt (.int b) s)=.ok (.int b) st:=rfl
set_option backward.eqns.nonrecursive true
local macro_rules | `(tactic| simp! [$xs,*])=>do
 let l<-("IC.xs_cons IC.xs_nil IC.x_asg IC.x_ite IC.x_ret IC.x_expr IC.x_for IC.x_six IC.evs IC.evi IC.ve1 IC.ve2 IC.ve3 IC.ve4 IC.ve5 IC.ve6 IC.ve7 IC.ve8 IC.ve9 IC.ve10 IC.ve11 IC.ve12 IC.ve13 IC.ve14 IC.ve15 IC.ve16 IC.ve17 IC.ve18 IC.ve19 IC.ve20 IC.ve21 IC.ve24 IC.v_comp List.getElem?_cons_zero List.getElem?_cons_succ WK.bd_ok WK.fl_ok WK.bd_exc WK.fl_exc WK.toR_some IC.toL WK.bT_n WK.nxO_some WK.th_nx WK.th_rt WK.th_exc List.set_cons_zero List.set_cons_succ WK.on_t WK.t_bl WK.ono IC.onBl cond_true cond_false List.length_cons List.length_nil Nat.zero_add Nat.reduceAdd Nat.reduceSub Nat.reduceLeDiff if_true IC.nL IC.nLs WK.noLocs_ints Bool.and_self Bool.not_true Bool.not_false List.map_cons List.map_nil List.replicate List.cons_append List.nil_append List.append_nil Option.bind_none Option.bind_some Option.join_some WK.b_add WK.b_sub WK.b_mul2 WK.b_div2 WK.c_lt WK.c_le WK.c_gt WK.c_ge WK.c_eq WK.c_ne IC.PV.tup IC.sizeMax".splitOn " ").toArray.mapM λs=>`(Lean.Parser.Tactic.simpLemma| $(Lean.mkIdent s.toName):term)
 `(tactic| simp only[$l,*,$xs,*])
theorem rdS{st:SO}{n:Nat}{o x:Ob}(h:st[n]?=AA o):(st.set n x)[n]?=AA x:=by
 have:n<st.length:=by
  rcases EM n st.length with h1|h1
  .exact h1
  .rw[Bn h1]at h;cases h
 rw[Aq this]
def zhI(ns:List Int)(a:Int)(h:ns≠[]):∃v,yaw (ns.map PV.int) (.int (a%(ns.length:Int)))=AA (.int v):=by
 have h0:0<ns.length:=Eg.2 h;have h1:=ET a (show (ns.length:Int)≠0 by lia);have h2:=D4 a (show (0:Int)<ns.length by lia);have h3:(a%(ns.length:Int)).toNat<ns.length:=by lia
 refine⟨ns[(a%(ns.length:Int)).toNat],?_⟩;simp[yaw,at?,ixI,h1,h2,h3]
def flT:Css:=match yI.body with
 |.cons _ (.cons _ (.cons _ t))=>t
 |x=>x
abbrev flS(l:PV)(a p:Int)(f:Bool):Ob:=.lst [l,.int a,.int p,.bl f]
def ziC{st:SO}{n:Nat}{l:PV}{a p v:Int}{f:Bool}(h:st[n]?=AA (flS l a p f)):yaP st (.loc n) (.int 1) (.int v)=AA (st.set n (flS l v p f)):=by erw[yaP,h];rfl
def zio{st:SO}{n:Nat}{l:PV}{a p v:Int}{f:Bool}(h:st[n]?=AA (flS l a p f)):yaP st (.loc n) (.int 2) (.int v)=AA (st.set n (flS l a v f)):=by erw[yaP,h];rfl
def ziK{st:SO}{n:Nat}{l:PV}{a p:Int}{f g:Bool}(h:st[n]?=AA (flS l a p f)):yaP st (.loc n) (.int 3) (.bl g)=AA (st.set n (flS l a p g)):=by erw[yaP,h];rfl
def zjz{st:SO}{n:Nat}{l:PV}{a p:Int}{f:Bool}(h:st[n]?=AA (flS l a p f)):idxV st (.loc n) (.int 0)=AA l:=by erw[idxV,h];rfl
def zjA{st:SO}{n:Nat}{l:PV}{a p:Int}{f:Bool}(h:st[n]?=AA (flS l a p f)):idxV st (.loc n) (.int 1)=AA (.int a):=by erw[idxV,h];rfl
def zjB{st:SO}{n:Nat}{l:PV}{a p:Int}{f:Bool}(h:st[n]?=AA (flS l a p f)):idxV st (.loc n) (.int 3)=AA (.bl f):=by erw[idxV,h];rfl
theorem p18:yC .pow (.int 10) (.int 18)=AA (.int 1000000000000000000):=by with_unfolding_all rfl
def zb9(k n:Nat){l:PV}{m a v p q:Int}{f g:Bool}{st:SO}(h:st[n]?=AA (flS l a p f))(hl:∀st,yaL .len st [l]=AA (.int m))(hg:(decide (a ≥ m) || decide (v<1000000000000000000))=g)
  (h1:g=AC->ye T (k+1) yes [.int v] (st.set n (flS l (a+1) p AC))=.ok (.int q) (st.set n (flS l (a+1) p AC))) (h2:g=AG->q=v-1000000000000000000):
  exs (ye T (k+1)) [AA (.loc n),AA l,AA (.int a),AA (.int v)] st flT=.nx [AA (.loc n),AA l,AA (.int a),AA (.int v)] (st.set n (flS l (a+1) q g)):=by
 have s1:=ziC h (v:=a+1);have r1:=rdS h (x:=flS l (a+1) p f);have s2:=ziK r1 (g:=g);have r2:=rdS r1 (x:=flS l (a+1) p g);have s3:=zio r2 (v:=q);have i3:=zjB r2;rw[DO]at s2 s3 i3 r2;rw[DO]at s3
 have hb:flT=(match flT with
  |.cons a (.cons (.six x y _) r)=>.cons a (.cons (.six x y (.or (.cmp .ge (.var 2) (.blt .len (.cons (.var 1) .nil))) (.cmp .lt (.var 3) (.bin .pow (.cst (.int 10)) (.cst (.int 18)))))) r)
  |x=>x):=rfl
 have hor:∀st,ev (ye T (k+1)) [AA (.loc n),AA l,AA (.int a),AA (.int v)] st (.or (.cmp .ge (.var 2) (.blt .len (.cons (.var 1) .nil))) (.cmp .lt (.var 3) (.bin .pow (.cst (.int 10)) (.cst (.int 18)))))=.ok (.bl g) st:=λst=>by
  cases c:decide (a ≥ m)
  .rw[c,GV]at hg;simp! [hl,c,p18,hg]
  .rw[c,G7]at hg;subst hg;simp! [hl,c]
 generalize hE:(Ce.or (.cmp .ge (.var 2) (.blt .len (.cons (.var 1) .nil))) (.cmp .lt (.var 3) (.bin .pow (.cst (.int 10)) (.cst (.int 18)))))=E at *
 cases g with
 |true=>
  have h1:=h1 rfl;rw[hb];simp! [flT,yI,stO,s1,hor,s2,i3,h1,s3]
 |false=>
  have h2:=h2 rfl;subst h2;rw[hb];simp! [flT,yI,stO,s1,hor,s2,i3,p18,s3]
theorem fill(k n:Nat)(ns:List Int)(hns:ns.length<=1000)(a p:Int)(ha:0<=a)(f:Bool)(st:SO)(h:st[n]?=AA (.lst [.lst (ns.map .int),.int a,.int p,.bl f])):
  ∃p' f',ye T (k+2) ygd [.loc n] st=.ok .non (st.set n (.lst [.lst (ns.map .int),.int (a+1),.int p',.bl f'])):=by
 have hT:T ygd=AA ⟨1,4,AG,yI.body⟩:=rfl;have hl:∀st,yaL .len st [.lst (ns.map .int)]=AA (.int (ns.length:Int)):=λst=>by
  show AA (PV.int (((ns.map PV.int).length:Nat):Int))=_;simp
 have i0:=zjz h;have i1:=zjA h;have bt:∀(a b:PV) (ρ:IC.Env),yx (.t [1,2]) (.tp AG [a,b]) ρ=AA ((ρ.set 1 (AA a)).set 2 (AA b)):=λ_ _ _=>rfl
 have hb:yI.body=(match yI.body with
  |.cons a (.cons b (.cons c _))=>.cons a (.cons b (.cons c flT))
  |x=>x):=rfl
 have m31:yC .mul (.int 31) (.int a)=AA (.int (31*a)):=z8 ⋯;obtain⟨v,hv⟩:∃v,exs (ye T (k+1)) [AA (.loc n),AE,AE,AE] st yI.body=exs (ye T (k+1)) [AA (.loc n),AA (.lst (ns.map .int)),AA (.int a),AA (.int v)] st flT:=by
  by_cases hn:ns=[]
  .have c0:decide ((ns.length:Int) > 0)=false:=by subst hn;rfl
   refine⟨31*a+7,?_⟩;rw[hb];generalize flT=F,ns.map PV.int=L at *;simp! [yI,i0,i1,bt,m31,hl,c0]
  .have h0:0<ns.length:=Eg.2 hn;let⟨v,hv⟩:=zhI ns a hn;have c0:decide ((ns.length:Int) > 0)=true:=decide_eq_true ∅;have d1:=ziq (i:=a) (j:=(ns.length:Int)) ∅ ∅;have d2:=zhj (i:=a) (j:=(ns.length:Int)) ∅;have m1:yC .mul (.int 104729) (.int (a/(ns.length:Int)))=AA (.int (104729*(a/(ns.length:Int)))):=z8 ⋯;have ix:∀st,idxV st (.lst (ns.map .int)) (.int (a%(ns.length:Int)))=AA (.int v):=λ_=>hv;refine⟨104729*(a/(ns.length:Int))+v,?_⟩;rw[hb];generalize flT=F,ns.map PV.int=L at *;simp! [yI,i0,i1,bt,m31,hl,c0,d1,d2,m1,ix]
 cases c:(decide (a ≥ (ns.length:Int)) || decide (v<1000000000000000000))with
 |true=>
  let⟨q,hq⟩:=mixed k v (st.set n (flS (.lst (ns.map .int)) (a+1) p AC));refine⟨q,AC,?_⟩;rw[za9 hT rfl rfl];have e:=zb9 k n h hl c (λ_=>hq) (λh=>nomatch h);rw[<-hv]at e;exact(congrArg _ e).trans rfl
 |false=>
  refine⟨v-1000000000000000000,AG,?_⟩;rw[za9 hT rfl rfl];have e:=zb9 k n h hl c (λh=>nomatch h) (λ_=>rfl);rw[<-hv]at e;exact(congrArg _ e).trans rfl
def yaR:Ce:=match yD.body with
 |.cons _ (.cons (.while c _) _)=>c
 |_=>.nope
def ya5:Css:=match yD.body with
 |.cons _ (.cons (.while _ b) _)=>b
 |_=>.nil
def zd5{c:Cl}{n:Nat}{ns:List Int}{a p m t:Int}{f:Bool}{u:Option PV}{st:SO}(h:st[n]?=AA (.lst [.lst (ns.map .int),.int a,.int p,.bl f])):
  ∃B,ev c [AA (.loc n),AA (.int m),AA (.int t),u] st yaR=.ok (.bl B) st/\(B=AC->t<64):=by
 by_cases h1:t<64
 .by_cases h2:p=0
  .refine⟨AC,?_,λ_=>h1⟩;erw[yaR,yD,IC.ve1,IC.ve2,IC.ve3,IC.ve6,IC.ve7,IC.ve8,IC.ve16,R.bind,A9,A6,h,idxV,yaw,at?,ixI,yC,binI,yak,toR,yr,ybd,onBl];simp[h1,h2,zap,peq]
  .have h2:(p==0)=false:=by simp[h2]
   cases f
   .refine⟨AG,?_,λ_=>h1⟩;erw[yaR,yD,IC.ve1,IC.ve2,IC.ve3,IC.ve6,IC.ve7,IC.ve8,IC.ve16,R.bind,A9,A6,h,idxV,yaw,at?,ixI,yC,binI,yak,toR,yr,ybd,onBl];simp[h,h1,h2,zap,peq]
   .refine⟨decide (p<m*4096),?_,λ_=>h1⟩;erw[yaR,yD,IC.ve1,IC.ve2,IC.ve3,IC.ve6,IC.ve7,IC.ve8,IC.ve16,R.bind,A9,A6,h,idxV,yaw,at?,ixI,yC,binI,yak,toR,yr,ybd,onBl];simp[h,h1,h2,zap,peq]
 .refine⟨AG,?_,λz=>by cases z⟩;erw[yaR,yD,IC.ve1,IC.ve2,IC.ve3,IC.ve6,IC.ve7,IC.ve8,IC.ve16,R.bind,A9,A6,h,idxV,yaw,at?,ixI,yC,binI,yak,toR,yr,ybd,onBl];simp[h1]
def zdg(k:Nat){n:Nat}{ns:List Int}(hns:ns.length<=1000){a p m t:Int}(ha:0<=a){f:Bool}{u:Option PV}{st:SO}(h:st[n]?=AA (.lst [.lst (ns.map .int),.int a,.int p,.bl f])):
  ∃p' f',exs (ye T (k+2)) [AA (.loc n),AA (.int m),AA (.int t),u] st ya5=.nx [AA (.loc n),AA (.int m),AA (.int (t+1)),u] (st.set n (.lst [.lst (ns.map .int),.int (a+1),.int p',.bl f'])):=by
 let⟨q,g,hq⟩:=fill k n ns hns a p ha f st h;have hm:(1+q%4093).natAbs<18446744073709551616:=by lia
 have hau:∀st,ex (ye T (k+2)) [AA (.loc n),AA (.int m),AA (.int t),u] st (.aug 2 .add (.cst (.int 1)))=.nx [AA (.loc n),AA (.int m),AA (.int (t+1)),u] st:=λst=>by
  rw[ziN (x:=.int t) rfl];simp[IC.ve1,R.fl,ya3,yC,binI,nxO]
 cases g
 .refine⟨q,AG,?_⟩;erw[ya5,yD,xs_cons,xs_nil,x_expr,x_ite,x_six,hau,yal,nxO,IC.ve1,IC.ve2,IC.ve3,IC.ve6,IC.ve8,IC.ve16,IC.ve18,evs,R.fl,R.bind,hq,ya3,yC,binI,C2,Au,BA,A9,A6,rdS h,idxV,yaw,at?,ixI,yak,toR,yr,ybd,onBl,onF,yag];simp[rdS h]
 .by_cases hl:q<m*4096
  .refine⟨q+m*4096*(1+q%4093),AC,?_⟩;erw[ya5,yD,xs_cons,xs_nil,x_expr,x_ite,x_six,hau,yal,nxO,IC.ve1,IC.ve2,IC.ve3,IC.ve6,IC.ve8,IC.ve16,IC.ve18,evs,R.fl,R.bind,hq,ya3,yC,binI,C2,Au,BA,A9,A6,rdS h,idxV,yaw,at?,ixI,yak,toR,yr,ybd,onBl,onF,yag,stO,yaP];simp[rdS h,hl,hm]
  .refine⟨q,AC,?_⟩;erw[ya5,yD,xs_cons,xs_nil,x_expr,x_ite,x_six,hau,yal,nxO,IC.ve1,IC.ve2,IC.ve3,IC.ve6,IC.ve8,IC.ve16,IC.ve18,evs,R.fl,R.bind,hq,ya3,yC,binI,C2,Au,BA,A9,A6,rdS h,idxV,yaw,at?,ixI,yak,toR,yr,ybd,onBl,onF,yag];simp[rdS h,hl]
def zbk(k:Nat){n:Nat}{ns:List Int}(hns:ns.length<=1000){m:Int}{u:Option PV}:∀(r N:Nat) (t a p:Int) (f:Bool) (st:SO),r<=N->64-t<=r->0<=a->st[n]?=AA (.lst [.lst (ns.map .int),.int a,.int p,.bl f]) ->
  ∃t' a' p' f',0<=a'/\yan (ye T (k+2)) yaR ya5 (N+1) [AA (.loc n),AA (.int m),AA (.int t),u] st=.nx [AA (.loc n),AA (.int m),AA (.int t'),u] (st.set n (.lst [.lst (ns.map .int),.int a',.int p',.bl f']))
 |r,N,t,a,p,f,st,hN,ht,ha,h=>by
  let⟨B,hB,hb⟩:=zd5 (c:=ye T (k+2)) (m:=m) (t:=t) (u:=u) h;have hs:st.set n (.lst [.lst (ns.map .int),.int a,.int p,.bl f])=st:=by
   refine FT λi=>?_;rw[Ci];split
   .rename_i e;subst e;split
    .exact h.symm
    .rename_i z;rw[Bn ∅]at h
     cases h
   .rfl
  cases B with
  |false=>exact⟨t,a,p,f,ha,by rw[zbY hB rfl,hs]⟩
  |true=>
   have h64:=hb rfl
   match r,N with
   |0,_=>exact absurd ht ∅
   |r+1,N+1=>
    let⟨p1,f1,hx⟩:=zdg k hns (m:=m) (t:=t) ha (u:=u) h;let⟨t',a',p',f',h0,h2⟩:=zbk k hns (m:=m) (u:=u) r N (t+1) (a+1) p1 f1 _ ∅ ∅ ∅ (rdS h);refine⟨t',a',p',f',h0,?_⟩;rw[zd7 hB rfl hx,h2,DO]
theorem take(k n:Nat)(ns:List Int)(hns:ns.length<=1000)(a p m:Int)(ha:0<=a)(hm:0<m)(hm2:m<10000000000000000000000000000000000000000000000000000000000000000000000)(f:Bool)(st:SO)(h:st[n]?=AA (.lst [.lst (ns.map .int),.int a,.int p,.bl f])):
  ∃d a' p' f',0<=d/\d<m/\0<=a'/\ye T (k+3) yet [.loc n,.int m] st=.ok (.int d) (st.set n (.lst [.lst (ns.map .int),.int a',.int p',.bl f'])):=by
 let⟨t',a',p',f',h0,h2⟩:=zbk k hns (m:=m) (u:=AE) 64 99999 0 a p f st ∅ ∅ ha h;refine⟨p'%m,a',p'/m,f',ET _ ∅,D4 _ hm,h0,?_⟩;have hb:yD.body=.cons (.asg (.n 2) (.cst (.int 0))) (.cons (.while yaR ya5) (.cons (.asg (.n 3) (.bin .mod (.idx (.var 0) (.cst (.int 2))) (.var 1))) (.cons (.six (.var 0) (.cst (.int 2)) (.bin .fdiv (.idx (.var 0) (.cst (.int 2))) (.var 1))) (.cons (.ret (.var 3)) .nil)))):=rfl;have hT:T yet=AA ⟨2,4,AG,yD.body⟩:=rfl;rw[ye,hT,hb];erw[Ag,Bt,if_true,AX,BQ,Dj,Am,CT,BX,xs_cons,xs_nil,x_asg,zgq,x_six,x_ret,yal,nxO,stO,IC.ve1,IC.ve2,IC.ve3,IC.ve16,R.fl,R.bind,yx,Au,BA,A9,A6,h2,rdS h,idxV,yaw,at?,ixI,yC,binI,hm,hm2,and_self,toR,yaP];simp[rdS h,hm,hm2]
def Drw(ns:List Int)(n:Nat)(st:SO):Prop:=∃a p f,0<=a/\st[n]?=AA (.lst [.lst (ns.map .int),.int a,.int p,.bl f])
def Onl(ns:List Int)(n:Nat)(st st':SO):Prop:=∃a p f,0<=a/\st'=st.set n (.lst [.lst (ns.map .int),.int a,.int p,.bl f])
theorem Onl.drw{ns:List Int}{n:Nat}{st st':SO}(h:Drw ns n st)(o:Onl ns n st st'):Drw ns n st':=by
 let⟨a,p,f,ha,h⟩:=h;let⟨b,q,g,hb,rfl⟩:=o;exact⟨b,q,g,hb,rdS h⟩
theorem Onl.trans{ns:List Int}{n:Nat}{st st1 st2:SO}(o:Onl ns n st st1)(o2:Onl ns n st1 st2):Onl ns n st st2:=by
 let⟨b,q,g,hb,rfl⟩:=o;let⟨c,r,j,hc,rfl⟩:=o2;exact⟨c,r,j,hc,by rw[DO]⟩
def zjh(k:Nat){n:Nat}{ns:List Int}(hns:ns.length<=1000){m:Int}(hm:0<m)(hm2:m<10000000000000000000000000000000000000000000000000000000000000000000000){st:SO}(h:Drw ns n st):
  ∃d st',0<=d/\d<m/\Onl ns n st st'/\ye T (k+3) yet [.loc n,.int m] st=.ok (.int d) st':=by
 let⟨a,p,f,ha,h⟩:=h;let⟨d,a',p',f',h1,h2,h3,h4⟩:=take k n ns hns a p m ha hm hm2 f st h;exact⟨d,_,h1,h2,⟨_,_,_,h3,rfl⟩,h4⟩
theorem sizes(k:Nat){n:Nat}{ns:List Int}(hns:ns.length<=1000){m:Int}(hm:0<m)(hm2:m<=100){st:SO}(h:Drw ns n st):
  ∃w z st',4<=w/\w<=16/\1<=z/\z<=m/\Onl ns n st st'/\ye T (k+4) yeu [.loc n,.int m] st=.ok (.tup [.int w,.int z]) st':=by
 let⟨d,s1,d1,d2,o1,e1⟩:=zjh k hns (m:=13) ∅ ∅ h;let⟨e,s2,d3,d4,o2,e2⟩:=zjh k hns (m:=m) hm ∅ (o1.drw h);refine⟨4+d,1+e,s2,by lia,by lia,by lia,by lia,o1.trans o2,?_⟩;have hT:T yeu=AA yed:=rfl;rw[ye,hT];erw[yed,Ag,Bt,if_true,AX,BQ,Dj,Am,CT,BX,xs_cons,xs_nil,x_ret,yal,IC.ve1,IC.ve2,IC.ve3,IC.ve11,IC.ve18,evs,R.fl,R.bind,A9,A6,e1,e2,yC,binI,toR];simp[sizeMax]
theorem fresh(k:Nat)(ns:List Int)(h:ns.length<=63)(st:SO):∃v,ye T (k+1) ygc [.scr (ns.map .int)] st=.ok (.loc st.length) (st++[v])/\v=.lst [.lst (ns.map .int),.int 0,.int 0,.bl AG]:=by
 have hT:T ygc=AA yd8:=rfl;refine⟨_,?_,rfl⟩;rw[ye,hT];erw[yd8,Ag,Bt,if_true,AX,BQ,Dj,Am,CT,BX,xs_cons,xs_nil,x_ret,yal,ev,evs,R.fl,R.bind,A9,toR];have hc:ycQ (.scr (ns.map PV.int)) AE (.int 63)=AA (.lst (ns.map .int)):=by
  have hk:ybg ns.length 63=ns.length:=by
   show min 63 ns.length=ns.length;lia
  simp[ycQ,ybA,ybO,cut,yb8,ycv,hk]
  try rw[<-Ap (f:=PV.int),F3]
 simp[ybA,onP,hc,sizeMax]
def tvK(s:String):PV:=match ye T 24 yi [.tp AG [.str (AO s)]] []with
 |.ok v _=>v
 |_=>.non
def ptK(s:String):List PV:=match tvK s with
 |.tp _ xs=>xs
 |_=>[]
def cK:PV:=.tp AG [.int 0,.int 0,.int 1]
def yd7(q:PV):Option Bool:=match q with
 |.tp _ xs=>match xs[0]?,xs[1]? with
  |some a,AA b=>match yr .eq a (.str "rounds")with
   |some (.bl AG)=>AA AG
   |some (.bl AC)=>match yr .eq b cK with
    |some (.bl k)=>AA k
    |_=>AE
   |_=>AE
  |_,_=>AE
 |_=>AE
def yb5:List PV->Option PV
 |[]=>AE
 |q::r=>match yd7 q with
  |some AG=>yb5 r
  |some AC=>match q with
   |.tp _ xs=>xs[2]?
   |_=>AE
  |none=>AE
def snK(s:String):PV:=(yb5 (ptK s)).getD .non
def tlB(s:String):Bool:=isOk (ye T 24 yi [.tp AG [.str (AO s)]] []) (.tp AG (ptK s))&&isOk (ye T 24 ym [.tp AG (ptK s)] []) (.bl AC)&&(yb5 (ptK s)).isSome&&nLs (ptK s)&&nL (snK s)
def zha:tlB "quotient"=true:=by decide +kernel
local macro_rules | `(tactic| simp! [$xs,*])=>do
 let l<-("IC.xs_cons IC.xs_nil IC.x_asg IC.x_ite IC.x_ret IC.x_expr IC.x_for IC.x_six IC.evs IC.evi IC.ve1 IC.ve2 IC.ve3 IC.ve4 IC.ve5 IC.ve6 IC.ve7 IC.ve8 IC.ve9 IC.ve10 IC.ve11 IC.ve12 IC.ve13 IC.ve14 IC.ve15 IC.ve16 IC.ve17 IC.ve18 IC.ve19 IC.ve20 IC.ve21 IC.ve24 IC.v_comp List.getElem?_cons_zero List.getElem?_cons_succ WK.bd_ok WK.fl_ok WK.bd_exc WK.fl_exc WK.toR_some IC.toL WK.bT_n WK.nxO_some WK.th_nx WK.th_rt WK.th_exc List.set_cons_zero List.set_cons_succ WK.on_t WK.t_bl WK.ono IC.onBl cond_true cond_false List.length_cons List.length_nil Nat.zero_add Nat.reduceAdd Nat.reduceSub Nat.reduceLeDiff if_true IC.nL IC.nLs WK.noLocs_ints Bool.and_self Bool.not_true Bool.not_false List.map_cons List.map_nil List.replicate List.cons_append List.nil_append List.append_nil Option.bind_none Option.bind_some Option.join_some WK.b_add WK.b_sub WK.b_mul2 WK.b_div2 WK.c_lt WK.c_le WK.c_gt WK.c_ge WK.c_eq WK.c_ne IC.PV.tup IC.sizeMax".splitOn " ").toArray.mapM λs=>`(Lean.Parser.Tactic.simpLemma| $(Lean.mkIdent s.toName):term)
 `(tactic| simp only[$l,*,$xs,*])
def zgd{st:SO}{f:Fl}{v:PV}(h:yby [] f=.ok v []):yby st f=.ok v st:=by
 cases f with
 |rt u s=>
  erw[yby]at h ⊢
  by_cases c:nL u=AC
  .rw[if_pos c]at h ⊢;cases h;rfl
  .rw[if_neg c]at h;cases h
 |nx ρ s=>erw[yby]at h ⊢;cases h;rfl
 |_=>cases h
def zdW{k f:Nat}{fn:IC.Fn}{args:List PV}{v:PV}(hT:T f=AA fn)(hp:fn.pure=AC)(hl:args.length=fn.np)(hn:nLs args=AC)(h:ye T (k+1) f args []=.ok v [])(st:SO):ye T (k+1) f args st=.ok v st:=by
 rw[zi hT hp hl hn]at h ⊢;exact zgd h
def szV(p:Nat×Nat):PV:=.tp AG [.int p.1,.int p.2]
def svB:Css:=match yab.body with
 |.cons (.for _ _ b) _=>b
 |_=>.nil
def svE:Ce:=.call 41 (.cons (.idx (.var 4) (.cst (.int 2))) (.cons (.var 2) (.cons (.var 3) (.cons (.var 0) (.cons (.var 1) .nil)))))
def zdX:svB=.cons (.ite (.and (.cmp .eq (.idx (.var 4) (.cst (.int 0))) (.cst (.str "rounds"))) (.cmp .eq (.idx (.var 4) (.cst (.int 1))) (.var 2))) (.cons (.ite (.blt .all (.cons (.comp [AE,AE,AA 1,AA 2,AA 4] (.t [0,1]) (.seq (.var 3)) (.cst (.bl AC)) svE) .nil)) (.cons (.ret (.cst (.bl AC))) .nil) .nil) .nil) .nil) .nil:=rfl
def zbw{wd a0 sn:PV}{zs:List (Nat×Nat)}(hl:zs.length<=10)(hz:∀p∈zs,ye T 23 yk [sn,wd,cK,.int p.1,.int p.2] []=.ok (.bl AC) []):
  ∀(ps:List PV) (u:Option PV),yb5 ps=AA sn->ybm (ye T 23) (.n 4) svB ps [AA a0,AA wd,AA cK,AA (.lst (zs.map szV)),u] []=.rt (.bl AC) []
 |[],u,h=>by cases h
 |q::r,u,h=>by
  have ih:=λu=>zbw hl hz r u (a0:=a0);rw[zA bT_n];erw[Au,BA];erw[yb5]at h
  cases q with
  |tp k xs=>
   match xs with
   |[]=>cases h
   |[_]=>cases h
   |a::b::t=>
    have i0:idxV [] (.tp k (a::b::t)) (.int 0)=AA a:=ix0;have i1:idxV [] (.tp k (a::b::t)) (.int 1)=AA b:=ix1;erw[yd7,A9,A6]at h;generalize e1:yr .eq a (.str "rounds")=o1 at h
    match o1 with
    |some (.bl AG)=>
     have go:exs (ye T 23) [AA a0,AA wd,AA cK,AA (.lst (zs.map szV)),AA (.tp k (a::b::t))] [] svB=.nx [AA a0,AA wd,AA cK,AA (.lst (zs.map szV)),AA (.tp k (a::b::t))] []:=by
      rw[zdX];simp! [i0,e1]
     rw[go];exact ih _ h
    |some (.bl AC)=>
     dsimp only at h;generalize e2:yr .eq b cK=o2 at h
     match o2 with
     |some (.bl AG)=>
      have go:exs (ye T 23) [AA a0,AA wd,AA cK,AA (.lst (zs.map szV)),AA (.tp k (a::b::t))] [] svB=.nx [AA a0,AA wd,AA cK,AA (.lst (zs.map szV)),AA (.tp k (a::b::t))] []:=by
       rw[zdX];simp! [i0,e1,i1,e2]
      rw[go];exact ih _ h
     |some (.bl AC)=>
      match t with
      |[]=>cases h
      |c::t=>
       have hc:c=sn:=by simpa using h
       subst hc;have i2:idxV [] (.tp k (a::b::c::t)) (.int 2)=AA c:=ix2;have one:∀x∈zs.map szV,ybT (ye T 23) [AE,AE,AA wd,AA cK,AA (.tp k (a::b::c::t))] (.t [0,1]) (.cst (.bl AC)) svE x []=.ok (AA (.bl AC)) []:=λx hx=>by
        let⟨p,hp,rfl⟩:=EN.1 hx;have e:=hz p hp;have bt:yx (.t [0,1]) (szV p) [AE,AE,AA wd,AA cK,AA (.tp k (a::b::c::t))]=AA [AA (.int p.1),AA (.int p.2),AA wd,AA cK,AA (.tp k (a::b::c::t))]:=rfl;erw[ybT,bt,svE];simp! [i2,e]
       have cm:=zbp (f:=λ_=>.bl AC) (zs.map szV) one;have al:yaL .all [] [.lst ((zs.map szV).map λ_=>.bl AC)]=AA (.bl AC):=by
        rw[zcK (λ_=>AC)];simp
       have go:exs (ye T 23) [AA a0,AA wd,AA cK,AA (.lst (zs.map szV)),AA (.tp k (a::b::c::t))] [] svB=.rt (.bl AC) []:=by
        rw[zdX];simp! [i0,e1,i1,e2,IC.seqOf,cm,zb0 ((zs.map szV).map λ_=>PV.bl AC) (by simp;lia),al]
       rw[go];rfl
     |some (.int _)=>cases h
     |none=>cases h
    |some (.int _)=>cases h
    |none=>cases h
  |_=>cases h
local macro_rules | `(tactic| simp! [$xs,*])=>do
 let l<-("IC.xs_cons IC.xs_nil IC.x_asg IC.x_ite IC.x_ret IC.x_expr IC.x_for IC.x_six IC.evs IC.evi IC.ve1 IC.ve2 IC.ve3 IC.ve4 IC.ve5 IC.ve6 IC.ve7 IC.ve8 IC.ve9 IC.ve10 IC.ve11 IC.ve12 IC.ve13 IC.ve14 IC.ve15 IC.ve16 IC.ve17 IC.ve18 IC.ve19 IC.ve20 IC.ve21 IC.ve24 IC.ve46 IC.ve47 IC.ve48 IC.x_dput WK.stO_some WK.ix0 WK.ix1 WK.ix2 WK.ix3 IC.v_comp List.getElem?_cons_zero List.getElem?_cons_succ WK.bd_ok WK.fl_ok WK.bd_exc WK.fl_exc WK.toR_some IC.toL WK.bT_n WK.nxO_some WK.th_nx WK.th_rt WK.th_exc List.set_cons_zero List.set_cons_succ WK.on_t WK.t_bl WK.ono IC.onBl cond_true cond_false List.length_cons List.length_nil Nat.zero_add Nat.reduceAdd Nat.reduceSub Nat.reduceLeDiff if_true IC.nL IC.nLs WK.noLocs_ints Bool.and_self Bool.not_true Bool.not_false List.map_cons List.map_nil List.replicate List.cons_append List.nil_append List.append_nil Option.bind_none Option.bind_some Option.join_some WK.b_add WK.b_sub WK.b_mul2 WK.b_div2 WK.c_lt WK.c_le WK.c_gt WK.c_ge WK.c_eq WK.c_ne IC.PV.tup IC.sizeMax".splitOn " ").toArray.mapM λs=>`(Lean.Parser.Tactic.simpLemma| $(Lean.mkIdent s.toName):term)
 `(tactic| simp only[$l,*,$xs,*])
def zfl(k:Nat){x i y n:Int}(h1:x.natAbs<1000)(h2:y.natAbs<1000)(hn:n.natAbs<1000)(hi:i.natAbs<1000)(st:SO):ye T (k+1) 35 [.tp AG [.int x,.int 0,.int 0,.int y],.int i,.int 0,.int n] st=.ok (.int (x+y*n)) st:=by
 have hT:T ygh=AA yeh:=rfl;have m1:=z7 (i:=0) (j:=i) ∅;have m2:=z7 (i:=0) (j:=0) ∅;have m3:=z7 (i:=y) (j:=n) ∅;rw[zi hT rfl rfl rfl];simp! [yeh,m1,m2,m3,zcJ];simp
structure Sl where
 l:AS
 x:Int
 y:Int
def yn:PV:=.tp AG [.int 0,.int 0,.int 0,.int 0]
def svQ(s:Sl):PV:=.tp AG [.str "slice",.str s.l,yn,.tp AG [.int s.x,.int 0,.int 0,.int s.y]]
def pt(n:Int)(s:Sl):PV:=.tp AG [.str s.l,.int 0,.int (s.x+s.y*n)]
def ycb(n:Int)(s:Sl):Prop:=s.x.natAbs<1000/\s.y.natAbs<1000/\0<s.x+s.y*n
def rkB:Css:=match yt.body with
 |.cons _ (.cons (.for _ _ b) _)=>b
 |_=>.nil
def rkT:Css:=match rkB with
 |.cons _ (.cons _ (.cons (.for _ _ b) _))=>b
 |_=>.nil
abbrev lvl:Nat:=21
def zfw{st:SO}{m:Nat}{xs:List PV}{v:PV}(h:st[m]?=AA (.lst xs))(hl:xs.length<10):ybI .append st (.loc m) [v]=.ok .non (st.set m (.lst (xs++[v]))):=by
 have:xs.length<1000000:=by lia
 simp[ybI,ydw,h,this]
def zgb{st:SO}{m:Nat}{xs:List PV}(h:st[m]?=AA (.lst xs)):yar .append st (.loc m)=AA true:=by simp[yar,yu,h]
def zhq:yr .eq (.str "slice") (.str "slice")=AA (.bl AC):=by
 have h:shp (.str "slice")=true:=by decide +kernel
 simp[yr,h,peq]
def zcx{n i:Int}(hn:n.natAbs<1000)(hi:i.natAbs<1000){s:Sl}(hs:ycb n s){st:SO}{m:Nat}{xs:List PV}(h:st[m]?=AA (.lst xs))(hl:xs.length<10){p0 p1 p4 p5 p6 p7 p8 p9 p10 p11 p12 p13 p16 p17:Option PV}:
  exs (ye T lvl) [p0,p1,AA (.int n),AA (.int i),p4,p5,p6,p7,p8,p9,p10,p11,p12,p13,AA (.loc m),AA (svQ s),p16,p17] st rkT =
   .nx [p0,p1,AA (.int n),AA (.int i),p4,p5,p6,p7,p8,p9,p10,p11,p12,p13,AA (.loc m),AA (svQ s),AA (pt n s),p17] (st.set m (.lst (xs++[pt n s]))):=by
 have e1:=λst=>zfl 20 (x:=0) (y:=0) (n:=n) (i:=i) ⋯ ⋯ hn hi st;have e2:=λst=>zfl 20 (x:=s.x) (y:=s.y) (n:=n) (i:=i) hs.1 hs.2.1 hn hi st;have hb:rkT=.cons (.asg (.n 16) (.tup (.cons (.cst (.str "")) (.cons (.cst (.int 0)) (.cons (.cst (.int 1)) .nil))))) (.cons (.ite (.cmp .eq (.idx (.var 15) (.cst (.int 0))) (.cst (.str "slice"))) (.cons (.asg (.n 16) (.tup (.cons (.idx (.var 15) (.cst (.int 1))) (.cons (.call 35 (.cons (.idx (.var 15) (.cst (.int 2))) (.cons (.var 3) (.cons (.cst (.int 0)) (.cons (.var 2) .nil))))) (.cons (.call 35 (.cons (.idx (.var 15) (.cst (.int 3))) (.cons (.var 3) (.cons (.cst (.int 0)) (.cons (.var 2) .nil))))) .nil))))) .nil) .nil) (.cons (.expr (.mth .append (.var 14) (.cons (.var 16) .nil))) .nil)):=rfl;have e3:=zgb h;have e4:=zfw (v:=pt n s) h hl;have z:(0:Int)+0*n=0:=by simp
 rw[z]at e1;erw[pt]at e4 ⊢;rw[hb];simp! [svQ,yn,zhq,e1,e2,e3,e4]
theorem things{n i:Int}(hn:n.natAbs<1000)(hi:i.natAbs<1000){m:Nat}{p0 p1 p4 p5 p6 p7 p8 p9 p10 p11 p12 p13 p17:Option PV}:∀(ss:List Sl) (xs:List PV) (st:SO) (p15 p16:Option PV),(∀s∈ss,ycb n s)->st[m]?=AA (.lst xs)->xs.length+ss.length<10 ->
  ∃q15 q16,ybm (ye T lvl) (.n 15) rkT (ss.map svQ) [p0,p1,AA (.int n),AA (.int i),p4,p5,p6,p7,p8,p9,p10,p11,p12,p13,AA (.loc m),p15,p16,p17] st =
   .nx [p0,p1,AA (.int n),AA (.int i),p4,p5,p6,p7,p8,p9,p10,p11,p12,p13,AA (.loc m),q15,q16,p17] (st.set m (.lst (xs++ss.map (pt n))))
 |[],xs,st,p15,p16,hs,h,hl=>⟨p15,p16,by rw[BQ,zag,BQ,Bs,<-zeL h]⟩
 |s::ss,xs,st,p15,p16,hs,h,hl=>by
  rw[Ag]at hl;have h2:(st.set m (.lst (xs++[pt n s])))[m]?=AA (.lst (xs++[pt n s])):=by
   rw[Aq (Ab.1 h).1]
  let⟨q15,q16,e⟩:=things hn hi ss (xs++[pt n s]) (st.set m (.lst (xs++[pt n s]))) (AA (svQ s)) (AA (pt n s)) (λs h=>hs s (AU _ h)) h2 (by rw[As,Cm];lia);refine⟨q15,q16,?_⟩;rw[AX,zA bT_n];erw[Au,BA];rw[zcx hn hi (hs s (Aa ..)) h ∅];erw[yX];rw[e,DO,List.append_assoc];rfl
def ydi(call:Cl)(ρ0:IC.Env)(tg:Tg)(e:Ce)(x:PV)(st2:SO):R (Option PV):=match yx tg x ρ0 with
 |none=>.bad
 |some ρ1=>(ev call ρ1 st2 e).bind λy st4=>.ok (AA y) st4
def zit{call:Cl}{ρ:IC.Env}{st:SO}{sl:List (Option Nat)}{tg:Tg}{i n:Nat}{e:Ce}(h:ρ[i]?=AA (AA (.loc n))):ev call ρ st (.cml sl tg (.var i) e)=yba (yae (ydi call (sl.map λo=>o.bind λj=>(ρ[j]?).join) tg e) n 1000000 0 st):=by
 rw[IC.ve41,IC.ve2,h];rfl
def zbn{one:PV->SO->R (Option PV)}{f:PV->PV}{A:Nat}{xs:List PV}{st:SO}(hs:st[A]?=AA (.lst xs))(h:∀x∈xs,one x st=.ok (AA (f x)) st):∀(F i:Nat),i<=xs.length->xs.length<i+F->yae one A F i st=.ok ((xs.drop i).map f) st
 |0,i,h1,h2=>by lia
 |F+1,i,h1,h2=>by
  rw[yae,hs]
  by_cases q:i<xs.length
  .have e:xs[i]?=AA xs[i]:=BE q;erw[e,h xs[i] (F6 q),R.bind,zbn hs h F (i+1) ∅ ∅];rw[Bq q,AX];rfl
  .have e:xs[i]?=none:=Bn ∅;erw[e];rw[List.drop_eq_nil_of_le ∅];rfl
structure Tm where
 f:Int
 c:Int
 b:Int
 r:Int
 ss:List Sl
 e:Int
 qs:List PV
def tmV(t:Tm):PV:=.tp AG [.int t.f,.tp AG [.int t.c,.int t.b,.int 0,.int 0,.int 0,.int t.r],.tp AG (t.ss.map svQ)]
def yaC(t:Tm):PV:=.tp AG [.int t.e,.tp AG t.qs]
def rwT(t:Tm):PV×PV:=(yaC t,.int t.f)
structure ycX(w n i:Int)(t:Tm):Prop where
 e:t.c+t.b*i+w*(t.r*n)=t.e
 q:ybY (t.ss.map (pt n))=AA (.lst t.qs)
 k:isKey AC (yaC t)=AC
 s:∀s∈t.ss,ycb n s
 l:t.ss.length<=2
 n:t.f≠0
 p:peq (yaC t) (yaC t)=AC
def cmE:Ce:=.cmp .lt (.idx (.var 0) (.cst (.int 1))) (.idx (.var 0) (.cst (.int 2)))
def rkC:Css:=match rkB with
 |.cons _ (.cons _ (.cons _ (.cons (.ite _ b _) _)))=>b
 |_=>.nil
def rkA:Ce:=.blt .all (.cons (.cml [AE] (.n 0) (.var 14) cmE) .nil)
def zgD:rkB=.cons (.asg (.t [8,9,10,11,12,13]) (.var 6)) (.cons (.asg (.n 14) (.newl .nil)) (.cons (.for (.n 15) (.seq (.var 7)) rkT) (.cons (.ite rkA rkC .nil) .nil))):=rfl
def zhM:rkC=.cons (.asg (.n 17) (.tup (.cons (.bin .add (.bin .add (.var 8) (.bin .mul (.var 9) (.var 3))) (.bin .mul (.var 1) (.bin .add (.bin .mul (.var 11) (.var 3)) (.bin .mul (.var 13) (.var 2))))) (.cons (.blt .tuple (.cons (.srt (.var 14)) .nil)) .nil)))) (.cons (.dput (.var 4) (.var 17) (.bin .add (.mth .get (.var 4) (.cons (.var 17) (.cons (.cst (.int 0)) .nil))) (.var 5))) .nil):=rfl
def ybX(kvs:List (PV×PV))(k:PV):Prop:=∀p∈kvs,peq p.1 k=AG
def zdQ{kvs:List (PV×PV)}{k v:PV}(h:ybX kvs k):put k v kvs=kvs++[(k,v)]:=by
 have:(kvs.any λp=>peq p.1 k)=false:=by
  rw[List.any_eq_false];intro p hp;rw[h p hp];decide
 rw[put,this];simp
def zb7{k:PV}:∀{kvs:List (PV×PV)},ybX kvs k->look k kvs=AE
 |[],h=>rfl
 |(a,b)::r,h=>by
  rw[look,h (a,b) (Aa ..),zb7 λp hp=>h p (AU _ hp)];simp
def zf5{st:SO}{d:Nat}{kvs:List (PV×PV)}{k:PV}(h:st[d]?=AA (.dct AC kvs))(hk:isKey AC k=AC)(hn:ybX kvs k):ybI .get st (.loc d) [k,.int 0]=.ok (.int 0) st:=by
 rw[mget,ycW];simp[yU,h,hk,zb7 hn]
def zgv{st:SO}{d:Nat}{kvs:List (PV×PV)}(h:st[d]?=AA (.dct AC kvs)):yar .get st (.loc d)=AA true:=by simp[yar,yU,h]
def zeF{st:SO}{d:Nat}{kvs:List (PV×PV)}{k v:PV}(h:st[d]?=AA (.dct AC kvs))(hk:isKey AC k=AC)(hn:ybX kvs k)(hl:kvs.length<100):yaS st (.loc d) k v=AA (st.set d (.dct AC (kvs++[(k,v)]))):=by
 have:kvs.length<1000000:=by lia
 simp[yaS,h,hk,this,zdQ hn]
def zew{call:Cl}{st:SO}{m:Nat}{n:Int}{ss:List Sl}(h:st[m]?=AA (.lst (ss.map (pt n))))(hl:ss.length<=2)(hs:∀s∈ss,ycb n s){ρ:IC.Env}(hρ:ρ[14]?=AA (AA (.loc m))):
  ev call ρ st rkA=.ok (.bl AC) st:=by
 have one:∀x∈ss.map (pt n),ydi call [AE] (.n 0) cmE x st=.ok (AA (.bl AC)) st:=λx hx=>by
  let⟨s,hs',rfl⟩:=EN.1 hx;have:=(hs s hs').2.2;simp! [ydi,cmE,pt,decide_eq_true this]
 have cm:=zbn (f:=λ_=>.bl AC) h one 1000000 0 (BI _) (by rw[Ap];lia);have v1:=zit (call:=call) (st:=st) (sl:=[AE]) (tg:=.n 0) (e:=cmE) hρ;rw[show ([AE]:List (Option Nat)).map (λo=>o.bind λj=>(ρ[j]?).join)=[AE]from rfl,cm,Fx,zb0 _ (by rw[Ap,Ap];lia)]at v1;have al:yaL .all st [.lst ((ss.map (pt n)).map λ_=>.bl AC)]=AA (.bl AC):=by
  rw[zcK (λ_=>AC)];simp
 rw[rkA];simp! [v1,al]
def Kp(st st':SO):Prop:=st.length<=st'.length/\∀j,j<st.length->st'[j]?=st[j]?
theorem Kp.trans{a b c:SO}(h:Kp a b)(g:Kp b c):Kp a c:=⟨BK h.1 g.1,λj hj=>by rw[g.2 j (AY hj h.1),h.2 j hj]⟩
def zc5{w n i:Int}(hw:w.natAbs<1000)(hn:n.natAbs<1000)(hi:i.natAbs<1000){t:Tm}(ht:ycX w n i t){st:SO}{d:Nat}{kvs:List (PV×PV)}(h:st[d]?=AA (.dct AC kvs))(hk:ybX kvs (yaC t))(hl:kvs.length<100){p0 p6 p8 p9 p10 p11 p12 p13 p14 p15 p16 p17:Option PV}:
  ∃r st',exs (ye T lvl) ([p0,AA (.int w),AA (.int n),AA (.int i),AA (.loc d),AA (.int t.f),AA (.tp AG [.int t.c,.int t.b,.int 0,.int 0,.int 0,.int t.r]),AA (.tp AG (t.ss.map svQ)),p8,p9,p10,p11,p12,p13,p14,p15,p16,p17]) st rkB=.nx ([p0,AA (.int w),AA (.int n),AA (.int i),AA (.loc d)]++r) st'/\r.length=13/\st'[d]?=AA (.dct AC (kvs++[rwT t]))/\st.length<=st'.length/\∀j,j<st.length->j≠d->st'[j]?=st[j]?:=by
 have hd:d<st.length:=(Ab.1 h).1;have e1:yx (.t [8,9,10,11,12,13]) (.tp AG [.int t.c,.int t.b,.int 0,.int 0,.int 0,.int t.r]) [p0,AA (.int w),AA (.int n),AA (.int i),AA (.loc d),AA (.int t.f),AA (.tp AG [.int t.c,.int t.b,.int 0,.int 0,.int 0,.int t.r]),AA (.tp AG (t.ss.map svQ)),p8,p9,p10,p11,p12,p13,p14,p15,p16,p17]=AA [p0,AA (.int w),AA (.int n),AA (.int i),AA (.loc d),AA (.int t.f),AA (.tp AG [.int t.c,.int t.b,.int 0,.int 0,.int 0,.int t.r]),AA (.tp AG (t.ss.map svQ)),AA (.int t.c),AA (.int t.b),AA (.int 0),AA (.int 0),AA (.int 0),AA (.int t.r),p14,p15,p16,p17]:=rfl;have g1:(st++[Ob.lst []])[st.length]?=AA (.lst []):=by simp
 let⟨q15,q16,e2⟩:=things hn hi (p0:=p0) (p1:=AA (.int w)) (p4:=AA (.loc d)) (p5:=AA (.int t.f)) (p6:=AA (.tp AG [.int t.c,.int t.b,.int 0,.int 0,.int 0,.int t.r])) (p7:=AA (.tp AG (t.ss.map svQ))) (p8:=AA (.int t.c)) (p9:=AA (.int t.b)) (p10:=AA (.int 0)) (p11:=AA (.int 0)) (p12:=AA (.int 0)) (p13:=AA (.int t.r)) (p17:=p17) t.ss [] (st++[Ob.lst []]) p15 p16 ht.s g1 (by have:=ht.l;simp;lia);rw[BX,List.set_append_right _ _ (AR _),Nat.sub_self,Au]at e2;have g2:(st++[Ob.lst (t.ss.map (pt n))])[st.length]?=AA (.lst (t.ss.map (pt n))):=by simp
 have g3:(st++[Ob.lst (t.ss.map (pt n))])[d]?=AA (.dct AC kvs):=by rw[A2 hd,h]
 have e3:=zew (call:=ye T lvl) g2 ht.l ht.s (ρ:=[p0,AA (.int w),AA (.int n),AA (.int i),AA (.loc d),AA (.int t.f),AA (.tp AG [.int t.c,.int t.b,.int 0,.int 0,.int 0,.int t.r]),AA (.tp AG (t.ss.map svQ)),AA (.int t.c),AA (.int t.b),AA (.int 0),AA (.int 0),AA (.int 0),AA (.int t.r),AA (.loc st.length),q15,q16,p17]) rfl;have e4:ycy (st++[Ob.lst (t.ss.map (pt n))]) (.loc st.length)=AA (.lst t.qs):=by
  rw[ycy];erw[yu,g2];exact ht.q
 have e5:yaL .tuple (st++[Ob.lst (t.ss.map (pt n))]) [.lst t.qs]=AA (.tp AG t.qs):=rfl;have m1:=z7 (i:=t.b) (j:=i) ∅;have m2:=z8 (i:=0) (j:=i) ⋯;have m3:=z7 (i:=t.r) (j:=n) ∅;have m4:=z8 (i:=w) (j:=0*i+t.r*n) ∅;have e6:=zgv g3;have e7:=zf5 g3 ht.k hk;have e8:=zeF (v:=.int (0+t.f)) g3 ht.k hk hl;have ee:t.c+t.b*i+w*(0*i+t.r*n)=t.e:=by rw[Int.zero_mul,FU];exact ht.e
 erw[yaC]at e7 e8;rw[FU]at e8;refine⟨[AA (.int t.f),AA (.tp AG [.int t.c,.int t.b,.int 0,.int 0,.int 0,.int t.r]),AA (.tp AG (t.ss.map svQ)),AA (.int t.c),AA (.int t.b),AA (.int 0),AA (.int 0),AA (.int 0),AA (.int t.r),AA (.loc st.length),q15,q16,AA (yaC t)],(st++[Ob.lst (t.ss.map (pt n))]).set d (.dct AC (kvs++[rwT t])),?_,rfl,?_,?_,?_⟩
 .rw[zgD,zhM];simp! [e1,e2,e3,e4,e5,m1,m2,m3,m4,ee,e6,e7,e8,FU,yaC,rwT]
 .rw[Aq (by rw[As];lia)]
 .rw[BB,As];lia
 .intro j hj hjd;rw[Al (BY hjd),A2 hj]
def Dis(l:List (PV×PV)):Prop:=l.Pairwise λp q=>peq p.1 q.1=AG
theorem terms{w n i:Int}(hw:w.natAbs<1000)(hn:n.natAbs<1000)(hi:i.natAbs<1000){d:Nat}{p0:Option PV}:∀(ts:List Tm) (kvs:List (PV×PV)) (st:SO) (r:List (Option PV)),(∀t∈ts,ycX w n i t)->Dis (kvs++ts.map rwT)->kvs.length+ts.length<100->r.length=13->st[d]?=AA (.dct AC kvs) ->
  ∃r' st',ybm (ye T lvl) (.t [5,6,7]) rkB (ts.map tmV) ([p0,AA (.int w),AA (.int n),AA (.int i),AA (.loc d)]++r) st=.nx ([p0,AA (.int w),AA (.int n),AA (.int i),AA (.loc d)]++r') st'/\r'.length=13/\st'[d]?=AA (.dct AC (kvs++ts.map rwT))/\st.length<=st'.length/\∀j,j<st.length->j≠d->st'[j]?=st[j]?
 |[],kvs,st,r,ht,hd,hl,hr,h=>⟨r,st,zag,hr,by rw[BQ,Bs];exact h,AR _,λ_ _ _=>rfl⟩
 |t::ts,kvs,st,r,ht,hd,hl,hr,h=>by
  rw[Ag]at hl;have hk:ybX kvs (yaC t):=λp hp=>(E9.1 hd).2.2 p hp (rwT t) (by simp)
  match r,hr with
  |[r5,r6,r7,r8,r9,r10,r11,r12,r13,r14,r15,r16,r17],_=>
   let⟨r1,s1,e1,l1,g1,k1,j1⟩:=zc5 hw hn hi (ht t (Aa ..)) h hk ∅ (p0:=p0) (p6:=r6) (p8:=r8) (p9:=r9) (p10:=r10) (p11:=r11) (p12:=r12) (p13:=r13) (p14:=r14) (p15:=r15) (p16:=r16) (p17:=r17);rw[AX,Cw]at hd;let⟨r2,s2,e2,l2,g2,k2,j2⟩:=terms hw hn hi (p0:=p0) ts (kvs++[rwT t]) s1 r1 (λt h=>ht t (AU _ h)) hd (by rw[As,Cm];lia) l1 g1;refine⟨r2,s2,?_,l2,by rw[g2,AX,<-Cw],BK k1 k2,λj hj hjd=>by rw[j2 j (AY hj k1) hjd,j1 j hj hjd]⟩;rw[AX,zA (show yx (.t [5,6,7]) (tmV t) ([p0,AA (.int w),AA (.int n),AA (.int i),AA (.loc d)]++[r5,r6,r7,r8,r9,r10,r11,r12,r13,r14,r15,r16,r17])=AA [p0,AA (.int w),AA (.int n),AA (.int i),AA (.loc d),AA (.int t.f),AA (.tp AG [.int t.c,.int t.b,.int 0,.int 0,.int 0,.int t.r]),AA (.tp AG (t.ss.map svQ)),r8,r9,r10,r11,r12,r13,r14,r15,r16,r17]from rfl),e1];erw[yX];exact e2
def zci:∀(l acc:List (PV×PV)),Dis (acc++l)->l.foldl (λacc kv=>put kv.1 kv.2 acc) acc=acc++l
 |[],acc,h=>by rw[List.foldl_nil,Bs]
 |(k,v)::l,acc,h=>by
  have hk:ybX acc k:=λp hp=>(E9.1 h).2.2 p hp (k,v) (by simp);rw[CK,zdQ hk];rw[Cw]at h;rw[zci l _ h,<-Cw]
def zck:∀(l:List (PV×PV)),Dis l->(∀p∈l,peq p.1 p.1=AC)->∀p∈l,look p.1 l=AA p.2
 |[],_,_,p,h=>by cases h
 |(a,b)::l,hd,hr,p,h=>by
  rw[look];rcases A8.1 h with rfl|h
  .rw[hr (a,b) (Aa ..)];rfl
  .rw[(D5.1 hd).1 p h];erw[Ay,if_false];exact zck l (D5.1 hd).2 (λp h=>hr p (AU _ h)) p h
def zji{w n i:Int}(hw:w.natAbs<1000)(hn:n.natAbs<1000)(hi:i.natAbs<1000){ts:List Tm}(ht:∀t∈ts,ycX w n i t)(hd:Dis (ts.map rwT))(hl:ts.length<10){x:PV}(hx:x=.tp AG (ts.map tmV) \/ x=.lst (ts.map tmV))(st:SO):
  ∃m st',ye T 22 yge [x,.int w,.int n,.int i] st=.ok (.loc m) st'/\st'[m]?=AA (.dct AC (ts.map rwT))/\Kp st st':=by
 rw[za9 (show T yge=AA yt from rfl) rfl rfl];have g0:(st++[Ob.dct AC []])[st.length]?=AA (.dct AC []):=by simp
 let⟨r,s1,e1,l1,g1,k1,j1⟩:=terms hw hn hi (p0:=AA x) (d:=st.length) ts [] (st++[Ob.dct AC []]) [AE,AE,AE,AE,AE,AE,AE,AE,AE,AE,AE,AE,AE] ht (by simpa using hd) (by simp;lia) rfl g0;rw[BX]at g1;have hk:Kp st s1:=⟨by simp at k1;lia,λj hj=>by rw[j1 j (by simp;lia) ∅,A2 hj]⟩;have a1:(ts.map rwT).all yaM=true:=by simp[List.all_map,rwT,yaM,Function.comp_def]
 have a2:((ts.map rwT).filter λp=>!(ivP p.2==0))=ts.map rwT:=by
  rw[List.filter_eq_self];intro p hp;let⟨t,h,rfl⟩:=EN.1 hp;simpa [rwT,ivP] using (ht t h).n
 have a3:decide ((ts.map rwT).length<=1000)=true:=by rw[Ap];simp;lia
 have e2:ycE s1 (AA (AA (.loc st.length)))=.ok (.loc s1.length) (s1++[.dct AC (ts.map rwT)]):=by
  erw[ycE,yU,g1,a1,a2,a3,Em,if_true,zci (ts.map rwT) [] (by simpa using hd),BX]
 have hb:yt.body=.cons (.asg (.n 4) (.dict0 AC)) (.cons (.for (.t [5,6,7]) (.seq (.var 0)) rkB) (.cons (.ret (.dfl 4)) .nil)):=rfl;rw[hb];refine⟨s1.length,s1++[.dct AC (ts.map rwT)],?_,by simp,?_⟩
 .simp only[CT,BX]at e1;rcases hx with rfl|rfl
  .simp! [yt,e1,e2,zfi]
  .simp! [yt,e1,e2,zfi]
 .exact hk.trans ⟨by simp,λj hj=>by rw[A2 hj]⟩
def zfN{l:List (PV×PV)}(hd:Dis l)(hr:∀p∈l,peq p.1 p.1=AC):ybb l l=true:=by
 rw[ybb];erw[BEq.rfl,Dg,B3];intro p hp;rw[zck l hd hr p hp];simp
def zik{st:SO}{a b:Nat}{l:List (PV×PV)}(h1:st[a]?=AA (.dct AC l))(h2:st[b]?=AA (.dct AC l))(hi:l.all yaM=AC)(hd:Dis l)(hr:∀p∈l,peq p.1 p.1=AC):ybv st (.loc a) (.loc b)=AA (.bl AG):=by
 simp[ybv,yU,h1,h2,hi,zfN hd hr]
def tms(c1 b1 cw rw x y z:Int)(n w i:Int):List Tm:=
 [⟨1,c1,b1,0,[⟨AO "a",x,y⟩],i,[.tp AG [.str "a",.int 0,.int n]]⟩,
   ⟨-1,cw,0,rw,[⟨AO "c",x,y⟩,⟨AO "b",x,y⟩],w*n,[.tp AG [.str "b",.int 0,.int n],.tp AG [.str "c",.int 0,.int n]]⟩,
   ⟨-1,cw,0,rw,[⟨AO "d",z,y⟩],w*n,[.tp AG [.str "d",.int 0,.int (n+1)]]⟩,
   ⟨-1,0,0,0,[⟨AO "e",x,y⟩],0,[.tp AG [.str "e",.int 0,.int n]]⟩]
def rws(n w i:Int):List (PV×PV):=(tms 0 0 0 0 0 0 0 n w i).map rwT
def zdi{c1 b1 cw rw x y z n w i:Int}:(tms c1 b1 cw rw x y z n w i).map rwT=rws n w i:=rfl
theorem cb:ltS (AO "b",0,n) (AO "c",0,n)=true:=by
 have h:¬(AO "b"=AO "c"):=by decide +kernel
 have g:decide ((AO "b").cps.toList<(AO "c").cps.toList)=true:=by decide +kernel
 erw[ltS,h,g,if_false]
theorem np{s r:AS}(h:(s==r)=AG)(a b c d e f:Int)(p q:List PV):peq (.tp AG [.int e,.tp AG (.tp AG [.str s,.int a,.int b]::p)]) (.tp AG [.int f,.tp AG (.tp AG [.str r,.int c,.int d]::q)])=false:=by
 simp[peq,yay,h]
theorem dis(n w i:Int):Dis (rws n w i):=by
 erw[rws,tms,Dis,AX,BQ,rwT,yaC,D5,A8,Bi,or_false,forall_eq_or_imp,forall_eq];have h1:(AO "a" == AO "b")=false:=by decide +kernel
 have h2:(AO "a" == AO "d")=false:=by decide +kernel
 have h3:(AO "a" == AO "e")=false:=by decide +kernel
 have h4:(AO "b" == AO "d")=false:=by decide +kernel
 have h5:(AO "b" == AO "e")=false:=by decide +kernel
 have h6:(AO "d" == AO "e")=false:=by decide +kernel
 simp[np h1,np h2,np h3,np h4,np h5,np h6]
def ze6{c1 b1 cw rw x y z n w i:Int}(hn:0<n)(hx:x.natAbs<1000)(hy:y.natAbs<1000)(hz:z.natAbs<1000)(e1:x+y*n=n)(e2:z+y*n=n+1)(e3:c1+b1*i=i)(e4:cw+w*(rw*n)=w*n):∀t∈tms c1 b1 cw rw x y z n w i,ycX w n i t:=by
 have a1:(AO "a").cps.all (· < 0x110000)=true:=by decide +kernel
 have a2:(AO "b").cps.all (· < 0x110000)=true:=by decide +kernel
 have a3:(AO "c").cps.all (· < 0x110000)=true:=by decide +kernel
 have a4:(AO "d").cps.all (· < 0x110000)=true:=by decide +kernel
 have a5:(AO "e").cps.all (· < 0x110000)=true:=by decide +kernel
 erw[tms,A8,Bi,or_false,forall_eq_or_imp,forall_eq];have s1:∀l,ycb n ⟨l,x,y⟩:=λl=>⟨hx,hy,by dsimp only;rw[e1];exact hn⟩;have s2:ycb n ⟨AO "d",z,y⟩:=⟨hz,hy,by dsimp only;rw[e2];lia⟩;refine⟨⟨?_,?_,?_,?_,?_,?_,?_⟩,⟨?_,?_,?_,?_,?_,?_,?_⟩,⟨?_,?_,?_,?_,?_,?_,?_⟩,⟨?_,?_,?_,?_,?_,?_,?_⟩⟩
 .simpa using e3
 .simp[ybY,pt,e1]
 .simp[isKey,yaC,yaz,yb1,a1]
 .simp[s1]
 .simp
 .dsimp only;decide
 .simp[yaC,peq,yay]
 .simpa using e4
 .simp[ybY,pt,e1,ycs,cb]
 .simp[isKey,yaC,yaz,yb1,a2,a3]
 .simp[s1]
 .simp
 .dsimp only;decide
 .simp[yaC,peq,yay]
 .simpa using e4
 .simp[ybY,pt,e2]
 .simp[isKey,yaC,yaz,yb1,a4]
 .simp[s2]
 .simp
 .dsimp only;decide
 .simp[yaC,peq,yay]
 .simp
 .simp[ybY,pt,e1]
 .simp[isKey,yaC,yaz,yb1,a5]
 .simp[s1]
 .simp
 .dsimp only;decide
 .simp[yaC,peq,yay]
def snQ:PV:=.tp AG ((tms 0 1 0 1 0 1 1 1 1 1).map tmV)
def zhF(n w i:Int):snQ=.tp AG ((tms 0 1 0 1 0 1 1 n w i).map tmV):=rfl
def zh4:snK "quotient"=snQ:=zdS _ _ (by decide +kernel)
theorem lowest{l:AS}{n:Int}(st:SO):ye T 21 38 [.str l,.int n] st=.ok (svQ ⟨l,n,0⟩) st:=by
 rw[zi (show T ygi=AA yb from rfl) rfl rfl rfl];simp! [yb];rfl
theorem due{w n i:Int}(hw:w.natAbs<1000)(st:SO):ye T 22 y9 [.str "quotient",.int w,.int n,.int i] st=.ok (.lst ((tms i 0 (w*n) 0 n 0 (n+1) n w i).map tmV)) st:=by
 rw[zi (show T y9=AA yf from rfl) rfl rfl rfl];have h1:yr .eq (.str "quotient") (.str "product")=AA (.bl AG):=by
  have h:shp (.str "quotient")=true:=by decide +kernel
  have g:shp (.str "product")=true:=by decide +kernel
  have e:(AO "quotient" == AO "product")=false:=by decide +kernel
  simp[yr,h,g,peq,e]
 have h2:yr .eq (.str "quotient") (.str "quotient")=AA (.bl AC):=by
  have h:shp (.str "quotient")=true:=by decide +kernel
  simp[yr,h,peq]
 have m:=z8 (i:=w) (j:=n) ∅;have lo:=λl n st=>lowest (l:=l) (n:=n) st;have ad:∀a b c d:PV,yC .add (.lst [a,b]) (.lst [c,d])=AA (.lst [a,b,c,d]):=λa b c d=>by simp[yC,sizeMax]
 simp! [yf,h1,h2,m,lo,ad];simp[yby,nL,nLs,tms,tmV,svQ,yn]
def psC:Css:=match yw.body with
 |.cons (.for _ _ b) _=>b
 |_=>.nil
def zdy{w n i:Int}(w0:0<=w)(w1:w<=16)(n0:0<n)(n1:n<=4)(i0:0<=i)(i1:i<=100)(a2:Option PV)(st:SO):∃st',exs (ye T 22) [AA snQ,AA (.str "quotient"),a2,AA (.int w),AA (.int n),AA (.int i)] st psC=.nx [AA snQ,AA (.str "quotient"),a2,AA (.int w),AA (.int n),AA (.int i)] st':=by
 have hb:psC=.cons (.ite (.dne (.call 37 (.cons (.var 0) (.cons (.var 3) (.cons (.var 4) (.cons (.var 5) .nil))))) (.call 37 (.cons (.call 39 (.cons (.var 1) (.cons (.var 3) (.cons (.var 4) (.cons (.var 5) .nil))))) (.cons (.var 3) (.cons (.var 4) (.cons (.var 5) .nil)))))) (.cons .nope .nil) .nil) .nil:=rfl;let⟨m1,s1,e1,g1,k1⟩:=zji (w:=w) (n:=n) (i:=i) ∅ ∅ ∅ (ze6 (c1:=0) (b1:=1) (cw:=0) (rw:=1) (x:=0) (y:=1) (z:=1) n0 ⋯ ⋯ ⋯ (by simp) (by simp[Gc]) (by simp) (by simp)) (by rw[zdi];exact dis _ _ _) (by simp[tms]) (.inl rfl) st;let⟨m2,s2,e2,g2,k2⟩:=zji (w:=w) (n:=n) (i:=i) ∅ ∅ ∅ (ze6 (c1:=i) (b1:=0) (cw:=w*n) (rw:=0) (x:=n) (y:=0) (z:=n+1) n0 ∅ ⋯ ∅ (by simp) (by simp) (by simp) (by simp)) (by rw[zdi];exact dis _ _ _) (by simp[tms]) (.inr rfl) s1;rw[zdi]at g1 g2;have g1':s2[m1]?=AA (.dct AC (rws n w i)):=by rw[k2.2 m1 (Ab.1 g1).1,g1]
 have e3:=due (w:=w) (n:=n) (i:=i) ∅ s1;have e4:=zik g1' g2 rfl (dis n w i) (λp hp=>by
  erw[rws,tms,AX,BQ,A8,Bi,or_false]at hp;rcases hp with rfl|rfl|rfl|rfl<;>simp[rwT,yaC,peq,yay])
 rw[<-zhF n w i]at e1;refine⟨s2,?_⟩;rw[hb];generalize (tms i 0 (w*n) 0 n 0 (n+1) n w i).map tmV=dl at e2 e3;simp! [e1,e2,e3,e4]
def zds{w n:Int}(w1:w.natAbs<1000)(st:SO):ye T 22 36 [cK,.int w,.int n] st=.ok (.int (w*n)) st:=by
 have m1:=z8 (i:=0) (j:=n) ∅;have m2:=z8 (i:=1) (j:=w) ∅;have m3:=z8 (i:=1*w) (j:=n) ∅;rw[zi (show T 36=AA yel from rfl) rfl rfl rfl];simp! [yel,cK,m1,m2,m3,zcJ];simp
def zaz{w n:Int}(w0:0<=w)(w1:w<=16)(n0:0<n)(n1:n<=4){a2:Option PV}:∀(m:Nat) (a:Int),0<=a->a+m<=101->∀(u:Option PV) (st:SO),∃u' st',ybm (ye T 22) (.n 5) psC (yF m a 1) [AA snQ,AA (.str "quotient"),a2,AA (.int w),AA (.int n),u] st=.nx [AA snQ,AA (.str "quotient"),a2,AA (.int w),AA (.int n),u'] st'
 |0,a,_,_,u,st=>⟨u,st,zag⟩
 |m+1,a,h0,h1,u,st=>by
  let⟨s1,e1⟩:=zdy w0 w1 n0 n1 h0 ∅ a2 st;let⟨u2,s2,e2⟩:=zaz w0 w1 n0 n1 (a2:=a2) m (a+1) ∅ ∅ (AA (.int a)) s1;refine⟨u2,s2,?_⟩;rw[yF,zA bT_n];erw[Au,BA];rw[e1];erw[yX];exact e2
def zfL{w n:Nat}(w1:w<=16)(n0:1<=n)(n1:n<=4):ye T 23 yk [snK "quotient",.str "quotient",cK,.int w,.int n] []=.ok (.bl AC) []:=by
 rw[zh4,zi (show T yk=AA yw from rfl) rfl rfl rfl];have hm:w*n<=64:=Nat.mul_le_mul w1 n1;have hq:(w:Int)*n+1=((w*n+1:Nat):Int):=by simp
 have e1:=zds (w:=(w:Int)) (n:=(n:Int)) ∅ [];let⟨u,s,e2⟩:=zaz (w:=(w:Int)) (n:=(n:Int)) ∅ ∅ ∅ ∅ (a2:=AA cK) (w*n+1) 0 ∅ ∅ AE [];have e3:=zeT (w*n+1) ∅;have hb:yw.body=.cons (.for (.n 5) (.range1 (.bin .add (.call 36 (.cons (.var 2) (.cons (.var 3) (.cons (.var 4) .nil)))) (.cst (.int 1)))) psC) (.cons (.ret (.cst (.bl AC))) .nil):=rfl;rw[hb];simp! [yw,e1,hq,e3,e2,zdA]
structure yer(s:String):Prop where
 t:ye T 24 yi [.tp AG [.str (AO s)]] []=.ok (.tp AG (ptK s)) []
 i:ye T 24 ym [.tp AG (ptK s)] []=.ok (.bl AC) []
 e:yb5 (ptK s)=AA (snK s)
 n:nLs (ptK s)=AC
def zim{s:String}(h:tlB s=AC):yer s:=by
 erw[tlB,AJ]at h;let⟨⟨⟨⟨h1,h2⟩,h3⟩,h4⟩,h5⟩:=h;refine⟨zdU h1,zdU h2,?_,h4⟩;let⟨v,e⟩:=A4.1 h3;rw[snK,e];rfl
def ygg(zs:List (Nat×Nat)):Prop:=zs.length<=10/\∀p∈zs,4<=p.1/\p.1<=16/\1<=p.2/\p.2<=4
def zbi:∀zs:List (Nat×Nat),nLs (zs.map szV)=AC
 |[]=>rfl
 |p::zs=>by rw[AX,nLs,zbi zs];rfl
def zfM{s:String}(h:yer s)(hp:∀w n:Nat,w<=16->1<=n->n<=4->ye T 23 yk [snK s,.str (AO s),cK,.int w,.int n] []=.ok (.bl AC) []){zs:List (Nat×Nat)}(hz:ygg zs)(st:SO):
  ye T 24 ygf [.tp AG (ptK s),.str (AO s),cK,.lst (zs.map szV)] st=.ok (.bl AC) st:=by
 have hl:=zbw (wd:=.str (AO s)) (a0:=.tp AG (ptK s)) (sn:=snK s) hz.1 (λp hq=>hp p.1 p.2 (hz.2 p hq).2.1 (hz.2 p hq).2.2.1 (hz.2 p hq).2.2.2) (ptK s) AE h.e;rw[zi (show T ygf=AA yab from rfl) rfl rfl (by simp[nLs,nL,h.n,zbi,cK])];have hb:yab.body=.cons (.for (.n 4) (.seq (.var 0)) svB) (.cons .nope .nil):=rfl;rw[hb];simp! [yab,hl,zdA]
def zh8(h1:tlB "quotient"=AC)(ns:List Int)(h:ns.length<=63):
  ye T 25 yd1 [.scr (ns.map .int)] []=.ok (.bl AC) []:=by
 have hns:ns.length<=1000:=by lia
 rw[zi (show T yd1=AA ybe from rfl) rfl rfl (by simp[nLs,nL,noLocs_ints])];let⟨v,e0,hv⟩:=fresh 23 ns h [];have r0:Drw ns 0 [v]:=⟨0,0,AG,by lia,by rw[hv];rfl⟩;let⟨w1,n1,s1,a1,b1,c1,d1,o1,e1⟩:=sizes 20 hns (m:=4) ∅ ∅ r0;have r1:=o1.drw r0;let⟨w2,n2,s2,a2,b2,c2,d2,o2,e2⟩:=sizes 20 hns (m:=4) ∅ ∅ r1;let⟨w1,rfl⟩:=za3 (show 0<=w1 by lia);let⟨w2,rfl⟩:=za3 (show 0<=w2 by lia);let⟨n1,rfl⟩:=za3 (show 0<=n1 by lia);let⟨n2,rfl⟩:=za3 (show 0<=n2 by lia);have hz:ygg [(w1,n1),(w2,n2)]:=⟨by simp,λp hp=>by
  erw[A8,Bi,or_false]at hp;rcases hp with rfl|rfl<;>(dsimp only;lia)⟩
 have one:∀{x:PV} {s s':SO} {y:PV},ye T 24 yeu [.loc 0,.int 4] s=.ok y s'->ybT (ye T 24) [AE,AA (.loc 0)] (.n 0) (.cst (.bl AC)) (.call 25 (.cons (.var 1) (.cons (.cst (.int 4)) .nil))) x s=.ok (AA y) s':=λ{x s s' y} e=>by
  erw[ybT,bT_n];simp! [e]
 have cm:yZ (ye T 24) [AE,AA (.loc 0)] (.n 0) (.cst (.bl AC)) (.call 25 (.cons (.var 1) (.cons (.cst (.int 4)) .nil))) (yF 2 0 1) [v]=.ok ([(w1,n1),(w2,n2)].map szV) s2:=by
  show yZ _ _ _ _ _ [_,_] _=_;rw[zX,one e1];erw[R.bind];rw[zX,one e2];rfl
 have hr:ycJ (.int 2)=AA (yF 2 0 1):=rfl;have H:=zim h1;have e3:=zdW (show T yi=AA yep from rfl) rfl rfl rfl H.t s2;have e4:=zdW (show T ym=AA yl from rfl) rfl rfl (by simp[nLs,nL,H.n]) H.i s2;have e5:=zfM H (λw n=>zfL) hz s2;erw[cK]at e5;have hb:ybe.body=.cons (.asg (.n 1) (.call 21 (.cons (.var 0) .nil))) (.cons (.asg (.n 2) (.comp [AE,AA 1] (.n 0) (.range1 (.cst (.int 2))) (.cst (.bl AC)) (.call 25 (.cons (.var 1) (.cons (.cst (.int 4)) .nil))))) (.cons (.asg (.n 3) (.call 18 (.cons (.tup (.cons (.cst (.str "quotient")) .nil)) .nil))) (.cons (.ret (.and (.call 34 (.cons (.var 3) .nil)) (.call 40 (.cons (.var 3) (.cons (.cst (.str "quotient")) (.cons (.tup (.cons (.cst (.int 0)) (.cons (.cst (.int 0)) (.cons (.cst (.int 1)) .nil)))) (.cons (.var 2) .nil))))))) .nil))):=rfl;generalize hzs:[(w1,n1),(w2,n2)].map szV=zv at cm e5;have hzl:zv.length<=1000000:=by rw[<-hzs];simp
 rw[hb];simp! [ybe,e0,hr,cm,zb0 zv hzl,e3,e4,e5,zdA]
def zef(ns:List Int)(h:ns.length<=63):ye T 25 yd1 [.scr (ns.map .int)] []=.ok (.bl AC) []:=zh8 zha ns h
end WK
namespace WK
open PySem L2 IC
theorem walk{l:Dx}{q:AV}{loose:List AS}{XP:(AS->Option AD)->Ak->Prop}{YP:A5->Ak->Prop}{d:DefRec}{K:Params->AF}(hn:l.most=AA 63)(hdf:d.params.defaults=[])
  (hY:∀(w:A5) (h:Ak),YP w h->(K w.params).In h)
  (F:∀(w:A5) (mg:AS->Option AD) (fa:AI) (h:Ak),(K w.params).In h->h.Ns mainGlobals mg->mg d.name=AA (.ref fa) ->
   ∃fd:Aj,(∀(s:AH) (u:AD),EC s fd ⟨[u],[]⟩ [("_law_script",u)])/\∀base:Ak,(K w.params).In base->base.Ns mainGlobals mg->yaG l.prog w (K w.params) mg base (CX1 l.prog w) (2*25) fa fd ["_law_script"] (spX (K w.params) (ye T 25) yd1)):
  Fi q loose XP YP l.row.toRowW d [] (λf vs=>Fu f vs):=
 L2.walk_of (n:=63) (k:=2*25) (x:="_law_script") (CX:=λw=>CX1 l.prog w) (sp:=λw=>spX (K w.params) (ye T 25) yd1) hn ⋯ hdf ⟨rfl,by decide,by decide⟩ hY F (λw H a ns hl _ hS=>zc4 zef hl hS) λ_ _ _ _ _ z=>zgR z
end WK
end
open PySem PySem.W PyProof.Rows
theorem PySem.Challenge.cw_widewords_k62_whole_sentence_of_quotient_holds : PySem.Challenge.rw_widewords_k62_whole_sentence_of_quotient.Holds := by
 refine hh.hd (by rfl) (by rfl) (by rfl) ?_
 k_fill
 refine WK.walk (l:=PySem.Challenge.rw_widewords_k62_whole_sentence_of_quotient) rfl rfl (λw h Y=>Y) ?F
 case F =>
  intro w mg fa h KX G hmg
  refine' L2.all_mk2 (t:=WK.tbQ) KX G hmg ?R ?B ?D WK.kb_all ?Ml WK.ok_all WK.T_ok (L:=42) rfl 25
  case R =>
   repeat' (first|exact trivial|apply And.intro|(refine' L2.rowFn ?a9 ?l9 ?c9 ?p9 ?b9;(case a9|l9|c9|p9=>k_is);(case b9=>((repeat intro _);first|rfl|kernel_rfl)))|(refine' L2.rowMe ?z9 ?a9 ?i9 ?l9 ?c9 ?p9 ?b9;(case z9=>(skip;k_is));(case a9|i9|l9|c9|p9=>k_is);(case b9=>((repeat intro _);first|rfl|kernel_rfl)))|(refine' L2.rowIni ?z9 ?a9 ?i9 ?l9 ?c9 ?p9 ?b9 ?m9 ?k9;(case z9=>(skip;k_is));(case a9|i9|l9|c9|p9=>k_is);(case b9=>((repeat intro _);first|rfl|kernel_rfl));(case m9|k9=>k_is))|(refine' L2.rowFd ?a9 ?l9 ?c9 ?p9 ?d9 ?e9 ?v9;(case a9|l9|c9|p9|d9=>k_is);(case e9=>rfl);(case v9=>(repeat first|exact .nil|refine .cons ⟨_,rfl⟩ ?_))))
  case B=>kernel_rfl
  case D =>
   repeat' (first|exact trivial|apply And.intro|intro _|(refine' L2.gd_mk KX G ?a9 ?l9 ?s9 ?r9 ?n9;(case a9|l9=>k_is);(case s9=>rfl);(case r9=>(repeat first|exact .nil|refine L2.con_row (by kernel_rfl) ?_));(case n9=>decide +kernel)))
  case Ml =>
   repeat' (first|exact trivial|apply And.intro|(refine' L2.gdf_mk KX G ?a9 ?l9 ?r9 ?n9;(case a9|l9=>k_is);(case r9=>(repeat first|exact .nil|refine L2.frow_cons (by kernel_rfl) ?_));(case n9=>decide +kernel)))
