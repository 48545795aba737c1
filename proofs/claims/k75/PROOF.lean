import PyProof.Rows.All
import OpenK.KLine
import Open.Tops
import Wide.FinOn
import KE.KRevSl
import KE.KItem
import KE.KxWritten
import KE.KFromBytes
import KE.LcSums
import KE.KBits
import KE.KTryMore
import KE.KDictOf
import PyProof.AttrMissHeap
import KE.KEqDict
import KE.KSortTup
import PyProof.DictItems
import PyProof.DictItemsLoops
import KE.KPairComp
import KE.KDictList
import PyProof.DictTruth
import PyProof.DictCompW
import KE.KUnpackStar
import PyProof.ZipIter
import KE.KIntText
import KE.KRevIter
import PyProof.Rows.FactsT2
import PyProof.FactsAll.range_2
import PyProof.StrWalks
import PyProof.StrCalls2
import PyProof.StrLawsChain
import PyProof.StrLawsTight
import PyProof.CallStr
import PyProof.Rows.StrJoin2
import PyProof.Rows.StrFin3
import PySem.Challenge.RW_widewords_k75_numbers_put
set_option Elab.async false
set_option linter.all false
set_option maxRecDepth 100000
set_option maxHeartbeats 0
local macro_rules
 | `(#print $s:str)=>do
  let n:=fun (x:Lean.Name)=>Lean.mkIdent (`PySem.W.Fast++.mkSimple s!"tw{x.hash}")
  let mut a:=#[n `PySem.Challenge.pw_widewords_k75_numbers_put]
  for e in s.getString.splitOn "|" do
   let f:=e.splitOn " "
   let mut p:=0
   for r in f.tail! do
    let g:=(r.splitOn ".").map String.toNat!
    p:=p+g[0]!
    for j in [0:g.getD 1 0+1] do a:=a.push (n (.mkStr2 "sh" (f[0]!++toString (p+j))))
    p:=p+g.getD 1 0
  return Lean.mkNullNode (←a.mapM λx=>return (←`(command|noncomputable def $x:ident:=Nat)).raw)
#print "o_ 3 2 4 3.1 2.2 4 2 3 3.1 2.1 4 2 3 3.1 2.1 4 2 3 3.1 2.1 4 2 3 3.1 2.1 4 2 3 3.1 2.1 4 2 3 3.1 2.1 4 2 3 3.1 2.1 4 2 3 3.1 2.1 4 2 3 3.1 2.1 4 2 3 3.1 2.1 4 2 3 3.1 2.1 4 2 3 3.1 2.1 4 2 3 3.1 2.1 4 2 3 3.1 2.1 22 2.2 5.2 2 4.2 3 2.2 4 2.2 4 2.2 4 2.2 3 2.2 5.2 5.2 5.2 3 2.2 3 2.2 3 2.2 2 10 2.2 3 2.2 5.2 5.2 11.2 3 2.2 3 2.2 5 6.2 5.2 3 2.2 5.2 3 2.2 3 2.2 5.2 3 2.2 5.2 3.2 5.2 5.2 2 6.2 5.2 3 2.2 5.2 5.2 5.2 17.2 3 2.2 5.2 2 6.2 5.2 5.2 5.2 3 2.2 3 2.2 5.2 3 2.2 5.2 3 2.2 3 2.2 3 2.2 5.2 2 4 2.2 3 2.2 3 2.2 3 2.4 16 6.2 5.2 3 2.2 5.2 3 2.2 5.2 5.2 5.2 3.2 3 2.2 3 2.2 3.2 2 6.2 2 4 3.1 3 2.2 3 2.2 3 2.2 3 2.2 3.2 5.2 3 2.6 5 6.2 3.2 3 2.2 3.2 3 2.2 5.2 3 2.9 5.2 3 2.2 5.2 2 6.2 5.2 5.2 5.2 5.2 2.3 3.3 10 4 2 3 2.2 3.2 3 2.2 3 2.2 5.2 4 4.2 5.2 3.2 3.3 5 3.2 3 2.2 3 2.2 5.2 5.2 4 6.2 3.2 3.2 3 2.2 3 2.2 3 2.2 3 2.2 3.2 5.2 5.2 3.2 3.2 3.2 2 4 2.2 3 2.2 3 2.2 5.2 3 2.2 5.2 5.2 5.2 5.2 5.2 5.2 5.2 2 6.2 5.2 5.2 5.2 3 2.2 5.2 3 2.2 5.2 3 2.2 3 2.2 2.3 4 4 3.1 5.2 3 2.2 3 2.2 5.2 5.2 5.5 6 4.2 3 2.2 5.2 3.2 3.2 5.2 5.2 5.2 3 2.2 3 2.2 3 2.2 3 2.2 2 4 2.2 3 2.2 3 2.2 3 2.2 3 2.2 3.2 3 2.2 3 2.2 3 2.2 3 2.2 3 2.2 3 2.2 2 4 2.2|sts_ 4 17 16 16 16 16 16 16 16 16 16 16 16 16 16 47 88 67 85 78 94 47 83 10 64 76 38 23 39 66 82 87 73 7 59 81 85|tree_ 19 16 16 16 16 16 16 16 16 16 16 16 16 16 47 88 67 85 78 94 45 85 10 64 76 38 21 39 66 84 87 73 5 61 81 85 10"
open_shared sh for PySem.Challenge.pw_widewords_k75_numbers_put leaving 0
namespace hh
open PySem PySem.W PySem.Calls PyProof.Rows
noncomputable abbrev p:=PySem.Challenge.pw_widewords_k75_numbers_put
abbrev z:Pos:=⟨0,0,0,0⟩
abbrev an:Option Value:=some (.ref 6)
noncomputable abbrev bE:=behindTheImports p
noncomputable abbrev cE:Code:=.body bE sh.env_1
noncomputable abbrev H1(P:Params):Heap:=absHeap (sh.tree_1616 P) 1495 {}
noncomputable abbrev S0(w:World)(os:OsState):Shared:=⟨boot_heap w.params,⟨[]⟩,boot_drawn,boot_toks,os⟩
noncomputable abbrev Sb(w:World)(os:OsState):Shared:=SharedT.abs ⟨sh.tree_4 w.params,15,{},⟨[]⟩,{},187,os⟩
noncomputable abbrev Sk(w:World)(os:OsState):Shared:=SharedT.abs ⟨sh.tree_1616 w.params,1495,{},⟨[]⟩,{},2462,os⟩
theorem pre(w os):topGo treeTable p w 11 an 12 (S0 w os) (topStub p)=some (Sb w os,⟨denote treeTable cE,cE,z,[topFrame z]⟩):=by kernel_rfl
theorem blk(w os):segRun treeTable p w 11 an 1 1 (Sb w os) (blockOf bE sh.env_1 cE z [topFrame z])=some (.next,Sb w os,cE,z):=by kernel_rfl
theorem fin(w os):topRun treeTable p w 11 an 2 (Sk w os) (restOf [] sh.env_1 cE ⟨869,0,896,15⟩ [topFrame z])=some (Sk w os):=by kernel_rfl
theorem bod:bE=sh.sts_4++(sh.sts_21++(sh.sts_37++(sh.sts_53++(sh.sts_69++(sh.sts_85++(sh.sts_101++(sh.sts_117++(sh.sts_133++(sh.sts_149++(sh.sts_165++(sh.sts_181++(sh.sts_197++(sh.sts_213++(sh.sts_229++(sh.sts_276++(sh.sts_364++(sh.sts_431++(sh.sts_516++(sh.sts_594++(sh.sts_688++(sh.sts_735++(sh.sts_818++(sh.sts_828++(sh.sts_892++(sh.sts_968++(sh.sts_1006++(sh.sts_1029++(sh.sts_1068++(sh.sts_1134++(sh.sts_1216++(sh.sts_1303++(sh.sts_1376++(sh.sts_1383++(sh.sts_1442++(sh.sts_1523++(sh.sts_1608++[])))))))))))))))))))))))))))))))))))):=by kernel_rfl
theorem run(w os):topRun treeTable p w 11 an (12+(1+(196+(214+(214+(214+(214+(214+(214+(214+(214+(214+(214+(214+(214+(214+(400+(391+(374+(395+(376+(397+(380+(396+(66+(426+(398+(176+(337+(386+(401+(400+(393+(339+(335+(388+(367+(396+(42+2))))))))))))))))))))))))))))))))))))))) (S0 w os) (topStub p)=some (Sk w os):=by
 refine go_top (pre w os) (piece_block (blk w os) ?_)
 have h:=sh.chain p bE w os [] 2 (Sk w os) (fin w os)
 rw[<-bod] at h
 exact h
noncomputable def q:Program:=view p [251]
noncomputable abbrev lo:List Str:=p.boundNames
theorem look(w:World):(fun os=>((staticsOk (importedModules p.main.body) (boot_heap w.params) (H1 w.params) && namesBound p (H1 w.params) && gensDone (Sk w os) && laidKept (boot_heap w.params) (H1 w.params)),openSeen q lo (importedModules p.main.body) (fun _=>true) true (Sk w os),(Sk w os).heap))=fun _=>(true,openGood q lo,H1 w.params):=by kernel_rfl
theorem left:LeftO p q lo (fun _=>true) Shared.heap (fun w=>H1 w.params) 21926:=.of_pieces (boot_open (by kernel_rfl) (by kernel_rfl) fun s=>by kernel_rfl) (fun w=>by kernel_rfl) run (by kernel_rfl) look
theorem inA{t:BT}{n:Nat}{f:Life}{K:Frag}(h1:K.all (fun x=>Nat.blt x.1 n)=true)(h2:K.map (fun x=>t.get x.1)=K.map fun x=>some x.2)(h3:K.map (fun x=>alive x.2)=K.map fun x=>some x.2):K.In (absHeap t n f):=by
 intro a o e
 induction K with
 | nil=>cases e
 | cons x r ih=>
  obtain ⟨b,y⟩:=x
  simp only[List.map_cons,List.cons.injEq,List.all_cons,Bool.and_eq_true] at h1 h2 h3
  by_cases hb:(a==b)=true
  · rw[List.lookup_cons,hb] at e
    cases e
    have:=beq_iff_eq.mp hb
    subst this
    rw[abs_get (Nat.le_of_ble_eq_true h1.1) h2.1]
    exact h3.1
  · rw[List.lookup_cons,eq_false_of_ne_true hb] at e
    exact ih h1.2 h2.2 h3.2 e
local macro_rules
 | `(panic! $s:str)=>do
  let mut v:=#[]
  let mut p:=0
  let mut q:=0
  for r in s.getString.splitOn " " do
   if let g::l::m:=(r.splitOn ",").map String.toNat! then
    let i:=m.headD (q+g)
    p:=p+g
    for j in [0:l] do v:=v.push (p+j,if i==0 then .str `PySem.W s!"boot_o_{p+j}" else .str `sh s!"o_{i+j}")
    p:=p+l
    q:=i+l
  let mut a ← `(List.nil)
  for (x,o) in v.reverse do a ← `(List.cons (nat_lit $(Lean.Syntax.mkNumLit (toString x)),$(Lean.mkIdent o) P) $a)
  `(fun P=>$a)
noncomputable def KK:Params->Frag:=panic! "2,1,0 0,1,1608 11,1,7 6,2 0,1,231 0,1,17 2,1,24 6,3 2,1,40 6,3 2,1,56 6,3 2,1,72 6,3 2,1,88 6,3 2,1,104 6,3 2,1,120 6,3 2,1,136 6,3 2,1,152 6,3 2,1,168 6,3 2,1,184 6,3 2,1,200 6,3 2,1,216 6,3 2,1,232 6,3 2,18 1,2 1,3 1,2 1,2 0,1,278 2,3 1,2 1,4 1,2 1,4 1,2 1,4 1,2 1,3 1,2 1,3 1,2 1,3 1,2 1,3 1,2 1,3 1,2 1,3 1,2 1,3 1,2 1,2 0,7,366 1,2 1,3 1,2 1,3 1,2 1,3 1,2 1,9 1,2 1,3 1,2 1,3 1,2 1,5 0,1,433 1,2 1,3 1,2 1,3 1,2 1,3 1,2 1,3 1,2 1,3 1,2 1,3 1,2 1,3 1,2 1,3 1,2 1,3 2,3 1,2 1,3 1,2 1,2 0,1,518 1,2 1,3 1,2 1,3 1,2 1,3 1,2 1,3 1,2 1,3 1,2 1,15 1,2 1,3 1,2 1,3 1,2 1,2 0,1,596 1,2 1,3 1,2 1,3 1,2 1,3 1,2 1,3 1,2 1,3 1,2 1,3 1,2 1,3 1,2 1,3 1,2 1,3 1,2 1,3 1,2 1,3 1,2 1,3 1,2 1,2 0,1,690 1,2 1,3 1,2 1,3 1,2 1,3 1,2 1,16 0,1,737 1,2 1,3 1,2 1,3 1,2 1,3 1,2 1,3 1,2 1,3 1,2 1,3 1,2 1,3 1,2 1,3 2,3 1,2 1,3 1,2 1,3 2,2 0,1,820 1,2 1,2 7,1,837 1,2 1,3 1,2 1,3 1,2 1,3 1,2 1,3 2,3 1,2 1,3 1,2 1,7 2,1,894 1,2 1,3 2,3 1,2 1,3 2,3 1,2 1,3 1,2 1,3 1,2 1,10 1,2 1,3 1,2 1,3 1,2 1,2 0,1,970 1,2 1,3 1,2 1,3 1,2 1,3 1,2 1,3 1,2 1,2 0,19,1007 0,2,1031 1,2 1,3 2,3 1,2 1,3 1,2 1,3 1,2 1,2 0,1,1070 2,3 1,2 1,3 2,3 2,9 2,3 1,2 1,3 1,2 1,3 1,2 1,3 1,2 1,2 0,1,1136 1,2 1,3 2,3 2,3 1,2 1,3 1,2 1,3 1,2 1,3 1,2 1,3 2,3 1,2 1,3 1,2 1,3 2,3 2,3 2,2 0,1,1218 1,2 1,3 1,2 1,3 1,2 1,3 1,2 1,3 1,2 1,3 1,2 1,3 1,2 1,3 1,2 1,3 1,2 1,3 1,2 1,3 1,2 1,3 1,2 1,2 0,1,1305 1,2 1,3 1,2 1,3 1,2 1,3 1,2 1,3 1,2 1,3 1,2 1,3 1,2 1,3 1,2 1,3 1,2 1,3 1,2 1,2 0,3,1377 7,1,1392 1,2 1,3 1,2 1,3 1,2 1,3 1,2 1,3 1,2 1,3 1,2 1,7 2,1,1444 2,3 1,2 1,3 1,2 1,3 2,3 2,3 1,2 1,3 1,2 1,3 1,2 1,3 1,2 1,3 1,2 1,3 1,2 1,3 1,2 1,2 0,1,1525 1,2 1,3 1,2 1,3 1,2 1,3 1,2 1,3 1,2 1,3 2,3 1,2 1,3 1,2 1,3 1,2 1,3 1,2 1,3 1,2 1,3 1,2 1,2 0,1,1610 1,2 1,2"
theorem inK(w:World):InK KK w (H1 w.params):=inA (K:=KK w.params) (by kernel_rfl) (by kernel_rfl) (by kernel_rfl)
theorem hd{d:DefRec}{k:List (Str×Expr)}(a:defOf q "law"=some (d,k))(b:p.theDef "law"=some (d.params,d.body,d.scope))(c:kwWritten? d.params.kwonlyargs d.params.kw_defaults=some k)(h:WalkO q lo (fun _ _=>True) (InK KK) PySem.Challenge.rw_widewords_k75_numbers_put.row.toRowW d k fun f vs=>PySem.call f vs):PySem.Challenge.rw_widewords_k75_numbers_put.Holds:=by
 w_on;o_law
 refine holds_open left (YP:=InK KK) (XP:=fun _ _=>True) (fun w s e=>e ▸ inK w) InK.keeps (fun _ _=>trivial) (fun _ _ _ _ _=>trivial) a b c (fun s _=>recFacts_nil rfl) (by rfl) (by assumption) (by decide +kernel) ⟨rfl,rfl,rfl,rfl,rfl,by decide +kernel⟩ ?hw h
 w_witness2
end hh
local macro_rules|`(⋯)=>`((by decide))
local macro_rules|`(∅)=>`((by lia))
set_option compiler.extract_closed false
set_option bootstrap.genMatcherCode false
set_option genSizeOf false
open Option renaming some->AA,none->AD,isSome_iff_exists->Al,bind_some->BI,getD_some->B7,map_some->Bu,map_eq_some_iff->C2,any_eq_true_iff_get->DW,getD_none->EM,join_some->Ff,bind_eq_some_iff->Fk,bind_none->Fq,get_some->GP,isSome_map->HY
open PySem renaming wpAny_bind->AB,Value->AG,Shared->AH,Addr->AJ,wpAny_pure->AM,Str->AR,Expr->AZ,wpAny->A1,Program->A6,World->Ah,Around->Ai,wpAny_newObj_type->Am,sizeLine_eq->Ap,wpAny_field->Aq,Heap->Au,FuncData->BF,wpAny_callSpecial?_slot->BO,wpAny_call_entry->BY,Env->BZ,Scope->B4,wpAny_of_eq->Ba,wpAny_truthy_bool->Bd,wpAny_Call_Name_kw->Bf,wpAny_holding->Bk,Obj->Bw,wpAny_mono->CC,Pos->CK,Stmt->CL,wpAny_binaryOp_repeat_ref->CN,Keyword->CU,Builtin->C1,DictEntry->C7,wpAny_seqItems->Ca,call_meets->Cd,wpAny_specialOf->Cj,wpAny_passesOwn->Ck,IsPair->Cu,mem_of_lookup->Cv,wpAny_pyIter_tuple->DC,wpAny_setField_rec->DD,builtinLookup_eq_fast->DM,typeIs_int->DS,wpAny_setField->DU,wpAny_standAt->Da,wpAny_pyIter_rangeiter->Ds,NameKind->Du,wpAny_pyIter_list->Dz,isSubtype_type->EC,wpAny_isInstance->EK,wpAny_rule->EL,strKind_is->EQ,wpAny_attempt->EU,Operator->EV,wpAny_execs_nil->EY,typeLookup_type->E5,CmpOp->E7,codeAny_mono->Eb,wpAny_newFunctionEnv_cells->Ep,typeIs_str->Ew,wpAny_sequenceKey->FR,slot_list_getitem->FT,IsZip->FW,Result->F0,wpAny_getItem_list_slice->F1,wpAny_comprehension_free->F2,wpAny_onRaise->F4,wpAny_newList->F6,PassesOwn->F9,noFill_tuple_add->Fc,wpAny_pyNext_range_end->Fy,BindsTo->Fz,IsPart->GA,wpAny_typeOf->GB,codeAny_builtin->GO,wpAny_isTrue_Compare1->GQ,codeAny_call_function->GR,wpAny_loadName_local->G0,wpAny_bindName->G2,IsRangeIter->G3,wpAny_pyIter_revIter->Gb,wpAny_newTuple->Ge,wpAny_updateSeq_pair->Gf,wpAny_loadName_cell->Gm,seq_tuple_add->Gv,evalPart_none->Gw,Within->HI,wpAny_assign_Name->HJ,concat_meets->HQ,callType_new->HV,wpAny_pyIter_enum->HX,newClass_reversed->Hb,ZipApart->Hc,wpAny_getItem_of->Hk,wpAny_Dict_empty->Hl,seqSlot_of->Hn,wpAny_pyIter_zip->Hu,Tok->Hw,seqIndex_of->Hx,Sem->IR,PyData->IW,Paired->IX,wpAny_Name->IY,wpAny_call->IZ,call->Ie,Meets->JB,Fin->JE,BoolOp->JK,Reads->JT,Model->JW
open Bool renaming false->AC,true->AE,and_eq_true->AK,false_ne_true->A3,false_eq_true->Aw,not_eq_true'->Bp,and_eq_true_iff->CS,and_self->C5,not_true->ET,or_eq_true->E4,true_and->F3,eq_iff_iff->IG,or_false->Iq,false_or->Iv,true_or->JH,or_true->JN
open PySem.W renaming Frag->AF,findIn->Ak,keepIn->Ax,nsIn->BU,kitOne->B0,emptyDict->Bo,fnOf->CD,instObj->CW,codeIn->Cb,kia_one->DG,plainGet->DY,isFn->DZ,hideAll->Di,hasDictIn->Dt,cellsFrom_some->Dv,makesIn->EZ,plainGet_of->E8,callWith_K0->E9,lookIn->En,callWith_K->Eo,exmOne->FB,methodObj->FP,plainOver->FQ,mg_of->F7,OpenLaw->Fv,takerIn->GN,methodCall_KW->GV,hideAll_get->Gk,excIn->Gy,of_hideAll->HD,codeRec_of->HF,handedIn->Hg,kas_sort->IF,WalkO->IU,subIn->Ir,mroIn->Is,clsIn->Iu,Rel2->JI
open PySem.Str renaming ofString->AI,length->BC,join->BH,empty->C6
open PySem.Heap renaming get?_push_of_some->AL,get?_push_size->AQ,lt_size->A0,size_push->CQ,SameBut->C0,get?_update_self->DL,get?_update_other->Dx,get?_push_ne->EF,size_update->ER,FlyingW->GF,MadeExcOf->Ig,IsTuple->JG,ExtBut->J3
open List renaming getElem?_cons_succ->AN,getElem?_cons_zero->AO,mem_cons_of_mem->AS,replicate->AT,map_cons->AV,getElem?_set_ne->AW,size_toArray->AX,length_cons->AY,mem_cons_self->A2,set_cons_zero->A4,set_cons_succ->A5,getElem?_append_left->A7,mem_cons->A8,mem_of_getElem?->A9,getElem?_set_self->Ab,getElem?_eq_getElem->Ac,length_map->Ae,length_nil->Aj,getElem?_eq_some_iff->Ao,all_eq_true->Ar,mem_append_right->Av,getElem?_append_right->Ay,map_nil->Az,getElem?_eq_none->BA,length_set->BD,getElem?_map->BG,all_cons->BL,getD_eq_getElem?_getD->BN,replicate_succ->BP,cons_append->BQ,append_nil->B5,nil_append->B6,not_mem_nil->B8,length_reverse->Bc,flatten_cons->Be,length_append->Bg,mem_append->Bj,lookup_cons->Bz,any_cons->CA,filterMap_cons->CG,lookup->CJ,find?_cons->CZ,mem_map->C4,mem_append_left->Cn,length->Co,getElem?_set->Cr,length_take->Cy,foldl_cons->DE,ext_getElem?->DO,range->DR,length_drop->D0,set_set->D4,map_map->D5,forIn_cons->Dh,reverse_cons->Dy,filterMap->EA,mem_iff_getElem?->EH,any_eq_true->EN,nodup_cons->E1,of_mem_zip->E2,mem_filterMap->El,drop_zero->Ez,zip_cons_cons->FA,getElem?_eq_none_iff->FK,drop_eq_getElem_cons->FN,pairwise_iff_getElem->FO,append_assoc->FU,getElem?_replicate->Fb,take_length->Fd,drop_length->Fe,map_reverse->Ft,getElem_mem->Fu,take_of_length_le->GG,getElem?_reverse->GU,contains_iff_mem->GW,mem_range->GZ,mem_of_mem_take->Gg,take_succ_cons->Gn,map_congr_left->Go,getElem?_range->Gq,getElem_of_mem->Gr,length_pos_iff->Gu,isEmpty_cons->Ha,toArray->He,isEmpty_nil->Hm,zipIdx_cons->Hr,mem_reverse->Hv,mem_filter->IB,zipIdx_nil->IK,map_append->IQ,foldl->Ic,forIn_nil->Ii,set_comm->Io,sum_cons->Ix
open Nat renaming le_refl->AU,ne_of_lt->Ad,lt_of_lt_of_le->Af,zero_le->BB,mul_le_mul->BK,pow_le_pow_right->BM,zero_add->BS,reduceAdd->B9,le_trans->Bl,reduceSub->Bs,reduceLeDiff->C8,lt_or_ge->Ct,ne_of_gt->DB,lt_irrefl->D9,le_succ->Dl,le_succ_of_le->EB,le_add_right->ES,toDigits->Ee,lt_succ_of_lt->FX,le_of_lt->Fx,sub_zero->GI,log2_lt->G5,le_of_eq->HL,mul_comm->HS,lt_trans->HZ,lt_succ_self->Hh,zero_lt_succ->Ht,toList_repr->IN
open Option.some renaming inj->Aa
open PySem.Value renaming ref->Ag,none->BJ,str->DX,bool->Eg,type->Eh,int->F8,isStrOf->Im,builtin->Iy,isInt->JS,bytes->JU,float->JV
open PyProof.Rows renaming slot_tuple_getitem->An,callWith_type1->BV,tupleItemsOf_->Ci,AllBare->Dr,entry_tuple_getitem->Ea,assignInOrder_cons->Ek,slicePart_none->Es,args_tuple_getitem->Et,listUpdate_at->F5,subscriptTail_builtinR->GE,IsTup->G1,seqEpoch_at->Gc,IntsAre->Gi,getItem_tuple->Gj,Subscript_->HG,assignInOrder_nil->HK,callWith_builtin1->Hi,join_plain_closes->Ho,len_tuple->Hy,boot_isinstance->IH,list_sort_plain->IL,get?_update_seq->IM,iadd_int->IS,signs_ofString->IV,tail_any->Ia,size_push'->Ij,digit_range->Iz,split_pos->JL,join_list->JM,split_le->JR
open Int renaming eq_ofNat_of_zero_le->As,mul_le_mul_of_nonneg_left->Bq,pow_succ->Bv,mul_comm->CF,toNat_natCast->CV,emod_lt_of_pos->Ch,one_mul->Cq,pow_mul->DA,emod_nonneg->DH,ediv_lt_of_lt_mul->DN,ediv_nonneg->Dj,pow_pos->Do,fdiv_eq_ediv_of_nonneg->Em,mul_nonneg->FH,add_mul_emod_self_left->FI,mul_left_comm->FY,ediv_ediv_of_nonneg->Fp,le_ediv_iff_mul_le->GJ,pow_zero->GL,ediv_eq_zero_of_lt->GM,add_mul_ediv_left->GX,emod_add_mul_ediv->GY,mul_one->G4,mul_le_mul->G6,mul_assoc->Gz,lt_of_lt_of_le->HH,ediv_one->HR,emod_eq_of_lt->Hf,mul_sub->IA,zero_add->JO,zero_mul->JP,pow_add->J5,mul_neg->J6
open PySem.Builtin.Tuple renaming tupleExact->BE,tupleItemsOf->C9,tupleTooMany->FD,tupleHashOf->FJ
open Ne renaming symm->BR
open PySem.Builtin.Range renaming rangeFitsLong->BW,rangeSize->Fa,rangeFields->Il
open Array renaming length_toList->BX,toList_inj->EO,append_assoc->Ei,getElem?_eq_some_iff->Ey,toList->Fw,forIn_toList->HC
open PySem.Builtin.Slice renaming slicePlaces->B1,sliceApplied->Cc,sliceAdjust->D6,sliceFields->FL,slicePartIndex->ID
open PySem.Builtin.SmallTypes renaming nextOf->B3,ownedTupleIsFree->Br,ownedTupleHandOut->D8,newRecord->IJ
open PySem.Heap.FunFrames renaming mem->Bi
open PySem.F renaming slot_int_rmul->Bm,slot_tuple_mul->C3,slot_tuple_iterator_next->Cf,args_int_rmul_2->DF,slot_int_index->DP,entry_int_rmul->DQ,fills_int_mul->D3,args_tuple_add_2->Db,args_tuple_mul_2->Dg,entry_tuple_add->Dm,entry_tuple_mul->Dn,slot_str_split->Dp,slot_tuple_add->Dw,plainAttrs_str->ED,slot_range_reversed->EI,args_tuple_iterator_next_1->E3,slot_zip_next->E6,entry_tuple_iterator_next->Ec,args_str_split_2->FE,slot_dict_getitem->FM,entry_str_split->FV,slot_tuple_rmul->Fg,plain_list_iadd->Fj,slot_list_append->GS,typeCall_reversed_1->GT,newCall_reversed_1->G7,plain_reversed_new->G8,entry_reversed_new->G9,slot_tuple_getitem->Ga,args_zip_next_1->Hd,entry_zip_next->Hs,made_reversed->II,mro_reversed->Ih
open False renaming elim->Bn
open PySem.PyData renaming depthAll->Bt,eqv->By,depth->CB,canLay0->CO,canLayAll0->Cm,eqvAll->DI,keyHash->FF
open True renaming intro->CM
open PySem.Builtin renaming bitAnd->CP
open PySem.Builtin.Str renaming occurrences->CT,subAt->Cp,strSliceIndices->Ed,strSub->Ex,strKind->Gp
open PySem.Obj renaming mapSeq->CY,data_mapFields->Cg,isFreed_of_fields->EG,cls_mapFields->HU,mapFields->Iw
open PySem.Heap.SameBut renaming update->Cw,refl->Jg
open PySem.Challenge renaming rw_widewords_k75_numbers_put->Cz,pw_widewords_k75_numbers_put->Fm
open PySem.NameKind renaming free->DJ,cell->Gx
open PySem.Value.type renaming inj->DV
open PySem.Builtin.Int renaming intBits->D7
open PySem.Builtin.List renaming listTooLong->Dc
open PySem.AutoSeq1 renaming sub_tuple_tuple->De,idx_int->Fh
open Sum renaming inr->Dq,inl->Gh
open PySem.Around renaming in1_units->EJ,under_plainId->EW,under->HM
open ForInStep renaming yield->EX
open PUnit renaming unit->Ef
open PySem.Calls renaming Name_function_global->Ej,spliced_cons->HE,spliced_nil->HP
open PySem.Heap.IsSliceOf renaming new->Eu
open PySem.ScopeKind renaming function->FG
open PySem.Paired renaming length->FZ,snoc->J4
open PySem.Txt renaming split->Fi,removeprefix->Hq
open Eq renaming refl->GH,trans->Ja
open PySem.SeqAt.EqAt renaming int_str->HA,str_int->HB
open PySem.Code renaming isFrame->HN,frames->J0
open PySem.WalksT renaming enumerateD->HW
open PySem.SeqAt renaming in_tupleAt->Hj,in_listAt->IE,EqAt->Ib,shaped->JJ
open PySem.Shared renaming heap->Hz
open List.cons renaming injEq->IP
open Char renaming toNat->Ik
open PySem.Flow renaming next->JA
open PySem.Heap.UpToSlots renaming of_keeps->JC
open PySem.NumText renaming AllDigits->JD
open And renaming intro->JF
open Decidable renaming em->JQ
open PySem.Data renaming fields->JX,seq->J2
open PySem.Walks renaming range->JY,list->Jd
open PySem.IsRange renaming new->JZ
open PySem.W.Looks renaming here->Jb,ld->Ji
open PySem.W.WShape renaming has->Jc
open PySem.Within renaming cons->Je
open List.Pairwise renaming nil->Jf
open PySem.W.WData renaming int->Jh
noncomputable section
open Lean in
def cnvP:Nat->Syntax->MacroM (TSyntax `rcasesPat)
 |0,_=>Macro.throwUnsupported
 |n+1,s=>do
  if s.isOfKind ``Lean.Parser.Term.anonymousCtor||s.isOfKind ``«term#[_,]» then `(rcasesPat| ⟨$[$(← s[1].getSepArgs.mapM (cnvP n)):rcasesPat],*⟩)
  else if s.isIdent then `(rcasesPat| $(⟨s⟩):ident)
  else if s.isOfKind ``Lean.Parser.Term.hole then `(rcasesPat| _)
  else Macro.throwUnsupported
local macro_rules | `(tactic| let $p:term := $e)=>do `(tactic| obtain $(← cnvP 9 p):rcasesPat := $e)
local macro_rules | `(tactic| erw [$rs,*] $(l)?)=>do
 let t<-rs.getElems.flatMapM λ|`(Lean.Parser.Tactic.rwRule| $t:term)=>(if t.raw.isOfKind `ident then (if t.raw.getId== `ev then "ve1 ve2 ve3 ve4 ve5 ve6 ve7 ve8 ve9 ve10 ve11 ve13 ve15 ve16 ve17 ve18 ve19 ve20 ve21 vxq19 ve24 ve25 ve26 ve27 ve28 ve29 ve32 ve33 ve34 ve36 ve37 ve58 ve59 ve60 ve57 ve56" else if t.raw.getId== `ex then "xrq0 xrq1 xrq2 xrq3 xrq4 xrq5 xrq6 xrq7 xrq8 xrq9 xrq10 xrq11 xrq12" else "").splitOn " " else [""]).toArray.mapM λs=>if s=="" then `(Lean.Parser.Tactic.simpLemma| $t:term)else `(Lean.Parser.Tactic.simpLemma| $(Lean.mkIdent (`IC++s.toName)):term)|_=>Lean.Macro.throwUnsupported
 `(tactic| simp only[$t,*] $(l)?)
local macro_rules | `(fun $bs* => $b)=>do
 if !(bs.any λx=>x.raw.isOfKind ``Lean.Parser.Term.anonymousCtor||x.raw.isOfKind ``«term#[_,]»)||(b.raw.find? λx=>x.isOfKind ``Lean.Parser.Term.syntheticHole).isSome then Lean.Macro.throwUnsupported
 `(by rintro $[$(← bs.mapM λx=>cnvP 9 x.raw):rcasesPat]*;exact $b)
set_option backward.eqns.nonrecursive false
local macro_rules (kind:=Lean.Parser.Command.declaration)
 |s=>do
  if s.getPos?.isNone then Lean.Macro.throwUnsupported
  let s:=s.rewriteBottomUp fun|.atom _ v=>.atom .none v|.ident _ r v p=>.ident .none r v p|.node _ k a=>.node .none k a|x=>x
  let k:=s[1].getKind
  unless (k==``Lean.Parser.Command.definition||k==``Lean.Parser.Command.abbrev)&&s[0].getArgs.all (·.isNone) do return s
  if k==``Lean.Parser.Command.definition&&(toString s[1][1][0].getId).startsWith "z" then
   let m←`(theorem x:True:=trivial)
   return s.setArg 1 (((m.raw[1].setArg 1 s[1][1]).setArg 2 (Lean.mkNode ``Lean.Parser.Command.declSig #[s[1][2][0],s[1][2][1][0]])).setArg 3 s[1][3])
  let m←`(noncomputable def x:=0)
  return s.setArg 0 m.raw[0]
local macro_rules|`(())=>`((by lia))
local macro_rules|`(#[$x,*])=>`(⟨$x,*⟩)
namespace L2
open PySem PySem.Spec PyProof.Rows
abbrev Key:=Sum Int AR
def ybc:Key->AG->Bool
 |.inl k,v=>JS k v
 |.inr x,v=>Im x v
def yfC(w:Ah):Key->Int
 |.inl k=>hashInt k
 |.inr x=>hashStr w x
def zj:∀{k:Key} {v:AG},ybc k v=AE->(∃i t,k=Gh i/\v=F8 i t) \/ (∃x t,k=Dq x/\v=DX x t)
 |.inl i,v,h=>by let#[t,e]:=Value.isInt_shape (k:=i) (v:=v) h;exact .inl #[i,t,rfl,e]
 |.inr x,v,h=>by let#[t,e]:=Value.isStrOf_shape (x:=x) (v:=v) h;exact .inr #[x,t,rfl,e]
def zhc(i:Int)(t:Hw):ybc (.inl i) (.int i t)=true:=by simp[ybc,JS]
def zfw(x:AR)(t:Hw):ybc (.inr x) (.str x t)=true:=by simp[ybc,Im]
def zlo(a b:Int):decide ((Gh a:Key)=Gh b)=(a==b):=by
 by_cases e:a=b
 .subst e;simp
 .have h:¬(Gh a:Key)=Gh b:=λq=>e (Sum.inl.inj q);rw[decide_eq_false h];exact(beq_eq_false_iff_ne.mpr e).symm
def znm(a b:AR):decide ((Dq a:Key)=Dq b)=decide (a=b):=by
 by_cases e:a=b
 .subst e;simp
 .have h:¬(Dq a:Key)=Dq b:=λq=>e (Sum.inr.inj q);rw[decide_eq_false h,decide_eq_false e]
def zlH(a:Int)(b:AR):decide ((Gh a:Key)=Dq b)=false:=decide_eq_false (λq=>nomatch q)
def zms(a:AR)(b:Int):decide ((Dq a:Key)=Gh b)=false:=decide_eq_false (λq=>nomatch q)
def yU(prog:A6)(w:Ah):PySem.KeyKind prog w Key where
 is:=ybc
 hash:=yfC w
 inj:=λv a b g f=>by
  rcases zj g with⟨i,t,rfl,rfl⟩|⟨x,t,rfl,rfl⟩
  .rcases zj f with⟨j,u,rfl,e⟩|⟨y,u,rfl,e⟩
   .injection e with c _;rw[c]
   .exact nomatch e
  .rcases zj f with⟨j,u,rfl,e⟩|⟨y,u,rfl,e⟩
   .exact nomatch e
   .injection e with c _;rw[c]
 byValue:=λk v h=>by rcases zj h with⟨i,t,rfl,rfl⟩|⟨x,t,rfl,rfl⟩<;>rfl
 pyHash:=λd h=>by
  rcases zj d with⟨i,t,rfl,rfl⟩|⟨x,t,rfl,rfl⟩
  .exact wpAny_pyHash_int h
  .exact wpAny_pyHash_str h
 eqBool:=λl d h=>by
  rcases zj l with⟨i,t,rfl,rfl⟩|⟨x,t,rfl,rfl⟩
  .rcases zj d with⟨j,u,rfl,rfl⟩|⟨y,u,rfl,rfl⟩
   .rw[zlo]at h;exact wpAny_eqBool_int h
   .rw[zlH]at h;exact HA i t y u _ _ _ _ h
  .rcases zj d with⟨j,u,rfl,rfl⟩|⟨y,u,rfl,rfl⟩
   .rw[zms]at h;exact HB x t j u _ _ _ _ h
   .rw[znm]at h;exact wpAny_eqBool_str h
 «strs»:=λk x t v h=>by
  rcases zj h with⟨i,u,rfl,e⟩|⟨y,u,rfl,e⟩
  .exact nomatch e
  .injection e with c _;subst c
   cases v<;>rfl
def zeT(prog:A6)(w:Ah)(k:Key)(v:AG):(yU prog w).is k v=ybc k v:=rfl
def zdF(prog:A6)(w:Ah)(i:Int)(t:Hw):(yU prog w).is (.inl i) (.int i t)=true:=zhc i t
def zdB(prog:A6)(w:Ah)(x:AR)(t:Hw):(yU prog w).is (.inr x) (.str x t)=true:=zfw x t
end L2
namespace L2
open PySem
inductive NK where
 |a (k:Key)
 |t (l:List NK)
noncomputable instance:DecidableEq NK:=λ_ _=>Classical.propDecidable _
mutual
def NI(h:Au):NK->AG->Prop
 |.a k,v=>ybc k v=AE
 |.t l,v=>∃(b:AJ) (c:List AG),v=.ref b/\h.get? b=AA {cls:=.type "tuple",data:=.seq c.toArray}/\NIs h l c
def NIs(h:Au):List NK->List AG->Prop
 |[],a=>a=[]
 |k::l,a=>∃v r,a=v::r/\NI h k v/\NIs h l r
end
mutual
def nkH(w:Ah):NK->Int
 |.a k=>yfC w k
 |.t l=>reduceHash (FJ (ydd w l))
def ydd(w:Ah):List NK->List Int
 |[]=>[]
 |k::l=>nkH w k::ydd w l
end
mutual
def nkN:NK->Nat
 |.a _=>1
 |.t l=>ydU l+1
def ydU:List NK->Nat
 |[]=>0
 |k::l=>nkN k+ydU l
end
mutual
def nkD:NK->IW
 |.a (.inl i)=>.int i
 |.a (.inr x)=>.str x
 |.t l=>.tuple (ybb l)
def ybb:List NK->List IW
 |[]=>[]
 |k::l=>nkD k::ybb l
end
section
variable {prog:A6}{w:Ah}{E:AG->AH->Prop}
mutual
theorem zgc:∀(k:NK) (v:AG) (A:Ai) (s:AH) (Q:Int->AH->Prop),NI s.heap k v->A.units+(nkD k).depth<cLine->Q (nkH w k) {s with toks:=s.toks+nkN k}->A1 (model prog w) A (pyHash v) Q E s
 |.a k,v,A,s,Q,c,_,h=>(yU prog w).pyHash (k:=k) c h
 |.t l,v,A,s,Q,c,f,h=>by let#[b,d,rfl,g,j]:=c;erw[nkD,CB]at f;refine PySem.W.pyHash_slot (T:="tuple") #[_,g,rfl] F.slot_tuple_hash F.entry_tuple_hash (F.args_tuple_hash_1 _) (beq_builtin_none _) (.inr ()) ?_;show A1 _ _ (C9 (.ref b) >>= _) _ _ s;refine AB (wpAny_tupleItemsOf g rfl ?_);refine AB ?_;rw[<-HC];refine zhm l d A.in1 s (List.toArray []) _ j (by erw[EJ];lia) λm n=>?_;show A1 _ _ (retInt (FJ m.toList)) _ _ _;rw[n];exact AB (wpAny_mkInt (AM #[_,_,rfl,h]))
theorem zhm:∀(l:List NK) (vs:List AG) (A:Ai) (s:AH) (b:Array Int) (Q:Array Int->AH->Prop),NIs s.heap l vs->A.units+Bt (ybb l)<cLine ->
  (∀a,a.toList=b.toList++ydd w l->Q a {s with toks:=s.toks+ydU l}) ->
  A1 (model prog w) A (forIn vs b λx r=>do let h <-pyHash x;pure Ef;pure (EX (r.push h))) Q E s
 |[],vs,A,s,b,Q,c,_,h=>by
  cases (show vs=[]from c)
  exact AM (h b (by simp[ydd]))
 |k::l,vs,A,s,b,Q,c,d,h=>by let#[v,r,rfl,f,g]:=c;erw[ybb,Bt]at d;rw[Dh];refine AB (AB (zgc k v A s _ f () ?_));refine AB (AM (AM ?_));refine zhm l r A _ _ Q g () λa j=>?_;have:=h a (by simp[j,ydd]);simpa [ydU,Nat.add_assoc] using this
end
mutual
theorem zb0{h:Au}:∀(k:NK) (v:AG),NI h k v->∃d,JT h v (nkD k) d
 |.a (.inl i),v,c=>by
  rcases zj c with⟨j,t,e,rfl⟩|⟨x,t,e,rfl⟩
  .cases e;exact#[_,.int _ _]
  .cases e
 |.a (.inr x),v,c=>by
  rcases zj c with⟨j,t,e,rfl⟩|⟨y,t,e,rfl⟩
  .cases e
  .cases e;exact#[_,.str _ _]
 |.t l,v,c=>by let#[b,f,rfl,g,m]:=c;let#[d,r]:=zcv l f m;exact#[d,.tuple g rfl rfl (by simpa using r)]
theorem zcv{h:Au}:∀(l:List NK) (vs:List AG),NIs h l vs->∃b,ReadsAll h vs (ybb l) b
 |[],vs,a=>by cases (show vs=[]from a);exact#[_,.nil]
 |k::l,vs,a=>by let#[v,r,rfl,c,d]:=a;let#[j,f]:=zb0 k v c;let#[m,g]:=zcv l r d;exact#[_,.cons f g]
end
mutual
theorem zjq:∀a b:NK,By (nkD a) (nkD b)=decide (a=b)
 |.a (.inl i),.a (.inl j)=>by erw[nkD,By];by_cases e:i=j<;>simp[e]
 |.a (.inl i),.a (.inr j)=>by simp[nkD,By]
 |.a (.inr i),.a (.inl j)=>by simp[nkD,By]
 |.a (.inr i),.a (.inr j)=>by erw[nkD,By];by_cases e:i=j<;>simp[e]
 |.a (.inl i),.t l=>by simp[nkD,By]
 |.a (.inr i),.t l=>by simp[nkD,By]
 |.t l,.a (.inl i)=>by simp[nkD,By]
 |.t l,.a (.inr i)=>by simp[nkD,By]
 |.t l,.t m=>by erw[nkD,By,zg9 l m];by_cases e:l=m<;>simp[e]
theorem zg9:∀a b:List NK,DI (ybb a) (ybb b)=decide (a=b)
 |[],[]=>by simp[ybb,DI]
 |[],_::_=>by simp[ybb,DI]
 |_::_,[]=>by simp[ybb,DI]
 |a::l,b::m=>by
  erw[ybb,DI,zjq a b,zg9 l m]
  by_cases e:a=b<;>by_cases f:l=m<;>simp[e,f]
end
mutual
theorem zep:∀(k:NK) (v:AG) (n:Nat) (A:Ai) (s:AH) (Q:Bool->AH->Prop),NI s.heap k v->(nkD k).depth<=n->Q AE s->A1 (model prog w) A (eqIsQuiet n v) Q E s
 |.a k,v,n,A,s,Q,d,_,h=>by rw[eqIsQuiet_byValue n ((yU prog w).byValue k v d)];exact AM h
 |.t l,v,n,A,s,Q,d,f,h=>by let#[b,c,rfl,g,j]:=d;erw[nkD,CB]at f;obtain⟨m,rfl⟩:∃m,n=m+1:=#[n-1,by lia];unfold eqIsQuiet;refine AB (Cj (T:="tuple") #[_,g,rfl] F.slot_tuple_eq.lookup ?_);show A1 _ _ (isInstance (.ref b) (.type "tuple") >>= _) _ _ s;refine AB (EK (T:="tuple") #[_,g,rfl] isSubtype_tuple_tuple ?_);erw[ET,Aw,if_false];refine AB (Ca g rfl ?_);refine AB ?_;show A1 _ _ (forIn c.toArray _ _) _ _ s;rw[<-HC];refine zc0 l c m A s _ j () ?_;exact AM h
theorem zc0:∀(l:List NK) (vs:List AG) (n:Nat) (A:Ai) (s:AH) (Q:Option Bool×PUnit->AH->Prop),NIs s.heap l vs->Bt (ybb l)<=n->Q (AD,Ef) s ->
  A1 (model prog w) A (forIn vs (AD,Ef) λy r=>do
   let b <-eqIsQuiet n y
   if (!b)=AE then pure (ForInStep.done (AA AC,Ef))else do
    pure Ef
    pure (EX (AD,Ef))) Q E s
 |[],vs,n,A,s,Q,a,_,h=>by
  cases (show vs=[]from a)
  exact AM h
 |k::l,vs,n,A,s,Q,a,c,h=>by let#[v,r,rfl,d,f]:=a;erw[ybb,Bt]at c;rw[Dh];refine AB (AB (zep k v n A s _ d () ?_));erw[ET,Aw,if_false];refine AB (AM (AM ?_));exact zc0 l r n A s Q f () h
end
mutual
theorem zjf{h:Au}:∀(a b:NK) (v:AG),NI h a v->NI h b v->a=b
 |.a k,.a j,v,x,y=>by rcases zj x with⟨_,_,rfl,rfl⟩|⟨_,_,rfl,rfl⟩<;>rcases zj y with⟨_,_,rfl,e⟩|⟨_,_,rfl,e⟩<;>cases e<;>rfl
 |.a k,.t l,v,x,y=>by let#[b,c,rfl,_]:=y;rcases zj x with⟨_,_,_,e⟩|⟨_,_,_,e⟩<;>cases e
 |.t l,.a k,v,x,y=>by let#[b,c,rfl,_]:=x;rcases zj y with⟨_,_,_,e⟩|⟨_,_,_,e⟩<;>cases e
 |.t l,.t m,v,x,y=>by
  let#[b,c,rfl,g,o]:=x;let#[q,f,e,d,n]:=y
  cases e
  rw[g]at d;injection d with d;injection d with _ _ d _;injection d with d _;have p:c=f:=by simpa using congrArg Fw d
  subst p;rw[zgZ l m c o n]
theorem zgZ{h:Au}:∀(a b:List NK) (vs:List AG),NIs h a vs->NIs h b vs->a=b
 |[],[],_,_,_=>rfl
 |[],_::_,vs,x,y=>by
  cases (show vs=[]from x)
  let#[_,_,e,_]:=y;cases e
 |_::_,[],vs,x,y=>by
  cases (show vs=[]from y)
  let#[_,_,e,_]:=x;cases e
 |a::l,b::m,vs,x,y=>by
  let#[v,r,rfl,c,d]:=x;let#[_,_,e,f,g]:=y
  cases e
  rw[zjf a b v c f,zgZ l m r d g]
end
end
mutual
theorem NI.stay{h h':Au}(k:∀b c,h.get? b=AA {cls:=.type "tuple",data:=.seq c}->h'.get? b=AA {cls:=.type "tuple",data:=.seq c}):∀(a:NK) (v:AG),NI h a v->NI h' a v
 |.a _,_,x=>x
 |.t l,v,x=>by let#[b,c,e,g,d]:=x;exact#[b,c,e,k _ _ g,NIs.stay k l c d]
theorem NIs.stay{h h':Au}(k:∀b c,h.get? b=AA {cls:=.type "tuple",data:=.seq c}->h'.get? b=AA {cls:=.type "tuple",data:=.seq c}):∀(a:List NK) (vs:List AG),NIs h a vs->NIs h' a vs
 |[],_,x=>x
 |a::l,vs,x=>by let#[v,r,e,d,f]:=x;exact#[v,r,e,NI.stay k a v d,NIs.stay k l r f]
end
def ydM(l:List NK):Prop:=Cm (ybb l)=AE/\Bt (ybb l)<=6
def ybn(P:A6)(w:Ah):HeapKind P w (List NK) where
 is:=λh l a=>NI h (.t l) (.ref a)/\ydM l
 hash:=λl=>nkH w (.t l)
 draws:=λl=>nkN (.t l)
 room:=λA=>A.units+8<cLine
 inj:=λx y=>by have e:=zjf _ _ _ x.1 y.1;injection e
 keeps:=λx f j m=>#[NI.stay (λb n g=>(m.2 b (λe=>by subst e;rw[f]at g;cases g;cases j)).trans g) _ _ x.1,x.2]
 pyHash:=λo x h=>zgc _ _ _ _ _ x.1 (by have:=x.2.2;erw[nkD,CB];lia) h
 eqBool:=λ{A E s x y a b Q} o c d h=>by
  let#[p,q]:=zb0 _ _ c.1;let#[bs,r]:=zb0 _ _ d.1;refine SeqAt.eqBoolOverData P w A E s _ _ _ _ p bs Q q r (by erw[nkD,CO];exact c.2.1) (by erw[nkD,CO];exact d.2.1) (by have:=c.2.2;erw[nkD,CB];lia) ?_;rw[zjq];have:decide (NK.t x=NK.t y)=decide (x=y):=by by_cases e:x=y<;>simp[e]
  rw[this];exact h
 quiet:=λx h=>zep _ _ _ _ _ _ x.1 (by have:=x.2.2;erw[nkD,CB];lia) h
end L2
namespace L2
open PySem PySem.Spec PyProof.Rows
inductive V where
 |non|bl (b:Bool)|int (i:Int)|str (x:AR)|byt (b:Array UInt8)|flt (b:UInt64)|ref (a:AJ)|ty (n:String)
 deriving DecidableEq
def RelV:V->AG->Prop
 |.non,u=>u=BJ
 |.bl b,u=>u=Eg b
 |.int i,u=>∃t,u=F8 i t
 |.str x,u=>∃t,u=DX x t
 |.byt b,u=>∃t,u=JU b t
 |.flt b,u=>∃t,u=JV b t
 |.ref a,u=>u=Ag a
 |.ty n,u=>u=Eh n
abbrev Vals:List V->List AG->Prop:=IX RelV
theorem Vals.length{xs:List V}{us:List AG}(r:Vals xs us):xs.length=us.length:=FZ r
theorem Vals.get:∀{xs:List V} {us:List AG} {i:Nat} {x:V},Vals xs us->xs[i]?=AA x->∃u,us[i]?=AA u/\RelV x u
 |_,_,_,_,.nil,e=>by simp at e
 |_,_,0,_,.cons r _,e=>by simp at e;subst e;exact#[_,rfl,r]
 |_,_,i+1,x,.cons _ t,e=>by let#[u,a,b]:=Vals.get (i:=i) (x:=x) t (by simpa using e);exact#[u,by simpa using a,b]
theorem Vals.set{x:V}{u:AG}(r:RelV x u):∀{xs:List V} {us:List AG} (i:Nat),Vals xs us->Vals (xs.set i x) (us.set i u)
 |_,_,_,.nil=>.nil
 |_,_,0,.cons _ t=>.cons r t
 |_,_,i+1,.cons q t=>.cons q (Vals.set r i t)
theorem Vals.append:∀{xs ys:List V} {us ws:List AG},Vals xs us->Vals ys ws->Vals (xs++ys) (us++ws)
 |_,_,_,_,.nil,s=>s
 |_,_,_,_,.cons r t,s=>.cons r (Vals.append t s)
theorem Vals.take:∀{xs:List V} {us:List AG} (n:Nat),Vals xs us->Vals (xs.take n) (us.take n)
 |_,_,0,_=>.nil
 |_,_,_+1,.nil=>.nil
 |_,_,n+1,.cons r t=>.cons r (Vals.take n t)
theorem Vals.drop:∀{xs:List V} {us:List AG} (n:Nat),Vals xs us->Vals (xs.drop n) (us.drop n)
 |_,_,0,r=>r
 |_,_,_+1,.nil=>.nil
 |_,_,n+1,.cons _ t=>Vals.drop n t
theorem Vals.none_of:∀{xs:List V} {us:List AG} {i:Nat},Vals xs us->xs[i]?=AD->us[i]?=none:=λ{xs us i} r e=>by have a:=r.length;have b:xs.length<=i:=FK.mp e;exact FK.mpr ()
def ybg:Option V->Option AG->Prop
 |some v,AA u=>RelV v u
 |none,AD=>True
 |_,_=>False
def KV{R:Type}:List (R×V)->List (R×AG)->Prop:=IX λ(p:R×V) (q:R×AG)=>p.1=q.1/\RelV p.2 q.2
def kV:Key->V
 |.inl i=>.int i
 |.inr x=>.str x
inductive HO where
 |lst (xs:List V)
 |tup (xs:List V)
 |dK (kvs:List (Key×V))|dT (kvs:List (List NK×V))
 |set (S:Int->Bool) (n:Nat)
 |ins (C dx:AJ) (fs:List (AR×V))
 |own (x:AJ)
 |xd (fs:List (AR×V))
 |met (f x:AJ)
 |rng (lo hi:Int)
 |frz (o:Bw) (u:HO)
 |tbl (ps:Array AG)
 |ext (A:Au->Prop)
abbrev Hp:=AJ->Option HO
def upd(H:Hp)(a:AJ)(o:HO):Hp:=λb=>if b=a then AA o else H b
def zh{H:Hp}{a:AJ}{o:HO}:upd H a o a=AA o:=by unfold upd;rw[if_pos rfl]
def zc{H:Hp}{a b:AJ}{o:HO}(h:b≠a):upd H a o b=H b:=by unfold upd;rw[if_neg h]
def zot{H:Hp}{a b:AJ}{o u:HO}(h:H a=AA o)(h':H b=AA u)(d:o≠u):a≠b:=by intro e;subst e;rw[h]at h';exact d (Aa h')
def zd{H:Hp}{a b:AJ}{o:HO}(h:H a=AA o)(h':H b=AD):a≠b:=by intro e;subst e;rw[h]at h';cases h'
mutual
def NKr(H:Hp):NK->V->Prop
 |.a k,v=>v=kV k
 |.t l,v=>∃(b:AJ) (c:List V),v=.ref b/\H b=AA (.tup c)/\NKs H l c
def NKs(H:Hp):List NK->List V->Prop
 |[],a=>a=[]
 |k::l,a=>∃y b,a=y::b/\NKr H k y/\NKs H l b
end
def KyR(H:Hp)(l:List NK)(b:AJ):Prop:=NKr H (.t l) (.ref b)/\ydM l
mutual
theorem NKr.stay{H d:Hp}(k:∀b c,H b=AA (.tup c)->d b=AA (.tup c)):∀(a:NK) (v:V),NKr H a v->NKr d a v
 |.a _,_,x=>x
 |.t l,v,x=>by let#[b,c,e,g,f]:=x;exact#[b,c,e,k _ _ g,NKs.stay k l c f]
theorem NKs.stay{H c:Hp}(k:∀b xs,H b=AA (.tup xs)->c b=AA (.tup xs)):∀(a:List NK) (xs:List V),NKs H a xs->NKs c a xs
 |[],_,x=>x
 |a::l,xs,x=>by let#[y,d,e,f,g]:=x;exact#[y,d,e,NKr.stay k a y f,NKs.stay k l d g]
end
theorem KyR.stay{H a:Hp}{l:List NK}{b:AJ}(x:KyR H l b)(k:∀b c,H b=AA (.tup c)->a b=AA (.tup c)):KyR a l b:=#[NKr.stay k _ _ x.1,x.2]
section
variable (P:A6)(w:Ah)
def yH(H:Hp)(h:Au)(a:AJ):HO->Prop
 |.lst d=>d.length<=sizeLine/\∃(b:List AG) (n:Nat),Vals d b/\h.get? a=AA {cls:=.type "list",data:=.seq b.toArray n}
 |.tup d=>d.length<=sizeLine/\∃b:List AG,Vals d b/\h.get? a=AA {cls:=.type "tuple",data:=.seq b.toArray}
 |.dK c=>c.length<=sizeLine/\(a==sysModules)=AC/\∃l,KV c l/\h.DictOf (yU P w) a l
 |.dT c=>c.length<=sizeLine/\(a==sysModules)=AC/\∃d:List (List NK×AJ×AG),
   IX (λ(p:List NK×V) (q:List NK×AJ×AG)=>p.1=q.1/\KyR H p.1 q.2.1/\RelV p.2 q.2.2) c d /\
   ∃o m z,h.get? a=AA o/\o.ExactDict/\o.data=.dict m z/\m.toList=d.map (entryOfKey (ybn P w))/\(d.map (·.1)).Nodup
 |.set S n=>h.SetOf (intKind P w) a S n
 |.ins C j fs=>H j=AA (.own a)/\fs.length<=1000/\j≠a/\h.get? a=AA (CW C j) /\
   ∃g,h.Ns1 j g/\(∀f,ybg (fs.lookup f) (g f))/\HI g (fs.map (·.1))
 |.own _=>∃o,h.get? a=AA o
 |.xd fs=>∃g,h.Ns1 a g/\∀f,ybg (fs.lookup f) (g f)
 |.rng lo B=>∃t u v,h.get? a=AA {cls:=.type "range",data:=.fields (List.toArray [.int lo t,.int B u,.int 1 v])}
 |.frz o u=>h.get? a=AA o/\yH H h a u
 |.tbl D=>h.get? a=AA {cls:=.none,data:=.fields D}
 |.met f x=>h.get? a=AA (FP (.ref f) (.ref x))
 |.ext A=>A h/\(∃o,h.get? a=AA o)/\∀r y:Au,A r->(∀o,r.get? a=AA o->y.get? a=AA o)->A y
def HOk(H:Hp)(h:Au):Prop:=∀a o,H a=AA o->yH P w H h a o
end
section
variable {P:A6}{w:Ah}{H H':Hp}{h h':Au}{a:AJ}{o:HO}
theorem yH.lt(x:yH P w H h a o):a<h.objs.size:=by
 cases o with
 |lst c=>let#[_,_,_,_,e]:=x;exact A0 e
 |tup c=>let#[_,_,_,p]:=x;exact A0 p
 |dK b=>let#[_,_,_,_,o,_,_,e,_]:=x;exact A0 e
 |dT b=>let#[_,_,_,_,o,_,_,e,_]:=x;exact A0 e
 |set S n=>let#[o,_,_,_,e,_]:=x;exact A0 e
 |ins C d fs=>let#[_,_,_,e,_]:=x;exact A0 e
 |own y=>let#[_,e]:=x;exact A0 e
 |xd fs=>let#[_,#[_,_,_,e,_],_]:=x;exact A0 e
 |rng lo g=>let#[_,_,_,e]:=x;exact A0 e
 |frz j u=>let#[e,_]:=x;exact A0 e
 |tbl l=>exact A0 (show h.get? a=AA _ from x)
 |met f y=>exact A0 (show h.get? a=AA _ from x)
 |ext A=>let#[_,#[_,e],_]:=x;exact A0 e
theorem Paired.mapP{B D:Type}{F G:B->D->Prop}:∀{c:List B} {d:List D},IX F c d->(∀a b,F a b->G a b)->IX G c d
 |_,_,.nil,_=>.nil
 |_,_,.cons r t,f=>.cons (f _ _ r) (Paired.mapP t f)
theorem yH.stay(x:yH P w H h a o)(k:∀b u,(b=a \/ H b=AA (.own a))->h.get? b=AA u->h'.get? b=AA u)
  (J:∀b,H b=AA (.own a)->H' b=AA (.own a)) (L:∀b B,H b=AA (.tup B)->H' b=AA (.tup B)):yH P w H' h' a o:=by
 induction o with
 |lst B=>let#[z,m,n,r,e]:=x;exact#[z,m,n,r,k _ _ (.inl rfl) e]
 |tup B=>let#[z,m,r,e]:=x;exact#[z,m,r,k _ _ (.inl rfl) e]
 |dK D=>let#[z,y,M,r,l,g,j,e,c]:=x;exact#[z,y,M,r,l,g,j,k _ _ (.inl rfl) e,c]
 |dT D=>
  let#[z,y,B,r,l,g,j,e,c]:=x;exact#[z,y,B,Paired.mapP r λp q z=>#[z.1,z.2.1.stay L,z.2.2],l,g,j,k _ _ (.inl rfl) e,c]
 |set S n=>let#[l,g,j,t,e,c]:=x;exact#[l,g,j,t,k _ _ (.inl rfl) e,c]
 |ins C Q fs=>
  let#[d,z,N,e,E,#[G,g,j,O,c],r]:=x;exact#[J _ d,z,N,k _ _ (.inl rfl) e,E,#[G,g,j,k _ _ (.inr d) O,c],r]
 |own y=>let#[l,e]:=x;exact#[l,k _ _ (.inl rfl) e]
 |xd fs=>let#[E,#[G,g,j,e,c],r]:=x;exact#[E,#[G,g,j,k _ _ (.inl rfl) e,c],r]
 |rng lo U=>let#[t,u,v,e]:=x;exact#[t,u,v,k _ _ (.inl rfl) e]
 |frz l u ih=>let#[e,q]:=x;exact#[k _ _ (.inl rfl) e,ih q]
 |tbl I=>
  have e:h.get? a=AA {cls:=.none,data:=.fields I}:=x;show h'.get? a=AA {cls:=.none,data:=.fields I};exact k a _ (.inl rfl) e
 |met f y=>
  have e:h.get? a=AA (FP (.ref f) (.ref y)):=x;show h'.get? a=AA (FP (.ref f) (.ref y));exact k a _ (.inl rfl) e
 |ext A=>let#[p,#[o,e],st]:=x;exact#[st _ _ p λo q=>k _ _ (.inl rfl) q,#[o,k _ _ (.inl rfl) e],st]
theorem HOk.lt(x:HOk P w H h)(e:H a=AA o):a<h.objs.size:=(x a o e).lt
theorem HOk.fresh(x:HOk P w H h)(e:h.objs.size<=a):H a=none:=by
 cases q:H a with
 |none=>rfl
 |some u=>exact absurd (Af (x.lt q) e) (D9 _)
theorem HOk.kept(x:HOk P w H h)(k:∀b u,h.get? b=AA u->h'.get? b=AA u):HOk P w H h':=λa o e=>
 (x a o e).stay (λb u _ q=>k b u q) (λ_ q=>q) λ_ _ q=>q
theorem HOk.laid(x:HOk P w H h)(k:∀b u,h.get? b=AA u->h'.get? b=AA u)(j:h.objs.size<=a)(d:yH P w (upd H a o) h' a o):HOk P w (upd H a o) h':=λb u e=>by
 have f:=x.fresh j
 by_cases g:b=a
 .subst g;rw[zh]at e;cases e;exact d
 .rw[zc g]at e;exact(x b u e).stay (λc v _ q=>k c v q) (λc q=>by rw[zc (zd q f)];exact q) λc l q=>by rw[zc (zd q f)];exact q
end
def Rd(H:Hp)(a:AJ)(u:HO):Prop:=H a=AA u \/ ∃o,H a=AA (.frz o u)
theorem Rd.of{H:Hp}{a:AJ}{u:HO}(h:H a=AA u):Rd H a u:=.inl h
theorem Rd.ok{P:A6}{w:Ah}{H:Hp}{h:Au}{a:AJ}{u:HO}(r:Rd H a u)(x:HOk P w H h):yH P w H h a u:=by
 rcases r with r|⟨o,r⟩
 .exact x a u r
 .let#[_,q]:=x a _ r;exact q
def Mut:Option HO->Prop
 |some (.lst _)=>True
 |some (.dK _)=>True
 |some (.dT _)=>True
 |some (.set _ _)=>True
 |some (.ins _ _ _)=>True
 |some (.ext _)=>True
 |_=>False
section
variable {P:A6}{w:Ah}{H:Hp}{h h':Au}{x e:AJ}{o':HO}
theorem HOk.write(ok:HOk P w H h)(g:Mut (H x))(p:e=x \/ H e=AA (.own x))(k:∀b u,b≠e->h.get? b=AA u->h'.get? b=AA u)(n:∃u,h'.get? e=AA u)
  (o:yH P w (upd H x o') h' x o'):HOk P w (upd H x o') h':=λb u q=>by
 have d:∀c y,H c=AA (.own y)->c≠x:=λc y r z=>by subst z;rw[r]at g;exact g
 have f:∀c j,H c=AA (.tup j)->c≠x:=λc j r z=>by subst z;rw[r]at g;exact g
 by_cases l:b=x
 .subst l;rw[zh]at q;cases q;exact o
 .rw[zc l]at q
  by_cases a:b=e
  .have t:H b=AA (.own x):=by
    rcases p with z|z
    .exact absurd (a.trans z) l
    .rw[a];exact z
   rw[q]at t;cases t;let#[v,A]:=n;exact#[v,by rw[a];exact A]
  .refine(ok b u q).stay (λc v m r=>k c v ?_ r) (λc r=>by rw[zc (d c b r)];exact r) λc j r=>by rw[zc (f c j r)];exact r
   rcases m with rfl|m
   .exact a
   .rintro rfl
    rcases p with z|z
    .exact d c b m z
    .rw[m]at z;cases z;exact l rfl
end
structure Un(fs ex:List AJ)(H H':Hp)(h h':Au):Prop where
 keep:∀b o,h.get? b=AA o->H b=AD->b∉fs->b∉ex->h'.get? b=AA o
 slot:∀b o,h.get? b=AA o->H b=AD->b∈fs->b∉ex->∃sl,h'.get? b=AA {o with slots:=sl}
 free:∀b o,h.get? b=AA o->H b=AD->b∉ex->H' b=AD
 there:∀b o,h.get? b=AA o->b∉ex->∃o',h'.get? b=AA o'
 tups:∀b xs,H b=AA (.tup xs)->H' b=AA (.tup xs)
 frzs:∀b o u,H b=AA (.frz o u)->H' b=AA (.frz o u)
 tbls:∀b ps,H b=AA (.tbl ps)->∃more,H' b=AA (.tbl (ps++more))
section
variable {fs fs' ex ex':List AJ}{H H1 H2:Hp}{h h1 h2 h':Au}{a x e:AJ}{o:HO}
theorem Un.any(u:Un fs ex H H1 h h1){b:AJ}{a:Bw}(q:h.get? b=AA a)(n:H b=AD)(c:b∉ex):∃f,h1.get? b=AA {a with slots:=f}:=by
 by_cases d:b∈fs
 .exact u.slot b a q n d c
 .exact#[a.slots,u.keep b a q n d c]
theorem Un.kept(k:∀b u,h.get? b=AA u->h'.get? b=AA u):Un fs ex H H h h':=
 #[λb a q _ _ _=>k b a q,λb a q _ _ _=>#[a.slots,k b a q],λ_ _ _ n _=>n,λb a q _=>#[a,k b a q],λ_ _ q=>q,λ_ _ _ q=>q,λ_ c q=>#[(List.toArray []),by rw[q];simp]]
theorem Un.refl:Un fs ex H H h h:=Un.kept λ_ _ q=>q
theorem Un.laid(k:∀b u,h.get? b=AA u->h'.get? b=AA u)(d:h.objs.size<=a)(c:H a=AD):Un fs ex H (upd H a o) h h' where
 keep:=λb u q _ _ _=>k b u q
 slot:=λb u q _ _ _=>#[u.slots,k b u q]
 free:=λb u q n _=>by rw[zc (Ad (Af (A0 q) d))];exact n
 there:=λb u q _=>#[u,k b u q]
 tups:=λb f q=>by rw[zc (zd q c)];exact q
 frzs:=λb u f q=>by rw[zc (zd q c)];exact q
 tbls:=λb g q=>#[(List.toArray []),by rw[zc (zd q c),q];simp]
theorem Un.write(c:Mut (H x))(l:e=x \/ H e=AA (.own x))(k:∀b u,b≠e->h.get? b=AA u->h'.get? b=AA u)(d:∃u,h'.get? e=AA u):Un fs ex H (upd H x o) h h':=by
 have g:∀b,H b=AD->b≠x:=λb n z=>by subst z;rw[n]at c;exact c
 have j:∀b,H b=AD->b≠e:=λb n z=>by
  subst z;rcases l with r|r
  .exact g b n r
  .rw[n]at r;cases r
 have f:∀b u,H b=AA u->¬Mut (AA u)->b≠x:=λb u q m z=>by subst z;rw[q]at c;exact m c
 refine#[λb u q n _ _=>k b u (j b n) q,λb u q n _ _=>#[u.slots,k b u (j b n) q],λb u q n _=>by rw[zc (g b n)];exact n,λb u q _=>?_,
  λb p q=>by rw[zc (f b _ q λz=>z)];exact q,λb u p q=>by rw[zc (f b _ q λz=>z)];exact q,λb t q=>#[(List.toArray []),by rw[zc (f b _ q λz=>z),q];simp]]
 by_cases a:b=e
 .subst a;exact d
 .exact#[u,k b u a q]
end
def trk(h:Au)(H:Hp):List Addr:=(DR h.objs.size).filter λa=>(H a).isSome
def ycj(h:Au)(H:Hp):Heap:=Di h (trk h H)
def zgd(h:Au)(H:Hp):(ycj h H).objs.size=h.objs.size:=PySem.W.hideAll_size _ _
def ziL{h:Au}{H:Hp}{b:AJ}{o:Bw}(e:h.get? b=AA o)(n:H b=AD):(ycj h H).get? b=AA o:=
 Gk _ e λa=>by have q:(H b).isSome=true:=(IB.mp a).2;rw[n]at q;simp at q
def zk8{h:Au}{H:Hp}{b:AJ}{o:Bw}(e:(ycj h H).get? b=AA o):h.get? b=AA o/\H b=none:=by
 have a:h.get? b=AA o:=HD (trk h H) e;refine#[a,?_]
 cases q:H b with
 |none=>rfl
 |some x=>
  have c:b∈trk h H:=IB.mpr #[GZ.mpr (A0 a),by simp[q]];have z:(ycj h H).get? b=none:=PySem.W.hideAll_none (trk h H) c;rw[z]at e;cases e
structure Mod(K:AF)(mg:AR->Option AG)(base:Au):Prop where
 kin:K.In base
 glob:base.Ns mainGlobals mg
 blt:∃mb,base.Ns builtinsNs mb/\∀x:AR,x ≠ "__name__"->mb x=bootBuiltins x
 nolimit:base.NoLimit
structure Cx where
 prog:A6
 w:Ah
 K:AF
 mg:AR->Option AG
 base:Au
 A:Ai
 N:List AR
 s₀:AH
 H₀:Hp
 env:Env
 outer:List Env
 stack:List Env
 ex:List AJ
 fn:AR->Bool
 calm:Bool
 pn:List (AJ×Bw)
 xe:AG->AH->Prop
def frs(l:List Env):List Addr:=l.filterMap (·.frame)
abbrev Cx.fs(X:Cx):List Addr:=frs X.outer
def Vis(sc:B4)(x:AR):Prop:=sc.names.lookup x=AA .local \/ sc.names.lookup x=AA .cell \/ sc.names.lookup x=AA .free
def Loc(sc:B4)(x:AR):Prop:=sc.names.lookup x=AA .local \/ sc.names.lookup x=AA .cell
def Look(env:Env)(h:Au)(m:AR->Option AG)(x:AR)(u:AG):Prop:=
 (env.kindOf x=AA .local/\m x=AA u) \/ ((env.kindOf x=AA .cell \/ env.kindOf x=AA .free)/\∃c,env.cells.lookup x=AA c/\h.IsCell c (AA u))
structure Cx.Ok(X:Cx):Prop where
 mod:Mod X.K X.mg X.base
 kind:X.env.scope.kind=.function
 glob:X.env.globals=mainGlobals
 blt:X.env.builtins=builtinsNs
 above:X.s₀.heap.objs.size<=X.env.locals
 inj:∀x y c,X.env.cells.lookup x=AA c->X.env.cells.lookup y=AA c->x=y
 has:∀x,(X.env.kindOf x=AA .cell \/ X.env.kindOf x=AA .free)->∃c,X.env.cells.lookup x=AA c
 cab:∀x c,X.fn x=AE->X.env.cells.lookup x=AA c->X.s₀.heap.objs.size<=c
 hd:X.calm=AE->X.A.handled=AD
 frames:X.A.frames=AA X.stack
 stk:X.stack=X.outer \/ (X.stack=X.env::X.outer/\X.env.frame=AA X.env.locals)
 exf:∀b∈X.ex,b≠X.env.locals/\∀x c,X.env.cells.lookup x=AA c->c≠b
 bs:∀b o,X.base.get? b=AA o->X.s₀.heap.get? b=AA o/\X.H₀ b=AD
 bsz:X.base.objs.size<=X.s₀.heap.objs.size
 noex:∀b o,X.base.get? b=AA o->b∉X.ex
 exfs:∀b∈X.ex,b∉X.fs
 funs:X.s₀.heap.FunFrames X.base X.outer
 frf:∀b∈X.fs,X.H₀ b=AD
structure Inv(X:Cx)(B:List (AJ×Bw))(A:List (Option V))(H:Hp)(s:AH):Prop where
 ok:X.Ok
 os:s.os=X.s₀.os
 bare:Dr s.gens
 base:Un X.fs X.ex X.H₀ H X.s₀.heap s.heap
 loc:∃m,s.heap.Ns X.env.locals m/\∀(i:Nat) (x:AR) (v:V),X.N[i]?=AA x->A[i]?=AA (AA v)->Vis X.env.scope x->∃u,RelV v u/\Look X.env s.heap m x u
 cell:∀x c,X.env.cells.lookup x=AA c->∃v,s.heap.IsCell c v
 free:H X.env.locals=AD
 freeC:∀x c,X.env.cells.lookup x=AA c->H c=AD
 pin:∀p∈X.pn++B,s.heap.get? p.1=AA p.2/\H p.1=AD/\p.1≠X.env.locals/\p.1∉X.fs/\∀v,p.2.data ≠ .cell v
 hok:HOk X.prog X.w H s.heap
 len:A.length=X.N.length
section
variable {X:Cx}{C:List (AJ×Bw)}{B:List (Option V)}{H H':Hp}{s:AH}{h':Au}
theorem Cx.Ok.nofr(ok:X.Ok){b:AJ}{o:Bw}(e:X.base.get? b=AA o):b∉X.fs:=λa=>by have:=(ok.funs.mem a).1;rw[e]at this;cases this
theorem Inv.bs(I:Inv X C B H s):∀b o,X.base.get? b=AA o->s.heap.get? b=AA o/\H b=none:=λb o e=>
 #[I.base.keep b o (I.ok.bs b o e).1 (I.ok.bs b o e).2 (I.ok.nofr e) (I.ok.noex b o e),I.base.free b o (I.ok.bs b o e).1 (I.ok.bs b o e).2 (I.ok.noex b o e)]
theorem Inv.bk(I:Inv X C B H s):∀b o,X.base.get? b=AA o->s.heap.get? b=AA o:=λb o e=>(I.bs b o e).1
theorem Inv.mod(I:Inv X C B H s):Mod X.K X.mg X.base:=I.ok.mod
theorem Inv.kIn(I:Inv X C B H s):X.K.In s.heap:=I.ok.mod.kin.keeps I.bk
theorem Inv.lt(I:Inv X C B H s):X.env.locals<s.heap.objs.size:=let #[_,a,_]:=I.loc;a.lt
theorem Inv.sz(I:Inv X C B H s):X.s₀.heap.objs.size<=s.heap.objs.size:=Bl I.ok.above (Fx I.lt)
theorem Inv.nofs(I:Inv X C B H s){a:AJ}(h:s.heap.objs.size<=a):a∉X.fs:=λb=>by let#[_,o,c,_]:=I.ok.funs.mem b;exact absurd (Af (A0 c) (Bl I.sz h)) (D9 _)
theorem Inv.cne(I:Inv X C B H s):∀x c,X.env.cells.lookup x=AA c->c≠X.env.locals:=λx c e z=>by let#[v,o,d,f]:=I.cell x c e;let#[m,#[g,j,l,a,b,_],_]:=I.loc;rw[z,a]at d;cases d;rw[b]at f;cases f
theorem Inv.funs(I:Inv X C B H s):s.heap.FunFrames X.base X.outer:=by
 have all:∀(l:List Env),(∀b∈frs l,b∈X.fs)->X.s₀.heap.FunFrames X.base l->s.heap.FunFrames X.base l:=by
  intro l
  induction l with
  |nil=>intro _ _;trivial
  |cons f r ih=>
   intro d g;let#[j,#[L,o,hf,m,n,p],q]:=g;have a:L∈X.fs:=d L (by unfold frs;rw[CG,hf];exact A2);let#[t,e]:=I.base.slot L o n (I.ok.frf L a) a λz=>I.ok.exfs L z a;exact#[j,#[L,_,hf,m,e,p],ih (λb c=>d b (by unfold frs;rw[CG,hf];exact AS _ c)) q]
 exact all X.outer (λ_ c=>c) I.ok.funs
theorem Inv.stack(I:Inv X C B H s):s.heap.FunFrames X.base X.stack:=by
 rcases I.ok.stk with e|⟨e,hf⟩
 .rw[e];exact I.funs
 .rw[e];let#[m,a,_]:=I.loc;refine .cons (by rw[I.ok.kind];decide) hf a ?_ I.funs;exact Heap.get?_none_of_le (Bl I.ok.bsz I.ok.above)
theorem Inv.stkSub(I:Inv X C B H s):∀b∈frs X.stack,b∈X.env.locals::X.fs:=λb a=>by
 rcases I.ok.stk with e|⟨e,hf⟩
 .rw[e]at a;exact AS _ a
 .rw[e]at a;unfold frs at a;rw[CG,hf]at a;exact a
theorem Inv.stkFree(I:Inv X C B H s):∀b∈frs X.stack,H b=none:=λb a=>by
 rcases A8.mp (I.stkSub b a)with e|a
 .rw[e];exact I.free
 .let#[_,o,c,_]:=I.ok.funs.mem a;exact I.base.free b o c (I.ok.frf b a) λz=>I.ok.exfs b z a
theorem Inv.step{g':Array GenState}{t':Nat}{d':Drawn}{ch:List AJ}(I:Inv X C B H s)
  (g:∀b∈ch,(b∈X.ex \/ X.s₀.heap.objs.size<=b)/\b≠X.env.locals/\(∀x c,X.env.cells.lookup x=AA c->c≠b)/\∀p∈X.pn++C,p.1≠b)
  (keep:∀b o,b≠X.env.locals->b∉X.fs->b∉ch->s.heap.get? b=AA o->H b=AD->h'.get? b=AA o)
  (A:∀b o,b≠X.env.locals->b∈X.fs->b∉ch->s.heap.get? b=AA o->H b=AD->∃Y,h'.get? b=AA {o with slots:=Y}) (f:∀b o,b∉ch->s.heap.get? b=AA o->H b=AD->H' b=AD)
  (there:∀b o,b∉ch->s.heap.get? b=AA o->∃J,h'.get? b=AA J)
  (L:∀b D,H b=AA (.tup D)->H' b=AA (.tup D)) (M:∀b o u,H b=AA (.frz o u)->H' b=AA (.frz o u)) (N:∀b U,H b=AA (.tbl U)->∃more,H' b=AA (.tbl (U++more)))
  (ns:∀m,s.heap.Ns X.env.locals m->h'.Ns X.env.locals m) (Z:HOk X.prog X.w H' h') (hg:Dr g'):
  Inv X C B H' {s with heap:=h',gens:=g',drawn:=d',toks:=t'}:=by
 have O:∀b o,X.s₀.heap.get? b=AA o->b≠X.env.locals:=λb o e=>Ad (Af (A0 e) I.ok.above);have w:∀b o,X.s₀.heap.get? b=AA o->b∉X.ex->b∉ch:=λb o e a E=>by
  rcases (g b E).1 with z|z
  .exact a z
  .exact absurd (Af (A0 e) z) (D9 _)
 have j:∀x c,X.env.cells.lookup x=AA c->∀v,s.heap.IsCell c v->h'.IsCell c v:=λx c e v #[o,G,hd]=>by
  have t:c∉ch:=λz=>(g c z).2.2.1 x c e rfl
  by_cases hc:c∈X.fs
  .let#[Y,q]:=A c o (I.cne x c e) hc t G (I.freeC x c e);exact#[_,q,hd]
  .exact#[o,keep c o (I.cne x c e) hc t G (I.freeC x c e),hd]
 refine#[I.ok,I.os,hg,#[λb o e n E a=>?_,λb o e n E a=>?_,λb o e n a=>?_,λb o e a=>?_,λb D e=>L b D (I.base.tups b D e),λb o D e=>M b o D (I.base.frzs b o D e),λb U e=>?_],?_,λx c e=>?_,?_,λx c e=>?_,λp hp=>?_,Z,I.len]
 .exact keep b o (O b o e) E (w b o e a) (I.base.keep b o e n E a) (I.base.free b o e n a)
 .let#[Y,y]:=I.base.slot b o e n E a;let#[sl',Q]:=A b _ (O b o e) E (w b o e a) y (I.base.free b o e n a);exact#[sl',Q]
 .let#[J,y]:=I.base.there b o e a;exact f b J (w b o e a) y (I.base.free b o e n a)
 .let#[J,y]:=I.base.there b o e a;exact there b J (w b o e a) y
 .let#[m1,y]:=I.base.tbls b U e;let#[m2,Q]:=N b _ y;exact#[m1++m2,by rw[Q,Ei]]
 .let#[m,hn,hl]:=I.loc;refine#[m,ns m hn,λi x v y Q e3=>?_];let#[u,r,l]:=hl i x v y Q e3;refine#[u,r,?_];rcases l with l|⟨k,c,e,z⟩
  .exact .inl l
  .exact .inr #[k,c,e,j x c e _ z]
 .let#[v,z]:=I.cell x c e;exact#[v,j x c e v z]
 .let#[m,#[o,_,_,G,_],_]:=I.loc;exact f _ o (λz=>(g _ z).2.1 rfl) G I.free
 .let#[v,o,G,hd]:=I.cell x c e;exact f c o (λz=>(g c z).2.2.1 x c e rfl) G (I.freeC x c e)
 .let#[e,n,ne,nf,d]:=I.pin p hp;have t:p.1∉ch:=λz=>(g p.1 z).2.2.2 p hp rfl;exact#[keep p.1 p.2 ne nf t e n,f p.1 p.2 t e n,ne,nf,d]
theorem Inv.un{t':Nat}(I:Inv X C B H s)(u:Un X.fs [] H H' s.heap h')(c:HOk X.prog X.w H' h'):Inv X C B H' {s with heap:=h',toks:=t'}:=by
 let#[m,#[o,t,w,j,r],_]:=id I.loc;let#[x,l]:=u.any j I.free (by simp);exact I.step (g':=s.gens) (d':=s.drawn) (ch:=[]) (λ_ z=>nomatch z) (λb o _ d _ e n=>u.keep b o e n d (by simp)) (λb o _ d _ e n=>u.slot b o e n d (by simp)) (λb o _ e n=>u.free b o e n (by simp)) (λb o _ e=>u.there b o e (by simp)) u.tups u.frzs u.tbls (λy p=>by let#[A,f,g,a,q]:=p;rw[j]at a;cases a;exact#[_,f,g,l,q]) c I.bare
theorem Inv.call{g':Array GenState}{t':Nat}{d':Drawn}{ch:List AJ}(I:Inv X C B H s)(u:Un (frs X.stack) ch H H' s.heap h')(g:HOk X.prog X.w H' h')(w:Dr g')
  (d:∀b∈ch,(b∈X.ex \/ X.s₀.heap.objs.size<=b)/\b≠X.env.locals/\(∀x c,X.env.cells.lookup x=AA c->c≠b)/\∀p∈X.pn++C,p.1≠b):
  Inv X C B H' {s with heap:=h',gens:=g',drawn:=d',toks:=t'}:=by
 let#[m,#[o,E,G,t,r],_]:=id I.loc;let#[J,j]:=u.any t I.free λz=>(d _ z).2.1 rfl;exact I.step (ch:=ch) d (λb o j y a e n=>u.keep b o e n (λz=>(A8.mp (I.stkSub b z)).elim j y) a) (λb o _ _ a e n=>u.any e n a) (λb o a e n=>u.free b o e n a) (λb o a e=>u.there b o e a) u.tups u.frzs u.tbls (λL A=>by let#[M,l,q,f,D]:=A;rw[t]at f;cases f;exact#[_,l,q,j,D]) g w
theorem Inv.turned{t':Nat}{a:AJ}(I:Inv X C B H s)(k:∀b o,b≠a->s.heap.get? b=AA o->h'.get? b=AA o)(j:H a=AD)(g:a≠X.env.locals)
  (l:a∈X.ex \/ X.s₀.heap.objs.size<=a) (t:∀x c,X.env.cells.lookup x=AA c->c≠a) (w:∀p∈X.pn++C,p.1≠a):Inv X C B H {s with heap:=h',toks:=t'}:=by
 have f:∀b u,H b=AA u->b≠a:=λb u e z=>by rw[z,j]at e;cases e
 refine I.step (g':=s.gens) (d':=s.drawn) (ch:=[a]) (λb y=>?_) (λb o _ _ d e _=>k b o (λz=>d (by simp[z])) e) (λb o _ _ d e _=>#[o.slots,k b o (λz=>d (by simp[z])) e]) (λ_ _ _ _ n=>n)
  (λb o d e=>#[o,k b o (λz=>d (by simp[z])) e]) (λ_ _ e=>e) (λ_ _ _ e=>e) (λb J e=>#[(List.toArray []),by rw[e];simp]) (λm A=>?_) (λb u e=>?_) I.bare
 .have e:b=a:=by simpa using y
  subst e;exact#[l,g,t,w]
 .let#[o,D,E,G,r]:=A;exact#[o,D,E,k _ o (BR g) G,r]
 .refine(I.hok b u e).stay (λc v d q=>k c v ?_ q) (λ_ q=>q) λ_ _ q=>q;rcases d with z|z
  .rw[z];exact f b u e
  .exact f c _ z
theorem Inv.tok(I:Inv X C B H s)(t:Nat):Inv X C B H {s with toks:=t}:=I.un (h':=s.heap) (t':=t) Un.refl I.hok
theorem Inv.kept{t':Nat}(I:Inv X C B H s)(k:∀b u,s.heap.get? b=AA u->h'.get? b=AA u):Inv X C B H {s with heap:=h',toks:=t'}:=I.un (Un.kept k) (I.hok.kept k)
theorem Inv.laid{a:AJ}{o:HO}{t':Nat}(I:Inv X C B H s)(k:∀b u,s.heap.get? b=AA u->h'.get? b=AA u)(c:s.heap.objs.size<=a)(d:yH X.prog X.w (upd H a o) h' a o):
  Inv X C B (upd H a o) {s with heap:=h',toks:=t'}:=I.un (Un.laid k c (I.hok.fresh c)) (I.hok.laid k c d)
theorem Inv.write{x e:AJ}{o:HO}{t':Nat}(I:Inv X C B H s)(d:Mut (H x))(f:e=x \/ H e=AA (.own x))(k:∀b u,b≠e->s.heap.get? b=AA u->h'.get? b=AA u)(a:∃u,h'.get? e=AA u)
  (c:yH X.prog X.w (upd H x o) h' x o):Inv X C B (upd H x o) {s with heap:=h',toks:=t'}:=I.un (Un.write d f k a) (I.hok.write d f k a c)
theorem Inv.pins_of{a:List (AJ×Bw)}(I:Inv X C B H s)(h:∀p∈a,s.heap.get? p.1=AA p.2/\H p.1=AD/\p.1≠X.env.locals/\p.1∉X.fs/\∀v,p.2.data ≠ .cell v):Inv X a B H s:=
 #[I.ok,I.os,I.bare,I.base,I.loc,I.cell,I.free,I.freeC,λp b=>(Bj.mp b).elim (λz=>I.pin p (Cn _ z)) (h p),I.hok,I.len]
def zei{N:List AR}(c:N.Nodup){i j:Nat}{x:AR}(a:N[i]?=AA x)(b:N[j]?=AA x):i=j:=by let#[g,d]:=Ao.mp a;let#[l,f]:=Ao.mp b;exact(List.getElem_inj c).mp (d.trans f.symm)
def zgR{M:JW}{A:Ai}{E:AG->AH->Prop}{i:Nat}{x:AR}{v:V}{u:AG}{Q:Unit->AH->Prop}(I:Inv X C B H s)(hN:X.N.Nodup)(Y:X.N[i]?=AA x)(w:Loc X.env.scope x)(r:RelV v u)
  (h:∀s',Inv X C (B.set i (AA v)) H s'->(∃a,C0 a s.heap s'.heap/\(a=X.env.locals \/ X.env.cells.lookup x=AA a))->Q Unit.unit s') (hf:X.fn x=AE \/ X.env.scope.names.lookup x=AA .local:=by first|exact .inl rfl|exact .inr rfl|assumption):A1 M A (storeName X.env x u) Q E s:=by
 let#[m,hn,hl]:=id I.loc;have Z:(X.env.scope.kind==.class || (X.env.scope.kind==.module&&X.env.locals != X.env.globals))=false:=by rw[I.ok.kind];rfl
 have J:i<B.length:=by rw[I.len];exact(Ao.mp Y).1
 have cne:=I.cne;have g:∀{a:AJ} {h':Au},(∃o,s.heap.get? a=AA o/\H a=AD)->C0 a s.heap h'->HOk X.prog X.w H h':=λ{a h'} ha f b ob e=>by
  let#[_,_,D]:=ha;refine(I.hok b ob e).stay (λc w' t q=>(f.2 c ?_).trans q) (λ_ q=>q) λ_ _ q=>q
  rintro rfl
  rcases t with rfl|t
  .rw[D]at e;cases e
  .rw[D]at t;cases t
 rcases w with L|L
 .refine wpAny_storeName_local L hn (λh' hn' f=>?_) Z;let#[oL,_,_,hoL,_]:=id hn;refine h _ #[I.ok,I.os,I.bare,#[λb o e n N w=>?_,λb o e n N w=>?_,I.base.free,λb o e w=>?_,I.base.tups,I.base.frzs,I.base.tbls],#[_,hn',λj y v' l G e3=>?_],λy c e=>?_,I.free,I.freeC,λp hp=>?_,g #[oL,hoL,I.free] f,by simpa using I.len] #[_,f,.inl rfl]
  .exact(f.2 b (Ad (Af (A0 e) I.ok.above))).trans (I.base.keep b o e n N w)
  .let#[sl,l]:=I.base.slot b o e n N w;exact#[sl,(f.2 b (Ad (Af (A0 e) I.ok.above))).trans l]
  .let#[o',l]:=I.base.there b o e w;exact#[o',(f.2 b (Ad (Af (A0 e) I.ok.above))).trans l]
  .by_cases O:j=i
   .subst O;rw[Y]at l;cases l;rw[Ab J]at G
    cases G
    exact#[u,r,.inl #[L,by simp]]
   .rw[AW (BR O)]at G;let#[u',r',q]:=hl j y v' l G e3;refine#[u',r',?_];rcases q with⟨k,e⟩|⟨k,c,e,z⟩
    .refine .inl #[k,?_];have:y≠x:=λe=>O (zei hN l (e ▸ Y));simp[this,e]
    .exact .inr #[k,c,e,z.sameBut f (cne y c e)]
  .let#[w',z]:=I.cell y c e;exact#[w',z.sameBut f (cne y c e)]
  .let#[e,n,ne,nf,d]:=I.pin p hp;exact#[(f.2 p.1 ne).trans e,n,ne,nf,d]
 .have U:X.fn x=true:=by
   rcases hf with z|z
   .exact z
   .rw[z]at L;cases L
  let#[c,t]:=I.ok.has x (.inl L);let#[w',z]:=I.cell x c t;refine wpAny_storeName_cell I.ok.kind L t z (λh' hc' f=>?_);let#[oc,hoc,hocd]:=id z;refine h {s with heap:=h'} #[I.ok,I.os,I.bare,#[λb o e n N w=>?_,λb o e n N w=>?_,I.base.free,λb o e w=>?_,I.base.tups,I.base.frzs,I.base.tbls],#[m,hn.sameBut f (BR (cne x c t)),λj y v' l G e3=>?_],λy c' e=>?_,I.free,I.freeC,λp hp=>?_,g #[oc,hoc,I.freeC x c t] f,by simpa using I.len] #[c,f,.inr t]
  .exact(f.2 b (Ad (Af (A0 e) (I.ok.cab x c U t)))).trans (I.base.keep b o e n N w)
  .let#[sl,l]:=I.base.slot b o e n N w;exact#[sl,(f.2 b (Ad (Af (A0 e) (I.ok.cab x c U t)))).trans l]
  .let#[o',l]:=I.base.there b o e w;exact#[o',(f.2 b (Ad (Af (A0 e) (I.ok.cab x c U t)))).trans l]
  .by_cases O:j=i
   .subst O;rw[Y]at l;cases l;rw[Ab J]at G
    cases G
    exact#[u,r,.inr #[.inl L,c,t,hc']]
   .rw[AW (BR O)]at G;let#[u',r',q]:=hl j y v' l G e3;refine#[u',r',?_];rcases q with q|⟨k,c',e,z'⟩
    .exact .inl q
    .refine .inr #[k,c',e,z'.sameBut f ?_]
     rintro rfl
     exact O (zei hN l (I.ok.inj _ _ _ e t ▸ Y))
  .by_cases hcc:c'=c
   .subst hcc;exact#[_,hc']
   .let#[w2,z2]:=I.cell y c' e;exact#[w2,z2.sameBut f hcc]
  .let#[e,n,ne,nf,d]:=I.pin p hp;refine#[(f.2 p.1 ?_).trans e,n,ne,nf,d];intro q;rw[q,hoc]at e;have q':oc=p.2:=Aa e;exact d w' (by rw[<-q'];exact hocd)
def zQ{M:JW}{A:Ai}{E:AG->AH->Prop}{i:Nat}{x:AR}{v:V}{u:AG}{Q:Unit->AH->Prop}(I:Inv X C B H s)(b:X.N.Nodup)(c:X.N[i]?=AA x)(d:Loc X.env.scope x)(r:RelV v u)
  (h:∀a,Inv X C (B.set i (AA v)) H a->Q Unit.unit a) (hf:X.fn x=AE \/ X.env.scope.names.lookup x=AA .local:=by first|exact .inl rfl|exact .inr rfl|assumption):A1 M A (storeName X.env x u) Q E s:=
 zgR I b c d r (λa f _=>h a f) hf
theorem Inv.call'{s':AH}{ch:List AJ}(I:Inv X C B H s)(f:s'.os=s.os)(u:Un (frs X.stack) ch H H' s.heap s'.heap)(a:HOk X.prog X.w H' s'.heap)(g:Dr s'.gens)
  (d:∀b∈ch,(b∈X.ex \/ X.s₀.heap.objs.size<=b)/\b≠X.env.locals/\(∀x c,X.env.cells.lookup x=AA c->c≠b)/\∀p∈X.pn++C,p.1≠b):Inv X C B H' s':=by let#[h',g',d',t',j]:=s';have e:j=s.os:=f;subst e;exact I.call (g':=g') (t':=t') (d':=d') u a g d
end
abbrev XK:=AG->Option AJ->Hp->Prop
abbrev St:=List (Option V)
abbrev VK:=V->Hp->Prop
abbrev TE:=St->Hp->VK->Prop
abbrev TT:=St->Hp->(Bool->Hp->Prop)->Prop
abbrev TA:=St->Hp->(List V->Hp->Prop)->Prop
structure Ends where
 nx:St->Hp->Prop
 rt:VK
 bk:St->Hp->Prop:=λ_ _=>False
 ct:St->Hp->Prop:=λ_ _=>False
abbrev TS:=Ends->St->Hp->Prop
def EP(X:Cx)(B:List (AJ×Bw))(A:St)(Q:VK)(u:AG)(s':AH):Prop:=∃v a,Inv X B A a s'/\RelV v u/\Q v a
def TP(X:Cx)(B:List (AJ×Bw))(A:St)(Q:Bool->Hp->Prop)(b:Bool)(s':AH):Prop:=∃a,Inv X B A a s'/\Q b a
def AP(X:Cx)(B:List (AJ×Bw))(A:St)(Q:List V->Hp->Prop)(us:List AG)(s':AH):Prop:=∃a b,Inv X B A b s'/\Vals a us/\Q a b
def SP(X:Cx)(A:List (AJ×Bw))(D:Ends)(f:Flow)(s':AH):Prop:=
 match f with
 |.next=>∃b a,Inv X A b a s'/\D.nx b a
 |.brk=>∃b a,Inv X A b a s'/\D.bk b a
 |.cont=>∃b a,Inv X A b a s'/\D.ct b a
 |.ret u=>∃v b a,Inv X A b a s'/\RelV v u/\D.rt v a
def PE(X:Cx)(e:AZ)(t:TE):Prop:=
 ∀(C:List (AJ×Bw)) (s:AH) (B:St) (H:Hp) (Q:VK),Inv X C B H s->t B H Q->A1 (model X.prog X.w) X.A (eval e X.env) (EP X C B Q) X.xe s
def PT(X:Cx)(e:AZ)(t:TT):Prop:=
 ∀(C:List (AJ×Bw)) (s:AH) (B:St) (H:Hp) (Q:Bool->Hp->Prop),Inv X C B H s->t B H Q->A1 (model X.prog X.w) X.A (isTrue e X.env (eval e X.env)) (TP X C B Q) X.xe s
def PW(X:Cx)(e:AZ)(t:TT):Prop:=
 ∀(a:IR AG) (C:List (AJ×Bw)) (s:AH) (B:St) (H:Hp) (Q:Bool->Hp->Prop),Inv X C B H s->t B H Q->A1 (model X.prog X.w) X.A (isTrue e X.env a) (TP X C B Q) X.xe s
theorem PW.pt{X:Cx}{e:AZ}{t:TT}(h:PW X e t):PT X e t:=h _
def PA(X:Cx)(es:List AZ)(t:TA):Prop:=
 ∀(pos:CK) (C:List (AJ×Bw)) (s:AH) (B:St) (H:Hp) (Q:List V->Hp->Prop),Inv X C B H s->t B H Q->A1 (model X.prog X.w) X.A (spliced (backTo pos (starEach es X.env))) (AP X C B Q) X.xe s
def PS(X:Cx)(st:CL)(t:TS):Prop:=
 ∀(C:List (AJ×Bw)) (s:AH) (B:St) (H:Hp) (D:Ends),Inv X C B H s->t D B H->A1 (model X.prog X.w) X.A (exec st X.env) (SP X C D) X.xe s
def PSs(X:Cx)(st:List CL)(t:TS):Prop:=
 ∀(C:List (AJ×Bw)) (s:AH) (B:St) (H:Hp) (D:Ends),Inv X C B H s->t D B H->A1 (model X.prog X.w) X.A (execs st X.env) (SP X C D) X.xe s
theorem thn{B:Type}{t:IR B}{Q b:B->AH->Prop}{M:JW}{A:Ai}{E:AG->AH->Prop}{s:AH}(h:A1 M A t Q E s)(c:∀a s,Q a s->b a s):A1 M A t b E s:=CC h c λ_ _ x=>x
section
variable {X:Cx}
def ygv(i:Nat):TE:=λB H Q=>∃v,B[i]?=AA (AA v)/\Q v H
def tC(v:V):TE:=λ_ H Q=>Q v H
def znJ{i:Nat}{x:AR}{pos:CK}(n:X.N[i]?=AA x)(o:Vis X.env.scope x)(f:(x==("__debug__":AR))=false:=by decide)(g:(x==("__classdict__":AR))=false:=by decide):PE X (.Name x pos) (ygv i):=by
 intro C s B H Q I h;let#[v,e,h]:=h;let#[m,p,q]:=I.loc;let#[u,r,l]:=q i x v n e o;have b:EP X C B Q u s:=#[v,H,I,r,h];rcases l with⟨d,t⟩|⟨d,c,j,a⟩
 .exact IY (G0 I.ok.kind d p t b) f
 .rcases d with d|d
  .exact IY (Gm I.ok.kind d j a b) f
  .exact IY (wpAny_loadName_free I.ok.kind d j a b g) f
def zoZ{i j pos}:PE X (.Constant (.int i) j pos) (tC (.int i)):=λ_ _ _ H _ I h=>wpAny_Constant_int #[.int i,H,I.tok _,#[_,rfl],h]
def zo0{b j pos}:PE X (.Constant (.bool b) j pos) (tC (.bl b)):=λ_ _ _ H _ I h=>Constant_bool #[.bl b,H,I,rfl,h]
def zo1{j pos}:PE X (.Constant .none j pos) (tC .non):=λ_ _ _ H _ I h=>Constant_none #[.non,H,I,rfl,h]
def zoS{x j pos}:PE X (.Constant (.str x) j pos) (tC (.str x)):=λ_ _ _ H _ I h=>Calls.Constant_str #[.str x,H,I.tok _,#[_,rfl],h]
def Gl(X:Cx)(x:AR):Prop:=X.env.kindOf x=AA .globalImplicit
def zar{E:AG->AH->Prop}{C:List (AJ×Bw)}{s:AH}{B:St}{H:Hp}{x:AR}{u:AG}{pos:CK}{Q:AG->AH->Prop}(I:Inv X C B H s)(a:Gl X x)(b:X.mg x=AA u)(h:Q u s)
  (c:(x==("__debug__":AR))=false:=by decide):A1 (model X.prog X.w) X.A (eval (.Name x pos) X.env) Q E s:=
 Ej I.ok.kind a (Calls.loadGlobal_global (by rw[I.ok.glob];exact I.mod.glob.keeps I.bk) b h) c
def zaz{E:AG->AH->Prop}{C:List (AJ×Bw)}{s:AH}{B:St}{H:Hp}{x:AR}{u:AG}{pos:CK}{Q:AG->AH->Prop}(I:Inv X C B H s)(a:Gl X x)(b:X.mg x=AD)(c:bootBuiltins x=AA u)(h:Q u s)
  (d:x ≠ "__name__":=by decide) (f:(x==("__debug__":AR))=false:=by decide):A1 (model X.prog X.w) X.A (eval (.Name x pos) X.env) Q E s:=by let#[l,g,j]:=I.mod.blt;exact Ej I.ok.kind a (Calls.loadGlobal_builtin (by rw[I.ok.glob];exact I.mod.glob.keeps I.bk) b (by rw[I.ok.blt];exact g.keeps I.bk) ((j x d).trans c) h) f
def zbh{x:AR}{v:V}{u:AG}{pos:CK}(a:Gl X x)(b:X.mg x=AA u)(r:RelV v u)(c:(x==("__debug__":AR))=false:=by decide):PE X (.Name x pos) (tC v):=
 λ_ _ _ H _ I h=>zar I a b #[v,H,I,r,h] c
def zj4{x:AR}{v:V}{u:AG}{pos:CK}(a:Gl X x)(b:X.mg x=AD)(c:bootBuiltins x=AA u)(r:RelV v u)(d:x ≠ "__name__":=by decide)(f:(x==("__debug__":AR))=false:=by decide):PE X (.Name x pos) (tC v):=
 λ_ _ _ H _ I h=>zaz I a b c #[v,H,I,r,h] d f
variable {a b:AZ}{ta tb:TE}{pos:CK}
def PC(X:Cx)(f:E7)(a b:AZ)(t:TE):Prop:=
 ∀(C:List (AJ×Bw)) (s:AH) (B:St) (H:Hp) (Q:VK),Inv X C B H s->t B H Q ->
  A1 (model X.prog X.w) X.A (eval a X.env) (λv c=>A1 (model X.prog X.w) X.A (eval b X.env) (λu d=>A1 (model X.prog X.w) X.A (compareOp f v u) (EP X C B Q) X.xe d) X.xe c) X.xe s
def tB(t:TE):TT:=λB H Q=>t B H λx a=>∃c,x=.bl c/\Q c a
def zg8{d:E7}{t:TE}(h:PC X d a b t)(f:behindInMarks d b=false:=by first|exact c _ ⋯ ⋯|rfl):PE X (.Compare a [d] [b] pos) t:=λC s B H Q I g=>wpAny_Compare1 (h C s B H Q I g) f
def zlQ{g:E7}{t:TE}(h:PC X g a b t)(j:behindInMarks g b=false:=by first|exact f _ ⋯ ⋯|rfl):PT X (.Compare a [g] [b] pos) (tB t):=by
 intro C s B H Q I l;refine GQ (thn (h C s B H _ I l) λv y j=>thn j λu z m=>thn m λc A n=>?_) j;let#[x,o,p,r,w]:=n;let#[d,rfl,q]:=w
 cases r
 exact Bd #[o,p,q]
variable {tA tB':TT}{rest:List AZ}
def yhq(t u:TT):TT:=λB H Q=>t B H λc a=>if c=AE then u B a Q else Q AC a
def tOr(t u:TT):TT:=λB H Q=>t B H λc a=>if c=AE then Q AE a else u B a Q
def yhm(t:TT):TT:=λB H Q=>t B H λc a=>Q (!c) a
def zkx(b:PT X a tA):PW X (.BoolOp .And [a] pos) tA:=by
 intro d C s B H Q I h;refine isTrue_and (thn (b C s B H Q I h) λc f e=>?_)
 cases c with
 |true=>exact isTrue_and_nil e
 |false=>exact e
def znL(b:PT X a tA):PW X (.BoolOp .Or [a] pos) tA:=by
 intro d C s B H Q I h;refine isTrue_or (thn (b C s B H Q I h) λc f e=>?_)
 cases c with
 |false=>exact isTrue_or_nil e
 |true=>exact e
def znE(j:PT X a tA)(l:PW X (.BoolOp .And (b::rest) pos) tB'):PW X (.BoolOp .And (a::b::rest) pos) (yhq tA tB'):=by
 intro m C s B H Q I h;refine isTrue_and (thn (j C s B H _ I h) λc n o=>?_);let#[d,f,g]:=o
 cases c with
 |true=>exact l m C n B d Q f g
 |false=>exact#[d,f,g]
def zoe(j:PT X a tA)(l:PW X (.BoolOp .Or (b::rest) pos) tB'):PW X (.BoolOp .Or (a::b::rest) pos) (tOr tA tB'):=by
 intro m C s B H Q I h;refine isTrue_or (thn (j C s B H _ I h) λc n o=>?_);let#[d,f,g]:=o
 cases c with
 |true=>exact#[d,f,g]
 |false=>exact l m C n B d Q f g
def zmv(b:PT X a tA):PT X (.UnaryOp .Not a pos) (yhm tA):=by intro C s B H Q I h;exact isTrue_not (b C s B H (λc d=>Q (!c) d) I h)
def yew(ta tb:TE):TE:=λB H Q=>ta B H λx a=>∃c,x=.bl c/\if c=AE then tb B a Q else Q (.bl AC) a
def yhz(ta tb:TE):TE:=λB H Q=>ta B H λx a=>∃c,x=.bl c/\if c=AE then Q (.bl AE) a else tb B a Q
def yd3(ta:TE):TE:=λB H Q=>ta B H λx a=>∃c,x=.bl c/\Q (.bl (!c)) a
def znc{b}{t:TE}(h:PE X a t):PE X (.BoolOp b [a] pos) t:=λC s B H Q I c=>BoolOp_one (h C s B H Q I c)
def zmm(j:PE X a ta)(l:PE X (.BoolOp .And (b::rest) pos) tb):PE X (.BoolOp .And (a::b::rest) pos) (yew ta tb):=by
 intro C s B H Q I h;refine BoolOp_and (thn (j C s B H _ I h) λv m n=>?_);let#[x,f,g,o,d]:=n;let#[c,rfl,d]:=d
 cases o
 refine Bd ?_
 cases c with
 |true=>exact l C m B f Q g d
 |false=>exact#[.bl AC,f,g,rfl,d]
def zn3(j:PE X a ta)(l:PE X (.BoolOp .Or (b::rest) pos) tb):PE X (.BoolOp .Or (a::b::rest) pos) (yhz ta tb):=by
 intro C s B H Q I h;refine BoolOp_or (thn (j C s B H _ I h) λv m n=>?_);let#[x,f,g,o,d]:=n;let#[c,rfl,d]:=d
 cases o
 refine Bd ?_
 cases c with
 |false=>exact l C m B f Q g d
 |true=>exact#[.bl AE,f,g,rfl,d]
def zm5(d:PE X a ta):PE X (.UnaryOp .Not a pos) (yd3 ta):=by
 intro C s B H Q I h;refine UnaryOp_ (thn (d C s B H _ I h) λv m f=>?_);let#[x,g,j,l,b]:=f;let#[c,rfl,b]:=b
 cases l
 exact not_of (Bd #[.bl (!c),g,j,rfl,b])
def tIf(t:TT)(ta tb:TE):TE:=λB H Q=>t B H λc a=>if c=AE then ta B a Q else tb B a Q
def zhz{c:AZ}(m:PT X c tA)(n:PE X a ta)(o:PE X b tb):PE X (.IfExp c a b pos) (tIf tA ta tb):=by
 intro C s B H Q I h;refine wpAny_IfExp (thn (m C s B H _ I h) λd f p=>?_);let#[g,j,l]:=p
 cases d with
 |true=>exact n C f B g Q j l
 |false=>exact o C f B g Q j l
end
def SqL(K:AF)(H:Hp)(a:AJ)(xs:List V):Prop:=
 Rd H a (.lst xs) \/
  ∃(o:Bw) (b:Array AG) (n:Nat),K.lookup a=AA o/\o.cls=.type "list"/\o.dict=AD/\o.data=.seq b n/\b.size<=sizeLine/\Vals xs b.toList
def SqT(K:AF)(H:Hp)(a:AJ)(xs:List V):Prop:=
 Rd H a (.tup xs) \/
  ∃(o:Bw) (b:Array AG) (n:Nat),K.lookup a=AA o/\o.cls=.type "tuple"/\o.data=.seq b n/\b.size<=sizeLine/\Vals xs b.toList
def yhB:AG->Option V
 |.none=>AA .non
 |.bool b=>AA (.bl b)
 |.int i _=>AA (.int i)
 |.str x _=>AA (.str x)
 |.bytes b _=>AA (.byt b)
 |.float b _=>AA (.flt b)
 |.ref a=>AA (.ref a)
 |.type n=>AA (.ty n)
 |_=>AD
theorem RelV.abs{x:V}{u:AG}(r:RelV x u):yhB u=AA x:=by
 cases x with
 |non=>cases r;rfl
 |bl _=>cases r;rfl
 |int _=>let#[t,rfl]:=r;rfl
 |str _=>let#[t,rfl]:=r;rfl
 |byt _=>let#[t,rfl]:=r;rfl
 |flt _=>let#[t,rfl]:=r;rfl
 |ref _=>cases r;rfl
 |ty _=>cases r;rfl
theorem RelV.inj{x y:V}{u:AG}(r:RelV x u)(q:RelV y u):x=y:=Aa (r.abs.symm.trans q.abs)
theorem Vals.inj:∀{xs ys:List V} {us:List AG},Vals xs us->Vals ys us->xs=ys
 |_,_,_,.nil,.nil=>rfl
 |_,_,_,.cons r t,.cons a b=>by rw[r.inj a,Vals.inj t b]
section
variable {X:Cx}{B:List (AJ×Bw)}{A:St}{H:Hp}{s:AH}{a:AJ}{xs ys:List V}
theorem SqL.of{K:AF}(h:H a=AA (.lst xs)):SqL K H a xs:=.inl (.inl h)
theorem Inv.list(I:Inv X B A H s)(h:SqL X.K H a xs):∃b:List AG,Vals xs b/\PlainL s.heap a b.toArray/\xs.length<=sizeLine:=by
 rcases h with h|⟨o,b,n,c,d,f,g,j,r⟩
 .let#[z,b,n,r,e]:=h.ok I.hok;exact#[b,r,#[_,n,e,rfl,rfl,rfl],z]
 .refine#[b.toList,r,#[o,n,I.kIn a o c,d,f,by simpa using g],?_];have e:=r.length;erw[BX]at e;lia
theorem Inv.tuple(I:Inv X B A H s)(h:SqT X.K H a xs):∃b:List AG,Vals xs b/\G1 s.heap a b.toArray/\xs.length<=sizeLine:=by
 rcases h with h|⟨o,b,n,c,d,f,g,r⟩
 .let#[z,b,r,p]:=h.ok I.hok;exact#[b,r,#[_,p,rfl,_,rfl],z]
 .refine#[b.toList,r,#[o,I.kIn a o c,d,n,by simpa using f],?_];have e:=r.length;erw[BX]at e;lia
theorem Inv.list_inj(I:Inv X B A H s)(h:SqL X.K H a xs)(h':SqL X.K H a ys):xs=ys:=by
 let#[c,r,#[o,n,e,_,_,d],_]:=I.list h;let#[b,j,#[m,p,f,_,_,g],_]:=I.list h';rw[e]at f;cases f;rw[d]at g;injection g with l _;have:c=b:=by simpa using congrArg Fw l
 subst this;exact r.inj j
theorem Inv.tuple_inj(I:Inv X B A H s)(h:SqT X.K H a xs)(h':SqT X.K H a ys):xs=ys:=by
 let#[c,r,#[o,e,_,n,d],_]:=I.tuple h;let#[b,j,#[m,f,_,p,g],_]:=I.tuple h';rw[e]at f;cases f;rw[d]at g;injection g with l _;have:c=b:=by simpa using congrArg Fw l
 subst this;exact r.inj j
end
abbrev Cx.wish(X:Cx)(E:AG->AH->Prop):Cx:={X with xe:=E}
theorem Cx.Ok.wish{X:Cx}(ok:X.Ok)(E:AG->AH->Prop):(X.wish E).Ok:=
 #[ok.mod,ok.kind,ok.glob,ok.blt,ok.above,ok.inj,ok.has,ok.cab,ok.hd,ok.frames,ok.stk,ok.exf,ok.bs,ok.bsz,ok.noex,ok.exfs,ok.funs,ok.frf]
theorem Cx.Ok.unwish{X:Cx}{E:AG->AH->Prop}(ok:(X.wish E).Ok):X.Ok:=
 #[ok.mod,ok.kind,ok.glob,ok.blt,ok.above,ok.inj,ok.has,ok.cab,ok.hd,ok.frames,ok.stk,ok.exf,ok.bs,ok.bsz,ok.noex,ok.exfs,ok.funs,ok.frf]
section
variable {X:Cx}{B:List (AJ×Bw)}{A:St}{H:Hp}{s:AH}{E:AG->AH->Prop}
theorem Inv.wish(I:Inv X B A H s)(E:AG->AH->Prop):Inv (X.wish E) B A H s:=#[I.ok.wish E,I.os,I.bare,I.base,I.loc,I.cell,I.free,I.freeC,I.pin,I.hok,I.len]
theorem Inv.unwish(I:Inv (X.wish E) B A H s):Inv X B A H s:=#[I.ok.unwish,I.os,I.bare,I.base,I.loc,I.cell,I.free,I.freeC,I.pin,I.hok,I.len]
end
section
variable {X:Cx}{st:CL}{rest:List CL}{t u:TS}{e:AZ}{te:TE}{pos:CK}
def yeM:TS:=λD A H=>D.nx A H
def ygB(t u:TS):TS:=λD A H=>t {D with nx:=u D} A H
def zo2:PSs X [] yeM:=λ_ _ A H _ I h=>EY #[A,H,I,h]
def zhW(a:PS X st t)(b:PSs X rest u):PSs X (st::rest) (ygB t u):=by
 intro B s A H D I h;refine wpAny_execs_cons (thn (a B s A H {D with nx:=u D} I h) λf c q=>?_)
 cases f with
 |next=>
  let#[d,g,j,q]:=q;exact b B c d g D j q
 |ret v=>exact q
 |brk=>exact q
 |cont=>exact q
theorem Inv.quiet{B:List (AJ×Bw)}{A:St}{H:Hp}{s:AH}(I:Inv X B A H s):interactive X.env=false:=by simp[interactive,I.ok.kind]
def yd1(te:TE):TS:=λD A H=>te A H λ_ a=>D.nx A a
def zjx(a:PE X e te)(b:swapsWith e AD pos.line X.env=pure false:=by rfl):PS X (.Expr e pos) (yd1 te):=by intro B s A H D I h;exact wpAny_Expr_any (thn (a B s A H _ I h) λv g #[x,c,d,j,f]=>#[A,c,d,f]) I.quiet b
def yfU(te:TE):TS:=λD A H=>te A H D.rt
def zlI(a:PE X e te):PS X (.Return (AA e) pos) (yfU te):=by intro B s A H D I h;exact wpAny_Return_some (thn (a B s A H _ I h) λv g #[x,b,c,d,f]=>#[x,A,b,c,d,f])
def yeY:TS:=λD _ H=>D.rt .non H
def zo3:PS X (.Return AD pos) yeY:=λ_ _ A H _ I h=>wpAny_Return_none #[.non,A,H,I,rfl,h]
def yg4(c:TT)(t u:TS):TS:=λD A H=>c A H λb a=>if b=AE then t D A a else u D A a
def zoh{c:AZ}{a b:List CL}{f:TT}(n:PT X c f)(o:PSs X a t)(p:PSs X b u):PS X (.If c a b pos) (yg4 f t u):=by
 intro B s A H D I h;refine wpAny_If (thn (n B s A H _ I h) λd g q=>?_);let#[j,l,m]:=q
 cases d with
 |true=>exact o B g A j D l m
 |false=>exact p B g A j D l m
end
abbrev TG:=V->St->Hp->(St->Hp->Prop)->Prop
abbrev TGs:=List V->St->Hp->(St->Hp->Prop)->Prop
def PG(X:Cx)(a:AZ)(t:TG):Prop:=
 ∀(C:List (AJ×Bw)) (s:AH) (B:St) (H:Hp) (v:V) (u:AG) (Q:St->Hp->Prop),Inv X C B H s->RelV v u->t v B H Q ->
  A1 (model X.prog X.w) X.A (assign a X.env u) (λ_ d=>∃b c,Inv X C b c d/\Q b c) X.xe s
def PGs(X:Cx)(ts:List AZ)(t:TGs):Prop:=
 ∀(C:List (AJ×Bw)) (s:AH) (B:St) (H:Hp) (a:List V) (b:List AG) (Q:St->Hp->Prop),Inv X C B H s->Vals a b->t a B H Q ->
  A1 (model X.prog X.w) X.A (assignInOrder ((assignEach ts X.env).map (·.2)) b) (λ_ f=>∃c d,Inv X C c d f/\Q c d) X.xe s
abbrev yeR:=V->V->V->Hp->(Hp->Prop)->Prop
def yfl(X:Cx)(t:yeR):Prop:=
 ∀(C:List (AJ×Bw)) (s:AH) (B:St) (H:Hp) (o i v:V) (a b u:AG) (Q:Hp->Prop),Inv X C B H s->RelV o a->RelV i b->RelV v u->t o i v H Q ->
  A1 (model X.prog X.w) X.A (setItem a b u) (λ_ d=>∃c,Inv X C B c d/\Q c) X.xe s
abbrev TIp:=V->V->Hp->VK->Prop
def PIp(X:Cx)(a:EV)(t:TIp):Prop:=
 ∀(C:List (AJ×Bw)) (s:AH) (B:St) (H:Hp) (x y:V) (v u:AG) (Q:VK),Inv X C B H s->RelV x v->RelV y u->t x y H Q ->
  A1 (model X.prog X.w) X.A (inplaceOp a v u) (EP X C B Q) X.xe s
section
variable {X:Cx}{pos:CK}
def ycn(i:Nat):TG:=λv B H Q=>Q (B.set i (AA v)) H
def zft{i:Nat}{x:AR}(a:X.N.Nodup)(b:X.N[i]?=AA x)(c:Loc X.env.scope x)(hf:X.fn x=AE \/ X.env.scope.names.lookup x=AA .local:=by first|exact .inl rfl|exact .inr rfl|assumption):PG X (.Name x pos) (ycn i):=by intro C s B H v u Q I r h;exact HJ (zQ I a b c r (λf d=>#[_,H,d,h]) hf)
def yg3:TGs:=λa B H Q=>a=[]/\Q B H
def yeH(t:TG)(u:TGs):TGs:=λa B H Q=>∃v r,a=v::r/\t v B H λb c=>u r b c Q
def zo4:PGs X [] yg3:=by
 intro C s B H a b Q I r h;let#[e,h]:=h;subst e
 cases r
 exact HK #[B,H,I,h]
def ziu{e:AZ}{es:List AZ}{t:TG}{u:TGs}(a:PG X e t)(b:PGs X es u)
  (c:(assignEach (e::es) X.env).map (·.2)=assign e X.env::(assignEach es X.env).map (·.2):=by rfl):PGs X (e::es) (yeH t u):=by
 intro C s B H o p Q I r h;let#[v,q,d,h]:=h;subst d
 cases r with
 |cons r f=>
  rw[c];refine Ek (thn (a C s B H _ _ _ I r h) λ_ g j=>?_);let#[B1,l,m,n]:=j;exact b C g B1 l _ _ Q m f n
def yg6(K:AF)(n:Nat)(t:TGs):TG:=λv B H Q=>∃a b,v=.ref a/\SqT K H a b/\b.length=n/\t b B H Q
def zm3{es:List AZ}{k:Nat}{t:TGs}{n:Nat}(g:X.calm=AE)(h:PGs X es t)
  (j:(assignEach es X.env).length=n:=by rfl) (c:(assignEach es X.env).findIdx? (·.1)=none:=by rfl):PG X (.Tuple es k pos) (yg6 X.K n t):=by
 intro C s B H v u Q I r d;let#[a,l,m,p,q,d]:=d;subst m
 cases r
 let#[w,f,x,D]:=I.tuple p;refine assign_Tuple_tuple (I.ok.hd g) x (by simp[j,<-q,f.length]) c λy z=>?_;have A:Inv X C B H {s with heap:=y}:=I.kept (t':=s.toks) λb o e=>z b o (Ad (A0 e)) e;exact h C _ B H l _ Q A (by simpa using f) d
def yfI(a ti:TE)(t:yeR):TG:=λv B H Q=>a B H λo b=>ti B b λi c=>t o i v c λd=>Q B d
def zjk{o i:AZ}{d ti:TE}{t:yeR}(f:PE X o d)(g:PE X i ti)(j:yfl X t)
  (l:∀v,assign (.Subscript o i pos) X.env v=(do
   let a <-holding [v] (eval o X.env)
   let b <-holding [v,a] (eval i X.env)
   standAt pos
   holding [v,a,b] (setItem a b v)
   release [v,a,b] []):=by intro _;rfl):PG X (.Subscript o i pos) (yfI d ti t):=by intro C s B H v u Q I r h;rw[l];refine AB (Bk (thn (f C s B H _ I h) λa m c=>?_));let#[x,n,p,q,w]:=c;refine AB (Bk (thn (g C m B n _ p w) λb z c=>?_));let#[y,A,D,E,G]:=c;refine AB (Da (AB (Bk (thn (j C z B A x y v a b u _ D q E r G) λ_ N c=>?_))));let#[J,L,M]:=c;exact wpAny_release #[B,J,L,M]
def yeC(a:TE)(g:TG):TS:=λD B H=>a B H λx b=>g x B b D.nx
def zfT{a e:AZ}{b:TE}{g:TG}(c:PE X e b)(d:PG X a g)(f:swapsWithSole [a] e pos.line X.env=pure false:=by rfl)(j:swappedStores [a] e X.env=pure none:=by rfl)
  (l:(assignEach [a] X.env).map (·.2)=[assign a X.env]:=by rfl):PS X (.Assign [a] e pos) (yeC b g):=by intro C s B H D I h;refine wpAny_Assign_stores (thn (c C s B H _ I h) λv m n=>?_) f j;let#[x,o,p,r,t]:=n;rw[l];exact thn (d C m B o x v _ p r t) λ_ u q=>q
def zlV{i:Nat}{x:AR}{e:AZ}{b:TE}{a:CK}(c:X.N.Nodup)(d:X.N[i]?=AA x)(f:Loc X.env.scope x)(g:PE X e b)(j:swapsWith e (AA (.Name x a)) pos.line X.env=pure false:=by rfl)(hf:X.fn x=AE \/ X.env.scope.names.lookup x=AA .local:=by first|exact .inl rfl|exact .inr rfl|assumption):
  PS X (.Assign [.Name x a] e pos) (yeC b (ycn i)):=by intro C s B H D I h;refine wpAny_Assign_Name (thn (g C s B H _ I h) λv r l=>?_) j;let#[y,m,n,o,p]:=l;exact zQ n c d f o (λt q=>#[_,m,q,p]) hf
def yfi(i j:Nat)(a:TA):TS:=λD B H=>a B H λb c=>∃v w,b=[v,w]/\D.nx ((B.set i (AA v)).set j (AA w)) c
def zlK{i j:Nat}{x y:AR}{a b:AZ}{E:TA}{l m pt:CK}{n r c}(O:X.calm=AE)(G:X.N.Nodup)(Q:X.N[i]?=AA x)(U:X.N[j]?=AA y)(t:i≠j)
  (J:X.env.scope.names.lookup x=AA .local) (L:X.env.scope.names.lookup y=AA .local) (Y:PA X [a,b] E)
  (Z:swappedStores [.Tuple [.Name x l,.Name y m] n pt] (.Tuple [a,b] r c) X.env=pure (AA [x,y]))
  (hs:swapsWithSole [.Tuple [.Name x l,.Name y m] n pt] (.Tuple [a,b] r c) pos.line X.env=pure false:=by rfl):
  PS X (.Assign [.Tuple [.Name x l,.Name y m] n pt] (.Tuple [a,b] r c) pos) (yfi i j E):=by
 intro C s B H D I h;rw[exec_Assign_arm];refine AB (Da ?_);rw[hs];refine AB (AM ?_);rw[if_neg ⋯];refine AB (Tuple_ (thn (Y _ C s B H _ I h) λus d kq=>?_));let#[vs,M,I1,r1,u]:=kq;let#[v,w,e1,u]:=u;subst e1;obtain⟨f,g,rfl,rv,z⟩:∃f g,us=[f,g]/\RelV v f/\RelV w g:=by
  cases r1 with
  |cons p q=>
   cases q with
   |cons p' q'=>
    cases q'
    exact#[_,_,rfl,p,p']
 refine Am ?_ (by show 2<=sizeLine;decide);have I2:Inv X C B M {d with heap:=d.heap.push {cls:=.type "tuple",data:=.seq [f,g].toArray} }:=I1.kept (t':=d.toks) λb o e=>AL _ e;rw[Z];refine AB (AM ?_);show A1 (model X.prog X.w) X.A (do rule "assign.swapped-stores";let items <-unpackItems (.ref d.heap.objs.size) 2 AD;assignInOrder [λv=>bindName X.env y v,λv=>bindName X.env x v] items.reverse;pure JA) _ _ _;refine AB (EL (AB (unpackItems_tuple (items:=(List.toArray [f,g])) (I.ok.hd O) (IsTup.new d.heap _) λh' A=>?_)));have I3:=I2.kept (h':=h') (t':=d.toks) λb o e=>A b o (Ad (A0 e)) e;show A1 _ _ (assignInOrder [λv=>bindName X.env y v,λv=>bindName X.env x v] [g,f] >>= λ_=>pure JA) _ _ _;refine AB (Ek (G2 (zQ I3 G U (.inl L) z (λs2 I4=>?_) (.inr L))));refine Ek (G2 (zQ I4 G Q (.inl J) rv (λs3 N=>HK (AM ?_)) (.inr J)));rw[Io _ _ (BR t)]at N;exact#[_,M,N,u]
def yfQ(i:Nat)(a:TE)(ti:TIp):TS:=λD B H=>∃x,B[i]?=AA (AA x)/\a B H λy b=>ti x y b λz c=>D.nx (B.set i (AA z)) c
def zmS{i:Nat}{x:AR}{e:AZ}{q:TE}{j:EV}{ti:TIp}{d:CK}(A:X.N.Nodup)(t:X.N[i]?=AA x)(n:Loc X.env.scope x)(E:PE X e q)(G:PIp X j ti)(hf:X.fn x=AE \/ X.env.scope.names.lookup x=AA .local:=by first|exact .inl rfl|exact .inr rfl|assumption):
  PS X (.AugAssign (.Name x d) j e pos) (yfQ i q ti):=by
 intro C s B H D I h;let#[v,J,h]:=h;let#[m,L,M]:=I.loc;have o:Vis X.env.scope x:=by rcases n with k|k;exact .inl k;exact .inr (.inl k)
 let#[u,r,l]:=M i x v t J o;refine wpAny_AugAssign_Name ?_;have go:A1 (model X.prog X.w) X.A (eval e X.env) (λw f=>A1 (model X.prog X.w) X.A (inplaceOp j u w) (λr g=>A1 (model X.prog X.w) X.A (storeName X.env x r) (λ_=>SP X C D .next) X.xe g) X.xe f) X.xe s:=by refine thn (E C s B H _ I h) λw N p=>?_;let#[y,O,Q,U,Y]:=p;refine thn (G C N B O v y u w _ Q r U Y) λz s2 p=>?_;let#[zv,Z,I2,r2,q2]:=p;exact zQ I2 A t n r2 (λs3 I3=>#[_,Z,I3,q2]) hf
 rcases l with⟨a,hm⟩|⟨a,c,hc,b⟩
 .exact G0 I.ok.kind a L hm go
 .rcases a with a|a
  .exact Gm I.ok.kind a hc b go
  .rcases n with k|k
   .have:X.env.scope.names.lookup x=AA .free:=a;rw[k]at this;cases this
   .have:X.env.scope.names.lookup x=AA .free:=a;rw[k]at this;cases this
def ipI(f:Int->Int->Int):TIp:=λx y H Q=>∃i j,x=.int i/\y=.int j/\Q (.int (f i j)) H
def zmt:PIp X .Add (ipI λi j=>i+j):=by intro C s B H x y v u Q I a b h;let#[i,j,c,d,q]:=h;subst c;subst d;let#[t,rfl]:=a;let#[f,rfl]:=b;exact IS #[.int _,H,I.tok _,#[_,rfl],q]
end
section
variable {X:Cx}{pos:CK}
def yc6(c:TT)(tb:TS):TS:=λD B H=>∃W:Nat->St->Hp->Prop,(∃m,W m B H)/\∀m B H,W m B H ->
 c B H λb a=>if b=AE then ∃N:St->Hp->Prop,(∀d f,N d f->∃g,g < m/\W g d f)/\tb {D with nx:=N,ct:=N,bk:=D.nx} B a else D.nx B a
def zhK{c:AZ}{a:List CL}{t:TT}{tb:TS}(u:F9 (model X.prog X.w) X.A X.env X.xe)(G:PT X c t)(J:PSs X a tb):PS X (.While c a [] pos) (yc6 t tb):=by
 intro C s B H D I h;let#[W,#[L,M],d]:=h;refine wpAny_While (codeAny_whileLoop (λn O=>∃w x,Inv X C w x O/\W n w x) ?_ L #[B,H,I,M])
 rintro n Q ⟨B1,y,U,w1⟩
 refine Ck u (thn (G C Q B1 y _ U (d n B1 y w1)) λb Y Z=>?_);let#[z,A,j]:=Z
 cases b with
 |true=>
  let#[N,E,j]:=j;rw[if_pos rfl];refine Ck u (thn (J C Y B1 z _ A j) λf s3 l=>?_)
  cases f with
  |next=>
   let#[B3,g,m,o]:=l;let#[p,q,r]:=E B3 g o;exact#[p,q,B3,g,m,r]
  |cont=>
   let#[B3,g,m,o]:=l;let#[p,q,r]:=E B3 g o;exact#[p,q,B3,g,m,r]
  |brk=>exact l
  |ret v=>exact l
 |false=>
  rw[if_neg A3];exact EY #[B1,z,A,j]
end
structure It where
 go:Nat->Hp->Prop
 yld:Nat->Hp->V->Hp->Prop
 stop:Nat->Hp->Prop
def ybi(X:Cx)(A:List (AJ×Bw))(H:Hp)(b:AJ):Prop:=
 H b=AD/\b≠X.env.locals/\b∉X.fs/\(b∈X.ex \/ X.s₀.heap.objs.size<=b)/\(∀x c,X.env.cells.lookup x=AA c->c≠b)/\∀p∈X.pn++A,p.1≠b
theorem Inv.fpOk{X:Cx}{B:List (AJ×Bw)}{A:St}{H d:Hp}{s:AH}{b:AJ}(I:Inv X B A H s)(a:s.heap.objs.size<=b)(f:d b=AD):ybi X B d b:=by
 refine#[f,DB (Af I.lt a),I.nofs a,.inr (Bl I.sz a),λx c e z=>?_,λp g z=>?_]
 .let#[v,q]:=I.cell x c e;exact absurd (Af q.lt (by rw[z];exact a)) (D9 _)
 .exact absurd (Af (A0 (I.pin p g).1) (by rw[z];exact a)) (D9 _)
structure Turn(P:A6)(w:Ah)(K:AF)(tg:AZ)(J:It)(fp:List AJ)(it:AJ)(tn:Nat->Au->Prop):Prop where
 mem:it∈fp
 obj:∀i h,tn i h->∀b∈fp,∃o,h.get? b=AA o/\∀v,o.data ≠ .cell v
 keep:∀i h h',tn i h->(∀b∈fp,∀o,h.get? b=AA o->h'.get? b=AA o)->tn i h'
 item:∀(X:Cx),X.prog=P->X.w=w->X.K=K->X.calm=AE->∀(i:Nat) (C:List (AJ×Bw)) (s:AH) (B:St) (H:Hp) (E:AG->AH->Prop),Inv X C B H s->(∀b∈fp,ybi X C H b)->tn i s.heap->J.go i H ->
  A1 (model P w) X.A (pyNext (.ref it)) (λr s1=>∃u,r=AA u /\
   A1 (model P w) X.A (letOwnedTupleGo tg (.ref it) u) (λ_ s2=>∃x H',Inv X C B H' s2/\RelV x u/\J.yld i H x H'/\tn (i+1) s2.heap/\∀b∈fp,H' b=AD) E s1) E s
 done:∀(X:Cx),X.prog=P->X.w=w->X.K=K->X.calm=AE->∀(i:Nat) (C:List (AJ×Bw)) (s:AH) (B:St) (H:Hp) (E:AG->AH->Prop),Inv X C B H s->(∀b∈fp,ybi X C H b)->tn i s.heap->J.stop i H ->
  A1 (model P w) X.A (pyNext (.ref it)) (λr s1=>r=AD/\Inv X C B H s1) E s
 self:∀(A:Ai) (i:Nat) (s:AH) (Q:AG->AH->Prop) (E:AG->AH->Prop),tn i s.heap->Q (.ref it) s->A1 (model P w) A (pyIter (.ref it)) Q E s
abbrev TI:=St->Hp->(It->Hp->Prop)->Prop
def PIE(X:Cx)(B:List (AJ×Bw))(A:St)(l:AZ)(R:It->Hp->Prop)(a:AG)(d:AH):Prop:=
 ∃(f:AJ) (g:List AJ) (j:Nat->Au->Prop) (J:It) (c:Hp),a=.ref f/\Inv X B A c d/\Turn X.prog X.w X.K l J g f j/\j 0 d.heap/\(∀b∈g,ybi X B c b)/\R J c
def PI(X:Cx)(b a:AZ)(c:TI):Prop:=
 ∀(C:List (AJ×Bw)) (s:AH) (B:St) (H:Hp) (R:It->Hp->Prop),Inv X C B H s->c B H R ->
  A1 (model X.prog X.w) X.A (eval a X.env) (λv d=>A1 (model X.prog X.w) X.A (pyIter v) (PIE X C B b R) X.xe d) X.xe s
def zdH{M:JW}{A:Ai}{E:AG->AH->Prop}{s:AH}{b:AZ}{c:AJ}{u:AG}{o:Bw}{n:String}{vs:Array AG}{Q:Unit->AH->Prop}(d:s.heap.get? c=AA o)(f:o.cls=.type n)(g:o.data=.fields vs)
  (j:["enumerate","zip","dict_itemiterator","dict_reverseitemiterator","odict_iterator","itertools.zip_longest","itertools.pairwise"].contains n=AC) (a:Q Unit.unit s):A1 M A (letOwnedTupleGo b (.ref c) u) Q E s:=by
 unfold letOwnedTupleGo
 cases b<;>first
  |exact AM a
  | (cases u<;>first
    |exact AM a
    | (refine AB (wpAny_load d ?_)
       rw[f,g];show A1 M A (if (["enumerate","zip","dict_itemiterator","dict_reverseitemiterator","odict_iterator","itertools.zip_longest","itertools.pairwise"].contains n&&vs[0]? == AA (rawInt _))=AE then _ else _) Q E s;rw[if_neg (by intro h;rw[j,Bool.false_and]at h;cases h)];exact AM a))
def Itl(K:AF)(a:AJ):It:=
 #[λi H=>∃b x,SqL K H a b/\b[i]?=AA x,λi H x c=>c=H/\∀b,SqL K H a b->b[i]?=AA x,λi H=>∃b,SqL K H a b/\b.length<=i]
def Itt(K:AF)(a:AJ):It:=
 #[λi H=>∃b x,SqT K H a b/\b[i]?=AA x,λi H x c=>c=H/\∀b,SqT K H a b->b[i]?=AA x,λi H=>∃b,SqT K H a b/\b.length<=i]
def Itr(lo:Int)(n:Nat):It:=#[λi _=>i<n,λi H x a=>a=H/\x=.int (lo+i),λi _=>n<=i]
def zgK{P:A6}{w:Ah}{K:AF}{Q:AZ}(a f:AJ):Turn P w K Q (Itl K a) [f] f (λi h=>h.IsListIter f a i) where
 mem:=by simp
 obj:=λi h st b g=>by
  have e:b=f:=by simpa using g
  subst e;let#[o,e,c,d]:=st;exact#[o,e,λv z=>by rw[d]at z;cases z]
 keep:=λi h l st k=>st.at λo e=>k f (by simp) o e
 item:=by intro X n q r O i B s A H E I hf st t;subst n q r;let#[U,x,m,y]:=t;let#[C,D,p,Y]:=I.list m;let#[u,Z,ru]:=D.get y;let#[G,J,f2,L,M,N]:=hf f (by simp);refine wpAny_pyNext_list_item st p.isList (x:=u) (by simpa using Z) λl j sb=>?_;have I1:Inv X B A H {s with heap:=l}:=I.turned (t':=s.toks) (λb o g e=>(sb.2 b g).trans e) G J L M N;let#[o,e,c,d]:=id j;exact#[u,rfl,zdH (s:={s with heap:=l}) e c d ⋯ #[x,H,I1,ru,#[rfl,λys hy=>by rw[I.list_inj hy m];exact y],j,λb g=>(hf b g).1]]
 done:=by intro X n q r O i B s A H E I hf st t;subst n q r;let#[U,m,y]:=t;let#[C,D,p,Y]:=I.list m;let#[G,J,f2,L,M,N]:=hf f (by simp);have hl:=D.length;exact wpAny_pyNext_list_end (I.ok.hd O) st p.isList (by simp;lia) λl eb=>#[rfl,I.turned (t':=s.toks) (λb o g e=>eb b o g e) G J L M N]
 self:=λ_ _ _ _ _ st h=>wpAny_pyIter_listiter st h
def ze4{P:A6}{w:Ah}{K:AF}{Q:AZ}(a f:AJ):Turn P w K Q (Itt K a) [f] f (λi h=>h.IsTupleIter f a i) where
 mem:=by simp
 obj:=λi h st b g=>by
  have e:b=f:=by simpa using g
  subst e;let#[o,e,c,d]:=st;exact#[o,e,λv z=>by rw[d]at z;cases z]
 keep:=λi h m st k=>st.at λo e=>k f (by simp) o e
 item:=by intro X q r t O i B s A H E I hf st y;subst q r t;let#[U,x,n,C]:=y;let#[j,D,p,Y]:=I.tuple n;let#[u,Z,ru]:=D.get C;let#[G,J,f2,L,M,N]:=hf f (by simp);refine wpAny_pyNext_tuple_item st (show s.heap.IsTuple a j.toArray from p) (x:=u) (by simpa using Z) λm l sb=>?_;have I1:Inv X B A H {s with heap:=m}:=I.turned (t':=s.toks) (λb o g e=>(sb.2 b g).trans e) G J L M N;let#[o,e,c,d]:=id l;exact#[u,rfl,zdH (s:={s with heap:=m}) e c d ⋯ #[x,H,I1,ru,#[rfl,λys hy=>by rw[I.tuple_inj hy n];exact C],l,λb g=>(hf b g).1]]
 done:=by intro X q r t O i B s A H E I hf st y;subst q r t;let#[U,n,C]:=y;let#[j,D,p,Y]:=I.tuple n;let#[G,J,f2,L,M,N]:=hf f (by simp);have hl:=D.length;exact wpAny_pyNext_tuple_end (I.ok.hd O) st (show s.heap.IsTuple a j.toArray from p) (by simp;lia) λm eb=>#[rfl,I.turned (t':=s.toks) (λb o g e=>eb b o g e) G J L M N]
 self:=λ_ _ _ _ _ st h=>wpAny_pyIter_tupleiter st h
def zeO{P:A6}{w:Ah}{K:AF}{D:AZ}(a:AJ)(lo:Int)(n:Nat):Turn P w K D (Itr lo n) [a] a (λi h=>G3 h a (lo+(i:Nat)*1) ((n:Int)-(i:Nat)) 1) where
 mem:=by simp
 obj:=λi h st b c=>by
  have e:b=a:=by simpa using c
  subst e;exact#[_,st,λv z=>by
   have G:JX _=Data.cell v:=z
   cases G]
 keep:=λi h f st k=>k a (by simp) _ st
 item:=by intro X g j l m i B s A H E I hf st p;subst g j l;let#[q,r,J,u,x,y]:=hf a (by simp);have W:=JY (prog:=X.prog) (w:=X.w) (I.ok.hd m) a lo 1 n;refine W.item i s _ _ p st λv f C L d M=>?_;let#[t,rfl]:=L;have N:Inv X B A H {s with heap:=f,toks:=C}:=I.turned (λb o c e=>M b o (by simpa using c) e) q r u x y;refine#[_,rfl,zdH (s:={s with heap:=f,toks:=C}) (n:="range_iterator") d rfl rfl ⋯ #[.int (lo+i),H,N,#[t,?_],#[rfl,rfl],d,λb c=>(hf b c).1]];rw[G4]
 done:=by intro X g j l m i B s A H E I hf st p;subst g j l;let#[q,r,J,u,x,y]:=hf a (by simp);exact Fy (I.ok.hd m) st (by have:n<=i:=p;lia) λf O=>#[rfl,I.turned (t':=s.toks) (λb o c e=>O b o c e) q r u x y]
 self:=λ_ _ _ _ _ st h=>Ds st h
section
variable {X:Cx}{tg:AZ}
def zh9{C:List (AJ×Bw)}{B:St}{H:Hp}{s:AH}{R:It->Hp->Prop}{E:AG->AH->Prop}{lo a:Int}{t u v:Hw}{c:Nat}(I:Inv X C B H s)(f:-(2^62)<=lo)(g:lo<2^62)(j:-(2^62)<=a)(l:a<2^62)
  (q:R (Itr lo (a-lo).toNat) H):A1 (model X.prog X.w) X.A (pyIter (.ref s.heap.objs.size)) (PIE X C B tg R) E {s with heap:=s.heap.push {cls:=.type "range",data:=.fields (List.toArray [.int lo t,.int a u,.int 1 v])},toks:=c}:=by
 refine wpAny_pyIter_range (JZ ..) (small_one f g j l) ?_;have d:Inv X C B H {s with heap:=s.heap.push {cls:=.type "range",data:=.fields (List.toArray [.int lo t,.int a u,.int 1 v])},toks:=c}:=I.kept λb o e=>AL _ e;refine#[(s.heap.push {cls:=.type "range",data:=.fields (List.toArray [.int lo t,.int a u,.int 1 v])}).objs.size,[(s.heap.push {cls:=.type "range",data:=.fields (List.toArray [.int lo t,.int a u,.int 1 v])}).objs.size],_,_,H,rfl,
  d.kept (t':=c) λb o e=>AL _ e,zeO _ lo (a-lo).toNat,?_,λb m=>?_,q]
 .have n:lo+((0:Nat):Int)*1=lo:=by simp
  have p:(((a-lo).toNat:Nat):Int)-((0:Nat):Int)=Fa lo a 1:=by rw[rangeSize_one];split<;>lia
  show G3 _ _ (lo+((0:Nat):Int)*1) ((((a-lo).toNat:Nat):Int)-((0:Nat):Int)) 1;rw[n,p];exact AQ _ rfl
 .have e:b=(s.heap.push {cls:=.type "range",data:=.fields (List.toArray [.int lo t,.int a u,.int 1 v])}).objs.size:=by simpa using m
  subst e;exact d.fpOk (AU _) (d.hok.fresh (AU _))
def yeI(a:TA):TI:=λB H R=>a B H λb c=>∃j:Int,b=[.int j]/\-(2^62)<=j/\j<2^62/\R (Itr 0 j.toNat) c
def zc1{a:AZ}{c:TA}{p pos:CK}(d:Gl X "range")(f:X.mg "range"=AD)(g:PA X [a] c)(l:starEach [a] X.env=[(AC,eval a X.env)]:=by rfl):PI X tg (.Call (.Name "range" p) [a] [] pos) (yeI c):=by
 intro C s B H R I h;refine Call_ (zaz I d f boot_range (BV (thn (g pos C s B H _ I h) λx y m=>?_) l rfl));let#[z,A,n,o,b]:=m;let#[j,e,b,u,q]:=b;subst e
 cases o with
 |cons r w=>
  cases w
  let#[t,rfl]:=r;exact call_range_1 (zh9 n () () b u (by simpa using q))
def ygd(d:TI)(g:TG)(tb:TS):TS:=λD B H=>d B H λJ f=>∃W:Nat->Nat->St->Hp->Prop,(∃m,W 0 m B f)/\∀i m B H,W i m B H ->
 (J.stop i H/\D.nx B H) \/ (J.go i H/\∃N:St->Hp->Prop,(∀b a,N b a->∃c,c < m/\W (i+1) c b a)/\∀x a,J.yld i H x a->g x B a λj l=>tb {D with nx:=N,ct:=N,bk:=D.nx} j l)
def ybo(a:List AJ)(h:Au):List (AJ×Bw):=a.filterMap λb=>(h.get? b).map λo=>(b,o)
def zak{a:List AJ}{h:Au}{b:AJ}{o:Bw}(c:b∈a)(e:h.get? b=AA o):(b,o)∈ybo a h:=El.mpr #[b,c,by rw[e];rfl]
def zhk{a:List AJ}{h:Au}{p:AJ×Bw}(c:p∈ybo a h):p.1∈a/\h.get? p.1=AA p.2:=by
 let#[b,d,e]:=El.mp c
 cases q:h.get? b with
 |none=>rw[q]at e;cases e
 |some o=>
  rw[q]at e;have f:(b,o)=p:=Aa e;subst f;exact#[d,q]
theorem Inv.pinned{C:List (AJ×Bw)}{B:St}{H:Hp}{s:AH}{a:List AJ}(I:Inv X C B H s)(hf:∀b∈a,ybi X C H b)(g:∀b∈a,∃o,s.heap.get? b=AA o/\∀v,o.data ≠ .cell v):Inv X (C++ybo a s.heap) B H s:=
 I.pins_of λp j=>(Bj.mp j).elim (λz=>I.pin p (Av _ z)) λz=>by let#[c,e]:=zhk z;let#[l,m,n,_]:=hf p.1 c;let#[o,f,d]:=g p.1 c;rw[e]at f;cases f;exact#[e,l,m,n,d]
theorem Inv.unpinned{C pl:List (AJ×Bw)}{B:St}{H:Hp}{s:AH}(I:Inv X (C++pl) B H s):Inv X C B H s:=I.pins_of λp a=>I.pin p (Av _ (Cn _ a))
def znk{a:AZ}{t:List CL}{wi:TI}{g:TG}{tb:TS}{pos:CK}(A:F9 (model X.prog X.w) X.A X.env X.xe)(hc:X.calm=AE)(hi:PI X tg a wi)(hg:PG X tg g)(c:PSs X t tb)
  (hs:∀x,foldedSetIterable a X.env x=pure x:=by intro _;rfl):PS X (.For tg a t [] pos) (ygd wi g tb):=by
 intro C s B H D I h;refine wpAny_For (thn (hi C s B H _ I h) λv s1 h1=>thn h1 λitv s2 h2=>?_) hs;let#[it,E,tn,J,H2,e,I2,T,Y,f2,W,#[m0,w0],G]:=h2;subst e;have j:∀{q:Hp},(∀b∈E,q b=AD)->∀b∈E,ybi X C q b:=λhn b c=>#[hn b c,(f2 b c).2];refine codeAny_forLoop_any (λn s'=>∃i L q,Inv X C L q s'/\tn i s'.heap/\(∀b∈E,q b=AD)/\W i n L q) ?_ m0 #[0,B,H2,I2,Y,λb c=>(f2 b c).1,w0]
 rintro n s3 ⟨i,B3,U,I3,M,O,w3⟩
 rcases G i n B3 U w3 with⟨stop,qn⟩|⟨go,N,hN,step⟩
 .refine Ck A (thn (T.done X rfl rfl rfl hc i C s3 B3 U X.xe I3 (j O) M stop) λr s4 y=>?_);let#[Z,I4]:=y;subst Z;exact EY #[B3,U,I4,qn]
 .refine Ck A (thn (T.item X rfl rfl rfl hc i C s3 B3 U X.xe I3 (j O) M go) λr s4 y=>?_);let#[u,Z,h4]:=y;subst Z;refine Ck A (thn h4 λ_ s5 y=>?_);let#[x,H5,I5,r5,y5,z,fr5]:=y;have I5':=I5.pinned (j fr5) (T.obj _ _ z);refine Ck A (thn (hg _ s5 B3 H5 x u _ I5' r5 (step x H5 y5)) λ_ s6 y=>?_);let#[B6,H6,I6,q6]:=y;refine Ck A (thn (c _ s6 B6 H6 _ I6 q6) λf s7 w=>?_);have again:∀{B7:St} {l:Hp},Inv X (C++ybo E s5.heap) B7 l s7->N B7 l->∃m,m<n/\∃i L q,Inv X C L q s7/\tn i s7.heap/\(∀b∈E,q b=AD)/\W i m L q:=λ{B7 l} p Q=>by let#[m',hm,w7]:=hN B7 l Q;refine#[m',hm,i+1,B7,l,p.unpinned,T.keep _ _ _ z λb c o e=>(p.pin (b,o) (Av _ (Av _ (zak c e)))).1,λb c=>?_,w7];let#[o,e,d]:=T.obj _ _ z b c;exact(p.pin (b,o) (Av _ (Av _ (zak c e)))).2.1
  cases f with
  |next=>let#[B7,l,p,Q]:=w;exact again p Q
  |cont=>let#[B7,l,p,Q]:=w;exact again p Q
  |brk=>let#[B7,l,p,w]:=w;exact#[B7,l,p.unpinned,w]
  |ret v=>let#[x7,B7,l,p,r7,w]:=w;exact#[x7,B7,l,p.unpinned,r7,w]
end
abbrev R2:=V->V->Hp->VK->Prop
def OpR(X:Cx)(f:AG->AG->IR AG)(r:R2):Prop:=
 ∀(C:List (AJ×Bw)) (s:AH) (B:St) (H:Hp) (x y:V) (v u:AG) (Q:VK),Inv X C B H s->RelV x v->RelV y u->r x y H Q ->
  A1 (model X.prog X.w) X.A (f v u) (EP X C B Q) X.xe s
def UnR(X:Cx)(f:AG->IR AG)(r:V->Hp->VK->Prop):Prop:=
 ∀(C:List (AJ×Bw)) (s:AH) (B:St) (H:Hp) (x:V) (v:AG) (Q:VK),Inv X C B H s->RelV x v->r x H Q ->
  A1 (model X.prog X.w) X.A (f v) (EP X C B Q) X.xe s
def yam(X:Cx)(f:AG)(r:List V->Hp->VK->Prop):Prop:=
 ∀(C:List (AJ×Bw)) (s:AH) (B:St) (H:Hp) (a:List V) (b:List AG) (Q:VK),Inv X C B H s->Vals a b->r a H Q ->
  A1 (model X.prog X.w) X.A (call f b) (EP X C B Q) X.xe s
def yg1(X:Cx)(r:V->Hp->(Bool->Hp->Prop)->Prop):Prop:=
 ∀(C:List (AJ×Bw)) (s:AH) (B:St) (H:Hp) (x:V) (v:AG) (Q:Bool->Hp->Prop),Inv X C B H s->RelV x v->r x H Q ->
  A1 (model X.prog X.w) X.A (truthy v) (TP X C B Q) X.xe s
def tOp(r:R2)(a tb:TE):TE:=λA H Q=>a A H λx b=>tb A b λy c=>r x y c Q
def tUn(r:V->Hp->VK->Prop)(a:TE):TE:=λA H Q=>a A H λx b=>r x b Q
def rI(C:Int->Int->Prop)(g:Int->Int->V):R2:=λx y H Q=>∃i j,x=.int i/\y=.int j/\C i j/\Q (g i j) H
def rI0(g:Int->Int->V):R2:=λx y H Q=>∃i j,x=.int i/\y=.int j/\Q (g i j) H
def rU(g:Int->V):V->Hp->VK->Prop:=λx H Q=>∃i,x=.int i/\Q (g i) H
section
variable {X:Cx}{a b c:AZ}{ta tb tc:TE}{pos:CK}
def zoM(n:PE X a ta)(o:PE X b tb){D:List (AJ×Bw)}{s:AH}{B:St}{H:Hp}{R:V->V->Hp->Prop}(I:Inv X D B H s)
  (h:ta B H λx l=>tb B l λy c=>R x y c) {Q:AG->AH->Prop} {f:AG->AG->IR AG}
  (hf:∀v u j x y c,Inv X D B c j->RelV x v->RelV y u->R x y c->A1 (model X.prog X.w) X.A (f v u) Q X.xe j):
  A1 (model X.prog X.w) X.A (eval a X.env) (λv d=>A1 (model X.prog X.w) X.A (eval b X.env) (λu g=>A1 (model X.prog X.w) X.A (f v u) Q X.xe g) X.xe d) X.xe s:=by refine thn (n D s B H _ I h) λv p m=>?_;let#[x,l,q,r,t]:=m;refine thn (o D p B l _ q t) λu j m=>?_;let#[y,c,w,z,A]:=m;exact hf v u j x y c w r z A
def znx{c:EV}{r:R2}(d:OpR X (binaryOp c) r)(f:PE X a ta)(g:PE X b tb):PE X (.BinOp a c b pos) (tOp r ta tb):=by intro D s B H Q I h;exact wpAny_BinOp (zoM f g I h λv u j x y l m n o q=>d D j B l x y v u Q m n o q)
def zn9{b:UnaryOp}{r:V->Hp->VK->Prop}(c:UnR X (unaryOp b) r)(d:PE X a ta):PE X (.UnaryOp b a pos) (tUn r ta):=by intro D s B H Q I h;exact UnaryOp_ (thn (d D s B H _ I h) λv f #[x,g,j,l,m]=>c D f B g x v Q j l m)
theorem opI{f:AG->AG->IR AG}{C:Int->Int->Prop}{g:Int->Int->Int}
  (rule:∀(i j:Int) (t u:Hw) (s:AH) (Q:AG->AH->Prop) (E:AG->AH->Prop),C i j->Q (.int (g i j) s.toks) {s with toks:=s.toks+1}->A1 (model X.prog X.w) X.A (f (.int i t) (.int j u)) Q E s):
  OpR X f (rI C λi j=>.int (g i j)):=by intro D s B H x y v u Q I a b h;let#[i,j,rfl,rfl,c,q]:=h;let#[t,rfl]:=a;let#[d,rfl]:=b;exact rule i j t d s _ _ c #[.int (g i j),H,I.tok _,#[_,rfl],q]
def zoN{f:AG->AG->IR AG}{g:Int->Int->Int}
  (rule:∀(i j:Int) (t u:Hw) (s:AH) (Q:AG->AH->Prop) (E:AG->AH->Prop),Q (.int (g i j) s.toks) {s with toks:=s.toks+1}->A1 (model X.prog X.w) X.A (f (.int i t) (.int j u)) Q E s):
  OpR X f (rI0 λi j=>.int (g i j)):=by intro D s B H x y v u Q I a b h;let#[i,j,rfl,rfl,q]:=h;let#[t,rfl]:=a;let#[c,rfl]:=b;exact rule i j t c s _ _ #[.int (g i j),H,I.tok _,#[_,rfl],q]
def zoJ{f:AG->AG->IR AG}{g:Int->Int->Bool}
  (rule:∀(i j:Int) (t u:Hw) (s:AH) (Q:AG->AH->Prop) (E:AG->AH->Prop),Q (.bool (g i j)) s->A1 (model X.prog X.w) X.A (f (.int i t) (.int j u)) Q E s):
  OpR X f (rI0 λi j=>.bl (g i j)):=by intro D s B H x y v u Q I a b h;let#[i,j,rfl,rfl,q]:=h;let#[t,rfl]:=a;let#[c,rfl]:=b;exact rule i j t c s _ _ #[.bl (g i j),H,I,rfl,q]
def yfy(i j:Int):Prop:=0<=j/\j<=1000000/\i.natAbs<2^64
def ydB(i j:Int):Prop:=(-(2^64)<i/\i<2^64) \/ (-(2^64)<j/\j<2^64)
theorem ydB.ok{i j:Int}(h:ydB i j):IntMulOk i j:=by
 rcases h with⟨a,b⟩|⟨a,b⟩
 .exact .of_left (intBits_le_64 a b)
 .exact .of_right (intBits_le_64 a b)
def zeZ(k:Nat):(0:Int)<=2^k:=by rw[two_pow_cast];exact Int.natCast_nonneg _
def zmw:OpR X (binaryOp .Add) (rI0 λi j=>.int (i+j)):=zoN λ_ _ _ _ _ _ _ q=>add_int q
def zl0:OpR X (binaryOp .Sub) (rI0 λi j=>.int (i-j)):=zoN λ_ _ _ _ _ _ _ q=>sub_int q
def zln:OpR X (binaryOp .Mult) (rI ydB λi j=>.int (i*j)):=opI λ_ _ _ _ _ _ _ a q=>mul_int q a.ok
def zmX:OpR X (binaryOp .Mod) (rI (λ_ j=>0<j) λi j=>.int (i%j)):=opI λi j _ _ _ _ _ a q=>by have b:(0:Int)<j:=a;exact mod_int' () (by rw[Int.fmod_eq_emod_of_nonneg i ()];exact q)
def zmx:OpR X (binaryOp .Pow) (rI yfy λi j=>.int (i^j.toNat)):=opI λ_ _ _ _ _ _ _ a q=>pow_int_small a.1 a.2.1 a.2.2 q
def znl:OpR X (binaryOp .RShift) (rI (λ_ j=>0<=j) λi j=>.int (i/2^j.toNat)):=opI λi j _ _ _ _ _ a q=>
 rshift_int a (by rw[Em i (zeZ _)];exact q)
def zna:OpR X (binaryOp .BitAnd) (rI0 λi j=>.int (CP i j)):=zoN λ_ _ _ _ _ _ _ q=>and_int q
theorem unI{f:AG->IR AG}{g:Int->Int}
  (rule:∀(i:Int) (t:Hw) (s:AH) (Q:AG->AH->Prop) (E:AG->AH->Prop),Q (.int (g i) s.toks) {s with toks:=s.toks+1}->A1 (model X.prog X.w) X.A (f (.int i t)) Q E s):
  UnR X f (rU λi=>.int (g i)):=by intro D s B H x v Q I a h;let#[i,rfl,q]:=h;let#[t,rfl]:=a;exact rule i t s _ _ #[.int (g i),H,I.tok _,#[_,rfl],q]
def zmD:UnR X (unaryOp .USub) (rU λi=>.int (-i)):=unI λ_ _ _ _ _ q=>neg_int q
def zfQ:OpR X (binaryOp .Add) (λx y H Q=>∃i k,x=.int i/\y=.bl k/\Q (.int (i+b2i k)) H):=by
 intro D s B H x y v u Q I a b h;let#[i,k,rfl,rfl,q]:=h;let#[t,rfl]:=a
 cases b
 exact add_int_bool #[.int (i+b2i k),H,I.tok _,#[_,rfl],q]
end
section
variable {X:Cx}{a b c:AZ}{ta tb tc:TE}{pos:CK}
def zeD{B:List (AJ×Bw)}{A:St}{H:Hp}{s:AH}{Q:VK}{k a:Bool}(I:Inv X B A H s)(q:Q (.bl k) H)(e:k=a):EP X B A Q (.bool a) s:=by subst e;exact#[.bl k,H,I,rfl,q]
def zol:OpR X (compareOp .Lt) (rI0 λi j=>.bl (decide (i<j))):=zoJ λ_ _ _ _ _ _ _ q=>lt_int q
def zog:OpR X (compareOp .LtE) (rI0 λi j=>.bl (decide (i<=j))):=zoJ λ_ _ _ _ _ _ _ q=>le_int q
def zom:OpR X (compareOp .Gt) (rI0 λi j=>.bl (decide (j<i))):=zoJ λ_ _ _ _ _ _ _ q=>gt_int q
def zow:OpR X (compareOp .GtE) (rI0 λi j=>.bl (decide (j<=i))):=zoJ λ_ _ _ _ _ _ _ q=>ge_int q
def zfr:OpR X (compareOp .Lt) (λx y H Q=>∃i j,x=.str i/\y=.str j/\Q (.bl (decide (i.cps.toList<j.cps.toList))) H):=by intro B s A H x y v u Q I a b h;let#[i,j,rfl,rfl,q]:=h;let#[t,rfl]:=a;let#[c,rfl]:=b;exact lt_str (zeD I q rfl)
def zfR:OpR X (compareOp .In) (λx y H Q=>∃i j,x=.str i/\y=.str j/\Q (.bl (!(CT j i 0 j.length 1).isEmpty)) H):=by intro B s A H x y v u Q I a b h;let#[i,j,rfl,rfl,q]:=h;let#[t,rfl]:=a;let#[c,rfl]:=b;exact in_str (zeD I q rfl)
def zcP:OpR X (compareOp .NotIn) (λx y H Q=>∃i j,x=.str i/\y=.str j/\Q (.bl (!(!(CT j i 0 j.length 1).isEmpty))) H):=by intro B s A H x y v u Q I a b h;let#[i,j,rfl,rfl,q]:=h;let#[t,rfl]:=a;let#[c,rfl]:=b;exact notIn_str (zeD I q rfl)
def zfZ{c:E7}{r:R2}(d:OpR X (compareOp c) r)(f:PE X a ta)(g:PE X b tb)(j:behindInMarks c b=AC):PE X (.Compare a [c] [b] pos) (tOp r ta tb):=by intro B s A H Q I h;exact wpAny_Compare1 (zoM f g I h λv u l x y m n o p q=>d B l A m x y v u Q n o p q) j
def ydz(t:TE):TT:=λA H Q=>t A H λx a=>∃k,x=.bl k/\Q k a
def zgm{d:E7}{r:R2}(f:OpR X (compareOp d) r)(g:PE X a ta)(j:PE X b tb)(l:behindInMarks d b=AC):PT X (.Compare a [d] [b] pos) (ydz (tOp r ta tb)):=by
 intro B s A H Q I h;refine GQ (thn (g B s A H _ I h) λv m #[x,n,o,p,q]=>thn (j B m A n _ o q) λu t #[y,w,C,D,E]=>
  thn (f B t A w x y v u _ C p D E) λc N #[z,G,J,L,k,e,M]=>?_) l
 subst e
 cases L
 exact Bd #[G,J,M]
def yct(r b:R2)(ta tb tc:TE):TE:=λA H Q=>ta A H λx c=>tb A c λy d=>r x y d λz a=>∃k,z=.bl k /\
 (if k=AE then tc A a λf g=>b y f g Q else Q (.bl AC) a)
def zh3{g f:E7}{r l:R2}(q:OpR X (compareOp g) r)(j:OpR X (compareOp f) l)(t:PE X a ta)(w:PE X b tb)(C:PE X c tc)
  (D:lastMarks [g,f] [b,c]=false:=by with_unfolding_all rfl):PE X (.Compare a [g,f] [b,c] pos) (yct r l ta tb tc):=by
 intro B s A H Q I h;refine Compare_chain (thn (t B s A H _ I h) λv E #[x,G,J,L,M]=>chain_link (thn (w B E A G _ J M) λu N #[y,O,U,m,Y]=>
  thn (q B N A O x y v u _ U L m Y) λd Z #[z,n,o,r3,k,e,p]=>?_)) D
 subst e
 cases r3
 refine Bd ?_
 cases k with
 |false=>exact ite_ff #[.bl AC,n,o,rfl,p]
 |true=>exact ite_tt (chain_last (thn (C B Z A n _ o p) λw' s4 #[z',H4,I4,r4,q4]=>j B s4 A H4 y z' u w' Q I4 m r4 q4))
def ziv{g f:E7}{r m:R2}(t:OpR X (compareOp g) r)(j:OpR X (compareOp f) m)(w:PE X a ta)(C:PE X b tb)(D:PE X c tc)
  (E:lastMarks [g,f] [b,c]=false:=by with_unfolding_all rfl):PT X (.Compare a [g,f] [b,c] pos) (ydz (yct r m ta tb tc)):=by
 intro B s A H Q I h;refine isTrue_chain (thn (w B s A H _ I h) λv G #[x,J,L,M,N]=>test_link (thn (C B G A J _ L N) λu O #[y,U,Y,n,Z]=>
  thn (t B O A U x y v u _ Y M n Z) λd s3 #[z,o,p,r3,k,e,q]=>?_)) E
 subst e
 cases r3
 refine Bd ?_
 cases k with
 |false=>
  let#[k',e',q']:=q
  cases e'
  exact ite_ff #[o,p,q']
 |true=>
  refine ite_tt (test_last (thn (D B s3 A o _ p q) λw' s4 l=>?_));let#[z',H4,I4,r4,q4]:=l;refine thn (j B s4 A H4 y z' u w' _ I4 n r4 q4) λd' s5 l=>?_;let#[z2,H5,I5,r5,k2,e2,q5]:=l;subst e2
  cases r5
  exact Bd #[H5,I5,q5]
def ydS(K:AF)(x:V)(H:Hp)(k:Bool):Prop:=
 match x with
 |.non=>k=AC
 |.bl b=>k=b
 |.int i=>k=(i != 0)
 |.str y=>y.length<=sizeLine/\k=((y.length:Int) != 0)
 |.byt y=>y.size<=sizeLine/\k=((y.size:Int) != 0)
 |.ref p=>(∃a,SqL K H p a/\k=!a.isEmpty) \/ (∃a,SqT K H p a/\k=!a.isEmpty) \/ ∃c,H p=AA (.dK c)/\k=!c.isEmpty
 |_=>False
def zeR{R:Type}{a:List (R×V)}{vs:List (R×AG)}(r:KV a vs):(!vs.isEmpty)=!a.isEmpty:=by cases r<;>rfl
def zbN{xs:List V}{a:List AG}(r:Vals xs a):(!a.toArray.isEmpty)=!xs.isEmpty:=by cases r<;>simp
def zoG:(sizeLine:Nat)<2^63:=by rw[Ap];decide
def zjn:yg1 X (λx H Q=>∃k,ydS X.K x H k/\Q k H):=by
 intro B s A H x v Q I g h;let#[k,e,q]:=h;have C:=zoG;have D:sizeLine=16777216:=Ap
 cases x with
 |non=>
  cases g
  have a:k=false:=e;subst a;exact truthy_none #[H,I,q]
 |bl b=>
  cases g
  have a:k=b:=e;subst a;exact Bd #[H,I,q]
 |int i=>
  let#[t,rfl]:=g;have a:k=(i != 0):=e;subst a;exact PySem.P.truthy_int #[H,I,q]
 |str y=>
  let#[t,rfl]:=g;obtain⟨w,a⟩:y.length<=sizeLine/\k=((y.length:Int) != 0):=e;subst a;exact PySem.P.truthy_str () #[H,I.tok _,q]
 |byt y=>
  let#[t,rfl]:=g;obtain⟨w,a⟩:y.size<=sizeLine/\k=((y.size:Int) != 0):=e;subst a;exact PySem.W.truthy_bytes () #[H,I.tok _,q]
 |ref p=>
  cases g
  have a:(∃f,SqL X.K H p f/\k=!f.isEmpty) \/ (∃f,SqT X.K H p f/\k=!f.isEmpty) \/ ∃c,H p=AA (.dK c)/\k=!c.isEmpty:=e;rcases a with⟨f,j,a⟩|⟨f,j,a⟩|⟨c,j,a⟩
  .subst a;let#[n,r,o,u]:=I.list j;have d:=r.length;exact wpAny_truthy_list o.isList (by erw[AX];lia) #[H,I.tok _,by rw[zbN r];exact q]
  .subst a;let#[n,r,o,u]:=I.tuple j;have d:=r.length;exact truthy_tuple o (by erw[AX];lia) #[H,I.tok _,by rw[zbN r];exact q]
  .subst a;obtain⟨u,z,l,r,m⟩:c.length<=sizeLine/\(p==sysModules)=AC/\∃l,KV c l/\s.heap.DictOf (yU X.prog X.w) p l:=I.hok p _ j;have d:c.length=l.length:=FZ r;exact wpAny_truthy_dict z m () #[H,I.tok _,by rw[zeR r];exact q]
 |_=>exact(show False from e).elim
def zhv(d:PE X a ta)(f:∀b,isTrue a X.env b=(do let v <-b;standAt a.pos;holding [v] (truthy v))):
  PT X a (λA H Q=>ta A H λx c=>∃k,ydS X.K x c k/\Q k c):=by intro B s A H Q I h;exact isTrue_plain (thn (d B s A H _ I h) λv g #[x,j,l,m,n]=>zjn B g A j x v Q l m n) (f _)
def zeN:OpR X (binaryOp .Add) (λx y H Q=>∃i j,x=.str i/\y=.str j/\i.length+j.length<=sizeLine/\Q (.str (i++j)) H):=by intro B s A H x y v u Q I a b h;let#[i,j,rfl,rfl,c,q]:=h;let#[t,rfl]:=a;let#[d,rfl]:=b;exact add_str (λd f=>#[.str (i++j),H,I.tok _,#[_,rfl],q]) c
theorem vals1{x:V}{us:List AG}(r:Vals [x] us):∃u,us=[u]/\RelV x u:=by
 cases r with
 |cons a b=>cases b;exact#[_,rfl,a]
theorem vals2{x y:V}{us:List AG}(r:Vals [x,y] us):∃u a,us=[u,a]/\RelV x u/\RelV y a:=by
 cases r with
 |cons b c=>
  cases c with
  |cons d f=>cases f;exact#[_,_,rfl,b,d]
def zdf:yam X (.type "int") (λa H Q=>(∃i,a=[.int i]/\Q (.int i) H) \/ ∃k,a=[.bl k]/\Q (.int (if k then 1 else 0)) H):=by
 intro B s A H a c Q I r h;rcases h with⟨i,rfl,q⟩|⟨k,rfl,q⟩
 .let#[u,rfl,t,rfl]:=vals1 r;exact call_int_int #[.int i,H,I,#[_,rfl],q]
 .let#[u,rfl,b]:=vals1 r
  cases b
  exact call_int_bool #[.int (if k then 1 else 0),H,I.tok _,#[_,rfl],q]
end
structure ycU(h:Au)(x dx C:AJ)(mA:AR->Option AG):Prop where
 obj:h.get? x=AA (CW C dx)
 ns:h.Ns1 dx mA
 ne:dx≠x
def zge{h:Au}{d:AJ}{f:AR->Option AG}(n:h.Ns1 d f):∃g,h.get? d=AA g/\∀b,En b g=AA (f b):=by
 let#[o,j,x,l,m,p,_,r]:=n;refine#[o,l,λb=>?_];have e:=r b;unfold nsFind findBy at e;rw[<-Array.find?_toList]at e;unfold En;rw[m];dsimp only;split
 .rename_i y q;rw[q]at e;exact congrArg AA e
 .rename_i q;rw[q]at e;have a:j.toList.any (·.refKey)=false:=by rw[List.any_eq_false];intro y u;let#[z,t,c]:=p y (Array.mem_toList_iff.mp u);simp[DictEntry.refKey,c]
  have w:¬j.toList.any (·.refKey)=true:=by rw[a];exact A3
  rw[if_neg w];exact congrArg AA e
theorem ycU.look{h:Au}{x c C:AJ}{d:AR->Option AG}(I:ycU h x c C d):∃b,PySem.W.InstAt h x (CW C c) C (AA b)/\∀a,En a b=AA (d a):=
 let #[b,f,g]:=zge I.ns
 #[b,#[I.obj,rfl,rfl,f],g]
section
variable {prog:A6}{w:Ah}{A:Ai}{E:AG->AH->Prop}{s:AH}{K:AF}{x dx C f:AJ}{mA:AR->Option AG}{name:AR}{v:AG}
def zk3{a:Bool}{Q:AG->AH->Prop}(X:K.In s.heap)(I:ycU s.heap x dx C mA)(c:DY K C name=AE)(d:Dt K C=AE)
  (f:Ak K (.ref C) name=AA AD) (g:mA name=AA v) (b:Hg v=AE) (h:Q v {s with toks:=s.toks+1}):
  A1 (model prog w) A (getAttr (.ref x) name a) Q E s:=by let#[l,J,j]:=I.look;exact PySem.W.get_value X J (E8 c).1 (PySem.W.findObj_own d f rfl (by rw[j,g])) b h
def ziD{pl:IR Bool}{Q:AG×List AG->AH->Prop}(X:K.In s.heap)(I:ycU s.heap x dx C mA)(a:DY K C name=AE)
  (hf:Ak K (.ref C) name=AA (AA (.ref f))) (b:DZ K (.ref f)=AE) (c:mA name=AD) (h:Q (.ref f,[.ref x]) s):
  A1 (model prog w) A (getMethod (.ref x) name pl) Q E s:=by let#[d,J,g]:=I.look;exact PySem.W.method_fn X J (E8 a).1 (E8 a).2 hf (beq_iff_eq.mp b) (by show (En name d).map (·.isSome)=AA AC;rw[g,c];rfl) h
def zkp{n:List AR}{Q:Unit->AH->Prop}(X:K.In s.heap)(I:ycU s.heap x dx C mA)
  (o:Ak K (.ref C) "__setattr__"=AA (AA (.builtin "object.__setattr__"))) (p:FQ K C=AE) (q:GN K C name=AA AD) (t:Dt K C=AE)
  (u:HI mA n) (hsz:n.length<=sizeLine)
  (h:∀f,ycU f x dx C (λy=>if y=name then AA v else mA y)->C0 dx s.heap f->Q Unit.unit {s with heap:=f,toks:=s.toks+2}):
  A1 (model prog w) A (setAttr (.ref x) name v) Q E s:=by let#[H,J,L]:=I.look;refine PySem.W.set_plain X J o (PySem.W.osa_open (s:={s with toks:=s.toks+1}) (r:=AD) X J p q λb=>?_);let#[M,z,g]:=PySem.W.any_some t;have B:s.heap.get? x=AA #[.ref C,AA dx,.plain,(List.toArray [])]:=I.obj;refine AB (AM (AB (AB (wpAny_loadPart B (AB (Jb (s:={s with toks:=s.toks+1}) (PySem.W.looks_clsIn X z) ?_))))));rw[g];refine AM (a:=AA dx) (AB (AM (AB ?_)));refine wpAny_nsSet1 (s:={s with toks:=s.toks+1}) I.ns λf c d=>?_;let#[N,D,G,j,l,m]:=c.count (Je name v u);refine AB (wpAny_lookBehind j (by rw[l];exact pastItsLine_dict (Bl m (by rw[AY];lia))) ?_);exact AM (h _ #[(d.2 _ (BR I.ne)).trans I.obj,c,I.ne] d)
def ziO{R:F0->AH->Prop}{vs:List AG}{b:List (AR×AG)}(X:K.In s.heap)(c:EZ K C=AE)
  (j:Ak K (.ref C) "__init__"=AA (AA (.ref f))) (hf:PySem.W.typeIn K (.ref f)=AA (.type "function"))
  (h:codeAny (model prog w) (A.under (.builtin "type.__call__" #[.ref C::vs,b])) (.call (.ref f) #[.ref (s.heap.objs.size+1)::vs,b]) (PySem.W.InitBack (s.heap.objs.size+1) R)
   {s with heap:=(s.heap.push Bo).push (CW C s.heap.objs.size)}):
  codeAny (model prog w) A (.call (.ref C) #[vs,b]) R s:=by let#[l,g,d,t,os]:=s;exact PySem.W.make_core (PySem.W.makes_of X c) (PySem.W.looks_findIn X j) (λa=>PySem.W.bind_fn X a hf) (.inl rfl) h
end
def yaZ(f:AR)(v:V):List (AR×V)->List (AR×V)
 |[]=>[(f,v)]
 |(g,x)::r=>if g=f then(g,v)::r else(g,x)::yaZ f v r
def zbe(f g:AR)(v:V):∀fs:List (AR×V),(yaZ f v fs).lookup g=if g=f then AA v else fs.lookup g
 |[]=>by
  show CJ g [(f,v)]=_
  by_cases h:g=f
  .have a:(g==f)=true:=beq_iff_eq.mpr h;erw[CJ,a,if_pos h]
  .have a:(g==f)=false:=beq_eq_false_iff_ne.mpr h;erw[CJ,a,if_neg h]
 |(k,x)::r=>by
  have ih:=zbe f g v r;rw[show yaZ f v ((k,x)::r)=(if k=f then(k,v)::r else(k,x)::yaZ f v r)from rfl]
  by_cases b:k=f
  .rw[if_pos b]
   by_cases h:g=k
   .have a:(g==k)=true:=beq_iff_eq.mpr h;erw[CJ,a,if_pos (h.trans b)]
   .have a:(g==k)=false:=beq_eq_false_iff_ne.mpr h;erw[CJ,a,if_neg (λe:g=f=>h (e.trans b.symm))]
  .rw[if_neg b]
   by_cases h:g=k
   .have a:(g==k)=true:=beq_iff_eq.mpr h;erw[CJ,a,if_neg (λe:g=f=>b (h.symm.trans e))]
   .have a:(g==k)=false:=beq_eq_false_iff_ne.mpr h;erw[CJ,a];exact ih
def zbk(f:AR)(v:V):∀fs:List (AR×V),f∈(yaZ f v fs).map (·.1)/\∀g,g∈fs.map (·.1)->g∈(yaZ f v fs).map (·.1)
 |[]=>#[by simp[yaZ],λg h=>by simp at h]
 |(k,x)::r=>by
  let#[b,c]:=zbk f v r;rw[show yaZ f v ((k,x)::r)=(if k=f then(k,v)::r else(k,x)::yaZ f v r)from rfl]
  by_cases a:k=f
  .rw[if_pos a];subst a;exact#[by simp,λg h=>by simpa using h]
  .rw[if_neg a];refine#[?_,λg h=>?_]
   .rw[AV];exact AS _ b
   .rw[AV]at h ⊢;rcases A8.mp h with e|e
    .exact A8.mpr (.inl e)
    .exact AS _ (c g e)
def zbn(f:AR)(v:V):∀fs:List (AR×V),(yaZ f v fs).length<=fs.length+1
 |[]=>by simp[yaZ]
 |(k,x)::r=>by
  have ih:=zbn f v r;rw[show yaZ f v ((k,x)::r)=(if k=f then(k,v)::r else(k,x)::yaZ f v r)from rfl]
  by_cases a:k=f
  .rw[if_pos a,AY,AY];lia
  .rw[if_neg a,AY,AY];lia
theorem ybg.some_of{v:V}{o:Option AG}(r:ybg (AA v) o):∃u,o=AA u/\RelV v u:=by
 cases o with
 |none=>exact(show False from r).elim
 |some u=>exact#[u,rfl,r]
theorem ybg.none_of{o:Option AG}(r:ybg AD o):o=none:=by
 cases o with
 |none=>rfl
 |some u=>exact(show False from r).elim
def zgX{v:V}{u:AG}(r:RelV v u):Hg u=true:=by
 cases v with
 |non=>cases (show u=BJ from r);rfl
 |bl b=>cases (show u=Eg b from r);rfl
 |int i=>let#[t,e]:=(show ∃t,u=F8 i t from r);cases e;rfl
 |str x=>let#[t,e]:=(show ∃t,u=DX x t from r);cases e;rfl
 |byt b=>let#[t,e]:=(show ∃t,u=JU b t from r);cases e;rfl
 |flt b=>let#[t,e]:=(show ∃t,u=JV b t from r);cases e;rfl
 |ref a=>cases (show u=Ag a from r);rfl
 |ty n=>cases (show u=Eh n from r);rfl
section
variable {P:A6}{w:Ah}{H H':Hp}{h h':Au}{a C dx:AJ}{fs fs':List (AR×V)}
def zdl(c:HOk P w H h)(e:H a=AA (.ins C dx fs)):∃b,ycU h a dx C b/\(∀f,ybg (fs.lookup f) (b f))/\HI b (fs.map (·.1))/\fs.length<=1000/\H dx=AA (.own a):=by let#[d,z,g,j,b,n,r,q]:=(show yH P w H h a (.ins C dx fs)from c a _ e);exact#[b,#[j,n,g],r,q,z,d]
end
structure Cls(K:AF)(C:AJ):Prop where
 pg:DY K C C6=AE
 hd:Dt K C=AE
 po:FQ K C=AE
 sa:Ak K (.ref C) "__setattr__"=AA (AA (.builtin "object.__setattr__"))
theorem Cls.get{K:AF}{C:AJ}(c:Cls K C)(f:AR):DY K C f=true:=c.pg
def yat(K:AF)(C:AJ)(f:AR):Prop:=Ak K (.ref C) f=AA AD
theorem yat.taker{K:AF}{C:AJ}{f:AR}(n:yat K C f):GN K C f=AA none:=by unfold GN;rw[show Ak K (.ref C) f=AA AD from n];rfl
structure Con(K:AF)(C:AJ)(f:AR)(v:V)(u:AG):Prop where
 at_:Ak K (.ref C) f=AA (AA u)
 rel:RelV v u
 get:PySem.W.specialIn K u "__get__"=AA AD
 cp:PySem.W.copiedNames.contains f=AC
structure Meth(K:AF)(C:AJ)(m:AR)(f:AJ):Prop where
 at_:Ak K (.ref C) m=AA (AA (.ref f))
 fn:DZ K (.ref f)=AE
 kp:Ax K (.ref f)=AE
section
variable {X:Cx}{D:List (AJ×Bw)}{B:St}{H:Hp}{s:AH}{a C dx:AJ}{fs:List (AR×V)}{f:AR}{v:V}{A:Ai}{E:AG->AH->Prop}
def zbG{b:Bool}{Q:AG->AH->Prop}(I:Inv X D B H s)(e:H a=AA (.ins C dx fs))(c:Cls X.K C)(n:yat X.K C f)(l:fs.lookup f=AA v)
  (h:∀u d,Inv X D B H d->RelV v u->Q u d):A1 (model X.prog X.w) A (getAttr (.ref a) f b) Q E s:=by let#[j,O,r,_,_,_]:=zdl I.hok e;let#[u,m,g]:=ybg.some_of (v:=v) (o:=j f) (by rw[<-l];exact r f);exact zk3 I.kIn O (c.get f) c.hd n m (zgX g) (h u _ (I.tok _) g)
def zbY{m:AR}{g:AJ}{pl:IR Bool}{Q:AG×List AG->AH->Prop}(I:Inv X D B H s)(e:H a=AA (.ins C dx fs))(c:Cls X.K C)(k:Meth X.K C m g)(l:fs.lookup m=AD)
  (h:Q (.ref g,[.ref a]) s):A1 (model X.prog X.w) A (getMethod (.ref a) m pl) Q E s:=by let#[b,O,r,_,_,_]:=zdl I.hok e;have d:b m=none:=ybg.none_of (by rw[<-l];exact r m);exact ziD I.kIn O (c.get m) k.at_ k.fn d h
def zbJ{y:V}{u:AG}{Q:Unit->AH->Prop}(I:Inv X D B H s)(e:H a=AA (.ins C dx fs))(c:Cls X.K C)(n:yat X.K C f)(Y:fs.length<1000)(t:RelV y u)
  (h:∀j,Inv X D B (upd H a (.ins C dx (yaZ f y fs))) j->Q Unit.unit j):A1 (model X.prog X.w) A (setAttr (.ref a) f u) Q E s:=by
 let#[l,O,r,m,_,p]:=zdl I.hok e;have w:(fs.map (·.1)).length<=sizeLine:=by rw[Ae,Ap];lia
 refine zkp I.kIn O c.sa c.po n.taker c.hd m w λG d J=>h _ ?_;have L:∃o,G.get? dx=AA o:=let #[o,_,_,M,_]:=d.ns;#[o,M]
 refine I.write (x:=a) (e:=dx) (by rw[e];exact CM) (.inr p) (λb q N z=>(J.2 b N).trans z) L ?_;refine#[by rw[zc O.ne];exact p,?_,O.ne,d.obj,_,d.ns,λg=>?_,λg U=>?_]
 .have:=zbn f y fs;lia
 .show ybg ((yaZ f y fs).lookup g) (if g=f then AA u else l g);rw[zbe]
  by_cases q:g=f
  .rw[if_pos q,if_pos q];exact t
  .rw[if_neg q,if_neg q];exact r g
 .by_cases q:g=f
  .rw[q];exact(zbk f y fs).1
  .refine(zbk f y fs).2 g (m g λz=>U ?_);show (if g=f then AA u else l g)=AD;rw[if_neg q];exact z
theorem Inv.made(I:Inv X D B H s):Inv X D B (upd (upd H s.heap.objs.size (.own (s.heap.objs.size+1))) (s.heap.objs.size+1) (.ins C s.heap.objs.size []))
  {s with heap:=(s.heap.push Bo).push (CW C s.heap.objs.size)}:=by
 have c:(s.heap.push Bo).get? s.heap.objs.size=AA Bo:=AQ s.heap rfl;have f:((s.heap.push Bo).push (CW C s.heap.objs.size)).get? (s.heap.objs.size+1)=AA (CW C s.heap.objs.size):=by
  have:=AQ (s.heap.push Bo) (o:=CW C s.heap.objs.size) rfl
  rwa [CQ]at this
 have g:(s.heap.push Bo).Ns s.heap.objs.size (λ_=>AD):=#[Bo,(List.toArray []),_,c,rfl,(λe j=>absurd j (by simp)),λ_=>rfl];have l:=I.laid (a:=s.heap.objs.size) (o:=.own (s.heap.objs.size+1)) (h':=s.heap.push Bo) (t':=s.toks) (λb u q=>AL _ q) (AU _) #[_,c];refine l.laid (a:=s.heap.objs.size+1) (o:=.ins C s.heap.objs.size []) (t':=s.toks) (λb u q=>AL _ q) (HL (CQ _ _)) ?_;have d:s.heap.objs.size≠s.heap.objs.size+1:=Ad (Hh _);refine#[by rw[zc d,zh],BB _,d,f,λ_=>AD,(Heap.Ns1.of_empty g).at λo q=>AL _ q,λ_=>CM,λy m=>absurd rfl m]
def zkq{prog:A6}{w:Ah}{env:Env}{e:AZ}{f:AR}{pos:CK}{s:AH}{Q:AG->AH->Prop}(b:attributeBase e f env (eval e env)=eval e env)
  (h:A1 (model prog w) A (eval e env) (λo a=>A1 (model prog w) A (getAttr o f AE) Q E a) E s):A1 (model prog w) A (eval (.Attribute e f pos) env) Q E s:=
 Attribute_any_ h (by rw[arm_eval_Attribute,b])
end
def ygy(K:AF)(c:TE)(f:AR):TE:=λA H Q=>c A H λx b=>∃a C d fs v,x=.ref a/\b a=AA (.ins C d fs)/\Cls K C/\yat K C f/\fs.lookup f=AA v/\Q v b
def yfN(K:AF)(d g:TE)(f:AR):TS:=λD A H=>g A H λy j=>d A j λx b=>∃a C c fs,x=.ref a/\b a=AA (.ins C c fs)/\Cls K C/\yat K C f/\fs.length<1000 /\
 D.nx A (upd b a (.ins C c (yaZ f y fs)))
def yfe(X:Cx)(a:EV)(b:V->V->Hp->VK->Prop):Prop:=
 ∀(C:List (AJ×Bw)) (s:AH) (B:St) (H:Hp) (x y:V) (u v:AG) (Q:VK),Inv X C B H s->RelV x u->RelV y v->b x y H Q->A1 (model X.prog X.w) X.A (inplaceOp a u v) (EP X C B Q) X.xe s
def ycI(K:AF)(j l:TE)(m:V->V->Hp->VK->Prop)(f:AR):TS:=λD A H=>j A H λx d=>∃a C n fs v,x=.ref a/\d a=AA (.ins C n fs)/\Cls K C/\yat K C f/\fs.lookup f=AA v /\
 l A d λy o=>m v y o λz g=>∃c b,g a=AA (.ins C c b)/\b.length<1000/\D.nx A (upd g a (.ins C c (yaZ f z b)))
section
variable {X:Cx}{o e value:AZ}{f:AR}{pos pos' tpos:CK}{ta tv:TE}
def zlv(b:PE X e ta)(d:attributeBase e f X.env (eval e X.env)=eval e X.env):PE X (.Attribute e f pos) (ygy X.K ta f):=by intro B s A H Q I h;refine zkq d (thn (b B s A H _ I h) λu w g=>?_);let#[x,j,m,o,a,C,y,fs,v,ex,p,c,n,l,q]:=g;subst ex;obtain rfl:u=Ag a:=o;exact zbG m p c n l λz D r t=>#[v,j,r,t,q]
def zlu(d:PE X o ta)(g:PE X value tv)(j:swapsWith value (AA (.Attribute o f pos')) pos.line X.env=pure AC):PS X (.Assign [.Attribute o f pos'] value pos) (yfN X.K ta tv f):=by intro B s A H D I h;refine plainObj_wpAny_Assign_Attribute (thn (g B s A H _ I h) λu m b=>?_) j;let#[y,p,r,t,q]:=b;refine thn (d B m A p _ r q) λw M b=>?_;let#[x,N,z,E,a,C,O,fs,ex,G,c,n,l,J]:=b;subst ex;obtain rfl:w=Ag a:=E;exact zbJ z G c n l t λQ L=>#[A,_,L,J]
def zfY{j:EV}{m:V->V->Hp->VK->Prop}(p:PE X o ta)(r:PE X value tv)(d:yfe X j m):PS X (.AugAssign (.Attribute o f tpos) j value pos) (ycI X.K ta tv m f):=by intro B s A H D I h;refine wpAny_AugAssign_AttributeAny (thn (p B s A H _ I h) λt s1 b=>?_);let#[x,w,E,G,a,C,dx,fs,v,ex,J,c,n,l,q]:=b;subst ex;obtain rfl:t=Ag a:=G;refine zbG E J c n l λu L M N=>thn (r B L A w _ M q) λO Q b=>?_;let#[y,U,Y,Z,q3]:=b;refine thn (d B Q A U v y u O _ Y N Z q3) λw4 s4 b=>?_;let#[z,H3,I4,rz,dx',fs',g,l',q4]:=b;exact zbJ I4 g c n l' rz λs5 I5=>#[A,_,I5,q4]
def yg7:V->V->Hp->VK->Prop:=λx y H Q=>∃i j,x=.int i/\y=.int j/\Q (.int (i+j)) H
def zmk:yfe X .Add yg7:=by
 rintro B s A H x y u v Q I b c ⟨i,j,rfl,rfl,q⟩
 let#[t,rfl]:=(show ∃t,u=F8 i t from b);let#[a,rfl]:=(show ∃a,v=F8 j a from c);exact IS #[.int (i+j),H,I.tok _,#[_,rfl],q]
end
section
variable {X:Cx}{C:List (AJ×Bw)}{B:St}{H:Hp}{s:AH}{A:Ai}{E:AG->AH->Prop}{Q:AG->AH->Prop}{c:AG}{b:Bool}
end
structure yaA(k:Nat)(A:Ai):Prop where
 hd:A.handled=AD
 dp:A.depth+3*k+5<recursionLimit
 un:A.units+16*k+200<cLine
theorem yaA.mono{j k:Nat}{A:Ai}(r:yaA k A)(h:j<=k):yaA j A:=#[r.hd,by have:=r.dp;lia,by have:=r.un;lia]
theorem yaA.deeper{k:Nat}{A:Ai}(r:yaA (k+1) A)(env:Env):yaA k (A.deeper env):=
 #[r.hd,by have:=r.dp;show A.depth+1+3*k+5<_;lia,by have:=r.un;show A.units+3+16*k+200<_;lia]
def ze0{A:Ai}{C:AJ}{us:List AG}{a:List (AR×AG)}:(A.under (.builtin "type.__call__" #[.ref C::us,a])).depth=A.depth+1:=by first|rfl|simp[HM,Code.weight,Code.isCreation,Code.isGuard,Code.isCaller,J0,HN,guardIds]
def zeW{A:Ai}{C:AJ}{us:List AG}{a:List (AR×AG)}:(A.under (.builtin "type.__call__" #[.ref C::us,a])).units=A.units+1:=by first|rfl|simp[HM,Code.cUnits,J0,HN]
theorem yaA.make{k:Nat}{A:Ai}(r:yaA (k+1) A)(C:AJ)(us:List AG)(a:List (AR×AG)):yaA k (A.under (.builtin "type.__call__" #[.ref C::us,a])):=
 #[r.hd,by have:=r.dp;rw[ze0];lia,by have:=r.un;rw[zeW];lia]
theorem yaA.depth{k:Nat}{A:Ai}(r:yaA k A):A.depth<recursionLimit:=by have:=r.dp;lia
def ycR:TA:=λ_ H Q=>Q [] H
def ycM(a:TE)(b:TA):TA:=λA H Q=>a A H λx c=>b A c λd f=>Q (x::d) f
section
variable {X:Cx}{e:AZ}{es:List AZ}{te:TE}{t:TA}{pos:CK}
def zoF:PA X [] ycR:=λ_ _ _ _ H Q I h=>HP #[[],H,I,.nil,h]
def zI(a:PE X e te)(b:PA X es t)(c:starEach (e::es) X.env=(AC,eval e X.env)::starEach es X.env:=by rfl):PA X (e::es) (ycM te t):=by intro pos B s A H Q I h;rw[c];show A1 _ _ (spliced ((AC,eval e X.env)::backTo pos (starEach es X.env))) _ _ s;refine HE (thn (a B s A H _ I h) λu d f=>?_);let#[x,g,j,l,m]:=f;exact thn (b pos B d A g _ j m) λw y #[n,o,p,q,r]=>#[x::n,o,p,.cons l q,r]
def yf7(t:TA):TE:=λA H Q=>t A H λa b=>a.length<=sizeLine/\∀p,b p=AD->Q (.ref p) (upd b p (.tup a))
def yfT(t:TA):TE:=λA H Q=>t A H λa b=>a.length<=sizeLine/\∀p,b p=AD->Q (.ref p) (upd b p (.lst a))
def zlD{f}(h:PA X es t):PE X (.Tuple es f pos) (yf7 t):=by intro B s A H Q I g;refine wpAny_Tuple_spliced (thn (h pos B s A H _ I g) λj a l=>?_);let#[m,c,d,r,z,q]:=l;refine #[by rw[<-r.length];exact z,?_];have hf:c a.heap.objs.size=none:=d.hok.fresh (AU _);refine#[.ref a.heap.objs.size,upd c a.heap.objs.size (.tup m),d.laid (t':=a.toks) (λb u e=>AL _ e) (AU _) ?_,rfl,q _ hf];exact#[z,j,r,AQ _ rfl]
def zmg(h:PA X es t):PE X (.List es pos) (yfT t):=by intro B s A H Q I f;refine wpAny_List_spliced (thn (h pos B s A H _ I f) λg a j=>?_);let#[l,c,d,r,z,q]:=j;refine #[by rw[<-r.length];exact z,?_];have hf:c a.heap.objs.size=none:=d.hok.fresh (AU _);refine#[.ref a.heap.objs.size,upd c a.heap.objs.size (.lst l),d.laid (t':=a.toks) (λb u e=>AL _ e) (AU _) ?_,rfl,q _ hf];exact#[z,g,0,r,AQ _ rfl]
end
abbrev Sp:=List V->Hp->VK->XK->Prop
abbrev CXT:=List Env->Hp->AH->XK->AG->AH->Prop
structure yco(P:A6)(w:Ah)(K:AF)(mg:AR->Option AG)(base:Au)(A:Ai)(outer:List Env)(s:AH)(H:Hp):Prop where
 frames:A.frames=AA outer
 mod:Mod K mg base
 bs:∀b o,base.get? b=AA o->s.heap.get? b=AA o/\H b=AD
 bsz:base.objs.size<=s.heap.objs.size
 funs:s.heap.FunFrames base outer
 frf:∀b∈frs outer,H b=AD
 hok:HOk P w H s.heap
 bare:Dr s.gens
def CE(outer:List Env)(P:A6)(w:Ah)(H:Hp)(s:AH)(Q:VK)(u:AG)(s':AH):Prop:=
 ∃v a,s'.os=s.os/\Dr s'.gens/\Un (frs outer) [] H a s.heap s'.heap/\HOk P w a s'.heap/\RelV v u/\Q v a
def CR(CX:CXT)(outer:List Env)(P:A6)(w:Ah)(H:Hp)(s:AH)(Q:VK)(E:XK)(r:F0)(s':AH):Prop:=
 match r with
 |.ok (.ret u)=>CE outer P w H s Q u s'
 |.ok _=>False
 |.error e=>CX outer H s E e s'
structure yaK(P:A6)(w:Ah)(K:AF)(mg:AR->Option AG)(base:Au)(CX:CXT)(k:Nat)(f:AJ)(fd:BF)(ps:List AR)(sp:Sp):Prop where
 len:∀vs H Q E,sp vs H Q E->vs.length=ps.length
 run:∀(A:Ai) (outer:List Env) (s:AH) (H:Hp) (args:Args) (us:List AG) (vs:List V) (Q:VK) (E:XK),yaA k A->yco P w K mg base A outer s H->Fz s fd args (ps.zip us)->Vals vs us->sp vs H Q E ->
  codeAny (model P w) A (.call (.ref f) args) (CR CX outer P w H s Q E) s
theorem yaK.imp{P:A6}{w:Ah}{K:AF}{g:AR->Option AG}{base:Au}{CX:CXT}{k:Nat}{f:AJ}{j:BF}{l:List AR}{sp c:Sp}(F:yaK P w K g base CX k f j l sp)
  (h:∀b H Q E,c b H Q E->sp b H Q E):yaK P w K g base CX k f j l c:=
 #[λb H Q E q=>F.len b H Q E (h _ _ _ _ q),λA a s H d m b Q E n o p r t=>F.run A a s H d m b Q E n o p r (h _ _ _ _ t)]
theorem yco.make{P:A6}{w:Ah}{K:AF}{a:AR->Option AG}{base:Au}{A:Ai}{outer:List Env}{s:AH}{H:Hp}(e:yco P w K a base A outer s H)(C:AJ)(us:List AG)(b:List (AR×AG)):
  yco P w K a base (A.under (.builtin "type.__call__" #[.ref C::us,b])) outer s H:=#[by first|exact e.frames|(simpa [HM,Code.envs,HN,pushEnvs] using e.frames),e.mod,e.bs,e.bsz,e.funs,e.frf,e.hok,e.bare]
section
variable {X:Cx}{C:List (AJ×Bw)}{B:St}{H:Hp}{s s':AH}
theorem Inv.env0(I:Inv X C B H s):yco X.prog X.w X.K X.mg X.base X.A X.stack s H:=
 #[I.ok.frames,I.ok.mod,I.bs,Bl I.ok.bsz I.sz,I.stack,I.stkFree,I.hok,I.bare]
theorem Inv.after{Q:VK}{u:AG}(I:Inv X C B H s)(h:CE X.stack X.prog X.w H s Q u s'):EP X C B Q u s':=by let#[v,j,os,a,un,c,r,q]:=h;let#[l,g,d,t,f]:=s';obtain rfl:f=s.os:=os;exact#[v,j,I.call (h':=l) (g':=g) (d':=d) (t':=t) (ch:=[]) un c a (λb z=>absurd z (by simp)),r,q]
end
def ydb(C:AJ)(sp:Sp)(b:List V)(E:XK)(t:TA):TE:=λA H Q=>t A H λd c=>∀x a,c x=AD->c a=AD->a≠x ->
 sp (.ref x::(d++b)) (upd (upd c a (.own x)) x (.ins C a [])) (λv f=>v=.non/\Q (.ref x) f) E
def Binds(K:AF)(d:BF)(b:List AR)(c:List AG):Prop:=
 ∀(s:AH) (a:List AG),K.In s.heap->(a++c).length=b.length->Fz s d #[a,[]] (b.zip (a++c))
theorem Binds.all{K:AF}{c:BF}{b:List AR}(h:∀a:List AG,a.length=b.length->bindArgs c #[a,[]]=pure (b.zip a)):Binds K c b []:=λs a _ d=>by rw[B5]at d ⊢;exact .of_eq (h a d)
def ybq(CX:CXT)(X:Cx)(E:XK):Prop:=∀(B:List (AJ×Bw)) (A:St) (H:Hp) (s:AH) (e:AG) (a:AH),Inv X B A H s->CX X.stack H s E e a->X.xe e a
section
variable {X:Cx}{CX:CXT}{k:Nat}{f C:AJ}{fd:BF}{ps:List AR}{sp:Sp}{dvs:List V}{ds:List AG}{E:XK}{x m:AR}{p pos apos:CK}{e o:AZ}{es:List AZ}{ta:TE}{t:TA}
structure Mk(K:AF)(C f:AJ):Prop where
 makes:EZ K C=AE
 init:Ak K (.ref C) "__init__"=AA (AA (.ref f))
 fn:DZ K (.ref f)=AE
 kp:Ax K (.ref C)=AE
def zeG{D:List (AJ×Bw)}{B:St}{H:Hp}{s:AH}{Q:VK}{us:List AG}{vs:List V}(M:Mk X.K C f)(F:yaK X.prog X.w X.K X.mg X.base CX k f fd ps sp)(j:yaA (k+1) X.A)(l:Binds X.K fd ps ds)(m:Vals dvs ds)
  (n:ybq CX X E) (I:Inv X D B H s) (r:Vals vs us)
  (h:∀x b,H x=AD->H b=AD->b≠x->sp (.ref x::(vs++dvs)) (upd (upd H b (.own x)) x (.ins C b [])) (λv o=>v=.non/\Q (.ref x) o) E):
  A1 (model X.prog X.w) X.A (call (.ref C) us) (EP X D B Q) X.xe s:=by
 have d:=h (s.heap.objs.size+1) s.heap.objs.size (I.hok.fresh (Dl _)) (I.hok.fresh (AU _)) (Ad (Hh _));have c:=Inv.made (C:=C) I;have g:Vals (V.ref (s.heap.objs.size+1)::(vs++dvs)) (Ag (s.heap.objs.size+1)::(us++ds)):=.cons rfl (r.append m);have p:(Ag (s.heap.objs.size+1)::us++ds).length=ps.length:=by have e:=g.length;rw[F.len _ _ _ _ d]at e;exact e.symm
 refine IZ (ziO (f:=f) I.kIn M.makes M.init (beq_iff_eq.mp M.fn) (Eb (F.run _ X.stack _ _ #[Ag (s.heap.objs.size+1)::us,[]] (Ag (s.heap.objs.size+1)::(us++ds)) _ _ E (j.make C us [])
  (c.env0.make C us []) (l _ (Ag (s.heap.objs.size+1)::us) c.kIn p) g d) λr q a=>?_))
 cases r with
 |error e=>exact n D B _ _ e q c a
 |ok fl=>
  cases fl with
  |ret u=>
   let#[v,t,w,y,ev,z]:=c.after a;subst ev;exact#[y,#[V.ref (s.heap.objs.size+1),t,w,rfl,z]]
  |next=>exact Bn a
  |brk=>exact Bn a
  |cont=>exact Bn a
def zkZ(M:Mk X.K C f)(F:yaK X.prog X.w X.K X.mg X.base CX k f fd ps sp)(d:yaA (k+1) X.A)(g:Gl X x)(j:X.mg x=AA (.ref C))(l:Binds X.K fd ps ds)(m:Vals dvs ds)(n:ybq CX X E)
  (o:PA X (e::es) t) (a:(x==("__debug__":AR))=false:=by decide) (u:starEach (e::es) X.env=(AC,eval e X.env)::starEach es X.env:=by rfl) (b:(backTo pos (starEach es X.env)).any (·.1)=false:=by rfl):
  PE X (.Call (.Name x p) (e::es) [] pos) (ydb C sp dvs E t):=by intro D s B H Q I h;refine Bf (zar I g j ?_ a);refine Eo (h₀:=X.base) I.ok.mod.kin M.kp (thn (o pos D s B H _ I h) λy z w=>?_) u b;let#[A,G,c,r,q]:=w;refine #[c.kIn,?_];exact zeG M F d l m n c r q
def zhF(M:Mk X.K C f)(F:yaK X.prog X.w X.K X.mg X.base CX k f fd ps sp)(b:yaA (k+1) X.A)(c:Gl X x)(d:X.mg x=AA (.ref C))(g:Binds X.K fd ps ds)(j:Vals dvs ds)(l:ybq CX X E)
  (a:(x==("__debug__":AR))=false:=by decide):PE X (.Call (.Name x p) [] [] pos) (ydb C sp dvs E ycR):=by intro D s B H Q I h;refine Bf (zar I c d ?_ a);exact E9 I.kIn M.kp (zeG (us:=[]) M F b g j l I .nil h)
end
def PK(X:Cx)(kws:List CU)(t:TA):Prop:=
 ∀(pos:CK) (C:List (AJ×Bw)) (s:AH) (B:St) (H:Hp) (Q:List V->Hp->Prop),Inv X C B H s->t B H Q->A1 (model X.prog X.w) X.A (evalAll ((backToKw pos (keywordEach kws X.env)).map (·.2))) (AP X C B Q) X.xe s
section
variable {X:Cx}{CX:CXT}{k:Nat}{f C:AJ}{fd:BF}{ps ks:List AR}{sp:Sp}{E:XK}{x m:AR}{p pos apos kpos:CK}{e o:AZ}{es:List AZ}{kws:List CU}{te ta:TE}{t tk:TA}{nm:Option AR}
def zo5:PK X [] ycR:=λ_ _ _ _ H Q I h=>wpAny_evalAll_nil #[[],H,I,.nil,h]
def zkt(a:PE X e te)(b:PK X kws t):PK X (#[nm,e,kpos] :: kws) (ycM te t):=by intro pos B s A H Q I h;show A1 _ _ (evalAll ((do let v <-eval e X.env;standAt pos;pure v)::(backToKw pos (keywordEach kws X.env)).map (·.2))) _ _ s;refine wpAny_evalAll_cons (AB (thn (a B s A H _ I h) λu c d=>?_));let#[x,f,g,j,l]:=d;refine AB (Da (AM ?_));exact thn (b pos B c A f _ g l) λr w #[m,n,o,p,q]=>#[x::m,n,o,.cons j p,q]
structure ybY(K:AF)(fd:BF)(ps ks:List AR)(g:List AG->List AG->List AG)(gV:List V->List V->List V):Prop where
 to:∀(s:AH) (us ws:List AG),K.In s.heap->(g us ws).length=ps.length->Fz s fd #[us,ks.zip ws] (ps.zip (g us ws))
 rel:∀{vs:List V} {us:List AG} {zs:List V} {ws:List AG},Vals vs us->Vals zs ws->Vals (gV vs zs) (g us ws)
variable {g:List AG->List AG->List AG}{gV:List V->List V->List V}
end
structure yaL(N P:List AR)(sc:B4):Prop where
 kind:sc.kind=.function
 co:sc.isCoroutine=AC
 gen:sc.isGenerator=AC
 nd:N.Nodup
 pre:N.take P.length=P
 par:∀x∈P,sc.names.lookup x=AA .local \/ sc.names.lookup x=AA .cell
 nofree:∀y∈sc.names,y.2 ≠ .free
def zcX{kindOf:AR->Option Du}{x:AR}:∀{binds:List (AR×AG)} {m:AR->Option AG},(∀v,(x,v)∉binds)->bindL kindOf binds m x=m x
 |[],_,_=>rfl
 |(n,v)::r,m,h=>by
  unfold bindL;rw[zcX λw a=>h w (AS _ a)];split
  .have:x≠n:=by rintro rfl;exact h v A2
   simp[this]
  .rfl
def zcZ{kindOf:AR->Option Du}{x:AR}:∀{binds:List (AR×AG)} {m:AR->Option AG},(∀v,(x,v)∉binds)->bindC kindOf binds m x=m x
 |[],_,_=>rfl
 |(n,v)::r,m,h=>by
  unfold bindC;rw[zcZ λw a=>h w (AS _ a)];split
  .rfl
  .have:x≠n:=by rintro rfl;exact h v A2
   simp[this]
def zcU{kindOf:AR->Option Du}{x:AR}{v:AG}:∀{P:List AR} {vs:List AG} {i:Nat} {m:AR->Option AG},P.Nodup->P[i]?=AA x->vs[i]?=AA v->kindOf x=AA .local ->
  bindL kindOf (P.zip vs) m x=AA v
 |[],_,_,_,_,h,_,_=>by simp at h
 |_::_,[],_,_,_,_,h,_=>by simp at h
 |p::P,w::vs,0,m,nd,a,b,c=>by simp at a b;subst a;subst b;show bindL kindOf ((p,w)::P.zip vs) m p=_;unfold bindL;rw[zcX λv d=>(E1.mp nd).1 (E2 d).1,if_pos c];simp
 |p::P,w::vs,i+1,m,nd,a,b,c=>by show bindL kindOf ((p,w)::P.zip vs) m x=_;unfold bindL;exact zcU (i:=i) (E1.mp nd).2 (by simpa using a) (by simpa using b) c
def zdd{kindOf:AR->Option Du}{x:AR}{v:AG}:∀{P:List AR} {vs:List AG} {i:Nat} {m:AR->Option AG},P.Nodup->P[i]?=AA x->vs[i]?=AA v->kindOf x≠AA .local ->
  bindC kindOf (P.zip vs) m x=AA v
 |[],_,_,_,_,h,_,_=>by simp at h
 |_::_,[],_,_,_,_,h,_=>by simp at h
 |p::P,w::vs,0,m,nd,a,b,c=>by simp at a b;subst a;subst b;show bindC kindOf ((p,w)::P.zip vs) m p=_;unfold bindC;rw[zcZ λv d=>(E1.mp nd).1 (E2 d).1,if_neg c];simp
 |p::P,w::vs,i+1,m,nd,a,b,c=>by show bindC kindOf ((p,w)::P.zip vs) m x=_;unfold bindC;exact zdd (i:=i) (E1.mp nd).2 (by simpa using a) (by simpa using b) c
def start(N:List AR)(vs:List V):St:=vs.map AA++AT (N.length-vs.length) AD
def yaU(CX:CXT)(P:A6)(w:Ah)(K:AF)(mg:AR->Option AG)(base:Au)(N:List AR)(b:AR)(a:B4)(f:AJ)(d:AG)(A:Ai)(outer:List Env)(s:AH)(H:Hp)(E:XK):Cx where
 prog:=P
 w:=w
 K:=K
 mg:=mg
 base:=base
 A:=A.deeper (envOfC b a s.heap.objs.size f d)
 N:=N
 s₀:=s
 H₀:=H
 env:=envOfC b a s.heap.objs.size f d
 outer:=outer
 stack:=envOfC b a s.heap.objs.size f d::outer
 ex:=[]
 calm:=AE
 fn:=λ_=>AE
 pn:=[]
 xe:=λe g=>A1 (model P w) (A.deeper (envOfC b a s.heap.objs.size f d)) («leaving» (envOfC b a s.heap.objs.size f d) e) (λ_ c=>CX outer H s E e c) (λj c=>CX outer H s E j c) g
def zem{sc:B4}{n:Nat}{x:AR}(h:sc.names.lookup x=AA .cell):∃c,(cellsFrom n sc.names []).lookup x=AA c:=by have q:=Dv sc.names n [] (.inl h);exact Al.mp q
def zcz{CX:CXT}{P:A6}{w:Ah}{K:AF}{J:AR->Option AG}{base:Au}{N m:List AR}{g:AR}{d:B4}{f:AJ}{D:AG}{A:Ai}{outer:List Env}{s L:AH}{H:Hp}{E:XK}{us:List AG}{vs:List V}
  (S:yaL N m d) (Q:A.handled=AD) (l:yco P w K J base A outer s H) (Z:vs.length=m.length) (r:Vals vs us)
  (x:InCallC s s.heap.objs.size (bindL (envOfC g d s.heap.objs.size f D).kindOf (m.zip us) λ_=>AD) (cellsFrom (s.heap.objs.size+1) d.names []) (bindC (envOfC g d s.heap.objs.size f D).kindOf (m.zip us) λ_=>AD) L):
  Inv (yaU CX P w K J base N g d f D A outer s H E) [] (start N vs) H L:=by
 have U:m.length<=N.length:=by have:=congrArg Co S.pre;rw[Cy]at this;lia
 let#[G,tk,rfl,M]:=x.done;have o:∀b:AJ,b∉(yaU CX P w K J base N g d f D A outer s H E).ex:=λb z=>absurd (show b∈([]:List AJ)from z) (by simp);refine#[#[l.mod,S.kind,rfl,rfl,AU _,λy z c G j=>?_,λy t=>?_,λy c _ h=>?_,λ_=>Q,Around.frames_deeper l.frames,.inr #[rfl,rfl],λb z=>absurd z (o b),l.bs,l.bsz,λb _ _=>o b,λb z=>absurd z (o b),l.funs,l.frf],
  rfl,l.bare,Un.kept M,#[_,x.toInCall.ns,λi y v G j h3=>?_],λy c h=>#[_,x.cell y c h],l.hok.fresh (AU _),λy c h=>?_,λp B=>absurd (show p∈([]:List (AJ×Bw))from B) (by simp),l.hok.kept M,?_]
 .exact name_of_addr x.apart (Cv G) (Cv j)
 .have t:d.names.lookup y=AA .cell \/ d.names.lookup y=AA .free:=t;rcases t with t|t
  .exact zem t
  .exact absurd rfl (S.nofree _ (Cv t))
 .exact Fx (x.above y c (Cv h))
 .have I:i<vs.length:=by
   unfold start at j
   by_cases I:i<vs.length
   .exact I
   .rw[Ay (by simpa using I)]at j;rw[Fb]at j;split at j<;>cases j
  have X:vs[i]?=AA v:=by
   unfold start at j;rw[A7 (by simpa using I),BG]at j
   cases e:vs[i]? with
   |none=>rw[e]at j;cases j
   |some a=>rw[e]at j;cases j;rfl
  let#[u,O,Y]:=r.get X;have B:m[i]?=AA y:=by rw[<-S.pre,List.getElem?_take_of_lt ()];exact G
  have C:m.Nodup:=by rw[<-S.pre];exact S.nd.sublist (List.take_sublist _ _)
  refine#[u,Y,?_];rcases S.par y (A9 B)with k|k
  .exact .inl #[k,zcU C B O k]
  .let#[c,e]:=zem (n:=s.heap.objs.size+1) k;refine .inr #[.inl k,c,e,?_];have q:=x.cell y c e;rw[zdd C B O (by show d.names.lookup y≠_;rw[k];decide)]at q;exact q
 .exact l.hok.fresh (Fx (x.above y c (Cv h)))
 .unfold start;show _=N.length;rw[Bg,Ae,List.length_replicate];lia
def zn2{CX:CXT}{P:A6}{w:Ah}{K:AF}{D:AR->Option AG}{base:Au}{k:Nat}{f:AJ}{name c:AR}{d:Arguments}{g:List CL}{a:B4}{dV kV doc pm cdv ct oc:AG}{an od:Option AJ}
  {M:Array (Option AG)} {N G:List AR} {sp:Sp} (lk:K.lookup f=AA #[oc,od,.func (CD name c d g a dV kV doc pm an cdv ct),M]) (O:Cb K cdv c=AE) (S:yaL N G a)
  (len:∀vs H Q E,sp vs H Q E->vs.length=G.length)
  (l:∀(A:Ai) (outer:List Env) (s:AH) (H:Hp) (vs:List V) (Q:VK) (E:XK),yaA k (A.deeper (envOfC c a s.heap.objs.size f cdv))->sp vs H Q E ->
   ∃t,PSs (yaU CX P w K D base N c a f cdv A outer s H E) g t/\t {nx:=λ_ j=>Q .non j,rt:=Q} (start N vs) H):
  yaK P w K D base CX (k+1) f (CD name c d g a dV kV doc pm an cdv ct) G sp:=by
 refine#[len,λA outer s H args us vs Q E U z hb r B=>?_];have hl:=len _ _ _ _ B;have KX:K.In s.heap:=z.mod.kin.keeps λb o e=>(z.bs b o e).1;have X:s.heap.NoLimit:=z.mod.nolimit.keeps λb o e=>(z.bs b o e).1;have m:∀y∈G.zip us,a.names.lookup y.1=AA .local \/ (a.names.lookup y.1=AA .cell/\((cellsFrom (s.heap.objs.size+1) a.names []).lookup y.1).isSome=AE):=λ#[n,v] hy=>by
  rcases S.par n (E2 hy).1 with q|q
  .exact .inl q
  .exact .inr #[q,Dv _ _ _ (.inl q)]
 refine GR U.depth (KX _ _ lk) rfl S.co S.gen rfl (HF KX O) (hb _ _ _ _ ?_);refine Ep S.kind m λenv he s1 x=>?_;subst he;refine#[X.keeps x.toInCall.keep,codeAny_func ?_];let#[t,ht,hq]:=l A outer s H vs Q E (U.deeper _) B;have I:Inv (yaU CX P w K D base N c a f cdv A outer s H E) [] (start N vs) H s1:=zcz S U.hd z hl r x;refine CC (ht [] s1 (start N vs) H _ I hq) (λfl Y p=>?_) λe Y p=>p;have C:∀{L:St} {j:Hp} {v:V} {u:AG},Inv (yaU CX P w K D base N c a f cdv A outer s H E) [] L j Y->RelV v u->Q v j->CE outer P w H s Q u Y:=
  λ{L j v u} J Z q=>#[v,j,J.os,J.bare,J.base,J.hok,Z,q]
 cases fl with
 |ret u=>
  let#[v,L,j,J,Z,q]:=p;exact C J Z q
 |next=>
  let#[L,j,J,q]:=p;exact C (v:=V.non) (u:=BJ) J rfl q
 |brk=>
  let#[_,_,_,q]:=p;exact Bn q
 |cont=>
  let#[_,_,_,q]:=p;exact Bn q
section
variable {X:Cx}{x:AR}{p pos:CK}{e:AZ}{es:List AZ}{t:TA}{id T:String}{r:List V->Hp->VK->Prop}
def tCB(r:List V->Hp->VK->Prop)(t:TA):TE:=λA H Q=>t A H λa b=>r a b Q
def zb5(c:yam X (.builtin id) r)(d:Gl X x)(f:X.mg x=AD)(g:bootBuiltins x=AA (.builtin id))(j:PA X (e::es) t)(l:x ≠ "__name__":=by decide)(a:(x==("__debug__":AR))=false:=by decide)
  (m:starEach (e::es) X.env=(AC,eval e X.env)::starEach es X.env:=by rfl) (b:(backTo pos (starEach es X.env)).any (·.1)=false:=by rfl):PE X (.Call (.Name x p) (e::es) [] pos) (tCB r t):=by intro B s A H Q I h;refine Bf (zaz I d f g ?_ l a);exact Hi (thn (j pos B s A H _ I h) λn o #[q,u,w,y,z]=>c B o A u q n Q w y z) m b
def zcG(c:yam X (.type T) r)(d:Gl X x)(f:X.mg x=AD)(g:bootBuiltins x=AA (.type T))(j:PA X (e::es) t)(l:x ≠ "__name__":=by decide)(a:(x==("__debug__":AR))=false:=by decide)
  (m:starEach (e::es) X.env=(AC,eval e X.env)::starEach es X.env:=by rfl) (b:(backTo pos (starEach es X.env)).any (·.1)=false:=by rfl):PE X (.Call (.Name x p) (e::es) [] pos) (tCB r t):=by intro B s A H Q I h;refine Bf (zaz I d f g ?_ l a);exact BV (thn (j pos B s A H _ I h) λn o #[q,u,w,y,z]=>c B o A u q n Q w y z) m b
end
end L2
namespace HT
open PySem PyProof.Rows
section
open PySem.SeqAt
open PySem.AutoSeq1 (wpAny_loadPart')
open PySem.MeetsSeq PySem.MeetsSeq2 PySem.MeetsSeq3
end
section
variable {prog:A6}{w:Ah}{A:Ai}{E:AG->AH->Prop}{s:AH}
theorem cat_tup{t b:AJ}{vs ws:List AG}{Q:AG->AH->Prop}(z:G1 s.heap t vs.toArray)(B:G1 s.heap b ws.toArray)(o:vs≠[])
  (C:ws=[]->Q (.ref t) s) (D:ws≠[]->Q (.ref s.heap.objs.size) {s with heap:=s.heap.push {cls:=.type "tuple",data:=.seq (vs++ws).toArray} })
  (m:vs.length+ws.length<=sizeLine):A1 (model prog w) A (binaryOp .Add (.ref t) (.ref b)) Q E s:=by
 let#[#[cls,p,data,q],j,r,n,u]:=id z;let#[#[x,c,data2,d],a,f,y,g]:=id B;simp only at r u f g;subst r u f g;have e:vs.toArray++ws.toArray=(vs++ws).toArray:=by simp
 by_cases l:ws=[]
 .exact HQ #[_,j,rfl] #[_,a,rfl] Fc Gv Dw Dm (Db _ _)
   (tuple_addW1 t b vs.toArray ws.toArray n y p c q d (by simpa using o) (by simp[l])) #[j,a,C l]
 .refine HQ #[_,j,rfl] #[_,a,rfl] Fc Gv Dw Dm (Db _ _)
   (tuple_addW2 t b vs.toArray ws.toArray n y p c q d (by simpa using o) (by simpa using l) (by rw[AX,AX];exact m)) #[j,a,?_]
  rw[e];exact D l
def sIx(n d:Nat):Option Int->Nat
 |none=>d
 |some v=>if v<0 then(v+(n:Int)).toNat else min v.toNat n
theorem sIx_le(n d:Nat)(b:d<=n)(o:Option Int):sIx n d o<=n:=by
 cases o with
 |none=>exact b
 |some v=>
  show (if v<0 then(v+(n:Int)).toNat else min v.toNat n)<=n
  by_cases a:v<0
  .rw[if_pos a];lia
  .rw[if_neg a];exact Nat.min_le_right _ _
def zgY(v:Int)(n d:Nat):(if v<0 then max (v+(n:Int)) 0 else min v (n:Int))=((sIx n d (AA v):Nat):Int):=by
 show (if v<0 then max (v+(n:Int)) 0 else min v (n:Int))=(((if v<0 then(v+(n:Int)).toNat else min v.toNat n):Nat):Int)
 by_cases a:v<0
 .simp only[if_pos a];lia
 .simp only[if_neg a];lia
def ze8(lo a:Option Int)(n:Nat):D6 lo a 1 (n:Int)=(((sIx n 0 lo:Nat):Int),((sIx n n a:Nat):Int)):=by
 have b:¬((1:Int)<0):=by lia
 unfold D6;erw[b,if_false];refine Prod.ext ?_ ?_
 .cases lo with
  |none=>rfl
  |some v=>exact zgY v n 0
 .cases a with
  |none=>rfl
  |some v=>exact zgY v n n
def zeS(i j:Nat):B1 (i:Int) (j:Int) 1=j-i:=by
 unfold B1;have a:(1:Int) > 0:=by lia
 erw[a,if_true,HR];split<;>lia
def zbF{v:AG}{o:Option Int}{Q:Option Int->AH->Prop}(p:GA v o)(h:Q o s):A1 (model prog w) A (ID v) Q E s:=by
 cases p with
 |none=>exact Es h
 |int i t=>exact slicePart_int h
theorem sliceApplied_gen{sl:AJ}{d f:AG}{lo a:Option Int}{n:Nat}{Q:Int×Int×Nat->AH->Prop}(g:s.heap.IsSliceOf sl d f .none)(pl:GA d lo)(j:GA f a)
  (h:Q (((sIx n 0 lo:Nat):Int),1,sIx n n a-sIx n 0 lo) s):A1 (model prog w) A (Cc (.ref sl) (pure (n:Int))) Q E s:=by let#[os,b,l,c]:=id g;unfold Cc FL;refine AB (AB (Aq b c (x:=d) rfl (AB (Aq b c (x:=f) rfl (AB (Aq b c (x:=.none) rfl (AM ?_)))))));refine AB (Es ?_);show A1 _ _ (if ((1:Int)==0)=AE then _ else _) _ _ s;rw[if_neg ⋯];refine AB (zbF pl (AB (zbF j (AB (AM ?_)))));show A1 _ _ (match D6 lo a 1 (n:Int)with|(lo,a)=>pure (lo,(1:Int),B1 lo a 1)) _ _ s;rw[ze8 lo a n];show A1 _ _ (pure (((sIx n 0 lo:Nat):Int),(1:Int),B1 ((sIx n 0 lo:Nat):Int) ((sIx n n a:Nat):Int) 1)) _ _ s;rw[zeS];exact AM h
def zhy(xs:Array AG)(i k:Nat):((DR k).filterMap λ(m:Nat)=>xs[((i:Int)+(m:Int)*1).toNat]?).toArray=((xs.toList.drop i).take k).toArray:=by
 have e:(λ(m:Nat)=>xs[((i:Int)+(m:Int)*1).toNat]?)=λm=>xs[i+m]?:=by
  funext m
  have:((i:Int)+(m:Int)*1).toNat=i+m:=by lia
  rw[this]
 rw[e];have:=pick_run xs i k;rw[List.filterMap_map]at this;have a:((λx=>xs[x]?) ∘ λx=>i+x)=λm=>xs[i+m]?:=rfl;rw[a]at this;rw[this]
theorem getItem_tuple_cut{t sl:AJ}{items:Array AG}{l n:AG}{lo b:Option Int}{Q:AG->AH->Prop}(c:G1 s.heap t items)(o:s.heap.IsSliceOf sl l n .none)(pl:GA l lo)(p:GA n b)
  (r:¬(sIx items.size 0 lo=0/\sIx items.size items.size b=items.size))
  (h:Q (.ref s.heap.objs.size) {s with heap:=s.heap.push {cls:=.type "tuple",data:=.seq ((items.toList.drop (sIx items.size 0 lo)).take (sIx items.size items.size b-sIx items.size 0 lo)).toArray} })
  (u:items.size<=sizeLine):A1 (model prog w) A (getItem (.ref t) (.ref sl)) Q E s:=by
 have a:sizeOk (.seq ((items.toList.drop (sIx items.size 0 lo)).take (sIx items.size items.size b-sIx items.size 0 lo)).toArray):=by show ((items.toList.drop (sIx items.size 0 lo)).take (sIx items.size items.size b-sIx items.size 0 lo)).toArray.size<=sizeLine;rw[AX,Cy,D0,BX];lia
 have y:sIx items.size items.size b<=items.size:=sIx_le _ _ (AU _) b;let#[os,d,f,x]:=id o;have g:s.TypeIs (.ref sl) "slice":=#[os,d,f];unfold getItem
 try with_reducible refine Bk ?_
 first|refine AB (AM ?_)|skip
 refine AB (FR c.typeIs ⋯ ?_);refine AB (BO (name:=AI "__getitem__") c.typeIs An
  (BY An c.typeIs Ea ?_ (Et _ _)))
 show A1 _ _ (C9 (.ref t) >>= _) _ _ s;refine AB (Ci c ?_);refine AB (GB g ?_);rw[if_pos ⋯];refine AB (sliceApplied_gen o pl p ?_);have j:¬((((sIx items.size 0 lo:Nat):Int)==0&&(1:Int)==1&&(sIx items.size items.size b-sIx items.size 0 lo)==items.size)=AE):=by intro q;rw[AK,AK]at q;have z:((sIx items.size 0 lo:Nat):Int)=0:=eq_of_beq q.1.1;have B:sIx items.size items.size b-sIx items.size 0 lo=items.size:=eq_of_beq q.2;exact r #[by lia,by lia]
 show A1 _ _ (if (((sIx items.size 0 lo:Nat):Int)==0&&(1:Int)==1&&(sIx items.size items.size b-sIx items.size 0 lo)==items.size)=AE then _ else _) _ _ s;rw[if_neg j,zhy]
 first
  |exact AB (m:=BE _) (Am (AM #[_,rfl,AM h]) a)
  |exact AB (m:=BE _) (Am (AB (AM (AM #[_,rfl,AM h]))) a)
  |exact AB (AB (m:=BE _) (Am (AM (AM #[_,rfl,AM h])) a))
  |exact AB (AB (m:=BE _) (Am (AM #[_,rfl,AM h]) a))
end
end HT
namespace L2
open PySem PySem.Spec PyProof.Rows
abbrev TO:=St->Hp->(Option Int->Hp->Prop)->Prop
def PO(X:Cx)(e:Option AZ)(t:TO):Prop:=
 ∀(C:List (AJ×Bw)) (s:AH) (B:St) (H:Hp) (Q:Option Int->Hp->Prop),Inv X C B H s->t B H Q ->
  A1 (model X.prog X.w) X.A (evalPart e X.env) (λu b=>∃o a,Inv X C B a b/\GA u o/\Q o a) X.xe s
def ycS:TO:=λ_ H Q=>Q AD H
def zeQ{a:List Int}:∀{us:List AG},Vals (a.map V.int) us->Gi us a:=by
 induction a with
 |nil=>intro us r;rw[Az]at r;cases r;exact .nil
 |cons n a ih=>
  intro us r;rw[AV]at r
  cases r with
  |cons b c=>
   let#[t,e]:=b;subst e;exact .cons n t (ih c)
section
variable {X:Cx}{e:AZ}{te:TE}{lo hi:Option AZ}{tl th:TO}{pos p2:CK}
def zkk:PO X AD ycS:=by intro C s B H Q I h;rw[Gw];exact AM #[AD,H,I,.none,h]
def SlR(X:Cx)(r:V->Option Int->Option Int->Hp->VK->Prop):Prop:=
 ∀(C:List (AJ×Bw)) (s:AH) (B:St) (H:Hp) (x:V) (v a b:AG) (lo hi:Option Int) (c:AJ) (Q:VK),Inv X C B H s->RelV x v->s.heap.IsSliceOf c a b .none->GA a lo->GA b hi->r x lo hi H Q ->
  ∃T id,typeLookup (.type T) "__getitem__"=pure (AA (.builtin id))/\s.TypeIs v T/\A1 (model X.prog X.w) X.A (getItem v (.ref c)) (EP X C B Q) X.xe s
def tSl(r:V->Option Int->Option Int->Hp->VK->Prop)(te:TE)(tl th:TO):TE:=λB H Q=>te B H λx a=>tl B a λl b=>th B b λu c=>r x l u c Q
def ziT{r:V->Option Int->Option Int->Hp->VK->Prop}(j:SlR X r)(m:PE X e te)(n:PO X lo tl)(o:PO X hi th):PE X (.Subscript e (.Slice lo hi AD p2) pos) (tSl r te tl th):=by intro C s B H Q I h;refine HG (thn (m C s B H _ I h) λv p c=>?_);let#[x,t,w,y,z]:=c;refine wpAny_Slice (thn (n C p B t _ w z) λd A c=>?_);let#[l,D,E,G,J]:=c;refine thn (o C A B D _ E J) λf a c=>?_;let#[u,g,L,M,N]:=c;rw[Gw];refine AM ?_;have O:Inv X C B g {a with heap:=a.heap.push {cls:=.type "slice",data:=.fields (List.toArray [d,f,.none])} }:=L.kept (t':=a.toks) λb ob q=>AL _ q;let#[T,id,U,Y,Z]:=j C {a with heap:=a.heap.push {cls:=.type "slice",data:=.fields (List.toArray [d,f,.none])} } B g x v d f l u a.heap.objs.size Q O y (Eu ..) G M N;show A1 (model X.prog X.w) X.A (subscriptTail e (.Slice lo hi AD p2) v (.ref a.heap.objs.size)) (EP X C B Q) X.xe {a with heap:=a.heap.push {cls:=.type "slice",data:=.fields (List.toArray [d,f,.none])} };exact Ia (ops:=[.ref a.heap.objs.size,v]) Y U Z (by with_unfolding_all rfl)
def ycx(xs:List V)(lo hi:Option Int):List V:=(xs.drop (HT.sIx xs.length 0 lo)).take (HT.sIx xs.length xs.length hi-HT.sIx xs.length 0 lo)
def zbi(xs:List V)(lo hi:Option Int):(ycx xs lo hi).length<=xs.length:=by unfold ycx;rw[Cy,D0];lia
def ygS(K:AF):V->Option Int->Option Int->Hp->VK->Prop:=λx lo hi H Q=>∃a b,x=.ref a/\SqT K H a b /\
 ¬(HT.sIx b.length 0 lo=0/\HT.sIx b.length b.length hi=b.length)/\∀p,H p=AD->Q (.ref p) (upd H p (.tup (ycx b lo hi)))
def zlp:SlR X (ygS X.K):=by
 intro C s B H x v w y lo hi z Q I l m n p h;let#[a,d,rfl,t,u,q]:=h
 cases l
 let#[f,r,g,j]:=I.tuple t;have c:f.toArray.size=d.length:=by rw[AX];exact r.length.symm
 refine#["tuple",_,An.lookup,g.typeIs,?_];refine HT.getItem_tuple_cut g m n p (by rw[c];exact u) ?_ (by rw[c];exact j);rw[c];refine#[.ref s.heap.objs.size,_,I.laid (t':=s.toks) (o:=.tup (ycx d lo hi)) (λb A q=>AL _ q) (AU _) ?_,rfl,q _ (I.hok.fresh (AU _))];exact#[Bl (zbi d lo hi) j,_,(r.drop (HT.sIx d.length 0 lo)).take (HT.sIx d.length d.length hi-HT.sIx d.length 0 lo),AQ _ rfl]
def yeE(K:AF):R2:=λx y H Q=>∃a b d c,x=.ref a/\y=.ref b/\SqT K H a d/\SqT K H b c/\d≠[]/\d.length+c.length<=sizeLine /\
 (c=[]->Q (.ref a) H)/\(c≠[]->∀p,H p=AD->Q (.ref p) (upd H p (.tup (d++c))))
theorem Vals.nil_iff{xs:List V}{us:List AG}(r:Vals xs us):us=[] ↔ xs=[]:=by
 cases r with
 |nil=>simp
 |cons _ _=>simp
def zk2:OpR X (binaryOp .Add) (yeE X.K):=by
 intro C s B H x y v u Q I j l h;let#[a,b,m,n,rfl,rfl,p,r,t,f,A,D]:=h
 cases j
 cases l
 let#[E,d,G,_]:=I.tuple p;let#[g,c,p2,_]:=I.tuple r;refine HT.cat_tup G p2 (λz=>t (d.nil_iff.mp z)) (λz=>#[.ref a,H,I,rfl,A (c.nil_iff.mp z)]) (λz=>?_) (by rw[<-d.length,<-c.length];exact f);refine#[.ref s.heap.objs.size,_,I.laid (t':=s.toks) (o:=.tup (m++n)) (λb J q=>AL _ q) (AU _) ?_,rfl,D (λw=>z (c.nil_iff.mpr w)) _ (I.hok.fresh (AU _))];exact#[by rw[Bg];exact f,_,d.append c,AQ _ rfl]
end
def ixN(n:Nat)(i:Int):Option Nat:=if 0<=i then(if i<n then AA i.toNat else AD)else if -(n:Int)<=i then AA (i+n).toNat else AD
def atI{A:Type}(xs:List A)(i:Int):Option A:=(ixN xs.length i).bind λj=>xs[j]?
def zgF{n:Nat}{i:Int}{j:Nat}(h:ixN n i=AA j):seqIndex? i n=AA j/\j<n/\-(n:Int)<=i/\i<n:=by
 unfold ixN at h
 by_cases b:0<=i
 .rw[if_pos b]at h
  by_cases a:i<n
  .rw[if_pos a]at h;have e:i.toNat=j:=Aa h;exact#[by rw[Hx b a,e],by lia,by lia,a]
  .rw[if_neg a]at h;cases h
 .rw[if_neg b]at h
  by_cases a:-(n:Int)<=i
  .rw[if_pos a]at h;have e:(i+n).toNat=j:=Aa h;exact#[by rw[seqIndex_neg () a,e],by lia,a,by lia]
  .rw[if_neg a]at h;cases h
def zdJ{A:Type}{xs:List A}{i:Int}{v:A}(h:atI xs i=AA v):∃j,seqIndex? i xs.length=AA j/\xs[j]?=AA v/\j<xs.length/\-(xs.length:Int)<=i/\i<xs.length:=by
 unfold atI at h
 cases e:ixN xs.length i with
 |none=>rw[e]at h;cases h
 |some j=>
  rw[e]at h;let#[a,b,c,d]:=zgF e;exact#[j,a,h,b,c,d]
def ybx(b:AZ):Prop:=∀o i,subscripted b AC o i=operate [o,i] (getItem o i)
def IxR(X:Cx)(r:R2):Prop:=
 ∀(b a:AZ) (C:List (AJ×Bw)) (s:AH) (B:St) (H:Hp) (x y:V) (v u:AG) (Q:VK),Inv X C B H s->RelV x v->RelV y u->r x y H Q ->
  subscripted a AC v u=operate [v,u] (getItem v u)->A1 (model X.prog X.w) X.A (subscriptTail b a v u) (EP X C B Q) X.xe s
def MtR(X:Cx)(id:String)(r:V->List V->Hp->VK->Prop):Prop:=
 ∀(C:List (AJ×Bw)) (s:AH) (B:St) (H:Hp) (x:V) (a:List V) (v:AG) (b:List AG) (Q:VK),Inv X C B H s->RelV x v->Vals a b->r x a H Q ->
  A1 (model X.prog X.w) X.A (call (.builtin id) (v::b)) (EP X C B Q) X.xe s
section
variable {X:Cx}{a b:AZ}{ta tb:TE}{pos:CK}
theorem IxR.or{r c:R2}(h:IxR X r)(h':IxR X c):IxR X (λx y H Q=>r x y H Q \/ c x y H Q):=by
 intro a b C s B H x y v u Q I d f q g;rcases q with q|q
 .exact h a b C s B H x y v u Q I d f q g
 .exact h' a b C s B H x y v u Q I d f q g
def zof{r:R2}(c:IxR X r)(d:PE X a ta)(f:PE X b tb)(g:ybx b):PE X (.Subscript a b pos) (tOp r ta tb):=by intro C s B H Q I h;exact HG (zoM d f I h λv u j x y l m n o q=>c a b C j B l x y v u Q m n o q (g _ _))
def yfa(K:AF):R2:=λx y H Q=>∃p a i v,x=.ref p/\y=.int i/\SqL K H p a/\atI a i=AA v/\Q v H
def yfD(K:AF):R2:=λx y H Q=>∃p a i v,x=.ref p/\y=.int i/\SqT K H p a/\atI a i=AA v/\Q v H
def yfm:R2:=λx y H Q=>∃z i c,x=.str z/\y=.int i/\z.length<=sizeLine/\atI z.cps.toList i=AA c/\Q (.str #[(List.toArray [c])]) H
def zo6:IxR X (yfa X.K):=by
 intro c d C s B H x y v u Q I D E h n;let#[p,Y,i,z,rfl,rfl,G,J,q]:=h
 cases D
 let#[t,rfl]:=E;let#[f,r,g,Z]:=I.list G;let#[j,b,L,h3,M,N]:=zdJ J;let#[w,o,l]:=r.get L;have O:=r.length;have hn:=zoG;have a:EP X C B Q w s:=#[z,H,I,l,q]
 by_cases A:0<=i
 .have m:i.toNat=j:=by rw[Hx A N]at b;exact Aa b
  exact item_listR g.isList A () (by rw[m];simpa using o) a n
 .have m:(i+(f.toArray.size:Int)).toNat=j:=by rw[seqIndex_neg () M]at b;rw[AX,<-O];exact Aa b
  exact GE (x:=w) g.isList.typeIs FT.lookup
   (wpAny_getItem_list_neg (Q:=λr U=>r=w/\EP X C B Q r U) g.isList () (by rw[AX]<;>lia) () (by rw[m];simpa using o) #[rfl,a]) n
def zo7:IxR X (yfD X.K):=by
 intro a b C s B H x y v u Q I g l h m;let#[p,M,i,z,rfl,rfl,n,o,q]:=h
 cases g
 let#[t,rfl]:=l;let#[A,r,f,N]:=I.tuple n;let#[j,D,E,O,U,Y]:=zdJ o;let#[w,G,c]:=r.get E;have J:=r.length;have Z:=zoG;have d:EP X C B Q w s:=#[z,H,I,c,q];exact GE (x:=w) f.typeIs An.lookup
  (Gj (j:=j) (Q:=λr L=>r=w/\EP X C B Q r L) f () () (by rw[AX,<-J];exact D) (by simpa using G) #[rfl,d]) m
def znT:IxR X yfm:=by
 intro a b C s B H x y v u Q I f g h l;let#[z,i,c,rfl,rfl,D,m,q]:=h;let#[t,rfl]:=f;let#[E,rfl]:=g;let#[j,d,n,G,o,p]:=zdJ m;have r:z.cps.toList.length=z.length:=by simp[BC]
 rw[r]at d o p;have J:=zoG;exact Ia (Ew s z t) slot_str_getitem.lookup (getItem_str (c:=c) (by have w:decide (i < -(2^63:Int))=false:=decide_eq_false ();have A:decide (i ≥ 2^63)=false:=decide_eq_false ();rw[w,A,Iq]) (by rw[d];simpa using n) #[.str #[(List.toArray [c])],H,I.tok _,#[_,rfl],q]) l
def rIx(K:AF):R2:=λx y H Q=>yfa K x y H Q \/ yfD K x y H Q \/ yfm x y H Q
def zeE:IxR X (rIx X.K):=zo6.or (zo7.or znT)
def ze6(a:List AG)(n j:Nat)(u:AG):CY (·.setIfInBounds j u) {cls:=.type "list",data:=.seq a.toArray n}={cls:=.type "list",data:=.seq (a.set j u).toArray n}:=by simp[CY]
theorem Inv.lst{C:List (AJ×Bw)}{B:St}{H:Hp}{s:AH}{p:AJ}{xs:List V}(I:Inv X C B H s)(h:H p=AA (.lst xs)):
  ∃(a:List AG) (n:Nat),Vals xs a/\s.heap.get? p=AA {cls:=.type "list",data:=.seq a.toArray n}/\xs.length<=sizeLine:=by let#[z,a,n,r,e]:=I.hok p _ h;exact#[a,n,r,e,z]
theorem Inv.lstUpd{C:List (AJ×Bw)}{B:St}{H:Hp}{s:AH}{p:AJ}{xs ys:List V}{a its':List AG}{n c:Nat}{f:Bw->Bw}(I:Inv X C B H s)(h:H p=AA (.lst xs))
  (d:s.heap.get? p=AA {cls:=.type "list",data:=.seq a.toArray n}) (hf:f {cls:=.type "list",data:=.seq a.toArray n}={cls:=.type "list",data:=.seq its'.toArray c}) (r:Vals ys its') (g:ys.length<=sizeLine) (t:Nat):
  Inv X C B (upd H p (.lst ys)) {s with heap:=s.heap.update p f,toks:=t}:=by
 have e:(s.heap.update p f).get? p=AA {cls:=.type "list",data:=.seq its'.toArray c}:=by rw[DL f d (by rw[hf]<;>rfl),hf]
 refine I.write (x:=p) (e:=p) (by rw[h];trivial) (.inl rfl) (λb u j q=>(Dx _ _ (BR j)).trans q) #[_,e] ?_;exact#[g,its',c,r,e]
def ydF:V->V->V->Hp->(Hp->Prop)->Prop:=λo i v H Q=>∃p a k j,o=.ref p/\i=.int k/\H p=AA (.lst a)/\ixN a.length k=AA j/\Q (upd H p (.lst (a.set j v)))
def zdW:yfl X ydF:=by
 intro C s B H o i v J L u Q I y z A h;let#[p,D,k,j,rfl,rfl,g,E,q]:=h
 cases y
 let#[t,rfl]:=z;let#[a,n,r,c,G]:=I.lst g;let#[b,M,l,m]:=zgF E;have d:=r.length;have N:=zoG;have w:Inv X C B (upd H p (.lst (D.set j v))) {s with heap:=s.heap.update p (CY (·.setIfInBounds j u))}:=
  I.lstUpd g c (ze6 a n j u) (r.set A j) (by rw[BD];exact G) s.toks
 by_cases x:0<=k
 .have f:k.toNat=j:=by rw[Hx x m]at b;exact Aa b
  exact PySem.W.ki_setAt c x () (by rw[AX,<-d];exact m) (by rw[f];exact#[_,w,q])
 .have f:(k+(a.toArray.size:Int)).toNat=j:=by rw[seqIndex_neg () l]at b;rw[AX,<-d];exact Aa b
  exact PySem.W.ki_setBack c () (by rw[AX,<-d];exact l) () (by rw[f];exact#[_,w,q])
def zcT(lo a:Option Int)(n:Nat):(sliceBounds lo a AD n).1=((HT.sIx n 0 lo:Nat):Int)/\(sliceBounds lo a AD n).2.1=((HT.sIx n n a:Nat):Int)/\(sliceBounds lo a AD n).2.2=1:=by
 refine#[?_,?_,rfl]
 .cases lo with
  |none=>simp[sliceBounds,HT.sIx]
  |some i=>
   erw[sliceBounds,HT.sIx,EM,show (1:Int) > 0 by decide,if_true]
   by_cases h:i<0
   .simp only[h,if_true]<;>lia
   .simp only[h,if_false]<;>lia
 .cases a with
  |none=>simp[sliceBounds,HT.sIx]
  |some i=>
   erw[sliceBounds,HT.sIx,EM,show (1:Int) > 0 by decide,if_true]
   by_cases h:i<0
   .simp only[h,if_true]<;>lia
   .simp only[h,if_false]<;>lia
def zcj(a:List AG)(lo b:Option Int):slicePick a.toArray lo b AD=((a.drop (HT.sIx a.length 0 lo)).take (HT.sIx a.length a.length b-HT.sIx a.length 0 lo)).toArray:=by let#[c,d,f]:=zcT lo b a.toArray.size;unfold slicePick;rw[c,d,f];erw[sliceRange_one,pick_run,AX]<;>rfl
def ygj(K:AF):V->Option Int->Option Int->Hp->VK->Prop:=λx lo c H Q=>∃a b,x=.ref a/\SqL K H a b/\∀p,H p=AD->Q (.ref p) (upd H p (.lst (ycx b lo c)))
def zfC:SlR X (ygj X.K):=by
 intro C s B H x v w y lo f z Q I j l m n h;let#[a,c,rfl,p,q]:=h
 cases j
 let#[t,r,g,u]:=I.list p;have d:=r.length;refine#["list",_,FT.lookup,g.isList.typeIs,?_];refine F1 g.isList l m n .none (by simp) ?_ (by rw[AX]<;>lia);rw[zcj,<-d];refine#[.ref s.heap.objs.size,_,I.laid (t':=s.toks) (o:=.lst (ycx c lo f)) (λb A q=>AL _ q) (AU _) ?_,rfl,q _ (I.hok.fresh (AU _))];exact#[Bl (zbi c lo f) u,_,0,(r.drop (HT.sIx c.length 0 lo)).take (HT.sIx c.length c.length f-HT.sIx c.length 0 lo),AQ _ rfl]
def ya1:V->Bool
 |.non=>AE
 |.bl _=>AE
 |.int _=>AE
 |.str _=>AE
 |_=>AC
def eqV:V->V->Bool
 |.non,.non=>AE
 |.bl a,.bl b=>a==b
 |.bl a,.int b=>(if a then 1 else 0)==b
 |.int a,.bl b=>a==(if b then 1 else 0)
 |.int a,.int b=>a==b
 |.str a,.str b=>a==b
 |_,_=>AC
def zmq{A:Ai}{s:AH}{y x:V}{u v:AG}(f:RelV y u)(c:RelV x v)(j:ya1 y=AE)(g:ya1 x=AE):Ib A s u v (eqV y x):=by
 cases y with
 |non=>
  cases f
  cases x with
  |non=>cases c;exact SeqAt.EqAt.same _
  |bl b=>cases c;exact SeqAt.EqAt.none_bool b
  |int b=>let#[t,rfl]:=c;exact SeqAt.EqAt.none_int b t
  |str b=>let#[t,rfl]:=c;exact SeqAt.EqAt.none_str b t
  |_=>exact absurd (show AC=AE from g) A3
 |bl a=>
  cases f
  cases x with
  |non=>cases c;exact SeqAt.EqAt.bool_none a
  |bl b=>cases c;exact SeqAt.EqAt.bool_bool a b
  |int b=>let#[t,rfl]:=c;exact SeqAt.EqAt.bool_int a b t
  |str b=>let#[t,rfl]:=c;exact SeqAt.EqAt.bool_str a b t
  |_=>exact absurd (show AC=AE from g) A3
 |int a=>
  let#[d,rfl]:=f
  cases x with
  |non=>cases c;exact SeqAt.EqAt.int_none a d
  |bl b=>cases c;exact SeqAt.EqAt.int_bool a d b
  |int b=>let#[t,rfl]:=c;exact SeqAt.EqAt.int_int a d b t
  |str b=>let#[t,rfl]:=c;exact HA a d b t
  |_=>exact absurd (show AC=AE from g) A3
 |str a=>
  let#[d,rfl]:=f
  cases x with
  |non=>cases c;exact SeqAt.EqAt.str_none a d
  |bl b=>cases c;exact SeqAt.EqAt.str_bool a d b
  |int b=>let#[t,rfl]:=c;exact HB a d b t
  |str b=>let#[t,rfl]:=c;exact SeqAt.EqAt.str_str a d b t
  |_=>exact absurd (show AC=AE from g) A3
 |_=>exact absurd (show AC=AE from j) A3
def eqU(x:V)(u:AG):Bool:=match u with
 |.none=>eqV .non x
 |.bool b=>eqV (.bl b) x
 |.int i _=>eqV (.int i) x
 |.str z _=>eqV (.str z) x
 |_=>AC
def zi5{x y:V}{u:AG}(r:RelV y u)(f:ya1 y=AE):eqU x u=eqV y x:=by
 cases y with
 |non=>cases r;rfl
 |bl b=>cases r;rfl
 |int i=>let#[t,rfl]:=r;rfl
 |str z=>let#[t,rfl]:=r;rfl
 |_=>exact absurd (show AC=AE from f) A3
def zbx{x:V}:∀{xs:List V} {us:List AG},Vals xs us->xs.all ya1=AE->us.any (eqU x)=xs.any λy=>eqV y x
 |_,_,.nil,_=>rfl
 |y::xs,u::us,.cons r t,f=>by rw[BL,AK]at f;rw[CA,CA,zi5 r f.1,zbx t f.2]
def zaB{A:Ai}{s:AH}{x:V}{v:AG}(b:RelV x v)(c:ya1 x=AE):∀{xs:List V} {us:List AG},Vals xs us->xs.all ya1=AE->∀u∈us,Ib A s u v (eqU x u)
 |_,_,.nil,_=>λu a=>by cases a
 |y::xs,u::us,.cons r t,f=>λd a=>by
  rw[BL,AK]at f;rcases A8.mp a with rfl|a
  .rw[zi5 r f.1];exact zmq r b f.1 c
  .exact zaB b c t f.2 d a
def inV(x:V)(xs:List V):Bool:=xs.any λy=>eqV y x
def rIn(K:AF)(b:Bool):R2:=λx y H Q=>∃p a,y=.ref p/\(SqL K H p a \/ SqT K H p a)/\ya1 x=AE/\a.all ya1=AE/\Q (.bl (if b then !inV x a else inV x a)) H
def zct:OpR X (compareOp .In) (rIn X.K AC):=by
 intro C s B H x y v u Q I f j h;let#[p,m,rfl,b,g,fs,q]:=h
 cases j
 rcases b with b|b
 .let#[a,r,c,l]:=I.list b;refine IE (eqU x) c.isList (λw d=>zaB f g r fs w (by simpa using d)) #[.bl _,H,I,rfl,?_];rw[show a.toArray.any (eqU x)=a.any (eqU x)by simp,zbx r fs];exact q
 .let#[a,r,c,l]:=I.tuple b;refine Hj (eqU x) c (λw d=>zaB f g r fs w (by simpa using d)) #[.bl _,H,I,rfl,?_];rw[show a.toArray.any (eqU x)=a.any (eqU x)by simp,zbx r fs];exact q
def zaZ:OpR X (compareOp .NotIn) (rIn X.K AE):=by
 intro C s B H x y v u Q I f j h;let#[p,m,rfl,b,g,fs,q]:=h
 cases j
 rcases b with b|b
 .let#[a,r,c,l]:=I.list b;refine SeqAt.notIn_listAt (eqU x) c.isList (λw d=>zaB f g r fs w (by simpa using d)) #[.bl _,H,I,rfl,?_];rw[show a.toArray.any (eqU x)=a.any (eqU x)by simp,zbx r fs];exact q
 .let#[a,r,c,l]:=I.tuple b;refine SeqAt.notIn_tupleAt (eqU x) c (λw d=>zaB f g r fs w (by simpa using d)) #[.bl _,H,I,rfl,?_];rw[show a.toArray.any (eqU x)=a.any (eqU x)by simp,zbx r fs];exact q
def zcr:yam X (.builtin "len") (λj H Q=>∃p b,j=[.ref p]/\(SqL X.K H p b \/ SqT X.K H p b)/\Q (.int b.length) H):=by
 intro C s B H j n Q I r h;let#[p,b,rfl,c,q]:=h;let#[u,rfl,l]:=vals1 r
 cases l
 have o:=zoG;rcases c with c|c
 .let#[d,f,g,m]:=I.list c;have a:=f.length;exact Calls.call_len_list g.isList (by erw[AX]<;>lia) #[.int b.length,H,I.tok _,#[s.toks+1,by rw[AX,a]],q]
 .let#[d,f,g,m]:=I.tuple c;have a:=f.length;exact Hy g (by erw[AX]<;>lia) #[.int b.length,H,I.tok _,#[s.toks+1,by rw[AX,a]],q]
def zcK:yam X (.builtin "len") (λa H Q=>∃z,a=[.str z]/\z.length<=sizeLine/\Q (.int z.length) H):=by intro C s B H a b Q I r h;let#[z,rfl,c,q]:=h;let#[u,rfl,t,rfl]:=vals1 r;have d:=zoG;exact len_str () #[.int z.length,H,I.tok _,#[_,rfl],q]
def zay:yam X (.type "tuple") (λm H Q=>∃p c,m=[.ref p]/\((SqL X.K H p c/\∀l,H l=AD->Q (.ref l) (upd H l (.tup c))) \/ (SqT X.K H p c/\Q (.ref p) H))):=by
 intro C s B H m A Q I r h;let#[p,c,rfl,h]:=h;let#[u,rfl,x]:=vals1 r
 cases x
 rcases h with⟨f,q⟩|⟨f,q⟩
 .let#[a,g,j,n]:=I.list f;have t:=g.length;refine call_tuple_list j.isList (λd y=>?_) (by erw[AX]<;>lia);have w:Inv X C B H {s with heap:=d}:=I.kept (t':=s.toks) y;have z:Inv X C B (upd H d.objs.size (.tup c)) {s with heap:=d.push {cls:=.type "tuple",data:=.seq a.toArray} }:=
   w.laid (t':=s.toks) (λb o e=>AL _ e) (AU _) (show yH X.prog X.w _ _ _ (.tup c)from #[n,a,g,AQ _ rfl])
  exact#[.ref d.objs.size,_,z,rfl,q _ (w.hok.fresh (AU _))]
 .let#[a,g,j,n]:=I.tuple f;exact call_tuple_same j #[.ref p,H,I,rfl,q]
def tyV(K:AF)(T:String)(x:V)(H:Hp):Prop:=match x with
 |.str _=>T="str"
 |.int _=>T="int"
 |.ref p=>(T="list"/\∃b,SqL K H p b) \/ (T="tuple"/\∃o,K.lookup p=AA o/\o.cls=.type "tuple"/\o.dict=AD) \/
   (T="dict"/\((∃a,H p=AA (.dK a)) \/ ∃a,H p=AA (.dT a))) \/ (T="set"/\∃S n,H p=AA (.set S n))
 |_=>False
def zlf{C:List (AJ×Bw)}{B:St}{H:Hp}{s:AH}{T:String}{x:V}{v:AG}(I:Inv X C B H s)(r:RelV x v)(d:tyV X.K T x H):
  s.TypeIs v T/\∀a,v=.ref a->∃l,s.heap.get? a=AA l/\l.dict=none:=by
 cases x with
 |str z=>
  let#[t,rfl]:=r
  cases (show T="str" from d)
  exact#[Ew s z t,λ_ e=>nomatch e]
 |int i=>
  let#[t,rfl]:=r
  cases (show T="int" from d)
  exact#[DS s i t,λ_ e=>nomatch e]
 |ref p=>
  cases r
  rcases d with⟨rfl,y,q⟩|⟨rfl,o,b,u,f⟩|⟨rfl,b⟩|⟨rfl,S,n,b⟩
  .let#[w,_,m,_]:=I.list q;refine#[m.isList.typeIs,λa e=>?_]
   cases e
   let#[o,n,e,c,f,_]:=m;exact#[o,e,f]
  .refine#[#[o,I.kIn p o b,u],λa e=>?_]
   cases e
   exact#[o,I.kIn _ o b,f]
  .have z:∃o,s.heap.get? p=AA o/\o.ExactDict:=by
    rcases b with⟨g,b⟩|⟨g,b⟩
    .let#[_,_,_,_,o,_,_,e,ex,_]:=I.hok p _ b;exact#[o,e,ex]
    .let#[_,_,_,_,o,_,_,e,ex,_]:=I.hok p _ b;exact#[o,e,ex]
   let#[o,e,ex]:=z;refine#[#[o,e,ex.1],λa j=>?_]
   cases j
   exact#[o,e,ex.2.1]
  .let#[o,_,_,_,e,ex,_]:=I.hok p _ b;refine#[#[o,e,ex.1],λa j=>?_]
   cases j
   exact#[o,e,ex.2.1]
 |_=>exact Bn d
def tBM(K:AF)(T:String)(r:V->List V->Hp->VK->Prop)(b:TE)(t:TA):TE:=λB H Q=>b B H λx a=>tyV K T x a/\t B a λc d=>r x c d Q
variable {o e:AZ}{es:List AZ}{to:TE}{t:TA}{name:AR}{apos cpos:CK}{T id:String}{r:V->List V->Hp->VK->Prop}
def ziS(n:PlainAttrs T)(d:Slot T name id)(g:typeOf (.builtin id)=pure (.type "method_descriptor"))(p:MtR X id r)(q:PE X o to)(u:PA X (e::es) t)
  (b:attributeBase o name X.env (eval o X.env)=eval o X.env:=by rfl)
  (f:((backTo cpos (starEach (e::es) X.env)).all (λx=>!x.1)&&(backToKw cpos (keywordEach [] X.env)).all (λx=>x.1.isSome)
   && decide ((e::es).length+([]:List CU).length+(if ([]:List CU).isEmpty then 0 else 1)<30))=true:=by rfl)
  (c:(apos.endLine==cpos.line)=true:=by rfl) (w:starEach (e::es) X.env=(AC,eval e X.env)::starEach es X.env:=by rfl) (a:(backTo cpos (starEach es X.env)).any (·.1)=false:=by rfl):
  PE X (.Call (.Attribute o name apos) (e::es) [] cpos) (tBM X.K T r to t):=by intro C s B H Q I h;refine wpAny_Call_method_late b f c rfl (thn (q C s B H _ I h) λv y z=>?_);let#[x,A,j,l,D,E]:=z;let#[G,J]:=zlf j l D;refine#[T,id,n,d,g,G,J,?_];have m:=u cpos C y B A _ j E;rw[w]at m ⊢;refine Calls.callWith_builtin (by show (AC || (backTo cpos (starEach es X.env)).any (·.1))=AC;rw[a]<;>rfl) (Calls.evalArgs_plain ?_);exact thn m λL M #[N,O,U,Y,Z]=>p C M B O x N v L Q U l Y Z
/- xs.append(e),list.index on a module's tuple .. are MtR facts of 06m -/
end
def MtM(X:Cx)(id:String)(r:V->List V->Hp->VK->Prop):Prop:=
 ∀(C:List (AJ×Bw)) (s:AH) (B:St) (H:Hp) (x:V) (a:List V) (v:AG) (b:List AG) (Q:VK),Inv X C B H s->RelV x v->Vals a b->r x a H Q ->
  A1 (model X.prog X.w) X.A (call (.builtin id) (v::b)) (EP X C B Q) X.xe s
theorem Vals.one:∀{x:V} {us:List AG},Vals [x] us->∃u,us=[u]/\RelV x u
 |_,_,.cons r .nil=>#[_,rfl,r]
theorem Vals.reverse{xs:List V}{us:List AG}(h:Vals xs us):Vals xs.reverse us.reverse:=by
 induction h with
 |nil=>exact .nil
 |cons r t ih=>rw[Dy,Dy];exact Vals.append ih (.cons r .nil)
theorem Vals.rep{xs:List V}{us:List AG}(h:Vals xs us):∀k:Nat,Vals (AT k xs).flatten (AT k us).flatten
 |0=>.nil
 |k+1=>by rw[BP,BP,Be,Be];exact Vals.append h (Vals.rep h k)
def zcO(a:List AG):∀(k:Nat) (acc:List AG),
  Ic (λb c=>b++c) acc.toArray (AT k a.toArray)=(acc++(AT k a).flatten).toArray
 |0,acc=>by simp
 |k+1,acc=>by
  have e:acc.toArray++a.toArray=(acc++a).toArray:=by simp
  have d:(acc++a)++(AT k a).flatten=acc++(AT (k+1) a).flatten:=by rw[BP,Be,FU]
  rw[<-d,<-zcO a k (acc++a),<-e,BP,DE]
section
variable {X:Cx}{B:List (AJ×Bw)}{A:St}{H:Hp}{s:AH}{l b:AJ}{xs ys zs:List V}
theorem Inv.lset{a its':List AG}{n:Nat}{f:Array AG->Array AG}{t':Nat}(I:Inv X B A H s)(b:H l=AA (.lst xs))
  (e:s.heap.get? l=AA {cls:=.type "list",data:=.seq a.toArray n}) (hf:f a.toArray=its'.toArray) (c:Vals ys its') (d:ys.length<=sizeLine):
  Inv X B A (upd H l (.lst ys)) {s with heap:=s.heap.update l (CY f),toks:=t'}:=by have q:=PySem.IsL.update e f;rw[hf]at q;refine I.write (x:=l) (e:=l) (by rw[b];exact trivial) (.inl rfl) (λm u g j=>(Dx s.heap (CY f) (BR g)).trans j) #[_,q] ?_;exact#[d,its',_,c,q]
theorem Inv.lnew{a:List AG}{t':Nat}(I:Inv X B A H s)(b:Vals ys a)(c:ys.length<=sizeLine):
  Inv X B A (upd H s.heap.objs.size (.lst ys)) {s with heap:=s.heap.push {cls:=.type "list",data:=.seq a.toArray},toks:=t'}:=
 I.laid (λ_ _ q=>AL _ q) (AU _) #[c,a,0,b,AQ _ rfl]
theorem Inv.fresh(I:Inv X B A H s):H s.heap.objs.size=none:=I.hok.fresh (AU _)
theorem Inv.lstM(I:Inv X B A H s)(b:H l=AA (.lst xs)):xs.length<=sizeLine/\∃(a:List AG) (n:Nat),Vals xs a/\xs.length=a.length/\s.heap.get? l=AA {cls:=.type "list",data:=.seq a.toArray n}:=by let#[z,a,n,r,e]:=I.hok l _ b;exact#[z,a,n,r,r.length,e]
def zo8{n:Nat}(h:n<=sizeLine):Dc n=false:=by unfold Dc;exact decide_eq_false ()
end
section
variable {X:Cx}
def ycF:V->List V->Hp->VK->Prop:=λx b H Q=>∃l a y,x=.ref l/\b=[y]/\H l=AA (.lst a)/\a.length<sizeLine/\Q .non (upd H l (.lst (a++[y])))
def zcW:MtM X "list.append" ycF:=by
 intro B s A H x g v j Q I c d h;let#[l,m,y,rfl,rfl,b,o,q]:=h
 cases c
 let#[u,rfl,f]:=d.one;let#[z,a,n,r,p,e]:=I.lstM b;refine Cd GS #[_,e,rfl] F.entry_list_append (F.args_list_append_2 _ _) (PySem.list_append l a.toArray n u (by rw[AX];lia)) #[e,?_];refine#[.non,_,I.lset (its':=a++[u]) b e (by simp) (r.append (.cons f .nil)) ?_,rfl,q];rw[Bg,List.length_singleton];lia
def ygK:R2:=λx y H Q=>∃l b a c,x=.ref l/\y=.ref b/\H l=AA (.lst a)/\H b=AA (.lst c)/\a.length+c.length<=sizeLine/\∀p,H p=AD->Q (.ref p) (upd H p (.lst (a++c)))
def zlW:OpR X (binaryOp .Add) ygK:=by
 intro B s A H x y v u Q I d f h;let#[l,b,w,C,rfl,rfl,g,j,D,q]:=h
 cases d
 cases f
 let#[z,c,n,r,E,e]:=I.lstM g;let#[G,a,J,m,o,p]:=I.lstM j;refine PySem.P.add_list e p ?_ (by rw[AX,AX];lia);have t:c.toArray++a.toArray=(c++a).toArray:=by simp
 rw[t];exact#[.ref _,_,I.lnew (t':=s.toks) (r.append m) (by rw[Bg];lia),rfl,q _ I.fresh]
def ygk:R2:=λx y H Q=>∃l k a,x=.ref l/\y=.int k/\H l=AA (.lst a)/\-(2^63)<=k/\k<2^63/\a.length*k.toNat<=sizeLine /\
 ∀p,H p=AD->Q (.ref p) (upd H p (.lst (AT k.toNat a).flatten))
def zj8{C:Type}(xs:List C)(k:Nat):(AT k xs).flatten.length=k*xs.length:=by
 induction k with
 |zero=>simp
 |succ k ih=>rw[BP,Be,Bg,ih,Nat.succ_mul,Nat.add_comm]
def zmf:OpR X (binaryOp .Mult) ygk:=by
 intro B s A H x y v u Q I C D h;let#[l,k,O,rfl,rfl,E,G,J,w,q]:=h
 cases C
 let#[t,rfl]:=D;let#[z,b,n,r,L,e]:=I.lstM E;have d:b.toArray.size*k.toNat<=sizeLine:=by rw[AX,<-L];exact w
 have f:¬b.toArray.size*k.toNat > (2^63-1)/8:=by
  have:(sizeLine:Nat)<=(2^63-1)/8:=by decide
  lia
 have g:¬(!Builtin.List.listFitsIndex k)=true:=by rw[fitsIndex_both G J];exact A3
 have c:¬Dc (b.toArray.size*k.toNat)=true:=by rw[zo8 d];exact A3
 have j:Ic (λo p=>o++p) (List.toArray []) (AT (if b.toArray.isEmpty=AE then 0 else k.toNat) b.toArray)=(AT k.toNat b).flatten.toArray:=by
  have M:∀m:Nat,Ic (λo p=>o++p) (List.toArray []) (AT m b.toArray)=(AT m b).flatten.toArray:=λm=>by have:=zcO b m [];rw[B6]at this;exact this
  rw[M]
  cases b with
  |nil=>simp
  |cons a Y=>rw[if_neg (by simp)]
 refine CN (T:="list") (U:="int") ⋯ #[_,e,rfl] (λN=>DS N k t) noFill_list_mul D3 Bm repeat_list DP.lookup
  (Cd Bm (DS s k t) DQ (DF _ _) (int___rmul___int_list k t l b.toArray n)
   #[e,rfl,#[_,e,rfl],Cd F.slot_list_mul #[_,e,rfl] F.entry_list_mul (F.args_list_mul_2 _ _) (AutoListH.list___mul___list_int_3 l b.toArray n k t g f c) #[e,?_]])
 rw[j];exact#[.ref _,_,I.lnew (t':=s.toks) (r.rep k.toNat) (by rw[zj8,HS];exact w),rfl,q _ I.fresh]
end
section
variable {prog:A6}{w:Ah}{A:Ai}{E:AG->AH->Prop}{s:AH}
end
section
variable {X:Cx}
end
end L2
namespace Att
open PySem PySem.W PySem.Calls PyProof.Rows
def zbl{P:Params}{h:Au}:∀(c:List Int) (vs:List AG),WellAll P h vs (c.map Jh)->Gi vs c:=by
 intro c
 induction c with
 |nil=>
  intro vs w;rw[Az]at w
  cases w
  exact .nil
 |cons n c ih=>
  intro vs w;rw[AV]at w
  cases w with
  |cons a b=>
   cases a
   exact .cons _ _ (ih _ b)
def zfu{l:Fv}{n:Nat}(x:l.most=AA n){P:Params}{h:Au}{args:List WData}{c:List AG}
  (f:l.row.toRowW.claim.pre args=AE) (p:WellAll P h c args):
  ∃a u b,c=[Ag a]/\args=[WData.list (b.map Jh)]/\h.get? a=AA {cls:=.type "list",data:=.seq u.toArray}/\Gi u b/\b.length<=n:=by
 have t:WShape.hasAll [] args [.list .int]=true:=(pre_splitW f).1;have w:l.pre.holds [] {args:=args}=true:=(pre_splitW f).2;let#[d,r,rfl,y,z]:=hasAllW_cons t;obtain rfl:=hasAllW_nil z;let#[E,rfl,A]:=hasW_list y;let#[b,rfl]:=items_int A;have g:b.length<=n:=by
  unfold OpenLaw.pre at w;have m:(WTm.not (.lt (.lit (.int (n:Int))) (.len (.arg 0)))).holds [] {args:=[.list (b.map .int)]}=true:=by have m:=(holds_andW w).1;rw[x]at m;exact m
  have o:=condW_of m (w_not (w_lt w_lit (w_len_list (w_arg rfl))));rw[Ae]at o;refine Nat.le_of_not_lt λq=>?_;have B:(n:Int)<((b.length:Nat):Int):=by lia
  first
   |(rw[decide_eq_true B]at o;exact absurd o ⋯)
   |(simp at o;lia)
 cases p with
 |cons w1 C=>
  cases C
  cases w1 with
  |list D j=>exact#[_,_,b,rfl,rfl,D,zbl b _ j,g]
def zgC(l:Fv)(args:List WData):l.row.toRowW.claim.post args (.bool AE) args=true:=
 postW_of (r:=l.row.toRowW) (X:=(AE==AE))
  (show Jc [] (.bool AE) .bool=AE by first|rfl|decide|simp[Jc,WShape.arms,WShape.armsAll])
  (show (WTm.eq .res (.lit (.bool AE))).value [] {args:=args,res:=AA (.bool AE),after:=args}=AA (.bool (AE==AE))from w_eq_bool (w_res rfl) w_lit) rfl
theorem attach_call{l:Fv}{n:Nat}{q:A6}{c:List AR}{J:(AR->Option AG)->Au->Prop}{L:Ah->Au->Prop}{d:DefRec}
  (U:l.most=AA n) (B:d.params.defaults=[])
  (call:∀(w:Ah) (g b:AH) (x C:AR->Option AG) (m:AJ) (o:Bw) (D y doc:AG) (a:AJ) (vs:List AG) (z:List Int),
   Ground q c [] J w g x C b.heap->L w b.heap ->
   b.heap.get? m=AA o->o.data=.func (docDef d.name d.params d.body d.scope D y doc)->b.heap.CodeRec y d.name->x d.name=AA (.ref m) ->
   b.heap.get? a=AA {cls:=.type "list",data:=.seq vs.toArray}->Gi vs z->z.length<=n->b.gens=(List.toArray []) ->
   codeAny (model l.prog w) callerA (.call (.ref m) #[[.ref a],[]]) (λr A=>r=.ok (.ret (.bool AE))/\OldK b.heap A.heap/\A.os=b.os/\Dr A.gens) b):
  IU q c J L l.row.toRowW d [] (λf vs=>Ie f vs):=by intro w g b x C G Y m o D y doc X kV Z hd E M H hg N O as p Q hrd I hlo;obtain rfl:X=.none:=Dflts.none M B;obtain rfl:kV=.none:=Dflts.noKw M;let#[a,vs,z,rfl,rfl,t,j,u]:=zfu U p I;refine enter_call (Eb (call w g b x C m o D y doc a vs z G Y Z (fd_plain hd) E H t j u hg) λr A hq=>?_);let#[rfl,h2,h3,h4]:=hq;exact#[.inl #[.bool AE,.bool AE,[],rfl,λ_=>rfl,.bool AE,zgC l _,λ_=>#[Jf,λ_ hm=>(nomatch hm)]],h2,h3,h4]
section
variable {prog:A6}{w:Ah}{A:Ai}{E:AG->AH->Prop}{s:AH}{K:AF}
end
end Att
namespace L2
open PySem PySem.Spec PyProof.Rows
def zcR:∀{vs:List AG} {a:List Int},Gi vs a->Vals (a.map V.int) vs
 |_,_,.nil=>.nil
 |_,_,.cons n t h=>.cons #[t,rfl] (zcR h)
def Only(H:Hp):Prop:=∀b,H b=AD \/ ∃o a,H b=AA (.frz o (.lst a))
def zhZ{P:A6}{w:Ah}{K:AF}{A Q:AR->Option AG}{CX:CXT}{k:Nat}{U a:AJ}{fd:BF}{x:AR}{sp:Sp}{c:AH}{vs:List AG}{B:List Int}
  (KX:K.In c.heap) (C:c.heap.Ns mainGlobals A) (g:c.heap.Ns builtinsNs Q) (X:∀x:AR,x ≠ "__name__"->Q x=bootBuiltins x) (D:c.heap.NoLimit) (hg:c.gens=(List.toArray []))
  (O:c.heap.get? a=AA {cls:=.type "list",data:=.seq vs.toArray}) (hi:Gi vs B) (hl:B.length<=sizeLine) (hr:yaA k callerA)
  (F:∀j:Au,K.In j->j.Ns mainGlobals A->yaK P w K A j CX k U fd [x] sp) (y:∀(s:AH) (u:AG),Fz s fd #[[u],[]] [(x,u)])
  (Y:∀H:Hp,Only H->SqL K H a (B.map V.int)->sp [.ref a] H (λv _=>v=.bl AE) λ_ _ _=>False)
  (Z:∀H e l,CX [] H c (λ_ _ _=>False) e l->False):
  codeAny (model P w) callerA (.call (.ref U) #[[.ref a],[]]) (λr l=>r=.ok (.ret (.bool AE))/\OldK c.heap l.heap/\l.os=c.os/\Dr l.gens) c:=by
 have rv:=zcR hi;have lenV:=hi.length;have t:∀H:Hp,Only H->SqL K H a (B.map V.int)->HOk P w H c.heap->(∀b,H b≠AD->b=a)->(H a≠AD->K.lookup a=AD) ->
   codeAny (model P w) callerA (.call (.ref U) #[[.ref a],[]]) (λr l=>r=.ok (.ret (.bool AE))/\OldK c.heap l.heap/\l.os=c.os/\Dr l.gens) c:=by
  intro H hO hS E hA hK;have f:∀{b:AJ} {o:Bw},c.heap.get? b=AA o->H b=AD->(ycj c.heap H).get? b=AA o:=λe n=>ziL e n;have noA:∀{b:AJ} {o:Bw} {G:Array C7} {I:Nat},c.heap.get? b=AA o->o.data=.dict G I->H b=none:=λ{b o G I} e d=>by
   cases q:H b with
   |none=>rfl
   |some u=>
    have e':b=a:=hA b (by rw[q];simp);subst e';rw[O]at e;cases e;have d':J2 vs.toArray _=Data.dict G I:=d
    cases d'
  have p:∀{b:AJ} {m:AR->Option AG},c.heap.Ns b m->(ycj c.heap H).Ns b m:=λ{b m} #[o,G,I,e,d,r]=>#[o,G,I,f e (noA e d),d,r];have J:K.In (ycj c.heap H):=λb o e=>f (KX b o e) (by
   cases q:H b with
   |none=>rfl
   |some u=>
    have e':b=a:=hA b (by rw[q];simp);subst e';rw[hK (by rw[q];simp)]at e;cases e)
  have hM:Mod K A (ycj c.heap H):=#[J,p C,#[Q,p g,X],let #[mc,h1,h2]:=D;#[mc,p h1,h2]];have e0:yco P w K A (ycj c.heap H) callerA [] c H:=#[rfl,hM,λb o e=>zk8 e,HL (zgd _ _),trivial,λb g=>absurd (show b∈([]:List AJ)from g) (by simp),E,.of_eq hg];refine Eb ((F _ J (p C)).run callerA [] c H #[[.ref a],[]] [.ref a] [.ref a] _ _ hr e0 (y c (.ref a)) (.cons rfl .nil) (Y H hO hS)) λr l h=>?_
  cases r with
  |error e=>exact(Z H e l h).elim
  |ok fl=>
   cases fl with
   |next=>exact Bn h
   |brk=>exact Bn h
   |cont=>exact Bn h
   |ret u=>
    let#[v,H',os,L,un,M,r',q]:=h;have q':v=.bl true:=q;subst q';obtain rfl:u=Eg true:=r';refine#[rfl,OldK.of_keep λb o e=>?_,os,L]
    cases q:H b with
    |none=>exact un.keep b o e q (by intro z;exact absurd (show b∈([]:List AJ)from z) (by simp)) (by simp)
    |some u=>
     rcases hO b with z|⟨ob,xs,z⟩
     .rw[q]at z;cases z
     .have z2:=un.frzs b ob _ z;let#[e1,_]:=E b _ z;let#[e2,_]:=M b _ z2;rw[e]at e1;cases e1;exact e2
 cases hk:K.lookup a with
 |some o=>
  have e:=KX a o hk;rw[O]at e
  cases e
  refine t (λ_=>AD) (λ_=>.inl rfl) (.inr #[_,vs.toArray,_,hk,rfl,rfl,rfl,by rw[AX,lenV];exact hl,by simpa using rv]) (λb u z=>by have N:(AD:Option HO)=AA u:=z;cases N) (λb z=>absurd rfl z) λz=>absurd rfl z
 |none=>
  refine t (λb=>if b=a then AA (.frz {cls:=.type "list",data:=.seq vs.toArray} (.lst (B.map V.int)))else AD) (λb=>?_) (.inl (.inr #[{cls:=.type "list",data:=.seq vs.toArray},if_pos rfl])) (λb u z=>?_) (λb z=>?_) λ_=>hk
  .by_cases g:b=a
   .exact .inr #[_,_,if_pos g]
   .exact .inl (if_neg g)
  .by_cases g:b=a
   .have N:=(if_pos g).symm.trans z
    cases N
    subst g;exact#[O,by rw[Ae];exact hl,vs,_,rv,O]
   .have N:=(if_neg g).symm.trans z
    cases N
  .by_cases g:b=a
   .exact g
   .exact absurd (if_neg g) z
theorem walk_of{l:Fv}{n k:Nat}{q:A6}{g:List AR}{N:(AR->Option AG)->Au->Prop}{I:Ah->Au->Prop}{d:DefRec}{K:Params->AF}{CX:Ah->CXT}{sp:Ah->Sp}{x:AR}
  (O:l.most=AA n) (z:n<=sizeLine) (A:d.params.defaults=[]) (Q:yaA k callerA)
  (U:∀(w:Ah) (h:Au),I w h->(K w.params).In h)
  (F:∀(w:Ah) (m:AR->Option AG) (t:AJ) (h:Au),(K w.params).In h->h.Ns mainGlobals m->m d.name=AA (.ref t) ->
   ∃B:BF,(∀(s:AH) (u:AG),Fz s B #[[u],[]] [(x,u)]) /\
    ∀b:Au,(K w.params).In b->b.Ns mainGlobals m->yaK l.prog w (K w.params) m b (CX w) k t B [x] (sp w))
  (C:∀(w:Ah) (H:Hp) (a:AJ) (y:List Int),y.length<=n->Only H->SqL (K w.params) H a (y.map V.int)->sp w [.ref a] H (λv _=>v=.bl AE) λ_ _ _=>False)
  (D:∀(w:Ah) (H:Hp) (s:AH) (e:AG) (s':AH),CX w [] H s (λ_ _ _=>False) e s'->False):
  IU q g N I l.row.toRowW d [] (λf J=>Ie f J):=by refine Att.attach_call O A λw L p m mb t o pm cd doc a J y G Y ho hd X E r j c Z=>?_;have M:=U w _ Y;let#[B,hb,hF]:=F w m t _ M G.T.g E;exact zhZ M G.T.g G.T.b G.T.builtins G.T.nolimit Z r j (Bl c z) Q hF hb (λH hO hS=>C w H a y c hO hS) λH e s'=>D w H p e s'
def inClass(s:CL)(j:Nat):Stmt:=match s with
 |.ClassDef _ _ _ a _ _ _ _ _ _ _=>a.getD j (.Pass #[0,0,0,0])
 |_=>.Pass #[0,0,0,0]
def yan(s:CL):Arguments:=match s with
 |.FunctionDef _ a _ _ _ _ _ _ _ _=>a
 |_=>{posonlyargs:=[],args:=[],vararg:=AD,kwonlyargs:=[],kw_defaults:=[],kwarg:=AD,defaults:=[]}
def yN(s:CL):List Stmt:=match s with
 |.FunctionDef _ _ b _ _ _ _ _ _ _=>b
 |_=>[]
def yh(s:CL):Scope:=match s with
 |.FunctionDef _ _ _ _ _ _ a _ _ _=>a
 |_=>{kind:=.function,names:=[],isGenerator:=AC,isCoroutine:=AC}
abbrev CX0:CXT:=λ_ _ _ _ _ _=>False
abbrev E0:XK:=λ_ _ _=>False
structure Fun(K:AF)(x qual:AR)(st:CL)(f:AJ)(fd:BF):Prop where
 ex:∃(oc:AG) (od:Option AJ) (kV doc pm:AG) (an:Option AJ) (cdv ct:AG) (osl:Array (Option AG)),
  fd=CD x qual (yan st) (yN st) (yh st) .none kV doc pm an cdv ct/\K.lookup f=AA #[oc,od,.func fd,osl]/\Cb K cdv qual=AE
 kp:Ax K (.ref f)=AE
section
variable {P:A6}{w:Ah}{K:AF}{mg:AR->Option AG}{base:Au}
theorem Fun.binds{x a:AR}{st:CL}{f:AJ}{d:BF}{b:List AR}(F:Fun K x a st f d)
  (h:∀(kV doc c:AG) (an:Option AJ) (cdv ct:AG) (us:List AG),us.length=b.length->bindArgs (CD x a (yan st) (yN st) (yh st) .none kV doc c an cdv ct) #[us,[]]=pure (b.zip us)):Binds K d b []:=by let#[l,m,kV,doc,c,an,cdv,ct,g,rfl,n,j]:=F.ex;exact .all (h kV doc c an cdv ct)
end
section
variable {X:Cx}
end
def yfr(i j:Int):Prop:=0<=j/\j<=1000000/\i.natAbs<2^200
def zhx{a n:Int}(b:a.natAbs<2^200)(d:n<=1000000):(D7 a:Int)+n<=2^27:=by
 have f:D7 a<=200:=by
  unfold D7;split
  .exact BB _
  .rename_i h;have c:a.natAbs≠0:=λz=>h (by simpa using Int.natAbs_eq_zero.1 z);exact(G5 c).2 b
 lia
section
variable {X:Cx}
def zke:OpR X (binaryOp .LShift) (rI yfr λi j=>.int (i*2^j.toNat)):=opI λ_ _ _ _ _ _ _ a q=>lshift_int a.1 (zhx a.2.2 a.2.1) q
end
end L2
namespace WE
open PySem PySem.Spec PyProof.Rows
open AutoSeq1 (wpAny_loadPart')
section
variable {pg:A6}{wd:Ah}{A:Ai}{Er:AG->AH->Prop}{s:AH}
def zbT{a t:AJ}{i:Nat}{xs:Array AG}{x:AG}{Q:AG->AH->Prop}(d:s.heap.IsTupleIter a t i)(g:s.heap.IsTuple t xs)(j:xs[i]?=AA x)
  (k:∀f,f.IsTupleIter a t (i+1)->C0 a s.heap f->Q x {s with heap:=f}):A1 (model pg wd) A (B3 (.ref a)) Q Er s:=by let#[o,c,l,b]:=id d;let#[p,m,_,q,n]:=g;unfold B3;refine AB (BO (name:=AI "__next__") d.typeIs Cf (BY Cf d.typeIs Ec ?_ (E3 _)));show A1 _ _ (field (.ref a) 0 >>= _) _ _ _;refine AB (Aq c b (x:=.ref t) rfl ?_);show A1 _ _ (if (Ag t==BJ)=AE then _ else _) _ _ _;rw[if_neg (show ¬((Ag t==BJ)=AE)from λz=>A3 z)];show A1 _ _ (field (.ref a) 1 >>= _) _ _ _;refine AB (Aq c b (x:=.int i 0) rfl ?_);show A1 _ _ (seqItems? (.ref t) >>= _) _ _ _;refine AB (Ca m n ?_);erw[CV,j];refine AB (DU c b (by simp) (AM #[x,rfl,AM (k _ ?_ (Cw ..))]));refine#[_,DL _ c (EG (Cg b _)),(HU ..).trans l,?_];rw[Cg b];simp[rawInt]
def zcM{b t:AJ}{i:Nat}{xs:Array AG}{Q:AG->AH->Prop}(j:A.handled=AD)(c:s.heap.IsTupleIter b t i)(l:s.heap.IsTuple t xs)(n:xs[i]?=AD)
  (k:∀d e,J3 b s.heap d->(∃o,d.get? e=AA o/\o.cls=.type "StopIteration")->Er (.ref e) {s with heap:=d}):A1 (model pg wd) A (B3 (.ref b)) Q Er s:=by
 let#[r,f,u,g]:=id c;let#[w,p,_,y,q]:=l;unfold B3;refine AB (BO (name:=AI "__next__") c.typeIs Cf (BY Cf c.typeIs Ec ?_ (E3 _)));show A1 _ _ (field (.ref b) 0 >>= _) _ _ _;refine AB (Aq f g (x:=.ref t) rfl ?_);show A1 _ _ (if (Ag t==BJ)=AE then _ else _) _ _ _;rw[if_neg (show ¬((Ag t==BJ)=AE)from λz=>A3 z)];show A1 _ _ (field (.ref b) 1 >>= _) _ _ _;refine AB (Aq f g (x:=.int i 0) rfl ?_);show A1 _ _ (seqItems? (.ref t) >>= _) _ _ _;refine AB (Ca p q ?_);erw[CV,n];refine AB (EL (AB (DU f g (by simp) ?_)));show A1 _ _ (newExc (.type "StopIteration") [] >>= _) _ _ _;refine AB ?_;erw[newExc,newTuple];refine AB (Am ?_ (by size_fits));refine AB (m:=firstArgMember _ _) (Ba (a:=BJ) (by first|rfl|(erw[firstArgMember];rfl)) ?_);refine Am ?_ (by size_fits);erw[raiseNew];refine AB (wpAny_handled ?_);first|rw[show A.in1.handled=AD from j]|rw[j]
 refine AB (AM (wpAny_throw ?_));exact k _ _ (((Cw ..).extBut.push _).push _) #[_,AQ _ rfl,rfl]
end
theorem draws_tuple{pg:A6}{wd:Ah}{A:Ai}(l:A.handled=AD)(a t:AJ)(d:t≠a)(xs:Array AG):
  Draws pg wd A a [a,t] xs.size (λi v=>xs[i]?=AA v) (λi h=>h.IsTupleIter a t i/\h.IsTuple t xs) where
 live:=λ_ _ st=>let #[o,g,_]:=st.1;#[o,g]
 frame:=λ_ _ _ st f=>#[let #[o,g,r]:=st.1;#[o,f a (by simp) o g,r],let #[o,g,r]:=st.2;#[o,f t (by simp) o g,r]]
 item:=λi s Q E j st m=>zbT st.1 st.2 (x:=xs[i]) (by simp[j]) λn b c=>m _ n s.toks (by simp[j]) #[b,st.2.extBut c.extBut d] c
 done:=λs Q E st p=>zcM l st.1 st.2 (by simp) p
def zdR(l:AJ)(xs:Array AG)(n:Nat)(m:Option AJ)(sl:Array (Option AG)):
  JB (C1.«enumerate.__new__» #[[.type "enumerate",.ref l],[]]) (λ_ R s=>s.heap.get? l=AA {cls:=.type "tuple",dict:=m,data:=.seq xs n,slots:=sl} /\
   R (.ok (.ret (.ref (s.heap.push {cls:=.type "tuple_iterator",data:=.fields (List.toArray [.ref l,.int 0 0])}).objs.size)))
    {s with heap:=(s.heap.push {cls:=.type "tuple_iterator",data:=.fields (List.toArray [.ref l,.int 0 0])}).push {cls:=.type "enumerate",data:=.fields (List.toArray [.none,.bool AC,.ref s.heap.objs.size,rawInt 0,.none,.none])} }):=
 .of_wp λf w A R s h=>by
  let#[o,g,d,p,os]:=s;let#[a,h]:=h;have j:=sub_enumerate;have b:JG (Hz #[o,g,d,p,os]) l xs:=#[_,a,rfl,n,rfl]
  wp_walk using wpAny_loadPart' a
  refine wpAny_stack_any λst=>AM ?_;split
  .rename_i c _ _ _ _ _
   cases (c==Eh "enumerate")
   .wp_walk using wpAny_loadPart' a,DC b
    exact#[_,rfl,h]
   .wp_walk using wpAny_loadPart' a,DC b
    exact#[_,rfl,h]
  .wp_walk using wpAny_loadPart' a,DC b
   exact#[_,rfl,h]
theorem call_enumT{pg:A6}{wd:Ah}{A:Ai}{j:AG->AH->Prop}{s:AH}{l:AJ}{xs:Array AG}{Q:AG->AH->Prop}(m:s.heap.IsTuple l xs)
  (k:∀a,IsEnum a (s.heap.objs.size+1) s.heap.objs.size 0 .none->a.IsTupleIter s.heap.objs.size l 0->a.objs.size=s.heap.objs.size+2 ->
   (∀b o,s.heap.get? b=AA o->a.get? b=AA o)->Q (.ref (s.heap.objs.size+1)) {s with heap:=a}):A1 (model pg wd) A (call (.type "enumerate") [.ref l]) Q j s:=by
 let#[#[c,dct,p,r],t,u,n,w]:=m
 cases (show c=.type "tuple" from u)
 cases (show p=.seq xs n from w)
 refine HV F.called_enumerate ⋯ (F.typeCall_enumerate_1 _) (F.newCall_enumerate_1 _) (λd=>F.args_object_init_2 d _) F.entry_enumerate_new (zdR l xs n dct r) #[t,?_];have f:(s.heap.push {cls:=.type "tuple_iterator",data:=.fields (List.toArray [.ref l,.int 0 0])}).objs.size=s.heap.objs.size+1:=CQ ..;show _/\_;rw[f];have g:IsEnum ((s.heap.push {cls:=.type "tuple_iterator",data:=.fields (List.toArray [.ref l,.int 0 0])}).push {cls:=.type "enumerate",data:=.fields (List.toArray [.none,.bool AC,.ref s.heap.objs.size,rawInt 0,.none,.none])}) (s.heap.objs.size+1) s.heap.objs.size 0 .none:=by have q:=AQ (s.heap.push {cls:=.type "tuple_iterator",data:=.fields (List.toArray [.ref l,.int 0 0])}) (o:={cls:=.type "enumerate",data:=.fields (List.toArray [.none,.bool AC,.ref s.heap.objs.size,rawInt 0,.none,.none])}) rfl;rw[f]at q;exact q
 exact#[#[_,g,rfl],k _ g #[_,AL _ (AQ _ rfl),rfl,rfl] (by rw[CQ,f]) λb o y=>AL _ (AL _ y)]
end WE
namespace L2
open PySem PySem.Spec PyProof.Rows
section
variable {X:Cx}
def ydu(i j:Int):Prop:=0<j/\j<10000000000000000000000000000000000000000000000000000000000000000000000
def zii:OpR X (binaryOp .FloorDiv) (rI ydu λi j=>.int (i/j)):=opI λi j _ _ _ _ _ a q=>by
 let#[c,d]:=a;refine floordiv_int () (by rw[Em i ()];exact q) (.inl (PyProof.noPylong_of_log2 ?_));have b:j.natAbs≠0:=by lia
 refine Af ((G5 b).mpr (?_:j.natAbs<2^250)) ⋯;have e:(10000000000000000000000000000000000000000000000000000000000000000000000:Nat)<2^250:=by decide
 lia
end
section
variable {X:Cx}{B:List (AJ×Bw)}{A:St}{H:Hp}{s:AH}{h':Au}
theorem Inv.turnLaid{t':Nat}{ch:List AJ}{T:AJ}{o:HO}(I:Inv X B A H s)(hf:∀b∈ch,ybi X B H b)(k:∀b u,b∉ch->s.heap.get? b=AA u->h'.get? b=AA u)
  (l:s.heap.objs.size<=T) (j:yH X.prog X.w (upd H T o) h' T o):Inv X B A (upd H T o) {s with heap:=h',toks:=t'}:=by
 have d:H T=none:=I.hok.fresh l;have f:∀b u,H b=AA u->b∉ch:=λb u e z=>by
  have q:=(hf b z).1;rw[e]at q
  cases q
 refine I.step (g':=s.gens) (d':=s.drawn) (ch:=ch) (λb g=>?_) (λb u _ _ a e _=>k b u a e) (λb u _ _ a e _=>#[u.slots,k b u a e]) (λb u _ e n=>?_) (λb u a e=>#[u,k b u a e]) (λb t e=>?_) (λb u v e=>?_) (λb L e=>#[(List.toArray []),?_]) (λm w=>?_) (λb u e=>?_) I.bare
 .let#[M,x,N,y,C,D]:=hf b g;exact#[y,x,C,D]
 .rw[zc (Ad (Af (A0 e) l))];exact n
 .rw[zc (zd e d)];exact e
 .rw[zc (zd e d)];exact e
 .rw[zc (zd e d),e];simp
 .let#[p,E,G,J,r]:=w;exact#[p,E,G,k _ p (λz=>(hf _ z).2.1 rfl) J,r]
 .by_cases g:b=T
  .subst g;rw[zh]at e
   cases e
   exact j
  .rw[zc g]at e;refine(I.hok b u e).stay (λc v a q=>k c v ?_ q) (λc q=>by rw[zc (zd q d)];exact q) λc t q=>by rw[zc (zd q d)];exact q
   rcases a with z|z
   .rw[z];exact f b u e
   .exact f c _ z
theorem Inv.turnedL{t':Nat}{ch:List AJ}(I:Inv X B A H s)(hf:∀b∈ch,ybi X B H b)(k:∀b u,b∉ch->s.heap.get? b=AA u->h'.get? b=AA u):Inv X B A H {s with heap:=h',toks:=t'}:=by
 have d:∀b u,H b=AA u->b∉ch:=λb u e z=>by
  have q:=(hf b z).1;rw[e]at q
  cases q
 refine I.step (g':=s.gens) (d':=s.drawn) (ch:=ch) (λb g=>?_) (λb u _ _ a e _=>k b u a e) (λb u _ _ a e _=>#[u.slots,k b u a e]) (λ_ _ _ _ n=>n) (λb u a e=>#[u,k b u a e]) (λ_ _ e=>e) (λ_ _ _ e=>e) (λb C e=>#[(List.toArray []),by rw[e];simp]) (λm j=>?_) (λb u e=>?_) I.bare
 .let#[D,l,E,o,p,t]:=hf b g;exact#[o,l,p,t]
 .let#[f,w,x,y,r]:=j;exact#[f,w,x,k _ f (λz=>(hf _ z).2.1 rfl) y,r]
 .refine(I.hok b u e).stay (λc v a q=>k c v ?_ q) (λ_ q=>q) λ_ _ q=>q;rcases a with z|z
  .rw[z];exact d b u e
  .exact d c _ z
end
def Ite(K:AF)(a:AJ):It:=
 #[λi H=>∃b x,SqT K H a b/\b[i]?=AA x,λi H x c=>∃T,H T=AD/\x=.ref T/\∀b y,SqT K H a b->b[i]?=AA y->c=upd H T (.tup [.int i,y]),λi H=>∃b,SqT K H a b/\b.length=i]
def zbV{h:Au}{a b:AJ}{o u:Bw}(x:h.get? a=AA o)(y:h.get? b=AA u)(z:o.cls≠u.cls):a≠b:=λe=>by
 subst e;rw[x]at y
 cases y
 exact z rfl
def zfi{P:A6}{w:Ah}{K:AF}{es:List AZ}{kk:Nat}{pos:CK}(a e c:AJ):
  Turn P w K (.Tuple es kk pos) (Ite K a) [e,c] e (λi h=>(∃d,IsEnum h e c i d)/\h.IsTupleIter c a i) where
 mem:=by simp
 obj:=λi h st b l=>by
  let#[#[d,j],L,m,J,di]:=st;rcases A8.mp l with z|z
  .subst z;exact#[_,j,λv y=>nomatch y]
  .have z:b=c:=by simpa using z
   subst z;exact#[L,m,λv y=>by rw[di]at y;cases y]
 keep:=λi h h' st k=>by let#[#[d,j],L,m,r]:=st;exact#[#[d,k e (by simp) _ j],L,k c (by simp) _ m,r]
 item:=by
  intro X hP hw hK hc i C s B H E I hf st hg;subst hP hw hK;let#[xs,x,hq,hx]:=hg;let#[f,rv,p,hz]:=I.tuple hq;let#[#[d,j],M]:=st;let#[L,m,J,di]:=id M;let#[oa,N,O,na,da]:=id p;have n:a≠c:=zbV N m (by rw[O,J];exact λz=>absurd (DV z) ⋯);have g:e≠c:=zbV j m (by rw[J];exact λz=>absurd (DV z) ⋯);have t:e≠a:=zbV j N (by rw[O];exact λz=>absurd (DV z) ⋯);have hl:=rv.length;have hil:i<f.toArray.size:=by have:=(Ao.mp hx).1;simpa using (by lia:i<f.length)
  have W:=HW (prog:=X.prog) (w:=X.w) (A:=X.A) (WE.draws_tuple (pg:=X.prog) (wd:=X.w) (A:=X.A.in1) (I.ok.hd hc) c a n f.toArray) e g (by simp[g,t]) (by simp);refine wpAny_pyNext_enum_itemD (WE.draws_tuple (pg:=X.prog) (wd:=X.w) (A:=X.A.in1) (I.ok.hd hc) c a n f.toArray) j #[M,p] hil g (by simp[g,t]) λy Q U hy ho hs' hT hsz' kp'=>#[_,rfl,?_];obtain⟨T,eT⟩:∃T,s.heap.objs.size=T:=#[_,rfl];have Y:s.heap.objs.size<=T:=HL eT;have kp:∀b o,b∉[e,c]->s.heap.get? b=AA o->Q.get? b=AA o:=λb o l y=>kp' b o (λe'=>l (by simp[e'])) (λe'=>l (by simp[e'])) y;have D:(∃x,IsEnumOut Q e c ((i:Int)+1) x s.heap.objs.size)/\(Q.IsTupleIter c a (i+1)/\Q.IsTuple a f.toArray)/\s.heap.objs.size≠e/\s.heap.objs.size≠c:=#[#[_,ho],hs',DB (A0 j),DB (A0 m)];rw[eT]at D hT ⊢;refine W.go es kk pos i T _ _ E D λh2 Z kp2=>?_;let#[u,hu,ru]:=rv.get hx;have ey:y=u:=Aa (hy.symm.trans (by simpa using hu));subst ey;have hch:∀b o,b∉[e,c]->s.heap.get? b=AA o->h2.get? b=AA o:=λb o l q=>kp2 b o l (kp b o l q);have hTw:=W.apart i T Q D;have new:yH X.prog X.w (upd H T (.tup [.int i,x])) h2 T (.tup [.int i,x]):=by exact#[by show 2<=sizeLine;decide,[.int i U,y],.cons #[U,rfl] (.cons ru .nil),kp2 T _ hTw hT]
  have I2:=I.turnLaid (t':=U+1) hf hch Y new;refine#[.ref T,_,I2,rfl,#[T,I.hok.fresh Y,rfl,λys z hy' G=>?_],#[Z.1,Z.2.1],λb l=>?_]
  .rw[I.tuple_inj hy' hq]at G;rw[hx]at G
   cases G
   rfl
  .rw[zc (λz:b=T=>hTw (z ▸ l))];exact(hf b l).1
 done:=by
  intro X hP hw hK hc i C s B H E I hf st hg;subst hP hw hK;let#[xs,hq,hx]:=hg;let#[f,rv,p,hz]:=I.tuple hq;let#[#[d,j],M]:=st;let#[L,m,J,di]:=id M;let#[oa,N,O,na,da]:=id p;have n:a≠c:=zbV N m (by rw[O,J];exact λz=>absurd (DV z) ⋯);have g:e≠c:=zbV j m (by rw[J];exact λz=>absurd (DV z) ⋯);have t:e≠a:=zbV j N (by rw[O];exact λz=>absurd (DV z) ⋯);have hl:=rv.length;have W:=HW (prog:=X.prog) (w:=X.w) (A:=X.A) (WE.draws_tuple (pg:=X.prog) (wd:=X.w) (A:=X.A.in1) (I.ok.hd hc) c a n f.toArray) e g (by simp[g,t]) (by simp);have en:f.toArray.size=i:=by simp;lia
  refine W.done s _ E (by rw[en];exact#[#[d,j],M,p]) λh2 U kp=>#[rfl,I.turnedL (t':=U) hf kp]
 self:=λ_ _ _ _ _ st q=>by let#[#[d,j],_]:=st;exact HX j q
def yg0(K:AF)(c:TA):TI:=λA H R=>c A H λd b=>∃a,d=[.ref a]/\(∃f,SqT K b a f)/\R (Ite K a) b
def ziA{X:Cx}{a:AZ}{es:List AZ}{n:Nat}{o:CK}{j:TA}{p pos:CK}(r:Gl X "enumerate")(t:X.mg "enumerate"=AD)(w:PA X [a] j)(x:starEach [a] X.env=[(AC,eval a X.env)]:=by rfl):
  PI X (.Tuple es n o) (.Call (.Name "enumerate" p) [a] [] pos) (yg0 X.K j):=by
 intro B s A H R I h;refine Bf (zaz I r t boot_enumerate ?_);refine BV (thn (w pos B s A H _ I h) λQ c y=>?_) x rfl;let#[U,C,f,D,E]:=y;let#[l,rfl,#[Y,G],q]:=E;let#[u,rfl,J]:=Vals.one D
 cases (show u=Ag l from J)
 let#[g,Z,pt,hz]:=f.tuple G;refine WE.call_enumT (show c.heap.IsTuple l g.toArray from pt) λh1 m L M N=>?_;refine HX m ?_;refine#[_,[c.heap.objs.size+1,c.heap.objs.size],_,_,C,rfl,f.kept (t':=c.toks) N,zfi l _ c.heap.objs.size,#[#[_,m],L],λb O=>?_,q];have d:c.heap.objs.size<=b:=by
  rcases A8.mp O with z|z
  .subst z;exact Dl _
  .have z:b=c.heap.objs.size:=by simpa using z
   subst z;exact AU _
 exact f.fpOk d (f.hok.fresh d)
abbrev No:AG->AH->Prop:=λ_ _=>False
abbrev ydv(a:List AZ)(env:Env):IR Bool:=forIn a AE λc r=>if r=AE then do let ok <-isTrue c env (eval c env);pure (EX ok)else pure (EX r)
section
variable {pg:A6}{wd:Ah}{A:Ai}{R:F0->AH->Prop}{s:AH}
def zg1{b g a:AZ}{c:List AZ}{sc:B4}{pos:CK}{j acc:AG}{env:Env}(I:Nat->AH->Prop)
  (d:∀n s,I n s->A1 (model pg wd) A (pyNext j) (λr l=>match r with
   |none=>R (.ok .next) l
   |some v=>A1 (model pg wd) A (letOwnedTupleGo g j v) (λ_ p=>A1 (model pg wd) A (assign g env v) (λ_ q=>A1 (model pg wd) A (ydv c env) (λok o=>
     if ok=AE then A1 (model pg wd) A (eval b env) (λx t=>A1 (model pg wd) A (call (.builtin "list.append") [acc,x]) (λ_ u=>∃m,m<n/\I m u) No t) No o
     else ∃m,m<n/\I m o) No q) No p) No l) No s)
  (n:Nat) (h:I n s):codeAny (model pg wd) A (.compLoop (.ListComp b [#[g,a,c,0]] sc pos) 0 j acc env) R s:=by
 refine codeAny_loop rfl I (λn s z=>?_) n h;show A1 _ A ((compTurn (.ListComp b [#[g,a,c,0]] sc pos) 0 j acc env).onRaise (λx=>do noteFrame x env;theTreesLotGoes x)) _ _ s;refine wpAny_noted ?_;rw[compTurn_list];refine AB (Da (AB (CC (d n s z) (λr l w=>?_) λ_ _ f=>f.elim)))
 cases r with
 |none=>exact AM w
 |some v=>
  refine AB (CC w (λ_ p B=>AB (CC B (λ_ q C=>AB (CC C (λok o y=>?_) λ_ _ f=>f.elim)) λ_ _ f=>f.elim)) λ_ _ f=>f.elim)
  cases ok with
  |false=>exact AM #[rfl,y]
  |true=>exact AB (AB (CC y (λx t D=>AB (CC D (λ_ u E=>AM (AM #[rfl,E])) λ_ _ f=>f.elim)) λ_ _ f=>f.elim))
end
def yah(env:Env)(r:List (AR×AJ))(x:AR×Du):List (AR×AJ):=if x.2=.free then(x.1,(env.cells.lookup x.1).getD 0)::r else r
def yc2(sc:B4)(env:Env):List (AR×AJ):=sc.names.foldl (yah env) []
def zff{A B:Type}{l:List A}{f:A->B->IR (ForInStep B)}{g:B->A->B}(h:∀x∈l,∀c,f x c=pure (.yield (g c x))):∀c:B,forIn l c f=pure (l.foldl g c):=by
 induction l with
 |nil=>exact λ_=>rfl
 |cons x l ih=>
  intro c;rw[Dh,h x A2,pure_bind,DE];exact ih (λy a=>h y (AS _ a)) (g c x)
def z8{sc:B4}{env:Env}(hf:∀y∈sc.names,y.2=.free->∃c,env.cells.lookup y.1=AA c):closureFor sc env=pure (yc2 sc env):=by
 erw[closureFor];rw[zff (g:=yah env) (λx f c=>?_)]
 .rfl
 .let#[n,k]:=x
  by_cases b:k=.free
  .subst b;let#[a,j]:=hf _ f rfl;have d:env.cells.lookup n=AA a:=j;simp[yah,cellOf,d]
  .have l:(k==DJ)=false:=by simpa using b
   simp[yah,b,l]
def zbW{env:Env}:∀(l:List (AR×Du)) (r:List (AR×AJ)),(∀y∈l,y.2=.free->∃c,env.cells.lookup y.1=AA c)->(∀x c,r.lookup x=AA c->env.cells.lookup x=AA c) ->
  ∀x c,(l.foldl (yah env) r).lookup x=AA c->env.cells.lookup x=AA c
 |[],r,_,h=>h
 |y::l,r,hf,h=>by
  refine zbW l (yah env r y) (λz g=>hf z (AS _ g)) λx c e=>?_;unfold yah at e
  by_cases b:y.2=.free
  .let#[a,f]:=hf y A2 b;rw[if_pos b,Bz]at e
   cases d:x==y.1 with
   |true=>
    rw[d,f]at e;rw[eq_of_beq d,f];exact e
   |false=>
    rw[d]at e;exact h x c e
  .rw[if_neg b]at e;exact h x c e
def zbf{env:Env}{x:AR}:∀(l:List (AR×Du)) (r:List (AR×AJ)),(∃c,r.lookup x=AA c)->∃c,(l.foldl (yah env) r).lookup x=AA c
 |[],r,h=>h
 |y::l,r,h=>by
  refine zbf l (yah env r y) ?_;unfold yah
  by_cases a:y.2=.free
  .rw[if_pos a,Bz]
   cases b:x==y.1 with
   |true=>exact#[_,rfl]
   |false=>exact h
  .rw[if_neg a];exact h
def zaN{env:Env}:∀(l:List (AR×Du)) (r:List (AR×AJ)),∀y∈l,y.2=.free->∃c,(l.foldl (yah env) r).lookup y.1=AA c
 |[],_,y,a,_=>nomatch a
 |z::l,r,y,a,b=>by
  rcases A8.mp a with e|e
  .subst e;refine zbf l (yah env r y) ?_;unfold yah;rw[if_pos b,Bz,beq_self_eq_true];exact#[_,rfl]
  .exact zaN l (yah env r z) y e b
theorem mem_of_lookup{A:Type}{x:AR}{k:A}:∀{l:List (AR×A)},l.lookup x=AA k->(x,k)∈l
 |[],h=>nomatch h
 |y::l,h=>by
  rw[Bz]at h
  cases a:x==y.1 with
  |true=>
   rw[a]at h
   cases h
   rw[eq_of_beq a];exact A2
  |false=>
   rw[a]at h;exact AS _ (mem_of_lookup h)
def ycX(env:Env)(x:AR)(k:Du):NameKind:=if (k==.free&&env.scope.kind==.function&&env.kindOf x==AA .cell)=AE then .cell else k
def zbU{sc:B4}{env:Env}(x:AR):(relabel sc env).names.lookup x=(sc.names.lookup x).map (ycX env x):=by
 unfold relabel;show (sc.names.map λ(n,k)=>if (k==DJ&&env.scope.kind==.function&&env.kindOf n==AA .cell)then(n,Gx)else(n,k)).lookup x=_
 induction sc.names with
 |nil=>rfl
 |cons y l ih=>
  let#[n,k]:=y;rw[AV];show CJ x ((if (k==DJ&&env.scope.kind==.function&&env.kindOf n==AA .cell)=AE then(n,Gx)else(n,k))::_)=_
  cases b:x==n with
  |true=>
   have e:=eq_of_beq b;subst e
   by_cases a:(k==DJ&&env.scope.kind==.function&&env.kindOf x==AA .cell)=AE
   .rw[if_pos a,Bz,beq_self_eq_true];simp[ycX,a]
   .rw[if_neg a,Bz,beq_self_eq_true];simp[ycX,a]
  |false=>
   by_cases a:(k==DJ&&env.scope.kind==.function&&env.kindOf n==AA .cell)=AE
   .rw[if_pos a];erw[Bz,b];exact ih
   .rw[if_neg a];erw[Bz,b];exact ih
structure CI where
 C:AJ
 s:AH
 H:Hp
 fp:List AJ
def cxC(X:Cx)(sc:B4)(a:List AR)(j:CI):Cx where
 prog:=X.prog
 w:=X.w
 K:=X.K
 mg:=X.mg
 base:=X.base
 A:=X.A
 N:=a
 s₀:=j.s
 H₀:=j.H
 env:=compEnvC sc (yc2 sc X.env) j.C X.env
 outer:=X.stack
 stack:=X.stack
 ex:=j.fp
 fn:=λ_=>AC
 calm:=X.calm
 pn:=[]
 xe:=No
def inn(slots:List (Option Nat))(A:St):St:=slots.map λo=>o.bind λj=>(A[j]?).join
structure yaa(X:Cx)(sc:B4)(NC:List AR)(slots:List (Option Nat)):Prop where
 kind:sc.kind=.function
 names:∀y∈sc.names,y.2=.local->sc.names.lookup y.1=AA .local
 nocell:∀y∈sc.names,y.2 ≠ .cell
 free:∀y∈sc.names,y.2=.free->X.env.scope.names.lookup y.1=AA .cell
 slot:∀(i:Nat) (x:AR) (j:Nat),NC[i]?=AA x->slots[i]?=AA (AA j)->X.N[j]?=AA x/\sc.names.lookup x=AA .free
 len:slots.length=NC.length
def zo9{X:Cx}{sc:B4}{d:List AR}{slots:List (Option Nat)}(N:List AR)(f:B4)(g:X.N=N)(l:X.env.scope=f)(kind:sc.kind=.function)
  (names:∀y∈sc.names,y.2=.local->sc.names.lookup y.1=AA .local) (a:∀y∈sc.names,y.2 ≠ .cell) (b:∀y∈sc.names,y.2=.free->f.names.lookup y.1=AA .cell)
  (c:∀p∈d.zip slots,(p.2.all λj=>decide (N[j]?=AA p.1/\sc.names.lookup p.1=AA .free))=AE) (len:slots.length=d.length):yaa X sc d slots:=by subst g l;refine#[kind,names,a,b,λi x j m n=>?_,len];have o:(x,AA j)∈d.zip slots:=A9 (i:=i) (by rw[List.getElem?_zip_eq_some];exact#[m,n]);have:=c _ o;simpa using this
section
variable {X:Cx}{sc:B4}{NC:List AR}{slots:List (Option Nat)}{D:List (AJ×Bw)}{A:St}{H:Hp}{s:AH}
theorem yaa.cells(O:yaa X sc NC slots)(ok:X.Ok):∀y∈sc.names,y.2=.free->∃c,X.env.cells.lookup y.1=AA c:=λy a b=>ok.has y.1 (.inl (O.free y a b))
theorem yaa.sub(O:yaa X sc NC slots)(ok:X.Ok):∀x c,(yc2 sc X.env).lookup x=AA c->X.env.cells.lookup x=AA c:=zbW sc.names [] (O.cells ok) λ_ _ e=>nomatch e
theorem yaa.rel(O:yaa X sc NC slots)(ok:X.Ok){x:AR}(h:sc.names.lookup x=AA .free):(relabel sc X.env).names.lookup x=AA .cell:=by rw[zbU,h];have e:X.env.kindOf x=AA .cell:=O.free _ (mem_of_lookup h) rfl;simp[ycX,ok.kind,e]
def zeY(I:Inv X D A H s)(O:yaa X sc NC slots){C:List AJ}(hf:∀b∈C,ybi X D H b)(E:∀b∈C,∃o,s.heap.get? b=AA o){n:Au}{t':Nat}{m:AR->Option AG}(G:n.Ns s.heap.objs.size m)
  (g:∀b o,s.heap.get? b=AA o->n.get? b=AA o):Inv (cxC X sc NC #[s.heap.objs.size,s,H,C]) [] (inn slots A) H {s with heap:=n,toks:=t'}:=by
 have sub:=O.sub I.ok;have J:∀b,b≠X.env.locals->b∉X.fs->b∉frs X.stack:=λb n h2 d=>(A8.mp (I.stkSub b d)).elim n h2;have ltC:∀x c,(yc2 sc X.env).lookup x=AA c->c<s.heap.objs.size:=λx c e=>by let#[v,q]:=I.cell x c (sub x c e);exact q.lt
 refine#[#[I.ok.mod,O.kind,I.ok.glob,I.ok.blt,AU _,λx y c L M=>I.ok.inj x y c (sub x c L) (sub y c M),λx hx=>?_,λ_ _ z=>(nomatch z),I.ok.hd,I.ok.frames,.inl rfl,λb d=>#[?_,λx c e=>(hf b d).2.2.2.2.1 x c (sub x c e)],I.bs,Bl I.ok.bsz I.sz,λb o e d=>?_,λb d=>J b (hf b d).2.1 (hf b d).2.2.1,I.stack,I.stkFree],
  rfl,I.bare,Un.kept g,#[m,G,λi x v L M e3=>?_],λx c e=>?_,I.hok.fresh (AU _),λx c e=>I.freeC x c (sub x c e),λp hp=>(nomatch hp),I.hok.kept g,?_]
 .have f:(relabel sc X.env).names.lookup x=AA .cell \/ (relabel sc X.env).names.lookup x=AA .free:=hx;rw[zbU]at f
  cases q:sc.names.lookup x with
  |none=>
   rw[q]at f;rcases f with z|z<;>cases z
  |some k=>
   have Z:=mem_of_lookup q;have N:k=.free:=by
    rw[q]at f;have nc:=O.nocell _ Z
    by_cases g:k=.free
    .exact g
    .exfalso;have d:(k==DJ)=false:=by simpa using g
     rcases f with z|z
     .simp[ycX,d]at z;exact nc z
     .simp[ycX,d]at z;exact g z
   subst N;exact zaN sc.names [] _ Z rfl
 .let#[o,e]:=E b d;exact Ad (A0 e)
 .rcases (hf b d).2.2.2.1 with z|z
  .exact I.ok.noex b o e z
  .exact absurd (Af (A0 e) (Bl I.ok.bsz z)) (D9 _)
 .obtain⟨j,e4,e5⟩:∃j,slots[i]?=AA (AA j)/\A[j]?=AA (AA v):=by
   have a:(slots.map λo=>o.bind λj=>(A[j]?).join)[i]?=AA (AA v):=M;rw[BG]at a
   cases q:slots[i]? with
   |none=>
    rw[q]at a
    cases a
   |some o=>
    rw[q]at a
    cases o with
    |none=>cases a
    |some j=>
     refine#[j,rfl,?_];have l:(A[j]?).join=AA v:=Aa a
     cases q2:A[j]? with
     |none=>
      rw[q2]at l
      cases l
     |some w=>
      rw[q2]at l;have t:w=AA v:=l;rw[t]
  let#[l,t]:=O.slot i x j L e4;have kc:X.env.scope.names.lookup x=AA .cell:=O.free _ (mem_of_lookup t) rfl;let#[m0,hn0,hl]:=I.loc;let#[u,r,lk]:=hl j x v l e5 (.inr (.inl kc));refine#[u,r,.inr #[.inl (O.rel I.ok t),?_]];rcases lk with⟨z,_⟩|⟨_,c,hc,o,Q,U⟩
  .rw[show X.env.kindOf x=AA .cell from kc]at z
   cases z
  .let#[Y,B]:=zaN (env:=X.env) sc.names [] _ (mem_of_lookup t) rfl;have e8:Y=c:=Aa ((sub x Y B).symm.trans hc);subst e8;exact#[Y,B,o,g _ _ Q,U]
 .let#[v,o,Q,U]:=I.cell x c (sub x c e);exact#[v,o,g _ _ Q,U]
 .show (slots.map λo=>o.bind λj=>(A[j]?).join).length=NC.length;rw[Ae,O.len]
def zeX(I:Inv X D A H s){f:List AJ}(hf:∀b∈f,ybi X D H b){C:AJ}(r:s.heap.objs.size<=C){pl:List (AJ×Bw)}{t:St}{g:Hp}{s':AH}(J:Inv (cxC X sc NC #[C,s,H,f]) pl t g s')
  {p:Au} (j:C0 C s'.heap p):Inv X D A g {s' with heap:=p}:=by
 have m:∀b o,s.heap.get? b=AA o->b≠C:=λb o e=>Ad (Af (A0 e) r);have B:Un (frs X.stack) f H g s.heap s'.heap:=J.base;have l:g C=none:=J.free;refine I.call' (ch:=f) J.os #[λb o e n a d=>(j.2 b (m b o e)).trans (B.keep b o e n a d),λb o e n a d=>?_,B.free,λb o e d=>?_,B.tups,B.frzs,B.tbls] (λb u e=>?_) J.bare λb a=>#[(hf b a).2.2.2.1,(hf b a).2.1,(hf b a).2.2.2.2.1,(hf b a).2.2.2.2.2]
 .let#[w,q]:=B.slot b o e n a d;exact#[w,(j.2 b (m b o e)).trans q]
 .let#[x,q]:=B.there b o e d;exact#[x,(j.2 b (m b o e)).trans q]
 .refine(J.hok b u e).stay (λc v y q=>(j.2 c λz=>?_).trans q) (λ_ q=>q) λ_ _ q=>q;subst z;rcases y with z|z
  .rw[z,e]at l
   cases l
  .rw[z]at l
   cases l
end
def PTs(X:Cx)(a:List AZ)(t:TT):Prop:=
 ∀(C:List (AJ×Bw)) (s:AH) (B:St) (H:Hp) (Q:Bool->Hp->Prop),Inv X C B H s->t B H Q->A1 (model X.prog X.w) X.A (ydv a X.env) (TP X C B Q) X.xe s
def yhy:TT:=λ_ H Q=>Q AE H
def zjs{X:Cx}:PTs X [] yhy:=λ_ _ _ H _ I h=>wpAny_tests_nil #[H,I,h]
def zjN{X:Cx}{c:AZ}{t:TT}(h:PT X c t):PTs X [c] t:=λB s A H Q I q=>wpAny_tests_one (h B s A H Q I q)
def ycc(J:It)(D:AJ)(g:TG)(ti:TT)(q:TE)(W:Nat->Nat->St->List V->Hp->Prop)(Q:Hp->Prop):Prop:=
 ∀i m Ac a c,W i m Ac a c->c D=AA (.lst a)/\((J.stop i c/\Q c) \/ (J.go i c/\a.length<sizeLine/\∃N:St->List V->Hp->Prop,(∀f d j,N f d j->∃l,l < m/\W (i+1) l f d j) /\
  ∀x n,J.yld i c x n->g x Ac n λA4 r=>ti A4 r λb o=>if b=AE then q A4 o λy p=>p D=AA (.lst a)/\N A4 (a++[y]) (upd p D (.lst (a++[y])))else N A4 a o))
def ycz(slots:List (Option Nat))(b:TI)(g:TG)(ti:TT)(c:TE):TE:=λA H Q=>b A H λJ a=>∀D,a D=AD->∃W:Nat->Nat->St->List V->Hp->Prop,(∃m,W 0 m (inn slots A) [] (upd a D (.lst [])))/\ycc J D g ti c W (Q (.ref D))
section
variable {X:Cx}{sc:B4}{NC:List AR}{slots:List (Option Nat)}{elt tg iter:AZ}{ifs:List AZ}{pos:CK}{g:TG}{ti:TT}{te:TE}
def ziV(hc:X.calm=AE)(hg:∀j,PG (cxC X sc NC j) tg g)(ht:∀j,PTs (cxC X sc NC j) ifs ti)(he:∀j,PE (cxC X sc NC j) elt te){a:CI}{it D:AJ}{Z:Nat->Au->Prop}{J:It}
  {W:Nat->Nat->St->List V->Hp->Prop} {Q:Hp->Prop} {R:F0->AH->Prop} {s:AH} {Bc:St} {ys:List V} {H:Hp} (T:Turn X.prog X.w X.K tg J a.fp it Z)
  (I:Inv (cxC X sc NC a) [] Bc H s) (hf:∀b∈a.fp,ybi (cxC X sc NC a) [] H b) (st:Z 0 s.heap) {m:Nat} (w0:W 0 m Bc ys H) (step:ycc J D g ti te W Q)
  (fin:∀A c L,Inv (cxC X sc NC a) [] A c L->Q c->R (.ok .next) L):
  codeAny (model X.prog X.w) X.A (.compLoop (.ListComp elt [#[tg,iter,ifs,0]] sc pos) 0 (.ref it) (.ref D) (cxC X sc NC a).env) R s:=by
 have l:∀{c:Hp},(∀b∈a.fp,c b=AD)->∀b∈a.fp,ybi (cxC X sc NC a) [] c b:=λhn b p=>#[hn b p,(hf b p).2];refine zg1 (λn L=>∃i A B c,Inv (cxC X sc NC a) [] A c L/\Z i L.heap/\(∀b∈a.fp,c b=AD)/\W i n A B c) ?_ m #[0,Bc,ys,H,I,st,λb p=>(hf b p).1,w0]
 rintro n s3 ⟨i,B3,C,H3,I3,M,O,w3⟩
 let#[hD,q]:=step i n B3 C H3 w3;rcases q with⟨stop,qn⟩|⟨go,hz,N,hN,U⟩
 .refine thn (T.done (cxC X sc NC a) rfl rfl rfl hc i [] s3 B3 H3 No I3 (l O) M stop) λr s4 f=>?_;let#[hr,I4]:=f;subst hr;exact fin B3 H3 s4 I4 qn
 .refine thn (T.item (cxC X sc NC a) rfl rfl rfl hc i [] s3 B3 H3 No I3 (l O) M go) λr s4 f=>?_;let#[u,hr,h4]:=f;subst hr;refine thn h4 λ_ s5 f=>?_;let#[x,H5,I5,r5,y5,E,fr5]:=f;have I5':=I5.pinned (l fr5) (T.obj _ _ E);refine thn (hg a _ s5 B3 H5 x u _ I5' r5 (U x H5 y5)) λ_ s6 f=>?_;let#[B6,H6,I6,q6]:=f;refine thn (ht a _ s6 B6 H6 _ I6 q6) λok s7 f=>?_;let#[H7,I7,q7]:=f;have again:∀{B8:St} {t:List V} {w:Hp} {G:AH},Inv (cxC X sc NC a) ([]++ybo a.fp s5.heap) B8 w G->N B8 t w->∃m,m<n/\∃i A B c,Inv (cxC X sc NC a) [] A c G/\Z i G.heap/\(∀b∈a.fp,c b=AD)/\W i m A B c:=λ{B8 t w G} Y n8=>by let#[m',hm,w8]:=hN B8 t w n8;refine#[m',hm,i+1,B8,t,w,Y.unpinned,T.keep _ _ _ E λb p o e=>(Y.pin (b,o) (Av _ (Av _ (zak p e)))).1,λb p=>?_,w8];let#[o,e,d]:=T.obj _ _ E b p;exact(Y.pin (b,o) (Av _ (Av _ (zak p e)))).2.1
  cases ok with
  |false=>
   rw[if_neg A3]at q7 ⊢;exact again I7 q7
  |true=>
   rw[if_pos rfl]at q7 ⊢;refine thn (he a _ s7 B6 H7 _ I7 q7) λy G f=>?_;let#[v,w,Y,r8,hD8,q8]:=f;refine thn (zcW (X:=cxC X sc NC a) _ G B6 w (.ref D) [v] (.ref D) [y] (λz c=>z=.non/\c=upd w D (.lst (C++[v]))) Y rfl (.cons r8 .nil) #[D,C,v,rfl,rfl,hD8,hz,rfl,rfl]) λz s9 f=>?_;let#[zv,H9,I9,r9,e1,e2]:=f;subst e2;exact again I9 q8
def zbI(hc:X.calm=AE)(O:yaa X sc NC slots)(hg:∀j,PG (cxC X sc NC j) tg g)(ht:∀j,PTs (cxC X sc NC j) ifs ti)(he:∀j,PE (cxC X sc NC j) elt te){E:List (AJ×Bw)}{s:AH}{B:St}{H:Hp}(I:Inv X E B H s)
  {it:AJ} {u:List AJ} {tn:Nat->Au->Prop} {J:It} (T:Turn X.prog X.w X.K tg J u it tn) (st:tn 0 s.heap) (hf:∀b∈u,ybi X E H b) {Q:VK}
  (h:∀D,H D=AD->∃W:Nat->Nat->St->List V->Hp->Prop,(∃m,W 0 m (inn slots B) [] (upd H D (.lst [])))/\ycc J D g ti te W (Q (.ref D))) {RR:AG->AJ->F0->AH->Prop}
  (fin:∀D C s' M,Q (.ref D) M->(∃o m,s'.heap.get? C=AA o/\s'.heap.Ns C m/\∀v,o.data ≠ .cell v)->ybi X E M C->(∀h2,C0 C s'.heap h2->Inv X E B M {s' with heap:=h2})->RR (.ref D) C (.ok .next) s'):
  A1 (model X.prog X.w) X.A (newList []) (λN c=>A1 (model X.prog X.w) X.A (newFunctionEnv sc X.env.globals (yc2 sc X.env) [] X.env.qual AD .none (AA X.env)) (λn s4=>
   codeAny (model X.prog X.w) X.A (.compStart (.ListComp elt [#[tg,iter,ifs,0]] sc pos) 0 (.ref it) N {n with scope:=relabel sc X.env}) (RR N n.locals) s4) X.xe c) X.xe s:=by
 refine Am (wpAny_newFunctionEnv O.nocell (by intro y hy;simp at hy) (λh1 f l=>?_) O.kind);dsimp only at f l ⊢;have hDn:H s.heap.objs.size=none:=I.hok.fresh (AU _);let#[W,#[m,w0],step]:=h s.heap.objs.size hDn;obtain⟨c,w⟩:∃x:AH,x=({s with heap:=s.heap.push {cls:=.type "list",dict:=AD,data:=.seq ([]:List AG).toArray} }:AH):=#[_,rfl];have e3:c.heap=s.heap.push {cls:=.type "list",dict:=AD,data:=.seq ([]:List AG).toArray}:=by rw[w]
 rw[<-e3]at f l;have U:∀b o,s.heap.get? b=AA o->c.heap.get? b=AA o:=λb o e=>by rw[e3];exact AL _ e
 have I3:Inv X E B (upd H s.heap.objs.size (.lst [])) c:=by have q:=I.laid (a:=s.heap.objs.size) (o:=.lst []) (h':=c.heap) (t':=s.toks) U (AU _) #[BB _,[],_,.nil,by rw[e3];exact AQ _ rfl];rw[w]at q ⊢;exact q
 have A:∀b∈u,ybi X E (upd H s.heap.objs.size (.lst [])) b:=λb d=>by let#[o,e,_]:=T.obj _ _ st b d;refine#[?_,(hf b d).2];rw[zc (Ad (A0 e))];exact(hf b d).1
 have G:tn 0 c.heap:=T.keep _ _ _ st λb _ o e=>U b o e;have hob:∀b∈u,∃o,c.heap.get? b=AA o:=λb d=>by let#[o,e,_]:=T.obj _ _ G b d;exact#[o,e]
 have L:∀b o,c.heap.get? b=AA o->h1.get? b=AA o:=λb o e=>l.extBut b o (Ad (A0 e)) (AL _ e);have J1:=zeY (t':=c.toks+([]:List (AR×AG)).length) I3 O A hob f L;have hfc:∀b∈u,ybi (cxC X sc NC #[c.heap.objs.size,c,upd H s.heap.objs.size (.lst []),u]) [] (upd H s.heap.objs.size (.lst [])) b:=λb d=>
  #[(A b d).1,(J1.ok.exf b d).1,J1.ok.exfs b d,.inl d,(J1.ok.exf b d).2,λp hp=>nomatch hp]
 have t:codeAny (model X.prog X.w) X.A (.compLoop (.ListComp elt [#[tg,iter,ifs,0]] sc pos) 0 (.ref it) (.ref s.heap.objs.size) (cxC X sc NC #[c.heap.objs.size,c,upd H s.heap.objs.size (.lst []),u]).env) (RR (.ref s.heap.objs.size) c.heap.objs.size)
   {c with heap:=h1,toks:=c.toks+([]:List (AR×AG)).length}:=by refine ziV (D:=s.heap.objs.size) (Q:=Q (.ref s.heap.objs.size)) hc hg ht he T J1 hfc (T.keep _ _ _ G λb _ o e=>L b o e) w0 step λB' M s' J' q'=>?_;have fC:M c.heap.objs.size=none:=J'.free;refine fin _ _ s' M q' ?_ (I3.fpOk (AU _) fC) λh2 d=>zeX I3 A (AU _) J' d;let#[m',Y,_]:=J'.loc;let#[o,es,ep,ho,hd,r]:=id Y;exact#[o,m',ho,Y,λv z=>by rw[hd]at z;cases z]
 have Z:=λ(RQ:AG->AH->Prop) (EE:AG->AH->Prop)=>T.self X.A 0 {c with heap:=h1,toks:=c.toks+([]:List (AR×AG)).length} RQ EE (T.keep _ _ _ G λb _ o e=>L b o e);subst w;exact codeAny_compStart_list t (Z _ _ t)
variable {wi:TI}
def zjy(c:X.calm=AE)(O:yaa X sc NC slots)(d:PI X tg iter wi)(f:∀j,PG (cxC X sc NC j) tg g)(l:∀j,PTs (cxC X sc NC j) ifs ti)(n:∀j,PE (cxC X sc NC j) elt te)
  (p:∀x,foldedSetIterable iter X.env x=pure x:=by intro _;rfl):PE X (.ListComp elt [#[tg,iter,ifs,0]] sc pos) (ycz slots wi g ti te):=by intro E s B H Q I h;rw[eval_ListComp];refine F2 (use:=AD) rfl p (z8 (O.cells I.ok)) O.kind O.names (thn (d E s B H _ I h) λv L q=>thn q λr M a=>?_);let#[N,U,Y,J,Z,rfl,t,T,b,u,w]:=a;refine zbI c O f l n t T b u w λD C s' y z #[o,m,ho,A,_] _ out=>#[m,A,λa G=>#[.ref D,y,out a G,rfl,z]]
def zkO{i:Nat}{x:AR}{l a:CK}(Y:X.N.Nodup)(n:X.N[i]?=AA x)(Z:Loc X.env.scope x)(hc:X.calm=AE)(O:yaa X sc NC slots)(hi:PI X tg iter wi)(hg:∀j,PG (cxC X sc NC j) tg g)(ht:∀j,PTs (cxC X sc NC j) ifs ti)(he:∀j,PE (cxC X sc NC j) elt te)
  (q:swapsWith (.ListComp elt [#[tg,iter,ifs,0]] sc pos) (AA (.Name x l)) a.line X.env=pure true:=by rfl) (hs:∀x,foldedSetIterable iter X.env x=pure x:=by intro _;rfl)
  (hf:X.fn x=AE \/ X.env.scope.names.lookup x=AA .local:=by first|exact .inl rfl|exact .inr rfl|assumption):PS X (.Assign [.Name x l] (.ListComp elt [#[tg,iter,ifs,0]] sc pos) a) (yeC (ycz slots wi g ti te) (ycn i)):=by
 intro E s B H G I h;rw[exec_Assign_Name_used _ _ _ _ q,arm_evalThenUse_ListComp];refine AB (Da (AB (AB ?_)));refine F2 (Q:=λ_ d=>A1 (model X.prog X.w) X.A (pure Unit.unit) (λ_ t=>A1 (model X.prog X.w) X.A (pure JA) (SP X E G) X.xe t) X.xe d) rfl hs (z8 (O.cells I.ok)) O.kind O.names (thn (hi E s B H _ I h) λv s1 h1=>thn h1 λitv s2 L=>?_);let#[it,fp,tn,J,H2,rfl,I2,T,w,f2,q2]:=L;refine zbI (Q:=λx H1=>ycn i x B H1 G.nx) hc O hg ht he I2 T w f2 q2 λD C d y q' #[o,m,M,hn,hd] c out=>?_;have N:Inv X E B y d:=out d.heap (Jg ..);have Ip:Inv X (E++[(C,o)]) B y d:=N.pins_of λp hp=>(Bj.mp hp).elim (λz=>N.pin p (Av _ z)) λz=>by
  have e:p=(C,o):=by simpa using z
  subst e;exact#[M,c.1,c.2.1,c.2.2.1,hd]
 show A1 (model X.prog X.w) X.A (assign (.Name x l) X.env (.ref D)) _ _ d;refine HJ (zQ Ip Y n Z (show RelV (.ref D) (.ref D)from rfl) (λs6 U=>?_) hf);have g6:=(U.pin (C,o) (Av _ (Av _ A2))).1;let#[o',es,ep,f,r]:=hn;rw[M]at f
 cases f
 refine#[m,#[o,es,ep,g6,r],λL hb=>AM (AM ?_)];exact#[_,y,U.unpinned.turned (t':=s6.toks) (λb u A e=>(hb.2 b A).trans e) c.1 c.2.1 c.2.2.2.1 c.2.2.2.2.1 c.2.2.2.2.2,q']
end
def zen:∀{bs:List Bool} {us:List AG},Vals (bs.map V.bl) us->LSm.BoolsAre us bs
 |[],_,.nil=>.nil
 |b::bs,_,.cons r q=>by
  cases (show _=Eg b from r)
  exact .cons b (zen q)
section
variable {X:Cx}
def ygZ(K:AF):List V->Hp->VK->Prop:=λa H Q=>∃(l:AJ) (bs:List Bool),a=[.ref l]/\SqL K H l (bs.map V.bl)/\Q (.bl (bs.all id)) H
def zhY(j:X.calm=AE):yam X (.builtin "all") (ygZ X.K):=by
 intro C s B H y z Q I r h;let#[l,bs,rfl,m,q]:=h;let#[u,rfl,n]:=Vals.one r
 cases (show u=Ag l from n)
 let#[a,o,p,D]:=I.list m;have f:=zen o;have c:=p.isList;have d:l<s.heap.objs.size:=by let#[_,e,_]:=c;exact A0 e
 refine call_all_walk (Dz c ?_);refine#[s.heap.objs.size,[s.heap.objs.size,l],[s.heap.objs.size],a.toArray.size,_,_,λi=>(bs[i]?).getD AE,rfl,Jd (A:=X.A.in1) (I.ok.hd j) _ l (Ad d) a.toArray,#[#[_,AQ _ rfl,rfl,rfl],c.push _],λi v E G J t g=>?_,λL w x=>?_]
 .let#[b,e,rfl]:=f.get i v (by simpa using t);erw[e,B7]at g;exact Bd g
 .have e:((DR a.toArray.size).all λi=>(bs[i]?).getD AE)=bs.all id:=by rw[AX,f.length];exact LSm.range_all bs
  rw[e];exact#[.bl _,H,I.kept (t':=w) (LSm.kept_iter x),rfl,q]
end
section
variable {X:Cx}{B:List (AJ×Bw)}{A:St}{H:Hp}{s:AH}
end
section
variable {X:Cx}{a:AZ}{ta:TE}{K:AF}
end
end L2
namespace L2
end L2
namespace L2
open PySem PySem.Spec PyProof.Rows
def CX1(P:A6)(w:Ah):CXT:=λc H s E e d=>∃(a:AJ) (f j:AG) (g:Hp) (B:Au),e=.ref a/\d.os=s.os/\Dr d.gens/\GF B c a f j d.heap/\HOk P w g d.heap/\Un (frs c) [] H g s.heap d.heap /\
 (∀b o,s.heap.get? b=AA o->H b=AD->b∉frs c->B.get? b=AA o)/\(∀b u,g b=AA u->∃o,B.get? b=AA o)/\(∀b o,s.heap.get? b=AA o->b∉frs c->∃l,B.get? b=AA l)/\E f AD g
theorem yH.there{P:A6}{w:Ah}{H:Hp}{h:Au}{a:AJ}{o:HO}(x:yH P w H h a o):∃b,h.get? a=AA b:=by
 induction o with
 |lst d=>let#[_,_,_,_,e]:=x;exact#[_,e]
 |tup d=>let#[_,_,_,e]:=x;exact#[_,e]
 |dK c=>let#[_,_,_,_,b,_,_,e,_]:=x;exact#[b,e]
 |dT c=>let#[_,_,_,_,b,_,_,e,_]:=x;exact#[b,e]
 |set S n=>let#[b,_,_,_,e,_]:=x;exact#[b,e]
 |ins C g fs=>let#[_,_,_,e,_]:=x;exact#[_,e]
 |own y=>exact x
 |xd fs=>let#[_,#[b,_,_,e,_],_]:=x;exact#[b,e]
 |rng lo j=>let#[_,_,_,e]:=x;exact#[_,e]
 |frz b u ih=>exact#[b,x.1]
 |tbl l=>exact#[_,x]
 |met f y=>exact#[_,x]
 |ext A=>exact x.2.1
theorem HOk.inB{P:A6}{w:Ah}{H:Hp}{h h' B:Au}(ok:HOk P w H h)(j:B.StaysIn h)(c:B.StaysIn h')(f:∀b u,H b=AA u->∃o,B.get? b=AA o):HOk P w H h':=λa o e=>
 (ok a o e).stay (λb u l q=>by
  have d:∃o,B.get? b=AA o:=by
   rcases l with z|z
   .rw[z];exact f a o e
   .exact f b _ z
  let#[m,g]:=d;have:=j b m g;rw[q]at this
  cases this
  exact c b u g) (λ_ q=>q) λ_ _ q=>q
section
variable {P:A6}{w:Ah}{K:AF}{mg:AR->Option AG}{base:Au}{N:List AR}{qual:AR}{scope:B4}{f:AJ}{cd:AG}{A:Ai}{outer:List Env}{s₀:AH}{H₀:Hp}{E:XK}
 {D:List (AJ×Bw)} {C:St} {H:Hp} {s:AH}
def zgi{h':Au}{e:AJ}{cls:AG}{vs:List AG}(I:Inv (yaU (CX1 P w) P w K mg base N qual scope f cd A outer s₀ H₀ E) D C H s)(M:Ig s.heap h' e cls vs)(U:E cls AD H):
  (yaU (CX1 P w) P w K mg base N qual scope f cd A outer s₀ H₀ E).xe (.ref e) {s with heap:=h'}:=by
 have g:s.heap.FunFrames base (envOfC qual scope s₀.heap.objs.size f cd::outer):=I.stack;have j:∀b,b∈frs (envOfC qual scope s₀.heap.objs.size f cd::outer)->b=s₀.heap.objs.size \/ b∈frs outer:=λb d=>by have y:b∈s₀.heap.objs.size::frs outer:=d;exact A8.mp y
 have inB:∀b o,s.heap.get? b=AA o->b∉frs (envOfC qual scope s₀.heap.objs.size f cd::outer)->(Di s.heap (frs (envOfC qual scope s₀.heap.objs.size f cd::outer))).get? b=AA o:=λb o q n=>Gk _ q n;have O:(Di s.heap (frs (envOfC qual scope s₀.heap.objs.size f cd::outer))).StaysIn s.heap:=λb o q=>HD _ q;have c:Un (frs outer) [] H₀ H s₀.heap s.heap:=I.base;have lt:∀b o,s₀.heap.get? b=AA o->b≠s₀.heap.objs.size:=λb o q=>Ad (A0 q);have Q:∀b u,H b=AA u->∃o,(Di s.heap (frs (envOfC qual scope s₀.heap.objs.size f cd::outer))).get? b=AA o:=λb u q=>by
  let#[o,X]:=yH.there (I.hok b u q);exact#[o,inB b o X λd=>by
   have:=I.stkFree b d;rw[q]at this
   cases this]
 refine wpAny_leaves_madeW (base:=Di s.heap (frs (envOfC qual scope s₀.heap.objs.size f cd::outer))) (h:=s.heap) I.ok.frames rfl O (PySem.W.funFrames_hide g λB Y a Z=>El.mpr #[B,Y,Z]) M λG t fl tu tn up=>?_;have r:s.heap.UpToSlots G:=(JC M.keeps).trans up;refine#[e,cls,_,H,_,rfl,I.os,I.bare,fl,HOk.inB I.hok O fl.1 Q,#[λb o q n d _=>?_,λb o q n d _=>?_,c.free,λb o q _=>?_,c.tups,c.frzs,c.tbls],λb o q n d=>?_,Q,λb o q d=>?_,U]
 .refine fl.1 b o (inB b o (c.keep b o q n d (by simp)) λz=>?_);rcases j b z with z|z
  .exact lt b o q z
  .exact d z
 .let#[sl,l]:=c.slot b o q n d (by simp);let#[_,m,p,J]:=Bi g (show b∈EA (λ(z:Env)=>z.frame) _ from AS _ d);let#[x,L]:=r b _ l (by rw[p]at l;cases l;exact J);exact#[x,L]
 .let#[m,l]:=c.there b o q (by simp)
  by_cases d:b∈frs (envOfC qual scope s₀.heap.objs.size f cd::outer)
  .let#[_,o2,p,J]:=Bi g d;let#[x,L]:=r b _ p J;exact#[_,L]
  .exact#[m,fl.1 b m (inB b m l d)]
 .refine inB b o (c.keep b o q n d (by simp)) λz=>?_;rcases j b z with z|z
  .exact lt b o q z
  .exact d z
 .let#[m,l]:=c.there b o q (by simp);refine#[m,inB b m l λz=>?_];rcases j b z with z|z
  .exact lt b o q z
  .exact d z
def zpa:ybq (CX1 P w) (yaU (CX1 P w) P w K mg base N qual scope f cd A outer s₀ H₀ E) E:=by
 intro D C H s e s' I h;let#[a,y,a0,U,B,rfl,os,p,fl,G,un,hB,X,hT,hE]:=h;have c:Un (frs outer) [] H₀ H s₀.heap s.heap:=I.base;have lt:∀b o,s₀.heap.get? b=AA o->b≠s₀.heap.objs.size:=λb o q=>Ad (A0 q);have r:∀b,b∈frs (envOfC qual scope s₀.heap.objs.size f cd::outer)->b=s₀.heap.objs.size \/ b∈frs outer:=λb d=>by have J:b∈s₀.heap.objs.size::frs outer:=d;exact A8.mp J
 have g:Un (frs (envOfC qual scope s₀.heap.objs.size f cd::outer)) [] H U s.heap s'.heap:=un;have Y:∀b o,s₀.heap.get? b=AA o->H₀ b=AD->b∉frs outer->B.get? b=AA o:=λb o q n d=>hB b o (c.keep b o q n d (by simp)) (c.free b o q n (by simp)) λz=>by
  rcases r b z with z|z
  .exact lt b o q z
  .exact d z
 have Z:∀b o,s₀.heap.get? b=AA o->b∉frs outer->∃l,B.get? b=AA l:=λb o q d=>by
  let#[l,m]:=c.there b o q (by simp);refine hT b l m λz=>?_;rcases r b z with z|z
  .exact lt b o q z
  .exact d z
 refine wpAny_leaves_onW I.ok.frames rfl fl λh'' j up=>?_;refine#[a,y,a0,U,B,rfl,os.trans I.os,p,j,HOk.inB G fl.1 j.1 X,#[λb o q n d _=>j.1 b o (Y b o q n d),λb o q n d _=>?_,λb o q n _=>?_,λb o q _=>?_,λb xs q=>g.tups b xs (c.tups b xs q),λb o u q=>g.frzs b o u (c.frzs b o u q),λb ps q=>?_],Y,X,Z,hE]
 .let#[sl,m]:=c.slot b o q n d (by simp);have n1:=c.free b o q n (by simp);let#[sl1,x]:=g.slot b _ m n1 (AS _ d) (by simp);let#[_,l,L,M]:=Bi fl.2.2.1 (show b∈EA (λ(z:Env)=>z.frame) _ from AS _ d);let#[t,O]:=up b _ x (by rw[L]at x;cases x;exact M);exact#[t,O]
 .let#[l,m]:=c.there b o q (by simp);exact g.free b l m (c.free b o q n (by simp)) (by simp)
 .let#[l,m]:=c.there b o q (by simp);let#[o2,x]:=g.there b l m (by simp)
  by_cases d:b∈frs outer
  .let#[_,o3,Q,M]:=Bi fl.2.2.1 (show b∈EA (λ(z:Env)=>z.frame) _ from AS _ d);let#[t,O]:=up b _ Q M;exact#[_,O]
  .let#[o4,q4]:=Z b o q d;exact#[o4,j.1 b o4 q4]
 .let#[m1,e1]:=c.tbls b ps q;let#[m2,e2]:=g.tbls b _ e1;exact#[m1++m2,by rw[e2,Ei]]
end
section
variable {X:Cx}{e:AZ}{es:List AZ}{te:TE}
abbrev TJ:=AR->St->Hp->VK->Prop
def PJ(X:Cx)(es:List AZ)(t:TJ):Prop:=
 ∀(out:AR) (C:List (AJ×Bw)) (s:AH) (B:St) (H:Hp) (Q:VK),Inv X C B H s->t out B H Q->A1 (model X.prog X.w) X.A (joinParts out (evalEach es X.env)) (EP X C B Q) X.xe s
def ygp:TJ:=λout _ H Q=>out.length<=sizeLine/\Q (.str out) H
def yeF(te:TE)(t:TJ):TJ:=λout B H Q=>te B H λv a=>∃y,v=.str y/\(out++y).length<=sizeLine/\t (out++y) B a Q
def zlR:PJ X [] ygp:=λout _ _ _ H _ I h=>joinParts_nil #[.str out,H,I.tok _,#[_,rfl],h.2] h.1
def zkB{t:TJ}(a:PE X e te)(b:PJ X es t)(c:evalEach (e::es) X.env=eval e X.env::evalEach es X.env:=by rfl):PJ X (e::es) (yeF te t):=by intro out C s B H Q I h;rw[c];refine joinParts_cons (thn (a C s B H _ I h) λv d f=>?_);let#[x,g,j,l,y,m,n,q]:=f;subst m;let#[o,rfl]:=l;exact#[n,b (out++y) C d B g Q j q]
def ycG(t:TJ):TE:=λB H Q=>t C6 B H Q
def zhf{a b:AZ}{rest:List AZ}{pos:CK}{t:TJ}(h:PJ X (a::b::rest) t):PE X (.JoinedStr (a::b::rest) pos) (ycG t):=λC s B H Q I q=>JoinedStr_many (h C6 C s B H Q I q)
end
section
variable {X:Cx}{e:AZ}{es:List AZ}{t:TA}{E:XK}
end
structure yfG(K:AF)(C:AJ):Prop where
 ga:Ak K (.ref C) "__getattribute__"=AA (AA (.builtin "BaseException.__getattribute__"))
 gh:Ak K (.ref C) "__getattr__"=AA AD
 cl:Ak K (.ref C) "__class__"=AA (AA (.builtin "object.__class__"))
 sb:Ir K (.ref C) (.type "BaseException")=AA AE
 mo:Is K C (.type "object")=AA AE
 ct:∃cd,Iu K C=AA cd
section
variable {pg:A6}{wd:Ah}{A:Ai}{E:AG->AH->Prop}{h:Au}{g:Array GenState}{d:Drawn}{t:Nat}{os:OsState}{a C:AJ}{o:Bw}{K:AF}
end
def ycm(a C:AJ):Au->Prop:=λh=>∃o,h.get? a=AA o/\o.cls=.ref C
theorem ycm.keep{a C:AJ}{b d:Au}(x:ycm a C b)(k:∀o,b.get? a=AA o->d.get? a=AA o):ycm a C d:=by let#[o,h,c]:=x;exact#[o,k o h,c]
section
variable {X:Cx}
end
section
variable {X:Cx}{C:List (AJ×Bw)}{A:St}{H:Hp}{s:AH}
theorem Inv.track{a:AJ}{o:HO}(I:Inv X C A H s)(d:H a=AD)(r:∀t,X.s₀.heap.get? a≠AA t)(w:a≠X.env.locals)(y:∀x c,X.env.cells.lookup x=AA c->c≠a)(B:∀p∈X.pn++C,p.1≠a)
  (f:yH X.prog X.w (upd H a o) s.heap a o):Inv X C A (upd H a o) s:=by
 refine#[I.ok,I.os,I.bare,#[I.base.keep,I.base.slot,λb u e n D=>?_,I.base.there,λb g e=>?_,λb u v e=>?_,λb E e=>?_],I.loc,I.cell,?_,λx c e=>?_,λp j=>?_,λb u e=>?_,I.len]
 .rw[zc (λz:b=a=>r u (z ▸ e))];exact I.base.free b u e n D
 .have q:=I.base.tups b g e;rw[zc (zd q d)];exact q
 .have q:=I.base.frzs b u v e;rw[zc (zd q d)];exact q
 .let#[m,q]:=I.base.tbls b E e;refine#[m,?_];rw[zc (zd q d)];exact q
 .rw[zc (BR w)];exact I.free
 .rw[zc (y x c e)];exact I.freeC x c e
 .let#[G,J,L]:=I.pin p j;refine#[G,?_,L];rw[zc (B p j)];exact J
 .by_cases l:b=a
  .subst l;rw[zh]at e
   cases e
   exact f
  .rw[zc l]at e;exact(I.hok b u e).stay (λ_ _ _ q=>q) (λc q=>by rw[zc (zd q d)];exact q) λc g q=>by rw[zc (zd q d)];exact q
theorem Inv.back{c:AH}{h:Au}{p:Hp}{B:Au}{a:AJ}{cls y:AG}{t':Nat}(I:Inv X C A H s)(os:c.os=s.os)(j:Dr c.gens)(fl:GF B X.stack a cls y c.heap)(r:HOk X.prog X.w p c.heap)(un:Un (frs X.stack) [] H p s.heap c.heap)
  (D:∀b o,s.heap.get? b=AA o->H b=AD->b∉frs X.stack->B.get? b=AA o) (E:∀b u,p b=AA u->∃o,B.get? b=AA o) (G:∀b o,s.heap.get? b=AA o->b∉frs X.stack->∃g,B.get? b=AA g) (st:B.StaysIn h) (x:c.heap.UpToSlots h):
  Inv X C A p {c with heap:=h,toks:=t'}:=by
 refine I.call' (ch:=[]) (s':={c with heap:=h,toks:=t'}) os #[λb o q n d _=>st b o (D b o q n d),λb o q n d _=>?_,un.free,λb o q _=>?_,un.tups,un.frzs,un.tbls] (HOk.inB r fl.1 st E) j (λb z=>absurd z (by simp))
 .let#[J,l]:=un.slot b o q n d (by simp);let#[_,g,f,t]:=Bi fl.2.2.1 d;let#[m,w]:=x b _ l (by rw[f]at l;cases l;exact t);exact#[m,w]
 .by_cases d:b∈frs X.stack
  .let#[_,g,f,t]:=Bi fl.2.2.1 d;let#[m,w]:=x b _ f t;exact#[_,w]
  .let#[g,l]:=G b o q d;exact#[g,st b g l]
end
abbrev cxP(X:Cx)(pn:List (AJ×Bw)):Cx:={X with pn:=pn}
abbrev cxS(X:Cx)(pn:List (AJ×Bw))(a:AJ):Cx:={X with A:=X.A.mark (AA (.ref a)),calm:=AC,pn:=pn,xe:=No}
section
variable {X:Cx}{B:List (AJ×Bw)}{A:St}{H:Hp}{s:AH}
theorem Cx.Ok.pn(ok:X.Ok)(pn:List (AJ×Bw)):(cxP X pn).Ok:=#[ok.mod,ok.kind,ok.glob,ok.blt,ok.above,ok.inj,ok.has,ok.cab,ok.hd,ok.frames,ok.stk,ok.exf,ok.bs,ok.bsz,ok.noex,ok.exfs,ok.funs,ok.frf]
theorem Cx.Ok.suite(ok:X.Ok)(pn:List (AJ×Bw))(a:AJ):(cxS X pn a).Ok:=#[ok.mod,ok.kind,ok.glob,ok.blt,ok.above,ok.inj,ok.has,ok.cab,(λz=>nomatch z),ok.frames,ok.stk,ok.exf,ok.bs,ok.bsz,ok.noex,ok.exfs,ok.funs,ok.frf]
theorem Inv.toP(I:Inv X B A H s):Inv (cxP X (X.pn++B)) [] A H s:=#[I.ok.pn _,I.os,I.bare,I.base,I.loc,I.cell,I.free,I.freeC,λp a=>I.pin p (by simpa using a),I.hok,I.len]
theorem Inv.ofP(ok:X.Ok){pl:List (AJ×Bw)}(I:Inv (cxP X (X.pn++B)) pl A H s):Inv X B A H s:=#[ok,I.os,I.bare,I.base,I.loc,I.cell,I.free,I.freeC,λp a=>I.pin p (Cn _ a),I.hok,I.len]
theorem Inv.toS(I:Inv (cxP X (X.pn++B)) [] A H s)(a:AJ):Inv (cxS X (X.pn++B) a) [] A H s:=#[Cx.Ok.suite (X:=X) #[I.ok.mod,I.ok.kind,I.ok.glob,I.ok.blt,I.ok.above,I.ok.inj,I.ok.has,I.ok.cab,I.ok.hd,I.ok.frames,I.ok.stk,I.ok.exf,I.ok.bs,I.ok.bsz,I.ok.noex,I.ok.exfs,I.ok.funs,I.ok.frf] _ a,I.os,I.bare,I.base,I.loc,I.cell,I.free,I.freeC,I.pin,I.hok,I.len]
theorem Inv.ofS(ok:X.Ok){a:AJ}{pl:List (AJ×Bw)}(I:Inv (cxS X (X.pn++B) a) pl A H s):Inv X B A H s:=#[ok,I.os,I.bare,I.base,I.loc,I.cell,I.free,I.freeC,λp b=>I.pin p (Cn _ b),I.hok,I.len]
end
section
variable {X:Cx}{body suite:List CL}{b₀:CL}{x n:AR}{np hpos pos:CK}{tb:XK->TS}{ts:TS}{W:AJ}{i:Nat}
end
structure yaE(k:Nat)(A:Ai):Prop where
 dp:A.depth+3*k+5<recursionLimit
 un:A.units+16*k+200<cLine
theorem yaA.h{k:Nat}{A:Ai}(r:yaA k A):yaE k A:=#[r.dp,r.un]
theorem yaE.mark{k:Nat}{A:Ai}{e:Option AG}(r:yaE k A):yaE k (A.mark e):=#[r.dp,r.un]
theorem yaE.deeper{k:Nat}{A:Ai}(r:yaE (k+1) A)(env:Env):yaE k (A.deeper env):=#[by have:=r.dp;show A.depth+1+3*k+5<_;lia,by have:=r.un;show A.units+3+16*k+200<_;lia]
structure ybP(P:A6)(w:Ah)(K:AF)(mg:AR->Option AG)(base:Au)(k:Nat)(f:AJ)(fd:BF)(ps:List AR)(sp:Sp):Prop where
 len:∀vs H Q E,sp vs H Q E->vs.length=ps.length
 run:∀(A:Ai) (outer:List Env) (s:AH) (H:Hp) (args:Args) (us:List AG) (vs:List V) (Q:VK),yaE k A->yco P w K mg base A outer s H->Fz s fd args (ps.zip us)->Vals vs us->sp vs H Q E0 ->
  codeAny (model P w) A (.call (.ref f) args) (CR CX0 outer P w H s Q E0) s
abbrev ybH(P:A6)(w:Ah)(K:AF)(c:AR->Option AG)(base:Au)(N:List AR)(b:AR)(a:B4)(f:AJ)(d:AG)(A:Ai)(outer:List Env)(s:AH)(H:Hp):Cx:=
 {yaU CX0 P w K c base N b a f d A outer s H E0 with calm:=AC,xe:=No}
theorem Inv.calmless{X:Cx}{C:List (AJ×Bw)}{B:St}{H:Hp}{s:AH}(I:Inv X C B H s)(A:Ai)(E:AG->AH->Prop)(hf:A.frames=X.A.frames):Inv {X with A:=A,calm:=AC,xe:=E} C B H s:=
 #[#[I.ok.mod,I.ok.kind,I.ok.glob,I.ok.blt,I.ok.above,I.ok.inj,I.ok.has,I.ok.cab,(λz=>nomatch z),hf.trans I.ok.frames,I.ok.stk,I.ok.exf,I.ok.bs,I.ok.bsz,I.ok.noex,I.ok.exfs,I.ok.funs,I.ok.frf],I.os,I.bare,I.base,I.loc,I.cell,I.free,I.freeC,I.pin,I.hok,I.len]
section
variable {P:A6}{w:Ah}{K:AF}{mg:AR->Option AG}{base:Au}
theorem Fun.okH{x a:AR}{st:CL}{f:AJ}{X:BF}{N p:List AR}{k:Nat}{sp:Sp}(F:Fun K x a st f X)(S:yaL N p (yh st))(len:∀vs H Q E,sp vs H Q E->vs.length=p.length)
  (g:∀(cdv:AG) (A:Ai) (outer:List Env) (s:AH) (H:Hp) (vs:List V) (Q:VK),yaE k (A.deeper (envOfC a (yh st) s.heap.objs.size f cdv))->sp vs H Q E0 ->
   ∃t,PSs (ybH P w K mg base N a (yh st) f cdv A outer s H) (yN st) t/\t {nx:=λ_ d=>Q .non d,rt:=Q} (start N vs) H):ybP P w K mg base (k+1) f X p sp:=by
 let#[oc,od,kV,doc,pm,an,cdv,ct,osl,rfl,lk,D]:=F.ex;refine#[len,λA outer s H Y us vs Q Z c hb r l=>?_];have hl:=len _ _ _ _ l;have KX:K.In s.heap:=c.mod.kin.keeps λb o e=>(c.bs b o e).1;have G:s.heap.NoLimit:=c.mod.nolimit.keeps λb o e=>(c.bs b o e).1;have j:∀y∈p.zip us,(yh st).names.lookup y.1=AA .local \/ ((yh st).names.lookup y.1=AA .cell/\((cellsFrom (s.heap.objs.size+1) (yh st).names []).lookup y.1).isSome=AE):=λ#[n,v] hy=>by
  rcases S.par n (E2 hy).1 with q|q
  .exact .inl q
  .exact .inr #[q,Dv _ _ _ (.inl q)]
 refine GR (by have:=Z.dp;lia) (KX _ _ lk) rfl S.co S.gen rfl (HF KX D) (hb _ _ _ _ ?_);refine Ep S.kind j λenv he L x=>?_;subst he;refine#[G.keeps x.toInCall.keep,codeAny_func ?_];let#[t,ht,hq]:=g cdv A outer s H vs Q (Z.deeper _) l;have M:yco P w K mg base {A with handled:=AD} outer s H:=#[c.frames,c.mod,c.bs,c.bsz,c.funs,c.frf,c.hok,c.bare];have I0:Inv (yaU CX0 P w K mg base N a (yh st) f cdv {A with handled:=AD} outer s H E0) [] (start N vs) H L:=zcz S rfl M hl r x;have I:Inv (ybH P w K mg base N a (yh st) f cdv A outer s H) [] (start N vs) H L:=I0.calmless (A.deeper (envOfC a (yh st) s.heap.objs.size f cdv)) No rfl;refine CC (ht [] L (start N vs) H _ I hq) (λfl O B=>?_) λe O z=>z.elim;have m:∀{C:St} {d:Hp} {v:V} {u:AG},Inv (ybH P w K mg base N a (yh st) f cdv A outer s H) [] C d O->RelV v u->Q v d->CE outer P w H s Q u O:=
  λ{C d v u} J U q=>#[v,d,J.os,J.bare,J.base,J.hok,U,q]
 cases fl with
 |ret u=>
  let#[v,C,d,J,U,q]:=B;exact m J U q
 |next=>
  let#[C,d,J,q]:=B;exact m (v:=V.non) (u:=BJ) J rfl q
 |brk=>
  let#[_,_,_,q]:=B;exact Bn q
 |cont=>
  let#[_,_,_,q]:=B;exact Bn q
end
section
variable {X:Cx}{k:Nat}{f:AJ}{fd:BF}{ps:List AR}{sp:Sp}{x:AR}{p pos:CK}{e:AZ}{es:List AZ}{t:TA}
end
section
variable {P:A6}{w:Ah}{K:AF}{mg:AR->Option AG}{base:Au}
theorem own1{N:List AR}{b:AR}{a:B4}{f:AJ}{c:AG}{A:Ai}{outer:List Env}{s:AH}{H:Hp}{E:XK}{CX:CXT}:
  F9 (model (yaU CX P w K mg base N b a f c A outer s H E).prog (yaU CX P w K mg base N b a f c A outer s H E).w) (yaU CX P w K mg base N b a f c A outer s H E).A (yaU CX P w K mg base N b a f c A outer s H E).env (yaU CX P w K mg base N b a f c A outer s H E).xe:=
 PassesOwn.leaving
end
section
variable {X:Cx}
end
section
variable {X:Cx}
def ygu(K:AF):List V->Hp->VK->Prop:=λb H Q=>∃(l:AJ) (a:List Int),b=[.ref l]/\SqL K H l (a.map V.int)/\Q (.int a.sum) H
def zic(g:X.calm=AE):yam X (.builtin "sum") (ygu X.K):=by
 intro B s A H x y Q I r h;let#[l,a,rfl,j,q]:=h;let#[u,rfl,m]:=Vals.one r
 cases (show u=Ag l from m)
 let#[b,n,o,z]:=I.list j;have d:Gi b a:=zeQ n;let#[p,e]:=d.allInts.items;have c:a=p.toList.map (·.1):=by rw[<-d.numsOf,<-nums_intItems,<-e]
 have f:=o.isList;rw[e]at f;refine sum_intListG (I.ok.hd g) f λC t t' w=>#[.int a.sum,H,I.kept (t':=t) w,#[t',?_],q];rw[preSum_eq,GG (by simp),<-c]
end
section
variable {R:Type}[DecidableEq R]
def yaS(a:List (R×V))(k:R):Option V:=(a.find? λb=>decide (b.1=k)).map (·.2)
def putK(a:List (R×V))(k:R)(v:V):List (R×V):=
 if (a.any λb=>decide (b.1=k))=AE then a.map (λb=>if b.1=k then(b.1,v)else b)else a++[(k,v)]
def zaj{p:R×V}{r:List (R×V)}{k:R}(e:p.1=k):yaS (p::r) k=AA p.2:=by simp[yaS,CZ,e]
def zaf{p:R×V}{r:List (R×V)}{k:R}(e:¬p.1=k):yaS (p::r) k=yaS r k:=by simp[yaS,CZ,e]
def zeg(k:R):∀a:List (R×V),(a.any λb=>decide (b.1=k))=(yaS a k).isSome
 |[]=>rfl
 |p::r=>by
  rw[CA]
  by_cases e:p.1=k
  .simp only[zaj e,decide_eq_true e,JH,Option.isSome_some]
  .rw[zaf e,decide_eq_false e,Iv];exact zeg k r
def zbs(a:List (R×V))(k:R)(v:V):(putK a k v).length<=a.length+1:=by
 unfold putK;split
 .rw[Ae];lia
 .rw[Bg,AY,Aj];lia
theorem ybg.isSome_eq{o:Option V}{u:Option AG}(r:ybg o u):o.isSome=u.isSome:=by
 cases o with
 |none=>cases u with
  |none=>rfl
  |some _=>exact(show False from r).elim
 |some _=>cases u with
  |none=>exact(show False from r).elim
  |some _=>rfl
theorem ybg.getD{o:Option V}{u:Option AG}{d:V}{d':AG}(r:ybg o u)(a:RelV d d'):RelV (o.getD d) (u.getD d'):=by
 cases o with
 |none=>cases u with
  |none=>exact a
  |some _=>exact(show False from r).elim
 |some _=>cases u with
  |none=>exact(show False from r).elim
  |some _=>exact r
theorem KV.val{a:List (R×V)}{vs:List (R×AG)}(r:KV a vs)(k:R):ybg (yaS a k) (valueAt vs k):=by
 unfold KV at r
 induction r with
 |nil=>exact CM
 |@cons p q j c h t ih=>
  let#[f,g]:=h
  by_cases e:p.1=k
  .have d:q.1=k:=f.symm.trans e;have b:valueAt (q::c) k=AA q.2:=by simp[valueAt,CZ,d]
   rw[zaj e,b];exact g
  .have d:¬q.1=k:=λz=>e (f.trans z);have b:valueAt (q::c) k=valueAt c k:=by simp[valueAt,CZ,d]
   rw[zaf e,b];exact ih
theorem KV.any{a:List (R×V)}{vs:List (R×AG)}(r:KV a vs)(k:R):(a.any λb=>decide (b.1=k))=vs.any λb=>decide (b.1=k):=by
 unfold KV at r
 induction r with
 |nil=>rfl
 |cons h t ih=>rw[CA,CA,ih,h.1]
theorem KV.repl{b:List (R×V)}{vs:List (R×AG)}(r:KV b vs)(k:R){y:V}{u:AG}(d:RelV y u):
  KV (b.map λa=>if a.1=k then(a.1,y)else a) (vs.map λa=>if a.1=k then(a.1,u)else a):=by
 unfold KV at r ⊢
 induction r with
 |nil=>exact .nil
 |@cons p q g j h t ih=>
  rw[AV,AV];refine .cons ?_ ih;let#[c,f]:=h
  by_cases e:p.1=k
  .rw[if_pos e,if_pos (c.symm.trans e)];exact#[c,d]
  .rw[if_neg e,if_neg (λz=>e (c.trans z))];exact#[c,f]
theorem KV.put{a:List (R×V)}{vs:List (R×AG)}(r:KV a vs)(k:R){y:V}{u:AG}(b:RelV y u):KV (putK a k y) (stored vs k u):=by
 unfold putK stored;rw[r.any k]
 by_cases e:(vs.any λc=>decide (c.1=k))=AE
 .rw[if_pos e,if_pos e];exact r.repl k b
 .rw[if_neg e,if_neg e];exact J4 r #[rfl,b]
theorem KV.keys{a:List (R×V)}{vs:List (R×AG)}(r:KV a vs):a.map (·.1)=vs.map (·.1):=by
 unfold KV at r
 induction r with
 |nil=>rfl
 |cons h t ih=>rw[AV,AV,ih,h.1]
theorem KV.length{a:List (R×V)}{vs:List (R×AG)}(r:KV a vs):a.length=vs.length:=FZ r
end
def ziI{P:A6}{w:Ah}{k:Key}{u:AG}(r:RelV (kV k) u):(yU P w).is k u=true:=by
 cases k with
 |inl i=>let#[t,e]:=(show ∃t,u=F8 i t from r);subst e;exact zdF P w i t
 |inr x=>let#[t,e]:=(show ∃t,u=DX x t from r);subst e;exact zdB P w x t
abbrev KT(H:Hp):List (List NK×V)->List (List NK×AJ×AG)->Prop:=IX λp q=>p.1=q.1/\KyR H p.1 q.2.1/\RelV p.2 q.2.2
theorem KT.val{H:Hp}{a:List (List NK×V)}{xs:List (List NK×AJ×AG)}(r:KT H a xs)(k:List NK):ybg (yaS a k) ((atKey xs k).map (·.2)):=by
 induction r with
 |nil=>exact CM
 |@cons p q j c h t ih=>
  let#[f,_,g]:=h
  by_cases e:p.1=k
  .have d:q.1=k:=f.symm.trans e;have b:atKey (q::c) k=AA q.2:=by simp[atKey,CZ,d]
   rw[zaj e,b];exact g
  .have d:¬q.1=k:=λz=>e (f.trans z);have b:atKey (q::c) k=atKey c k:=by simp[atKey,CZ,d]
   rw[zaf e,b];exact ih
theorem KT.repl{H:Hp}{a:List (List NK×V)}{xs:List (List NK×AJ×AG)}(r:KT H a xs)(k:List NK){y:V}{u:AG}(f:RelV y u):
  KT H (a.map λc=>if c.1=k then(c.1,y)else c) (xs.map (putAt k u)):=by
 induction r with
 |nil=>exact .nil
 |@cons p q j l h t ih=>
  rw[AV,AV];refine .cons ?_ ih;let#[b,d,g]:=h;unfold putAt
  by_cases e:p.1=k
  .rw[if_pos e,if_pos (b.symm.trans e)];exact#[b,d,f]
  .rw[if_neg e,if_neg (λz=>e (b.trans z))];exact#[b,d,g]
theorem KT.put{H:Hp}{a:List (List NK×V)}{xs:List (List NK×AJ×AG)}(r:KT H a xs)(k:List NK){b:AJ}{y:V}{u:AG}(d:KyR H k b)(c:RelV y u):
  KT H (putK a k y) (storedH xs k b u):=by
 have e:(a.any λf=>decide (f.1=k))=(atKey xs k).isSome:=by rw[zeg,(r.val k).isSome_eq,HY]
 unfold putK storedH;rw[e]
 by_cases q:(atKey xs k).isSome=AE
 .rw[if_pos q,if_pos q];exact r.repl k c
 .rw[if_neg q,if_neg q];exact J4 r #[rfl,d,c]
theorem KT.keeps{H c:Hp}{a:List (List NK×V)}{xs:List (List NK×AJ×AG)}(r:KT H a xs)(f:∀b d,H b=AA (.tup d)->c b=AA (.tup d)):KT c a xs:=
 Paired.mapP r λ_ _ z=>#[z.1,z.2.1.stay f,z.2.2]
section
variable {P:A6}{w:Ah}{H:Hp}{h:Au}{a:AJ}
def zmR{u:HO}(ok:HOk P w H h)(e:Rd H a u):yH P w H h a u:=e.ok ok
def zht{b:List (Key×V)}(ok:HOk P w H h)(e:Rd H a (.dK b)):b.length<=sizeLine/\(a==sysModules)=AC/\∃c,KV b c/\h.DictOf (yU P w) a c:=
 show yH P w H h a (.dK b)from zmR ok e
def zoj{b:List (Key×V)}(ok:HOk P w H h)(e:H a=AA (.dK b)):b.length<=sizeLine/\(a==sysModules)=AC/\∃c,KV b c/\h.DictOf (yU P w) a c:=zht ok (.inl e)
mutual
theorem zlM(ok:HOk P w H h):∀(k:NK) (v:V) (u:AG),NKr H k v->RelV v u->NI h k u
 |.a k,v,u,x,r=>by cases (show v=kV k from x);exact ziI (P:=P) (w:=w) r
 |.t l,v,u,x,r=>by
  let#[b,d,rfl,g,f]:=x
  cases (show u=Ag b from r)
  let#[_,c,j,m]:=(show yH P w H h b (.tup d)from ok b _ g);exact#[b,c,rfl,m,zjr ok l d c f j]
theorem zjr(ok:HOk P w H h):∀(l:List NK) (xs:List V) (us:List AG),NKs H l xs->Vals xs us->NIs h l us
 |[],xs,us,x,r=>by cases (show xs=[]from x);cases r;rfl
 |k::l,xs,us,x,r=>by
  let#[y,a,rfl,b,c]:=x
  cases r with
  |cons r t=>exact#[_,_,rfl,zlM ok k y _ b r,zjr ok l a _ c t]
end
def zd5{ks:List NK}(ok:HOk P w H h)(e:KyR H ks a):(ybn P w).is h ks a:=#[zlM ok _ _ _ e.1 rfl,e.2]
def zhO{b:List (List NK×V)}(ok:HOk P w H h)(e:Rd H a (.dT b)):b.length<=sizeLine/\(a==sysModules)=AC /\
  ∃d,KT H b d/\h.DictOfH (ybn P w) a d:=by
 let#[z,y,d,r,o,g,j,n,u,A,B,C]:=(show yH P w H h a (.dT b)from zmR ok e);refine#[z,y,d,r,o,g,j,n,u,A,B,λx c=>?_,C];have all:∀{l:List (List NK×V)} {m:List (List NK×AJ×AG)},KT H l m->∀x∈m,(ybn P w).is h x.1 x.2.1:=by
  intro l m q
  induction q with
  |nil=>intro x c;exact nomatch c
  |@cons p q D E f t ih=>
   intro x c;rcases A8.mp c with e|c
   .subst e;exact zd5 ok (by rw[<-f.1];exact f.2.1)
   .exact ih x c
 exact all r x c
def zoA{b:List (List NK×V)}(ok:HOk P w H h)(e:H a=AA (.dT b)):b.length<=sizeLine/\(a==sysModules)=AC /\
  ∃c,KT H b c/\h.DictOfH (ybn P w) a c:=zhO ok (.inl e)
end
def ycZ(H:Hp)(a:AJ)(y:V)(r:Option V):Prop:=
 (∃c k,Rd H a (.dK c)/\y=kV k/\r=yaS c k) \/ ∃c k b,Rd H a (.dT c)/\y=.ref b/\KyR H k b/\r=yaS c k
def yfB(H:Hp)(a:AJ)(y v:V)(d:Hp):Prop:=
 (∃c k,H a=AA (.dK c)/\y=kV k/\c.length<sizeLine/\d=upd H a (.dK (putK c k v))) \/
 ∃c k b,H a=AA (.dT c)/\y=.ref b/\KyR H k b/\c.length<sizeLine/\d=upd H a (.dT (putK c k v))
section
variable {X:Cx}{C:List (AJ×Bw)}{B:St}{H:Hp}{s:AH}{a:AJ}{y v:V}{u r:AG}{o:Option V}{A:Ai}{E:AG->AH->Prop}
theorem Inv.big(I:Inv X C B H s):sysModules<s.heap.objs.size:=by have h:mainGlobals<s.heap.objs.size:=(I.mod.glob.keeps I.bk).lt;exact HZ ⋯ h
def zgE{Q:AG->AH->Prop}(L:A.units+16<cLine)(I:Inv X C B H s)(g:ycZ H a y (AA v))(r:RelV y u)(h:∀d t,Inv X C B H t->RelV v d->Q d t):
  A1 (model X.prog X.w) A (getItem (.ref a) u) Q E s:=by
 rcases g with⟨f,k,e,j,l⟩|⟨f,k,b,e,j,w,l⟩
 .subst j;let#[z,x,D,rel,m]:=zht I.hok e;let#[d,n,c]:=ybg.some_of (v:=v) (o:=valueAt D k) (by rw[l];exact rel.val k);exact Hk (ziI r) m.mapOf n (h d _ (I.tok _) c)
 .subst j
  cases (show u=Ag b from r)
  let#[z,x,G,rel,m]:=zhO I.hok e;let#[d,n,c]:=ybg.some_of (v:=v) (o:=(atKey G k).map (·.2)) (by rw[l];exact rel.val k);let#[p,J,q]:=C2.mp n;refine wpAny_getItem_heap ((show A.in1.units+8<cLine by erw[EJ];lia)) (zd5 I.hok w) m J ?_;rw[q];exact h d _ (I.tok _) c
def zkP{Q:AG->AH->Prop}(r:A.units+16<cLine)(I:Inv X C B H s)(g:ycZ H a y o)(m:RelV y u)(h:∀n,Inv X C B H n->Q (.bool (!o.isSome)) n):
  A1 (model X.prog X.w) A (compareOp .NotIn u (.ref a)) Q E s:=by
 rcases g with⟨c,k,e,d,l⟩|⟨c,k,b,e,d,p,l⟩
 .subst d;let#[z,f,t,rel,j]:=zht I.hok e;refine wpAny_notIn_of (ziI m) f j.mapOf ?_;rw[<-(rel.val k).isSome_eq,<-l];exact h _ (I.tok _)
 .subst d
  cases (show u=Ag b from m)
  let#[z,f,w,rel,j]:=zhO I.hok e;refine wpAny_notIn_heap ((show A.in1.units+8<cLine by erw[EJ];lia)) (zd5 I.hok p) f j ?_;have q:=(rel.val k).isSome_eq;rw[HY]at q;rw[<-q,<-l];exact h _ (I.tok _)
def zgf{h':Au}{t':Nat}{c:HO}(I:Inv X C B H s)(f:Mut (H a))(g:C0 a s.heap h')(j:∃q,h'.get? a=AA q)(d:yH X.prog X.w (upd H a c) h' a c):
  Inv X C B (upd H a c) {s with heap:=h',toks:=t'}:=
 I.write (x:=a) (e:=a) f (.inl rfl) (λb q l z=>(g.2 b l).trans z) j d
def zmO{P:A6}{w:Ah}{c:Hp}{h':Au}{b:List (Key×V)}{vs:List (Key×AG)}(z:b.length<=sizeLine)(d:(a==sysModules)=AC)(rel:KV b vs)(f:h'.DictOf (yU P w) a vs):
  yH P w c h' a (.dK b):=#[z,d,vs,rel,f]
def zf3{D:Hp}{Q:Unit->AH->Prop}(hu:A.units+16<cLine)(I:Inv X C B H s)(g:yfB H a y v D)(G:RelV y u)(J:RelV v r)(h:∀L,Inv X C B D L->Q Unit.unit L):
  A1 (model X.prog X.w) A (setItem (.ref a) u r) Q E s:=by
 rcases g with⟨d,k,e,m,l,n⟩|⟨d,k,b,e,m,M,l,n⟩
 .subst m n;let#[z,o,U,rel,p]:=zoj I.hok e;have t:U.length<=sizeLine:=by rw[<-rel.length];exact z
  have w:(putK d k v).length<=sizeLine:=by have:=zbs d k v;lia
  refine wpAny_setItem_pairs (hsz:=t) (ziI G) p λN f x=>h _ ?_;have Y:∃q,N.get? a=AA q:=let #[q,_,_,j,_]:=f;#[q,j]
  exact zgf I (by rw[e];exact CM) x Y (zmO w o (rel.put k J) f)
 .subst m n
  cases (show u=Ag b from G)
  let#[z,o,Z,rel,p]:=zoA I.hok e;have t:Z.length<=sizeLine:=by rw[<-FZ rel];exact z
  have w:(putK d k v).length<=sizeLine:=by have:=zbs d k v;lia
  refine wpAny_setItem_heap (hsz:=t) ((show A.in1.units+8<cLine by erw[EJ];lia)) (zd5 I.hok M) p λN f x=>h _ ?_;let#[q,es,ep,j,h2,h3,h4,_,h5]:=f;refine zgf I (by rw[e];exact CM) x #[q,j] #[w,o,_,(rel.put k M J).keeps λc ys O=>?_,q,es,ep,j,h2,h3,h4,h5];rw[zc (zot O e (λz=>nomatch z))];exact O
end
section
variable {X:Cx}{C:List (AJ×Bw)}{B:St}{H:Hp}{s:AH}{a:AJ}{kvs:List (Key×V)}{k:Key}{u:AG}{A:Ai}{E:AG->AH->Prop}
end
def ycW(i:AZ):Prop:=∀a b,subscripted i AC a b=operate [a,b] (getItem a b)
def zfK{prog:A6}{w:Ah}{A:Ai}{E:AG->AH->Prop}{s:AH}{env:Env}{b a:AZ}{pos:CK}{T id:String}{Q:AG->AH->Prop}
  (p:typeLookup (.type T) "__getitem__"=pure (AA (.builtin id))) (q:ycW a)
  (h:A1 (model prog w) A (eval b env) (λo f=>A1 (model prog w) A (eval a env) (λi c=>c.TypeIs o T/\A1 (model prog w) A (getItem o i) Q E c) E f) E s):
  A1 (model prog w) A (eval (.Subscript b a pos) env) Q E s:=by
 refine HG (CC h (λo f l=>CC l (λi c d=>?_) λ_ _ x=>x) λ_ _ x=>x);let#[n,d]:=d;unfold subscriptTail;refine AB ?_;rw[getitemInPython_of_ne n.not_modules];refine AB (Cj n p ?_);have j:A1 (model prog w) A (subscripted a AC o i) (λr g=>A1 (model prog w) A (letTemporaryGo b o r >>= λ_=>pure r) Q E g) E c:=by rw[q o i];exact wpAny_operating (CC d (λr g m=>AB (wpAny_letTemporaryGo (AM m))) λ_ _ x=>x)
 first
  |exact AM (AB j)
  |exact AB (AM (AB j))
  |exact AB j
def zdr{X:Cx}{B:List (AJ×Bw)}{A:St}{H:Hp}{s:AH}{a:AJ}{y:V}{o:Option V}(I:Inv X B A H s)(g:ycZ H a y o):s.TypeIs (.ref a) "dict":=by
 rcases g with⟨c,k,e,_,_⟩|⟨c,k,b,e,_,_,_⟩
 .let#[_,_,f,_,d]:=zht I.hok e;exact d.typeIs
 .let#[_,_,j,_,d]:=zhO I.hok e;exact d.typeIs
def yd0(c d:TE):TE:=λA H Q=>c A H λx f=>d A f λy b=>∃a v,x=.ref a/\ycZ b a y (AA v)/\Q v b
def ycP(c d:TE):TE:=λA H Q=>c A H λy f=>d A f λx b=>∃a o,x=.ref a/\ycZ b a y o/\Q (.bl (!o.isSome)) b
def yei(c d f:TE):TS:=λD A H=>f A H λv g=>c A g λx j=>d A j λy l=>∃a b,x=.ref a/\yfB l a y v b/\D.nx A b
section
variable {X:Cx}{o i e value:AZ}{pos pos' tpos:CK}{td ty tv:TE}
def zkh(f:X.A.units+16<cLine)(j:PE X o td)(l:PE X i ty)(m:ycW i):PE X (.Subscript o i pos) (yd0 td ty):=by intro C s B H Q I h;refine zfK FM.lookup m (thn (j C s B H _ I h) λu n b=>?_);let#[x,p,q,r,t]:=b;refine thn (l C n B p _ q t) λE G b=>?_;let#[y,w,d,z,a,v,ex,g,A]:=b;subst ex;obtain rfl:u=Ag a:=r;exact#[zdr d g,zgE f d g z λJ L D c=>#[v,w,D,c,A]]
def zgU(c:X.A.units+16<cLine)(d:PE X i ty)(f:PE X o td):PC X .NotIn i o (ycP ty td):=by intro C s B H Q I h;refine thn (d C s B H _ I h) λD j b=>?_;let#[y,l,m,n,p]:=b;refine thn (f C j B l _ m p) λu E b=>?_;let#[x,q,r,t,a,w,ex,g,z]:=b;subst ex;obtain rfl:u=Ag a:=t;exact zkP c r g n λG A=>#[.bl (!w.isSome),q,A,rfl,z]
def zjX(c:X.A.units+16<cLine)(d:PE X o td)(f:PE X i ty)(j:PE X value tv)(l:swapsWith value (AA (.Subscript o i pos')) pos.line X.env=pure AC):
  PS X (.Assign [.Subscript o i pos'] value pos) (yei td ty tv):=by intro C s B H D I h;refine wpAny_Assign_Subscript (thn (j C s B H _ I h) λr m b=>?_) l;let#[v,n,p,q,t]:=b;refine thn (d C m B n _ p t) λu w b=>?_;let#[x,z,A,E,G]:=b;refine thn (f C w B z _ A G) λQ U b=>?_;let#[y,Y,J,L,a,M,ex,g,N]:=b;subst ex;obtain rfl:u=Ag a:=E;exact zf3 c J g L q λZ O=>#[B,M,O,N]
end
def ziK{P:A6}{w:Ah}{H:Hp}(h:Au)(a:sysModules<h.objs.size):yH P w H (h.push {cls:=.type "dict",data:=.dict (List.toArray [])}) h.objs.size (.dK []):=
 #[BB _,beq_eq_false_iff_ne.mpr (BR (Ad a)),[],.nil,Heap.DictOf.new h]
def zix{P:A6}{w:Ah}{H:Hp}(h:Au)(a:sysModules<h.objs.size):yH P w H (h.push {cls:=.type "dict",data:=.dict (List.toArray [])}) h.objs.size (.dT []):=
 #[BB _,beq_eq_false_iff_ne.mpr (BR (Ad a)),[],.nil,_,(List.toArray []),0,AQ _ rfl,#[rfl,rfl,rfl],rfl,rfl,List.nodup_nil]
def ydE:TE:=λ_ H Q=>∀p,H p=AD->Q (.ref p) (upd H p (.dK []))
def ydn:TE:=λ_ H Q=>∀p,H p=AD->Q (.ref p) (upd H p (.dT []))
section
variable {X:Cx}{pos:CK}
def zpb:PE X (.Dict [] [] pos) ydE:=λB s A H Q I h=>
 Hl #[.ref s.heap.objs.size,_,I.laid (a:=s.heap.objs.size) (o:=.dK []) (t':=s.toks) (λ_ _ q=>AL _ q) (AU _) (ziK s.heap I.big),rfl,h _ (I.hok.fresh (AU _))]
def zpc:PE X (.Dict [] [] pos) ydn:=λB s A H Q I h=>
 Hl #[.ref s.heap.objs.size,_,I.laid (a:=s.heap.objs.size) (o:=.dT []) (t':=s.toks) (λ_ _ q=>AL _ q) (AU _) (zix s.heap I.big),rfl,h _ (I.hok.fresh (AU _))]
end
section
variable {X:Cx}{C:List (AJ×Bw)}{B:St}{H:Hp}{s:AH}{a:AJ}{y d:V}{u r:AG}{o:Option V}{A:Ai}{E:AG->AH->Prop}
end
section
variable {X:Cx}{o e f:AZ}{apos cpos:CK}{td ty tx:TE}
end
section
variable {X:Cx}{C:List (AJ×Bw)}{B:St}{H:Hp}{s:AH}{a:AJ}{kvs:List (Key×V)}{A:Ai}{E:AG->AH->Prop}
end
section
variable {X:Cx}{C:List (AJ×Bw)}{B:St}{H:Hp}{s:AH}{a:AJ}{y:V}{u:AG}{A:Ai}{E:AG->AH->Prop}
end
end L2
namespace PySem.W
open PySem PySem.Calls PyProof.Rows
def ybu{A:Type}(f:Nat->Nat->Bool)(n:Nat):KasT A->Option A
 |.ret a=>AA a
 |.ask i j k=>if i<n/\j<n then ybu f n (k (f i j))else AD
def ltS(a b:AR):Bool:=decide (a.cps.toList<b.cps.toList)
def srkP(a:List AR):Option (List AR):=
 if a.length<2 then AA a else if a.length<64 then(ybu (λi j=>ltS (a.getD i default) (a.getD j default)) a.length (IF a.length)).bind λp=>
  if p.size<=64/\p.toList.all (· < a.length)=AE then AA (p.toList.map λi=>a.getD i default)else AD else AD
end PySem.W
namespace IC
open PySem
inductive PV where
 |non|bl (b:Bool)|int (i:Int)|str (x:AR)|tp (k:Bool) (xs:List PV)|lst (xs:List PV)|loc (n:Nat)|exn (c:Nat)|scr (xs:List PV)|fnc (j:Nat)
deriving Inhabited
abbrev PV.tup(xs:List PV):PV:=.tp AC xs
mutual
noncomputable def nL:PV->Bool
 |.loc _=>AC
 |.exn _=>AC
 |.fnc _=>AE
 |.tp _ a=>nLs a
 |.lst a=>nLs a
 |.scr a=>nLs a
 |_=>AE
noncomputable def nLs:List PV->Bool
 |[]=>AE
 |x::a=>nL x&&nLs a
end
mutual
noncomputable def shd(n:Nat):PV->Bool
 |.non=>AE
 |.bl _=>AE
 |.int _=>AE
 |.str x=>x.cps.all (· < 0x110000)
 |.tp _ a=>decide (0<n)&&ybf (n-1) a
 |.lst a=>decide (0<n)&&ybf (n-1) a
 |_=>AC
noncomputable def ybf(n:Nat):List PV->Bool
 |[]=>AE
 |x::a=>shd n x&&ybf n a
end
abbrev shp(v:PV):Bool:=shd 60 v
def flat:PV->Bool
 |.non=>AE
 |.bl _=>AE
 |.int _=>AE
 |.str _=>AE
 |_=>AC
def bi(b:Bool):Int:=if b then 1 else 0
mutual
noncomputable def peq:PV->PV->Bool
 |.non,.non=>AE
 |.bl a,.bl b=>a==b
 |.bl a,.int j=>bi a==j
 |.int i,.bl b=>i==bi b
 |.int i,.int j=>i==j
 |.str x,.str y=>x==y
 |.tp _ c,.tp _ d=>ybO c d
 |.lst c,.lst d=>ybO c d
 |_,_=>AC
noncomputable def ybO:List PV->List PV->Bool
 |[],[]=>AE
 |x::a,y::b=>peq x y&&ybO a b
 |_,_=>AC
end
inductive Ob where
 |lst (xs:List PV)|dct (t:Bool) (kvs:List (PV×PV))|dead|ins (c:Nat) (fs:List (AR×PV))
abbrev Env:=List (Option PV)
abbrev SO:=List Ob
inductive R(A:Type) where
 |ok (a:A) (st:SO)|exc (c:Nat) (st:SO)|bad
def R.bind{A B:Type}(r:R A)(k:A->SO->R B):R B:=
 match r with
 |.ok a st=>k a st
 |.exc c st=>.exc c st
 |.bad=>.bad
inductive BOp where
 |add|sub|mul|fdiv|mod|pow|shl|shr|band|bor|bxor
inductive COp where
 |eq|ne|lt|le|gt|ge|is|isnot|isin|notin
inductive Ty where
 |int|bool|str|tuple|list|cls (c:Nat)|val
inductive Blt where
 |len|int|abs|min|max|tuple|list|all|sum|dict|rev|str|any
inductive Mth where
 |rmp|append|extend|get|bits|upper|insert|count|index|join|split|sidx|clear
inductive Tg where
 |n (i:Nat)|t (l:List Nat)
set_option genInjectivity false
mutual
inductive Ce where
 |cst (v:PV)
 |var (i:Nat)
 |bin (o:BOp) (a b:Ce)
 |neg (a:Ce)
 |not (a:Ce)
 |and (a b:Ce)
 |or (a b:Ce)
 |cmp (o:COp) (a b:Ce)
 |chain (o p:COp) (a b c:Ce)
 |ite (c a b:Ce)
 |tup (es:Ces)
 |newl (es:Ces)
 |dict0 (t:Bool)
 |idx (a i:Ce)
 |slc (a:Ce) (lo hi:Ce)
 |call (f:Nat) (args:Ces)
 |blt (b:Blt) (args:Ces)
 |mth (m:Mth) (o:Ce) (args:Ces)
 |isi (a:Ce) (t:List Ty)
 |comp (sl:List (Option Nat)) (tg:Tg) (it:Cit) (c:Ce) (e:Ce)
 |frz (a:Ce)
 |nope
 |fst (e:Ces)
 |rep (a b:Ce)
 |dix (D:List (AR×PV)) (a:Ce)
 |din (a:Ce) (D:List (AR×PV))
 |fld (c:Nat) (a:Ce) (f:AR)
 |new (c i:Nat) (es:Ces)
 |mcl (c i:Nat) (m:AR) (o:Ce) (es:Ces)
 |dgt (a i:Ce)
 |inn (a b:Ce)
 |srk (a:Ce)
 |dcp (a:Ce)
 |orv (a b:Ce)
 |dnn (a:Ce) (D:List (AR×PV))
 |dni (a d:Ce)
inductive Ces where
 |nil
 |cons (e:Ce) (es:Ces)
inductive Cit where
 |seq (e:Ce)
 |range1 (a:Ce)
 |range2 (a b:Ce)
 |rangeD (a b:Ce)
 |enum (e:Ce)
 |zip (a b:Ce)
 |zipl (a b:Ce)
 |revl (e:Ce)
 |revr (a:Ce)
 |chars (e:Ce)
end
set_option genInjectivity true
abbrev Ce.i(n:Int):Ce:=.cst (.int n)
abbrev Ce.s(x:AR):Ce:=.cst (.str x)
abbrev Ce.v:=Ce.var
abbrev Ces.k:=Ces.cons
abbrev Ces.e:=Ces.nil
mutual
inductive Cs where
 |expr (e:Ce)
 |asg (t:Tg) (e:Ce)
 |sta (i j:Nat) (e:Ce)
 |six (o i e:Ce)
 |dput (o i e:Ce)
 |aug (i:Nat) (o:BOp) (e:Ce)
 |ret (e:Ce)
 |ite (c:Ce) (a b:Css)
 |for (t:Tg) (it:Cit) (b:Css)
 |while (c:Ce) (b:Css)
 |nope
 |try (b:Css) (cs:List Nat) (i:Nat) (h:Css)
 |sfl (c:Nat) (o:Ce) (f:AR) (e:Ce)
inductive Css where
 |nil
 |cons (s:Cs) (ss:Css)
end
abbrev Css.k:=Css.cons
abbrev Css.e:=Css.nil
def yao(i j:Int):Bool:=(decide (i.natAbs<18446744073709551616)) || (decide (j.natAbs<18446744073709551616))
def binI(o:BOp)(i j:Int):Option PV:=
 match o with
 |.add=>AA (.int (i+j))
 |.sub=>AA (.int (i-j))
 |.mul=>if yao i j then AA (.int (i*j))else AD
 |.fdiv=>if 0<j/\j<10000000000000000000000000000000000000000000000000000000000000000000000 then AA (.int (i/j))else AD
 |.mod=>if 0<j then AA (.int (i%j))else AD
 |.pow=>if 0<=j/\j<=1000000/\i.natAbs<18446744073709551616 then AA (.int (i^j.toNat))else AD
 |.shl=>if 0<=j/\j<=1000000/\i.natAbs<1606938044258990275541962092341162602522202993782792835301376 then AA (.int (i*2^j.toNat))else AD
 |.shr=>if 0<=j then AA (.int (i/2^j.toNat))else AD
 |.band=>AA (.int (CP i j))
 |.bor=>AA (.int (Builtin.bitOr i j))
 |.bxor=>AA (.int (Builtin.bitXor i j))
def sizeMax:Nat:=16777216
def yfx(k:Bool)(a:List PV)(j:Bool)(b:List PV):PV:=if a.isEmpty then .tp j b else if b.isEmpty then .tp k a else .tup (a++b)
def yc4(x y:PV):Option PV:=
 match x,y with
 |.str a,.int n=>if 1<=n/\n<=1000/\a.length<=1000/\1<=a.length then AA (.str #[(AT n.toNat a.cps.toList).flatten.toArray])else AD
 |.tp k a,.int n=>if n=1 then AA (.tp k a)else if 2<=n/\n<=1000/\a.isEmpty=AC/\a.length<=1000 then AA (.tup (AT n.toNat a).flatten)else if n=0/\a.isEmpty=AC then AA (.tup [])else AD
 |.lst a,.int n=>if 1<=n/\n<=1000/\a.length<=1000 then AA (.lst (AT n.toNat a).flatten)else AD
 |_,_=>AD
def yq(o:BOp)(x y:PV):Option PV:=
 match x,y with
 |.int i,.int j=>binI o i j
 |.int i,.bl b=>match o with
  |.add=>AA (.int (i+bi b))
  |_=>AD
 |.str a,.str b=>match o with
  |.add=>if a.length+b.length<=sizeMax then AA (.str (a++b))else AD
  |_=>AD
 |.tp k a,.tp j b=>match o with
  |.add=>if a.length+b.length<=sizeMax then AA (yfx k a j b)else AD
  |_=>AD
 |.lst a,.lst b=>match o with
  |.add=>if a.length+b.length<=sizeMax then AA (.lst (a++b))else AD
  |_=>AD
 |_,_=>AD
def ybA(o:BOp)(x y:PV):Option PV:=
 match x,y with
 |.int i,.int j=>binI o i j
 |_,_=>AD
def isNon:PV->Bool
 |.non=>AE
 |_=>AC
def inL(x:PV):List PV->Bool
 |[]=>AC
 |y::a=>peq y x || inL x a
def inS(a b:AR):Bool:=(DR (b.length+1)).any λi=>decide (i+a.length<=b.length)&&(b.cps.extract i (i+a.length)==a.cps)
def ya4(o:COp)(i j:Int):Option PV:=
 match o with
 |.lt=>AA (.bl (decide (i<j)))
 |.le=>AA (.bl (decide (i<=j)))
 |.gt=>AA (.bl (decide (j<i)))
 |.ge=>AA (.bl (decide (j<=i)))
 |_=>AD
def yeK(o:COp)(a b:AR):Option PV:=
 match o with
 |.lt=>AA (.bl (decide (a.cps.toList<b.cps.toList)))
 |.le=>AA (.bl (!decide (b.cps.toList<a.cps.toList)))
 |_=>AD
def yo(o:COp)(x y:PV):Option PV:=
 match o with
 |.eq=>if shp x&&shp y then AA (.bl (peq x y))else AD
 |.ne=>if shp x&&shp y then AA (.bl (!peq x y))else AD
 |.is=>match y with
  |.non=>AA (.bl (isNon x))
  |.bl b=>match x with
   |.bl a=>AA (.bl (a==b))
   |_=>AD
  |_=>AD
 |.isnot=>match y with
  |.non=>AA (.bl (!isNon x))
  |.bl b=>match x with
   |.bl a=>AA (.bl (!(a==b)))
   |_=>AD
  |_=>AD
 |.isin=>match x,y with
  |.str a,.str b=>AA (.bl (inS a b))
  |x,.tp _ l=>if flat x&&l.all flat then AA (.bl (inL x l))else AD
  |x,.lst l=>if flat x&&l.all flat then AA (.bl (inL x l))else AD
  |_,_=>AD
 |.notin=>match x,y with
  |.str a,.str b=>AA (.bl (!inS a b))
  |x,.tp _ l=>if flat x&&l.all flat then AA (.bl (!inL x l))else AD
  |x,.lst l=>if flat x&&l.all flat then AA (.bl (!inL x l))else AD
  |_,_=>AD
 |o=>match x,y with
  |.int i,.int j=>ya4 o i j
  |.str a,.str b=>yeK o a b
  |_,_=>AD
def yas(st:SO)(x:PV):Option Bool:=
 match x with
 |.non=>AA AC
 |.bl b=>AA b
 |.int i=>AA (i != 0)
 |.str y=>if y.length<=sizeMax then AA ((y.length:Int) != 0)else AD
 |.tp _ a=>AA (!a.isEmpty)
 |.lst a=>AA (!a.isEmpty)
 |.loc n=>match st[n]? with
  |some (.lst a)=>AA (!a.isEmpty)
  |_=>AD
 |_=>AD
def ixI(n:Nat)(i:Int):Option Nat:=if 0<=i then(if i<n then AA i.toNat else AD)else if -(n:Int)<=i then AA (i+n).toNat else AD
def at?{A:Type}(xs:List A)(i:Int):Option A:=(ixI xs.length i).bind λj=>xs[j]?
def look(k:PV):List (PV×PV)->Option PV
 |[]=>AD
 |(a,b)::r=>if peq a k then AA b else look k r
def put(k v:PV)(a:List (PV×PV)):List (PV×PV):=
 if (a.any λp=>peq p.1 k)=AE then a.map (λp=>if peq p.1 k=AE then(p.1,v)else p)else a++[(k,v)]
def ycy:PV->Bool
 |.int _=>AE
 |.str _=>AE
 |_=>AC
mutual
noncomputable def yev(n:Nat):PV->Bool
 |.int _=>AE
 |.str x=>x.cps.all (· < 0x110000)
 |.tp k a=>!k&&decide (0<n)&&yb2 (n-1) a
 |_=>AC
noncomputable def yb2(n:Nat):List PV->Bool
 |[]=>AE
 |x::a=>yev n x&&yb2 n a
end
def isKey(t:Bool)(k:PV):Bool:=
 match t with
 |false=>ycy k
 |true=>match k with
  |.tp AC a=>yb2 5 a
  |_=>AC
def yau{A:Type}(xs:List A)(i:PV):Option A:=
 match i with
 |.int k=>at? xs k
 |_=>AD
def idxV(st:SO)(x i:PV):Option PV:=
 match x with
 |.tp _ a=>yau a i
 |.lst a=>yau a i
 |.str s=>if s.length<=sizeMax then(yau s.cps.toList i).map λc=>.str #[(List.toArray [c])]else AD
 |.loc n=>match st[n]? with
  |some (.lst a)=>yau a i
  |_=>AD
 |_=>AD
def ybk(n:Nat)(v:Int):Nat:=if v<0 then(v+(n:Int)).toNat else min v.toNat n
def ycg(n:Nat)(lo:Option Int):Nat:=
 match lo with
 |none=>0
 |some i=>ybk n i
def ycq(n:Nat)(a:Option Int):Nat:=
 match a with
 |none=>n
 |some i=>ybk n i
def cut{A:Type}(xs:List A)(lo a:Option Int):List A:=(xs.drop (ycg xs.length lo)).take (ycq xs.length a-ycg xs.length lo)
def ybe:PV->Option (Option Int)
 |.non=>AA AD
 |.int i=>AA (AA i)
 |_=>AD
def yb6(x:PV)(a b:Option Int):Option PV:=
 match x with
 |.tp k c=>if ycg c.length a=0/\ycq c.length b=c.length then AA (.tp k c)else AA (.tup (cut c a b))
 |.str s=>if s.length<=sizeMax then AA (.str #[(cut s.cps.toList a b).toArray])else AD
 |.lst c=>AA (.lst (cut c a b))
 |.scr c=>AA (.lst (cut c a b))
 |_=>AD
def ybs(x:PV)(a:Option Int)(c:PV):Option PV:=
 match ybe c with
 |some b=>yb6 x a b
 |none=>AD
def ybl(x:PV)(t:Ty):Bool:=
 match x,t with
 |.int _,.int=>AE
 |.bl _,.int=>AE
 |.bl _,.bool=>AE
 |.str _,.str=>AE
 |.tp _ _,.tuple=>AE
 |.lst _,.list=>AE
 |.exn c,.cls d=>c==d
 |.exn _,.val=>AE
 |_,_=>AC
def ydq:Ty->Bool
 |.cls _=>AC
 |.val=>AC
 |_=>AE
def ybV(x:PV)(ts:List Ty):Option PV:=
 match x with
 |.loc _=>AD
 |.scr _=>AD
 |.fnc _=>AD
 |.exn c=>if ts.all ydq then AD else AA (.bl (ts.any (ybl (.exn c))))
 |x=>match ts with
  |[t]=>if ydq t then AA (.bl (ybl x t))else AD
  |_=>AD
def ybX:PV->Option AR
 |.int i=>if i.natAbs.log2<1920 then AA (AI (toString i))else AD
 |.str s=>if s.length<=16777216 then AA s else AD
 |_=>AD
def yb7:AR->List PV->Option AR
 |out,[]=>if out.length<=16777216 then AA out else AD
 |out,v::a=>match ybX v with
  |some y=>if (out++y).length<=16777216 then yb7 (out++y) a else AD
  |none=>AD
def ydD(r:R (List PV)):R PV:=
 match r with
 |.ok a st=>match yb7 C6 a with
  |some z=>.ok (.str z) st
  |none=>.bad
 |_=>.bad
def allB:List PV->Option Bool
 |[]=>AA AE
 |.bl b::r=>match allB r with
  |some c=>AA (b&&c)
  |none=>AD
 |_::_=>AD
def ycv:List PV->Option Int
 |[]=>AA 0
 |.int i::r=>match ycv r with
  |some c=>AA (i+c)
  |none=>AD
 |_::_=>AD
def yfh:List PV->Option Int
 |[]=>AD
 |[.int i]=>AA i
 |.int i::r=>match yfh r with
  |some c=>AA (if i<c then c else i)
  |none=>AD
 |_::_=>AD
def yaJ(st:SO):PV->Option (List PV)
 |.tp _ a=>AA a
 |.lst a=>AA a
 |.loc n=>match st[n]? with
  |some (.lst a)=>AA a
  |_=>AD
 |_=>AD
def yJ(st:SO):PV->Option (List PV)
 |.lst a=>AA a
 |.loc n=>match st[n]? with
  |some (.lst a)=>AA a
  |_=>AD
 |_=>AD
def lenV(st:SO)(x:PV):Option PV:=
 match x with
 |.str s=>if s.length<=sizeMax then AA (.int s.length)else AD
 |x=>(yaJ st x).map λa=>.int a.length
def ycJ(c:Nat):Bool:=decide (48<=c/\c<=57)
def ye1(b:List Nat):Nat:=b.foldl (λa c=>a*10+(c-48)) 0
def ycY(x:AR):Option Int:=
 if x.length<=640 then match x.cps.toList with
  |[]=>AD
  |c::a=>if c=45 then(if a.all ycJ&&!a.isEmpty then AA (-(ye1 a:Int))else AD)else if (c::a).all ycJ then AA (ye1 (c::a):Int)else AD
 else AD
def yfg(x:PV):Option PV:=
 match x with
 |.str y=>(ycY y).map .int
 |.int i=>AA (.int i)
 |.bl k=>AA (.int (bi k))
 |_=>AD
def yd2(x:PV):Option PV:=
 match x with
 |.int i=>AA (.int (if i<0 then -i else i))
 |_=>AD
def yfW(x y:PV):Option PV:=
 match x,y with
 |.int i,.int j=>AA (.int (if j<i then j else i))
 |_,_=>AD
def maxV(x y:PV):Option PV:=
 match x,y with
 |.int i,.int j=>AA (.int (if i<j then j else i))
 |_,_=>AD
def ydR(st:SO)(x:PV):Option PV:=
 match x with
 |.tp k a=>AA (.tp k a)
 |x=>(yJ st x).map .tup
def ydh:PV->Option PV
 |.tp _ a=>AA (.tup a.reverse)
 |.lst a=>AA (.lst a.reverse)
 |_=>AD
def anyB:List PV->Option Bool
 |[]=>AA AC
 |.bl b::r=>match anyB r with
  |some c=>AA (b || c)
  |none=>AD
 |_=>AD
def anyI:List PV->Option Bool
 |[]=>AA AC
 |.int i::r=>match anyI r with
  |some c=>AA ((i != 0) || c)
  |none=>AD
 |_=>AD
def ydw:PV->Option PV
 |.int i=>if i.natAbs.log2<1920 then AA (.str (AI (toString i)))else AD
 |_=>AD
def yaf(b:Blt)(st:SO)(vs:List PV):Option PV:=
 match vs with
 |[x]=>match b with
  |.len=>lenV st x
  |.int=>yfg x
  |.abs=>yd2 x
  |.max=>(yJ st x).bind λa=>(yfh a).map .int
  |.tuple=>ydR st x
  |.list=>(yaJ st x).map .lst
  |.all=>(yJ st x).bind λa=>(allB a).map .bl
  |.sum=>(yJ st x).bind λa=>(ycv a).map .int
  |.rev=>ydh x
  |.str=>ydw x
  |.any=>match x with
   |.tp _ a=>(anyI a).map .bl
   |x=>(yJ st x).bind λa=>(anyB a).map .bl
  |_=>AD
 |[x,y]=>match b with
  |.min=>yfW x y
  |.max=>maxV x y
  |_=>AD
 |_=>AD
def yag(st:SO):PV->Option (Bool×List (PV×PV))
 |.loc n=>match st[n]? with
  |some (.dct t a)=>AA (t,a)
  |_=>AD
 |_=>AD
def yaw(m:Mth)(st:SO)(x:PV):Option Bool:=
 match m with
 |.append=>(yJ st x).map λ_=>AE
 |.extend=>(yJ st x).map λ_=>AE
 |.insert=>(yJ st x).map λ_=>AE
 |.count=>(yJ st x).map λ_=>AE
 |.index=>(yJ st x).map λ_=>AE
 |.get=>(yag st x).map λ_=>AE
 |.bits=>match x with
  |.int _=>AA AE
  |_=>AD
 |.upper=>match x with
  |.str _=>AA AE
  |_=>AD
 |.join=>match x with
  |.str _=>AA AE
  |_=>AD
 |.split=>match x with
  |.str _=>AA AE
  |_=>AD
 |.sidx=>match x with
  |.str _=>AA AE
  |_=>AD
 |.rmp=>match x with
  |.str _=>AA AE
  |_=>AD
 |.clear=>match x with
  |.loc n=>(yJ st (.loc n)).map λ_=>AE
  |_=>AD
def ydP(st:SO)(o v:PV):R PV:=
 match o with
 |.loc n=>match st[n]? with
  |some (.lst a)=>if a.length<1000000 then .ok .non (st.set n (.lst (a++[v])))else .bad
  |_=>.bad
 |_=>.bad
def yhn(st:SO)(o v:PV):R PV:=
 match o with
 |.loc n=>match st[n]? with
  |some (.lst a)=>match v with
   |.lst b=>if a.length+b.length<=1000000 then .ok .non (st.set n (.lst (a++b)))else .bad
   |_=>.bad
  |_=>.bad
 |_=>.bad
def ygA(st:SO)(o i v:PV):R PV:=
 match o with
 |.loc n=>match st[n]? with
  |some (.lst a)=>match i with
   |.int k=>if 0<=k/\k<=a.length/\a.length<1000000 then .ok .non (st.set n (.lst (a.take k.toNat++v::a.drop k.toNat)))else .bad
   |_=>.bad
  |_=>.bad
 |_=>.bad
def yhc(st:SO)(o k d:PV):R PV:=
 match yag st o with
 |some (t,a)=>if isKey t k then .ok ((look k a).getD d) st else .bad
 |none=>.bad
def yhu(st:SO)(o v:PV):R PV:=
 match yJ st o with
 |some a=>if flat v&&a.all flat then .ok (.int (a.countP λy=>peq y v)) st else .bad
 |none=>.bad
def ydj(v:PV):List PV->Option Nat
 |[]=>AD
 |y::a=>if peq y v then AA 0 else(ydj v a).map (·+1)
def yg5(st:SO)(o v:PV):R PV:=
 match yJ st o with
 |some a=>if flat v&&a.all flat then(match ydj v a with
  |some j=>.ok (.int j) st
  |none=>.bad)else .bad
 |none=>.bad
def upC(c:Nat):Nat:=if 97<=c/\c<=122 then c-32 else c
def upS(s:AR):Str:=#[(s.cps.toList.map upC).toArray]
def yI(c:Nat):List Nat->List (List Nat)
 |[]=>[[]]
 |x::a=>if x=c then []::yI c a else match yI c a with
  |[]=>[[x]]
  |p::b=>(x::p)::b
def strsOf:List PV->Option (List AR)
 |[]=>AA []
 |.str s::r=>(strsOf r).map (s :: ·)
 |_=>AD
def yb0(st:SO)(o v:PV):R PV:=
 match o,yJ st v with
 |.str s,AA a=>match strsOf a with
  |some b=>if s.length<=10/\a.length<=1000/\(b.all λy=>decide (y.length<=1000))=AE then .ok (.str (BH s b)) st else .bad
  |none=>.bad
 |_,_=>.bad
def yhf(st:SO)(o:PV):R PV:=
 match o with
 |.loc n=>match st[n]? with
  |some (.lst _)=>.ok .non (st.set n (.lst []))
  |_=>.bad
 |_=>.bad
def yeW(st:SO)(o v:PV):R PV:=
 match o,v with
 |.str s,.str y=>if s=AI "01" then(if y=AI "0" then .ok (.int 0) st else if y=AI "1" then .ok (.int 1) st else .bad)else .bad
 |_,_=>.bad
def ya3(st:SO)(o v:PV):R PV:=
 match o,v with
 |.str s,.str y=>match y.cps.toList with
  |[c]=>if s.length<=100000 then .ok (.lst ((yI c s.cps.toList).map λl=>.str #[l.toArray])) st else .bad
  |_=>.bad
 |_,_=>.bad
def yb3(x y:AR):Str:=if Cp x y 0 then(if x.length-y.length==x.length then x else Ex x y.length x.length)else x
def yeB(st:SO)(o v:PV):R PV:=
 match o,v with
 |.str x,.str y=>if x.length<=16777216 then .ok (.str (yb3 x y)) st else .bad
 |_,_=>.bad
def yaR(m:Mth)(st:SO)(o:PV)(vs:List PV):R PV:=
 match m,vs with
 |.append,[v]=>ydP st o v
 |.extend,[v]=>yhn st o v
 |.insert,[i,v]=>ygA st o i v
 |.get,[k,d]=>yhc st o k d
 |.count,[v]=>yhu st o v
 |.index,[v]=>yg5 st o v
 |.join,[v]=>yb0 st o v
 |.split,[v]=>ya3 st o v
 |.rmp,[v]=>yeB st o v
 |.sidx,[v]=>yeW st o v
 |.clear,[]=>yhf st o
 |.bits,[]=>match o with
  |.int i=>.ok (.int (D7 i)) st
  |_=>.bad
 |.upper,[]=>match o with
  |.str s=>if s.cps.toList.all (· < 128)/\s.length<=1000000 then .ok (.str (upS s)) st else .bad
  |_=>.bad
 |_,_=>.bad
def toR(o:Option PV)(st:SO):R PV:=
 match o with
 |some v=>.ok v st
 |none=>.bad
def yr(t:Tg)(v:PV)(ρ:Env):Option Env:=
 match t,v with
 |.n i,v=>AA (ρ.set i (AA v))
 |.t l,.tp _ a=>if l.length=a.length then AA ((l.zip a).foldl (λρ p=>ρ.set p.1 (AA p.2)) ρ)else AD
 |_,_=>AD
def yw:Nat->List PV->List PV
 |_,[]=>[]
 |k,x::a=>.tup [.int k,x]::yw (k+1) a
def yaT:List PV->List PV->List PV
 |x::a,y::b=>.tup [x,y]::yaT a b
 |_,_=>[]
def yeP:PV->Option (List PV)
 |.tp _ a=>AA a.reverse
 |.lst a=>AA a.reverse
 |_=>AD
def ybS:PV->Option (List PV)
 |.str s=>if s.length<=1000000 then AA (s.cps.toList.map λc=>.str #[(List.toArray [c])])else AD
 |_=>AD
def ygl(x y:PV):Option (List PV):=
 match x,y with
 |.tp _ a,.tp _ b=>if a.length<=b.length then AA (yaT a b)else AD
 |_,_=>AD
def yax(s:AR):List (AR×PV)->Option PV
 |[]=>AD
 |(a,b)::r=>if decide (a=s)then AA b else yax s r
def yd6(D:List (AR×PV))(x:PV):Option PV:=
 match x with
 |.str s=>yax s D
 |_=>AD
def yeO(D:List (AR×PV))(x:PV):Option PV:=
 match x with
 |.str s=>AA (.bl (yax s D).isSome)
 |_=>AD
def yg:Nat->Int->Int->List PV
 |0,_,_=>[]
 |n+1,a,d=>.int a::yg n (a+d) d
def ybr(x:PV):Option (List PV):=
 match x with
 |.int j=>if j.natAbs<1000000000 then AA (yg j.toNat 0 1)else AD
 |_=>AD
def ydo(x:PV):Option (List PV):=
 match x with
 |.int j=>if 0<=j/\j<1000000000 then AA (yg j.toNat (j-1) (-1))else AD
 |_=>AD
def ygq(x y:PV):Option (List PV):=
 match x,y with
 |.int i,.int j=>if i.natAbs<1000000000/\j.natAbs<1000000000 then AA (yg (j-i).toNat i 1)else AD
 |_,_=>AD
def ygI(x y:PV):Option (List PV):=
 match x,y with
 |.int i,.int j=>if i.natAbs<1000000000/\j.natAbs<1000000000 then AA (yg (i-j).toNat i (-1))else AD
 |_,_=>AD
def toL(o:Option (List PV))(st:SO):R (List PV):=
 match o with
 |some v=>.ok v st
 |none=>.bad
def ydH(v:PV)(st:SO):R PV:=
 match v with
 |.loc n=>match st[n]? with
  |some (.lst a)=>.ok (.lst a) (st.set n .dead)
  |_=>.bad
 |v=>.ok v st
def yc8(st:SO)(x k:PV):Option PV:=
 match yag st x with
 |some (t,a)=>if isKey t k then look k a else AD
 |none=>AD
def yal:List (PV×PV)->Option (List AR)
 |[]=>AA []
 |(.str s,_)::r=>(yal r).map (s :: ·)
 |_=>AD
def ydg(st:SO)(x:PV):Option PV:=
 match yag st x with
 |some (AC,a)=>((yal a).bind PySem.W.srkP).map λl=>.lst (l.map PV.str)
 |_=>AD
def yc5(st:SO)(x:PV):R PV:=
 match yag st x with
 |some (AC,a)=>.ok (.loc st.length) (st++[.dct AC a])
 |_=>.bad
def ybU(x y:PV):Option (List PV):=
 match x,y with
 |.tp _ a,.lst b=>if a.length<=b.length then AA (yaT a b)else AD
 |_,_=>AD
def ye6(D:List (AR×PV))(x:PV):Option PV:=
 match x with
 |.str s=>AA (.bl (!(yax s D).isSome))
 |_=>AD
def ycr(st:SO)(k x:PV):Option PV:=
 match yag st x with
 |some (t,a)=>if isKey t k then AA (.bl (!(look k a).isSome))else AD
 |none=>AD
def yca(st:SO)(x y:PV):Option PV:=
 match yaJ st y with
 |some a=>if shp x&&ybf 60 a then AA (.bl (inL x a))else AD
 |none=>AD
def yck(c:Nat)(st:SO)(x:PV)(f:AR):Option PV:=
 match x with
 |.loc n=>match st[n]? with
  |some (.ins d fs)=>if d=c then fs.lookup f else AD
  |_=>AD
 |_=>AD
def yby(f:AR)(v:PV):List (AR×PV)->List (AR×PV)
 |[]=>[(f,v)]
 |(g,x)::r=>if g=f then(g,v)::r else(g,x)::yby f v r
def ybD(c:Nat)(st:SO)(x:PV)(f:AR)(v:PV):Option SO:=
 match x with
 |.loc n=>match st[n]? with
  |some (.ins d fs)=>if d=c/\fs.length<1000 then AA (st.set n (.ins c (yby f v fs)))else AD
  |_=>AD
 |_=>AD
def yb4(c:Nat)(m:AR)(st:SO)(x:PV):Option Bool:=
 match x with
 |.loc n=>match st[n]? with
  |some (.ins d fs)=>if d=c/\fs.lookup m=AD then AA AE else AD
  |_=>AD
 |_=>AD
def newV(n:Nat)(v:PV)(st:SO):R PV:=
 match v with
 |.non=>.ok (.loc n) st
 |_=>.bad
def ybG(r:R PV):R PV:=
 match r with
 |.ok v st=>.ok v st
 |_=>.bad
inductive Fl where
 |nx (ρ:Env) (st:SO)|rt (v:PV) (st:SO)|bk (ρ:Env) (st:SO)|ct (ρ:Env) (st:SO)|exc (c:Nat) (ρ:Env) (st:SO)|bad
def onBl{A:Type}(x:PV)(k:Bool->R A):R A:=
 match x with
 |.bl b=>k b
 |_=>.bad
def onO{A:Type}(o:Option Bool)(k:Bool->R A):R A:=
 match o with
 |some b=>k b
 |none=>.bad
def onF(o:Option Bool)(k:Bool->Fl):Fl:=
 match o with
 |some b=>k b
 |none=>.bad
def onP{A:Type}(o:Option (Option Int))(k:Option Int->R A):R A:=
 match o with
 |some b=>k b
 |none=>.bad
def blO(o:Option PV):Option Bool:=
 match o with
 |some (.bl b)=>AA b
 |_=>AD
def ycQ(o:Option PV)(ys:List PV):List PV:=
 match o with
 |some y=>y::ys
 |none=>ys
def compL(one:PV->SO->R (Option PV)):List PV->SO->R (List PV)
 |[],st=>.ok [] st
 |x::c,st=>(one x st).bind λo a=>(compL one c a).bind λd b=>.ok (ycQ o d) b
def ybp(r:R (List PV)):R PV:=
 match r with
 |.ok a st=>if a.length<=1000000 then .ok (.lst a) st else .bad
 |_=>.bad
def ltS(a b:AR×Int×Int):Bool:=if a.1=b.1 then(if a.2.1==b.2.1 then(if a.2.2==b.2.2 then AC else decide (a.2.2<b.2.2))else decide (a.2.1<b.2.1))else decide (a.1.cps.toList<b.1.cps.toList)
def ybL:PV×PV->Bool
 |(_,.int _)=>AE
 |_=>AC
def ivP:PV->Int
 |.int i=>i
 |_=>0
def emR(r:R PV):R (List PV):=
 match r with
 |.ok (.tp AC a) st=>.ok a st
 |_=>.bad
def tupR(r:R (List PV)):R PV:=
 match r with
 |.ok a st=>.ok (.tp AC a) st
 |_=>.bad
def dctR(r:R (List (PV×PV))):R PV:=
 match r with
 |.ok a st=>.ok (.loc st.length) (st++[.dct AE a])
 |_=>.bad
def ycO(a b:List (PV×PV)):Bool:=a.length==b.length&&a.all λp=>match look p.1 b with
 |some v=>ivP p.2==ivP v
 |none=>AC
mutual
noncomputable def ev(call:Nat->List PV->SO->R PV)(ρ:Env)(st:SO):Ce->R PV
 |.cst v=>.ok v st
 |.var i=>match ρ[i]? with
  |some (AA v)=>.ok v st
  |_=>.bad
 |.bin o a b=>(ev call ρ st a).bind λx g=>(ev call ρ g b).bind λy n=>toR (yq o x y) n
 |.neg a=>(ev call ρ st a).bind λx g=>match x with
  |.int i=>.ok (.int (-i)) g
  |_=>.bad
 |.not a=>(ev call ρ st a).bind λx g=>onBl x λk=>.ok (.bl (!k)) g
 |.and a b=>(ev call ρ st a).bind λx g=>onBl x λk=>cond k (ev call ρ g b) (.ok (.bl AC) g)
 |.or a b=>(ev call ρ st a).bind λx g=>onBl x λk=>cond k (.ok (.bl AE) g) (ev call ρ g b)
 |.cmp o a b=>(ev call ρ st a).bind λx g=>(ev call ρ g b).bind λy n=>toR (yo o x y) n
 |.chain o p a b c=>(ev call ρ st a).bind λx g=>(ev call ρ g b).bind λy n=>onO (blO (yo o x y)) λk=>cond k ((ev call ρ n c).bind λz q=>toR (yo p y z) q) (.ok (.bl AC) n)
 |.ite c a b=>(ev call ρ st c).bind λx g=>onO (yas g x) λk=>cond k (ev call ρ g a) (ev call ρ g b)
 |.tup r=>(evs call ρ st r).bind λu g=>if u.length<=sizeMax then .ok (.tup u) g else .bad
 |.newl r=>(evs call ρ st r).bind λu g=>if u.length<=sizeMax then .ok (.loc g.length) (g++[.lst u])else .bad
 |.dict0 t=>.ok (.loc st.length) (st++[.dct t []])
 |.idx a i=>(ev call ρ st a).bind λx g=>(ev call ρ g i).bind λy n=>toR (idxV n x y) n
 |.slc a l h=>(ev call ρ st a).bind λx g=>(ev call ρ g l).bind λy n=>onP (ybe y) λo=>(ev call ρ n h).bind λz q=>toR (ybs x o z) q
 |.call f r=>(evs call ρ st r).bind λu g=>call f u g
 |.blt b r=>(evs call ρ st r).bind λu g=>toR (yaf b g u) g
 |.mth m o r=>(ev call ρ st o).bind λx g=>onO (yaw m g x) λ_=>(evs call ρ g r).bind λu n=>yaR m n x u
 |.isi a B=>(ev call ρ st a).bind λx g=>toR (ybV x B) g
 |.comp C E G c e=>(evi call ρ st G).bind λH g=>
  let A0:Env:=C.map λo=>o.bind λj=>(ρ[j]?).join
  ybp (compL (λx n=>match yr E x A0 with
   |none=>.bad
   |some w=>(ev call w n c).bind λb q=>onO (yas q b) λk=>cond k ((ev call w q e).bind λy A=>.ok (AA y) A) (.ok AD q)) H g)
 |.nope=>.bad
 |.frz a=>(ev call ρ st a).bind λx g=>ydH x g
 |.fst r=>ydD (evs call ρ st r)
 |.rep a b=>(ev call ρ st a).bind λx g=>(ev call ρ g b).bind λy n=>toR (yc4 x y) n
 |.dix D a=>(ev call ρ st a).bind λx g=>toR (yd6 D x) g
 |.din a D=>(ev call ρ st a).bind λx g=>toR (yeO D x) g
 |.fld c a f=>(ev call ρ st a).bind λx g=>toR (yck c g x f) g
 |.new c i r=>(evs call ρ st r).bind λu g=>(ybG (call i (.loc g.length::u) (g++[.ins c []]))).bind λv n=>newV g.length v n
 |.dgt a i=>(ev call ρ st a).bind λx g=>(ev call ρ g i).bind λy n=>toR (yc8 n x y) n
 |.inn a b=>(ev call ρ st a).bind λx g=>(ev call ρ g b).bind λy n=>toR (yca n x y) n
 |.mcl c i m o r=>(ev call ρ st o).bind λx g=>onO (yb4 c m g x) λ_=>(evs call ρ g r).bind λu n=>call i (x::u) n
 |.srk a=>(ev call ρ st a).bind λx g=>toR (ydg g x) g
 |.dcp a=>(ev call ρ st a).bind λx g=>yc5 g x
 |.orv a b=>(ev call ρ st a).bind λx g=>onO (yas g x) λk=>cond k (.ok x g) (ev call ρ g b)
 |.dnn a D=>(ev call ρ st a).bind λx g=>toR (ye6 D x) g
 |.dni a d=>(ev call ρ st a).bind λx g=>(ev call ρ g d).bind λy n=>toR (ycr n x y) n
noncomputable def evs(call:Nat->List PV->SO->R PV)(ρ:Env)(st:SO):Ces->R (List PV)
 |.nil=>.ok [] st
 |.cons e c=>(ev call ρ st e).bind λv a=>(evs call ρ a c).bind λd b=>.ok (v::d) b
noncomputable def evi(call:Nat->List PV->SO->R PV)(ρ:Env)(st:SO):Cit->R (List PV)
 |.seq e=>(ev call ρ st e).bind λv c=>match v with
  |.tp _ f=>.ok f c
  |.lst f=>.ok f c
  |_=>.bad
 |.range1 a=>(ev call ρ st a).bind λx c=>toL (ybr x) c
 |.range2 a b=>(ev call ρ st a).bind λx c=>(ev call ρ c b).bind λy d=>toL (ygq x y) d
 |.rangeD a b=>(ev call ρ st a).bind λx c=>(ev call ρ c b).bind λy d=>toL (ygI x y) d
 |.enum e=>(ev call ρ st e).bind λv c=>match v with
  |.tp _ f=>.ok (yw 0 f) c
  |_=>.bad
 |.zipl a b=>(ev call ρ st a).bind λx c=>(ev call ρ c b).bind λy d=>toL (ybU x y) d
 |.zip a b=>(ev call ρ st a).bind λx c=>(ev call ρ c b).bind λy d=>toL (ygl x y) d
 |.revl e=>(ev call ρ st e).bind λv c=>toL (yeP v) c
 |.revr a=>(ev call ρ st a).bind λx c=>toL (ydo x) c
 |.chars e=>(ev call ρ st e).bind λv c=>toL (ybS v) c
end
def R.fl{A:Type}(r:R A)(ρ:Env)(k:A->SO->Fl):Fl:=
 match r with
 |.ok a st=>k a st
 |.exc c st=>.exc c ρ st
 |.bad=>.bad
def ya5(f:Fl)(k:Env->SO->Fl):Fl:=
 match f with
 |.nx a st=>k a st
 |.ct a st=>k a st
 |.bk a st=>.nx a st
 |f=>f
def forL(t:Tg)(a:Env->SO->Fl):List PV->Env->SO->Fl
 |[],b,st=>.nx b st
 |x::g,b,st=>match yr t x b with
  |none=>.bad
  |some c=>ya5 (a c st) λd f=>forL t a g d f
def yaG(a:Env->SO->R PV)(b:Env->SO->Fl):Nat->Env->SO->Fl
 |0,_,_=>.bad
 |n+1,d,st=>(a d st).fl d λx c=>onF (yas c x) λk=>cond k (ya5 (b d c) λf g=>yaG a b n f g) (.nx d c)
def ybz(st:SO)(o i v:PV):Option SO:=
 match o with
 |.loc n=>match st[n]? with
  |some (.lst a)=>match i with
   |.int k=>match ixI a.length k with
    |some j=>AA (st.set n (.lst (a.set j v)))
    |none=>AD
   |_=>AD
  |_=>AD
 |_=>AD
def ya0(st:SO)(o i v:PV):Option SO:=
 match o with
 |.loc n=>match st[n]? with
  |some (.dct t a)=>if isKey t i/\a.length<1000000 then AA (st.set n (.dct t (put i v a)))else AD
  |_=>AD
 |_=>AD
mutual
noncomputable def ex(call:Nat->List PV->SO->R PV)(ρ:Env)(st:SO):Cs->Fl
 |.expr e=>(ev call ρ st e).fl ρ λ_ g=>.nx ρ g
 |.asg t e=>(ev call ρ st e).fl ρ λv g=>match yr t v ρ with
  |some p=>.nx p g
  |none=>.bad
 |.six o i e=>(ev call ρ st e).fl ρ λv g=>(ev call ρ g o).fl ρ λx l=>(ev call ρ l i).fl ρ λy n=>match ybz n x y v with
  |some q=>.nx ρ q
  |none=>.bad
 |.dput o i e=>(ev call ρ st e).fl ρ λv g=>(ev call ρ g o).fl ρ λx l=>(ev call ρ l i).fl ρ λy n=>match ya0 n x y v with
  |some q=>.nx ρ q
  |none=>.bad
 |.aug i o e=>match ρ[i]? with
  |some (AA x)=>(ev call ρ st e).fl ρ λy g=>match ybA o x y with
   |some z=>.nx (ρ.set i (AA z)) g
   |none=>.bad
  |_=>.bad
 |.ret e=>(ev call ρ st e).fl ρ λv g=>.rt v g
 |.ite c a b=>(ev call ρ st c).fl ρ λx g=>onF (yas g x) λk=>cond k (exs call ρ g a) (exs call ρ g b)
 |.for t u b=>(evi call ρ st u).fl ρ λr g=>forL t (λm l=>exs call m l b) r ρ g
 |.while c b=>yaG (λm l=>ev call m l c) (λm l=>exs call m l b) 100000 ρ st
 |.nope=>.bad
 |.try b w i h=>match exs call ρ st b with
  | .exc d p g=>if w.contains d then(match exs call (p.set i (AA (.exn d))) g h with
   |.nx m l=>.nx (m.set i AD) l
   |.rt v l=>.rt v l
   |_=>.bad)else .bad
  |f=>f
 |.sta i j e=>(ev call ρ st e).fl ρ λv g=>match v with
  |.lst (x::r)=>if r.length<=1000 then .nx ((ρ.set i (AA x)).set j (AA (.lst r))) g else .bad
  |_=>.bad
 |.sfl c o f e=>(ev call ρ st e).fl ρ λv g=>(ev call ρ g o).fl ρ λx l=>match ybD c l x f v with
  |some n=>.nx ρ n
  |none=>.bad
noncomputable def exs(call:Nat->List PV->SO->R PV)(ρ:Env)(st:SO):Css->Fl
 |.nil=>.nx ρ st
 |.cons s c=>match ex call ρ st s with
  |.nx a b=>exs call a b c
  |f=>f
end
section
variable {call:Nat->List PV->SO->R PV}{ρ:Env}{st:SO}
theorem ve1{v}:ev call ρ st (.cst v)=.ok v st:=rfl
theorem ve2{i}:ev call ρ st (.var i)=(match ρ[i]? with
    |some (AA v)=>.ok v st
    |_=>.bad):=rfl
theorem ve3{o a b}:ev call ρ st (.bin o a b)=(ev call ρ st a).bind λx c=>(ev call ρ c b).bind λy d=>toR (yq o x y) d:=rfl
theorem ve4{a}:ev call ρ st (.neg a)=((ev call ρ st a).bind λx b=>match x with
    |.int i=>.ok (.int (-i)) b
    |_=>.bad):=rfl
theorem ve5{a}:ev call ρ st (.not a)=(ev call ρ st a).bind λx b=>onBl x λk=>.ok (.bl (!k)) b:=rfl
theorem ve6{a b}:ev call ρ st (.and a b)=(ev call ρ st a).bind λx c=>onBl x λk=>cond k (ev call ρ c b) (.ok (.bl AC) c):=rfl
theorem ve7{a b}:ev call ρ st (.or a b)=(ev call ρ st a).bind λx c=>onBl x λk=>cond k (.ok (.bl AE) c) (ev call ρ c b):=rfl
theorem ve8{o a b}:ev call ρ st (.cmp o a b)=(ev call ρ st a).bind λx c=>(ev call ρ c b).bind λy d=>toR (yo o x y) d:=rfl
theorem ve9{o p a b c}:ev call ρ st (.chain o p a b c)=(ev call ρ st a).bind λx f=>(ev call ρ f b).bind λy d=>onO (blO (yo o x y)) λk=>cond k ((ev call ρ d c).bind λz g=>toR (yo p y z) g) (.ok (.bl AC) d):=rfl
theorem ve10{c a b}:ev call ρ st (.ite c a b)=(ev call ρ st c).bind λx d=>onO (yas d x) λk=>cond k (ev call ρ d a) (ev call ρ d b):=rfl
theorem ve11{b}:ev call ρ st (.tup b)=((evs call ρ st b).bind λc a=>if c.length<=sizeMax then .ok (.tup c) a else .bad):=rfl
theorem ve13{b}:ev call ρ st (.newl b)=((evs call ρ st b).bind λc a=>if c.length<=sizeMax then .ok (.loc a.length) (a++[.lst c])else .bad):=rfl
theorem ve15{t}:ev call ρ st (.dict0 t)=.ok (.loc st.length) (st++[.dct t []]):=rfl
theorem ve16{a i}:ev call ρ st (.idx a i)=(ev call ρ st a).bind λx c=>(ev call ρ c i).bind λy b=>toR (idxV b x y) b:=rfl
theorem ve17{a l h}:ev call ρ st (.slc a l h)=(ev call ρ st a).bind λx b=>(ev call ρ b l).bind λy c=>onP (ybe y) λo=>(ev call ρ c h).bind λz d=>toR (ybs x o z) d:=rfl
theorem ve18{f b}:ev call ρ st (.call f b)=(evs call ρ st b).bind λc a=>call f c a:=rfl
theorem ve19{b c}:ev call ρ st (.blt b c)=(evs call ρ st c).bind λd a=>toR (yaf b a d) a:=rfl
theorem ve20{m o c}:ev call ρ st (.mth m o c)=(ev call ρ st o).bind λx a=>onO (yaw m a x) λ_=>(evs call ρ a c).bind λd b=>yaR m b x d:=rfl
theorem ve21{a c}:ev call ρ st (.isi a c)=(ev call ρ st a).bind λx b=>toR (ybV x c) b:=rfl
theorem vxq19{m n p c e}:ev call ρ st (.comp m n p c e)=((evi call ρ st p).bind λq f=>
    let A0:Env:=m.map λo=>o.bind λj=>(ρ[j]?).join
    ybp (compL (λx g=>match yr n x A0 with
     |none=>.bad
     |some d=>(ev call d g c).bind λb a=>onO (yas a b) λk=>cond k ((ev call d a e).bind λy l=>.ok (AA y) l) (.ok AD a)) q f)):=rfl
theorem ve24:ev call ρ st .nope=.bad:=rfl
theorem ve25{a}:ev call ρ st (.frz a)=(ev call ρ st a).bind λx b=>ydH x b:=rfl
theorem ve26{a}:ev call ρ st (.fst a)=ydD (evs call ρ st a):=rfl
theorem ve27{a b}:ev call ρ st (.rep a b)=(ev call ρ st a).bind λx c=>(ev call ρ c b).bind λy d=>toR (yc4 x y) d:=rfl
theorem ve28{D a}:ev call ρ st (.dix D a)=(ev call ρ st a).bind λx b=>toR (yd6 D x) b:=rfl
theorem ve29{a D}:ev call ρ st (.din a D)=(ev call ρ st a).bind λx b=>toR (yeO D x) b:=rfl
theorem ve32{c a f}:ev call ρ st (.fld c a f)=(ev call ρ st a).bind λx b=>toR (yck c b x f) b:=rfl
theorem ve33{c i d}:ev call ρ st (.new c i d)=(evs call ρ st d).bind λf a=>(ybG (call i (.loc a.length::f) (a++[.ins c []]))).bind λv b=>newV a.length v b:=rfl
theorem ve34{a i}:ev call ρ st (.dgt a i)=(ev call ρ st a).bind λx c=>(ev call ρ c i).bind λy b=>toR (yc8 b x y) b:=rfl
theorem ve36{a b}:ev call ρ st (.inn a b)=(ev call ρ st a).bind λx d=>(ev call ρ d b).bind λy c=>toR (yca c x y) c:=rfl
theorem ve37{c i m o d}:ev call ρ st (.mcl c i m o d)=(ev call ρ st o).bind λx a=>onO (yb4 c m a x) λ_=>(evs call ρ a d).bind λf b=>call i (x::f) b:=rfl
theorem ve58{a}:ev call ρ st (.srk a)=(ev call ρ st a).bind λx b=>toR (ydg b x) b:=rfl
theorem ve59{a}:ev call ρ st (.dcp a)=(ev call ρ st a).bind λx b=>yc5 b x:=rfl
theorem ve60{a b}:ev call ρ st (.orv a b)=(ev call ρ st a).bind λx c=>onO (yas c x) λk=>cond k (.ok x c) (ev call ρ c b):=rfl
theorem ve57{a D}:ev call ρ st (.dnn a D)=(ev call ρ st a).bind λx b=>toR (ye6 D x) b:=rfl
theorem ve56{a d}:ev call ρ st (.dni a d)=(ev call ρ st a).bind λx c=>(ev call ρ c d).bind λy b=>toR (ycr b x y) b:=rfl
theorem vsq0:evs call ρ st .nil=.ok [] st:=rfl
theorem vsq1{e c}:evs call ρ st (.cons e c)=(ev call ρ st e).bind λv a=>(evs call ρ a c).bind λd b=>.ok (v::d) b:=rfl
theorem vjq0{e}:evi call ρ st (.seq e)=((ev call ρ st e).bind λv a=>match v with
    |.tp _ b=>.ok b a
    |.lst b=>.ok b a
    |_=>.bad):=rfl
theorem vjq1{a}:evi call ρ st (.range1 a)=(ev call ρ st a).bind λx b=>toL (ybr x) b:=rfl
theorem vjq2{a b}:evi call ρ st (.range2 a b)=(ev call ρ st a).bind λx c=>(ev call ρ c b).bind λy d=>toL (ygq x y) d:=rfl
theorem vjq3{a b}:evi call ρ st (.rangeD a b)=(ev call ρ st a).bind λx c=>(ev call ρ c b).bind λy d=>toL (ygI x y) d:=rfl
theorem vjq4{e}:evi call ρ st (.enum e)=((ev call ρ st e).bind λv a=>match v with
    |.tp _ b=>.ok (yw 0 b) a
    |_=>.bad):=rfl
theorem vjq5{a b}:evi call ρ st (.zipl a b)=(ev call ρ st a).bind λx c=>(ev call ρ c b).bind λy d=>toL (ybU x y) d:=rfl
theorem vjq6{a b}:evi call ρ st (.zip a b)=(ev call ρ st a).bind λx c=>(ev call ρ c b).bind λy d=>toL (ygl x y) d:=rfl
theorem vjq7{e}:evi call ρ st (.revl e)=(ev call ρ st e).bind λv a=>toL (yeP v) a:=rfl
theorem vjq8{a}:evi call ρ st (.revr a)=(ev call ρ st a).bind λx b=>toL (ydo x) b:=rfl
theorem vjq9{e}:evi call ρ st (.chars e)=(ev call ρ st e).bind λv a=>toL (ybS v) a:=rfl
theorem xrq0{e}:ex call ρ st (.expr e)=(ev call ρ st e).fl ρ λ_ a=>.nx ρ a:=rfl
theorem xrq1{t e}:ex call ρ st (.asg t e)=((ev call ρ st e).fl ρ λv a=>match yr t v ρ with
    |some b=>.nx b a
    |none=>.bad):=rfl
theorem xrq2{o i e}:ex call ρ st (.six o i e)=((ev call ρ st e).fl ρ λv a=>(ev call ρ a o).fl ρ λx b=>(ev call ρ b i).fl ρ λy c=>match ybz c x y v with
    |some d=>.nx ρ d
    |none=>.bad):=rfl
theorem xrq3{o i e}:ex call ρ st (.dput o i e)=((ev call ρ st e).fl ρ λv a=>(ev call ρ a o).fl ρ λx b=>(ev call ρ b i).fl ρ λy c=>match ya0 c x y v with
    |some d=>.nx ρ d
    |none=>.bad):=rfl
theorem xrq4{i o e}:ex call ρ st (.aug i o e)=(match ρ[i]? with
    |some (AA x)=>(ev call ρ st e).fl ρ λy a=>match ybA o x y with
     |some z=>.nx (ρ.set i (AA z)) a
     |none=>.bad
    |_=>.bad):=rfl
theorem xrq5{e}:ex call ρ st (.ret e)=(ev call ρ st e).fl ρ λv a=>.rt v a:=rfl
theorem xrq6{c a b}:ex call ρ st (.ite c a b)=(ev call ρ st c).fl ρ λx d=>onF (yas d x) λk=>cond k (exs call ρ d a) (exs call ρ d b):=rfl
theorem xrq7{t f b}:ex call ρ st (.for t f b)=(evi call ρ st f).fl ρ λg a=>forL t (λc d=>exs call c d b) g ρ a:=rfl
theorem xrq8{c b}:ex call ρ st (.while c b)=yaG (λa d=>ev call a d c) (λa d=>exs call a d b) 100000 ρ st:=rfl
theorem xrq9:ex call ρ st .nope=.bad:=rfl
theorem xrq10{b l i h}:ex call ρ st (.try b l i h)=(match exs call ρ st b with
    | .exc d c g=>if l.contains d then(match exs call (c.set i (AA (.exn d))) g h with
     |.nx j a=>.nx (j.set i AD) a
     |.rt v a=>.rt v a
     |_=>.bad)else .bad
    |f=>f):=rfl
theorem xrq11{i j e}:ex call ρ st (.sta i j e)=((ev call ρ st e).fl ρ λv a=>match v with
    |.lst (x::b)=>if b.length<=1000 then .nx ((ρ.set i (AA x)).set j (AA (.lst b))) a else .bad
    |_=>.bad):=rfl
theorem xrq12{c o f e}:ex call ρ st (.sfl c o f e)=((ev call ρ st e).fl ρ λv a=>(ev call ρ a o).fl ρ λx b=>match ybD c b x f v with
    |some d=>.nx ρ d
    |none=>.bad):=rfl
theorem xqq0:exs call ρ st .nil=.nx ρ st:=rfl
theorem xqq1{s c}:exs call ρ st (.cons s c)=(match ex call ρ st s with
    |.nx a b=>exs call a b c
    |f=>f):=rfl
end
structure Fn where
 np:Nat
 ns:Nat
 pure:Bool
 body:Css
def yc(T:Nat->Option Fn):Nat->Nat->List PV->SO->R PV
 |0,_,_,_=>.bad
 |k+1,f,a,st=>match T f with
  |none=>.bad
  |some d=>if a.length=d.np then
    if d.pure then
     if nLs a then match exs (yc T k) (a.map AA++AT (d.ns-d.np) AD) [] d.body with
      |.rt v _=>if nL v then .ok v st else .bad
      |.nx _ _=>.ok .non st
      |.exc c _ _=>.exc c st
      |_=>.bad
     else .bad
    else match exs (yc T k) (a.map AA++AT (d.ns-d.np) AD) st d.body with
     |.rt v b=>.ok v b
     |.nx _ b=>.ok .non b
     |.exc c _ b=>.exc c b
     |_=>.bad
   else .bad
def yay:List (Sum Ce Int)->Ces
 |[]=>.nil
 |.inl c::r=>.cons c (yay r)
 |.inr i::r=>.cons (.cst (.int i)) (yay r)
def ycK:Ces->Ces->Ces
 |.nil,b=>b
 |.cons e r,b=>.cons e (ycK r b)
end IC
namespace L2
open PySem PySem.Spec PyProof.Rows IC
abbrev Ph:=List (Option AJ)
section
variable (K:AF)(cl:Nat->AJ)(B:AJ->Prop)(A:Ph)(H:Hp)
def ybE(k:Bool)(a:AJ)(xs:List V):Prop:=(H a=AA (.tup xs)/\¬B a/\AA a∉A) \/
 k=AE/\∃(o:Bw) (b:Array AG) (n:Nat),K.lookup a=AA o/\o.cls=.type "tuple"/\o.data=.seq b n/\b.size<=sizeLine/\Vals xs b.toList
def ybN(a:AJ)(xs:List V):Prop:=H a=AA (.lst xs)/\¬B a/\AA a∉A
def ydX(a:AJ)(xs:List V):Prop:=(Rd H a (.lst xs)/\¬B a/\AA a∉A) \/
 ∃(o:Bw) (b:Array AG) (n:Nat),K.lookup a=AA o/\o.cls=.type "list"/\o.dict=AD/\o.data=.seq b n/\b.size<=sizeLine/\Vals xs b.toList
mutual
noncomputable def yd:PV->V->Prop
 |.non,x=>x=.non
 |.bl b,x=>x=.bl b
 |.int i,x=>x=.int i
 |.str s,x=>x=.str s
 |.tp k f,x=>∃a d,x=.ref a/\ybE K B A H k a d/\ye f d
 |.lst f,x=>∃a d,x=.ref a/\ybN B A H a d/\ye f d
 |.loc n,x=>n<A.length/\∃a,x=.ref a/\∀b,A[n]?=AA (AA b)->b=a
 |.exn c,x=>∃a,x=.ref a/\H a=AA (.ext (ycm a (cl c)))/\¬B a/\AA a∉A
 |.scr f,x=>∃a d,x=.ref a/\ydX K B A H a d/\ye f d
 |.fnc j,x=>x=.ref (cl (1000+j))
noncomputable def ye:List PV->List V->Prop
 |[],a=>a=[]
 |v::c,a=>∃y b,a=y::b/\yd v y/\ye c b
end
def ya9:Key->PV
 |.inl i=>.int i
 |.inr y=>.str y
mutual
noncomputable def nkP:NK->PV
 |.a k=>ya9 k
 |.t l=>.tup (yaO l)
noncomputable def yaO:List NK->List PV
 |[]=>[]
 |k::l=>nkP k::yaO l
end
def DK:List (PV×PV)->List (Key×V)->Prop
 |[],a=>a=[]
 |(k,v)::r,a=>∃q x s,a=(q,x)::s/\k=ya9 q/\yd K cl B A H v x/\DK r s
def DT:List (PV×PV)->List (List NK×V)->Prop
 |[],a=>a=[]
 |(k,v)::r,a=>∃q x s,a=(q,x)::s/\k=.tup (yaO q)/\yd K cl B A H v x/\DT r s
def FS:List (AR×PV)->List (AR×V)->Prop
 |[],a=>a=[]
 |(k,v)::r,a=>∃x s,a=(k,x)::s/\yd K cl B A H v x/\FS r s
def yb9:Ob->AJ->Prop
 |.lst g,a=>∃f,H a=AA (.lst f)/\ye K cl B A H g f
 |.dct AC d,a=>∃b,H a=AA (.dK b)/\DK K cl B A H d b
 |.dct AE d,a=>∃b,H a=AA (.dT b)/\DT K cl B A H d b
 |.dead,_=>False
 |.ins c fs,a=>∃b,(∃j,H a=AA (.ins (cl c) j b))/\FS K cl B A H fs b
structure yj(st:SO):Prop where
 len:A.length=st.length
 inj:∀(m n:Nat) (a:AJ),A[m]?=AA (AA a)->A[n]?=AA (AA a)->m=n
 obj:∀(n:Nat) (a:AJ),A[n]?=AA (AA a)->∃o,st[n]?=AA o/\yb9 K cl B A H o a
 liv:∀(n:Nat) (o:Ob),st[n]?=AA o->o ≠ .dead->∃a,A[n]?=AA (AA a)
 nb:∀a,AA a∈A->¬B a
 dom:∀a,B a->∃o,H a=AA o
 nt:∀a,B a->∀xs,H a≠AA (.tup xs)
structure yC(ρ:IC.Env)(C:St):Prop where
 len:ρ.length=C.length
 get:∀(i:Nat) (v:PV),ρ[i]?=AA (AA v)->∃x,C[i]?=AA (AA x)/\yd K cl B A H v x
end
structure Step(A:Ph)(H:Hp)(A':Ph)(H':Hp):Prop where
 keep:∀b o,AA b∉A->H b=AA o->H' b=AA o
 len:A.length<=A'.length
 pre:∀(n:Nat) (a:AJ),n<A.length->A'[n]?=AA (AA a)->A[n]?=AA (AA a)
 new:∀b,AA b∈A'->AA b∈A \/ H b=AD
theorem Step.rfl{A:Ph}{H:Hp}:Step A H A H:=#[λ_ _ _ e=>e,AU _,λ_ _ _ e=>e,λ_ h=>.inl h]
theorem Step.trans{A A1 A2:Ph}{H c d:Hp}(s:Step A H A1 c)(t:Step A1 c A2 d):Step A H A2 d:=by
 refine#[λb o n e=>?_,Bl s.len t.len,λn a f e=>s.pre n a f (t.pre n a (Af f s.len) e),λb g=>?_]
 .refine t.keep b o (λh=>?_) (s.keep b o n e);rcases s.new b h with q|q
  .exact n q
  .rw[e]at q;cases q
 .rcases t.new b g with q|q
  .exact s.new b q
  .by_cases h:AA b∈A
   .exact .inl h
   .refine .inr ?_
    cases e:H b with
    |none=>exact GH _
    |some o=>rw[s.keep b o h e]at q;cases q
section
variable {K:AF}{cl:Nat->AJ}{B:AJ->Prop}{A A':Ph}{H H':Hp}{st:SO}{ρ:IC.Env}{C:St}
theorem Rd.step(s:Step A H A' H'){a:AJ}{u:HO}(n:AA a∉A)(r:Rd H a u):Rd H' a u/\AA a∉A':=by
 have h:∃o,H a=AA o:=by rcases r with r|⟨o,r⟩<;>exact#[_,r]
 refine#[?_,λz=>?_]
 .rcases r with r|⟨o,r⟩
  .exact .inl (s.keep _ _ n r)
  .exact .inr #[o,s.keep _ _ n r]
 .let#[o,e]:=h;rcases s.new a z with q|q
  .exact n q
  .rw[e]at q;cases q
theorem ybE.step(s:Step A H A' H'){k:Bool}{a:AJ}{xs:List V}(r:ybE K B A H k a xs):ybE K B A' H' k a xs:=by
 rcases r with⟨r,b,n⟩|r
 .let#[_,c]:=(Rd.of r).step s n;exact .inl #[s.keep _ _ n r,b,c]
 .exact .inr r
theorem ybN.step(s:Step A H A' H'){a:AJ}{xs:List V}(r:ybN B A H a xs):ybN B A' H' a xs:=by let#[r,b,n]:=r;let#[_,c]:=(Rd.of r).step s n;exact#[s.keep _ _ n r,b,c]
theorem ydX.step(s:Step A H A' H'){a:AJ}{xs:List V}(r:ydX K B A H a xs):ydX K B A' H' a xs:=by
 rcases r with⟨r,b,n⟩|r
 .let#[c,d]:=r.step s n;exact .inl #[c,b,d]
 .exact .inr r
mutual
theorem yd.step(s:Step A H A' H'):∀(v:PV) (x:V),yd K cl B A H v x->yd K cl B A' H' v x
 |.non,x,h=>by erw[yd]at h ⊢;exact h
 |.bl b,x,h=>by erw[yd]at h ⊢;exact h
 |.int i,x,h=>by erw[yd]at h ⊢;exact h
 |.str y,x,h=>by erw[yd]at h ⊢;exact h
 |.tp k f,x,h=>by erw[yd]at h ⊢;let#[a,d,e,r,l]:=h;exact#[a,d,e,r.step s,ye.step s f d l]
 |.lst f,x,h=>by erw[yd]at h ⊢;let#[a,d,e,r,l]:=h;exact#[a,d,e,r.step s,ye.step s f d l]
 |.loc n,x,h=>by erw[yd]at h ⊢;let#[g,a,e,m]:=h;exact#[Af g s.len,a,e,λb q=>m b (s.pre n b g q)]
 |.fnc j,x,h=>by erw[yd]at h ⊢;exact h
 |.exn c,x,h=>by erw[yd]at h ⊢;let#[a,e,r,b,n]:=h;let#[_,o]:=(Rd.of r).step s n;exact#[a,e,s.keep _ _ n r,b,o]
 |.scr f,x,h=>by erw[yd]at h ⊢;let#[a,d,e,r,l]:=h;exact#[a,d,e,r.step s,ye.step s f d l]
theorem ye.step(s:Step A H A' H'):∀(v:List PV) (x:List V),ye K cl B A H v x->ye K cl B A' H' v x
 |[],x,h=>by erw[ye]at h ⊢;exact h
 |v::b,x,h=>by erw[ye]at h ⊢;let#[y,a,e,r,l]:=h;exact#[y,a,e,yd.step s v y r,ye.step s b a l]
end
theorem yC.step(s:Step A H A' H')(r:yC K cl B A H ρ C):yC K cl B A' H' ρ C:=#[r.len,λi v e=>by let#[x,h,q]:=r.get i v e;exact#[x,h,q.step s]]
mutual
theorem yd.inn(g:∀a,AA a∈A->¬B a):∀(v:PV) (x:V),nL v=AE->yd K cl B A H v x->yd K cl (λa=>B a \/ AA a∈A) [] H v x
 |.non,x,_,h=>by erw[yd]at h ⊢;exact h
 |.bl b,x,_,h=>by erw[yd]at h ⊢;exact h
 |.int i,x,_,h=>by erw[yd]at h ⊢;exact h
 |.str y,x,_,h=>by erw[yd]at h ⊢;exact h
 |.tp k f,x,q,h=>by
  erw[yd]at h ⊢;let#[a,d,e,r,l]:=h;refine#[a,d,e,?_,ye.inn g f d (by simpa only[nL] using q) l];rcases r with⟨r,b,n⟩|r
  .exact .inl #[r,λz=>z.elim b n,by simp]
  .exact .inr r
 |.lst f,x,q,h=>by erw[yd]at h ⊢;let#[a,d,e,#[r,b,n],l]:=h;exact#[a,d,e,#[r,λz=>z.elim b n,by simp],ye.inn g f d (by simpa only[nL] using q) l]
 |.loc n,x,q,h=>by simp[nL]at q
 |.fnc j,x,q,h=>by erw[yd]at h ⊢;exact h
 |.exn c,x,q,h=>by simp[nL]at q
 |.scr f,x,q,h=>by
  erw[yd]at h ⊢;let#[a,d,e,r,l]:=h;refine#[a,d,e,?_,ye.inn g f d (by simpa only[nL] using q) l];rcases r with⟨r,b,n⟩|r
  .exact .inl #[r,λz=>z.elim b n,by simp]
  .exact .inr r
theorem ye.inn(b:∀a,AA a∈A->¬B a):∀(v:List PV) (x:List V),nLs v=AE->ye K cl B A H v x->ye K cl (λa=>B a \/ AA a∈A) [] H v x
 |[],x,_,h=>by erw[ye]at h ⊢;exact h
 |v::d,x,q,h=>by erw[ye]at h ⊢;erw[nLs,AK]at q;let#[y,c,e,r,l]:=h;exact#[y,c,e,yd.inn b v y q.1 r,ye.inn b d c q.2 l]
end
mutual
theorem yd.out{D:Ph}:∀(v:PV) (x:V),nL v=AE->yd K cl (λa=>B a \/ AA a∈A) D H v x->yd K cl B A H v x
 |.non,x,_,h=>by erw[yd]at h ⊢;exact h
 |.bl b,x,_,h=>by erw[yd]at h ⊢;exact h
 |.int i,x,_,h=>by erw[yd]at h ⊢;exact h
 |.str y,x,_,h=>by erw[yd]at h ⊢;exact h
 |.tp k f,x,q,h=>by
  erw[yd]at h ⊢;let#[a,d,e,r,l]:=h;refine#[a,d,e,?_,ye.out f d (by simpa only[nL] using q) l];rcases r with⟨r,b,n⟩|r
  .exact .inl #[r,λz=>b (.inl z),λz=>b (.inr z)]
  .exact .inr r
 |.lst f,x,q,h=>by erw[yd]at h ⊢;let#[a,d,e,#[r,b,n],l]:=h;exact#[a,d,e,#[r,λz=>b (.inl z),λz=>b (.inr z)],ye.out f d (by simpa only[nL] using q) l]
 |.loc n,x,q,h=>by simp[nL]at q
 |.fnc j,x,q,h=>by erw[yd]at h ⊢;exact h
 |.exn c,x,q,h=>by simp[nL]at q
 |.scr f,x,q,h=>by
  erw[yd]at h ⊢;let#[a,d,e,r,l]:=h;refine#[a,d,e,?_,ye.out f d (by simpa only[nL] using q) l];rcases r with⟨r,b,n⟩|r
  .exact .inl #[r,λz=>b (.inl z),λz=>b (.inr z)]
  .exact .inr r
theorem ye.out{D:Ph}:∀(v:List PV) (x:List V),nLs v=AE->ye K cl (λa=>B a \/ AA a∈A) D H v x->ye K cl B A H v x
 |[],x,_,h=>by erw[ye]at h ⊢;exact h
 |v::c,x,q,h=>by erw[ye]at h ⊢;erw[nLs,AK]at q;let#[y,b,e,r,l]:=h;exact#[y,b,e,yd.out v y q.1 r,ye.out c b q.2 l]
end
theorem ye.length:∀{v:List PV} {x:List V},ye K cl B A H v x->v.length=x.length
 |[],x,h=>by erw[ye]at h;subst h;rfl
 |v::a,x,h=>by erw[ye]at h;let#[y,b,rfl,_,l]:=h;simp[ye.length l]
theorem DK.step(s:Step A H A' H'):∀{a:List (PV×PV)} {ks:List (Key×V)},DK K cl B A H a ks->DK K cl B A' H' a ks
 |[],ks,h=>h
 |(k,v)::r,ks,h=>by let#[q,x,t,e,m,b,l]:=h;exact#[q,x,t,e,m,b.step s,DK.step s l]
theorem DT.step(s:Step A H A' H'):∀{a:List (PV×PV)} {ks:List (List NK×V)},DT K cl B A H a ks->DT K cl B A' H' a ks
 |[],ks,h=>h
 |(k,v)::r,ks,h=>by let#[q,x,t,e,m,b,l]:=h;exact#[q,x,t,e,m,b.step s,DT.step s l]
theorem FS.step(s:Step A H A' H'):∀{a:List (AR×PV)} {ks:List (AR×V)},FS K cl B A H a ks->FS K cl B A' H' a ks
 |[],ks,h=>h
 |(k,v)::r,ks,h=>by let#[x,t,e,b,l]:=h;exact#[x,t,e,b.step s,FS.step s l]
theorem yb9.step(s:Step A H A' H'){o:Ob}{a:AJ}(e:H' a=H a)(r:yb9 K cl B A H o a):yb9 K cl B A' H' o a:=by
 cases o with
 |lst j=>
  let#[d,q,l]:=r;exact#[d,e.trans q,l.step s]
 |dct t f=>
  cases t with
  |false=>let#[b,q,l]:=r;exact#[b,e.trans q,l.step s]
  |true=>let#[b,q,l]:=r;exact#[b,e.trans q,l.step s]
 |dead=>exact r
 |ins c fs=>let#[b,#[g,q],l]:=r;exact#[b,#[g,e.trans q],l.step s]
theorem yb9.there{o:Ob}{a:AJ}(r:yb9 K cl B A H o a):∃u,H a=AA u:=by
 cases o with
 |lst f=>let#[g,q,l]:=r;exact#[_,q]
 |dct t b=>cases t<;>(let#[d,q,l]:=r;exact#[_,q])
 |dead=>exact r.elim
 |ins c fs=>let#[d,#[j,q],l]:=r;exact#[_,q]
theorem yj.there(S:yj K cl B A H st){a:AJ}(h:AA a∈A):∃u,H a=AA u:=by let#[n,e]:=EH.mp h;let#[o,_,r]:=S.obj n a e;exact r.there
theorem Step.upd{p:AJ}{o:HO}(a:H p=AD):Step A H A (upd H p o):=
 #[λb u n e=>by rw[zc (zd e a)];exact e,AU _,λ_ _ _ e=>e,λ_ h=>.inl h]
theorem yj.same(S:yj K cl B A H st)(k:∀b o,H b=AA o->H' b=AA o):yj K cl B A H' st:=by
 have s:Step A H A H':=#[λb o _ e=>k b o e,AU _,λ_ _ _ e=>e,λ_ h=>.inl h];refine#[S.len,S.inj,λn a e=>?_,S.liv,S.nb,λa h=>?_,λa h c e=>?_]
 .let#[o,q,r]:=S.obj n a e;let#[u,z]:=r.there;exact#[o,q,r.step s ((k a u z).trans z.symm)]
 .let#[o,q]:=S.dom a h;exact#[o,k a o q]
 .let#[o,q]:=S.dom a h;have z:=k a o q;rw[e]at z
  cases z
  exact S.nt a h c q
theorem yj.upd{p:AJ}{o:HO}(S:yj K cl B A H st)(a:H p=AD):yj K cl B A (upd H p o) st:=S.same λb u e=>by rw[zc (zd e a)];exact e
mutual
theorem yd.moreB{g:AJ->Prop}(d:∀y,g y->B y \/ H y=AD):∀(v:PV) (x:V),yd K cl B A H v x->yd K cl g A H v x
 |.non,x,h=>by erw[yd]at h ⊢;exact h
 |.bl b,x,h=>by erw[yd]at h ⊢;exact h
 |.int i,x,h=>by erw[yd]at h ⊢;exact h
 |.str y,x,h=>by erw[yd]at h ⊢;exact h
 |.tp k f,x,h=>by
  erw[yd]at h ⊢;let#[y,a,e,r,l]:=h;refine#[y,a,e,?_,ye.moreB d f a l];rcases r with⟨r,b,n⟩|r
  .exact .inl #[r,λz=>(d y z).elim b λq=>(by rw[q]at r;cases r),n]
  .exact .inr r
 |.lst f,x,h=>by erw[yd]at h ⊢;let#[y,a,e,#[r,b,n],l]:=h;exact#[y,a,e,#[r,λz=>(d y z).elim b λq=>(by rw[q]at r;cases r),n],ye.moreB d f a l]
 |.loc n,x,h=>by erw[yd]at h ⊢;exact h
 |.fnc j,x,h=>by erw[yd]at h ⊢;exact h
 |.exn c,x,h=>by erw[yd]at h ⊢;let#[y,e,r,b,n]:=h;exact#[y,e,r,λz=>(d y z).elim b λq=>(by rw[q]at r;cases r),n]
 |.scr f,x,h=>by
  erw[yd]at h ⊢;let#[y,a,e,r,l]:=h;refine#[y,a,e,?_,ye.moreB d f a l];rcases r with⟨r,b,n⟩|r
  .refine .inl #[r,λz=>(d y z).elim b λq=>?_,n];rcases r with r|⟨o,r⟩<;>(rw[q]at r;cases r)
  .exact .inr r
theorem ye.moreB{a:AJ->Prop}(b:∀y,a y->B y \/ H y=AD):∀(v:List PV) (x:List V),ye K cl B A H v x->ye K cl a A H v x
 |[],x,h=>by erw[ye]at h ⊢;exact h
 |v::d,x,h=>by erw[ye]at h ⊢;let#[y,c,e,r,l]:=h;exact#[y,c,e,yd.moreB b v y r,ye.moreB b d c l]
end
end
end L2
namespace L2
open PySem PySem.Spec PyProof.Rows
def CXH(X:Cx)(H:Hp)(s:AH)(E:XK)(e:AG)(s':AH):Prop:=
 ∃(C a:AJ) (c f fl:AG) (d:Hp) (B:Au),X.s₀.heap.objs.size<=C/\e=.ref a/\s'.os=s.os/\Dr s'.gens /\
  (B.StaysIn s'.heap/\B.get? a=AD/\s'.heap.FunFrames B X.stack/\s'.heap.TracedAtW B a c f fl)/\HOk X.prog X.w d s'.heap/\Un (frs X.stack) [C] H d s.heap s'.heap /\
  (∀b o,s.heap.get? b=AA o->H b=AD->b∉frs X.stack->b≠C->B.get? b=AA o)/\(∀b u,d b=AA u->∃o,B.get? b=AA o)/\(∀b o,s.heap.get? b=AA o->b∉frs X.stack->b≠C->∃g,B.get? b=AA g)/\E c AD d
theorem CXH.mono{X:Cx}{H:Hp}{s:AH}{E g:XK}{e:AG}{s':AH}(h:CXH X H s E e s')(n:∀b c,E b AD c->g b AD c):CXH X H s g e s':=by let#[C,a,b,j,fl,c,B,l,m,o,p,q,r,t,u,r9,d,f]:=h;exact#[C,a,b,j,fl,c,B,l,m,o,p,q,r,t,u,r9,d,n _ _ f]
section
variable {M:JW}{A:Ai}{E:AG->AH->Prop}{s:AH}
def zdt{base:Au}{env:Env}{outer:List Env}{L e:AJ}{cls y fl:AG}{Q:Unit->AH->Prop}
  (p:A.frames=AA (env::outer)) (hf:env.frame=AA L) (B:base.StaysIn s.heap) (r:base.get? e=AD) (C:s.heap.FunFrames base (env::outer)) (t:s.heap.TracedAtW base e cls y fl)
  (D:∀j,GF base outer e cls y j->s.heap.UpToSlots j->Q Unit.unit {s with heap:=j}):A1 M A («leaving» env (.ref e)) Q E s:=by
 by_cases g:fl=rawInt L
 .subst g;unfold «leaving»;refine AB (wpAny_noteFrame_againW hf t ?_);refine wpAny_landsW #[B,r,C,t] λj g O=>?_;let#[k1,U,#[_,_,X],k4]:=g;exact D j #[k1,U,X,k4] O
 .let#[oe,G,T,oT,Y,H,#[n,Z],I,J,u,w,x,l,N]:=t;subst n;unfold «leaving» noteFrame;erw[hf];refine AB (AB (Aq H I J ?_));rw[if_pos (show (Ag T != BJ)=AE from by simp)];refine AB (Aq x l N ?_);rw[if_neg (show ¬((fl==rawInt L)=AE)from λz=>g (eq_of_beq z))];refine AB (DU x l (Ey.mp N).1 ?_);have c:∀b,b≠T->(s.heap.update T (Iw (·.setIfInBounds 3 BJ))).get? b=s.heap.get? b:=λb f=>Dx _ _ (BR f);have a:∀b o,s.heap.get? b=AA o->(∀G,o.data ≠ .fields G)->b≠T:=λb o f d q=>by rw[q,x]at f;injection f with f;subst f;exact d Y l
  refine wpAny_newEntryW p (C.of_keeps λb o f d=>#[o,(c b (a b o f d)).trans f,rfl]) hf ((c e (BR w)).trans H)
   (λb o m=>(c b λq=>by rw[q,u]at m;cases m).trans (B b o m)) r I (Ey.mp J).1 Z
   λj #[x1,#[_,_,x2],x3,x4]=>D j #[x1,r,x2,x3] λb o f d=>x4 b o ((c b (a b o f d)).trans f) d
end
section
variable {P:A6}{w:Ah}{K:AF}{mg:AR->Option AG}{base:Au}{N:List AR}{qual:AR}{scope:B4}{f:AJ}{cd:AG}{A:Ai}{outer:List Env}{s₀:AH}{H₀:Hp}{E:XK}
def zpd{F:List (AJ×Bw)}{D:St}{H:Hp}{s:AH}{e:AG}{s':AH}(I:Inv (yaU (CX1 P w) P w K mg base N qual scope f cd A outer s₀ H₀ E) F D H s)(h:CXH (yaU (CX1 P w) P w K mg base N qual scope f cd A outer s₀ H₀ E) H s E e s'):
  (yaU (CX1 P w) P w K mg base N qual scope f cd A outer s₀ H₀ E).xe e s':=by
 let#[C,a,J,a0,fl,Z,B,hC,rfl,os,t,#[f1,f2,L,f4],M,un,hB,tr,hT,hE]:=h;have c:Un (frs outer) [] H₀ H s₀.heap s.heap:=I.base;have lt:∀b o,s₀.heap.get? b=AA o->b≠s₀.heap.objs.size:=λb o q=>Ad (A0 q);have m:∀b o,s₀.heap.get? b=AA o->b≠C:=λb o q=>Ad (Af (A0 q) hC);have p:∀b o,s₀.heap.get? b=AA o->b∉[C]:=λb o q z=>m b o q (by simpa using z);have x:∀b,b∈frs (envOfC qual scope s₀.heap.objs.size f cd::outer)->b=s₀.heap.objs.size \/ b∈frs outer:=λb d=>by have O:b∈s₀.heap.objs.size::frs outer:=d;exact A8.mp O
 have g:Un (frs (envOfC qual scope s₀.heap.objs.size f cd::outer)) [C] H Z s.heap s'.heap:=un;have kB:∀b o,s₀.heap.get? b=AA o->H₀ b=AD->b∉frs outer->B.get? b=AA o:=λb o q n d=>hB b o (c.keep b o q n d (by simp)) (c.free b o q n (by simp)) (λz=>by
  rcases x b z with z|z
  .exact lt b o q z
  .exact d z) (m b o q)
 have kT:∀b o,s₀.heap.get? b=AA o->b∉frs outer->∃l,B.get? b=AA l:=λb o q d=>by
  let#[l,r]:=c.there b o q (by simp);refine hT b l r (λz=>?_) (m b o q);rcases x b z with z|z
  .exact lt b o q z
  .exact d z
 refine zdt I.ok.frames rfl f1 f2 L f4 λh'' j up=>?_;refine#[a,J,a0,Z,B,rfl,os.trans I.os,t,j,HOk.inB M f1 j.1 tr,#[λb o q n d _=>j.1 b o (kB b o q n d),λb o q n d _=>?_,λb o q n _=>?_,λb o q _=>?_,λb xs q=>g.tups b xs (c.tups b xs q),λb o u q=>g.frzs b o u (c.frzs b o u q),λb ps q=>?_],kB,tr,kT,hE]
 .let#[sl,r]:=c.slot b o q n d (by simp);have n1:=c.free b o q n (by simp);let#[sl1,G]:=g.slot b _ r n1 (AS _ d) (p b o q);let#[_,l,Q,U]:=Bi L (show b∈EA (λ(z:Env)=>z.frame) _ from AS _ d);let#[y,X]:=up b _ G (by rw[Q]at G;cases G;exact U);exact#[y,X]
 .let#[l,r]:=c.there b o q (by simp);exact g.free b l r (c.free b o q n (by simp)) (p b o q)
 .let#[l,r]:=c.there b o q (by simp);let#[o2,G]:=g.there b l r (p b o q)
  by_cases d:b∈frs outer
  .let#[_,o3,Y,U]:=Bi L (show b∈EA (λ(z:Env)=>z.frame) _ from AS _ d);let#[y,X]:=up b _ Y U;exact#[_,X]
  .let#[o4,q4]:=kT b o q d;exact#[o4,j.1 b o4 q4]
 .let#[m1,e1]:=c.tbls b ps q;let#[m2,e2]:=g.tbls b _ e1;exact#[m1++m2,by rw[e2,Ei]]
end
section
variable {pg:A6}{wd:Ah}{A:Ai}{R:F0->AH->Prop}{s:AH}
end
section
variable {X:Cx}{sc:B4}{NC:List AR}{slots:List (Option Nat)}{elt tg iter:AZ}{ifs:List AZ}{pos:CK}{g:TG}{ti:TT}{te:CI->TE}{E:XK}
end
end L2
namespace L2
open PySem PySem.Spec PyProof.Rows IC
structure Se where
 cl:Nat->AJ
 call:Nat->List PV->SO->R PV
 may:Bool
section
variable (S:Se)(X:Cx)
def ExcAt(C:St)(B:AJ->Prop)(A:Ph)(H:Hp)(k:Nat)(b:SO)(e:AG)(s':AH):Prop:=
 (∃D a s A1,Inv X D C a s/\Step A H A1 a/\CX1 X.prog X.w X.stack a s (λc _ d=>c=.ref (S.cl k)/\∃f,Step A1 a f d/\yj X.K S.cl B f d b) e s') \/
 (S.may=AE/\∃D a s A1 g j l,Inv X D C a s/\Step A H A1 a/\yj X.K S.cl B A1 a b/\Ig s.heap g j (.ref (S.cl k)) l/\e=.ref j/\s'={s with heap:=g}) \/
 (S.may=AE/\∃D a s,Inv X D C a s/\CXH X a s (λc _ d=>c=.ref (S.cl k)/\∃f,Step A H f d/\yj X.K S.cl B f d b) e s')
def Run{E F:Type}(C:St)(B:AJ->Prop)(A:Ph)(H:Hp)(Rel:Ph->Hp->E->F->Prop)(r:R E)(Q:F->Hp->Prop):Prop:=
 match r with
 |.ok v a=>∀x b c,Step A H c b->yj X.K S.cl B c b a->Rel c b v x->Q x b
 |.exc k a=>∀e d,ExcAt S X C B A H k a e d->X.xe e d
 |.bad=>False
abbrev RV(B:AJ->Prop):Ph->Hp->PV->V->Prop:=λA H=>yd X.K S.cl B A H
abbrev RL(B:AJ->Prop):Ph->Hp->List PV->List V->Prop:=λA H=>ye X.K S.cl B A H
abbrev RB:Ph->Hp->Bool->Bool->Prop:=λ_ _ b c=>b=c
def tE(c:Ce):TE:=λC H Q=>∃B A st a,yj X.K S.cl B A H st/\yC X.K S.cl B A H a C/\Run S X C B A H (RV S X B) (ev S.call a st c) Q
def tAs(c:Ces):TA:=λC H Q=>∃B A st a,yj X.K S.cl B A H st/\yC X.K S.cl B A H a C/\Run S X C B A H (RL S X B) (evs S.call a st c) Q
def ya2(r:R PV):R Bool:=r.bind λx st=>onO (yas st x) λb=>.ok b st
def tTs(c:Ce):TT:=λC H Q=>∃B A st a,yj X.K S.cl B A H st/\yC X.K S.cl B A H a C/\Run S X C B A H RB (ya2 (ev S.call a st c)) Q
end
section
variable {S:Se}{X:Cx}{C:St}{B:AJ->Prop}{A A1:Ph}{H H1:Hp}
theorem ExcAt.back{k:Nat}{a:SO}{e:AG}{s':AH}(s:Step A H A1 H1)(h:ExcAt S X C B A1 H1 k a e s'):ExcAt S X C B A H k a e s':=by
 rcases h with⟨D,b,t,A2,I,q,c⟩|⟨m,D,b,t,A2,d,f,g,I,q,c⟩|⟨m,D,b,t,I,c⟩
 .exact .inl #[D,b,t,A2,I,s.trans q,c]
 .exact .inr (.inl #[m,D,b,t,A2,d,f,g,I,s.trans q,c])
 .exact .inr (.inr #[m,D,b,t,I,c.mono λj p #[l,n,o,r]=>#[l,n,s.trans o,r]])
variable {E F J G:Type}{Rel:Ph->Hp->E->F->Prop}{JI:Ph->Hp->J->G->Prop}
theorem Run.on{r:R E}{Q:F->Hp->Prop}(s:Step A H A1 H1)(h:Run S X C B A H Rel r Q):Run S X C B A1 H1 Rel r Q:=by
 cases r with
 |ok v a=>exact λx b c t=>h x b c (s.trans t)
 |exc k a=>exact λe d x=>h e d (x.back s)
 |bad=>exact h
theorem Run.mono{r:R E}{Q d:F->Hp->Prop}(h:Run S X C B A H Rel r Q)(k:∀x a,Q x a->d x a):Run S X C B A H Rel r d:=by
 cases r with
 |ok v b=>exact λx a f t g j=>k x a (h x a f t g j)
 |exc c b=>exact h
 |bad=>exact h
theorem Run.bind{r:R E}{k:E->SO->R J}{Q:G->Hp->Prop}(h:Run S X C B A H JI (r.bind k) Q):
  Run S X C B A H Rel r λx H1=>∃v a A1,Step A H A1 H1/\yj X.K S.cl B A1 H1 a/\Rel A1 H1 v x/\Run S X C B A1 H1 JI (k v a) Q:=by
 cases r with
 |ok v b=>exact λx j d t f g=>#[v,b,d,t,f,g,Run.on t h]
 |exc c b=>exact h
 |bad=>exact h
theorem Run.ok{v:E}{st:SO}{Q:F->Hp->Prop}(h:Run S X C B A H Rel (.ok v st) Q)(rs:yj X.K S.cl B A H st){x:F}(a:Rel A H v x):Q x H:=h x H A .rfl rs a
theorem PE.imp{e:AZ}{t t':TE}(h:PE X e t')(k:∀C H Q,t C H Q->t' C H Q):PE X e t:=λD s C H Q I q=>h D s C H Q I (k C H Q q)
theorem PT.imp{e:AZ}{t t':TT}(h:PT X e t')(k:∀C H Q,t C H Q->t' C H Q):PT X e t:=λD s C H Q I q=>h D s C H Q I (k C H Q q)
theorem PW.imp{e:AZ}{t t':TT}(h:PW X e t')(k:∀C H Q,t C H Q->t' C H Q):PW X e t:=λa D s C H Q I q=>h a D s C H Q I (k C H Q q)
theorem PA.imp{e:List AZ}{t t':TA}(h:PA X e t')(k:∀C H Q,t C H Q->t' C H Q):PA X e t:=λpos D s C H Q I q=>h pos D s C H Q I (k C H Q q)
theorem tE.bind{c:Ce}{ρ:IC.Env}{st:SO}{k:PV->SO->R J}{Q:G->Hp->Prop}{P:V->Hp->Prop}(rs:yj X.K S.cl B A H st)(d:yC X.K S.cl B A H ρ C)(h:Run S X C B A H JI ((ev S.call ρ st c).bind k) Q)
  (n:∀x H1 v a A1,Step A H A1 H1->yj X.K S.cl B A1 H1 a->yC X.K S.cl B A1 H1 ρ C->yd X.K S.cl B A1 H1 v x->Run S X C B A1 H1 JI (k v a) Q->P x H1):tE S X c C H P:=
 #[B,A,st,ρ,rs,d,(Run.bind h).mono λx H1 #[v,a,A1,s,b,f,g]=>n x H1 v a A1 s b (d.step s) f g]
theorem tAs.bind{c:Ces}{ρ:IC.Env}{st:SO}{k:List PV->SO->R J}{Q:G->Hp->Prop}{P:List V->Hp->Prop}(rs:yj X.K S.cl B A H st)(d:yC X.K S.cl B A H ρ C)(h:Run S X C B A H JI ((evs S.call ρ st c).bind k) Q)
  (n:∀x H1 v a A1,Step A H A1 H1->yj X.K S.cl B A1 H1 a->yC X.K S.cl B A1 H1 ρ C->ye X.K S.cl B A1 H1 v x->Run S X C B A1 H1 JI (k v a) Q->P x H1):tAs S X c C H P:=
 #[B,A,st,ρ,rs,d,(Run.bind h).mono λx H1 #[v,a,A1,s,b,f,g]=>n x H1 v a A1 s b (d.step s) f g]
variable {i:Int}{b:Bool}{x:AR}{j:Nat}{pos:CK}{e a a':AZ}{c ca cb cc:Ce}
def zja:PE X (.Constant (.int i) j pos) (tE S X (.cst (.int i))):=zoZ.imp λC H Q #[B,A,st,b,a,c,h]=>by erw[ev]at h;exact h.ok a (by erw[yd])
def zoq:PE X (.Constant (.bool b) j pos) (tE S X (.cst (.bl b))):=zo0.imp λC H Q #[B,A,st,c,a,d,h]=>by erw[ev]at h;exact h.ok a (by erw[yd])
def znW:PE X (.Constant .none j pos) (tE S X (.cst .non)):=zo1.imp λC H Q #[B,A,st,b,a,c,h]=>by erw[ev]at h;exact h.ok a (by erw[yd])
def zmK:PE X (.Constant (.str x) j pos) (tE S X (.cst (.str x))):=zoS.imp λC H Q #[B,A,st,b,a,c,h]=>by erw[ev]at h;exact h.ok a (by erw[yd])
def zlx{i:Nat}(b:X.N[i]?=AA x)(c:Vis X.env.scope x)(d:(x==("__debug__":AR))=false:=by decide)(a:(x==("__classdict__":AR))=false:=by decide):PE X (.Name x pos) (tE S X (.var i)):=
 (znJ b c d a).imp λC H Q #[B,A,st,f,g,j,h]=>by
  erw[ev]at h
  cases q:f[i]? with
  |none=>rw[q]at h;exact h.elim
  |some o=>
   cases o with
   |none=>rw[q]at h;exact h.elim
   |some v=>
    rw[q]at h;let#[y,l,m]:=j.get i v q;exact#[y,l,h.ok g m]
def zjS{v:PV}{y:AJ}(a:Gl X x)(b:X.mg x=AA (.ref y))(c:∀B A H,yd X.K S.cl B A H v (.ref y))(d:(x==("__debug__":AR))=false:=by decide):PE X (.Name x pos) (tE S X (.cst v)):=
 (zbh a b (show RelV (.ref y) (.ref y)from rfl) d).imp λC H Q #[B,A,st,g,f,j,h]=>by erw[ev]at h;exact h.ok f (c B A H)
def zq{o:Option PV}{st:SO}{Q:VK}(h:Run S X C B A H (RV S X B) (toR o st) Q)(rs:yj X.K S.cl B A H st):∃z,o=AA z/\∀c a b,Step A H b a->yj X.K S.cl B b a st->yd X.K S.cl B b a z c->Q c a:=by
 cases o with
 |none=>exact h.elim
 |some z=>exact#[z,rfl,h]
def rT2(S:Se)(X:Cx)(f:PV->PV->Option PV):R2:=λx y H Q=>∃B A st v w z,yj X.K S.cl B A H st/\yd X.K S.cl B A H v x/\yd X.K S.cl B A H w y/\f v w=AA z /\
 ∀c a b,Step A H b a->yj X.K S.cl B b a st->yd X.K S.cl B b a z c->Q c a
def zli{g:EV}{o:BOp}(j:OpR X (binaryOp g) (rT2 S X (yq o)))(l:PE X a (tE S X ca))(m:PE X a' (tE S X cb)):PE X (.BinOp a g a' pos) (tE S X (.bin o ca cb)):=
 (znx j l m).imp λC H Q #[B,A,st,I,n,p,h]=>by erw[ev]at h;refine tE.bind n p h λx H1 v r A1 J c d t u=>tE.bind c d u λy L w f A2 D b E rw G=>?_;let#[z,e,q]:=zq G b;exact#[B,A2,f,v,w,z,b,t.step D,rw,e,q]
def znj{c:E7}{o:COp}(j:OpR X (compareOp c) (rT2 S X (yo o)))(l:PE X a (tE S X ca))(m:PE X a' (tE S X cb))(n:behindInMarks c a'=AC):PE X (.Compare a [c] [a'] pos) (tE S X (.cmp o ca cb)):=
 (zfZ j l m n).imp λC H Q #[B,A,st,J,p,r,h]=>by erw[ev]at h;refine tE.bind p r h λx H1 v t A1 L d f u D=>tE.bind d f D λy M w g A2 E b G rw I=>?_;let#[z,e,q]:=zq I b;exact#[B,A2,g,v,w,z,b,u.step E,rw,e,q]
end
section
variable {S:Se}{X:Cx}{D:St}{B:AJ->Prop}{A A1:Ph}{H H1:Hp}{K:AF}{cl:Nat->AJ}{st:SO}
theorem ybE.sq{k:Bool}{a:AJ}{xs:List V}(r:ybE K B A H k a xs):SqT K H a xs:=by
 rcases r with⟨r,_⟩|r
 .exact .inl (.inl r)
 .exact .inr r.2
theorem ybN.sq{a:AJ}{xs:List V}(r:ybN B A H a xs):SqL K H a xs:=.inl (.inl r.1)
theorem yd.tup_new{vs:List PV}{xs:List V}{p:AJ}(a:H p=AD)(rs:yj K cl B A H st)(r:ye K cl B A H vs xs):yd K cl B A (upd H p (.tup xs)) (.tup vs) (.ref p):=by
 erw[yd];refine#[p,xs,rfl,.inl #[zh,λz=>?_,λz=>?_],r.step (.upd a)]
 .let#[o,e]:=rs.dom p z;rw[a]at e;cases e
 .let#[o,e]:=rs.there z;rw[a]at e;cases e
theorem yd.lst_new{vs:List PV}{xs:List V}{p:AJ}(a:H p=AD)(rs:yj K cl B A H st)(r:ye K cl B A H vs xs):yd K cl B A (upd H p (.lst xs)) (.lst vs) (.ref p):=by
 erw[yd];refine#[p,xs,rfl,#[zh,λz=>?_,λz=>?_],r.step (.upd a)]
 .let#[o,e]:=rs.dom p z;rw[a]at e;cases e
 .let#[o,e]:=rs.there z;rw[a]at e;cases e
theorem ye.append:∀{vs ws:List PV} {xs ys:List V},ye K cl B A H vs xs->ye K cl B A H ws ys->ye K cl B A H (vs++ws) (xs++ys)
 |[],ws,xs,ys,h,q=>by erw[ye]at h;subst h;exact q
 |v::vs,ws,xs,ys,h,q=>by erw[ye]at h;let#[y,a,rfl,r,l]:=h;show ye K cl B A H (v::(vs++ws)) (y::(a++ys));erw[ye];exact#[y,a++ys,rfl,r,ye.append l q]
theorem ye.get:∀{vs:List PV} {xs:List V} (j:Nat) {v:PV},ye K cl B A H vs xs->vs[j]?=AA v->∃x,xs[j]?=AA x/\yd K cl B A H v x
 |[],xs,j,v,h,e=>by simp at e
 |w::vs,xs,0,v,h,e=>by erw[ye]at h;let#[y,a,rfl,r,l]:=h;simp at e;subst e;exact#[y,rfl,r]
 |w::vs,xs,j+1,v,h,e=>by erw[ye]at h;let#[y,a,rfl,r,l]:=h;let#[x,b,c]:=ye.get j l (by simpa using e);exact#[x,by simpa using b,c]
theorem ye.drop:∀{vs:List PV} {xs:List V} (n:Nat),ye K cl B A H vs xs->ye K cl B A H (vs.drop n) (xs.drop n)
 |vs,xs,0,h=>by simpa using h
 |[],xs,n+1,h=>by erw[ye]at h;subst h;simp[ye]
 |v::vs,xs,n+1,h=>by erw[ye]at h;let#[y,a,rfl,_,l]:=h;simpa using ye.drop n l
theorem ye.take:∀{vs:List PV} {xs:List V} (n:Nat),ye K cl B A H vs xs->ye K cl B A H (vs.take n) (xs.take n)
 |vs,xs,0,h=>by simp[ye]
 |[],xs,n+1,h=>by erw[ye]at h;subst h;simp[ye]
 |v::vs,xs,n+1,h=>by erw[ye]at h;let#[y,a,rfl,r,l]:=h;erw[Gn,ye];exact#[y,a.take n,rfl,r,ye.take n l]
def zaM{f:AG->AG->IR AG}{o:BOp}{C:Int->Int->Prop}{g:Int->Int->Int}(h:OpR X f (rI C λi j=>.int (g i j)))
  (l:∀v w z,yq o v w=AA z->∃i j,v=.int i/\w=.int j/\C i j/\z=.int (g i j)):OpR X f (rT2 S X (yq o)):=by
 rintro E s D H x y v u Q I m n ⟨B,A,st,a,b,z,p,c,d,e,q⟩
 let#[i,j,rfl,rfl,r,rfl]:=l a b z e;erw[yd]at c d;subst c d;exact h E s D H _ _ v u Q I m n #[i,j,rfl,rfl,r,q _ H A .rfl p (by erw[yd])]
def zeb{f:AG->AG->IR AG}{o:BOp}{g:Int->Int->Int}(h:OpR X f (rI0 λi j=>.int (g i j)))
  (l:∀v w z,yq o v w=AA z->∃i j,v=.int i/\w=.int j/\z=.int (g i j)):OpR X f (rT2 S X (yq o)):=by
 rintro E s D H x y v u Q I m n ⟨B,A,st,a,b,z,p,c,d,e,q⟩
 let#[i,j,rfl,rfl,rfl]:=l a b z e;erw[yd]at c d;subst c d;exact h E s D H _ _ v u Q I m n #[i,j,rfl,rfl,q _ H A .rfl p (by erw[yd])]
def zky(v w z:PV)(h:yq .sub v w=AA z):∃i j,v=.int i/\w=.int j/\z=.int (i-j):=by
 unfold yq at h;split at h<;>first|(cases h;done)|skip
 exact#[_,_,rfl,rfl,(Aa h).symm]
def zku(v w z:PV)(h:yq .mul v w=AA z):∃i j,v=.int i/\w=.int j/\ydB i j/\z=.int (i*j):=by
 unfold yq at h;split at h<;>first|(cases h;done)|skip
 rename_i i j;erw[IC.binI]at h;split at h
 .rename_i c;refine#[i,j,rfl,rfl,?_,(Aa h).symm];erw[yao,E4,decide_eq_true_eq]at c;unfold ydB;rcases c with c|c
  .left;constructor<;>lia
  .right;constructor<;>lia
 .cases h
def zia(v w z:PV)(h:yq .fdiv v w=AA z):∃i j,v=.int i/\w=.int j/\ydu i j/\z=.int (i/j):=by
 unfold yq at h;split at h<;>first|(cases h;done)|skip
 rename_i i j;erw[IC.binI]at h;split at h
 .rename_i c;exact#[i,j,rfl,rfl,c,(Aa h).symm]
 .cases h
def zjT(v w z:PV)(h:yq .mod v w=AA z):∃i j,v=.int i/\w=.int j/\0<j/\z=.int (i%j):=by
 unfold yq at h;split at h<;>first|(cases h;done)|skip
 rename_i i j;erw[IC.binI]at h;split at h
 .rename_i c;exact#[i,j,rfl,rfl,c,(Aa h).symm]
 .cases h
def zkX(v w z:PV)(h:yq .pow v w=AA z):∃i j,v=.int i/\w=.int j/\yfy i j/\z=.int (i^j.toNat):=by
 unfold yq at h;split at h<;>first|(cases h;done)|skip
 rename_i i j;erw[IC.binI]at h;split at h
 .rename_i c;exact#[i,j,rfl,rfl,#[c.1,c.2.1,by have:=c.2.2;lia],(Aa h).symm]
 .cases h
def zjU(v w z:PV)(h:yq .shl v w=AA z):∃i j,v=.int i/\w=.int j/\yfr i j/\z=.int (i*2^j.toNat):=by
 unfold yq at h;split at h<;>first|(cases h;done)|skip
 rename_i i j;erw[IC.binI]at h;split at h
 .rename_i c;exact#[i,j,rfl,rfl,#[c.1,c.2.1,by have:=c.2.2;lia],(Aa h).symm]
 .cases h
def zkF(v w z:PV)(h:yq .shr v w=AA z):∃i j,v=.int i/\w=.int j/\0<=j/\z=.int (i/2^j.toNat):=by
 unfold yq at h;split at h<;>first|(cases h;done)|skip
 rename_i i j;erw[IC.binI]at h;split at h
 .rename_i c;exact#[i,j,rfl,rfl,c,(Aa h).symm]
 .cases h
def zhQ(v w z:PV)(h:yq .band v w=AA z):∃i j,v=.int i/\w=.int j/\z=.int (CP i j):=by
 unfold yq at h;split at h<;>first|(cases h;done)|skip
 exact#[_,_,rfl,rfl,(Aa h).symm]
def znC:OpR X (binaryOp .Sub) (rT2 S X (yq .sub)):=zeb zl0 zky
def zmU:OpR X (binaryOp .Mult) (rT2 S X (yq .mul)):=zaM zln zku
def zk7:OpR X (binaryOp .FloorDiv) (rT2 S X (yq .fdiv)):=zaM zii zia
def znH:OpR X (binaryOp .Mod) (rT2 S X (yq .mod)):=zaM zmX zjT
def znw:OpR X (binaryOp .Pow) (rT2 S X (yq .pow)):=zaM zmx zkX
def zl1:OpR X (binaryOp .LShift) (rT2 S X (yq .shl)):=zaM zke zjU
def zls:OpR X (binaryOp .RShift) (rT2 S X (yq .shr)):=zaM znl zkF
def zkj:OpR X (binaryOp .BitAnd) (rT2 S X (yq .band)):=zeb zna zhQ
def zx:sizeMax=sizeLine:=by rw[Ap];rfl
def zjw:OpR X (binaryOp .Add) (λx y H Q=>∃a b o,x=.ref a/\y=.ref b/\SqT X.K H a []/\SqT X.K H b o/\Q (.ref b) H):=by
 intro E s D H x y v u Q I A B h;let#[a,b,o,rfl,rfl,C,G,q]:=h
 cases A
 cases B
 let#[j,J,L,_]:=I.tuple C;let#[c,Z,M,_]:=I.tuple G;have:j=[]:=J.nil_iff.mpr rfl;subst this;let#[#[N,O,p,U],r,t,n,w]:=id L;let#[#[z,l,data2,m],d,f,Y,g]:=id M;simp only at t w f g;subst t w f g;exact HQ #[_,r,rfl] #[_,d,rfl] Fc Gv Dw Dm (Db _ _)
   (tuple_addW0 a b [].toArray c.toArray n Y O l U m (by simp)) #[r,d,#[.ref b,H,I,rfl,q]]
def znI:OpR X (binaryOp .Add) (rT2 S X (yq .add)):=by
 rintro E s D H x y v u Q I m n ⟨B,A,st,a,b,z,g,d,f,e,q⟩
 unfold yq at e;split at e
 .rename_i i j;erw[yd]at d f;subst d f
  cases e
  exact zmw E s D H _ _ v u Q I m n #[i,j,rfl,rfl,q _ H A .rfl g (by erw[yd])]
 .rename_i i k;erw[yd]at d f;subst d f
  cases e
  exact zfQ E s D H _ _ v u Q I m n #[i,k,rfl,rfl,q _ H A .rfl g (by erw[yd];cases k<;>rfl)]
 .rename_i i j;erw[yd]at d f;subst d f;dsimp only at e;split at e
  .rename_i c
   cases e
   exact zeN E s D H _ _ v u Q I m n #[i,j,rfl,rfl,by rw[<-zx];exact c,q _ H A .rfl g (by erw[yd])]
  .cases e
 .rename_i k1 U Y M;erw[yd]at d f;let#[p,o,rfl,C,r]:=d;let#[G,J,rfl,L,w]:=f;dsimp only at e;split at e
  .rename_i c
   cases e
   have N:=r.length;have O:=w.length;unfold yfx at q
   cases U with
   |nil=>
    have:o=[]:=by cases o with|nil=>rfl|cons _ _=>simp at N
    subst this;refine zjw E s D H _ _ v u Q I m n #[p,G,J,rfl,rfl,C.sq,L.sq,q _ H A .rfl g ?_];erw[Hm,if_true,yd];exact#[G,J,rfl,L,w]
   |cons Z vr=>
    erw[Ha,Aw,if_false]at q;refine zk2 E s D H _ _ v u Q I m n #[p,G,o,J,rfl,rfl,C.sq,L.sq,?_,by rw[<-zx];lia,λz=>?_,λz t l=>?_]
    .rintro rfl
     simp at N
    .subst z;have:M=[]:=by cases M with|nil=>rfl|cons _ _=>simp at O
     subst this;erw[Hm,if_true]at q;refine q _ H A .rfl g ?_;erw[yd];exact#[p,o,rfl,C,r]
    .cases M with
     |nil=>exact absurd (List.length_eq_zero_iff.mp O.symm) z
     |cons w1 wr=>
      erw[Ha,Aw,if_false]at q;exact q _ _ A (.upd l) (g.upd l) (.tup_new l g (r.append w))
  .cases e
 .rename_i U M;erw[yd]at d f;let#[p,o,rfl,C,r]:=d;let#[G,J,rfl,L,w]:=f;dsimp only at e;split at e
  .rename_i c
   cases e
   have N:=r.length;have O:=w.length;exact zlW E s D H _ _ v u Q I m n #[p,G,o,J,rfl,rfl,C.1,L.1,by rw[<-zx];lia,λt l=>q _ _ A (.upd l) (g.upd l) (.lst_new l g (r.append w))]
  .cases e
 .cases e
end
mutual
noncomputable def toD:PV->IW
 |.non=>.none
 |.bl b=>.bool b
 |.int i=>.int i
 |.str x=>.str x
 |.tp _ a=>.tuple (ybJ a)
 |.lst a=>.list (ybJ a)
 |_=>.none
noncomputable def ybJ:List PV->List IW
 |[]=>[]
 |x::a=>toD x::ybJ a
end
mutual
theorem zci:∀(v:PV) (n:Nat),shd n v=AE->(toD v).canLay0=AE/\(toD v).depth<=n
 |.non,n,h=>by simp[toD,CO,CB]
 |.bl b,n,h=>by simp[toD,CO,CB]
 |.int i,n,h=>by simp[toD,CO,CB]
 |.str x,n,h=>by erw[shd]at h;erw[toD,CO,CB,BB,and_true];exact h
 |.tp _ a,n,h=>by erw[shd,AK,decide_eq_true_eq]at h;let#[c,d]:=zcc a (n-1) h.2;erw[toD,CO,CB];exact#[c,by lia]
 |.lst a,n,h=>by erw[shd,AK,decide_eq_true_eq]at h;let#[c,d]:=zcc a (n-1) h.2;erw[toD,CO,CB];exact#[c,by lia]
 |.loc k,n,h=>by simp[shd]at h
 |.fnc k,n,h=>by simp[shd]at h
 |.exn k,n,h=>by simp[shd]at h
 |.scr a,n,h=>by simp[shd]at h
theorem zcc:∀(v:List PV) (n:Nat),ybf n v=AE->Cm (ybJ v)=AE/\Bt (ybJ v)<=n
 |[],n,h=>by simp[ybJ,Cm,Bt]
 |v::a,n,h=>by erw[ybf,AK]at h;let#[b,d]:=zci v n h.1;let#[c,f]:=zcc a n h.2;erw[ybJ,Cm,Bt,AK];exact#[#[b,c],by lia]
end
def zal{v:PV}(h:shp v=AE):JJ (toD v)=true:=by let#[a,b]:=zci v 60 h;unfold JJ;rw[a,F3,decide_eq_true_eq];lia
mutual
theorem zca:∀(v w:PV) (n m:Nat),shd n v=AE->shd m w=AE->By (toD v) (toD w)=peq v w
 |.non,w,n,m,h,q=>by cases w<;>first|rfl|exact absurd q A3
 |.bl b,w,n,m,h,q=>by cases w<;>first|rfl|exact absurd q A3
 |.int i,w,n,m,h,q=>by cases w<;>first|rfl|exact absurd q A3
 |.str x,w,n,m,h,q=>by cases w<;>first|rfl|exact absurd q A3
 |.tp _ a,.tp _ c,n,m,h,q=>by have h:=CS.1 h;have q:=CS.1 q;exact zb9 a c (n-1) (m-1) h.2 q.2
 |.lst a,.lst c,n,m,h,q=>by have h:=CS.1 h;have q:=CS.1 q;exact zb9 a c (n-1) (m-1) h.2 q.2
 |.tp _ a,.non,n,m,h,q=>rfl
 |.tp _ a,.bl _,n,m,h,q=>rfl
 |.tp _ a,.int _,n,m,h,q=>rfl
 |.tp _ a,.str _,n,m,h,q=>rfl
 |.tp _ a,.lst _,n,m,h,q=>rfl
 |.lst a,.non,n,m,h,q=>rfl
 |.lst a,.bl _,n,m,h,q=>rfl
 |.lst a,.int _,n,m,h,q=>rfl
 |.lst a,.str _,n,m,h,q=>rfl
 |.lst a,.tp _ _,n,m,h,q=>rfl
 |.loc k,w,n,m,h,q=>absurd h A3
 |.fnc k,w,n,m,h,q=>absurd h A3
 |.exn k,w,n,m,h,q=>absurd h A3
 |.scr k,w,n,m,h,q=>absurd h A3
 |v,.loc k,n,m,h,q=>absurd q A3
 |v,.fnc k,n,m,h,q=>absurd q A3
 |v,.exn k,n,m,h,q=>absurd q A3
 |v,.scr k,n,m,h,q=>absurd q A3
theorem zb9:∀(v w:List PV) (n m:Nat),ybf n v=AE->ybf m w=AE->DI (ybJ v) (ybJ w)=ybO v w
 |[],[],n,m,h,q=>rfl
 |[],y::a,n,m,h,q=>rfl
 |x::b,[],n,m,h,q=>rfl
 |x::b,y::a,n,m,h,q=>by have h:=CS.1 h;have q:=CS.1 q;show (By (toD x) (toD y)&&DI (ybJ b) (ybJ a))=(peq x y&&ybO b a);rw[zca x y n m h.1 q.1,zb9 b a n m h.2 q.2]
end
section
variable {S:Se}{X:Cx}{D:St}{B:AJ->Prop}{C C1:Ph}{H H1:Hp}{st:SO}{E:List (AJ×Bw)}{s:AH}
mutual
theorem zP(I:Inv X E D H s):∀(v:PV) (n:Nat) (x:V) (u:AG),shd n v=AE->yd X.K S.cl B C H v x->RelV x u->∃j,JT s.heap u (toD v) j
 |.non,n,x,u,h,r,q=>by erw[yd]at r;subst r;cases (show u=BJ from q);exact#[_,.none]
 |.bl b,n,x,u,h,r,q=>by erw[yd]at r;subst r;cases (show u=Eg b from q);exact#[_,.bool b]
 |.int i,n,x,u,h,r,q=>by erw[yd]at r;subst r;let#[t,rfl]:=q;exact#[_,.int i t]
 |.str y,n,x,u,h,r,q=>by erw[yd]at r;subst r;let#[t,rfl]:=q;exact#[_,.str y t]
 |.tp _ m,n,x,u,h,r,q=>by
  erw[yd]at r;let#[a,p,rfl,w,l]:=r
  cases (show u=Ag a from q)
  erw[shd,AK]at h;let#[f,A,#[o,g,c,k,d],_]:=I.tuple w.sq;let#[j,z]:=zbo I m (n-1) p f h.2 l A;exact#[j,.tuple g c d (by simpa using z)]
 |.lst m,n,x,u,h,r,q=>by
  erw[yd]at r;let#[a,p,rfl,w,l]:=r
  cases (show u=Ag a from q)
  erw[shd,AK]at h;let#[f,A,#[o,k,g,c,_,d],_]:=I.list (w.sq (K:=X.K));let#[j,z]:=zbo I m (n-1) p f h.2 l A;exact#[_,.list g c d (by simpa using z)]
 |.loc k,n,x,u,h,r,q=>by simp[shd]at h
 |.fnc k,n,x,u,h,r,q=>by simp[shd]at h
 |.exn k,n,x,u,h,r,q=>by simp[shd]at h
 |.scr k,n,x,u,h,r,q=>by simp[shd]at h
theorem zbo(I:Inv X E D H s):∀(v:List PV) (n:Nat) (x:List V) (u:List AG),ybf n v=AE->ye X.K S.cl B C H v x->Vals x u->∃a,ReadsAll s.heap u (ybJ v) a
 |[],n,x,u,h,r,q=>by erw[ye]at r;subst r;cases q;exact#[_,.nil]
 |v::b,n,x,u,h,r,q=>by
  erw[ye]at r;let#[y,c,rfl,d,l]:=r;erw[ybf,AK]at h
  cases q with
  |cons f g=>
   let#[a,j]:=zP I v n y _ h.1 d f;let#[bs,m]:=zbo I b n c _ h.2 l g;exact#[_,.cons j m]
end
def zn7(d:X.A.units+64<cLine):OpR X (compareOp .Eq) (rT2 S X (yo .eq)):=by
 rintro E s D H x y v u Q I f g ⟨B,C,st,a,b,z,j,l,m,e,q⟩
 erw[yo]at e;split at e
 .rename_i c;rw[AK]at c
  cases e
  let#[p,n]:=zP (S:=S) I a 60 x v c.1 l f;let#[bs,o]:=zP (S:=S) I b 60 y u c.2 m g;refine eq_dataH n o (zal c.1) (zal c.2) d #[.bl _,H,I,rfl,?_];rw[zca a b 60 60 c.1 c.2];exact q _ H C .rfl j (by erw[yd])
 .cases e
def zoy(d:X.A.units+64<cLine):OpR X (compareOp .NotEq) (rT2 S X (yo .ne)):=by
 rintro E s D H x y v u Q I f g ⟨B,C,st,a,b,z,j,l,m,e,q⟩
 erw[yo]at e;split at e
 .rename_i c;rw[AK]at c
  cases e
  let#[p,n]:=zP (S:=S) I a 60 x v c.1 l f;let#[bs,o]:=zP (S:=S) I b 60 y u c.2 m g;refine ne_dataH n o (zal c.1) (zal c.2) d #[.bl _,H,I,rfl,?_];rw[zca a b 60 60 c.1 c.2];exact q _ H C .rfl j (by erw[yd])
 .cases e
def zf9{f:AG->AG->IR AG}{o:COp}{g:Int->Int->Bool}(h:OpR X f (rI0 λi j=>.bl (g i j)))
  (l:∀v w z,yo o v w=AA z->∃i j,v=.int i/\w=.int j/\z=.bl (g i j)):OpR X f (rT2 S X (yo o)):=by
 rintro E s D H x y v u Q I m n ⟨B,C,st,a,b,z,p,c,d,e,q⟩
 let#[i,j,rfl,rfl,rfl]:=l a b z e;erw[yd]at c d;subst c d;exact h E s D H _ _ v u Q I m n #[i,j,rfl,rfl,q _ H C .rfl p (by erw[yd])]
def zgH:OpR X (compareOp .LtE) (λx y H Q=>∃i j,x=.str i/\y=.str j/\Q (.bl (!decide (j.cps.toList<i.cps.toList))) H):=by intro E s D H x y v u Q I a b h;let#[i,j,rfl,rfl,q]:=h;let#[t,rfl]:=a;let#[c,rfl]:=b;exact PySem.P.le_str (zeD I q rfl)
def zod:OpR X (compareOp .Lt) (rT2 S X (yo .lt)):=by
 rintro E s D H x y v u Q I f g ⟨B,C,st,a,b,z,l,c,d,e,q⟩
 erw[yo]at e;split at e
 .rename_i i j;erw[yd]at c d;subst c d
  cases e
  exact zol E s D H _ _ v u Q I f g #[i,j,rfl,rfl,q _ H C .rfl l (by erw[yd])]
 .rename_i i j;erw[yd]at c d;subst c d
  cases e
  exact zfr E s D H _ _ v u Q I f g #[i,j,rfl,rfl,q _ H C .rfl l (by erw[yd])]
 .cases e
def znX:OpR X (compareOp .LtE) (rT2 S X (yo .le)):=by
 rintro E s D H x y v u Q I f g ⟨B,C,st,a,b,z,l,c,d,e,q⟩
 erw[yo]at e;split at e
 .rename_i i j;erw[yd]at c d;subst c d
  cases e
  exact zog E s D H _ _ v u Q I f g #[i,j,rfl,rfl,q _ H C .rfl l (by erw[yd])]
 .rename_i i j;erw[yd]at c d;subst c d
  cases e
  exact zgH E s D H _ _ v u Q I f g #[i,j,rfl,rfl,q _ H C .rfl l (by erw[yd])]
 .cases e
def zeB{o:COp}{g:Int->Int->Bool}(c:∀v w,yo o v w=match v,w with
   |.int i,.int j=>ya4 o i j
   |.str a,.str b=>yeK o a b
   |_,_=>AD) (d:∀a b,yeK o a b=AD) (f:∀i j,ya4 o i j=AA (.bl (g i j))) (v w z:PV) (h:yo o v w=AA z):∃i j,v=.int i/\w=.int j/\z=.bl (g i j):=by
 rw[c]at h;split at h
 .rename_i i j;rw[f]at h;exact#[i,j,rfl,rfl,(Aa h).symm]
 .rw[d]at h;cases h
 .cases h
def zn4:OpR X (compareOp .Gt) (rT2 S X (yo .gt)):=zf9 zom (zeB (λ_ _=>rfl) (λ_ _=>rfl) λ_ _=>rfl)
def zon:OpR X (compareOp .GtE) (rT2 S X (yo .ge)):=zf9 zow (zeB (λ_ _=>rfl) (λ_ _=>rfl) λ_ _=>rfl)
theorem yd.isNon{K:AF}{f:Nat->AJ}{v:PV}{x:V}(r:yd K f B C H v x):decide (x=.non)=IC.isNon v:=by
 cases v with
 |loc n=>erw[yd]at r;let#[_,a,rfl,_]:=r;rfl
 |non=>erw[yd]at r;subst r;rfl
 |bl b=>erw[yd]at r;subst r;rfl
 |int b=>erw[yd]at r;subst r;rfl
 |str b=>erw[yd]at r;subst r;rfl
 |tp k c=>erw[yd]at r;let#[a,d,rfl,_]:=r;rfl
 |lst c=>erw[yd]at r;let#[a,d,rfl,_]:=r;rfl
 |fnc j=>erw[yd]at r;subst r;rfl
 |exn c=>erw[yd]at r;let#[a,rfl,_]:=r;rfl
 |scr c=>erw[yd]at r;let#[a,d,rfl,_]:=r;rfl
theorem yd.flat{K:AF}{c:Nat->AJ}{v:PV}{x:V}(r:yd K c B C H v x)(h:IC.flat v=AE):ya1 x=AE/\∀(w:PV) (y:V),IC.flat w=AE->yd K c B C H w y->eqV x y=peq v w:=by
 cases v with
 |non=>
  erw[yd]at r;subst r;refine#[rfl,λw y a rw=>?_]
  cases w<;>first|(simp[IC.flat]at a;done)|(erw[yd]at rw;subst rw;rfl)
 |bl b=>
  erw[yd]at r;subst r;refine#[rfl,λw y a rw=>?_]
  cases w<;>first|(simp[IC.flat]at a;done)|(erw[yd]at rw;subst rw;rfl)
 |int b=>
  erw[yd]at r;subst r;refine#[rfl,λw y a rw=>?_]
  cases w<;>first|(simp[IC.flat]at a;done)|(erw[yd]at rw;subst rw;rfl)
 |str b=>
  erw[yd]at r;subst r;refine#[rfl,λw y a rw=>?_]
  cases w<;>first|(simp[IC.flat]at a;done)|(erw[yd]at rw;subst rw;rfl)
 |_=>simp[IC.flat]at h
def zbw{K:AF}{a:Nat->AJ}{v:PV}{x:V}(r:yd K a B C H v x)(h:IC.flat v=AE):∀{vs:List PV} {xs:List V},ye K a B C H vs xs->vs.all IC.flat=AE->xs.all ya1=AE/\inV x xs=inL v vs
 |[],xs,l,_=>by erw[ye]at l;subst l;exact#[rfl,rfl]
 |w::vs,xs,l,f=>by erw[ye]at l;let#[y,j,rfl,rw,l]:=l;rw[BL,AK]at f;let#[c,b]:=zbw r h l f.2;let#[d,g]:=rw.flat f.1;refine#[by rw[BL,d,c];rfl,?_];unfold inV at b ⊢;rw[CA,b,g v x h r];rfl
end
def zgS(a b:AR):(!(CT b a 0 b.length 1).isEmpty)=inS a b:=by
 rw[IG,StrLaws.found_iff];unfold inS;rw[EN];constructor
 .rintro⟨i,c,d⟩
  exact#[i,by rw[GZ];lia,by rw[AK,decide_eq_true_eq];exact#[c,d]]
 .rintro⟨i,_,h⟩
  rw[AK,decide_eq_true_eq]at h;exact#[i,h.1,h.2]
section
variable {S:Se}{X:Cx}{C:St}{B:AJ->Prop}{A A1:Ph}{H H1:Hp}{st:SO}
def zn8:OpR X (compareOp .In) (rT2 S X (yo .isin)):=by
 rintro D s C H x y v u Q I g m ⟨B,A,st,a,b,z,n,d,f,e,q⟩
 erw[yo]at e;split at e
 .rename_i i j;erw[yd]at d f;subst d f
  cases e
  exact zfR D s C H _ _ v u Q I g m #[i,j,rfl,rfl,by rw[zgS];exact q _ H A .rfl n (by erw[yd])]
 .rename_i l;split at e
  .rename_i c;rw[AK]at c
   cases e
   erw[yd]at f;let#[p,o,rfl,r,t]:=f;let#[w,E]:=zbw d c.1 t c.2;exact zct D s C H _ _ v u Q I g m #[p,o,rfl,.inr r.sq,(d.flat c.1).1,w,q _ H A .rfl n (by erw[yd];rw[<-E];rfl)]
  .cases e
 .rename_i l;split at e
  .rename_i c;rw[AK]at c
   cases e
   erw[yd]at f;let#[p,o,rfl,r,t]:=f;let#[w,E]:=zbw d c.1 t c.2;exact zct D s C H _ _ v u Q I g m #[p,o,rfl,.inl r.sq,(d.flat c.1).1,w,q _ H A .rfl n (by erw[yd];rw[<-E];rfl)]
  .cases e
 .cases e
def zhB:OpR X (compareOp .NotIn) (rT2 S X (yo .notin)):=by
 rintro D s C H x y v u Q I g m ⟨B,A,st,a,b,z,n,d,f,e,q⟩
 erw[yo]at e;split at e
 .rename_i i j;erw[yd]at d f;subst d f
  cases e
  exact zcP D s C H _ _ v u Q I g m #[i,j,rfl,rfl,by rw[zgS];exact q _ H A .rfl n (by erw[yd])]
 .rename_i l;split at e
  .rename_i c;rw[AK]at c
   cases e
   erw[yd]at f;let#[p,o,rfl,r,t]:=f;let#[w,E]:=zbw d c.1 t c.2;exact zaZ D s C H _ _ v u Q I g m #[p,o,rfl,.inr r.sq,(d.flat c.1).1,w,q _ H A .rfl n (by erw[yd];rw[<-E];rfl)]
  .cases e
 .rename_i l;split at e
  .rename_i c;rw[AK]at c
   cases e
   erw[yd]at f;let#[p,o,rfl,r,t]:=f;let#[w,E]:=zbw d c.1 t c.2;exact zaZ D s C H _ _ v u Q I g m #[p,o,rfl,.inl r.sq,(d.flat c.1).1,w,q _ H A .rfl n (by erw[yd];rw[<-E];rfl)]
  .cases e
 .cases e
theorem ye.empty{K:AF}{a:Nat->AJ}{vs:List PV}{xs:List V}(l:ye K a B A H vs xs):vs.isEmpty=xs.isEmpty:=by
 have:=l.length
 cases vs<;>cases xs<;>simp_all
def zfA{K:AF}{g:Nat->AJ}{v:PV}{x:V}{k:Bool}(rs:yj K g B A H st)(r:yd K g B A H v x)(h:yas st v=AA k):ydS K x H k:=by
 cases v with
 |non=>erw[yd]at r;subst r;cases h;rfl
 |bl b=>erw[yd]at r;subst r;cases h;rfl
 |int b=>erw[yd]at r;subst r;cases h;rfl
 |str b=>
  erw[yd]at r;subst r;erw[yas]at h;split at h
  .rename_i c
   cases h
   exact#[by rw[<-zx];exact c,rfl]
  .cases h
 |tp k j=>
  erw[yd]at r;let#[a,d,rfl,f,l]:=r
  cases h
  exact .inr (.inl #[d,f.sq,by rw[l.empty]])
 |lst j=>
  erw[yd]at r;let#[a,d,rfl,f,l]:=r
  cases h
  exact .inl #[d,f.sq,by rw[l.empty]]
 |loc n=>
  erw[yd]at r;let#[y,a,rfl,t]:=r;erw[yas]at h;split at h
  .rename_i j m
   cases h
   let#[b,p]:=rs.liv n _ m (by intro z;cases z);obtain rfl:=t b p;let#[o,q,u]:=rs.obj n b p;rw[m]at q;cases q;let#[d,w,l]:=u;exact .inl #[d,.of w,by rw[l.empty]]
  .cases h
 |fnc c=>cases h
 |exn c=>cases h
 |scr c=>cases h
end
theorem R.bind_assoc{A B J:Type}{r:R A}{k:A->SO->R B}{l:B->SO->R J}:(r.bind k).bind l=r.bind λa s=>(k a s).bind l:=by cases r<;>rfl
section
variable {S:Se}{X:Cx}{C:St}{B:AJ->Prop}{A A1:Ph}{H H1:Hp}{st:SO}{ρ:IC.Env}{pos:CK}{a b c d:AZ}{ca cb cc:Ce}{es:List AZ}{ces:Ces}
def zb6{o:COp}{v w z:PV}(h:yo o v w=AA z):∃k,z=.bl k:=by
 cases o<;>erw[yo]at h
 all_goals (repeat' split at h)<;>first|(cases h;done)|(cases h;exact#[_,rfl])|skip
 all_goals (erw[ya4]at h;cases h;exact#[_,rfl])
def zl8{d:E7}{o:COp}(p:OpR X (compareOp d) (rT2 S X (yo o)))(q:PE X a (tE S X ca))(r:PE X b (tE S X cb))(t:behindInMarks d b=AC):PT X (.Compare a [d] [b] pos) (tTs S X (.cmp o ca cb)):=
 (zgm p q r t).imp λC H Q #[B,A,st,ρ,u,D,h]=>by
  erw[ev,ya2,R.bind_assoc]at h;refine tE.bind u D h λx H1 v E A1 U f g G I=>tE.bind f g I λy Y w j A2 J l L rw c=>?_
  cases e:yo o v w with
  |none=>rw[e]at c;exact c.elim
  |some z=>
   let#[k,rfl]:=zb6 e;rw[e]at c;refine#[B,A2,j,v,w,.bl k,l,G.step J,rw,e,λZ M N O m n=>?_];erw[yd]at n;exact#[k,n,c k M N O m rfl]
def zl9(g:PE X a (tE S X ca))(j:∀b,isTrue a X.env b=(do let v <-b;standAt a.pos;holding [v] (truthy v)):=by intro _;rfl):PT X a (tTs S X ca):=
 (zhv g j).imp λC H Q #[B,A,st,ρ,l,m,h]=>by
  erw[ya2]at h;refine tE.bind l m h λx H1 v f A1 p c n o d=>?_
  cases e:yas f v with
  |none=>rw[e]at d;exact d.elim
  |some k=>
   rw[e]at d;exact#[k,zfA c o e,d.ok c rfl]
theorem tTs.bind{J D:Type}{JI:Ph->Hp->J->D->Prop}{k:Bool->SO->R J}{Q:D->Hp->Prop}{P:Bool->Hp->Prop}(rs:yj X.K S.cl B A H st)(d:yC X.K S.cl B A H ρ C)(h:Run S X C B A H JI ((ya2 (ev S.call ρ st ca)).bind k) Q)
  (n:∀b H1 a A1,Step A H A1 H1->yj X.K S.cl B A1 H1 a->yC X.K S.cl B A1 H1 ρ C->Run S X C B A1 H1 JI (k b a) Q->P b H1):tTs S X ca C H P:=
 #[B,A,st,ρ,rs,d,(Run.bind h).mono λx H1 #[v,a,A1,s,c,f,g]=>by subst f;exact n v H1 a A1 s c (d.step s) g]
def zdL(r:R PV)(f:Bool->SO->R PV):ya2 (r.bind λx a=>onBl x λb=>f b a)=r.bind λx a=>onBl x λb=>ya2 (f b a):=by
 unfold ya2;rw[R.bind_assoc]
 congr 1
 funext x a
 cases x<;>rfl
theorem Run.bl_tru{r:R PV}{k:Bool->SO->R Bool}{Q:Bool->Hp->Prop}(h:Run S X C B A H RB (r.bind λx a=>onBl x λb=>k b a) Q):Run S X C B A H RB ((ya2 r).bind k) Q:=by
 cases r with
 |bad=>exact h
 |exc c s=>exact h
 |ok v s=>
  cases v with
  |bl b=>exact h
  |_=>exact h.elim
def zl3(f:PT X a (tTs S X ca)):PT X (.UnaryOp .Not a pos) (tTs S X (.not ca)):=
 (zmv f).imp λC H Q #[B,A,st,ρ,g,j,h]=>by erw[ev]at h;rw[zdL _ λk c=>.ok (.bl (!k)) c]at h;exact tTs.bind g j (Run.bl_tru (k:=λb c=>.ok (!b) c) h) λb H1 c A1 n d l m=>m.ok d rfl
variable {rest:List AZ}
def zkb(b:PT X a (tTs S X ca)):PW X (.BoolOp .And [a] pos) (tTs S X ca):=zkx b
def zmH(b:PT X a (tTs S X ca)):PW X (.BoolOp .Or [a] pos) (tTs S X ca):=znL b
def zmz(j:PT X a (tTs S X ca))(l:PW X (.BoolOp .And (b::rest) pos) (tTs S X cb)):PW X (.BoolOp .And (a::b::rest) pos) (tTs S X (.and ca cb)):=
 (znE j l).imp λC H Q #[B,A,st,ρ,m,n,h]=>by
  erw[ev]at h;rw[zdL _ λk c=>cond k (ev S.call ρ c cb) (.ok (.bl AC) c)]at h;refine tTs.bind m n (Run.bl_tru h) λk H1 c A1 o d f g=>?_
  cases k with
  |false=>exact g.ok d rfl
  |true=>exact#[B,A1,c,ρ,d,f,g]
def zn1(j:PT X a (tTs S X ca))(l:PW X (.BoolOp .Or (b::rest) pos) (tTs S X cb)):PW X (.BoolOp .Or (a::b::rest) pos) (tTs S X (.or ca cb)):=
 (zoe j l).imp λC H Q #[B,A,st,ρ,m,n,h]=>by
  erw[ev]at h;rw[zdL _ λk c=>cond k (.ok (.bl AE) c) (ev S.call ρ c cb)]at h;refine tTs.bind m n (Run.bl_tru h) λk H1 c A1 o d f g=>?_
  cases k with
  |true=>exact g.ok d rfl
  |false=>exact#[B,A1,c,ρ,d,f,g]
def zfD{b:JK}(h:PE X a (tE S X ca)):PE X (.BoolOp b [a] pos) (tE S X ca):=znc h
def zjb(l:PE X a (tE S X ca))(m:PE X (.BoolOp .And (b::rest) pos) (tE S X cb)):PE X (.BoolOp .And (a::b::rest) pos) (tE S X (.and ca cb)):=
 (zmm l m).imp λC H Q #[B,A,st,ρ,n,o,h]=>by
  erw[ev]at h;refine tE.bind n o h λx H1 v d A1 p c f j g=>?_
  cases v with
  |bl k=>
   erw[yd]at j;refine#[k,j,?_]
   cases k with
   |true=>exact#[B,A1,d,ρ,c,f,g]
   |false=>exact g.ok c (by erw[yd])
  |_=>exact g.elim
def zmC(l:PE X a (tE S X ca))(m:PE X (.BoolOp .Or (b::rest) pos) (tE S X cb)):PE X (.BoolOp .Or (a::b::rest) pos) (tE S X (.or ca cb)):=
 (zn3 l m).imp λC H Q #[B,A,st,ρ,n,o,h]=>by
  erw[ev]at h;refine tE.bind n o h λx H1 v d A1 p c f j g=>?_
  cases v with
  |bl k=>
   erw[yd]at j;refine#[k,j,?_]
   cases k with
   |false=>exact#[B,A1,d,ρ,c,f,g]
   |true=>exact g.ok c (by erw[yd])
  |_=>exact g.elim
def zmi(f:PE X a (tE S X ca)):PE X (.UnaryOp .Not a pos) (tE S X (.not ca)):=
 (zm5 f).imp λC H Q #[B,A,st,ρ,g,j,h]=>by
  erw[ev]at h;refine tE.bind g j h λx H1 v l A1 n b m c d=>?_
  cases v with
  |bl k=>
   erw[yd]at c;exact#[k,c,d.ok b (by erw[yd])]
  |_=>exact d.elim
def zi2(f:PE X a (tE S X ca)):PE X (.UnaryOp .USub a pos) (tE S X (.neg ca)):=
 (zn9 zmD f).imp λC H Q #[B,A,st,ρ,g,j,h]=>by
  erw[ev]at h;refine tE.bind g j h λx H1 v l A1 n b m d c=>?_;split at c
  .simp only[yd]at d;exact#[_,d,c.ok b (by erw[yd])]
  .exact c.elim
def zmh(l:PT X c (tTs S X cc))(m:PE X a (tE S X ca))(n:PE X b (tE S X cb)):PE X (.IfExp c a b pos) (tE S X (.ite cc ca cb)):=
 (zhz l m n).imp λC H Q #[B,A,st,ρ,o,p,h]=>by
  erw[ev]at h;have e:((ev S.call ρ st cc).bind λx d=>onO (yas d x) λk=>cond k (ev S.call ρ d ca) (ev S.call ρ d cb))=(ya2 (ev S.call ρ st cc)).bind λk d=>cond k (ev S.call ρ d ca) (ev S.call ρ d cb):=by
   unfold ya2;rw[R.bind_assoc]
   congr 1
   funext x d
   cases yas d x<;>rfl
  rw[e]at h;refine tTs.bind o p h λk H1 d A1 q f g j=>?_
  cases k with
  |true=>exact#[B,A1,d,ρ,f,g,j]
  |false=>exact#[B,A1,d,ρ,f,g,j]
def zbX:PA X [] (tAs S X .nil):=zoF.imp λC H Q #[B,A,st,ρ,a,b,h]=>by erw[IC.vsq0,IC.vsq1]at h;exact h.ok a (by erw[ye])
def zas(g:PE X a (tE S X ca))(j:PA X es (tAs S X ces))(l:starEach (a::es) X.env=(AC,eval a X.env)::starEach es X.env:=by rfl):PA X (a::es) (tAs S X (.cons ca ces)):=
 (zI g j l).imp λC H Q #[B,A,st,ρ,m,n,h]=>by erw[IC.vsq0,IC.vsq1]at h;refine tE.bind m n h λx H1 v o A1 z b c p q=>tAs.bind b c q λr D E t A2 u d w f y=>?_;refine y.ok d ?_;erw[ye];exact#[x,r,rfl,p.step u,f]
def znr{k:Nat}(h:PA X es (tAs S X ces)):PE X (.Tuple es k pos) (tE S X (.tup ces)):=
 (zlD h).imp λC H Q #[B,A,st,ρ,g,j,h]=>by
  erw[ev]at h;refine tAs.bind g j h λn H1 o l A1 q a m f b=>?_;split at b
  .rename_i c;refine#[by rw[<-zx,<-f.length];exact c,λp d=>b _ _ A1 (.upd d) (a.upd d) (.tup_new d a f)]
  .exact b.elim
theorem Step.push{p:AJ}{o:HO}(c:H p=AD):Step A H (A++[AA p]) (L2.upd H p o):=by
 refine#[λb u n e=>by rw[zc (zd e c)];exact e,by simp,λn a d e=>?_,λb h=>?_]
 .rw[A7 d]at e;exact e
 .rw[Bj]at h;rcases h with h|h
  .exact .inl h
  .have:b=p:=by simpa using h
   subst this;exact .inr c
theorem yj.push{K:AF}{g:Nat->AJ}{p:AJ}{u:HO}{o:Ob}(rs:yj K g B A H st)(f:H p=AD)(x:¬B p)(y:yb9 K g B (A++[AA p]) (L2.upd H p u) o p):yj K g B (A++[AA p]) (L2.upd H p u) (st++[o]):=by
 have s:Step A H (A++[AA p]) (L2.upd H p u):=.push f;have j:AA p∉A:=λz=>by let#[w,e]:=rs.there z;rw[f]at e;cases e
 have C:A.length=st.length:=rs.len;refine#[by simp[C],λm n a c b=>?_,λn a e=>?_,λn l e t=>?_,λa h=>?_,λa h=>?_,λa h D e=>?_]
 .by_cases E:m<A.length
  .rw[A7 E]at c
   by_cases d:n<A.length
   .rw[A7 d]at b;exact rs.inj m n a c b
   .rw[Ay ()]at b;have:a=p:=by
     cases q:n-A.length with
     |zero=>rw[q]at b;simpa using b.symm
     |succ k=>rw[q]at b;simp at b
    subst this;exact absurd (A9 c) j
  .rw[Ay ()]at c;have:m-A.length=0/\a=p:=by
    cases q:m-A.length with
    |zero=>rw[q]at c;exact#[rfl,by simpa using c.symm]
    |succ k=>rw[q]at c;simp at c
   let#[G,rfl]:=this
   by_cases d:n<A.length
   .rw[A7 d]at b;exact absurd (A9 b) j
   .rw[Ay ()]at b;have:n-A.length=0:=by
     cases q:n-A.length with
     |zero=>rfl
     |succ k=>rw[q]at b;simp at b
    lia
 .by_cases d:n<A.length
  .rw[A7 d]at e;let#[l,q,r]:=rs.obj n a e;refine#[l,by rw[A7 ()];exact q,r.step s ?_];rw[zc]
   rintro rfl
   exact j (A9 e)
  .rw[Ay ()]at e;have:n-A.length=0/\a=p:=by
    cases q:n-A.length with
    |zero=>rw[q]at e;exact#[rfl,by simpa using e.symm]
    |succ k=>rw[q]at e;simp at e
   let#[G,rfl]:=this;refine#[o,?_,y];rw[Ay ()];have:n-st.length=0:=by lia
   rw[this];rfl
 .by_cases d:n<A.length
  .rw[A7 ()]at e;let#[a,q]:=rs.liv n l e t;exact#[a,by rw[A7 d];exact q]
  .rw[Ay ()]at e;have:n-st.length=0:=by
    cases q:n-st.length with
    |zero=>rfl
    |succ k=>rw[q]at e;simp at e
   refine#[p,?_];rw[Ay ()];have:n-A.length=0:=by lia
   rw[this];rfl
 .rw[Bj]at h;rcases h with h|h
  .exact rs.nb a h
  .have:a=p:=by simpa using h
   subst this;exact x
 .let#[w,e]:=rs.dom a h;exact#[w,by rw[zc (zd e f)];exact e]
 .let#[w,q]:=rs.dom a h;rw[zc (zd q f)]at e;exact rs.nt a h D e
theorem yj.untup{K:AF}{d:Nat->AJ}{a:AJ}{xs:List V}(rs:yj K d B A H st)(h:AA a∈A)(e:H a=AA (.tup xs)):False:=by
 let#[n,f]:=List.getElem?_of_mem h;let#[o,q,r]:=rs.obj n a f
 cases o with
 |lst m=>let#[g,b,l]:=r;rw[e]at b;cases b
 |dct t j=>cases t<;>(let#[g,b,l]:=r;rw[e]at b;cases b)
 |ins c fs=>let#[p,#[u,b],l]:=r;rw[e]at b;cases b
 |dead=>exact r.elim
theorem yj.nB{K:AF}{a:Nat->AJ}{p:AJ}(rs:yj K a B A H st)(b:H p=AD):¬B p:=λz=>by let#[o,e]:=rs.dom p z;rw[b]at e;cases e
theorem yd.loc_new{K:AF}{a:Nat->AJ}{p:AJ}(rs:yj K a B A H st):yd K a B (A++[AA p]) H1 (.loc st.length) (.ref p):=by
 erw[yd];have c:=rs.len;refine#[by simp[c],p,rfl,λb e=>?_];rw[Ay ()]at e;have:st.length-A.length=0:=by lia
 rw[this]at e;simpa using e.symm
def zjY(h:PA X es (tAs S X ces)):PE X (.List es pos) (tE S X (.newl ces)):=
 (zmg h).imp λC H Q #[B,A,st,ρ,g,j,h]=>by
  erw[ev]at h;refine tAs.bind g j h λl H1 o m A1 q a n f d=>?_;split at d
  .rename_i c;refine#[by rw[<-zx,<-f.length];exact c,λp b=>d _ _ (A1++[AA p]) (.push b) (a.push b (a.nB b) #[l,zh,f.step (.push b)]) (.loc_new a)]
  .exact d.elim
end
section
variable {S:Se}{X:Cx}{D:St}{B:AJ->Prop}{C C1:Ph}{H H1:Hp}{st:SO}{ρ:IC.Env}{pos p2:CK}{a b c d:AZ}{ca cb cc:Ce}{es:List AZ}{ces:Ces}{K:AF}{cl:Nat->AJ}
def zf8{o:COp}{v w:PV}{J L:Type}{Rel:Ph->Hp->J->L->Prop}{k:Bool->R J}{Q:L->Hp->Prop}(h:Run S X D B C H Rel (onO (blO (yo o v w)) k) Q):∃b,yo o v w=AA (.bl b)/\Run S X D B C H Rel (k b) Q:=by
 cases e:yo o v w with
 |none=>rw[e]at h;exact h.elim
 |some z=>
  let#[b,rfl]:=zb6 e;rw[e]at h;exact#[b,rfl,h]
def zhu{m d:E7}{o p:COp}(L:OpR X (compareOp m) (rT2 S X (yo o)))(n:OpR X (compareOp d) (rT2 S X (yo p)))(M:PE X a (tE S X ca))(N:PE X b (tE S X cb))(O:PE X c (tE S X cc))
  (U:lastMarks [m,d] [b,c]=false:=by with_unfolding_all rfl):PE X (.Compare a [m,d] [b,c] pos) (tE S X (.chain o p ca cb cc)):=
 (zh3 L n M N O U).imp λD H Q #[B,C,st,ρ,Y,Z,h]=>by
  erw[ev]at h;refine tE.bind Y Z h λx H1 v st1 C1 s1 r t rv h1=>tE.bind r t h1 λy H2 w u C2 s2 A E rw j=>?_;let#[k,e,j]:=zf8 j;refine#[B,C2,u,v,w,.bl k,A,rv.step s2,rw,e,λz' H' C' l f J=>?_];erw[yd]at J;refine#[k,J,?_]
  cases k with
  |false=>exact j _ H' C' l f (by erw[yd])
  |true=>
   refine tE.bind f (E.step l) (Run.on l j) λz H3 v3 G C3 s3 g re3 I h3=>?_;let#[q,eq,hq]:=zq h3 g;exact#[B,C3,G,w,v3,q,g,(rw.step l).step s3,I,eq,hq]
def ziP{u f:E7}{o p:COp}(Z:OpR X (compareOp u) (rT2 S X (yo o)))(A:OpR X (compareOp f) (rT2 S X (yo p)))(ha:PE X a (tE S X ca))(hb:PE X b (tE S X cb))(hc:PE X c (tE S X cc))
  (hm:lastMarks [u,f] [b,c]=false:=by with_unfolding_all rfl):PT X (.Compare a [u,f] [b,c] pos) (tTs S X (.chain o p ca cb cc)):=
 (ziv Z A ha hb hc hm).imp λD H Q #[B,C,st,ρ,rs,re,h]=>by
  erw[ev,ya2,R.bind_assoc]at h;refine tE.bind rs re h λx H1 v st1 C1 s1 E G rv h1=>tE.bind E G h1 λy H2 w g C2 s2 I J rw d=>?_;have L:Run S X D B C2 H2 RB (onO (blO (yo o v w)) λk=>cond k ((ev S.call ρ g cc).bind λz j=>(toR (yo p w z) j).bind λx st=>onO (yas st x) λb=>.ok b st) (.ok AC g)) Q:=by
   cases e:yo o v w with
   |none=>rw[e]at d;exact d
   |some z=>
    let#[b,rfl]:=zb6 e;rw[e]at d
    cases b with
    |false=>exact d
    |true=>
     erw[blO,onO,cond_true,R.bind_assoc]at d ⊢;exact d
  let#[k,e,d]:=zf8 L;refine#[B,C2,g,v,w,.bl k,I,rv.step s2,rw,e,λz' H' C' n l U=>?_];erw[yd]at U;refine#[k,U,?_]
  cases k with
  |false=>exact#[AC,rfl,d _ H' C' n l rfl]
  |true=>
   refine tE.bind l (J.step n) (Run.on n d) λz H3 Y j C3 s3 M re3 N r=>?_
   cases t:yo p w Y with
   |none=>rw[t]at r;exact r.elim
   |some q=>
    let#[b,rfl]:=zb6 t;rw[t]at r;refine#[B,C3,j,w,Y,.bl b,M,(rw.step n).step s3,N,t,λz2 H4 C4 s4 O m=>?_];erw[yd]at m;exact#[b,m,r b H4 C4 s4 O rfl]
theorem ye.at{vs:List PV}{xs:List V}{i:Int}{v:PV}(l:ye K cl B C H vs xs)(h:at? vs i=AA v):∃x,atI xs i=AA x/\yd K cl B C H v x:=by
 unfold at? at h;rw[l.length]at h;unfold atI
 cases e:ixI xs.length i with
 |none=>rw[e]at h;cases h
 |some j=>
  rw[e]at h;have a:ixN xs.length i=AA j:=e;rw[a];exact l.get j h
theorem yj.list{n:Nat}{vs:List PV}{x:V}(rs:yj K cl B C H st)(r:yd K cl B C H (.loc n) x)(h:st[n]?=AA (.lst vs)):∃a c,x=.ref a/\C[n]?=AA (AA a)/\H a=AA (.lst c)/\ye K cl B C H vs c:=by erw[yd]at r;let#[p,a,rfl,g]:=r;let#[b,d]:=rs.liv n _ h (by intro z;cases z);obtain rfl:=g b d;let#[o,f,j]:=rs.obj n b d;rw[h]at f;cases f;let#[c,m,l]:=j;exact#[b,c,rfl,d,m,l]
def rTS(S:Se)(X:Cx)(f:SO->PV->PV->Option PV):R2:=λx y H Q=>∃B C st v w z,yj X.K S.cl B C H st/\yd X.K S.cl B C H v x/\yd X.K S.cl B C H w y/\f st v w=AA z /\
 ∀c a b,Step C H b a->yj X.K S.cl B b a st->yd X.K S.cl B b a z c->Q c a
def zba{J:Type}{xs:List J}{i:PV}{z:J}(h:yau xs i=AA z):∃k,i=.int k/\at? xs k=AA z:=by
 cases i with
 |int k=>exact#[k,rfl,h]
 |_=>cases h
def zlc:IxR X (rTS S X idxV):=by
 rintro b d G s D H x y v u Q I r A ⟨B,C,st,a,i,z,m,j,g,e,q⟩ E
 cases a with
 |tp k L=>
  let#[k,rfl,e]:=zba e;erw[yd]at j g;subst g;let#[p,o,rfl,J,l]:=j;let#[w,f,rw]:=l.at e;exact zeE b d G s D H _ _ v u Q I r A (.inr (.inl #[p,o,k,w,rfl,rfl,J.sq,f,q w H C .rfl m rw])) E
 |lst L=>
  let#[k,rfl,e]:=zba e;erw[yd]at j g;subst g;let#[p,o,rfl,J,l]:=j;let#[w,f,rw]:=l.at e;exact zeE b d G s D H _ _ v u Q I r A (.inl #[p,o,k,w,rfl,rfl,J.sq,f,q w H C .rfl m rw]) E
 |loc n=>
  erw[idxV]at e;split at e
  .rename_i L M;let#[k,rfl,e]:=zba e;erw[yd]at g;subst g;let#[p,o,rfl,_,N,l]:=m.list j M;let#[w,f,rw]:=l.at e;exact zeE b d G s D H _ _ v u Q I r A (.inl #[p,o,k,w,rfl,rfl,.of N,f,q w H C .rfl m rw]) E
  .cases e
 |str t=>
  erw[idxV]at e;split at e
  .rename_i O
   cases f:yau t.cps.toList i with
   |none=>rw[f]at e;cases e
   |some c=>
    rw[f]at e
    cases e
    let#[k,rfl,f]:=zba f;erw[yd]at j g;subst j g;exact zeE b d G s D H _ _ v u Q I r A (.inr (.inr #[t,k,c,rfl,rfl,by rw[<-zx];exact O,f,q _ H C .rfl m (by erw[yd])])) E
  .cases e
 |_=>cases e
def zl5(j:PE X a (tE S X ca))(l:PE X b (tE S X cb))(m:ybx b:=by exact λ_ _=>rfl):PE X (.Subscript a b pos) (tE S X (.idx ca cb)):=
 (zof zlc j l m).imp λD H Q #[B,C,st,ρ,n,o,h]=>by erw[ev]at h;refine tE.bind n o h λx H1 v p C1 G d f r t=>tE.bind d f t λy I w g C2 u c A rw E=>?_;let#[z,e,q]:=zq E c;exact#[B,C2,g,v,w,z,c,r.step u,rw,e,q]
theorem ye.cut{vs:List PV}{xs:List V}(lo a:Option Int)(l:ye K cl B C H vs xs):ye K cl B C H (IC.cut vs lo a) (ycx xs lo a):=by
 have b:∀n o,ycg n o=HT.sIx n 0 o:=λn o=>by cases o<;>rfl
 have c:∀n o,ycq n o=HT.sIx n n o:=λn o=>by cases o<;>rfl
 unfold IC.cut ycx;rw[l.length,b,c];exact(l.drop _).take _
def tO(S:Se)(X:Cx)(c:Ce):TO:=λD H Q=>tE S X c D H λx H1=>(x=.non/\Q AD H1) \/ ∃i,x=.int i/\Q (AA i) H1
def zkc:PO X AD (tO S X (.cst .non)):=λG s D H Q I h=>by
 refine zkk G s D H Q I ?_;let#[B,C,st,ρ,a,b,h]:=h;erw[ev]at h;rcases h.ok a (x:=V.non) (by erw[yd])with q|⟨i,z,_⟩
 .exact q.2
 .cases z
def zk0(d:PE X a (tE S X ca)):PO X (AA a) (tO S X ca):=by
 intro G s D H Q I f;rw[evalPart_some];refine thn (d G s D H _ I f) λu l g=>?_;let#[x,H1,b,c,j]:=g;rcases j with⟨rfl,q⟩|⟨i,rfl,q⟩
 .cases c
  exact#[AD,H1,b,.none,q]
 .let#[t,rfl]:=c;exact#[AA i,H1,b,.int i t,q]
def rSl(S:Se)(X:Cx):V->Option Int->Option Int->Hp->VK->Prop:=λx lo d H Q=>∃B C st v z,yj X.K S.cl B C H st/\yd X.K S.cl B C H v x/\yb6 v lo d=AA z /\
 ∀c a b,Step C H b a->yj X.K S.cl B b a st->yd X.K S.cl B b a z c->Q c a
def zau{prog:A6}{w:Ah}{A:Ai}{E:AG->AH->Prop}{s:AH}{t sl:AJ}{items:Array AG}{j l:AG}{lo c:Option Int}{Q:AG->AH->Prop}(a:G1 s.heap t items)(m:s.heap.IsSliceOf sl j l .none)(pl:GA j lo)(o:GA l c)
  (n:HT.sIx items.size 0 lo=0/\HT.sIx items.size items.size c=items.size)
  (h:Q (.ref t) s):A1 (model prog w) A (getItem (.ref t) (.ref sl)) Q E s:=by
 let#[os,d,f,p]:=id m;have g:s.TypeIs (.ref sl) "slice":=#[os,d,f];unfold getItem
 try with_reducible refine Bk ?_
 first|refine AB (AM ?_)|skip
 refine AB (FR a.typeIs ⋯ ?_);refine AB (BO (name:=AI "__getitem__") a.typeIs An
  (BY An a.typeIs Ea ?_ (Et _ _)))
 show A1 _ _ (C9 (.ref t) >>= _) _ _ s;refine AB (Ci a ?_);refine AB (GB g ?_);rw[if_pos ⋯];refine AB (HT.sliceApplied_gen m pl o ?_);have b:(((HT.sIx items.size 0 lo:Nat):Int)==0&&(1:Int)==1&&(HT.sIx items.size items.size c-HT.sIx items.size 0 lo)==items.size)=true:=by rw[n.1,n.2];simp
 show A1 _ _ (if (((HT.sIx items.size 0 lo:Nat):Int)==0&&(1:Int)==1&&(HT.sIx items.size items.size c-HT.sIx items.size 0 lo)==items.size)=AE then _ else _) _ _ s;rw[if_pos b];refine AB (AB (GB a.typeIs (AM ?_)));rw[if_pos ⋯]
 first
  |exact AB (AM (AM #[_,rfl,AM h]))
  |exact AB (EL (AM #[_,rfl,AM h]))
  |(wp_step;wp_step;exact#[_,rfl,AM h])
def ygJ(K:AF):V->Option Int->Option Int->Hp->VK->Prop:=λx lo c H Q=>∃a b,x=.ref a/\SqT K H a b /\
 (HT.sIx b.length 0 lo=0/\HT.sIx b.length b.length c=b.length)/\Q (.ref a) H
def zhA:SlR X (ygJ X.K):=by
 intro G s D H x v p t lo u w Q I f g j l h;let#[a,m,rfl,n,o,q]:=h
 cases f
 let#[c,r,d,y]:=I.tuple n;have b:c.toArray.size=m.length:=by rw[AX];exact r.length.symm
 refine#["tuple",_,An.lookup,d.typeIs,?_];exact zau d g j l (by rw[b];exact o) #[.ref a,H,I,rfl,q]
def yfM:V->Option Int->Option Int->Hp->VK->Prop:=λx lo a H Q=>∃y:AR,x=.str y/\y.length<=sizeLine/\Q (.str #[((y.cps.toList.drop (HT.sIx y.cps.toList.length 0 lo)).take (HT.sIx y.cps.toList.length y.cps.toList.length a-HT.sIx y.cps.toList.length 0 lo)).toArray]) H
def zpe(lo a:Option Int)(n:Nat):Ed lo a 1 n=sliceRange ((HT.sIx n 0 lo:Nat):Int) ((HT.sIx n n a:Nat):Int) 1:=by
 unfold Ed;erw[show (1:Int) > 0 by decide,if_true]
 congr 1
 .cases lo with
  |none=>simp[HT.sIx]
  |some i=>
   erw[HT.sIx]
   by_cases h:i<0
   .simp only[h,if_true]<;>lia
   .simp only[h,if_false]<;>lia
 .cases a with
  |none=>simp[HT.sIx]
  |some i=>
   erw[HT.sIx]
   by_cases h:i<0
   .simp only[h,if_true]<;>lia
   .simp only[h,if_false]<;>lia
def zgV(y:AR)(lo d:Option Int):Txt.slice y lo d=#[((y.cps.toList.drop (HT.sIx y.cps.toList.length 0 lo)).take (HT.sIx y.cps.toList.length y.cps.toList.length d-HT.sIx y.cps.toList.length 0 lo)).toArray]:=by
 have f:y.length=y.cps.toList.length:=by simp[BC]
 unfold Txt.slice;rw[zpe,f,sliceRange_one];have g:=HT.sIx_le y.cps.toList.length 0 (BB _) lo;have j:=HT.sIx_le y.cps.toList.length y.cps.toList.length (AU _) d;generalize HT.sIx y.cps.toList.length 0 lo=a,HT.sIx y.cps.toList.length y.cps.toList.length d=b at *;split
 .rename_i c;erw[Ae,List.length_range,AK,beq_iff_eq]at c;obtain⟨rfl,rfl⟩:a=0/\b=y.cps.toList.length:=by lia
  rw[Ez,GI,Fd]
 .rw[pick_run]
def zjB:SlR X yfM:=by
 intro G s D H x v c d lo f g Q I m n o a h;let#[y,rfl,p,q]:=h;let#[t,rfl]:=m;rw[<-zgV]at q;refine#["str",_,PySem.F.slot_str_getitem.lookup,Ew _ _ _,?_];have go:∀l u:Option (Int×Hw),c=partValue l->d=partValue u->lo=l.map (·.1)->f=u.map (·.1)->A1 (model X.prog X.w) X.A (getItem (.str y t) (.ref g)) (EP X G D Q) X.xe s:=by
  rintro l u rfl rfl rfl rfl
  refine wpAny_getItem_str_slice (l:=l) (u:=u) (st:=AD) n rfl ?_;exact post_val_or_str #[Bl (Txt.slice_le y _ _) p,λr k=>#[.str _,H,I.tok k,#[_,rfl],q]]
 cases o with
 |none=>
  cases a with
  |none=>exact go AD AD rfl rfl rfl rfl
  |int j u=>exact go AD (AA (j,u)) rfl rfl rfl rfl
 |int i b=>
  cases a with
  |none=>exact go (AA (i,b)) AD rfl rfl rfl rfl
  |int j u=>exact go (AA (i,b)) (AA (j,u)) rfl rfl rfl rfl
def zld:SlR X (rSl S X):=by
 rintro G s D H x v g j lo b m Q I r u A E ⟨B,C,st,w,z,d,rw,e,q⟩
 have J:∀n o,ycg n o=HT.sIx n 0 o:=λn o=>by cases o<;>rfl
 have L:∀n o,ycq n o=HT.sIx n n o:=λn o=>by cases o<;>rfl
 cases w with
 |tp k N=>
  erw[yb6]at e;split at e
  .rename_i c
   cases e
   have M:=rw;erw[yd]at rw;let#[p,f,rfl,rt,l]:=rw;refine zhA G s D H _ v g j lo b m Q I r u A E #[p,f,rfl,rt.sq,?_,q _ H C .rfl d M];rw[l.length,J,L]at c;exact c
  .rename_i c
   cases e
   erw[yd]at rw;let#[p,f,rfl,rt,l]:=rw;refine zlp G s D H _ v g j lo b m Q I r u A E #[p,f,rfl,rt.sq,?_,λt a=>q _ _ C (.upd a) (d.upd a) (.tup_new a d (l.cut lo b))];rw[l.length,J,L]at c;exact c
 |str y=>
  erw[yb6]at e;split at e
  .rename_i c
   cases e
   erw[yd]at rw;subst rw;refine zjB G s D H _ v g j lo b m Q I r u A E #[y,rfl,by rw[<-zx];exact c,?_];have:=q (.str #[(cut y.cps.toList lo b).toArray]) H C .rfl d (by erw[yd]);rw[cut,J,L]at this;exact this
  .cases e
 |lst N=>
  erw[yb6]at e
  cases e
  erw[yd]at rw;let#[p,f,rfl,rt,l]:=rw;exact zfC G s D H _ v g j lo b m Q I r u A E #[p,f,rfl,rt.sq,λt a=>q _ _ C (.upd a) (d.upd a) (.lst_new a d (l.cut lo b))]
 |scr N=>
  erw[yb6]at e
  cases e
  erw[yd]at rw;let#[p,f,rfl,rt,l]:=rw;exact zfC G s D H _ v g j lo b m Q I r u A E #[p,f,rfl,(by rcases rt with rt|rt;exact .inl rt.1;exact .inr rt),λt a=>q _ _ C (.upd a) (d.upd a) (.lst_new a d (l.cut lo b))]
 |_=>cases e
def zmj{lo G:Option AZ}(L:PE X a (tE S X ca))(M:PO X lo (tO S X cb))(N:PO X G (tO S X cc)):PE X (.Subscript a (.Slice lo G AD p2) pos) (tE S X (.slc ca cb cc)):=
 (ziT zld L M N).imp λD H Q #[B,C,st,ρ,O,U,h]=>by
  erw[ev]at h;have I:∀{v:PV} {x:V} {o:Option Int} {B C H},yd X.K S.cl B C H v x->ybe v=AA o->(x=.non/\o=AD) \/ ∃i,x=.int i/\o=AA i:=λ{v x o B C H} r e=>by
   cases v with
   |non=>erw[yd]at r;cases e;exact .inl #[r,rfl]
   |int i=>erw[yd]at r;cases e;exact .inr #[i,r,rfl]
   |_=>cases e
  refine tE.bind O U h λx H1 v Y C1 s1 j l Z h1=>tE.bind j l h1 λy H2 w st2 C2 s2 m n rw g=>?_
  cases p:ybe w with
  |none=>rw[p]at g;exact g.elim
  |some J=>
   rw[p]at g;have c:tO S X cc D H2 λu t=>rSl S X x J u t Q:=by
    refine tE.bind m n g λy' t w' A C3 s3 d re3 E h3=>?_;let#[z,e,q]:=zq h3 d;unfold ybs at e
    cases b:ybe w' with
    |none=>rw[b]at e;cases e
    |some o2=>
     rw[b]at e;have f:rSl S X x J o2 t Q:=#[B,C3,A,v,z,d,(Z.step s2).step s3,e,q];rcases I E b with⟨rfl,rfl⟩|⟨i,rfl,rfl⟩
     .exact .inl #[rfl,f]
     .exact .inr #[i,rfl,f]
   rcases I rw p with⟨rfl,rfl⟩|⟨i,rfl,rfl⟩
   .exact .inl #[rfl,c]
   .exact .inr #[i,rfl,c]
end
section
variable {S:Se}{X:Cx}{C:St}{B:AJ->Prop}{A A1:Ph}{H H1:Hp}{st:SO}{ρ:IC.Env}{p pos p2:CK}{a b c d:AZ}{ca cb cc:Ce}{es:List AZ}{ces:Ces}{K:AF}{cl:Nat->AJ}
def rB(S:Se)(X:Cx)(k:Blt):List V->Hp->VK->Prop:=λf H Q=>∃B A st c z,yj X.K S.cl B A H st/\ye X.K S.cl B A H c f/\yaf k st c=AA z /\
 ∀d a b,Step A H b a->yj X.K S.cl B b a st->yd X.K S.cl B b a z d->Q d a
theorem ye.one{v:PV}{xs:List V}(l:ye K cl B A H [v] xs):∃x,xs=[x]/\yd K cl B A H v x:=by erw[ye]at l;let#[y,a,rfl,r,rfl]:=l;exact#[y,rfl,r]
theorem ye.two{v w:PV}{xs:List V}(l:ye K cl B A H [v,w] xs):∃x y,xs=[x,y]/\yd K cl B A H v x/\yd K cl B A H w y:=by erw[ye]at l;let#[y,b,rfl,r,z,c,rfl,a,rfl]:=l;exact#[y,z,rfl,r,a]
def zaR{k:Blt}{st:SO}{vs:List PV}{z:PV}(h:yaf k st vs=AA z)(a:∀x y,yaf k st [x,y]=AD):∃x,vs=[x]:=by
 match vs,h with
 |[x],_=>exact#[x,rfl]
 |[x,y],h=>rw[a]at h;cases h
def zbj{v:PV}{x:V}{vs:List PV}(rs:yj K cl B A H st)(r:yd K cl B A H v x)(h:yJ st v=AA vs):∃a b,x=.ref a/\SqL K H a b/\ye K cl B A H vs b:=by
 cases v with
 |lst c=>
  cases h
  erw[yd]at r;let#[a,b,rfl,d,l]:=r;exact#[a,b,rfl,d.sq,l]
 |loc n=>
  erw[yJ]at h;split at h
  .rename_i c f
   cases h
   let#[a,b,rfl,_,g,l]:=rs.list r f;exact#[a,b,rfl,.of g,l]
  .cases h
 |_=>cases h
def zjp{v:PV}{x:V}{vs:List PV}(rs:yj K cl B A H st)(r:yd K cl B A H v x)(h:yaJ st v=AA vs):∃a b,x=.ref a/\(SqL K H a b \/ SqT K H a b)/\ye K cl B A H vs b:=by
 cases v with
 |tp k c=>
  cases h
  erw[yd]at r;let#[a,b,rfl,d,l]:=r;exact#[a,b,rfl,.inr d.sq,l]
 |lst c=>
  let#[a,b,e,q,l]:=zbj rs r (vs:=vs) h;exact#[a,b,e,.inl q,l]
 |loc n=>
  let#[a,b,e,q,l]:=zbj rs r (vs:=vs) h;exact#[a,b,e,.inl q,l]
 |_=>cases h
def zlB:yam X (.builtin "len") (rB S X .len):=by
 rintro D s C H m g Q I r ⟨B,A,st,n,z,b,l,e,q⟩
 let#[v,rfl]:=zaR e λ_ _=>rfl;let#[x,rfl,d]:=l.one;erw[yaf,lenV]at e;split at e
 .rename_i t;split at e
  .rename_i c
   cases e
   erw[yd]at d;subst d;exact zcK D s C H _ g Q I r #[t,rfl,by rw[<-zx];exact c,q _ H A .rfl b (by erw[yd])]
  .cases e
 .cases f:yaJ st v with
  |none=>rw[f]at e;cases e
  |some o=>
   rw[f]at e
   cases e
   let#[a,j,rfl,h,l]:=zjp b d f;refine zcr D s C H _ g Q I r #[a,j,rfl,?_,q _ H A .rfl b (by erw[yd];rw[l.length])];exact h
def zhb{x:AR}{n:Int}(h:ycY x=AA n):x.length<=640/\PySem.intText? x=AA n:=by
 unfold ycY at h;split at h
 .rename_i g;refine#[g,?_];have dg:∀{b:List Nat},b.all ycJ=AE->JD b:=λ{b} h c f=>by have:=Ar.1 h c f;simpa [ycJ] using this
  split at h
  .cases h
  .rename_i c b d;split at h
   .rename_i f;subst f;split at h
    .rename_i a;rw[AK,Bp]at a
     cases h
     exact PySem.intText_neg d (dg a.1) (λz=>by rw[z]at a;exact absurd a.2 (by simp)) ()
    .cases h
   .split at h
    .rename_i a
     cases h
     have:=PySem.intText_digits (x:=x) (by rw[d];exact dg a) (by rw[d];simp) ();rw[this,d];rfl
    .cases h
 .cases h
def zlT:yam X (.type "int") (rB S X .int):=by
 rintro D s C H m c Q I r ⟨B,A,st,o,z,b,l,e,q⟩
 let#[v,rfl]:=zaR e λ_ _=>rfl;let#[x,rfl,a]:=l.one;erw[yaf]at e
 cases v with
 |int i=>
  cases e
  erw[yd]at a;subst a;exact zdf D s C H _ c Q I r (.inl #[i,rfl,q _ H A .rfl b (by erw[yd])])
 |bl k=>
  cases e
  erw[yd]at a;subst a;exact zdf D s C H _ c Q I r (.inr #[k,rfl,q _ H A .rfl b (by erw[yd,bi])])
 |str y=>
  let#[u,rfl,d]:=vals1 r;erw[yd]at a;subst a;let#[t,rfl]:=d;erw[yfg]at e;let#[n,f,e]:=C2.1 e;subst e;let#[g,j]:=zhb f;exact PySem.W.KIN.call_text j g #[.int n,H,I.tok _,#[_,rfl],q _ H A .rfl b (by erw[yd])]
 |_=>cases e
theorem ye.ints:∀{a:List Int} {xs:List V},ye K cl B A H (a.map .int) xs->xs=a.map V.int
 |[],xs,h=>by simpa only[Az,ye] using h
 |n::a,xs,h=>by erw[AV,ye]at h;let#[y,b,rfl,r,l]:=h;erw[yd]at r;rw[r,ye.ints l];rfl
theorem ye.bls:∀{a:List Bool} {xs:List V},ye K cl B A H (a.map .bl) xs->xs=a.map V.bl
 |[],xs,h=>by simpa only[Az,ye] using h
 |n::a,xs,h=>by erw[AV,ye]at h;let#[y,b,rfl,r,l]:=h;erw[yd]at r;rw[r,ye.bls l];rfl
def zhS:yam X (.type "tuple") (rB S X .tuple):=by
 rintro D s C H n j Q I r ⟨B,A,st,o,z,b,l,e,q⟩
 let#[v,rfl]:=zaR e λ_ _=>rfl;let#[x,rfl,d]:=l.one;erw[yaf,ydR]at e;split at e
 .cases e
  erw[yd]at d;let#[a,c,rfl,m,l]:=d;exact zay D s C H _ j Q I r #[a,c,rfl,.inr #[m.sq,q _ H A .rfl b (by erw[yd];exact#[a,c,rfl,m,l])]]
 .cases f:yJ st v with
  |none=>rw[f]at e;cases e
  |some p=>
   rw[f]at e
   cases e
   let#[a,c,rfl,h,l]:=zbj b d f;exact zay D s C H _ j Q I r #[a,c,rfl,.inl #[h,λt g=>q _ _ A (.upd g) (b.upd g) (.tup_new g b l)]]
def zc4:∀{vs:List PV} {m:Bool},IC.allB vs=AA m->∃a:List Bool,vs=a.map .bl/\m=a.all id
 |[],m,h=>by cases h;exact#[[],rfl,rfl]
 |.bl i::r,m,h=>by
  erw[IC.allB]at h;split at h
  .rename_i c e
   cases h
   let#[a,b,d]:=zc4 e;exact#[i::a,by rw[b];rfl,by rw[d];rfl]
  .cases h
 |.non::r,m,h=>by cases h
 |.int _::r,m,h=>by cases h
 |.str _::r,m,h=>by cases h
 |.tp _ _::r,m,h=>by cases h
 |.lst _::r,m,h=>by cases h
 |.loc _::r,m,h=>by cases h
 |.fnc _::r,m,h=>by cases h
 |.exn _::r,m,h=>by cases h
 |.scr _::r,m,h=>by cases h
def zjm:∀{vs:List PV} {m:Int},ycv vs=AA m->∃a:List Int,vs=a.map .int/\m=a.sum
 |[],m,h=>by cases h;exact#[[],rfl,rfl]
 |.int i::r,m,h=>by
  erw[ycv]at h;split at h
  .rename_i c e
   cases h
   let#[a,b,d]:=zjm e;exact#[i::a,by rw[b];rfl,by rw[d,Ix]]
  .cases h
 |.non::r,m,h=>by cases h
 |.bl _::r,m,h=>by cases h
 |.str _::r,m,h=>by cases h
 |.tp _ _::r,m,h=>by cases h
 |.lst _::r,m,h=>by cases h
 |.loc _::r,m,h=>by cases h
 |.fnc _::r,m,h=>by cases h
 |.exn _::r,m,h=>by cases h
 |.scr _::r,m,h=>by cases h
def znn(f:X.calm=AE):yam X (.builtin "all") (rB S X .all):=by
 rintro D s C H p g Q I r ⟨B,A,st,t,z,d,l,e,q⟩
 let#[v,rfl]:=zaR e λ_ _=>rfl;let#[x,rfl,j]:=l.one;erw[yaf]at e
 cases b:yJ st v with
 |none=>rw[b]at e;cases e
 |some n=>
  rw[b]at e;erw[BI]at e
  cases c:IC.allB n with
  |none=>rw[c]at e;cases e
  |some m=>
   rw[c]at e
   cases e
   let#[o,rfl,rfl]:=zc4 c;let#[a,u,rfl,h,l]:=zbj d j b;rw[l.bls]at h;exact zhY f D s C H _ g Q I r #[a,o,rfl,h,q _ H A .rfl d (by erw[yd])]
def zma(f:X.calm=AE):yam X (.builtin "sum") (rB S X .sum):=by
 rintro D s C H p g Q I r ⟨B,A,st,t,z,d,l,e,q⟩
 let#[v,rfl]:=zaR e λ_ _=>rfl;let#[x,rfl,j]:=l.one;erw[yaf]at e
 cases b:yJ st v with
 |none=>rw[b]at e;cases e
 |some n=>
  rw[b]at e;erw[BI]at e
  cases c:ycv n with
  |none=>rw[c]at e;cases e
  |some m=>
   rw[c]at e
   cases e
   let#[o,rfl,rfl]:=zjm c;let#[a,u,rfl,h,l]:=zbj d j b;rw[l.ints]at h;exact zic f D s C H _ g Q I r #[a,o,rfl,h,q _ H A .rfl d (by erw[yd])]
variable {x:AR}{id T:String}{k:Blt}
def zmu(g:yam X (.builtin id) (rB S X k))(j:Gl X x)(l:X.mg x=AD)(m:bootBuiltins x=AA (.builtin id))(n:PA X (a::es) (tAs S X ces))(o:x ≠ "__name__":=by decide)(c:(x==("__debug__":AR))=false:=by decide)
  (r:starEach (a::es) X.env=(AC,eval a X.env)::starEach es X.env:=by rfl) (d:(backTo pos (starEach es X.env)).any (·.1)=false:=by rfl):PE X (.Call (.Name x p) (a::es) [] pos) (tE S X (.blt k ces)):=
 (zb5 g j l m n o c r d).imp λC H Q #[B,A,st,ρ,t,u,h]=>by erw[ev]at h;refine tAs.bind t u h λG H1 w f A1 I b y D E=>?_;let#[z,e,q]:=zq E b;exact#[B,A1,f,w,z,b,D,e,q]
def zki(g:yam X (.type T) (rB S X k))(j:Gl X x)(l:X.mg x=AD)(m:bootBuiltins x=AA (.type T))(n:PA X (a::es) (tAs S X ces))(o:x ≠ "__name__":=by decide)(c:(x==("__debug__":AR))=false:=by decide)
  (r:starEach (a::es) X.env=(AC,eval a X.env)::starEach es X.env:=by rfl) (d:(backTo pos (starEach es X.env)).any (·.1)=false:=by rfl):PE X (.Call (.Name x p) (a::es) [] pos) (tE S X (.blt k ces)):=
 (zcG g j l m n o c r d).imp λC H Q #[B,A,st,ρ,t,u,h]=>by erw[ev]at h;refine tAs.bind t u h λG H1 w f A1 I b y D E=>?_;let#[z,e,q]:=zq E b;exact#[B,A1,f,w,z,b,D,e,q]
end
section
variable {S:Se}{X:Cx}{C:St}{B:AJ->Prop}{A A1:Ph}{H H1:Hp}{st:SO}{ρ:IC.Env}{p pos p2 apos:CK}{a b c d:AZ}{ca cb cc:Ce}{es:List AZ}{ces:Ces}{K:AF}{cl:Nat->AJ}
theorem Step.put{l:AJ}{u:HO}(a:AA l∈A):Step A H A (L2.upd H l u):=
 #[λb o n e=>by rw[zc (show b≠l from λz=>n (by rw[z];exact a))];exact e,AU _,λ_ _ _ e=>e,λ_ h=>.inl h]
theorem yj.put{n:Nat}{l:AJ}{u:HO}{o:Ob}(rs:yj K cl B A H st)(c:A[n]?=AA (AA l))(p:yb9 K cl B A (L2.upd H l u) o l):yj K cl B A (L2.upd H l u) (st.set n o):=by
 have j:AA l∈A:=A9 c;have s:Step A H A (L2.upd H l u):=.put j;have d:n<st.length:=by rw[<-rs.len];exact(Ao.mp c).1
 refine#[by rw[BD];exact rs.len,rs.inj,λm a e=>?_,λm f e g=>?_,rs.nb,λa h=>?_,λa h t e=>?_]
 .by_cases b:m=n
  .subst b;rw[c]at e;cases e;exact#[o,by rw[Ab d],p]
  .let#[f,q,r]:=rs.obj m a e;refine#[f,by rw[AW (BR b)];exact q,r.step s ?_];rw[zc]
   rintro rfl
   exact b (rs.inj m n a e c)
 .by_cases b:m=n
  .subst b;exact#[l,c]
  .rw[AW (BR b)]at e;exact rs.liv m f e g
 .let#[w,e]:=rs.dom a h
  by_cases z:a=l
  .subst z;exact#[u,zh]
  .exact#[w,by rw[zc z];exact e]
 .have z:a≠l:=λz=>rs.nb l j (z ▸ h);rw[zc z]at e;exact rs.nt a h t e
def zoT:1000000<=sizeLine:=by rw[Ap];decide
def zcp{m:Mth}{v:PV}{st:SO}{D E:Type}{Rel:Ph->Hp->D->E->Prop}{k:Bool->R D}{Q:E->Hp->Prop}(h:Run S X C B A H Rel (onO (yaw m st v) k) Q):∃b,yaw m st v=AA b/\Run S X C B A H Rel (k b) Q:=by
 cases e:yaw m st v with
 |none=>rw[e]at h;exact h.elim
 |some z=>rw[e]at h;exact#[z,rfl,h]
def zgb(U:PE X a (tE S X ca))(Y:PE X b (tE S X cb))(M:starEach [b] X.env=[(AC,eval b X.env)]:=by rfl)(f:attributeBase a "append" X.env (eval a X.env)=eval a X.env:=by rfl)(g:(apos.endLine==pos.line)=true:=by rfl)
  (j:((backTo pos (starEach [b] X.env)).all (λx=>!x.1)&&(backToKw pos (keywordEach [] X.env)).all (λx=>x.1.isSome)&&decide (([b]:List AZ).length+([]:List CU).length+(if ([]:List CU).isEmpty then 0 else 1)<30))=true:=by rfl):
  PE X (.Call (.Attribute a "append" apos) [b] [] pos) (tE S X (.mth .append ca (.cons cb .nil))):=
 (ziS PySem.F.plainAttrs_list GS PySem.F.type_list_append zcW U (zas (S:=S) Y zbX M) f j g M rfl).imp λC H Q #[B,A,st,ρ,Z,re,h]=>by
  erw[ev]at h;refine tE.bind Z re h λx H1 v m A1 s1 o u N z=>?_;let#[_,D,z]:=zcp z;have E:∃r,yJ m v=AA r:=by
   erw[yaw]at D
   cases q:yJ m v with
   |none=>rw[q]at D;cases D
   |some r=>exact#[r,rfl]
  let#[r,E]:=E;let#[l,xs,rfl,hl,_]:=zbj o N E;refine#[.inl #[rfl,xs,hl],tAs.bind o u z λys H2 vs st2 A2 s2 p re2 G d=>?_];have I:=N.step s2;rcases vs with _|⟨w,_|⟨w',t⟩⟩
  .exact d.elim
  .let#[y,rfl,rw]:=G.one;unfold yaR at d;erw[ydP]at d;split at d
   .rename_i n;split at d
    .rename_i zs hz;split at d
     .rename_i c;let#[l',J,e,L,hx,O]:=p.list I hz
      cases e
      refine#[l,J,y,rfl,rfl,hx,by have:=zoT;have:=O.length;lia,?_];exact d _ _ A2 (.put (A9 L)) (p.put L #[_,zh,(O.append (by erw[ye];exact#[y,[],rfl,rw,rfl])).step (.put (A9 L))]) (by erw[yd])
     .exact d.elim
    .exact d.elim
   .exact d.elim
  .exact d.elim
def zlG(G:PE X a (tE S X ca)):PE X a (tE S X (.frz ca)):=
 G.imp λC H Q #[B,A,st,ρ,I,J,h]=>by
  erw[ev]at h;refine tE.bind I J h λx H1 v L A1 s1 d M y g=>?_;unfold ydH at g;split at g
  .rename_i n;split at g
   .rename_i vs N;let#[l,O,rfl,w,U,Y]:=d.list y N;have Z:AA l∈A1:=A9 w;have f:n<A1.length:=(Ao.mp w).1;have nl:AA l∉A1.set n none:=λz=>by
     let#[m,e]:=EH.mp z
     by_cases c:m=n
     .subst c;rw[Ab f]at e;cases e
     .rw[AW (BR c)]at e;exact c (d.inj m n l e w)
    have D:∀b,AA b∈A1.set n AD->AA b∈A1:=λb z=>by
     let#[m,e]:=EH.mp z
     by_cases c:m=n
     .subst c;rw[Ab f]at e;cases e
     .rw[AW (BR c)]at e;exact A9 e
    have s:Step A1 H1 (A1.set n AD) H1:=#[λ_ _ _ e=>e,by simp,λm a hm' e=>by
     by_cases c:m=n
     .subst c;rw[Ab f]at e;cases e
     .rw[AW (BR c)]at e;exact e,λb z=>.inl (D b z)]
    refine g _ H1 (A1.set n AD) s #[by simp[d.len],λm k a t u=>?_,λm a e=>?_,λm o e E=>?_,λa z=>d.nb a (D a z),d.dom,d.nt] ?_
    .by_cases j:m=n
     .subst j;rw[Ab f]at t;cases t
     .by_cases p:k=n
      .subst p;rw[Ab f]at u;cases u
      .rw[AW (BR j)]at t;rw[AW (BR p)]at u;exact d.inj m k a t u
    .by_cases c:m=n
     .subst c;rw[Ab f]at e;cases e
     .rw[AW (BR c)]at e;let#[o,q,r]:=d.obj m a e;exact#[o,by rw[AW (BR c)];exact q,r.step s rfl]
    .by_cases c:m=n
     .subst c;rw[Ab (by rw[<-d.len];exact f)]at e;cases e;exact absurd rfl E
     .rw[AW (BR c)]at e ⊢;exact d.liv m o e E
    .simp only[yd];exact#[l,O,rfl,#[U,d.nb l Z,nl],Y.step s]
   .exact g.elim
  .exact g.ok d y
end
section
variable (S:Se)(X:Cx)
def yaD(B:AJ->Prop)(A:Ph)(H:Hp)(f:Fl)(D:Ends):Prop:=
 match f with
 |.nx g a=>∀d b c,Step A H c b->yj X.K S.cl B c b a->yC X.K S.cl B c b g d->D.nx d b
 |.rt v a=>∀x b c,Step A H c b->yj X.K S.cl B c b a->yd X.K S.cl B c b v x->D.rt x b
 |.bk g a=>∀d b c,Step A H c b->yj X.K S.cl B c b a->yC X.K S.cl B c b g d->D.bk d b
 |.ct g a=>∀d b c,Step A H c b->yj X.K S.cl B c b a->yC X.K S.cl B c b g d->D.ct d b
 |.exc k g a=>∀d A1 j e l,Step A H A1 j->yC X.K S.cl B A1 j g d->ExcAt S X d B A1 j k a e l->X.xe e l
 |.bad=>False
def tS(c:Cs):TS:=λD C H=>∃B A st a,yj X.K S.cl B A H st/\yC X.K S.cl B A H a C/\yaD S X B A H (ex S.call a st c) D
def tSs(c:Css):TS:=λD C H=>∃B A st a,yj X.K S.cl B A H st/\yC X.K S.cl B A H a C/\yaD S X B A H (exs S.call a st c) D
end
section
variable {S:Se}{X:Cx}{C:St}{B:AJ->Prop}{A A1:Ph}{H H1:Hp}{st:SO}{ρ:IC.Env}{D:Ends}{pos p2 px:CK}{a b c o:AZ}{ca cb cc:Ce}{s1:CL}{ss ss':List CL}{c1:Cs}{cs cs':Css}
theorem yaD.on{f:Fl}(s:Step A H A1 H1)(h:yaD S X B A H f D):yaD S X B A1 H1 f D:=by
 cases f with
 |nx ρ st=>exact λa b c t=>h a b c (s.trans t)
 |rt ρ st=>exact λa b c t=>h a b c (s.trans t)
 |bk ρ st=>exact λa b c t=>h a b c (s.trans t)
 |ct ρ st=>exact λa b c t=>h a b c (s.trans t)
 |exc k ρ st=>exact λa A2 d e g t=>h a A2 d e g (s.trans t)
 |bad=>exact h
theorem tE.fl{k:PV->SO->Fl}{P:V->Hp->Prop}(rs:yj X.K S.cl B A H st)(c:yC X.K S.cl B A H ρ C)(h:yaD S X B A H ((ev S.call ρ st ca).fl ρ k) D)
  (n:∀x H1 v a A1,Step A H A1 H1->yj X.K S.cl B A1 H1 a->yC X.K S.cl B A1 H1 ρ C->yd X.K S.cl B A1 H1 v x->yaD S X B A1 H1 (k v a) D->P x H1):tE S X ca C H P:=by
 refine#[B,A,st,ρ,rs,c,?_]
 cases e:ev S.call ρ st ca with
 |ok v b=>
  rw[e]at h;exact λx f g s d j=>n x f v b g s d (c.step s) j (h.on s)
 |exc k b=>
  rw[e]at h;exact λe l x=>h C A H e l .rfl c x
 |bad=>rw[e]at h;exact h
theorem PS.imp{t t':TS}(h:PS X s1 t')(k:∀D C H,t D C H->t' D C H):PS X s1 t:=λE s C H D I q=>h E s C H D I (k D C H q)
theorem PSs.imp{t t':TS}(h:PSs X ss t')(k:∀D C H,t D C H->t' D C H):PSs X ss t:=λE s C H D I q=>h E s C H D I (k D C H q)
theorem yC.set{K:AF}{a:Nat->AJ}(r:yC K a B A H ρ C)(i:Nat){v:PV}{x:V}(c:yd K a B A H v x):yC K a B A H (ρ.set i (AA v)) (C.set i (AA x)):=by
 refine#[by rw[BD,BD];exact r.len,λj w e=>?_]
 by_cases h:j=i
 .subst h
  by_cases b:j<ρ.length
  .rw[Ab b]at e
   cases e
   exact#[x,by rw[Ab (by rw[<-r.len];exact b)],c]
  .rw[BA (by rw[BD];lia)]at e
   cases e
 .rw[AW (BR h)]at e ⊢;exact r.get j w e
def zlm:PSs X [] (tSs S X .nil):=zo2.imp λD C H #[B,A,st,ρ,a,b,h]=>by erw[IC.xqq0,IC.xqq1]at h;exact h C H A .rfl a b
def zkw(f:PS X s1 (tS S X c1))(g:PSs X ss (tSs S X cs)):PSs X (s1::ss) (tSs S X (.cons c1 cs)):=
 (zhW f g).imp λD C H #[B,A,st,ρ,j,l,h]=>by
  erw[IC.xqq0,IC.xqq1]at h;refine#[B,A,st,ρ,j,l,?_]
  cases e:ex S.call ρ st c1 with
  |nx b a=>
   rw[e]at h;exact λn o m s c d=>#[B,m,a,b,c,d,h.on s]
  |rt v a=>rw[e]at h;exact h
  |bk b a=>rw[e]at h;exact h
  |ct b a=>rw[e]at h;exact h
  |exc k b a=>rw[e]at h;exact h
  |bad=>rw[e]at h;exact h
def zjH(d:PE X a (tE S X ca))(f:swapsWith a AD pos.line X.env=pure false:=by rfl):PS X (.Expr a pos) (tS S X (.expr ca)):=
 (zjx d f).imp λD C H #[B,A,st,ρ,g,j,h]=>by erw[ex]at h;exact tE.fl g j h λx H1 v l A1 s b c n m=>m C H1 A1 .rfl b c
def znQ(c:PE X a (tE S X ca)):PS X (.Return (AA a) pos) (tS S X (.ret ca)):=
 (zlI c).imp λD C H #[B,A,st,ρ,d,f,h]=>by erw[ex]at h;exact tE.fl d f h λx H1 v g A1 s b j l m=>m x H1 A1 .rfl b l
def zkg:PS X (.Return AD pos) (tS S X (.ret (.cst .non))):=
 zo3.imp λD C H #[B,A,st,ρ,a,b,h]=>by erw[ex,ev,R.fl]at h;exact h .non H A .rfl a (by erw[yd])
def znA{i:Nat}{x:AR}(d:X.N.Nodup)(f:X.N[i]?=AA x)(g:Loc X.env.scope x)(j:PE X a (tE S X ca))(l:swapsWith a (AA (.Name x px)) pos.line X.env=pure false:=by rfl)
  (hf:X.fn x=AE \/ X.env.scope.names.lookup x=AA .local:=by first|exact .inl rfl|exact .inr rfl|assumption):PS X (.Assign [.Name x px] a pos) (tS S X (.asg (.n i) ca)):=
 (zlV d f g j l hf).imp λD C H #[B,A,st,ρ,m,o,h]=>by erw[ex]at h;exact tE.fl m o h λx H1 v p A1 s b c q r=>r _ H1 A1 .rfl b (c.set i q)
theorem flT(r:R PV)(f:Bool->SO->Fl):(r.fl ρ λx a=>onF (yas a x) λk=>f k a)=(ya2 r).fl ρ f:=by
 cases r with
 |ok v s=>
  erw[R.fl,ya2,R.bind]
  cases yas s v<;>rfl
 |exc c s=>rfl
 |bad=>rfl
theorem tTs.fl{k:Bool->SO->Fl}{P:Bool->Hp->Prop}(rs:yj X.K S.cl B A H st)(d:yC X.K S.cl B A H ρ C)(h:yaD S X B A H ((ya2 (ev S.call ρ st ca)).fl ρ k) D)
  (n:∀b H1 a A1,Step A H A1 H1->yj X.K S.cl B A1 H1 a->yC X.K S.cl B A1 H1 ρ C->yaD S X B A1 H1 (k b a) D->P b H1):tTs S X ca C H P:=by
 refine#[B,A,st,ρ,rs,d,?_]
 cases e:ya2 (ev S.call ρ st ca)with
 |ok v c=>
  rw[e]at h;exact λx g j s f l=>by subst l;exact n v g c j s f (d.step s) (h.on s)
 |exc k c=>
  rw[e]at h;exact λe m x=>h C A H e m .rfl d x
 |bad=>rw[e]at h;exact h
def zov(g:PT X c (tTs S X cc))(j:PSs X ss (tSs S X cs))(l:PSs X ss' (tSs S X cs')):PS X (.If c ss ss' pos) (tS S X (.ite cc cs cs')):=
 (zoh g j l).imp λD C H #[B,A,st,ρ,m,n,h]=>by
  erw[ex]at h;rw[flT _ λk a=>cond k (exs S.call ρ a cs) (exs S.call ρ a cs')]at h;refine tTs.fl m n h λk H1 a A1 s b d f=>?_
  cases k with
  |true=>exact#[B,A1,a,ρ,b,d,f]
  |false=>exact#[B,A1,a,ρ,b,d,f]
def zlN{i:Nat}{x:AR}{l:EV}{c:BOp}(o:X.N.Nodup)(p:X.N[i]?=AA x)(r:Loc X.env.scope x)(t:PE X a (tE S X ca))(E:PIp X l (rT2 S X (ybA c)))
  (hf:X.fn x=AE \/ X.env.scope.names.lookup x=AA .local:=by first|exact .inl rfl|exact .inr rfl|assumption) (Q:(x==("__debug__":AR))=false:=by decide) (G:(x==("__classdict__":AR))=false:=by decide):PS X (.AugAssign (.Name x px) l a pos) (tS S X (.aug i c ca)):=
 (zmS o p r t E hf).imp λD C H #[B,A,st,ρ,I,m,h]=>by
  erw[ex]at h
  cases q:ρ[i]? with
  |none=>rw[q]at h;exact h.elim
  |some w=>
   cases w with
   |none=>rw[q]at h;exact h.elim
   |some w=>
    rw[q]at h;let#[y,J,rw]:=m.get i w q;refine#[y,J,tE.fl I m h λz H1 v d A1 s f g L b=>?_]
    cases e:ybA c w v with
    |none=>rw[e]at b;exact b.elim
    |some u=>
     rw[e]at b;exact#[B,A1,d,w,v,u,f,rw.step s,L,e,λU M N n j O=>b _ M N n j ((g.step n).set i O)]
end
section
variable (S:Se)(X:Cx)
structure Drw(B:AJ->Prop)(A0:Ph)(H0:Hp)(xs:List PV)(J:It):Prop where
 stop:∀A H,Step A0 H0 A H->J.stop xs.length H
 go:∀(i:Nat) A H,Step A0 H0 A H->i<xs.length->J.go i H
 yld:∀(i:Nat) A H st x H' (B':AJ->Prop),(∀y,B' y->B y \/ H0 y=AD)->Step A0 H0 A H->yj X.K S.cl B' A H st->i<xs.length->J.yld i H x H'->∃v,xs[i]?=AA v/\yd X.K S.cl B' A H' v x/\∀b o,H b=AA o->H' b=AA o
abbrev RD(B:AJ->Prop):Ph->Hp->List PV->It->Prop:=λA H=>Drw S X B A H
def tI(c:Cit):TI:=λC H R=>∃B A st a,yj X.K S.cl B A H st/\yC X.K S.cl B A H a C/\Run S X C B A H (RD S X B) (evi S.call a st c) R
end
section
variable {S:Se}{X:Cx}{E:St}{B:AJ->Prop}{C C1:Ph}{H H1:Hp}{st:SO}{ρ:IC.Env}{D:Ends}{pos p p2 px:CK}{a b c o tg l:AZ}{ca cb cc:Ce}{es:List AZ}{ces:Ces}{ss:List CL}{cs:Css}{ci:Cit}{ct:Tg}
def zj2:PE X a (tE S X .nope):=λF s E H Q I #[B,C,st,ρ,b,c,h]=>by erw[ev]at h;exact h.elim
def zle{a:CL}:PS X a (tS S X .nope):=λF s E H D I #[B,C,st,ρ,b,c,h]=>by erw[ex]at h;exact h.elim
theorem PI.imp{t t':TI}(h:PI X tg l t')(k:∀E H R,t E H R->t' E H R):PI X tg l t:=λF s E H R I q=>h F s E H R I (k E H R q)
def zi8{r:TE}(t:PE X l r):PI X tg l (λE H R=>r E H λx H1=>∃a,x=.ref a/\(((∃f,SqL X.K H1 a f)/\R (Itl X.K a) H1) \/ ((∃f,SqT X.K H1 a f)/\R (Itt X.K a) H1))):=by
 intro F s E H R I h;refine thn (t F s E H _ I h) λv c u=>?_;let#[x,H1,d,w,j]:=u;let#[a,e,j]:=j;subst e
 cases w
 rcases j with⟨⟨f,m⟩,q⟩|⟨⟨f,m⟩,q⟩
 .let#[g,y,p,z]:=d.list m;refine Dz p.isList ?_;refine#[c.heap.objs.size,[c.heap.objs.size],_,_,H1,rfl,d.kept (t':=c.toks) λb o e=>AL _ e,zgK a _,#[_,AQ _ rfl,rfl,rfl],λb n=>?_,q];have e:b=c.heap.objs.size:=by simpa using n
  subst e;exact d.fpOk (AU _) (d.hok.fresh (AU _))
 .let#[g,y,p,z]:=d.tuple m;refine DC (show c.heap.IsTuple a g.toArray from p) ?_;refine#[c.heap.objs.size,[c.heap.objs.size],_,_,H1,rfl,d.kept (t':=c.toks) λb o e=>AL _ e,ze4 a _,#[_,AQ _ rfl,rfl,rfl],λb n=>?_,q];have e:b=c.heap.objs.size:=by simpa using n
  subst e;exact d.fpOk (AU _) (d.hok.fresh (AU _))
def zhi{k:Bool}{vs:List PV}{xs:List V}{y:AJ}(rt:ybE X.K B C H k y xs)(l:ye X.K S.cl B C H vs xs):Drw S X B C H vs (Itt X.K y):=by
 have m:=l.length;refine#[λb c s=>#[xs,(rt.step s).sq,by lia],λi b c s d=>#[xs,xs[i]'(),(rt.step s).sq,by simp[show i<xs.length by lia]],λi b c st x n o g s p d q=>?_];let#[rfl,q]:=q;obtain⟨v,f⟩:∃v,vs[i]?=AA v:=#[vs[i],by simp[d]];let#[r,a,j]:=l.get i f;have:=q xs (rt.step s).sq;rw[this]at a
 cases a
 exact#[v,f,(j.moreB g).step s,λ_ _ e=>e]
def zgw{vs:List PV}{xs:List V}{y:AJ}(rt:ybN B C H y xs)(l:ye X.K S.cl B C H vs xs):Drw S X B C H vs (Itl X.K y):=by
 have m:=l.length;refine#[λb c s=>#[xs,(rt.step s).sq,by lia],λi b c s d=>#[xs,xs[i]'(),(rt.step s).sq,by simp[show i<xs.length by lia]],λi b c st x n o g s p d q=>?_];let#[rfl,q]:=q;obtain⟨v,f⟩:∃v,vs[i]?=AA v:=#[vs[i],by simp[d]];let#[r,a,j]:=l.get i f;have:=q xs (rt.step s).sq;rw[this]at a
 cases a
 exact#[v,f,(j.moreB g).step s,λ_ _ e=>e]
def zlO(g:PE X l (tE S X ca)):PI X tg l (tI S X (.seq ca)):=
 (zi8 g).imp λE H R #[B,C,st,ρ,j,m,h]=>by
  erw[IC.vjq0,IC.vjq1,IC.vjq2,IC.vjq3,IC.vjq4,IC.vjq5,IC.vjq6,IC.vjq7,IC.vjq8,IC.vjq9]at h;refine tE.bind j m h λx H1 v n C1 q a o c d=>?_
  cases v with
  |tp k p=>
   erw[yd]at c;let#[y,f,rfl,b,l]:=c;exact#[y,rfl,.inr #[#[f,b.sq],d.ok a (zhi b l)]]
  |lst p=>
   erw[yd]at c;let#[y,f,rfl,b,l]:=c;exact#[y,rfl,.inl #[#[f,b.sq],d.ok a (zgw b l)]]
  |_=>exact d.elim
def zaP:∀(n:Nat) (lo d:Int) (i:Nat),(yg n lo d)[i]?=if i<n then AA (.int (lo+i*d))else AD
 |0,lo,d,i=>by simp[yg]
 |n+1,lo,d,0=>by simp[yg]
 |n+1,lo,d,i+1=>by
  erw[yg,AN];rw[zaP n (lo+d) d i]
  by_cases h:i<n
  .rw[if_pos h,if_pos (),Int.natCast_succ,Int.add_mul,Cq,Int.add_assoc,Int.add_comm d]
  .rw[if_neg h,if_neg ()]
def zC:∀(n:Nat) (lo d:Int),(yg n lo d).length=n
 |0,lo,d=>rfl
 |n+1,lo,d=>by simp[yg,zC n]
def zdc{lo:Int}{n:Nat}:Drw S X B C H (yg n lo 1) (Itr lo n):=by refine#[λb c s=>by rw[zC];exact AU _,λi b c s a=>by rw[zC]at a;exact a,λi b c st x d f g s j a q=>?_];rw[zC]at a;let#[rfl,rfl]:=q;refine#[.int (lo+i),?_,by erw[yd],λ_ _ e=>e];rw[zaP,if_pos a,G4]
def zbg{o:Option (List PV)}{st:SO}{Q:It->Hp->Prop}(h:Run S X E B C H (RD S X B) (toL o st) Q):∃a,o=AA a/\Run S X E B C H (RD S X B) (.ok a st) Q:=by
 cases o with
 |none=>exact h.elim
 |some z=>exact#[z,rfl,h]
def zfI(g:Gl X "range")(l:X.mg "range"=AD)(m:PE X a (tE S X ca))(d:starEach [a] X.env=[(AC,eval a X.env)]:=by rfl):PI X tg (.Call (.Name "range" p) [a] [] pos) (tI S X (.range1 ca)):=
 (zc1 g l (zI m zoF d) d).imp λE H R #[B,C,st,ρ,n,o,h]=>by
  erw[IC.vjq0,IC.vjq1,IC.vjq2,IC.vjq3,IC.vjq4,IC.vjq5,IC.vjq6,IC.vjq7,IC.vjq8,IC.vjq9]at h;refine tE.bind n o h λx H1 v q C1 t b r f c=>?_;let#[u,e,c]:=zbg c
  cases v with
  |int j=>
   erw[ybr]at e;split at e
   .cases e
    erw[yd]at f;subst f;exact#[j,rfl,by lia,by lia,c.ok b zdc]
   .cases e
  |_=>cases e
def zbr:∀(xs:List PV) (k i:Nat),(yw k xs)[i]?=(xs[i]?).map λx=>.tup [.int ((k+i:Nat):Int),x]
 |[],k,i=>by simp[yw]
 |x::xs,k,0=>by simp[yw]
 |x::xs,k,i+1=>by
  erw[yw,AN];rw[zbr xs (k+1) i];have:k+1+i=k+(i+1):=by lia
  rw[this]
def zbu:∀(xs:List PV) (k:Nat),(yw k xs).length=xs.length
 |[],k=>rfl
 |x::xs,k=>by simp[yw,zbu xs]
def zh6{k:Bool}{vs:List PV}{xs:List V}{y:AJ}(rt:ybE X.K B C H k y xs)(l:ye X.K S.cl B C H vs xs):Drw S X B C H (yw 0 vs) (Ite X.K y):=by
 have t:=l.length;have u:=zbu vs 0;refine#[λc d s=>#[xs,(rt.step s).sq,by lia],λi c d s m=>#[xs,xs[i]'(),(rt.step s).sq,by simp[show i<xs.length by lia]],λi c d st x w z n s p m q=>?_];let#[T,f,rfl,q]:=q;obtain⟨v,g⟩:∃v,vs[i]?=AA v:=#[vs[i]'(),by simp[show i<vs.length by lia]];let#[j,a,r]:=l.get i g;have e:=q xs j (rt.step s).sq a;subst e;refine#[.tup [.int i,v],?_,.tup_new f p ?_,λb o e=>by rw[zc (zd e f)];exact e]
 .rw[zbr,g];simp
 .simp only[ye,yd];exact#[_,_,rfl,rfl,j,[],rfl,(r.moreB n).step s,rfl]
def zjZ{es:List AZ}{j:Nat}{tp:CK}(m:Gl X "enumerate")(n:X.mg "enumerate"=AD)(o:PE X a (tE S X ca))(c:starEach [a] X.env=[(AC,eval a X.env)]:=by rfl):
  PI X (.Tuple es j tp) (.Call (.Name "enumerate" p) [a] [] pos) (tI S X (.enum ca)):=
 (ziA m n (zI o zoF c) c).imp λE H R #[B,C,st,ρ,q,r,h]=>by
  erw[IC.vjq0,IC.vjq1,IC.vjq2,IC.vjq3,IC.vjq4,IC.vjq5,IC.vjq6,IC.vjq7,IC.vjq8,IC.vjq9]at h;refine tE.bind q r h λx H1 v t C1 z b u d f=>?_
  cases v with
  |tp k A=>
   erw[yd]at d;let#[y,w,rfl,g,l]:=d;exact#[y,rfl,#[w,g.sq],f.ok b (zh6 g l)]
  |_=>exact f.elim
def tG(S:Se)(X:Cx)(t:Tg):TG:=λv E H Q=>∃B C st ρ w a,yj X.K S.cl B C H st/\yC X.K S.cl B C H ρ E/\yd X.K S.cl B C H w v/\yr t w ρ=AA a/\∀b,yC X.K S.cl B C H a b->Q b H
theorem PG.imp{t t':TG}(h:PG X tg t')(k:∀v E H Q,t v E H Q->t' v E H Q):PG X tg t:=λF s E H v u Q I a q=>h F s E H v u Q I a (k v E H Q q)
def zjC{i:Nat}{x:AR}(a:X.N.Nodup)(b:X.N[i]?=AA x)(c:Loc X.env.scope x)(hf:X.fn x=AE \/ X.env.scope.names.lookup x=AA .local:=by first|exact .inl rfl|exact .inr rfl|assumption):PG X (.Name x pos) (tG S X (.n i)):=
 (zft a b c hf).imp λv E H Q #[B,C,st,ρ,w,g,j,d,f,e,q]=>by
  cases e
  exact q _ (d.set i f)
def gNs(l:List Nat):TGs:=λa E H Q=>a.length=l.length/\Q ((l.zip a).foldl (λE p=>E.set p.1 (AA p.2)) E) H
theorem PGs.imp{es:List AZ}{t t':TGs}(h:PGs X es t')(k:∀v E H Q,t v E H Q->t' v E H Q):PGs X es t:=λF s E H a b Q I c q=>h F s E H a b Q I c (k a E H Q q)
def zfH:PGs X [] (gNs []):=zo4.imp λa E H Q #[h,q]=>by
 cases a with
 |nil=>exact#[rfl,q]
 |cons _ _=>cases h
def zcm{es:List AZ}{l:List Nat}{i:Nat}{x:AR}(b:X.N.Nodup)(c:X.N[i]?=AA x)(d:Loc X.env.scope x)(f:PGs X es (gNs l))(hf:X.fn x=AE \/ X.env.scope.names.lookup x=AA .local:=by first|exact .inl rfl|exact .inr rfl|assumption):PGs X (.Name x pos::es) (gNs (i::l)):=
 (ziu (zft b c d hf) f).imp λa E H Q #[h,q]=>by
  cases a with
  |nil=>cases h
  |cons v a=>exact#[v,a,rfl,by simpa using h,q]
theorem yC.sets{K:AF}{b:Nat->AJ}:∀(l:List Nat) {vs:List PV} {xs:List V} {ρ:IC.Env} {E:St},yC K b B C H ρ E->ye K b B C H vs xs ->
  yC K b B C H ((l.zip vs).foldl (λρ p=>ρ.set p.1 (AA p.2)) ρ) ((l.zip xs).foldl (λE p=>E.set p.1 (AA p.2)) E)
 |[],vs,xs,ρ,E,a,l=>by simpa using a
 |i::c,[],xs,ρ,E,a,l=>by erw[ye]at l;subst l;simpa using a
 |i::c,v::vs,xs,ρ,E,a,l=>by erw[ye]at l;let#[y,d,rfl,r,l]:=l;erw[FA,DE];exact yC.sets c (a.set i r) l
def zmW{es:List AZ}{l:List Nat}{k:Nat}(f:X.calm=AE)(h:PGs X es (gNs l))(g:(assignEach es X.env).length=l.length:=by rfl)(a:(assignEach es X.env).findIdx? (·.1)=none:=by rfl):PG X (.Tuple es k pos) (tG S X (.t l)):=
 (zm3 f h g a).imp λv E H Q #[B,C,st,ρ,w,o,p,j,b,e,q]=>by
  cases w with
  |tp r u=>
   erw[yr]at e;split at e
   .rename_i c
    cases e
    erw[yd]at b;let#[y,m,rfl,n,d]:=b;have x:=d.length;exact#[y,m,rfl,n.sq,by lia,by lia,q _ (yC.sets l j d)]
   .cases e
  |_=>cases e
def zju{es:List AZ}{l:List Nat}{k:Nat}(j:PE X a (tE S X ca))(m:PG X (.Tuple es k p2) (tG S X (.t l)))(n:swapsWithSole [.Tuple es k p2] a pos.line X.env=pure false:=by rfl)(o:swappedStores [.Tuple es k p2] a X.env=pure none:=by rfl):
  PS X (.Assign [.Tuple es k p2] a pos) (tS S X (.asg (.t l) ca)):=
 (zfT j m n o).imp λD E H #[B,C,st,ρ,p,q,h]=>by
  erw[ex]at h;refine tE.fl p q h λx H1 v d C1 s b f r c=>?_
  cases e:yr (.t l) v ρ with
  |none=>rw[e]at c;exact c.elim
  |some u=>
   rw[e]at c;exact#[B,C1,d,ρ,v,u,b,f,r,e,λw g=>c w H1 C1 .rfl b g]
theorem tI.fl{k:List PV->SO->Fl}{P:It->Hp->Prop}(rs:yj X.K S.cl B C H st)(c:yC X.K S.cl B C H ρ E)(h:yaD S X B C H ((evi S.call ρ st ci).fl ρ k) D)
  (n:∀x H1 v a C1,Step C H C1 H1->yj X.K S.cl B C1 H1 a->yC X.K S.cl B C1 H1 ρ E->Drw S X B C1 H1 v x->yaD S X B C1 H1 (k v a) D->P x H1):tI S X ci E H P:=by
 refine#[B,C,st,ρ,rs,c,?_]
 cases e:evi S.call ρ st ci with
 |ok v b=>
  rw[e]at h;exact λx f g s d j=>n x f v b g s d (c.step s) j (h.on s)
 |exc k b=>
  rw[e]at h;exact λe l x=>h E C H e l .rfl c x
 |bad=>rw[e]at h;exact h
def zmI(hp:F9 (model X.prog X.w) X.A X.env X.xe)(hc:X.calm=AE)(t:PI X tg l (tI S X ci))(hg:PG X tg (tG S X ct))(hb:PSs X ss (tSs S X cs))(hs:∀x,foldedSetIterable l X.env x=pure x:=by intro _;rfl):
  PS X (.For tg l ss [] pos) (tS S X (.for ct ci cs)):=
 (znk hp hc t hg hb hs).imp λD E H #[B,C,st,ρ,rs,re,h]=>by
  erw[ex]at h;refine tI.fl rs re h λJ H1 g N C1 s1 O Q U h1=>?_;refine#[λi m E H=>∃C st ρ,i+m=g.length/\Step C1 H1 C H/\yj X.K S.cl B C H st/\yC X.K S.cl B C H ρ E/\yaD S X B C H (forL ct (λc a=>exs S.call c a cs) (g.drop i) ρ st) D,
   #[g.length,C1,N,ρ,by lia,.rfl,O,Q,by simpa using h1],?_]
  rintro i m E2 w ⟨C2,a,c,hm,y,j,A,n⟩
  by_cases t:i<g.length
  .refine .inr #[U.go i C2 w y t,λY G=>∃C st ρ,Step C1 H1 C G/\yj X.K S.cl B C G st/\yC X.K S.cl B C G ρ Y/\yaD S X B C G (forL ct (λc a=>exs S.call c a cs) (g.drop (i+1)) ρ st) D,
    λY G #[C,st,ρ,s,q]=>#[m-1,by lia,C,st,ρ,by lia,s,q],λx Z hy=>?_]
   let#[v,hv,rv,kk]:=U.yld i C2 w a x Z B (λ_ z=>.inl z) y j t hy;have e:g.drop i=v::g.drop (i+1):=by rw[FN t];rw[Ac t]at hv;rw[Aa hv]
   have M:Step C2 w C2 Z:=#[λb o _ e=>kk b o e,AU _,λ_ _ _ e=>e,λ_ h=>.inl h];have I:yj X.K S.cl B C2 Z a:=j.same kk;rw[e,forL]at n
   cases eb:yr ct v c with
   |none=>rw[eb]at n;exact n.elim
   |some A3=>
    rw[eb]at n;refine#[B,C2,a,c,v,A3,I,A.step M,rv,eb,λY re'=>#[B,C2,a,A3,I,re',?_]];have d:=yaD.on M n;dsimp only at d
    cases u:exs S.call A3 a cs with
    |nx A4 f=>
     rw[u]at d;exact λE4 H4 C4 L p r=>#[C4,f,A4,y.trans (M.trans L),p,r,yaD.on L d]
    |ct A4 f=>
     rw[u]at d;exact λE4 H4 C4 L p r=>#[C4,f,A4,y.trans (M.trans L),p,r,yaD.on L d]
    |bk A4 f=>rw[u]at d;exact d
    |rt v4 f=>rw[u]at d;exact d
    |exc k A4 f=>rw[u]at d;exact d
    |bad=>rw[u]at d;exact d
  .have e:i=g.length:=by lia
   subst e;rw[Fe,forL]at n;exact .inl #[U.stop C2 w y,n E2 w C2 .rfl j A]
def zh4(A:F9 (model X.prog X.w) X.A X.env X.xe)(G:PT X c (tTs S X cc))(I:PSs X ss (tSs S X cs)):PS X (.While c ss [] pos) (tS S X (.while cc cs)):=
 (zhK A G I).imp λD E H #[B,C,st,ρ,J,L,h]=>by
  erw[ex]at h;refine#[λm E H=>∃C st ρ,yj X.K S.cl B C H st/\yC X.K S.cl B C H ρ E/\yaD S X B C H (yaG (λa b=>ev S.call a b cc) (λa b=>exs S.call a b cs) m ρ st) D,#[100000,C,st,ρ,J,L,h],?_]
  rintro m E2 O ⟨C2,b,a,w,x,t⟩
  cases m with
  |zero=>exact t.elim
  |succ m=>
   rw[yaG]at t;rw[flT _ λk n=>cond k (ya5 (exs S.call a n cs) λa b=>yaG (λa b=>ev S.call a b cc) (λa b=>exs S.call a b cs) m a b) (.nx a n)]at t;refine tTs.fl w x t λk M o C3 Q p r d=>?_
   cases k with
   |false=>exact d E2 M C3 .rfl p r
   |true=>
    refine#[λz u=>∃C st ρ,yj X.K S.cl B C u st/\yC X.K S.cl B C u ρ z/\yaD S X B C u (yaG (λa b=>ev S.call a b cc) (λa b=>exs S.call a b cs) m ρ st) D,
     λz u q=>#[m,by lia,q],B,C3,o,a,p,r,?_]
    erw[cond_true]at d
    cases l:exs S.call a o cs with
    |nx A4 f=>
     rw[l]at d;exact λE4 N C4 y g j=>#[C4,f,A4,g,j,yaD.on y d]
    |ct A4 f=>
     rw[l]at d;exact λE4 N C4 y g j=>#[C4,f,A4,g,j,yaD.on y d]
    |bk A4 f=>rw[l]at d;exact d
    |rt U f=>rw[l]at d;exact d
    |exc k A4 f=>rw[l]at d;exact d
    |bad=>rw[l]at d;exact d
end
end L2
namespace IC
open PySem
def RLe{A:Type}(r q:R A):Prop:=r=.bad \/ r=q
def FLe(f g:Fl):Prop:=f=.bad \/ f=g
abbrev Cl:=Nat->List PV->SO->R PV
theorem RLe.rfl{A:Type}{r:R A}:RLe r r:=.inr (GH _)
theorem FLe.rfl{f:Fl}:FLe f f:=.inr (GH _)
theorem RLe.bind{A B:Type}{r q:R A}{k l:A->SO->R B}(h:RLe r q)(b:∀a s,RLe (k a s) (l a s)):RLe (r.bind k) (q.bind l):=by
 rcases h with h|h
 .subst h;exact .inl (GH _)
 .subst h
  cases r with
  |ok a s=>exact b a s
  |exc c s=>exact .rfl
  |bad=>exact .rfl
theorem RLe.comp{r q:R (List PV)}(h:RLe r q):RLe (ybp r) (ybp q):=by
 rcases h with h|h
 .subst h;exact .inl (GH _)
 .subst h;exact .rfl
theorem RLe.emR{a b:R PV}(h:RLe a b):RLe (emR a) (emR b):=by
 rcases h with h|h
 .subst h;exact .inl (GH R.bad)
 .subst h;exact .rfl
theorem RLe.tupR{a b:R (List PV)}(h:RLe a b):RLe (tupR a) (tupR b):=by
 rcases h with h|h
 .subst h;exact .inl (GH R.bad)
 .subst h;exact .rfl
theorem RLe.dctR{a b:R (List (PV×PV))}(h:RLe a b):RLe (dctR a) (dctR b):=by
 rcases h with h|h
 .subst h;exact .inl (GH R.bad)
 .subst h;exact .rfl
def yaX(call:Cl)(t:Tg)(b:Css)(xs:List PV)(ρ:Env)(st:SO):Fl:=forL t (λa c=>exs call a c b) xs ρ st
def yaQ(call:Cl)(c:Ce)(b:Css)(n:Nat)(ρ:Env)(st:SO):Fl:=yaG (λa d=>ev call a d c) (λa d=>exs call a d b) n ρ st
def ybK(call:Cl)(A0:Env)(t:Tg)(c e:Ce)(x:PV)(st2:SO):R (Option PV):=match yr t x A0 with
 |none=>.bad
 |some d=>(ev call d st2 c).bind λb a=>onO (yas a b) λk=>cond k ((ev call d a e).bind λy f=>.ok (AA y) f) (.ok AD a)
def yM(call:Cl)(A0:Env)(t:Tg)(c e:Ce)(xs:List PV)(st:SO):R (List PV):=compL (ybK call A0 t c e) xs st
def yX(f:Fl)(k:Env->SO->Fl):Fl:=
 match f with
 |.nx a st=>k a st
 |f=>f
def nxO(o:Option Env)(st:SO):Fl:=
 match o with
 |some a=>.nx a st
 |none=>.bad
def stO(ρ:Env)(o:Option SO):Fl:=
 match o with
 |some st=>.nx ρ st
 |none=>.bad
section
variable {call:Cl}{ρ:Env}{st:SO}
theorem x_for{t:Tg}{c:Cit}{b:Css}:ex call ρ st (.for t c b)=(evi call ρ st c).fl ρ λd a=>yaX call t b d ρ a:=rfl
theorem x_while{c:Ce}{b:Css}:ex call ρ st (.while c b)=yaQ call c b 100000 ρ st:=rfl
theorem v_comp{sl:List (Option Nat)}{t:Tg}{b:Cit}{c e:Ce}:ev call ρ st (.comp sl t b c e)=(evi call ρ st b).bind λd a=>ybp (yM call (sl.map λo=>o.bind λj=>(ρ[j]?).join) t c e d a):=rfl
def zo{t:Tg}{b:Css}:yaX call t b [] ρ st=.nx ρ st:=rfl
def zm{t:Tg}{b:Css}{x:PV}{xs:List PV}{ρ1:Env}(h:yr t x ρ=AA ρ1):yaX call t b (x::xs) ρ st=ya5 (exs call ρ1 st b) λa c=>yaX call t b xs a c:=by rw[yaX,forL,h];rfl
def zb2{t:Tg}{b:Css}(P:Nat->Env->SO->Prop):∀(xs:List PV) (i:Nat) (ρ:Env) (st:SO),P i ρ st ->
  (∀(j:Nat) (x:PV) (ρ:Env) (st:SO),xs[j]?=AA x->P (i+j) ρ st->∃f a c,yr t x ρ=AA f/\exs call f st b=.nx a c/\P (i+j+1) a c) ->
  ∃g d,yaX call t b xs ρ st=.nx g d/\P (i+xs.length) g d
 |[],i,ρ,st,h,_=>#[ρ,st,zo,h]
 |x::xs,i,ρ,st,h,k=>by
  let#[f,a,c,l,m,n]:=k 0 x ρ st rfl h;let#[g,d,o,p]:=zb2 P xs (i+1) a c n λj y ρ st q r=>by have:=k (j+1) y ρ st (by simpa using q) (by rw[show i+(j+1)=i+1+j by lia];exact r);rw[show i+(j+1)+1=i+1+j+1 by lia]at this;exact this
  refine#[g,d,?_,by rw[AY,show i+(xs.length+1)=i+1+xs.length by lia];exact p];rw[zm l,m];exact o
def zc2{c:Ce}{b:Css}{n:Nat}{x:PV}{st1 st2:SO}{ρ2:Env}(h:ev call ρ st c=.ok x st1)(a:yas st1 x=AA AE)(d:exs call ρ st1 b=.nx ρ2 st2):yaQ call c b (n+1) ρ st=yaQ call c b n ρ2 st2:=by rw[yaQ,yaG,h];erw[R.fl,a,onF,cond_true,d,ya5];rfl
def zat{c:Ce}{b:Css}{n:Nat}{x:PV}{st1:SO}(h:ev call ρ st c=.ok x st1)(a:yas st1 x=AA AC):yaQ call c b (n+1) ρ st=.nx ρ st1:=by rw[yaQ,yaG,h];erw[R.fl,a,onF,cond_false]
def zB{A0:Env}{t:Tg}{c e:Ce}:yM call A0 t c e [] st=.ok [] st:=rfl
def zT{A0:Env}{t:Tg}{c e:Ce}{x:PV}{xs:List PV}:yM call A0 t c e (x::xs) st=(ybK call A0 t c e x st).bind λo a=>(yM call A0 t c e xs a).bind λd b=>.ok (ycQ o d) b:=rfl
def zac{A0:Env}{t:Tg}{c e:Ce}{f:PV->PV}:∀(xs:List PV),(∀x∈xs,ybK call A0 t c e x st=.ok (AA (f x)) st)->yM call A0 t c e xs st=.ok (xs.map f) st
 |[],_=>zB
 |x::xs,h=>by rw[zT,h x A2];erw[R.bind];rw[zac xs λy a=>h y (AS _ a)];rfl
theorem xs_nil:exs call ρ st .nil=.nx ρ st:=rfl
theorem xs_cons{s:Cs}{c:Css}:exs call ρ st (.cons s c)=yX (ex call ρ st s) λa b=>exs call a b c:=rfl
theorem x_asg{t:Tg}{e:Ce}:ex call ρ st (.asg t e)=(ev call ρ st e).fl ρ λv a=>nxO (yr t v ρ) a:=rfl
theorem x_expr{e:Ce}:ex call ρ st (.expr e)=(ev call ρ st e).fl ρ λ_ a=>.nx ρ a:=rfl
theorem x_ret{e:Ce}:ex call ρ st (.ret e)=(ev call ρ st e).fl ρ λv a=>.rt v a:=rfl
theorem x_ite{c:Ce}{a b:Css}:ex call ρ st (.ite c a b)=(ev call ρ st c).fl ρ λx d=>onF (yas d x) λk=>cond k (exs call ρ d a) (exs call ρ d b):=rfl
def ygG(i:Nat)(f:Fl):Fl:=
 match f with
 |.nx b a=>.nx (b.set i AD) a
 |.rt v a=>.rt v a
 |_=>.bad
def yff(c:List Nat)(i:Nat)(f:Fl)(k:Env->SO->Nat->Fl):Fl:=
 match f with
 |.exc d a b=>if c.contains d then ygG i (k a b d)else .bad
 |f=>f
theorem x_try{b h:Css}{f:List Nat}{i:Nat}:ex call ρ st (.try b f i h)=yff f i (exs call ρ st b) λa c d=>exs call (a.set i (AA (.exn d))) c h:=rfl
theorem x_six{o i e:Ce}:ex call ρ st (.six o i e)=(ev call ρ st e).fl ρ λv a=>(ev call ρ a o).fl ρ λx b=>(ev call ρ b i).fl ρ λy c=>stO ρ (ybz c x y v):=rfl
def ydN(ρ:Env)(i j:Nat)(v:PV)(st:SO):Fl:=match v with
 |.lst (x::a)=>if a.length<=1000 then .nx ((ρ.set i (AA x)).set j (AA (.lst a))) st else .bad
 |_=>.bad
def zmr{i j:Nat}{e:Ce}:ex call ρ st (.sta i j e)=(ev call ρ st e).fl ρ λv a=>ydN ρ i j v a:=rfl
theorem x_sfl{c:Nat}{o e:Ce}{f:AR}:ex call ρ st (.sfl c o f e)=(ev call ρ st e).fl ρ λv a=>(ev call ρ a o).fl ρ λx b=>stO ρ (ybD c b x f v):=rfl
theorem x_dput{o i e:Ce}:ex call ρ st (.dput o i e)=(ev call ρ st e).fl ρ λv a=>(ev call ρ a o).fl ρ λx b=>(ev call ρ b i).fl ρ λy c=>stO ρ (ya0 c x y v):=rfl
def znb{i:Nat}{o:BOp}{e:Ce}{x:PV}(h:ρ[i]?=AA (AA x)):ex call ρ st (.aug i o e)=(ev call ρ st e).fl ρ λy a=>nxO ((ybA o x y).map λz=>ρ.set i (AA z)) a:=by
 rw[IC.xrq4,h];show (ev call ρ st e).fl ρ _=_;refine congrArg _ (funext λy=>funext λa=>?_)
 cases ybA o x y<;>rfl
end
theorem vi1(call:Nat->List PV->SO->R PV)(ρ:Env)(st:SO)(a b:Ce):
  evi call ρ st (Cit.zipl a b)=R.bind (ev call ρ st a) λx c=>R.bind (ev call ρ c b) λy d=>toL (ybU x y) d:=rfl
end IC
namespace L2
open PySem PySem.Spec PyProof.Rows IC
section
variable (S:Se)(K:AF)
def yfz{D E:Type}(B:AJ->Prop)(A:Ph)(H:Hp)(Rel:Ph->Hp->D->E->Prop)(r:R D)(Q:E->Hp->Prop):Prop:=
 match r with
 |.ok v b=>∀x a c,Step A H c a->yj K S.cl B c a b->Rel c a v x->Q x a
 |_=>False
def tE0(c:Ce):TE:=λC H Q=>∃B A st a,yj K S.cl B A H st/\yC K S.cl B A H a C/\yfz S K B A H (λA H=>yd K S.cl B A H) (ev S.call a st c) Q
def tT0(c:Ce):TT:=λC H Q=>∃B A st a,yj K S.cl B A H st/\yC K S.cl B A H a C/\yfz S K B A H RB (ya2 (ev S.call a st c)) Q
def tG0(t:Tg):TG:=λv C H Q=>∃B A st a w b,yj K S.cl B A H st/\yC K S.cl B A H a C/\yd K S.cl B A H w v/\yr t w a=AA b/\∀c,yC K S.cl B A H b c->Q c H
end
section
variable {S:Se}{X:Cx}{K:AF}{cl:Nat->AJ}{A:St}{B:AJ->Prop}{C C1:Ph}{H H1:Hp}{st:SO}{ρ:IC.Env}{pos p p2 px:CK}{a b c o tg l elt iter:AZ}{ca cb cc ce:Ce}{ci:Cit}{ct:Tg}
def zjQ(c:X.K=K)(h:PE X a (tE S X ca)):PE X a (tE0 S K ca):=by
 subst c;refine h.imp λA H Q d=>?_;let#[B,C,st,ρ,f,g,q]:=d;refine #[B,C,st,ρ,f,g,?_]
 cases e:ev S.call ρ st ca with
 |ok v b=>rw[e]at q;exact q
 |exc k b=>rw[e]at q;exact q.elim
 |bad=>rw[e]at q;exact q
def zko(c:X.K=K)(h:PT X a (tTs S X ca)):PTs X [a] (tT0 S K ca):=by
 subst c;refine zjN (h.imp λA H Q d=>?_);let#[B,C,st,ρ,f,g,q]:=d;refine #[B,C,st,ρ,f,g,?_]
 cases e:ya2 (ev S.call ρ st ca)with
 |ok v b=>rw[e]at q;exact q
 |exc k b=>rw[e]at q;exact q.elim
 |bad=>rw[e]at q;exact q
def zhL:PTs X [] (tT0 S K (.cst (.bl AE))):=λE s A H Q I #[B,C,st,ρ,a,b,q]=>by refine zjs E s A H Q I ?_;erw[ev,ya2,R.bind,yas,onO]at q;exact q AE H C .rfl a rfl
def zkT(a:X.K=K)(h:PG X tg (tG S X ct)):PG X tg (tG0 S K ct):=by subst a;exact h
theorem ybE.skip{k:Bool}{D y:AJ}{u:HO}{xs:List V}(a:B D)(r:ybE K B C H k y xs):ybE K B C (L2.upd H D u) k y xs:=by
 rcases r with⟨r,b,n⟩|r
 .exact .inl #[by rw[zc (show y≠D from λz=>b (z ▸ a))];exact r,b,n]
 .exact .inr r
mutual
theorem yd.skip{D:AJ}{u:HO}(d:B D):∀(v:PV) (x:V),yd K cl B C H v x->yd K cl B C (L2.upd H D u) v x
 |.non,x,h=>by erw[yd]at h ⊢;exact h
 |.bl b,x,h=>by erw[yd]at h ⊢;exact h
 |.int i,x,h=>by erw[yd]at h ⊢;exact h
 |.str y,x,h=>by erw[yd]at h ⊢;exact h
 |.tp k f,x,h=>by erw[yd]at h ⊢;let#[y,a,e,r,l]:=h;exact#[y,a,e,r.skip d,ye.skip d f a l]
 |.lst f,x,h=>by erw[yd]at h ⊢;let#[y,a,e,#[r,b,n],l]:=h;exact#[y,a,e,#[by rw[zc (show y≠D from λz=>b (z ▸ d))];exact r,b,n],ye.skip d f a l]
 |.loc n,x,h=>by erw[yd]at h ⊢;exact h
 |.fnc j,x,h=>by erw[yd]at h ⊢;exact h
 |.exn c,x,h=>by erw[yd]at h ⊢;let#[y,e,r,b,n]:=h;exact#[y,e,by rw[zc (show y≠D from λz=>b (z ▸ d))];exact r,b,n]
 |.scr f,x,h=>by
  erw[yd]at h ⊢;let#[y,a,e,r,l]:=h;refine#[y,a,e,?_,ye.skip d f a l];rcases r with⟨r,b,n⟩|r
  .refine .inl #[?_,b,n];have g:y≠D:=λz=>b (z ▸ d);rcases r with r|⟨o,r⟩
   .exact .inl (by rw[zc g];exact r)
   .exact .inr #[o,by rw[zc g];exact r]
  .exact .inr r
theorem ye.skip{D:AJ}{u:HO}(a:B D):∀(v:List PV) (x:List V),ye K cl B C H v x->ye K cl B C (L2.upd H D u) v x
 |[],x,h=>by erw[ye]at h ⊢;exact h
 |v::c,x,h=>by erw[ye]at h ⊢;let#[y,b,e,r,l]:=h;exact#[y,b,e,yd.skip a v y r,ye.skip a c b l]
end
theorem DK.skip{D:AJ}{u:HO}(b:B D):∀{a:List (PV×PV)} {ks:List (Key×V)},DK K cl B C H a ks->DK K cl B C (L2.upd H D u) a ks
 |[],ks,h=>h
 |(k,v)::r,ks,h=>by let#[q,x,t,e,m,c,l]:=h;exact#[q,x,t,e,m,c.skip b,DK.skip b l]
theorem DT.skip{D:AJ}{u:HO}(b:B D):∀{a:List (PV×PV)} {ks:List (List NK×V)},DT K cl B C H a ks->DT K cl B C (L2.upd H D u) a ks
 |[],ks,h=>h
 |(k,v)::r,ks,h=>by let#[q,x,t,e,m,c,l]:=h;exact#[q,x,t,e,m,c.skip b,DT.skip b l]
theorem FS.skip{D:AJ}{u:HO}(b:B D):∀{a:List (AR×PV)} {ks:List (AR×V)},FS K cl B C H a ks->FS K cl B C (L2.upd H D u) a ks
 |[],ks,h=>h
 |(k,v)::r,ks,h=>by let#[x,t,e,c,l]:=h;exact#[x,t,e,c.skip b,FS.skip b l]
theorem yj.skip{D:AJ}{u:HO}(d:B D)(rs:yj K cl B C H st)(g:∀a,u ≠ .tup a:=by intro _ z;cases z):yj K cl B C (L2.upd H D u) st:=by
 refine#[rs.len,rs.inj,λn y e=>?_,rs.liv,rs.nb,λy h=>?_,λy h a e=>?_]
 .let#[o,q,r]:=rs.obj n y e;have f:y≠D:=λz=>rs.nb y (A9 e) (z ▸ d);refine#[o,q,?_]
  cases o with
  |lst x=>
   let#[a,b,l]:=r;exact#[a,by rw[zc f];exact b,l.skip d]
  |dct t j=>
   cases t with
   |false=>
    let#[a,b,l]:=r;exact#[a,by rw[zc f];exact b,l.skip d]
   |true=>
    let#[a,b,l]:=r;exact#[a,by rw[zc f];exact b,l.skip d]
  |ins c fs=>
   let#[m,#[p,b],l]:=r;exact#[m,#[p,by rw[zc f];exact b],l.skip d]
  |dead=>exact r.elim
 .by_cases z:y=D
  .subst z;exact#[u,zh]
  .let#[w,e]:=rs.dom y h;exact#[w,by rw[zc z];exact e]
 .by_cases z:y=D
  .subst z;rw[zh]at e;exact g a (Aa e)
  .rw[zc z]at e;exact rs.nt y h a e
theorem yC.skip{D:AJ}{u:HO}(b:B D)(a:yC K cl B C H ρ A):yC K cl B C (L2.upd H D u) ρ A:=#[a.len,λi v e=>by let#[x,h,q]:=a.get i v e;exact#[x,h,q.skip b]]
def Bx(B:AJ->Prop)(D:AJ):AJ->Prop:=λy=>B y \/ y=D
def zfy{D:AJ}(a:H D=AD):∀y,Bx B D y->B y \/ H y=none:=λy z=>z.elim .inl λq=>.inr (q ▸ a)
theorem yd.more{D:AJ}(a:H D=AD){v:PV}{x:V}(h:yd K cl B C H v x):yd K cl (Bx B D) C H v x:=h.moreB (zfy a)
theorem ye.more{D:AJ}(a:H D=AD){v:List PV}{x:List V}(h:ye K cl B C H v x):ye K cl (Bx B D) C H v x:=h.moreB (zfy a)
mutual
theorem yd.less{D:AJ}:∀(v:PV) (x:V),yd K cl (Bx B D) C H v x->yd K cl B C H v x
 |.non,x,h=>by erw[yd]at h ⊢;exact h
 |.bl b,x,h=>by erw[yd]at h ⊢;exact h
 |.int i,x,h=>by erw[yd]at h ⊢;exact h
 |.str y,x,h=>by erw[yd]at h ⊢;exact h
 |.tp k d,x,h=>by
  erw[yd]at h ⊢;let#[y,a,e,r,l]:=h;refine#[y,a,e,?_,ye.less d a l];rcases r with⟨r,b,n⟩|r
  .exact .inl #[r,λz=>b (.inl z),n]
  .exact .inr r
 |.lst d,x,h=>by erw[yd]at h ⊢;let#[y,a,e,#[r,b,n],l]:=h;exact#[y,a,e,#[r,λz=>b (.inl z),n],ye.less d a l]
 |.loc n,x,h=>by erw[yd]at h ⊢;exact h
 |.fnc j,x,h=>by erw[yd]at h ⊢;exact h
 |.exn c,x,h=>by erw[yd]at h ⊢;let#[y,e,r,b,n]:=h;exact#[y,e,r,λz=>b (.inl z),n]
 |.scr d,x,h=>by
  erw[yd]at h ⊢;let#[y,a,e,r,l]:=h;refine#[y,a,e,?_,ye.less d a l];rcases r with⟨r,b,n⟩|r
  .exact .inl #[r,λz=>b (.inl z),n]
  .exact .inr r
theorem ye.less{D:AJ}:∀(v:List PV) (x:List V),ye K cl (Bx B D) C H v x->ye K cl B C H v x
 |[],x,h=>by erw[ye]at h ⊢;exact h
 |v::b,x,h=>by erw[ye]at h ⊢;let#[y,a,e,r,l]:=h;exact#[y,a,e,yd.less v y r,ye.less b a l]
end
theorem DK.more{D:AJ}(b:H D=AD):∀{a:List (PV×PV)} {ks:List (Key×V)},DK K cl B C H a ks->DK K cl (Bx B D) C H a ks
 |[],ks,h=>h
 |(k,v)::r,ks,h=>by let#[q,x,t,e,m,c,l]:=h;exact#[q,x,t,e,m,c.more b,DK.more b l]
theorem DT.more{D:AJ}(b:H D=AD):∀{a:List (PV×PV)} {ks:List (List NK×V)},DT K cl B C H a ks->DT K cl (Bx B D) C H a ks
 |[],ks,h=>h
 |(k,v)::r,ks,h=>by let#[q,x,t,e,m,c,l]:=h;exact#[q,x,t,e,m,c.more b,DT.more b l]
theorem FS.more{D:AJ}(b:H D=AD):∀{a:List (AR×PV)} {ks:List (AR×V)},FS K cl B C H a ks->FS K cl (Bx B D) C H a ks
 |[],ks,h=>h
 |(k,v)::r,ks,h=>by let#[x,t,e,c,l]:=h;exact#[x,t,e,c.more b,FS.more b l]
theorem DK.less{D:AJ}:∀{a:List (PV×PV)} {ks:List (Key×V)},DK K cl (Bx B D) C H a ks->DK K cl B C H a ks
 |[],ks,h=>h
 |(k,v)::r,ks,h=>by let#[q,x,t,e,m,b,l]:=h;exact#[q,x,t,e,m,b.less,DK.less l]
theorem DT.less{D:AJ}:∀{a:List (PV×PV)} {ks:List (List NK×V)},DT K cl (Bx B D) C H a ks->DT K cl B C H a ks
 |[],ks,h=>h
 |(k,v)::r,ks,h=>by let#[q,x,t,e,m,b,l]:=h;exact#[q,x,t,e,m,b.less,DT.less l]
theorem FS.less{D:AJ}:∀{a:List (AR×PV)} {ks:List (AR×V)},FS K cl (Bx B D) C H a ks->FS K cl B C H a ks
 |[],ks,h=>h
 |(k,v)::r,ks,h=>by let#[x,t,e,b,l]:=h;exact#[x,t,e,b.less,FS.less l]
theorem yj.less{D:AJ}(rs:yj K cl (Bx B D) C H st):yj K cl B C H st:=by
 refine#[rs.len,rs.inj,λn y e=>?_,rs.liv,λy h z=>rs.nb y h (.inl z),λy h=>rs.dom y (.inl h),λy h=>rs.nt y (.inl h)];let#[o,q,r]:=rs.obj n y e;refine#[o,q,?_]
 cases o with
 |lst g=>let#[b,a,l]:=r;exact#[b,a,l.less]
 |dct t d=>cases t<;>(let#[b,a,l]:=r;exact#[b,a,l.less])
 |ins c fs=>let#[f,a,l]:=r;exact#[f,a,l.less]
 |dead=>exact r.elim
theorem yj.more{D:AJ}{u:HO}(b:H D=AD)(rs:yj K cl B C H st)(p:∀a,u ≠ .tup a:=by intro _ z;cases z):yj K cl (Bx B D) C (L2.upd H D u) st:=by
 have m:AA D∉C:=λz=>by let#[w,e]:=rs.there z;rw[b]at e;cases e
 have s:Step C H C (L2.upd H D u):=.upd b;have f:=rs.upd (o:=u) b;refine#[rs.len,rs.inj,λn y e=>?_,rs.liv,λy h z=>z.elim (rs.nb y h) λq=>m (q ▸ h),λy h=>?_,λy h a e=>?_]
 .let#[o,q,r]:=rs.obj n y e;have g:y≠D:=λz=>m (z ▸ A9 e);have j:Bx B D D:=.inr rfl;refine#[o,q,?_]
  cases o with
  |lst G=>let#[a,d,l]:=r;exact#[a,by rw[zc g];exact d,(l.more b).skip j]
  |dct t x=>
   cases t with
   |false=>let#[a,d,l]:=r;exact#[a,by rw[zc g];exact d,(l.more b).skip j]
   |true=>let#[a,d,l]:=r;exact#[a,by rw[zc g];exact d,(l.more b).skip j]
  |ins c fs=>let#[A,#[E,d],l]:=r;exact#[A,#[E,by rw[zc g];exact d],(l.more b).skip j]
  |dead=>exact r.elim
 .rcases h with h|h
  .exact f.dom y h
  .subst h;exact#[u,zh]
 .rcases h with h|h
  .exact f.nt y h a e
  .subst h;rw[zh]at e;exact p a (Aa e)
theorem yC.more{D:AJ}{u:HO}(b:H D=AD)(a:yC K cl B C H ρ A):yC K cl (Bx B D) C (L2.upd H D u) ρ A:=#[a.len,λi v e=>by let#[x,h,q]:=a.get i v e;exact#[x,h,(q.more b).skip (.inr rfl)]]
def yZ:Tg->List (Option Nat)->Bool
 |.n i,a=>decide (a[i]?=AA AD)
 |.t l,a=>l.all λi=>decide (a[i]?=AA AD)
def zeC:∀(l:List Nat) (vs:List PV) (ρ:IC.Env) (j:Nat),j∉l->((l.zip vs).foldl (λρ p=>ρ.set p.1 (AA p.2)) ρ)[j]?=ρ[j]?
 |[],vs,ρ,j,h=>by simp
 |i::a,[],ρ,j,h=>by simp
 |i::a,v::vs,ρ,j,h=>by
  erw[FA,DE];rw[zeC a vs _ j λz=>h (AS _ z),AW]
  rintro rfl
  exact h A2
def zer:∀(l:List Nat) (vs:List PV) (ρ:IC.Env),((l.zip vs).foldl (λρ p=>ρ.set p.1 (AA p.2)) ρ).length=ρ.length
 |[],vs,ρ=>by simp
 |i::a,[],ρ=>by simp
 |i::a,v::vs,ρ=>by erw[FA,DE];rw[zer a vs,BD]
theorem yC.untgt{sl:List (Option Nat)}{A0 ρ1:IC.Env}{v:PV}(hf:yZ ct sl=AE)(c:∀(i:Nat),sl[i]?=AA AD->A0[i]?=AA AD)(a:yr ct v A0=AA ρ1)(b:yC K cl B C H ρ1 A):yC K cl B C H A0 A:=by
 cases ct with
 |n i=>
  cases a
  erw[yZ,decide_eq_true_eq]at hf;refine#[by rw[<-b.len,BD],λj w e=>b.get j w ?_];rw[AW]
  .exact e
  .rintro rfl
   rw[c _ hf]at e;cases e
 |t l=>
  cases v with
  |tp k d=>
   erw[yr]at a;split at a
   .cases a
    erw[yZ,Ar,decide_eq_true_eq]at hf;refine#[by rw[<-b.len,zer],λj w e=>b.get j w ?_];rw[zeC]
    .exact e
    .intro z;rw[c _ (hf j z)]at e;cases e
   .cases a
  |_=>cases a
theorem yC.inn{sl:List (Option Nat)}(b:yC K cl B C H ρ A):yC K cl B C H (sl.map λo=>o.bind λj=>(ρ[j]?).join) (L2.inn sl A):=by
 unfold L2.inn;refine#[by simp,λi v e=>?_];rw[BG]at e ⊢
 cases q:sl[i]? with
 |none=>rw[q]at e;cases e
 |some o=>
  rw[q]at e
  cases o with
  |none=>cases e
  |some j=>
   erw[Bu,BI,Option.some.injEq]at e ⊢
   cases a:ρ[j]? with
   |none=>rw[a]at e;cases e
   |some w=>
    rw[a]at e;erw[Ff]at e;subst e;let#[x,c,d]:=b.get j v a;exact#[x,by rw[c];rfl,d]
def zpf:1000000<sizeLine:=by rw[Ap];decide
def zny{F:Type}{o:Option Bool}{k:Bool->R F}{z:F}{s:SO}(h:onO o k=.ok z s):∃b,o=AA b/\k b=.ok z s:=by
 cases o with
 |none=>cases h
 |some b=>exact#[b,rfl,h]
def zH{F G:Type}{r:R F}{k:F->SO->R G}{z:G}{s:SO}(h:r.bind k=.ok z s):∃a b,r=.ok a b/\k a b=.ok z s:=by
 cases r with
 |ok a b=>exact#[a,b,rfl,h]
 |exc c s=>cases h
 |bad=>cases h
def zik{Rel:Ph->Hp->PV->V->Prop}{r:R (List PV)}{Q:VK}(h:Run S X A B C H Rel (ybp r) Q):∃b a,r=.ok b a/\b.length<=1000000/\∀x c d,Step C H d c->yj X.K S.cl B d c a->Rel d c (.lst b) x->Q x c:=by
 cases r with
 |ok b a=>
  by_cases f:b.length<=1000000
  .simp only[ybp,if_pos f]at h;exact#[b,a,rfl,f,h]
  .simp only[ybp,if_neg f]at h;exact h.elim
 |exc k s=>exact h.elim
 |bad=>exact h.elim
def zfd{call:Nat->List PV->SO->R PV}{A0:IC.Env}{xs rest:List PV}{i:Nat}{v:PV}{st2 f:SO}(n:xs[i]?=AA v)(j:yM call A0 ct cc ce (xs.drop i) st2=.ok rest f):
  ∃c k d,yr ct v A0=AA c/\ya2 (ev call c st2 cc)=.ok k d/\((k=AC/\yM call A0 ct cc ce (xs.drop (i+1)) d=.ok rest f) \/
   (k=AE/\∃y g a,ev call c d ce=.ok y g/\yM call A0 ct cc ce (xs.drop (i+1)) g=.ok a f/\rest=y::a)):=by
 let#[p,e]:=Ao.1 n;rw[FN p,e,zT]at j;let#[o,q,b,j]:=zH j;let#[a,r,l,j]:=zH j;injection j with t u;subst t u;unfold ybK at b
 cases m:yr ct v A0 with
 |none=>rw[m]at b;cases b
 |some c=>
  rw[m]at b;let#[A,d,w,b]:=zH b;let#[k,x,b]:=zny b;refine#[c,k,d,rfl,by rw[w];erw[ya2,R.bind,x,onO],?_]
  cases k with
  |false=>cases b;exact .inl #[rfl,l]
  |true=>
   let#[y,g,z,b]:=zH b
   cases b
   exact .inr #[rfl,y,_,a,z,l,rfl]
def ycu(S:Se)(K:AF)(B:AJ->Prop)(D:AJ)(C1:Ph)(H1:Hp)(A0:IC.Env)(g:List PV->SO->R (List PV))(j:List PV)(d:SO)(xs:List PV)(Ac:St)(ys:List V)(b:Hp):Prop:=
 ∃C2 c f a,Step C1 H1 C2 b/\b D=AA (.lst ys)/\AA D∉C2/\yj K S.cl (Bx B D) C2 b c/\yC K S.cl (Bx B D) C2 b A0 Ac/\ye K S.cl (Bx B D) C2 b f ys/\g xs c=.ok a d/\f++a=j
theorem stays{D:AJ}{C5:Ph}{a:Hp}{u:HO}(s:Step C H C5 a)(n:AA D∉C)(e:H D=AA u):AA D∉C5/\a D=AA u:=by
 refine#[λz=>?_,s.keep D _ n e];rcases s.new D z with q|q
 .exact n q
 .rw[e]at q;cases q
theorem ycu.skip{D:AJ}{g:List PV->SO->R (List PV)}{j:List PV}{b:SO}{xs:List PV}{C2 C5:Ph}{c f:Hp}{A0 ρ1:IC.Env}{A4:St}{a:SO}{vs rest:List PV}{ys:List V}{v:PV}(o:Step C1 H1 C2 c)(d:Step C2 c C5 f)(m:AA D∉C2)(n:c D=AA (.lst ys))
  (rs:yj K S.cl (Bx B D) C5 f a) (hf:yZ ct (sl:List (Option Nat))=AE) (p:∀(i:Nat),sl[i]?=AA AD->A0[i]?=AA AD) (q:yr ct v A0=AA ρ1) (r:yC K S.cl (Bx B D) C2 c ρ1 A4) (l:ye K S.cl (Bx B D) C2 c vs ys) (t:g xs a=.ok rest b) (u:vs++rest=j):
  ycu S K B D C1 H1 A0 g j b xs A4 ys f:=#[C5,a,vs,rest,o.trans d,(stays d m n).2,(stays d m n).1,rs,yC.untgt hf p q (r.step d),l.step d,t,u]
theorem ycu.put{D:AJ}{r:List PV->SO->R (List PV)}{t:List PV}{f:SO}{xs:List PV}{C2 C5:Ph}{g j:Hp}{A0 ρ1:IC.Env}{A4:St}{c:SO}{vs rest:List PV}{ys:List V}{v y:PV}{m:V}(u:H1 D=AD)(w:Step C1 H1 C2 g)(p:Step C2 g C5 j)(x:AA D∉C2)(z:g D=AA (.lst ys))
  (rs:yj K S.cl (Bx B D) C5 j c) (A:yd K S.cl (Bx B D) C5 j y m) (hf:yZ ct (sl:List (Option Nat))=AE) (C:∀(i:Nat),sl[i]?=AA AD->A0[i]?=AA AD) (E:yr ct v A0=AA ρ1) (G:yC K S.cl (Bx B D) C2 g ρ1 A4) (l:ye K S.cl (Bx B D) C2 g vs ys) (H:r xs c=.ok rest f) (I:vs++y::rest=t):
  j D=AA (.lst ys)/\ycu S K B D C1 H1 A0 r t f xs A4 (ys++[m]) (L2.upd j D (.lst (ys++[m]))):=by
 let#[J,L]:=stays p x z;have d:Bx B D D:=.inr rfl;have a:=w.trans p;exact#[L,C5,c,vs++[y],rest,#[λb o n q=>by rw[zc (zd q u)];exact a.keep b o n q,a.len,a.pre,a.new],zh,J,rs.skip d,(yC.untgt hf C E (G.step p)).skip d,
  ((l.step p).append (by erw[ye];exact#[m,[],rfl,A,rfl])).skip d,H,by rw[FU];exact I]
def zga{sl:List (Option Nat)}(i:Nat)(q:sl[i]?=AA AD):(sl.map λo=>o.bind λj=>(ρ[j]?).join)[i]?=AA none:=by rw[BG,q];rfl
def ze5{sl:List (Option Nat)}(hf:yZ ct sl=AE){J:It}{xs E:List PV}{st1 a:SO}{Q:VK}(g:yj X.K S.cl B C H st1)(Y:yC X.K S.cl B C H ρ A)(Z:RD S X B C H xs J){D:AJ}(l:H D=AD)
  (e:yM S.call (sl.map λo=>o.bind λj=>(ρ[j]?).join) ct cc ce xs st1=.ok E a) (hz:E.length<=1000000) (h1:∀x n C',Step C H C' n->yj X.K S.cl B C' n a->RV S X B C' n (.lst E) x->Q x n):
  ∃W:Nat->Nat->St->List V->Hp->Prop,(∃m,W 0 m (inn sl A) [] (L2.upd H D (.lst [])))/\ycc J D (tG0 S X.K ct) (tT0 S X.K cc) (tE0 S X.K ce) W (Q (.ref D)):=by
 have nB:¬B D:=g.nB l;have nD:AA D∉C:=λz=>by let#[w,e]:=g.there z;rw[l]at e;cases e
 have r0:yC X.K S.cl (Bx B D) C (L2.upd H D (.lst [])) (sl.map λo=>o.bind λj=>(ρ[j]?).join) (inn sl A):=(yC.inn Y).more l;have h0:=zga (ρ:=ρ) (sl:=sl);generalize (sl.map λo=>o.bind λj=>(ρ[j]?).join)=A0 at *;refine#[λi m Ac ys p=>i+m=xs.length/\ycu S X.K B D C H A0 (yM S.call A0 ct cc ce) E a (xs.drop i) Ac ys p,
  #[xs.length,by lia,C,st1,[],E,.upd l,zh,nD,g.more l,r0,by erw[ye],by simpa using e,rfl],?_]
 rintro i m Ac ys p ⟨hm,C2,r,vs,rest,G,c,t,d,re2,O,ec,U⟩
 refine#[c,?_]
 by_cases hi:i<xs.length
 .have hzl:=congrArg Co U;rw[Bg,O.length]at hzl;refine .inr #[Z.go i C2 p G hi,Nat.lt_of_le_of_lt () zpf,λA' I n=>ycu S X.K B D C H A0 (yM S.call A0 ct cc ce) E a (xs.drop (i+1)) A' I n,λA' I n q=>#[m-1,by lia,by lia,q],λx H3 hy=>?_];let#[v,hv,rv,L]:=Z.yld i C2 p r x H3 (Bx B D) (λy z=>z.elim .inl λq=>.inr (q ▸ l)) G d hi hy;have M:Step C2 p C2 H3:=#[λb o _ e=>L b o e,AU _,λ_ _ _ e=>e,λ_ h=>.inl h];let#[u,k,st6,eb,et,q]:=zfd hv ec;refine#[Bx B D,C2,r,_,v,u,d.same L,re2.step M,rv,eb,λA4 f=>#[Bx B D,C2,r,u,d.same L,f,?_]];rw[et]
  rintro k' H5 C5 s5 N rfl
  rcases q with⟨rfl,e2⟩|⟨rfl,y,st7,rest',e5,e2,rfl⟩
  .exact ycu.skip (G.trans M) s5 t (L D _ c) N hf h0 eb f (O.step M) e2 U
  .refine#[Bx B D,C5,st6,u,N,f.step s5,?_];rw[e5];intro y' H6 C6 s6 rs6 ry;exact ycu.put l (G.trans M) (s5.trans s6) t (L D _ c) rs6 ry hf h0 eb f (O.step M) e2 U
 .have ei:i=xs.length:=by lia
  subst ei;rw[Fe]at ec
  cases ec
  refine .inl #[Z.stop C2 p G,h1 (.ref D) p C2 G d.less ?_];erw[yd];exact#[D,ys,rfl,#[c,nB,t],by rw[<-U,B5];exact O.less]
def zcw{sl:List (Option Nat)}(hf:yZ ct sl=AE){H:Hp}{Q:VK}(h:tE S X (.comp sl ct ci cc ce) A H Q):ycz sl (tI S X ci) (tG0 S X.K ct) (tT0 S X.K cc) (tE0 S X.K ce) A H Q:=by let#[B,C,st,ρ,d,c,h]:=h;rw[v_comp]at h;refine#[B,C,st,ρ,d,c,(Run.bind h).mono λJ H1 f=>?_];let#[p,g,C1,j,a,l,b]:=f;refine λD m=>?_;let#[q,n,e,o,b]:=zik b;exact ze5 hf a (c.step j) l m e o b
def zkA{sc:B4}{b:List AR}{sl:List (Option Nat)}{a:List AZ}(c:X.calm=AE)(O:yaa X sc b sl)(hf:yZ ct sl=AE)(d:PI X tg iter (tI S X ci))(f:∀j,PG (cxC X sc b j) tg (tG0 S X.K ct))
  (g:∀j,PTs (cxC X sc b j) a (tT0 S X.K cc)) (l:∀j,PE (cxC X sc b j) elt (tE0 S X.K ce)) (m:∀x,foldedSetIterable iter X.env x=pure x:=by intro _;rfl):
  PE X (.ListComp elt [#[tg,iter,a,0]] sc pos) (tE S X (.comp sl ct ci cc ce)):=
 (zjy c O d f g l m).imp λA H Q h=>zcw hf h
def zkN{sc:B4}{c:List AR}{sl:List (Option Nat)}{b:List AZ}{i:Nat}{x:AR}{a:CK}(o:X.N.Nodup)(d:X.N[i]?=AA x)(p:Loc X.env.scope x)(q:X.calm=AE)(O:yaa X sc c sl)(hf:yZ ct sl=AE)(r:PI X tg iter (tI S X ci))(t:∀j,PG (cxC X sc c j) tg (tG0 S X.K ct))
  (u:∀j,PTs (cxC X sc c j) b (tT0 S X.K cc)) (w:∀j,PE (cxC X sc c j) elt (tE0 S X.K ce))
  (f:swapsWith (.ListComp elt [#[tg,iter,b,0]] sc pos) (AA (.Name x px)) a.line X.env=pure true:=by rfl) (y:∀x,foldedSetIterable iter X.env x=pure x:=by intro _;rfl)
  (g:X.fn x=AE \/ X.env.scope.names.lookup x=AA .local:=by first|exact .inl rfl|exact .inr rfl|assumption):PS X (.Assign [.Name x px] (.ListComp elt [#[tg,iter,b,0]] sc pos) a) (tS S X (.asg (.n i) (.comp sl ct ci cc ce))):=
 (zkO o d p q O r t u w f y g).imp λD A H #[B,C,st,ρ,z,E,h]=>by refine zcw hf ?_;erw[ex]at h;exact tE.fl z E h λx H1 v G C1 s l m I J=>J _ H1 C1 .rfl l (m.set i I)
end
def spI(K:AF)(g:Nat->AJ)(call:Nat->List PV->SO->R PV)(f:Nat):Sp:=λl H Q E=>∃B A st a,yj K g B A H st/\ye K g B A H a l/\match call f a st with
 |.ok v d=>∀x b j,Step A H j b->yj K g B j b d->yd K g B j b v x->Q x b
 |.exc c d=>∀b j,Step A H j b->yj K g B j b d->E (.ref (g c)) AD b
 |.bad=>False
section
variable {S:Se}{X:Cx}{k:Nat}{f:AJ}{fd:BF}{ps ks:List AR}{sp:Sp}{dvs:List V}{ds:List AG}{x:AR}{p pos:CK}{e:AZ}{es:List AZ}{t tk:TA}{CX:CXT}{D:St}{H:Hp}
def zb1{G:List (AJ×Bw)}{s:AH}{Q:VK}{us:List AG}{vs:List V}{E:XK}(F:yaK X.prog X.w X.K X.mg X.base CX k f fd ps sp)(d:yaA k X.A)(g:Binds X.K fd ps ds)(j:Vals dvs ds)
  (I:Inv X G D H s) (r:Vals vs us) (h:sp (vs++dvs) H Q E) (l:∀e b,CX X.stack H s E e b->X.xe e b):A1 (model X.prog X.w) X.A (call (.ref f) us) (EP X G D Q) X.xe s:=by
 have c:Vals (vs++dvs) (us++ds):=r.append j;have m:(us++ds).length=ps.length:=by rw[<-c.length];exact F.len _ _ _ _ h
 refine IZ (Eb (F.run X.A X.stack s H #[us,[]] (us++ds) (vs++dvs) Q E d I.env0 (g s us I.kIn m) c h) λr b a=>?_)
 cases r with
 |error e=>exact l e b a
 |ok fl=>
  cases fl with
  |ret u=>exact I.after a
  |next=>exact Bn a
  |brk=>exact Bn a
  |cont=>exact Bn a
def ycp(CX:CXT)(X:Cx)(sp:Sp)(dvs:List V)(t:TA):TE:=λD H Q=>t D H λc a=>∃E:XK,sp (c++dvs) a Q E/\∀G s e b,Inv X G D a s->CX X.stack a s E e b->X.xe e b
def zhG(F:yaK X.prog X.w X.K X.mg X.base CX k f fd ps sp)(g:yaA k X.A)(j:Gl X x)(l:X.mg x=AA (.ref f))(m:Ax X.K (.ref f)=AE)(n:Binds X.K fd ps ds)(o:Vals dvs ds)
  (u:PA X (e::es) t) (a:(x==("__debug__":AR))=false:=by decide) (w:starEach (e::es) X.env=(AC,eval e X.env)::starEach es X.env:=by rfl) (b:(backTo pos (starEach es X.env)).any (·.1)=false:=by rfl):
  PE X (.Call (.Name x p) (e::es) [] pos) (ycp CX X sp dvs t):=by intro G s D H Q I h;refine Bf (zar I j l ?_ a);refine Eo (h₀:=X.base) I.ok.mod.kin m (thn (u pos G s D H _ I h) λC y z=>?_) w b;let#[J,L,d,r,E,q,A]:=z;refine #[d.kIn,?_];exact zb1 F g n o d r q λe B c=>A G y e B d c
def zf2(F:yaK X.prog X.w X.K X.mg X.base CX k f fd ps sp)(b:yaA k X.A)(d:Gl X x)(g:X.mg x=AA (.ref f))(j:Ax X.K (.ref f)=AE)(l:Binds X.K fd ps ds)(m:Vals dvs ds)
  (a:(x==("__debug__":AR))=false:=by decide):PE X (.Call (.Name x p) [] [] pos) (ycp CX X sp dvs ycR):=by intro G s D H Q I h;let#[E,q,n]:=h;refine Bf (zar I d g ?_ a);exact E9 I.kIn j (zb1 F b l m I .nil q λe o c=>n G s e o I c)
variable {B:AJ->Prop}{C:Ph}{st:SO}{ces:Ces}{fi:Nat}
def zaA{vs:List PV}{xs:List V}{Q:VK}(rs:yj X.K S.cl B C H st)(l:ye X.K S.cl B C H vs xs)(h:Run S X D B C H (RV S X B) (S.call fi vs st) Q):
  ∃E:XK,spI X.K S.cl S.call fi xs H Q E/\∀G s e a,Inv X G D H s->CX1 X.prog X.w X.stack H s E e a->X.xe e a:=by
 cases c:S.call fi vs st with
 |ok v b=>
  rw[c]at h;refine#[λ_ _ _=>False,#[B,C,st,vs,rs,l,by rw[c];exact h],λG s e a _ z=>?_];let#[_,_,_,_,_,_,_,_,_,_,_,_,_,_,z]:=z;exact z.elim
 |exc k b=>
  rw[c]at h;refine#[λf _ g=>f=.ref (S.cl k)/\∃d,Step C H d g/\yj X.K S.cl B d g b,#[B,C,st,vs,rs,l,by rw[c];exact λg d s r=>#[rfl,d,s,r]],λG s e a I z=>h e a (.inl #[G,H,s,C,I,.rfl,z])]
 |bad=>rw[c]at h;exact h.elim
def zj6(F:yaK X.prog X.w X.K X.mg X.base (CX1 X.prog X.w) k f fd ps (spI X.K S.cl S.call fi))(d:yaA k X.A)(g:Gl X x)(j:X.mg x=AA (.ref f))(l:Ax X.K (.ref f)=AE)(m:Binds X.K fd ps [])
  (n:PA X (e::es) (tAs S X ces)) (a:(x==("__debug__":AR))=false:=by decide) (o:starEach (e::es) X.env=(AC,eval e X.env)::starEach es X.env:=by rfl) (b:(backTo pos (starEach es X.env)).any (·.1)=false:=by rfl):
  PE X (.Call (.Name x p) (e::es) [] pos) (tE S X (.call fi ces)):=
 (zhG F d g j l m .nil n a o b).imp λD H Q #[B,C,st,z,q,r,h]=>by erw[ev]at h;refine tAs.bind q r h λA E G t C1 I c u w y=>?_;rw[B5];exact zaA c w y
def zir(F:yaK X.prog X.w X.K X.mg X.base (CX1 X.prog X.w) k f fd ps (spI X.K S.cl S.call fi))(b:yaA k X.A)(c:Gl X x)(d:X.mg x=AA (.ref f))(g:Ax X.K (.ref f)=AE)(j:Binds X.K fd ps [])
  (a:(x==("__debug__":AR))=false:=by decide):PE X (.Call (.Name x p) [] [] pos) (tE S X (.call fi .nil)):=
 (zf2 F b c d g j .nil a).imp λD H Q #[B,C,st,m,l,n,h]=>by erw[ev,IC.vsq0,IC.vsq1,R.bind]at h;exact zaA l (by erw[ye];rfl) h
end
section
variable {P:A6}{w:Ah}{K:AF}{mg:AR->Option AG}{base:Au}{cl:Nat->AJ}{T:Nat->Option IC.Fn}{fi:Nat}{fn:IC.Fn}{x qual:AR}{stm:CL}{f:AJ}{fd:BF}{N ps:List AR}{k:Nat}
theorem CX1.mono{outer:List BZ}{H:Hp}{s:AH}{E f:XK}{e:AG}{s':AH}(h:CX1 P w outer H s E e s')(n:∀b c,E b AD c->f b AD c):CX1 P w outer H s f e s':=by let#[a,b,g,c,j,l,m,o,p,q,r,t,u,r9,d]:=h;exact#[a,b,g,c,j,l,m,o,p,q,r,t,u,r9,n _ _ d]
theorem yC.start{B:AJ->Prop}{C:Ph}{H:Hp}{args:List PV}{vs:List V}(l:ye K cl B C H args vs)(n:Nat)(a:N.length-vs.length=n):yC K cl B C H (args.map AA++AT n AD) (L2.start N vs):=by
 have b:=l.length;unfold L2.start;refine#[by simp[b,a],λi v e=>?_]
 by_cases c:i<args.length
 .rw[A7 (by simpa using c),BG]at e
  cases q:args[i]? with
  |none=>rw[q]at e;cases e
  |some g=>
   rw[q]at e
   cases e
   let#[y,d,f]:=l.get i q;exact#[y,by rw[A7 (by simp;lia),BG,d];rfl,f]
 .rw[Ay (by simp;lia),Fb]at e;split at e<;>cases e
theorem leave{N:List AR}{a:B4}{x:AG}{A:Ai}{outer:List BZ}{b:AH}{d:Hp}{E:XK}{call:Nat->List PV->SO->R PV}{D:St}{B:AJ->Prop}{C:Ph}{H:Hp}{c:Nat}{l:SO}{e:AG}{s':AH}
  (h:ExcAt #[cl,call,AE] (yaU (CX1 P w) P w K mg base N qual a f x A outer b d E) D B C H c l e s') (n:∀j g,Step C H j g->yj K cl B j g l->E (.ref (cl c)) AD g):
  (yaU (CX1 P w) P w K mg base N qual a f x A outer b d E).xe e s':=by
 rcases h with⟨F,m,s,C1,I,o,q⟩|⟨_,F,m,s,C1,G,J,L,I,o,y,z,rfl,rfl⟩|⟨_,F,m,s,I,q⟩
 .exact zpa F D m s e s' I (q.mono λp g #[t,j,u,r]=>by subst t;exact n j g (o.trans u) r)
 .exact zgi I z (n C1 m o y)
 .exact zpd I (q.mono λp g #[t,j,u,r]=>by subst t;exact n j g u r)
def zhd(b:T fi=AA fn):∀(args:List PV) (st:SO),yc T (k+1) fi args st ≠ .bad->args.length=fn.np:=λargs st a=>by apply Classical.byContradiction;intro c;apply a;rw[yc,b];exact if_neg c
def zi6(c:T fi=AA fn)(b:ps.length=fn.np){vs:List V}{H:Hp}{Q:VK}{E:XK}(h:spI K cl (yc T (k+1)) fi vs H Q E):vs.length=ps.length:=by let#[B,C,st,a,d,l,h]:=h;rw[b,<-l.length];refine zhd (k:=k) c a st λz=>?_;rw[z]at h;exact h
def zjO(hT:T fi=AA fn)(hns:N.length=fn.ns){u:B4}{cdv:AG}{A:Ai}{outer:List BZ}{s:AH}{vs:List V}{H:Hp}{Q:VK}{E:XK}(h:spI K cl (yc T (k+1)) fi vs H Q E):
  tSs #[cl,yc T k,AE] (yaU (CX1 P w) P w K mg base N qual u f cdv A outer s H E) fn.body {nx:=λ_ j=>Q .non j,rt:=Q} (L2.start N vs) H:=by
 let#[B,C,st,d,x,l,h]:=h;have hl:d.length=fn.np:=zhd (k:=k) hT d st λz=>by rw[z]at h;exact h
 have hlen:=l.length;rw[yc,hT]at h;dsimp only at h;rw[if_pos hl]at h
 by_cases hp:fn.pure=AE
 .rw[if_pos hp]at h
  by_cases J:nLs d=AE
  .rw[if_pos J]at h;have L:yj K cl (λa=>B a \/ AA a∈C) [] H []:=#[rfl,λm n a e=>by simp at e,λn a e=>by simp at e,λn o e=>by simp at e,λa z=>by simp at z,λa z=>z.elim (x.dom a) x.there,λa z xs e=>z.elim (λb=>x.nt a b xs e) λq=>x.untup q e];have back:∀{t:Ph} {j:Hp},Step [] H t j->Step C H C j/\yj K cl B C j st:=λ{t j} p=>
    have kk:∀b o,H b=AA o->j b=AA o:=λb o e=>p.keep b o (by simp) e
    #[#[λb o _ e=>kk b o e,AU _,λ_ _ _ e=>e,λ_ h=>.inl h],x.same kk]
   refine#[_,[],[],_,L,yC.start (ye.inn x.nb d vs J l) (fn.ns-fn.np) (),?_];show yaD _ _ _ _ _ (exs (yc T k) (d.map AA++AT (fn.ns-fn.np) AD) [] fn.body) _
   cases e:exs (yc T k) (d.map AA++AT (fn.ns-fn.np) AD) [] fn.body with
   |nx D g=>
    rw[e]at h;intro M j t p r O;let#[G,I]:=back p;exact h .non j C G I (by erw[yd])
   |rt v g=>
    rw[e]at h;dsimp only at h
    by_cases U:nL v=AE
    .rw[if_pos U]at h;intro y j t p r X;let#[G,I]:=back p;exact h y j C G I (yd.out v y U X)
    .rw[if_neg U]at h;exact h.elim
   |exc c D g=>
    rw[e]at h;intro M C1 H1 ev p Y _ ex;refine leave ex λC2 Z G _=>?_;let#[s3,r3]:=back (Y.trans G);exact h Z C s3 r3
   |bk D g=>rw[e]at h;exact h.elim
   |ct D g=>rw[e]at h;exact h.elim
   |bad=>rw[e]at h;exact h.elim
  .rw[if_neg J]at h;exact h.elim
 .rw[if_neg hp]at h;refine#[B,C,st,_,x,yC.start l (fn.ns-fn.np) (),?_];show yaD _ _ _ _ _ (exs (yc T k) (d.map AA++AT (fn.ns-fn.np) AD) st fn.body) _
  cases e:exs (yc T k) (d.map AA++AT (fn.ns-fn.np) AD) st fn.body with
  |nx D g=>
   rw[e]at h;intro M j t p r O;exact h .non j t p r (by erw[yd])
  |rt v g=>
   rw[e]at h;intro y j t p r X;exact h y j t p r X
  |exc c D g=>
   rw[e]at h;intro M C1 H1 ev p Y _ ex;exact leave ex λC2 Z G I=>h Z C2 (Y.trans G) I
  |bk D g=>rw[e]at h;exact h.elim
  |ct D g=>rw[e]at h;exact h.elim
  |bad=>rw[e]at h;exact h.elim
end
def tyN:Ty->String
 |.int=>"int" | .bool=>"bool" | .str=>"str" | .tuple=>"tuple" | .list=>"list" | _=>""
structure yeD(K:AF)(t:Ty):Prop where
 n:B0 K (.type "NoneType") (.type (tyN t))=AA (ybl .non t)
 b:B0 K (.type "bool") (.type (tyN t))=AA (ybl (.bl AE) t)
 i:B0 K (.type "int") (.type (tyN t))=AA (ybl (.int 0) t)
 s:B0 K (.type "str") (.type (tyN t))=AA (ybl (.str C6) t)
 p:B0 K (.type "tuple") (.type (tyN t))=AA (ybl (.tp AE []) t)
 l:B0 K (.type "list") (.type (tyN t))=AA (ybl (.lst []) t)
section
variable {S:Se}{X:Cx}{C:St}{B:AJ->Prop}{A:Ph}{H:Hp}{st:SO}{p pos p2 px:CK}{a b c d o:AZ}{ca cb cc:Ce}{t:Ty}
def ygD(S:Se)(X:Cx)(t:Ty):List V->Hp->VK->Prop:=λd H Q=>∃B A st v x z,d=[x,.ty (tyN t)]/\yj X.K S.cl B A H st/\yd X.K S.cl B A H v x/\ybV v [t]=AA z/\ydq t=AE /\
 ∀c a b,Step A H b a->yj X.K S.cl B b a st->yd X.K S.cl B b a z c->Q c a
def zlh(Z:yeD X.K t):yam X (.builtin "isinstance") (ygD S X t):=by
 rintro E s C H O U Q I r ⟨B,A,st,v,x,z,rfl,w,d,e,f,q⟩
 let#[u,D,rfl,j,G]:=vals2 r
 cases (show D=Eh (tyN t)from G)
 have b:∀(k:Bool) (a:Nat),z=.bl k->EP X E C Q (.bool k) {s with toks:=a}:=λk a J=>#[.bl k,H,I.tok a,rfl,q _ H A .rfl w (by subst J;erw[yd])]
 cases v with
 |non=>
  erw[yd]at d;subst d
  cases (show u=BJ from j)
  erw[ybV,f,if_true]at e;exact DG PySem.W.kitx_none I.kIn CM Z.n (λz=>nomatch z) λa=>b _ a (by cases e;cases t<;>rfl)
 |bl k=>
  erw[yd]at d;subst d
  cases (show u=Eg k from j)
  erw[ybV,f,if_true]at e;exact DG PySem.W.kitx_bool I.kIn CM Z.b (λz=>nomatch z) λa=>b _ a (by cases e;cases t<;>rfl)
 |int k=>
  erw[yd]at d;subst d;let#[a,rfl]:=j;erw[ybV,f,if_true]at e;exact DG PySem.W.kitx_int I.kIn CM Z.i (λz=>nomatch z) λa=>b _ a (by cases e;cases t<;>rfl)
 |str k=>
  erw[yd]at d;subst d;let#[a,rfl]:=j;erw[ybV,f,if_true]at e;exact DG PySem.W.kitx_str I.kIn CM Z.s (λz=>nomatch z) λa=>b _ a (by cases e;cases t<;>rfl)
 |tp k L=>
  erw[yd]at d;let#[y,p,rfl,m,l]:=d
  cases (show u=Ag y from j)
  erw[ybV,f,if_true]at e;let#[M,_,#[o,g,c,_,_],_]:=I.tuple m.sq;exact DG PySem.W.kitx_tuple I.kIn #[o,g,c] Z.p (λz=>nomatch z) λa=>b _ a (by cases e;cases t<;>rfl)
 |lst L=>
  erw[yd]at d;let#[y,p,rfl,m,l]:=d
  cases (show u=Ag y from j)
  erw[ybV,f,if_true]at e;let#[_,_,n,_,N]:=(show yH X.prog X.w H s.heap y (.lst p)from I.hok y _ m.1);exact DG PySem.W.kitx_list I.kIn #[_,N,rfl] Z.l (λz=>nomatch z) λa=>b _ a (by cases e;cases t<;>rfl)
 |loc n=>cases e
 |scr n=>cases e
 |fnc n=>cases e
 |exn n=>erw[ybV,BL,List.all_nil,f,C5,if_true]at e;cases e
def zno{T:AR}(Z:yeD X.K t)(n:ydq t=AE)(o:Gl X "isinstance")(r:X.mg "isinstance"=AD)(c:Gl X T)(d:X.mg T=AD)(u:bootBuiltins T=AA (.type (tyN t)))(w:PE X a (tE S X ca))(f:T ≠ "__name__":=by decide)(g:(T==("__debug__":AR))=false:=by decide)
  (m:starEach [a,.Name T p2] X.env=(AC,eval a X.env)::starEach [.Name T p2] X.env:=by rfl) (j:(backTo pos (starEach [.Name T p2] X.env)).any (·.1)=false:=by rfl):
  PE X (.Call (.Name "isinstance" p) [a,.Name T p2] [] pos) (tE S X (.isi ca [t])):=
 (zb5 (zlh Z) o r IH (zI w (zI (zj4 (v:=.ty (tyN t)) c d u rfl f g) zoF) m) ⋯ ⋯ m j).imp λC H Q #[B,A,st,J,y,D,h]=>by erw[ev]at h;refine tE.bind y D h λx L v l A1 M b E G I=>?_;let#[z,e,q]:=zq I b;exact#[B,A1,l,v,x,z,rfl,b,G,e,n,q]
def zhT{b:SO}{x y v:PV}(h:ybz st x y v=AA b):∃n a k j,x=.loc n/\st[n]?=AA (.lst a)/\y=.int k/\ixI a.length k=AA j/\b=st.set n (.lst (a.set j v)):=by
 cases x with
 |loc n=>
  erw[ybz]at h
  cases q:st[n]? with
  |none=>rw[q]at h;cases h
  |some o=>
   rw[q]at h
   cases o with
   |lst a=>
    cases y with
    |int k=>
     dsimp only at h
     cases c:ixI a.length k with
     |none=>rw[c]at h;cases h
     |some j=>rw[c]at h;exact#[n,a,k,j,rfl,q,rfl,c,(Aa h).symm]
    |_=>cases h
   |_=>cases h
 |_=>cases h
theorem ye.put{K:AF}{a:Nat->AJ}:∀{vs:List PV} {xs:List V} (j:Nat) {v:PV} {x:V},ye K a B A H vs xs->yd K a B A H v x->ye K a B A H (vs.set j v) (xs.set j x)
 |[],xs,j,v,x,l,r=>by erw[ye]at l;subst l;simp[ye]
 |w::vs,xs,0,v,x,l,r=>by erw[ye]at l;let#[y,b,rfl,_,l]:=l;erw[A4,ye];exact#[x,b,rfl,r,l]
 |w::vs,xs,j+1,v,x,l,r=>by erw[ye]at l;let#[y,b,rfl,c,l]:=l;erw[A5,ye];exact#[y,b.set j x,rfl,c,ye.put j l r]
def zly(J:PE X a (tE S X ca))(ho:PE X b (tE S X cb))(hi:PE X c (tE S X cc))(L:swapsWithSole [.Subscript b c px] a pos.line X.env=pure false:=by rfl)(M:swappedStores [.Subscript b c px] a X.env=pure none:=by rfl)
  (N:PG X (.Subscript b c px) (yfI (tE S X cb) (tE S X cc) ydF):=by exact zjk ‹_› ‹_› zdW):PS X (.Assign [.Subscript b c px] a pos) (tS S X (.six cb cc ca)):=
 (zfT J N L M).imp λD C H #[B,A,st,ρ,O,Q,h]=>by
  erw[ex]at h;refine tE.fl O Q h λU H1 v Y A1 s1 g m Z h1=>tE.fl g m h1 λx' H2 x st2 A2 s2 o p rx h2=>tE.fl o p h2 λy' u y q A3 w d r z f=>?_
  cases e:ybz q x y v with
  |none=>rw[e]at f;exact f.elim
  |some st4=>
   rw[e]at f;let#[n,xs,k,j,rfl,hn,rfl,hj,rfl]:=zhT e;erw[yd]at z;subst z;let#[l,E,rfl,G,hx,I]:=d.list (rx.step w) hn;refine#[l,E,k,j,rfl,rfl,hx,by rw[<-I.length];exact hj,?_];have t:Step A3 u A3 (L2.upd u l (.lst (E.set j U))):=.put (A9 G);exact f C _ A3 t (d.put G #[_,zh,(I.put j ((Z.step s2).step w)).step t]) (r.step t)
end
section
variable {S:Se}{X:Cx}{C:St}{B:AJ->Prop}{A:Ph}{H:Hp}{st:SO}{p pos p2 px py pt pt2 apos:CK}{a b c d o:AZ}{ca cb cc:Ce}{kt k2:Nat}
def zlA{i j:Nat}{x y:AR}(I:X.calm=AE)(J:X.N.Nodup)(L:X.N[i]?=AA x)(M:X.N[j]?=AA y)(m:i≠j)(h:PS X (.Assign [.Tuple [.Name x px,.Name y py] kt pt] (.Tuple [a,b] k2 pt2) pos) (yfi i j (tAs S X (.cons ca (.cons cb .nil))))):
  PS X (.Assign [.Tuple [.Name x px,.Name y py] kt pt] (.Tuple [a,b] k2 pt2) pos) (tS S X (.asg (.t [i,j]) (.tup (.cons ca (.cons cb .nil))))):=
 h.imp λD C H #[B,A,st,g,n,c,h]=>by
  erw[ex,ev]at h;refine#[B,A,st,g,n,c,?_]
  cases e:evs S.call g st (.cons ca (.cons cb .nil))with
  |bad=>rw[e]at h;exact h
  |exc k d=>rw[e]at h;exact λe o x=>h C A H e o .rfl c x
  |ok p d=>
   rw[e]at h;intro N q r s f l;erw[R.bind]at h;split at h
   .rcases p with _|⟨v,_|⟨w,_|⟨u,t⟩⟩⟩
    .exact h.elim
    .exact h.elim
    .let#[z,E,rfl,G,rw]:=l.two;refine#[z,E,rfl,?_];exact h _ q r s f (((c.step s).set i G).set j rw)
    .exact h.elim
   .exact h.elim
def zkJ{a:BOp}{v w z:PV}(h:ybA a v w=AA z):∃i j,v=.int i/\w=.int j/\IC.binI a i j=AA z:=by
 unfold ybA at h;split at h
 .exact#[_,_,rfl,rfl,h]
 .cases h
def zj0:PIp X .Add (rT2 S X (ybA .add)):=by
 rintro E s C H x y v u Q I f g ⟨B,A,st,a,b,z,l,c,d,e,q⟩
 let#[i,j,rfl,rfl,e]:=zkJ e
 cases e
 erw[yd]at c d;subst c d;exact zmt E s C H _ _ v u Q I f g #[i,j,rfl,rfl,q _ H A .rfl l (by erw[yd])]
end
end L2
namespace WK
open PySem L2 IC
def GC(K:AF)(a:AR->Option AG)(b:Nat->AJ)(x:AR)(v:PV):Prop:=∃(y:V) (u:AG),a x=AA u/\RelV y u/\∀B A H,yd K b B A H v y
def zop{S:Se}{X:Cx}{x:AR}{v:PV}{pos:CK}(a:Gl X x)(h:GC X.K X.mg S.cl x v)(b:(x==("__debug__":AR))=false:=by decide):PE X (.Name x pos) (tE S X (.cst v)):=by
 let#[y,u,c,d,f]:=h;exact(zbh a c d b).imp λC H Q #[B,A,st,j,g,l,h]=>by erw[ev]at h;exact h.ok g (f B A H)
def zlg:bootBuiltins "int"=AA (.type "int"):=by decide +kernel
def zi3:bootBuiltins "str"=AA (.type "str"):=by decide +kernel
def zib:bootBuiltins "tuple"=AA (.type "tuple"):=by decide +kernel
def zmL:bootBuiltins "len"=AA (.builtin "len"):=by decide +kernel
def zmM:bootBuiltins "all"=AA (.builtin "all"):=by decide +kernel
def zmn:bootBuiltins "sum"=AA (.builtin "sum"):=by decide +kernel
end WK
namespace L2
open PySem PySem.Spec PyProof.Rows IC
def shC:Sum Ce Int->Option Int
 |.inl _=>AD
 |.inr i=>AA i
def ya6:List (Option Int)->List V->List V
 |[],_=>[]
 |some i::r,a=>.int i::ya6 r a
 |none::r,z::a=>z::ya6 r a
 |none::_,[]=>[]
def pick:List (Option Int)->List V->List V
 |none::r,v::a=>v::pick r a
 |some _::r,_::a=>pick r a
 |_,_=>[]
def nKw:List (Option Int)->Nat
 |[]=>0
 |none::r=>nKw r+1
 |some _::r=>nKw r
def yc0:Ces->Nat
 |.nil=>0
 |.cons _ r=>yc0 r+1
def gK(c:Nat)(a:List (Option Int))(vs b:List V):List V:=if vs.length=c/\b.length=nKw a then vs++ya6 a b else []
def zgv{call:Nat->List PV->SO->R PV}{ρ:IC.Env}:∀(a:Ces) {st b:SO} {vs:List PV},evs call ρ st a=.ok vs b->vs.length=yc0 a
 |.nil,st,b,vs,h=>by erw[IC.vsq0,IC.vsq1]at h;cases h;rfl
 |.cons e r,st,b,vs,h=>by
  erw[IC.vsq0,IC.vsq1]at h
  cases q:ev call ρ st e with
  |ok v f=>
   rw[q]at h;erw[R.bind]at h
   cases d:evs call ρ f r with
   |ok g j=>
    rw[d]at h
    cases h
    simp[yc0,zgv r d]
   |exc c s=>rw[d]at h;cases h
   |bad=>rw[d]at h;cases h
  |exc c s=>rw[q]at h;cases h
  |bad=>rw[q]at h;cases h
def zf4{call:Nat->List PV->SO->R PV}{ρ:IC.Env}:∀(a b:Ces) (st:SO),evs call ρ st (ycK a b)=(evs call ρ st a).bind λg d=>(evs call ρ d b).bind λj f=>.ok (g++j) f
 |.nil,b,st=>by
  erw[ycK,IC.vsq0,IC.vsq1,R.bind,B6]
  cases evs call ρ st b<;>rfl
 |.cons e r,b,st=>by
  erw[ycK,IC.vsq0,IC.vsq1]
  cases ev call ρ st e with
  |ok v d=>
   erw[R.bind];rw[zf4 r b d]
   cases evs call ρ d r with
   |ok g f=>
    erw[R.bind]
    cases evs call ρ f b<;>rfl
   |exc c s=>rfl
   |bad=>rfl
  |exc c s=>rfl
  |bad=>rfl
section
variable {S:Se}{X:Cx}{k:Nat}{f:AJ}{fd:BF}{ps ks:List AR}{sp:Sp}{x:AR}{p pos kpos:CK}{e:AZ}{es:List AZ}{kws:List CU}{nm:Option AR}{t tk:TA}{CX:CXT}{ca:Ce}{ces:Ces}{items:List (Sum Ce Int)}{g:List AG->List AG->List AG}{gV:List V->List V->List V}
def zaS{K:AF}{j:Nat->AJ}{B:AJ->Prop}{C:Ph}{H:Hp}{call:Nat->List PV->SO->R PV}{ρ:IC.Env}:∀(items:List (Sum Ce Int)) {st a:SO} {vs:List PV} {xs:List V},evs call ρ st (yay items)=.ok vs a->ye K j B C H vs xs->ya6 (items.map shC) (pick (items.map shC) xs)=xs/\(pick (items.map shC) xs).length=nKw (items.map shC)
 |[],st,a,vs,xs,h,l=>by
  erw[yay,IC.vsq0,IC.vsq1]at h
  cases h
  erw[ye]at l;subst l;exact#[rfl,rfl]
 |.inl c::r,st,a,vs,xs,h,l=>by
  erw[yay,IC.vsq0,IC.vsq1]at h;let#[v,m,g,h]:=zH h;let#[n,o,b,h]:=zH h
  cases h
  erw[ye]at l;let#[y,p,rfl,_,l]:=l;let#[d,f]:=zaS r b l;erw[AV,shC,pick,ya6,nKw,AY,d,f];exact#[trivial,trivial]
 |.inr i::r,st,a,vs,xs,h,l=>by
  erw[yay,IC.vsq0,IC.vsq1,ev]at h;let#[v,m,g,h]:=zH h;let#[n,o,b,h]:=zH h
  cases h
  cases g
  erw[ye,yd]at l;let#[y,p,rfl,rfl,l]:=l;let#[d,f]:=zaS r b l;erw[AV,shC,pick,ya6,nKw,d,f];exact#[trivial,trivial]
def tK(S:Se)(X:Cx)(items:List (Sum Ce Int)):TA:=λD H Q=>∃B C st a,yj X.K S.cl B C H st/\yC X.K S.cl B C H a D/\Run S X D B C H (RL S X B) (evs S.call a st (yay items)) λb c=>Q (pick (items.map shC) b) c
theorem PK.imp{t t':TA}(h:PK X kws t')(k:∀D H Q,t D H Q->t' D H Q):PK X kws t:=λpos G s D H Q I q=>h pos G s D H Q I (k D H Q q)
def znz:PK X [] (tK S X []):=zo5.imp λD H Q #[B,C,st,b,a,c,h]=>by erw[yay,IC.vsq0,IC.vsq1]at h;exact h.ok a (x:=[]) (by erw[ye])
def zoo{i:Int}(h:PK X kws (tK S X items)):PK X kws (tK S X (.inr i::items)):=h.imp λD H Q #[B,C,st,b,d,f,h]=>by
 erw[yay,IC.vsq0,IC.vsq1,ev,R.bind]at h;refine#[B,C,st,b,d,f,?_]
 cases e:evs S.call b st (yay items)with
 |ok o g=>
  rw[e]at h;intro j m n s a l;exact h (.int i::j) m n s a (by erw[ye,yd];exact#[_,_,rfl,rfl,l])
 |exc c s=>rw[e]at h;exact h
 |bad=>rw[e]at h;exact h
def zok(g:PE X e (tE S X ca))(h:PK X kws (tK S X items)):PK X (#[nm,e,kpos] :: kws) (tK S X (.inl ca::items)):=(zkt g h).imp λD H Q #[B,C,st,j,m,n,h]=>by erw[yay,IC.vsq0,IC.vsq1]at h;refine tE.bind m n h λx w v a C1 y b c o p=>#[B,C1,a,j,b,c,?_];refine(Run.bind (Rel:=RL S X B) p).mono λf z q=>?_;let#[A,r,C2,t,d,l,u]:=q;exact u.ok d (x:=x::f) (by erw[ye];exact#[x,f,rfl,o.step t,l])
def ziE{t:Nat}(F:yaK X.prog X.w X.K X.mg X.base (CX1 X.prog X.w) k f fd ps (spI X.K S.cl S.call t))(hr:yaA k X.A)(hg:Gl X x)(hm:X.mg x=AA (.ref f))(hk:Ax X.K (.ref f)=AE){l:Nat}(N:∃g,ybY X.K fd ps ks g (gK l (items.map shC)))(Z:yc0 ces=l)
  (ha:PA X (e::es) (tAs S X ces)) (hkw:PK X kws (tK S X items)) (w:(backToKw pos (keywordEach kws X.env)).all (·.1.isSome)=true:=by rfl) (hks:(backToKw pos (keywordEach kws X.env)).filterMap (·.1)=ks:=by rfl)
  (hdb:(x==("__debug__":AR))=false:=by decide) (he:starEach (e::es) X.env=(AC,eval e X.env)::starEach es X.env:=by rfl)
  (hpl:((backTo pos (starEach (e::es) X.env)).any (·.1) || (backToKw pos (keywordEach kws X.env)).any (·.1.isNone))=false:=by rfl):
  PE X (.Call (.Name x p) (e::es) kws pos) (tE S X (.call t (ycK ces (yay items)))):=by
 intro G s D H Q I #[B,C,st,n,rs,re,h];erw[ev]at h;rw[zf4,R.bind_assoc]at h;refine Bf (zar I hg hm ?_ hdb);have h0:tAs S X ces D H λd y=>tK S X items D y λzs m=>∃E:XK,spI X.K S.cl S.call t (gK l (items.map shC) d zs) m Q E/\∀G s e O,Inv X G D m s->CX1 X.prog X.w X.stack m s E e O->X.xe e O:=by
  have z:∀d A,evs S.call n st ces=.ok d A->d.length=l:=λd A q=>(zgv ces q).trans Z;refine#[B,C,st,n,rs,re,?_]
  cases q:evs S.call n st ces with
  |exc c s=>rw[q]at h;exact h
  |bad=>rw[q]at h;exact h
  |ok d b=>
  rw[q]at h;intro xs y C1 U rs1 rv;have j:=Run.on U h;have re1:=re.step U;have hv:=z d b q;refine#[B,C1,b,n,rs1,re1,?_];have j:Run S X D B C1 y (RV S X B) (((evs S.call n b (yay items)).bind λa st=>(R.ok (d++a) st:R (List PV))).bind λd b=>S.call t d b) Q:=j;rw[R.bind_assoc]at j
  cases e:evs S.call n b (yay items)with
  |ok J st2=>
   rw[e]at j;intro ys m C2 o rs2 l2;let#[m1,m2]:=zaS items e l2;have eg:gK l (items.map shC) xs (pick (items.map shC) ys)=xs++ys:=by unfold gK;rw[if_pos #[by rw[<-rv.length];exact hv,m2],m1]
   show ∃E:XK,spI X.K S.cl S.call t (gK l (items.map shC) xs (pick (items.map shC) ys)) m Q E/\_;rw[eg];exact zaA rs2 ((rv.step o).append l2) (Run.on o j)
  |exc c s=>rw[e]at j;exact j
  |bad=>rw[e]at j;exact j
 refine PySem.W.callWith_KW (h₀:=X.base) I.ok.mod.kin hk w (thn (ha pos G s D H _ I h0) λY U kq=>?_) hpl he;let#[d,y,I1,r,q]:=kq;refine thn (hkw pos G U D y _ I1 q) λJ o kq=>?_;let#[zs,m,L,rz,E,q2,hx]:=kq;refine #[L.kIn,?_];rw[hks];let#[g,N]:=N;have r2:=N.rel r rz;have hl:(g Y J).length=ps.length:=by rw[<-r2.length];exact F.len _ _ _ _ q2
 refine IZ (Eb (F.run X.A X.stack o m #[Y,ks.zip J] (g Y J) (gK l (items.map shC) d zs) Q E hr L.env0 (N.to o Y J L.kIn hl) r2 q2) λr O M=>?_)
 cases r with
 |error e=>exact hx G o e O L M
 |ok fl=>
  cases fl with
  |ret u=>exact L.after M
  |next=>exact Bn M
  |brk=>exact Bn M
  |cont=>exact Bn M
end
structure FnD(K:AF)(mg:AR->Option AG)(x:AR)(st:CL)(ps:List AR)(ds:List Int)(f:AJ)(fd:BF):Prop where
 ex:∃(oc:AG) (od:Option AJ) (dT:AJ) (kV doc pm:AG) (an:Option AJ) (cdv ct:AG) (osl:Array (Option AG)) (o:Bw) (its:Array AG) (n:Nat),
  fd=CD x x (yan st) (yN st) (yh st) (.ref dT) kV doc pm an cdv ct/\K.lookup f=AA #[oc,od,.func fd,osl]/\Cb K cdv x=AE/\K.lookup dT=AA o/\o.data=.seq its n/\Vals (ds.map V.int) its.toList
 kp:Ax K (.ref f)=AE
 m:mg x=AA (.ref f)
section
variable {P:A6}{w:Ah}{K:AF}{mg:AR->Option AG}{base:Au}{cl:Nat->AJ}{T:Nat->Option IC.Fn}{fi:Nat}{fn:IC.Fn}{x:AR}{stm:CL}{f:AJ}{fd:BF}{N ps:List AR}{ds:List Int}{k:Nat}
end
def zb3(a b:Key):peq (ya9 a) (ya9 b)=decide (a=b):=by
 rw[IG]
 cases a with
 |inl i=>cases b with
  |inl j=>show (i==j)=AE ↔ _;simp
  |inr y=>show AC=AE ↔ _;simp
 |inr x=>cases b with
  |inl j=>show AC=AE ↔ _;simp
  |inr y=>show (x==y)=AE ↔ _;simp
mutual
theorem zlE:∀a b:NK,peq (nkP a) (nkP b)=decide (a=b)
 |.a k,.a j=>by
  rw[nkP,nkP,zb3]
  by_cases e:k=j<;>simp[e]
 |.a k,.t l=>by rw[nkP,nkP];cases k<;>simp[ya9,peq]
 |.t l,.a k=>by rw[nkP,nkP];cases k<;>simp[ya9,peq]
 |.t l,.t m=>by
  rw[nkP,nkP];erw[peq,zdv l m]
  by_cases e:l=m<;>simp[e]
theorem zdv:∀a b:List NK,ybO (yaO a) (yaO b)=decide (a=b)
 |[],[]=>by simp[yaO,ybO]
 |[],y::c=>by simp[yaO,ybO]
 |x::d,[]=>by simp[yaO,ybO]
 |x::d,y::c=>by
  erw[yaO,ybO,zlE x y,zdv d c]
  by_cases e:x=y<;>by_cases f:d=c<;>simp[e,f]
end
def za7(a b:List NK):peq (.tup (yaO a)) (.tup (yaO b))=decide (a=b):=by erw[peq,zdv]
def zla{k:PV}(h:ycy k=AE):∃q,k=ya9 q:=by
 cases k with
 |int i=>exact#[.inl i,rfl]
 |str i=>exact#[.inr i,rfl]
 |_=>cases h
mutual
theorem zoc:∀(k:PV) (n:Nat),yev n k=AE->∃q:NK,k=nkP q/\CO (nkD q)=AE/\(nkD q).depth<=n
 |.int i,n,_=>#[.a (.inl i),rfl,rfl,BB _]
 |.str x,n,h=>#[.a (.inr x),rfl,h,BB _]
 |.tp k b,n,h=>by erw[yev,AK,decide_eq_true_eq,Bp]at h;let#[q,e,c,d]:=zgA b (n-1) h.2;refine#[.t q,by rw[h.1.1,e];rfl,c,?_];erw[nkD,CB];lia
 |.non,n,h=>by cases h
 |.bl _,n,h=>by cases h
 |.lst _,n,h=>by cases h
 |.loc _,n,h=>by cases h
 |.exn _,n,h=>by cases h
 |.scr _,n,h=>by cases h
 |.fnc _,n,h=>by cases h
theorem zgA:∀(ks:List PV) (n:Nat),yb2 n ks=AE->∃a:List NK,ks=yaO a/\Cm (ybb a)=AE/\Bt (ybb a)<=n
 |[],n,_=>#[[],rfl,rfl,BB _]
 |k::ks,n,h=>by erw[yb2,AK]at h;let#[q,b,c,g]:=zoc k n h.1;let#[a,d,f,j]:=zgA ks n h.2;refine#[q::a,by rw[b,d];rfl,by erw[ybb,Cm,c,f];rfl,?_];erw[ybb,Bt];lia
end
section
variable {S:Se}{X:Cx}{K:AF}{cl:Nat->AJ}{E:St}{B:AJ->Prop}{C:Ph}{H:Hp}{st:SO}{p pos p2 px apos:CK}{a b c d o:AZ}{ca cb cc:Ce}
def zoK{q:Key}{x:V}:yd K cl B C H (ya9 q) x ↔ x=kV q:=by cases q<;>simp[ya9,yd,kV]
mutual
theorem zgB:∀(q:NK) (x:V),yd K cl B C H (nkP q) x->NKr H q x
 |.a k,x,r=>zoK.mp r
 |.t l,x,r=>by
  erw[nkP,yd]at r;let#[y,c,rfl,b,d]:=r;rcases b with⟨b,_⟩|⟨z,_⟩
  .exact#[y,c,rfl,b,zg0 l c d]
  .cases z
theorem zg0:∀(q:List NK) (xs:List V),ye K cl B C H (yaO q) xs->NKs H q xs
 |[],xs,l=>show xs=[]by simpa only[yaO,ye] using l
 |q::b,xs,l=>by erw[yaO,ye]at l;let#[y,a,rfl,r,l]:=l;exact#[y,a,rfl,zgB q y r,zg0 b a l]
end
theorem DK.look{q:Key}:∀{a:List (PV×PV)} {ks:List (Key×V)},DK K cl B C H a ks->∀{v:PV} {x:V},yd K cl B C H v x->yd K cl B C H ((IC.look (ya9 q) a).getD v) ((yaS ks q).getD x)
 |[],ks,h,v,x,r=>by cases h;exact r
 |(k,w)::t,ks,h,v,x,r=>by
  let#[b,y,s,rfl,rfl,c,l]:=h;erw[IC.look,zb3]
  by_cases e:b=q
  .rw[zaj (p:=(b,y)) e];simp[e,c]
  .rw[zaf (p:=(b,y)) e];erw[decide_eq_true_eq,e,if_false];exact DK.look l r
theorem DT.look{q:List NK}:∀{a:List (PV×PV)} {ks:List (List NK×V)},DT K cl B C H a ks->∀{v:PV} {x:V},yd K cl B C H v x->yd K cl B C H ((IC.look (.tup (yaO q)) a).getD v) ((yaS ks q).getD x)
 |[],ks,h,v,x,r=>by cases h;exact r
 |(k,w)::t,ks,h,v,x,r=>by
  let#[b,y,s,rfl,rfl,c,l]:=h;erw[IC.look,za7]
  by_cases e:b=q
  .rw[zaj (p:=(b,y)) e];simp[e,c]
  .rw[zaf (p:=(b,y)) e];erw[decide_eq_true_eq,e,if_false];exact DT.look l r
theorem DK.any{q:Key}:∀{a:List (PV×PV)} {ks:List (Key×V)},DK K cl B C H a ks->(a.any λp=>peq p.1 (ya9 q))=ks.any λb=>decide (b.1=q)
 |[],ks,h=>by cases h;rfl
 |(k,w)::t,ks,h=>by let#[c,y,s,rfl,rfl,d,l]:=h;erw[CA,zb3,DK.any l]
theorem DT.any{q:List NK}:∀{a:List (PV×PV)} {ks:List (List NK×V)},DT K cl B C H a ks->(a.any λp=>peq p.1 (.tup (yaO q)))=ks.any λb=>decide (b.1=q)
 |[],ks,h=>by cases h;rfl
 |(k,w)::t,ks,h=>by let#[c,y,s,rfl,rfl,d,l]:=h;erw[CA,za7,DT.any l]
theorem DK.map{q:Key}{v:PV}{x:V}(r:yd K cl B C H v x):∀{a:List (PV×PV)} {ks:List (Key×V)},DK K cl B C H a ks->DK K cl B C H (a.map λp=>if peq p.1 (ya9 q)=AE then(p.1,v)else p) (ks.map λb=>if b.1=q then(b.1,x)else b)
 |[],ks,h=>by cases h;exact rfl
 |(k,w)::t,ks,h=>by
  let#[c,y,s,rfl,rfl,d,l]:=h;erw[AV,zb3,decide_eq_true_eq]
  by_cases e:c=q
  .simp only[e,if_true];exact#[q,x,_,rfl,rfl,r,DK.map r l]
  .simp only[e,if_false];exact#[c,y,_,rfl,rfl,d,DK.map r l]
theorem DT.map{q:List NK}{v:PV}{x:V}(r:yd K cl B C H v x):∀{a:List (PV×PV)} {ks:List (List NK×V)},DT K cl B C H a ks->DT K cl B C H (a.map λp=>if peq p.1 (.tup (yaO q))=AE then(p.1,v)else p) (ks.map λb=>if b.1=q then(b.1,x)else b)
 |[],ks,h=>by cases h;exact rfl
 |(k,w)::t,ks,h=>by
  let#[c,y,s,rfl,rfl,d,l]:=h;erw[AV,za7,decide_eq_true_eq]
  by_cases e:c=q
  .simp only[e,if_true];exact#[q,x,_,rfl,rfl,r,DT.map r l]
  .simp only[e,if_false];exact#[c,y,_,rfl,rfl,d,DT.map r l]
theorem DK.snoc{q:Key}{v:PV}{x:V}(r:yd K cl B C H v x):∀{a:List (PV×PV)} {ks:List (Key×V)},DK K cl B C H a ks->DK K cl B C H (a++[(ya9 q,v)]) (ks++[(q,x)])
 |[],ks,h=>by cases h;exact#[q,x,[],rfl,rfl,r,rfl]
 |(k,w)::t,ks,h=>by let#[b,y,s,rfl,rfl,c,l]:=h;exact#[b,y,_,rfl,rfl,c,DK.snoc r l]
theorem DT.snoc{q:List NK}{v:PV}{x:V}(r:yd K cl B C H v x):∀{a:List (PV×PV)} {ks:List (List NK×V)},DT K cl B C H a ks->DT K cl B C H (a++[(.tup (yaO q),v)]) (ks++[(q,x)])
 |[],ks,h=>by cases h;exact#[q,x,[],rfl,rfl,r,rfl]
 |(k,w)::t,ks,h=>by let#[b,y,s,rfl,rfl,c,l]:=h;exact#[b,y,_,rfl,rfl,c,DT.snoc r l]
theorem DK.put{q:Key}{v:PV}{x:V}{a:List (PV×PV)}{ks:List (Key×V)}(l:DK K cl B C H a ks)(r:yd K cl B C H v x):DK K cl B C H (IC.put (ya9 q) v a) (putK ks q x):=by
 unfold IC.put putK;rw[DK.any l];split
 .exact DK.map r l
 .exact DK.snoc r l
theorem DT.put{q:List NK}{v:PV}{x:V}{a:List (PV×PV)}{ks:List (List NK×V)}(l:DT K cl B C H a ks)(r:yd K cl B C H v x):DT K cl B C H (IC.put (.tup (yaO q)) v a) (putK ks q x):=by
 unfold IC.put putK;rw[DT.any l];split
 .exact DT.map r l
 .exact DT.snoc r l
theorem DK.len:∀{a:List (PV×PV)} {ks:List (Key×V)},DK K cl B C H a ks->a.length=ks.length
 |[],ks,h=>by cases h;rfl
 |(k,w)::t,ks,h=>by let#[b,y,s,rfl,rfl,c,l]:=h;simp[DK.len l]
theorem DT.len:∀{a:List (PV×PV)} {ks:List (List NK×V)},DT K cl B C H a ks->a.length=ks.length
 |[],ks,h=>by cases h;rfl
 |(k,w)::t,ks,h=>by let#[b,y,s,rfl,rfl,c,l]:=h;simp[DT.len l]
theorem yj.dct{n:Nat}{t:Bool}{a:List (PV×PV)}{x:V}(rs:yj K cl B C H st)(r:yd K cl B C H (.loc n) x)(h:st[n]?=AA (.dct t a)):∃y,x=.ref y/\C[n]?=AA (AA y)/\yb9 K cl B C H (.dct t a) y:=by erw[yd]at r;let#[g,y,rfl,d]:=r;let#[z,b]:=rs.liv n _ h (by intro z;cases z);obtain rfl:=d z b;let#[o,c,f]:=rs.obj n z b;rw[h]at c;cases c;exact#[z,rfl,b,f]
def zaJ{v:PV}{t:Bool}{a:List (PV×PV)}(h:yag st v=AA (t,a)):∃n,v=.loc n/\st[n]?=AA (.dct t a):=by
 cases v with
 |loc n=>
  erw[yag]at h;split at h
  .rename_i b c q
   cases h
   exact#[n,rfl,q]
  .cases h
 |_=>cases h
def zdu{k:PV}(h:isKey AC k=AE):∃q,k=ya9 q:=zla h
def zdD{k:PV}(h:isKey AE k=AE):∃q:List NK,k=.tup (yaO q)/\ydM q:=by
 cases k with
 |tp b a=>
  cases b with
  |false=>
   let#[f,rfl,c,d]:=zgA a 5 h;exact#[f,rfl,c,EB d]
  |true=>cases h
 |_=>cases h
def zdk{q:List NK}{x:V}(a:ydM q)(r:yd K cl B C H (.tup (yaO q)) x):∃y,x=.ref y/\KyR H q y:=by have c:yd K cl B C H (nkP (.t q)) x:=r;let#[b,d,rfl,g,f]:=zgB (.t q) x c;exact#[b,rfl,#[b,d,rfl,g,f],a]
def zfv:PE X (.Dict [] [] pos) (tE S X (.dict0 AE)):=zpc.imp λE H Q #[B,C,st,c,a,d,h]=>by erw[ev]at h;exact λp b=>h _ _ (C++[AA p]) (.push b) (a.push b (a.nB b) #[[],zh,rfl]) (.loc_new a)
def zfN{b:SO}{x y v:PV}(h:ya0 st x y v=AA b):∃n t a,x=.loc n/\st[n]?=AA (.dct t a)/\isKey t y=AE/\a.length<1000000/\b=st.set n (.dct t (IC.put y v a)):=by
 cases x with
 |loc n=>
  erw[ya0]at h;split at h
  .rename_i t a q;split at h
   .rename_i c;exact#[n,t,a,rfl,q,c.1,c.2,(Aa h).symm]
   .cases h
  .cases h
 |_=>cases h
def zkC(U:X.A.units+16<cLine)(Y:PE X b (tE S X cb))(Z:PE X c (tE S X cc))(hv:PE X a (tE S X ca))(hs:swapsWith a (AA (.Subscript b c px)) pos.line X.env=pure false:=by rfl):PS X (.Assign [.Subscript b c px] a pos) (tS S X (.dput cb cc ca)):=
 (zjX U Y Z hv hs).imp λD E H #[B,C,st,ρ,rs,re,h]=>by
  erw[ex]at h;refine tE.fl rs re h λL H1 v st1 C1 s1 w z rv h1=>tE.fl w z h1 λx' H2 x st2 C2 s2 A G rx h2=>tE.fl A G h2 λy' r y I C3 M d j N m=>?_
  cases e:ya0 I x y v with
  |none=>rw[e]at m;exact m.elim
  |some st4=>
   rw[e]at m;let#[n,t,kvs,rfl,hn,O,hl,rfl]:=zfN e;let#[l,rfl,u,Q]:=d.dct (rx.step M) hn;have o:=(rv.step s2).step M;have hm:=zoT
   cases t with
   |false=>
    let#[q,rfl]:=zdu O;let#[p,f,ld]:=Q;have g:Step C3 r C3 (L2.upd r l (.dK (putK p q L))):=.put (A9 u);refine#[l,_,rfl,.inl #[p,q,f,zoK.mp N,by have:=ld.len;lia,rfl],m E _ C3 g (d.put u #[_,zh,(ld.put o).step g]) (j.step g)]
   |true=>
    let#[q,rfl,hq]:=zdD O;let#[p,f,ld]:=Q;let#[b',rfl,J]:=zdk hq N;have g:Step C3 r C3 (L2.upd r l (.dT (putK p q L))):=.put (A9 u);refine#[l,_,rfl,.inr #[p,q,b',f,rfl,J,by have:=ld.len;lia,rfl],m E _ C3 g (d.put u #[_,zh,(ld.put o).step g]) (j.step g)]
end
def Itd(lo:Int)(n:Nat):It:=#[λi _=>i<n,λi H x a=>a=H/\x=.int (lo+i*(-1)),λi _=>n<=i]
def zdq{P:A6}{w:Ah}{K:AF}{D:AZ}(a:AJ)(lo:Int)(n:Nat):Turn P w K D (Itd lo n) [a] a (λi h=>G3 h a (lo+(i:Nat)*(-1)) ((n:Int)-(i:Nat)) (-1)) where
 mem:=by simp
 obj:=λi h st b c=>by
  have e:b=a:=by simpa using c
  subst e;exact#[_,st,λv z=>by
   have G:JX _=Data.cell v:=z
   cases G]
 keep:=λi h f st k=>k a (by simp) _ st
 item:=by intro X g j l m i B s A H E I hf st p;subst g j l;let#[q,r,J,u,x,y]:=hf a (by simp);have W:=JY (prog:=X.prog) (w:=X.w) (I.ok.hd m) a lo (-1) n;refine W.item i s _ _ p st λv f C L d M=>?_;let#[t,rfl]:=L;have N:Inv X B A H {s with heap:=f,toks:=C}:=I.turned (λb o c e=>M b o (by simpa using c) e) q r u x y;exact#[_,rfl,zdH (s:={s with heap:=f,toks:=C}) (n:="range_iterator") d rfl rfl ⋯ #[.int (lo+i*(-1)),H,N,#[t,rfl],#[rfl,rfl],d,λb c=>(hf b c).1]]
 done:=by intro X g j l m i B s A H E I hf st p;subst g j l;let#[q,r,J,u,x,y]:=hf a (by simp);exact Fy (I.ok.hd m) st (by have:n<=i:=p;lia) λf O=>#[rfl,I.turned (t':=s.toks) (λb o c e=>O b o c e) q r u x y]
 self:=λ_ _ _ _ _ st h=>Ds st h
section
variable {S:Se}{X:Cx}{C:St}{B:AJ->Prop}{A:Ph}{H:Hp}{p pos p3 p4:CK}{a b tg:AZ}{ca cb:Ce}
def zfc{lo:Int}{n:Nat}:Drw S X B A H (yg n lo (-1)) (Itd lo n):=by refine#[λb c s=>by rw[zC];exact AU _,λi b c s a=>by rw[zC]at a;exact a,λi b c st x d f g s j a q=>?_];rw[zC]at a;let#[rfl,rfl]:=q;refine#[.int (lo+i*(-1)),?_,by erw[yd],λ_ _ e=>e];rw[zaP,if_pos a]
end
end L2
namespace WK
open PySem L2 IC
section
variable {K:AF}{cl:Nat->AJ}{B:AJ->Prop}{A:Ph}{H:Hp}
def ziY:ye K cl B A H [] []:=by erw[ye]
def zg5{v:PV}{x:V}{vs:List PV}{xs:List V}(h:yd K cl B A H v x)(l:ye K cl B A H vs xs):ye K cl B A H (v::vs) (x::xs):=by erw[ye];exact#[x,xs,rfl,h,l]
end
def zmN{P:A6}{w:Ah}{outer:List BZ}{H:Hp}{s:AH}{e:AG}{s':AH}(h:CX1 P w outer H s (λ_ _ _=>False) e s'):False:=by let#[_,_,_,_,_,_,_,_,_,_,_,_,_,_,z]:=h;exact z
def zgt{K:AF}{b:Nat->AJ}{B:AJ->Prop}{A:Ph}{H:Hp}:∀a:List Int,ye K b B A H (a.map .int) (a.map V.int)
 |[]=>ziY
 |n::a=>zg5 (by erw[yd]) (zgt a)
def spX(K:AF)(call:Nat->List PV->SO->R PV)(a:Nat):Sp:=λb H Q E=>∀c,spI K c call a b H Q E
def zfn{K:AF}{call:Nat->List PV->SO->R PV}{d:Nat}{H:Hp}{a:AJ}{b:List Int}(f:∀b:List Int,b.length<=63->call d [.scr (b.map .int)] []=.ok (.bl AE) [])(g:b.length<=63)(c:SqL K H a (b.map V.int)):
  spX K call d [.ref a] H (λv _=>v=.bl AE) λ_ _ _=>False:=by
 intro j;refine#[λ_=>False,[],[],[.scr (b.map .int)],#[rfl,λm n a e=>by simp at e,λn a e=>by simp at e,λn o e=>by simp at e,λa z=>by simp at z,λa z=>z.elim,λa z=>z.elim],zg5 ?_ ziY,?_]
 .simp only[yd];refine#[a,_,rfl,?_,zgt b];rcases c with c|c
  .exact .inl #[c,λz=>z,by simp]
  .exact .inr c
 .rw[f b g];intro x l p _ _ r;simpa only[yd] using r
end WK
namespace L2
open PySem PySem.Spec PyProof.Rows IC
def zgh{l:List AR}(h:l.Nodup){i j:Nat}(a:i<l.length)(b:j<l.length)(e:l[i]=l[j]):i=j:=by
 rcases Nat.lt_trichotomy i j with q|q|q
 .exact absurd e (FO.mp h i j a b q)
 .exact q
 .exact absurd e.symm (FO.mp h j i b a q)
section
variable {X:Cx}{B:List (AJ×Bw)}{A:St}{H:Hp}{s:AH}
theorem Inv.drop{h':Au}{m:AR->Option AG}{v:Option AG}{i:Nat}{n:AR}(I:Inv X B A H s)(J:X.N.Nodup)(L:X.N[i]?=AA n)(hm:s.heap.Ns X.env.locals m)(look:∀(i:Nat) (x:AR) (v:V),X.N[i]?=AA x->A[i]?=AA (AA v)->Vis X.env.scope x->∃u,RelV v u/\Look X.env s.heap m x u)(M:C0 X.env.locals s.heap h')(N:h'.Ns X.env.locals (λx=>if x=n then v else m x)):Inv X B (A.set i AD) H {s with heap:=h'}:=by
 have k:∀b u,b≠X.env.locals->s.heap.get? b=AA u->h'.get? b=AA u:=λb u l q=>(M.2 b l).trans q;have y:∀b o,X.s₀.heap.get? b=AA o->b≠X.env.locals:=λb o e=>Ad (Af (A0 e) I.ok.above);refine#[I.ok,I.os,I.bare,#[λb o q n l d=>k b o (y b o q) (I.base.keep b o q n l d),λb o q n l d=>?_,I.base.free,λb o q d=>?_,I.base.tups,I.base.frzs,I.base.tbls],#[_,N,λj x v D f O=>?_],λx c e=>?_,I.free,I.freeC,λp Q=>?_,λb u e=>?_,?_]
 .let#[U,a]:=I.base.slot b o q n l d;exact#[U,k b _ (y b o q) a]
 .let#[E,a]:=I.base.there b o q d;exact#[E,k b E (y b o q) a]
 .have G:j≠i:=λz=>by subst z;rw[Cr]at f;erw[if_true]at f;split at f<;>cases f
  rw[AW (BR G)]at f;have d:x≠n:=λz=>by subst z;let#[Y,Z]:=Ao.mp D;let#[l2,g2]:=Ao.mp L;exact G (zgh J Y l2 (Z.trans g2.symm))
  let#[u,r,lk]:=look j x v D f O;refine#[u,r,?_];rcases lk with⟨a,g⟩|⟨a,c,g,o,t,C⟩
  .exact .inl #[a,by dsimp only;rw[if_neg d];exact g]
  .exact .inr #[a,c,g,o,k c o (I.cne x c g) t,C]
 .let#[v,o,ho,hd]:=I.cell x c e;exact#[v,o,k c o (I.cne x c e) ho,hd]
 .let#[a,g,t,C]:=I.pin p Q;exact#[k _ _ t a,g,t,C]
 .refine(I.hok b u e).stay (λc v hc q=>k c v (λz=>?_) q) (λ_ q=>q) λ_ _ q=>q;have w:=I.free;subst z;rcases hc with z|z
  .rw[z,e]at w
   cases w
  .rw[z]at w
   cases w
 .rw[BD];exact I.len
end
def ygL(X:Cx)(pn:List (AJ×Bw))(P:St->AG->Hp->Prop):AG->AH->Prop:=λe b=>∃B A H s,Inv (cxP X pn) B A H s/\CX1 X.prog X.w X.stack H s (λa _ c=>P A a c) e b
abbrev yc7(X:Cx)(pn:List (AJ×Bw))(P:St->AG->Hp->Prop):Cx:=(cxP X pn).wish (ygL X pn P)
section
variable {X:Cx}{body suite:List CL}{b₀:CL}{x n:AR}{np hpos pos:CK}{W:AJ}{i:Nat}
def zbv{G:List (AJ×Bw)}{F:St}{H:Hp}{s:AH}{Q:Unit->AH->Prop}{E:AG->AH->Prop}{A:Ai}(I:Inv X G F H s)(j:X.N.Nodup)(c:X.N[i]?=AA n)(b:X.env.scope.names.lookup n=AA .local)(r:i<F.length)
  (h:∀l,Inv X G (F.set i AD) H l->Q Unit.unit l):A1 (model X.prog X.w) A (do bindName X.env n .none;unbindBehindTheSuite X.env n pos) Q E s:=by
 refine AB (G2 (zQ I j c (.inl b) (show RelV .non .none from rfl) (λx o=>?_) (.inr b)));let#[m,p,look]:=o.loc;let#[u,y,t]:=look i n .non c (by rw[Cr];simp[r]) (.inl b);have w:m n=AA u:=by
  rcases t with⟨_,q⟩|⟨z,_⟩
  .exact q
  .rw[show X.env.kindOf n=AA .local from b]at z;rcases z with z|z<;>cases z
 have d:X.env.kindOf n=AA .local:=b;have a:X.env.scope.kind=.function:=I.ok.kind;unfold unbindBehindTheSuite;refine F4 ?_;unfold unbindName deleteName;refine AB (wpAny_point (AB ?_));erw[d,a];refine AB (m:=nsDel X.env.locals n) (wpAny_nsDel_keeps p λB C f g=>?_);rw[w];refine AM (wpAny_point ?_);have J:=o.drop j c p look g f;rw[D4]at J;exact h _ J
def zjt{tb:List (AJ×Bw)->(St->AG->Hp->Prop)->TS}{ts:List (AJ×Bw)->AJ->TS}(Z:∃b,X.stack=X.env::b)(hex0:X.ex=[])(hfr:X.env.frame=AA X.env.locals)(hN:X.N.Nodup)(hi:X.N[i]?=AA n)(hx:X.env.scope.names.lookup n=AA .local)(hgx:Gl X x)(hmx:X.mg x=AA (.ref W))
  (hb:∀pn P,PSs (yc7 X pn P) body (tb pn P)) (hs:∀pn a,PSs (cxS X pn a) (b₀::suite) (ts pn a)) (hdb:(x==("__debug__":AR))=false:=by decide):
  PS X (.Try body [.ExceptHandler (AA (.Name x np)) (AA n) (b₀::suite) hpos] [] [] pos) (λD F H=>∀pn,∃P:St->AG->Hp->Prop,tb pn P D F H/\∀F1 j d,P F1 j d->∃C,j=.ref C/\FB X.K (.ref C) (.ref W)=AA AE /\
   ∀a,d a=AD->ts pn a {nx:=λF2 H2=>D.nx (F2.set i AD) H2,rt:=D.rt} (F1.set i (AA (.ref a))) (upd d a (.ext (ycm a C)))):=by
 intro G s F H D I h;let#[P,N,hex]:=h (X.pn++G);let#[b,O]:=Z;refine wpAny_Try_except (CC (hb (X.pn++G) P [] s F H D (I.toP.wish _) N) (λf g hf=>?_) λe g hx1=>?_)
 .have cv:SP X G D f g:=by
   cases f with
   |next=>
    let#[Q,d,J,q]:=hf;exact#[Q,d,Inv.ofP I.ok J.unwish,q]
   |brk=>
    let#[Q,d,J,q]:=hf;exact#[Q,d,Inv.ofP I.ok J.unwish,q]
   |cont=>
    let#[Q,d,J,q]:=hf;exact#[Q,d,Inv.ofP I.ok J.unwish,q]
   |ret u=>
    let#[v,Q,d,J,r,q]:=hf;exact#[v,Q,d,Inv.ofP I.ok J.unwish,r,q]
  cases f with
  |next=>exact EY cv
  |brk=>exact cv
  |cont=>exact cv
  |ret u=>exact cv
 .let#[pins1,F1,H1,s2,A,a,j,a0,d,B,rfl,os,E,fl,hok,un,hB,tr,hT,hE]:=hx1;let#[C,rfl,hm,l]:=hex F1 j d hE;have A:Inv (cxP X (X.pn++G)) [] F1 H1 s2:=A.pins_of λp hp=>absurd hp (by simp);have frs':X.A.frames=AA (X.env::b):=by rw[<-O];exact I.ok.frames
  have fl0:GF B (X.env::b) a (.ref C) a0 g.heap:=by rw[<-O];exact fl
  refine wpAny_looks_onW frs' hfr fl0 λh1 U up1=>?_;refine wpAny_landsW (s:={g with heap:=h1}) U λh2 Y up2=>?_;have L:g.heap.UpToSlots h2:=up1.trans up2;have I2:Inv (cxP X (X.pn++G)) [] F1 d {g with heap:=h2}:=A.back (t':=g.toks) os E fl hok un hB tr hT Y.1 L;let#[ob,hob,hobc]:=Y.there;have LT:∀M:JW,PySem.W.Looks M h2 (typeOf (.ref a)) (.ref C):=λM=>hobc ▸ (Ji hob).andThen .now;refine wpAny_handleBy_cons (codeAny_handlers_test ?_) (by intro q;cases q);refine zar (X:=cxS X (X.pn++G) a) (I2.toS a) hgx hmx ?_ hdb;refine PySem.W.Looks.at (PySem.W.exm_one I2.kIn (LT _) hm) ?_;rw[if_pos rfl];refine codeAny_handlers_suite_as ?_;refine lands_againW (s:={g with heap:=h2}) Y λh3 t up3=>?_;have up13:=L.trans up3;have I3:Inv (cxP X (X.pn++G)) [] F1 d {g with heap:=h3}:=A.back (t':=g.toks) os E fl hok un hB tr hT t.1 up13;let#[oe,ws,T3,oT,tsx,ge,#[gc,g0],gd,_]:=id t.2.2.2;have nfr:a∉frs X.stack:=λz=>by
   let#[_,o',ho',hd]:=Bi t.2.2.1 (by rw[<-O];exact z);rw[ge]at ho'
   cases ho'
   exact hd ws gd
  have nB:B.get? a=none:=t.2.1;have w:∀o,s2.heap.get? a≠AA o:=λo z=>by
   let#[o',q]:=hT a o z nfr;rw[nB]at q
   cases q
  have nH:d a=none:=by
   cases z:d a with
   |none=>rfl
   |some u=>
    let#[o',q]:=tr a u z;rw[nB]at q
    cases q
  have n0:∀o,X.s₀.heap.get? a≠AA o:=λo z=>by
   have hx':a∉X.ex:=by rw[hex0];simp
   let#[o',q]:=A.base.there a o z hx';exact w o' q
  have nl:a≠X.env.locals:=λz=>by let#[m,hn,_]:=A.loc;let#[ol,_,_,hol,_]:=hn;exact w ol (z ▸ hol)
  have nc:∀y c,X.env.cells.lookup y=AA c->c≠a:=λy c q z=>by let#[v,oc,hoc,_]:=A.cell y c q;exact w oc (z ▸ hoc)
  have np:∀p∈(cxP X (X.pn++G)).pn++[],p.1≠a:=λp hp z=>w p.2 (z ▸ (A.pin p hp).1);have new:yH X.prog X.w (upd d a (.ext (ycm a C))) h3 a (.ext (ycm a C)):=#[#[oe,ge,gc],#[oe,ge],λk1 k2 p q=>p.keep q];have I4:Inv (cxP X (X.pn++G)) [] F1 (upd d a (.ext (ycm a C))) {g with heap:=h3}:=I3.track nH n0 nl nc np new;have hln:i<X.N.length:=(Ao.mp hi).1;refine zQ (X:=cxS X (X.pn++G) a) (I4.toS a) hN hi (.inl hx) (show RelV (.ref a) (.ref a)from rfl) (λs6 I6=>?_) (.inr hx);refine CC (hs (X.pn++G) a [] s6 _ _ _ I6 (l a nH)) (λf s7 hf=>?_) λ_ _ z=>z.elim
  cases f with
  |next=>
   let#[F7,H7,J7,q7]:=hf;have J8:Inv X G F7 H7 s7:=Inv.ofS I.ok J7;exact zbv (pos:=hpos) J8 hN hi hx (by rw[J8.len];exact hln) λs8 J9=>#[_,H7,J9,q7]
  |brk=>
   let#[_,_,_,z]:=hf;exact z.elim
  |cont=>
   let#[_,_,_,z]:=hf;exact z.elim
  |ret u=>
   let#[v,F7,H7,J7,r7,q7]:=hf;have J8:Inv X G F7 H7 s7:=Inv.ofS I.ok J7;exact zbv (pos:=hpos) J8 hN hi hx (by rw[J8.len];exact hln) λs8 J9=>#[v,_,H7,J9,r7,q7]
end
section
variable {S:Se}{X:Cx}{E:St}{B:AJ->Prop}{A A1:Ph}{H H1:Hp}{st:SO}{ρ:IC.Env}{D:Ends}{body suite:List CL}{b₀:CL}{x n:AR}{p p2 np hpos pos cpos:CK}{W:AJ}{i:Nat}{cb ch:Css}{a e:AZ}{es:List AZ}{ca ce:Ce}{ces:Ces}
theorem yC.drop{K:AF}{a:Nat->AJ}(r:yC K a B A H ρ E)(i:Nat):yC K a B A H (ρ.set i AD) (E.set i AD):=by
 refine#[by rw[BD,BD];exact r.len,λj w e=>?_]
 by_cases h:j=i
 .subst h;rw[Cr]at e;erw[if_true]at e;split at e<;>cases e
 .rw[AW (BR h)]at e ⊢;exact r.get j w e
abbrev Se.quiet(S:Se):Se:={S with may:=AC}
def znv{Z:List Nat}(L:∃p,X.stack=X.env::p)(M:X.ex=[])(hfr:X.env.frame=AA X.env.locals)(hN:X.N.Nodup)(hi:X.N[i]?=AA n)(hx:X.env.scope.names.lookup n=AA .local)(hgx:Gl X x)(hmx:X.mg x=AA (.ref W))(hW:∀c∈Z,FB X.K (.ref (S.cl c)) (.ref W)=AA AE)
  (hb:∀pn P,PSs (yc7 X pn P) body (tSs S.quiet (yc7 X pn P) cb)) (hs:∀pn a,PSs (cxS X pn a) (b₀::suite) (tSs S.quiet (cxS X pn a) ch)) (hdb:(x==("__debug__":AR))=false:=by decide):
  PS X (.Try body [.ExceptHandler (AA (.Name x np)) (AA n) (b₀::suite) hpos] [] [] pos) (tS S X (.try cb Z i ch)):=by
 refine(zjt (tb:=λpn P=>tSs S.quiet (yc7 X pn P) cb) (ts:=λpn a=>tSs S.quiet (cxS X pn a) ch) L M hfr hN hi hx hgx hmx hb hs hdb).imp λD E H #[B,A,st,ρ,N,O,h] pn=>?_;erw[ex]at h
 cases q:exs S.call ρ st cb with
 |exc d f b=>
  rw[q]at h;dsimp only at h
  by_cases hd:Z.contains d=AE
  .rw[if_pos hd]at h;refine#[λE1 r u=>r=.ref (S.cl d)/\∃g,Step A H g u/\yj X.K S.cl B g u b/\yC X.K S.cl B g u f E1,#[B,A,st,ρ,N,O,?_],?_]
   .show yaD _ _ _ _ _ (exs S.call ρ st cb) _;rw[q];intro E' A1 H1 e s' U w hx;rcases hx with⟨F,Q,t,A2,I,j,c⟩|⟨m,_⟩|⟨m,_⟩
    .refine#[F,E',Q,t,I.unwish,CX1.mono c λr u z=>?_];let#[z1,g,z2,z3]:=z;exact#[z1,g,(U.trans j).trans z2,z3,(w.step j).step z2]
    .cases m
    .cases m
   .rintro E1 r u ⟨rfl,g,U,C,w⟩
    refine#[S.cl d,rfl,hW d (by simpa using hd),λa Y=>?_];have nB:¬B a:=λz=>by
     let#[o,e]:=C.dom a z;rw[Y]at e
     cases e
    have nφ:AA a∉g:=λz=>by
     let#[o,e]:=C.there z;rw[Y]at e
     cases e
    have s2:Step g u g (upd u a (.ext (ycm a (S.cl d)))):=.upd Y;refine#[B,g,b,f.set i (AA (.exn d)),C.upd Y,(w.step s2).set i ?_,?_]
    .simp only[yd];exact#[a,rfl,zh,nB,nφ]
    .show yaD _ _ _ _ _ (exs S.call (f.set i (AA (.exn d))) b ch) _
     cases j:exs S.call (f.set i (AA (.exn d))) b ch with
     |nx G l=>
      rw[j]at h;intro E' Q A2 s3 J re3;exact h _ Q A2 ((U.trans s2).trans s3) J (re3.drop i)
     |rt v l=>
      rw[j]at h;intro y Q A2 s3 J rv;exact h y Q A2 ((U.trans s2).trans s3) J rv
     |bk G l=>rw[j]at h;exact h.elim
     |ct G l=>rw[j]at h;exact h.elim
     |exc k G l=>rw[j]at h;exact h.elim
     |bad=>rw[j]at h;exact h.elim
  .rw[if_neg hd]at h;exact h.elim
 |nx f b=>
  rw[q]at h;exact#[λ_ _ _=>False,#[B,A,st,ρ,N,O,by show yaD _ _ _ _ _ (exs S.call ρ st cb) _;rw[q];exact h],λ_ _ _ z=>z.elim]
 |rt v b=>
  rw[q]at h;exact#[λ_ _ _=>False,#[B,A,st,ρ,N,O,by show yaD _ _ _ _ _ (exs S.call ρ st cb) _;rw[q];exact h],λ_ _ _ z=>z.elim]
 |bk f b=>
  rw[q]at h;exact#[λ_ _ _=>False,#[B,A,st,ρ,N,O,by show yaD _ _ _ _ _ (exs S.call ρ st cb) _;rw[q];exact h],λ_ _ _ z=>z.elim]
 |ct f b=>
  rw[q]at h;exact#[λ_ _ _=>False,#[B,A,st,ρ,N,O,by show yaD _ _ _ _ _ (exs S.call ρ st cb) _;rw[q];exact h],λ_ _ _ z=>z.elim]
 |bad=>rw[q]at h;exact h.elim
theorem all_nil{P:Nat->Prop}:∀c∈([]:List Nat),P c:=λ_ h=>by cases h
theorem all_cons{P:Nat->Prop}{c:Nat}{a:List Nat}(h:P c)(t:∀d∈a,P d):∀d∈c::a,P d:=λd b=>by
 rcases A8.mp b with e|e
 .exact e ▸ h
 .exact t d e
structure ydl(K:AF)(mg:AR->Option AG)(C:AJ)(x:AR):Prop where
 m:mg x=AA (.ref C)
 q:Gy K C [.type "ValueError",.type "Exception",.type "BaseException",.type "object"] "ValueError.__new__"=AE
def tyZ(a:Nat->AJ):Ty->AG
 |.cls d=>.ref (a d)
 |_=>.type "ValueError"
def ygF(K:AF)(a:Nat->AJ)(c:Nat)(t:Ty):Prop:=B0 K (.ref (a c)) (tyZ a t)=AA (ybl (.exn c) t)
def tJ(S:Se)(X:Cx)(c:Ces):TJ:=λout E H Q=>∃B A st ρ,yj X.K S.cl B A H st/\yC X.K S.cl B A H ρ E/\∃d a z,evs S.call ρ st c=.ok d a/\yb7 out d=AA z/\∀b f,Step A H f b->yj X.K S.cl B f b a->Q (.str z) b
def tF(S:Se)(X:Cx)(c:Ce):TE:=λE H Q=>∃B A st ρ,yj X.K S.cl B A H st/\yC X.K S.cl B A H ρ E/\∃v a y,ev S.call ρ st c=.ok v a/\ybX v=AA y/\∀b d,Step A H d b->yj X.K S.cl B d b a->Q (.str y) b
def zlZ(h:PE X e (tE S X ce)):PE X (.FormattedValue e (-1) AD pos) (tF S X ce):=by
 intro F s E H Q I #[B,A,st,ρ,n,o,v,d,y,p,a,q];refine FormattedValue_plain (thn (h F s E H (λx H1=>∃A1,Step A H A1 H1/\yj X.K S.cl B A1 H1 d/\yd X.K S.cl B A1 H1 v x) I #[B,A,st,ρ,n,o,by rw[p];exact λx D w t r b=>#[w,t,r,b]]) λu G C=>?_);let#[x,H1,g,j,A1,l,c,b]:=C
 cases v with
 |int i=>
  erw[yd]at b;subst b;let#[m,rfl]:=j;erw[ybX]at a;split at a
  .rename_i f
   cases a
   exact formatField_int_small f #[.str _,H1,g.tok _,#[_,rfl],q H1 A1 l c]
  .cases a
 |str z=>
  erw[yd]at b;subst b;let#[m,rfl]:=j;erw[ybX]at a;split at a
  .rename_i f
   cases a
   exact formatField_str (λJ m=>#[.str _,H1,g.tok _,#[_,rfl],q H1 A1 l c]) (by rw[Ap];exact f)
  .cases a
 |_=>cases a
def znN{y:AR}{j:Nat}:PE X (.Constant (.str y) j pos) (tF S X (.cst (.str y))):=zoS.imp λE H Q #[B,A,st,ρ,c,f,v,d,z,b,a,q]=>by
 erw[ev]at b
 cases b
 erw[ybX]at a;split at a
 .cases a;exact q H A .rfl c
 .cases a
def znp:PJ X [] (tJ S X .nil):=λout F s E H Q I #[B,A,st,ρ,c,g,j,d,z,b,a,q]=>by
 erw[IC.vsq0,IC.vsq1]at b
 cases b
 erw[yb7]at a;split at a
 .rename_i f
  cases a
  exact zlR out F s E H Q I #[by rw[Ap];exact f,q H A .rfl c]
 .cases a
def zgx(t:PE X e (tF S X ce))(u:PJ X es (tJ S X ces))(w:evalEach (e::es) X.env=eval e X.env::evalEach es X.env:=by rfl):PJ X (e::es) (tJ S X (.cons ce ces)):=λout F s E H Q I #[B,A,st,ρ,x,p,M,j,z,a,d,q]=>by
 erw[IC.vsq0,IC.vsq1]at a
 cases f:ev S.call ρ st ce with
 |ok v b=>
  rw[f]at a;erw[R.bind]at a
  cases g:evs S.call ρ b ces with
  |ok C l=>
   rw[g]at a;simp only at a
   cases a
   erw[yb7]at d
   cases m:ybX v with
   |none=>rw[m]at d;cases d
   |some y=>
    rw[m]at d;simp only at d;split at d
    .rename_i D;refine zkB t u w out F s E H Q I #[B,A,st,ρ,x,p,v,b,y,f,m,λN G r n=>#[y,rfl,by rw[Ap];exact D,B,G,b,ρ,n,p.step r,C,j,z,g,d,λJ A2 L o=>q J A2 (r.trans L) o]]
    .cases d
  |exc c l=>rw[g]at a;cases a
  |bad=>rw[g]at a;cases a
 |exc c b=>rw[f]at a;cases a
 |bad=>rw[f]at a;cases a
def zml{f g:AZ}{rest:List AZ}(h:PJ X (f::g::rest) (tJ S X ces)):PE X (.JoinedStr (f::g::rest) pos) (tE S X (.fst ces)):=(zhf h).imp λE H Q #[B,A,st,ρ,l,m,h]=>by
 erw[ev]at h
 cases b:evs S.call ρ st ces with
 |ok j a=>
  rw[b]at h;erw[ydD]at h
  cases d:yb7 C6 j with
  |none=>rw[d]at h;exact h.elim
  |some z=>
   rw[d]at h;exact#[B,A,st,ρ,l,m,j,a,z,b,d,λn o t r=>h _ n o t r (by erw[yd])]
 |exc c a=>rw[b]at h;exact h.elim
 |bad=>rw[b]at h;exact h.elim
end
def zG:fillsNumberSlot (.type "tuple") "mul"=pure false:=
 PySem.fillsNumberSlot_seq (id:="tuple.__mul__") (r:=AA (.builtin "tuple.__rmul__")) C3.lookup (by decide +kernel) Fg.lookup (by decide +kernel)
def zab:seqRepeat? (.type "tuple")=pure (AA (.builtin "tuple.__mul__")):=by unfold seqRepeat?;rw[Hn (T:="tuple") (name:="__mul__") (id:="tuple.__mul__") C3.lookup (by decide +kernel),Hn (T:="tuple") (name:="__rmul__") (id:="tuple.__rmul__") Fg.lookup (by decide +kernel)];rfl
def zS(a:Int)(t:Hw)(l:AJ)(items:Array AG)(n:Nat)(c:Option AJ)(sl:Array (Option AG)):
  JB (C1.«int.__rmul__» #[[.int a t,.ref l],[]]) (λ_ R s=>s.heap.get? l=AA {cls:=.type "tuple",dict:=c,data:=.seq items n,slots:=sl}/\R (.ok (.ret Value.notImplemented)) s):=
 .of_wp λb w A R s h=>by let#[f,g,d,j,os]:=s;let#[m,h]:=h;wp_walk;exact#[_,rfl,h]
def ze1(l:AJ)(items:Array AG)(n:Nat)(p:Option AJ)(sl:Array (Option AG))(x:Int)(u:Hw)(a:¬(decide (x < -(2^63)) || decide (x ≥ 2^63))=AE)(b:¬(items.isEmpty || x==1)=AE)(c:¬(decide (x<=0) || items.isEmpty)=AE)(f:¬(items.size:Int)*x > (2^63-1)/8)(j:¬FD ((items.size:Int)*x)=AE)
  (hsz:((AT x.toNat items).foldl (·++·) (List.toArray [])).size<=sizeLine):
  JB (C1.«tuple.__mul__» #[[.ref l,.int x u],[]]) (λ_ R s=>s.heap.get? l=AA {cls:=.type "tuple",dict:=p,data:=.seq items n,slots:=sl}/\R (.ok (.ret (Ag s.heap.objs.size))) {s with heap:=s.heap.push {cls:=Eh "tuple",data:=J2 ((AT x.toNat items).foldl (·++·) (List.toArray []))},toks:=s.toks}):=
 .of_wp λo w A R s h=>by
  let#[q,g,d,r,os]:=s;let#[t,h]:=h;have z:=Fh;have B:=De
  have y:G1 (#[q,g,d,r,os]:AH).heap l items:=#[_,t,rfl,n,rfl]
  wp_walk
  rw[if_neg a];refine AB (Ci y ?_);rw[if_neg b];rw[if_neg c];rw[if_neg f];rw[if_neg j];exact AB (m:=BE _) (Am (AM #[_,rfl,h]) hsz)
def zeU(l:AJ)(items:Array AG)(n:Nat)(b:Option AJ)(sl:Array (Option AG))(u:Hw):
  JB (C1.«tuple.__mul__» #[[.ref l,.int 1 u],[]]) (λ_ R s=>s.heap.get? l=AA {cls:=.type "tuple",dict:=b,data:=.seq items n,slots:=sl}/\R (.ok (.ret (Ag l))) s):=
 .of_wp λa w A R s h=>by
  let#[c,g,d,f,os]:=s;let#[j,h]:=h;have m:=Fh;have o:=De
  wp_walk
  exact#[_,rfl,h]
def ze9(l:AJ)(items:Array AG)(n:Nat)(j:Option AJ)(sl:Array (Option AG))(x:Int)(u:Hw)(a:¬(decide (x < -(2^63)) || decide (x ≥ 2^63))=AE)(b:¬(items.isEmpty || x==1)=AE)(c:(decide (x<=0) || items.isEmpty)=AE):
  JB (C1.«tuple.__mul__» #[[.ref l,.int x u],[]]) (λ_ R s=>s.heap.get? l=AA {cls:=.type "tuple",dict:=j,data:=.seq items n,slots:=sl}/\R (.ok (.ret (Ag s.heap.objs.size))) {s with heap:=s.heap.push {cls:=Eh "tuple",data:=J2 (List.toArray [])},toks:=s.toks}):=
 .of_wp λf w A R s h=>by
  let#[o,g,d,p,os]:=s;let#[q,h]:=h;have t:=Fh;have y:=De
  have r:G1 (#[o,g,d,p,os]:AH).heap l items:=#[_,q,rfl,n,rfl]
  wp_walk
  rw[if_neg a];refine AB (Ci r ?_);rw[if_neg b];rw[if_pos c];exact AB (m:=BE _) (Am (AM #[_,rfl,h]) (show ((List.toArray []):Array AG).size<=sizeLine from BB _))
def zbM(a:List AG):∀k:Nat,(AT k a.toArray).foldl (·++·) (List.toArray [])=((AT k a).flatten).toArray:=λk=>by have:=listMul_foldl a.toArray k (List.toArray []);simpa using this
theorem Vals.repN{xs:List V}{us:List AG}(r:Vals xs us):∀k:Nat,Vals (AT k xs).flatten (AT k us).flatten
 |0=>.nil
 |k+1=>by rw[BP,BP,Be,Be];exact r.append (Vals.repN r k)
section
variable {S:Se}{X:Cx}{p pos p2 px apos:CK}{a b:AZ}{ca cb:Ce}
def zj3:OpR X (binaryOp .Mult) (λx y H Q=>∃a d n,x=.ref a/\y=.int n/\SqT X.K H a d/\d≠[]/\2<=n/\n<=1000/\d.length<=1000/\∀p,H p=AD->Q (.ref p) (upd H p (.tup (AT n.toNat d).flatten))):=by
 intro E s D H x y v u Q I M N h;let#[a,d,n,rfl,rfl,O,Y,h2,hn,hz,q]:=h
 cases M
 let#[t,rfl]:=N;let#[c,l,Z,_]:=I.tuple O;let#[#[cls,A,B,C],f,G,m,J]:=id Z;simp only at G J;subst G J;have hl:=l.length;have g:c≠[]:=λz=>Y (l.nil_iff.mp z);have L:c.length*n.toNat<=1000*1000:=BK () ();have r:(c.length:Int)*n<=1000000:=by
  have:((c.length*n.toNat:Nat):Int)=(c.length:Int)*n:=by rw[Int.natCast_mul,Int.toNat_of_nonneg ()]
  lia
 have w:∀k,((AT k c).flatten).length=k*c.length:=λk=>by simp
 have j:((AT n.toNat d).flatten).length<=sizeLine:=by rw[List.length_flatten,Ap];erw[List.map_replicate,List.sum_replicate_nat];rw[hl,HS];lia
 refine CN (T:="tuple") (U:="int") ⋯ #[_,f,rfl] (λs'=>DS s' n t) zG D3 Bm zab DP.lookup
  (Cd Bm (DS s n t) DQ (DF _ _) (zS n t a c.toArray m A C)
   #[f,rfl,#[_,f,rfl],Cd C3 #[_,f,rfl] Dn (Dg _ _)
    (ze1 a c.toArray m A C n t (by simp;lia) (by simp[g];lia) (by simp[g];lia) (by erw[AX];lia) (by erw[FD,AX];simp[Ap];lia) (by rw[zbM,AX,w,Ap,HS];lia)) #[f,?_]])
 rw[zbM];refine#[.ref s.heap.objs.size,_,I.laid (t':=s.toks) (o:=.tup (AT n.toNat d).flatten) (λb ob q=>AL _ q) (AU _) ?_,rfl,q _ (I.hok.fresh (AU _))];exact#[j,_,l.repN n.toNat,AQ _ rfl]
def zkr:OpR X (binaryOp .Mult) (λx y H Q=>∃a d,x=.ref a/\y=.int 1/\SqT X.K H a d/\Q (.ref a) H):=by
 intro E s D H x y v u Q I o p h;let#[a,d,rfl,rfl,r,q]:=h
 cases o
 let#[t,rfl]:=p;let#[b,B,w,_]:=I.tuple r;let#[#[z,f,g,j],c,l,m,n]:=id w;simp only at l n;subst l n;exact CN (T:="tuple") (U:="int") ⋯ #[_,c,rfl] (λA=>DS A 1 t) zG D3 Bm zab DP.lookup
  (Cd Bm (DS s 1 t) DQ (DF _ _) (zS 1 t a b.toArray m f j)
   #[c,rfl,#[_,c,rfl],Cd C3 #[_,c,rfl] Dn (Dg _ _) (zeU a b.toArray m f j t) #[c,#[.ref a,H,I,rfl,q]]])
def zkE:OpR X (binaryOp .Mult) (λx y H Q=>∃a f,x=.ref a/\y=.int 0/\SqT X.K H a f/\f≠[]/\∀p,H p=AD->Q (.ref p) (upd H p (.tup []))):=by
 intro E s D H x y v u Q I A B h;let#[a,f,rfl,rfl,C,G,q]:=h
 cases A
 let#[t,rfl]:=B;let#[c,J,L,_]:=I.tuple C;let#[#[M,j,l,n],d,r,m,w]:=id L;simp only at r w;subst r w;have g:c≠[]:=λz=>G (J.nil_iff.mp z);refine CN (T:="tuple") (U:="int") ⋯ #[_,d,rfl] (λN=>DS N 0 t) zG D3 Bm zab DP.lookup
  (Cd Bm (DS s 0 t) DQ (DF _ _) (zS 0 t a c.toArray m j n)
   #[d,rfl,#[_,d,rfl],Cd C3 #[_,d,rfl] Dn (Dg _ _)
    (ze9 a c.toArray m j n 0 t (by simp) (by simp[g]) (by simp)) #[d,?_]])
 refine#[.ref s.heap.objs.size,_,I.laid (t':=s.toks) (o:=.tup []) (λb O q=>AL _ q) (AU _) ?_,rfl,q _ (I.hok.fresh (AU _))];exact#[BB _,_,.nil,AQ _ rfl]
theorem ye.rep{K:AF}{a:Nat->AJ}{B:AJ->Prop}{C:Ph}{H:Hp}{vs:List PV}{xs:List V}(l:ye K a B C H vs xs):∀k:Nat,ye K a B C H (AT k vs).flatten (AT k xs).flatten
 |0=>by simp[ye]
 |k+1=>by rw[BP,BP,Be,Be];exact l.append (ye.rep l k)
def zdb(a:Array Nat):∀(k:Nat) (acc:Array Nat),((AT k a).foldl (·++·) acc).toList=acc.toList++(AT k a.toList).flatten
 |0,acc=>by simp
 |k+1,acc=>by rw[BP,DE,zdb a k (acc++a)];simp[BP]
def zlJ{x:AR}{n:Int}(a:1<=n)(b:1<=x.length):Txt.mul x n=#[(AT n.toNat x.cps.toList).flatten.toArray]:=by
 unfold Txt.mul;rw[if_neg ()]
 by_cases q:n=1
 .subst q;rw[if_pos (by simp)]
  cases x
  simp
 .have:(n==1 || x.length==0)=false:=by simp[q];lia
  rw[if_neg (by rw[this];simp)]
  congr 1
  apply EO.mp;rw[zdb];simp
def zjv{x:AR}{n:Int}(c:1<=n)(d:n<=1000)(f:x.length<=1000)(g:1<=x.length){E:List (AJ×Bw)}{s:AH}{D:St}{H:Hp}{t u:Hw}{Q:VK}(I:Inv X E D H s)(q:Q (.str #[(AT n.toNat x.cps.toList).flatten.toArray]) H):
  A1 (model X.prog X.w) X.A (binaryOp .Mult (.str x t) (.int n u)) (EP X E D Q) X.xe s:=by
 have j:x.length*n.toNat<=1000*1000:=BK f ();refine SB.mul #[by rw[decide_eq_false (),decide_eq_false ()];rfl,λ_ _=>?_,λ_ _=>?_] λl k=>?_
 .have m:(x.length:Int)*n<=1000*1000:=G6 () d () ();have:=(GJ (a:=(x.length:Int)) (b:=2^63-1) (show (0:Int)<n by lia)).2 ();lia
 .unfold Builtin.Str.tooLong;rw[Ap];exact decide_eq_false ()
 .rw[zlJ c g];exact#[.str _,H,I.tok k,#[_,rfl],q]
def znf:OpR X (binaryOp .Mult) (rT2 S X yc4):=by
 rintro E s D H x y v u Q I r w ⟨B,C,st,a,b,z,j,f,g,e,q⟩
 unfold yc4 at e;split at e
 .rename_i a n;split at e
  .rename_i c
   cases e
   erw[yd]at f g;subst f g;let#[M,rfl]:=r;let#[N,rfl]:=w;exact zjv c.1 c.2.1 c.2.2.1 c.2.2.2 I (q _ H C .rfl j (by erw[yd]))
  .cases e
 .rename_i k J n;split at e
  .rename_i c
   cases e
   subst c;erw[yd]at g;have A:=f;erw[yd]at A;let#[p,m,rfl,o,l]:=A;exact zkr E s D H _ _ v u Q I r w #[p,m,rfl,g,o.sq,q _ H C .rfl j f]
  split at e
  .rename_i c
   cases e
   erw[yd]at f g;subst g;let#[p,m,rfl,o,l]:=f;have G:=l.length;refine zj3 E s D H _ _ v u Q I r w #[p,m,n,rfl,rfl,o.sq,?_,c.1,c.2.1,by rw[<-G];exact c.2.2.2,λt d=>q _ _ C (.upd d) (j.upd d) (.tup_new d j (l.rep n.toNat))]
   rintro rfl
   cases J with
   |nil=>exact absurd c.2.2.1 (by simp)
   |cons _ _=>simp at G
  split at e
  .rename_i c
   cases e
   erw[yd]at f g;subst g;let#[p,m,rfl,o,l]:=f;have G:=l.length;let#[rfl,L]:=c;refine zkE E s D H _ _ v u Q I r w #[p,m,rfl,rfl,o.sq,?_,λt d=>q _ _ C (.upd d) (j.upd d) (.tup_new d j (by simp[ye]))]
   rintro rfl
   cases J with
   |nil=>exact absurd L (by simp)
   |cons _ _=>simp at G
  .cases e
 .rename_i J n;split at e
  .rename_i c
   cases e
   erw[yd]at f g;subst g;let#[p,m,rfl,o,l]:=f;have G:=l.length;have O:m.length*n.toNat<=1000*1000:=BK () ();exact zmf E s D H _ _ v u Q I r w #[p,n,m,rfl,rfl,o.1,by lia,by lia,by rw[Ap];lia,λt d=>q _ _ C (.upd d) (j.upd d) (.lst_new d j (l.rep n.toNat))]
  .cases e
 .cases e
def zm7(j:PE X a (tE S X ca))(l:PE X b (tE S X cb)):PE X (.BinOp a .Mult b pos) (tE S X (.rep ca cb)):=
 (znx znf j l).imp λD H Q #[B,C,st,E,m,n,h]=>by erw[ev]at h;refine tE.bind m n h λx G v o C1 I d f p r=>tE.bind d f r λy J w g C2 t c u rw A=>?_;let#[z,e,q]:=zq A c;exact#[B,C2,g,v,w,z,c,p.step t,rw,e,q]
end
end L2
namespace WE
open PySem PySem.Spec PyProof.Rows
section
variable {prog:A6}{w:Ah}{A:Ai}{E:AG->AH->Prop}{s:AH}
def za4:isSubtype (.type "range_iterator") (.type "reversed")=pure false:=by rw[EC];kernel_rfl
abbrev rgI(n:Int):Obj:={cls:=.type "range_iterator",data:=.fields (List.toArray [rawInt (n-1),rawInt n,rawInt (-1)])}
def zbC{r:AJ}{n:Int}{t u v:Hw}{Q:AG->AH->Prop}(b:IsRange s.heap r 0 n 1 t u v)(g:0<=n)(j:n<1000000000)
  (h:Q (.ref s.heap.objs.size) {s with heap:=s.heap.push (rgI n)}):A1 (model prog w) A (call (.builtin "range.__reversed__") [.ref r]) Q E s:=by
 have d:s.TypeIs (.ref r) "range":=#[_,b,rfl];refine BY EI d F.entry_range_reversed ?_ (F.args_range_reversed_1 _);unfold C1.«range.__reversed__»;refine AB (Ba (a:=Ag r) rfl ?_);refine AB ?_;unfold Il;refine AB (Aq b rfl (x:=.int 0 t) rfl ?_);refine AB (Ba (a:=AA (0:Int)) rfl ?_);refine AB (Aq b rfl (x:=.int n u) rfl ?_);refine AB (Ba (a:=AA n) rfl ?_);refine AB (Aq b rfl (x:=.int 1 v) rfl ?_);refine AB (Ba (a:=AA (1:Int)) rfl ?_);refine AM ?_;have e:Fa 0 n 1=n:=by rw[rangeSize_one];split<;>lia
 try dsimp only
 rw[e];have c:(BW 0&&BW n&&BW 1&&BW (-1)&&BW (0-1)&&BW n)=true:=by erw[BW,AK,decide_eq_true_eq];lia
 rw[c];erw[ET,Aw,if_false,if_true];refine AB (Am (AM #[_,rfl,?_]));have f:(0:Int)+(n-1)*1=n-1:=by lia
 rw[f];exact h
def zbz{r:AJ}{n:Int}{t u v:Hw}{Q₁:AG->AH->Prop}(b:IsRange s.heap r 0 n 1 t u v)(c:0<=n)(d:n<1000000000)(h:Q₁ (.ref s.heap.objs.size) {s with heap:=s.heap.push (rgI n)}):
  codeAny (model prog w) A (.call (.builtin "reversed.__new__") #[[.type "reversed",.ref r],[]]) (wants Q₁ E) s:=by
 have f:s.TypeIs (.ref r) "range":=#[_,b,rfl];refine codeAny_of_tree ?_;show A1 _ A.in1 (do checkBuiltinCall "reversed.__new__" #[[.type "reversed",.ref r],[]];again (.builtin "reversed.__new__" #[[.type "reversed",.ref r],[]])) _ _ s;refine AB (Ba (G7 _) (AM #[plainId_quiet G8 _,GO G9 ?_]));rw[EW G8 _];unfold C1.«reversed.__new__»;refine AB (Ba (Hb _) ?_)
 try dsimp only
 refine AB (Ba (a:=Unit.unit) (by first|rfl|kernel_rfl) ?_);refine AB (Ba (a:=Unit.unit) (by first|rfl|kernel_rfl) ?_)
 try dsimp only
 refine AB (Cj f EI.lookup ?_)
 try dsimp only
 refine AB (Ba (EI.bind _) ?_)
 try dsimp only
 show A1 _ _ (if (Iy "range.__reversed__" == BJ)=AE then _ else _) _ _ _;rw[if_neg (show ¬((Iy "range.__reversed__" == BJ)=AE)from A3)];refine AB (EL ?_);refine AB (m:=runValue (.call (.builtin "range.__reversed__") #[[.ref r],[]])) (show A1 _ _ (call (.builtin "range.__reversed__") [.ref r]) _ _ _ from zbC b c d ?_)
 first
 |exact AM h
 |exact AB (AM (AM h))
theorem call_rev_range{r:AJ}{n:Int}{t u v:Hw}{Q:AG->AH->Prop}(c:IsRange s.heap r 0 n 1 t u v)(d:0<=n)(f:n<1000000000)
  (h:Q (.ref s.heap.objs.size) {s with heap:=s.heap.push (rgI n)}):A1 (model prog w) A (call (.type "reversed") [.ref r]) Q E s:=by
 refine callType_other (U:="range_iterator") (Q₁:=λb a=>b=.ref s.heap.objs.size/\a={s with heap:=s.heap.push (rgI n)}) (by decide +kernel) F.create_reversed #[_,_,Ih] II za4 (GT _) (zbz c d f #[rfl,rfl]) ?_
 rintro b a ⟨rfl,rfl⟩
 exact#[#[_,AQ _ rfl,rfl],h]
def zcA:isSubtype (.type "tuple") (.type "dict")=pure false:=by rw[EC];kernel_rfl
def zbB:typeLookup (.type "tuple") "__reversed__"=pure none:=by rw[E5,DM];kernel_rfl
abbrev rvT(t:AJ)(i:Int):Obj:={cls:=.type "reversed",data:=.fields (List.toArray [.ref t,rawInt i])}
def IsRvT(h:Au)(a t:AJ)(i:Int):Prop:=∃o,h.get? a=AA o/\o.cls=.type "reversed"/\o.data=.fields (List.toArray [.ref t,rawInt i])
def zcV:Slot "reversed" "__init__" "object.__init__" :=
 .of (owner:="object") (n:="__init__") (by rw[E5,DM];kernel_rfl) (by decide +kernel) (by decide +kernel) (by decide +kernel)
  (by first|exact .inl (by decide +kernel)|exact .inr (by decide +kernel)) (by rw[EC];kernel_rfl)
def zfl:TypeCalled "reversed" "reversed.__new__" "object.__init__" :=
 #[by decide +kernel,by decide +kernel,#[_,_,Ih],II,by decide +kernel,F.sub_reversed_self,zcV]
def zfg(t:AJ)(items:Array AG)(f:items.size<=sizeLine):
  JB (C1.«reversed.__new__» #[[.type "reversed",.ref t],[]]) (λ_ R s=>G1 s.heap t items/\∀g,R (.ok (.ret (.ref s.heap.objs.size))) {s with heap:=s.heap.push (rvT t ((items.size:Int)-1)),toks:=g}):=
 .of_wp λprog w A R s h=>by
  let#[d,h]:=h;have c:s.TypeIs (.ref t) "tuple":=d.typeIs;unfold C1.«reversed.__new__»;refine AB (Ba (Hb _) ?_)
  try dsimp only
  refine AB (Ba (a:=Unit.unit) (by first|rfl|kernel_rfl) ?_);refine AB (Ba (a:=Unit.unit) (by first|rfl|kernel_rfl) ?_)
  try dsimp only
  refine AB (Cj c zbB ?_)
  try dsimp only
  refine AB ?_;show A1 _ _ (isInstance (.ref t) (.type "dict") >>= _) _ _ _;refine AB (EK (T:="tuple") (U:="dict") (b:=AC) c zcA ?_);show A1 _ _ (specialOf (.ref t) "__getitem__" >>= _) _ _ _;refine AB (Cj c Ga.lookup ?_);show A1 _ _ (if (["tuple.__getitem__","str.__getitem__","bytes.__getitem__","bytearray.__getitem__","memoryview.__getitem__","numpy.ndarray.__getitem__","sqlite3.Row.__getitem__"].contains "tuple.__getitem__")=AE then _ else _) _ _ _;rw[if_pos ⋯];refine AM ?_;erw[ET,Aw,if_false];refine AB (Hy d (by erw[Ap]at f;lia) ?_);refine AB (Ba (a:=AA (items.size:Int)) rfl ?_)
  try dsimp only
  refine AB ?_;unfold IJ;exact Am (AM #[_,rfl,h _])
theorem call_rev_tuple{t:AJ}{items:Array AG}{Q:AG->AH->Prop}(c:G1 s.heap t items)(d:items.size<=sizeLine)
  (h:∀a,Q (.ref s.heap.objs.size) {s with heap:=s.heap.push (rvT t ((items.size:Int)-1)),toks:=a}):A1 (model prog w) A (call (.type "reversed") [.ref t]) Q E s:=
 HV zfl ⋯ (GT _) (G7 _) (λb=>F.initArgs_range_1 b _) G9 (zfg t items d) #[c,λa=>#[#[_,AQ _ rfl,rfl],h a]]
theorem IsRvT.typeIs{a t:AJ}{i:Int}(x:IsRvT s.heap a t i):s.TypeIs (.ref a) "reversed":=let #[o,b,c,_]:=x;#[o,b,c]
def zoI:Slot "reversed" "__next__" "reversed.__next__" :=
 .of (owner:="reversed") (n:="__next__") (by rw[E5,DM];kernel_rfl) (by decide +kernel) (by decide +kernel) (by decide +kernel)
  (by first|exact .inl (by decide +kernel)|exact .inr (by decide +kernel)) (by rw[EC];kernel_rfl)
def zaG:entryFor table "reversed.__next__"=AA C1.«reversed.__next__»:=entryFor_of_tree (by kernel_rfl)
def za0(a:AG):argsOk "reversed.__next__" #[[a],[]]:=by unfold argsOk;kernel_rfl
def zaW:Slot "reversed" "__iter__" "reversed.__iter__" :=
 .of (owner:="reversed") (n:="__iter__") (by rw[E5,DM];kernel_rfl) (by decide +kernel) (by decide +kernel) (by decide +kernel)
  (by first|exact .inl (by decide +kernel)|exact .inr (by decide +kernel)) (by rw[EC];kernel_rfl)
def zb8:entryFor table "reversed.__iter__"=AA C1.«dict_keyiterator.__iter__» :=
 entryFor_alias (id':="dict_keyiterator.__iter__") (by kernel_rfl) rfl (by decide +kernel) (by kernel_rfl)
def zcD(a:AG):argsOk "reversed.__iter__" #[[a],[]]:=by unfold argsOk;kernel_rfl
theorem rvT_item{c t:AJ}{i:Nat}{items:Array AG}{x:AG}{Q:Option AG->AH->Prop}(b:IsRvT s.heap c t (i:Int))(n:G1 s.heap t items)(g:items[i]?=AA x)(p:items.size<=sizeLine)
  (r:∀l u,IsRvT l c t ((i:Int)-1)->C0 c s.heap l->Q (AA x) {s with heap:=l,toks:=u}):A1 (model prog w) A (pyNext (.ref c)) Q E s:=by
 let#[o,f,y,d]:=id b;have z:s.TypeIs (.ref t) "tuple":=n.typeIs;unfold pyNext;refine AB (EU (BO (name:=AI "__next__") b.typeIs zoI
  (BY zoI b.typeIs zaG ?_ (za0 _))))
 unfold C1.«reversed.__next__»;refine AB (Ba (a:=(Ag c,[])) rfl ?_)
 try dsimp only
 refine AB (Aq f d (x:=.ref t) rfl ?_);refine AB (Aq f d (x:=rawInt (i:Int)) rfl ?_);show A1 _ _ (if (i:Int)<0 then _ else _) _ _ s;rw[if_neg ()];refine AB (Cj z Ga.lookup ?_);erw[Option.isNone_some,Aw,if_false];refine AB (wpAny_mkInt ?_);have B:i<items.size:=by
  rcases Ct i items.size with q|q
  .exact q
  .rw[Array.getElem?_eq_none q]at g;cases g
 have m:G1 ({s with toks:=s.toks+1}:AH).heap t items:=n;refine AB (EU (Gj m () (by erw[Ap]at p;lia) (j:=i) (by unfold seqIndex?;simp;lia) g ?_))
 try dsimp only
 refine AB (Aq f d (x:=rawInt (i:Int)) rfl ?_);show A1 _ _ (setField (.ref c) 1 (rawInt ((i:Int)-1)) >>= _) _ _ _;refine AB (DU f d (by simp) ?_);refine AM #[x,rfl,AM (r _ _ ?_ (Cw ..))];exact#[_,DL _ f (EG (Cg d _)),(HU ..).trans y,by rw[Cg d];simp]
theorem rvT_end{c t:AJ}{Q:Option AG->AH->Prop}(l:A.handled=AD)(d:IsRvT s.heap c t (-1))
  (p:∀n,J3 c s.heap n->Q AD {s with heap:=n}):A1 (model prog w) A (pyNext (.ref c)) Q E s:=by
 let#[o,g,u,f]:=id d;unfold pyNext;refine AB (EU (BO (name:=AI "__next__") d.typeIs zoI
  (BY zoI d.typeIs zaG ?_ (za0 _))))
 unfold C1.«reversed.__next__»;refine AB (Ba (a:=(Ag c,[])) rfl ?_)
 try dsimp only
 refine AB (Aq g f (x:=.ref t) rfl ?_);refine AB (Aq g f (x:=rawInt (-1)) rfl ?_);show A1 _ _ (if (-1:Int)<0 then _ else _) _ _ s;rw[if_pos ⋯];refine AB (EL ?_);refine AB ?_;show A1 _ _ (setField (.ref c) 1 (rawInt (-1)) >>= _) _ _ _;refine AB (DU g f (by simp) ?_);have q:(o.mapFields (·.setIfInBounds 1 (rawInt (-1)))).data=.fields (List.toArray [.ref t,rawInt (-1)]):=by rw[Cg f];simp
 have j:=DL (λo=>o.mapFields (·.setIfInBounds 1 (rawInt (-1)))) g (EG (Cg f _));refine DU j q (by simp) ?_;refine AB ?_;show A1 _ _ (newExc (.type "StopIteration") [] >>= _) _ _ _;refine AB ?_;erw[newExc,newTuple];refine AB (Am ?_ (by size_fits));refine AB (m:=firstArgMember _ _) (Ba (a:=BJ) (by first|rfl|(erw[firstArgMember];rfl)) ?_);refine Am ?_ (by size_fits);erw[raiseNew];refine AB (wpAny_handled ?_)
 first|rw[show A.in1.handled=AD from l]|rw[l]
 refine AB (AM (wpAny_throw ?_));refine AB (EK (T:="StopIteration") (b:=AE) #[_,AQ _ rfl,rfl] isSubtype_stop ?_);have r:C0 c s.heap ((s.heap.update c λo=>o.mapFields (·.setIfInBounds 1 (rawInt (-1)))).update c (Iw (·.setIfInBounds 0 .none))):=(Cw ..).trans (Cw ..);exact AM (p _ ((r.extBut.push _).push _))
theorem rvT_iter{b t:AJ}{i:Int}{Q:AG->AH->Prop}(a:IsRvT s.heap b t i)(h:Q (.ref b) s):A1 (model prog w) A (pyIter (.ref b)) Q E s:=by refine wpAny_pyIter_slot a.typeIs zaW (BY zaW a.typeIs zb8 ?_ (zcD _));show A1 _ _ (ret (.ref b)) _ _ s;exact AM #[_,rfl,"reversed",_,a.typeIs,zoI.lookup,h]
end
end WE
namespace L2
open PySem PySem.Spec PyProof.Rows
def ItR(K:AF)(a:AJ)(n:Nat):It:=
 #[λi H=>∃b x,SqT K H a b/\b.length=n/\b.reverse[i]?=AA x,λi H x c=>c=H/\∀b,SqT K H a b->b.reverse[i]?=AA x,λi H=>n<=i]
def zaQ{A:Type}{xs:List A}{i:Nat}{x:A}(h:xs.reverse[i]?=AA x):i<xs.length/\xs[xs.length-1-i]?=AA x:=by
 have a:i<xs.length:=by
  rcases Ct i xs.length with q|q
  .exact q
  .rw[BA (by simpa using q)]at h;cases h
 exact#[a,by rw[<-h,GU a]]
def zg4{P:A6}{w:Ah}{K:AF}{tg:AZ}(a g:AJ)(n:Nat):Turn P w K tg (ItR K a n) [g] g (λi h=>i<=n/\WE.IsRvT h g a ((n:Int)-1-i)) where
 mem:=by simp
 obj:=λi h st b j=>by
  have e:b=g:=by simpa using j
  subst e;let#[_,o,e,c,d]:=st;exact#[o,e,λv z=>by rw[d]at z;cases z]
 keep:=λi h q st k=>by let#[l,o,e,r]:=st;exact#[l,o,k g (by simp) o e,r]
 item:=by
  intro X y C D Q i B s A H E I hf st t;subst y C D;let#[U,x,Y,hn,Z]:=t;let#[its,rv,p,hz]:=I.tuple Y;let#[hi,G]:=zaQ Z;let#[u,hu,ru]:=rv.get G;have hl:=rv.length;let#[J,L,f2,M,N,O]:=hf g (by simp);have e:(n:Int)-1-(i:Int)=((U.length-1-i:Nat):Int):=by lia
  have f:=st.2;rw[e]at f;refine WE.rvT_item f p (x:=u) (by simpa using hu) (by erw[AX];lia) λq tk m sb=>?_;have e2:((U.length-1-i:Nat):Int)-1=(n:Int)-1-((i+1:Nat):Int):=by lia
  rw[e2]at m;have I1:Inv X B A H {s with heap:=q,toks:=tk}:=I.turned (λb o j e=>(sb.2 b j).trans e) J L M N O;let#[o,e,c,d]:=id m;exact#[u,rfl,zdH (s:={s with heap:=q,toks:=tk}) e c d ⋯ #[x,H,I1,ru,#[rfl,λys hy=>by rw[I.tuple_inj hy Y];exact Z],#[by lia,m],λb j=>(hf b j).1]]
 done:=by
  intro X y C D Q i B s A H E I hf st t;subst y C D;let#[J,L,f2,M,N,O]:=hf g (by simp);have t:n<=i:=t;have e:(n:Int)-1-(i:Int)=-1:=by have:=st.1;lia
  have f:=st.2;rw[e]at f;exact WE.rvT_end (I.ok.hd Q) f λq eb=>#[rfl,I.turned (t':=s.toks) (λb o j e=>eb b o j e) J L M N O]
 self:=λ_ _ _ _ _ st h=>WE.rvT_iter st.2 h
def ItS(K:AF)(a:AJ)(n:Nat):It:=
 #[λi H=>∃b x,SqL K H a b/\b.length=n/\b.reverse[i]?=AA x,λi H x c=>c=H/\∀b,SqL K H a b->b.reverse[i]?=AA x,λi H=>n<=i]
def zfs{P:A6}{w:Ah}{K:AF}{tg:AZ}(a g:AJ)(n:Nat):Turn P w K tg (ItS K a n) [g] g (λi h=>i<=n/\h.IsRevIter g a ((n:Int)-1-i)) where
 mem:=by simp
 obj:=λi h st b j=>by
  have e:b=g:=by simpa using j
  subst e;let#[_,o,e,c,d]:=st;exact#[o,e,λv z=>by rw[d]at z;cases z]
 keep:=λi h q st k=>by let#[l,o,e,r]:=st;exact#[l,o,k g (by simp) o e,r]
 item:=by
  intro X y C D Q i B s A H E I hf st t;subst y C D;let#[U,x,Y,hn,Z]:=t;let#[its,rv,p,hz]:=I.list Y;let#[hi,G]:=zaQ Z;let#[u,hu,ru]:=rv.get G;have hl:=rv.length;let#[J,L,f2,M,N,O]:=hf g (by simp);have e:(n:Int)-1-(i:Int)=((U.length-1-i:Nat):Int):=by lia
  have f:=st.2;rw[e]at f;refine wpAny_pyNext_rev_item f p.isList (x:=u) (by simpa using hu) λq m sb=>?_;have e2:((U.length-1-i:Nat):Int)-1=(n:Int)-1-((i+1:Nat):Int):=by lia
  rw[e2]at m;have I1:Inv X B A H {s with heap:=q}:=I.turned (t':=s.toks) (λb o j e=>(sb.2 b j).trans e) J L M N O;let#[o,e,c,d]:=id m;exact#[u,rfl,zdH (s:={s with heap:=q}) e c d ⋯ #[x,H,I1,ru,#[rfl,λys hy=>by rw[I.list_inj hy Y];exact Z],#[by lia,m],λb j=>(hf b j).1]]
 done:=by
  intro X y C D Q i B s A H E I hf st t;subst y C D;let#[J,L,f2,M,N,O]:=hf g (by simp);have t:n<=i:=t;have e:(n:Int)-1-(i:Int)=-1:=by have:=st.1;lia
  have f:=st.2;rw[e]at f;exact wpAny_pyNext_rev_end (I.ok.hd Q) f λq eb=>#[rfl,I.turned (t':=s.toks) (λb o j e=>eb b o j e) J L M N O]
 self:=λ_ _ _ _ _ st h=>Gb st.2 h
def zmJ{X:Cx}{e x:AZ}{t:TA}{p pos:CK}(y:Gl X "reversed")(z:X.mg "reversed"=AD)(C:PA X [e] t)(D:starEach [e] X.env=[(AC,eval e X.env)]:=by rfl):
  PI X x (.Call (.Name "reversed" p) [e] [] pos) (λA H R=>t A H λw d=>∃a f,w=[.ref a]/\((SqL X.K d a f/\R (ItS X.K a f.length) d) \/ (SqT X.K d a f/\R (ItR X.K a f.length) d))):=by
 intro B s A H R I h;refine Call_ (zaz I y z boot_reversed ?_);refine BV (thn (C pos B s A H _ I h) λO g E=>?_) (by rw[D];rfl) rfl;let#[w,d,c,G,J]:=E;let#[a,f,rfl,q]:=J;let#[u,rfl,L]:=vals1 G
 cases (show _=Ag a from L)
 rcases q with⟨j,q⟩|⟨j,q⟩
 .let#[l,m,p,M]:=c.list j;have n:=m.length;refine call_reversed_list p.isList ?_;refine Gb #[_,AQ _ rfl,rfl,rfl] ?_;refine#[g.heap.objs.size,[g.heap.objs.size],_,_,d,rfl,c.kept (t':=g.toks) λb o e=>AL _ e,zfs a _ f.length,#[by lia,_,AQ _ rfl,rfl,?_],λb r=>?_,q]
  .simp only[AX,n];simp[revObj]
  .have e:b=g.heap.objs.size:=by simpa using r
   subst e;exact c.fpOk (AU _) (c.hok.fresh (AU _))
 .let#[l,m,p,M]:=c.tuple j;have n:=m.length;refine WE.call_rev_tuple p (by erw[AX];lia) λN=>?_;refine WE.rvT_iter #[_,AQ _ rfl,rfl,rfl] ?_;refine#[g.heap.objs.size,[g.heap.objs.size],_,_,d,rfl,c.kept (t':=N) λb o e=>AL _ e,zg4 a _ f.length,#[by lia,_,AQ _ rfl,rfl,?_],λb r=>?_,q]
  .simp only[AX,n];simp
  .have e:b=g.heap.objs.size:=by simpa using r
   subst e;exact c.fpOk (AU _) (c.hok.fresh (AU _))
end L2
namespace L2
open PySem PySem.Spec PyProof.Rows IC
open Classical in
def eqR(h:Au)(a:IW)(u:AG):Bool:=decide (∃d b,JT h u d b/\By d a=AE)
def zi4{h:Au}{u:AG}{d a:IW}{f:List AJ}(r:JT h u d f):eqR h a u=By d a:=by
 unfold eqR
 classical
 cases c:By d a with
 |true=>exact decide_eq_true (p:=∃d f,JT h u d f/\By d a=AE) #[d,f,r,c]
 |false=>
  refine decide_eq_false ?_
  rintro⟨l,g,j,q⟩
  have:=(reads_det (λb o e _=>e) r j).1;subst this;rw[c]at q
  cases q
section
variable {S:Se}{X:Cx}{D:St}{B:AJ->Prop}{C C1:Ph}{H H1:Hp}{st:SO}{ρ:IC.Env}{p pos p2 px py pt pt2:CK}{a b c d o a' b' c' d':AZ}{ca cb cc cd ce cf:Ce}{E:List (AJ×Bw)}{s:AH}{kt k2:Nat}{es:List AZ}{ces:Ces}{x:AR}
def zdw(I:Inv X E D H s)(w:PV)(a:shd 60 w=AE):∀(vs:List PV) (xs:List V) (us:List AG),ybf 60 vs=AE->ye X.K S.cl B C H vs xs->Vals xs us->us.any (eqR s.heap (toD w))=inL w vs
 |[],xs,us,h,r,q=>by erw[ye]at r;subst r;cases q;rfl
 |v::vs,xs,us,h,r,q=>by
  erw[ye]at r;let#[y,b,rfl,c,l]:=r;erw[ybf,AK]at h
  cases q with
  |cons d f=>
   let#[j,g]:=zP (S:=S) I v 60 y _ h.1 c d;rw[CA,zdw I w a vs b _ h.2 l f,zi4 g,zca v w 60 60 h.1 a];rfl
def zdP(I:Inv X E D H s)(w:PV)(c:shd 60 w=AE){d:AG}{bs:List AJ}(f:JT s.heap d (toD w) bs)(a:X.A.units+64<cLine):∀(vs:List PV) (xs:List V) (us:List AG),ybf 60 vs=AE->ye X.K S.cl B C H vs xs->Vals xs us->∀u∈us,Ib X.A.in1 s u d (eqR s.heap (toD w) u)
 |[],xs,us,h,r,q=>by erw[ye]at r;subst r;cases q;intro u a;cases a
 |v::vs,xs,us,h,r,q=>by
  erw[ye]at r;let#[y,j,rfl,m,l]:=r;erw[ybf,AK]at h
  cases q with
  |cons n o=>
   let#[p,g]:=zP (S:=S) I v 60 y _ h.1 m n;intro u b;rcases A8.mp b with rfl|b
   .rw[zi4 g];let#[t,z]:=zci v 60 h.1;let#[x,A]:=zci w 60 c;refine SeqAt.eqAt_reads _ _ X.A.in1 s _ _ p bs g f t x ?_;show X.A.units+1+_<_;lia
   .exact zdP I w c f a vs j _ h.2 l o u b
def rTs(S:Se)(X:Cx)(f:SO->PV->PV->Option PV):R2:=λx y H Q=>∃B C st v w z,yj X.K S.cl B C H st/\yd X.K S.cl B C H v x/\yd X.K S.cl B C H w y/\f st v w=AA z /\
 ∀c a b,Step C H b a->yj X.K S.cl B b a st->yd X.K S.cl B b a z c->Q c a
end
end L2
namespace IC
open PySem
def glue(c:Nat):List (List Nat)->List Nat
 |[]=>[]
 |[p]=>p
 |p::q::r=>p++c::glue c (q::r)
def zbc{c:Nat}:∀{p:List Nat},c∉p->yI c p=[p]
 |[],_=>rfl
 |x::p,h=>by have a:¬x=c:=λe=>h (by simp[e]);erw[yI,if_neg a,zbc (λe=>h (AS _ e):c∉p)]
def zbE{c:Nat}:∀{p:List Nat} (r:List Nat),c∉p->yI c (p++c::r)=p::yI c r
 |[],r,_=>by simp[yI]
 |x::p,r,h=>by have a:¬x=c:=λe=>h (by simp[e]);erw[BQ,yI,if_neg a,zbE r (λe=>h (AS _ e):c∉p)]
def zbH{c:Nat}:∀{a:List (List Nat)},a≠[]->(∀p∈a,c∉p)->yI c (glue c a)=a
 |[],h,_=>absurd rfl h
 |[p],_,h=>by erw[glue];exact zbc (h p (by simp))
 |p::q::r,_,h=>by erw[glue];rw[zbE _ (h p (by simp)),zbH (by simp) λx b=>h x (AS _ b)]
def zE(a b:AR):(a++b).cps.toList=a.cps.toList++b.cps.toList:=by show (a.cps++b.cps).toList=_;simp
def zc6(c:Nat):∀a:List AR,(BH #[(List.toArray [c])] a).cps.toList=glue c (a.map (·.cps.toList))
 |[]=>rfl
 |[y]=>rfl
 |y::z::r=>by erw[BH,AV,glue];rw[zE,zE,zc6 c (z::r)];simp
def zz{a b:AR}(h:a.cps.toList=b.cps.toList):a=b:=by
 cases a;cases b
 erw[Str.mk.injEq];exact EO.mp h
def zhp(x:AR)(c:Nat):Fi x #[(List.toArray [c])]=(yI c x.cps.toList).map λl=>#[l.toArray]:=by
 have d:=StrLaws.join_split x #[(List.toArray [c])];have f:=StrLaws.split_free x c;have b:=JL x #[(List.toArray [c])];have g:x.cps.toList=glue c ((Fi x #[(List.toArray [c])]).map (·.cps.toList)):=by rw[<-zc6,d]
 rw[g,zbH]
 .rw[D5]
  conv=>lhs;rw[<-List.map_id (Fi x #[(List.toArray [c])])]
  refine Go λa _=>zz ?_;simp
 .intro e;have:=congrArg Co e;simp at this;rw[this]at b;simp at b
 .intro p j;let#[a,m,rfl]:=C4.1 j;exact f a m
end IC
namespace L2
open PySem PySem.Spec PyProof.Rows IC
def ItC(x:AR):It:=#[λi _=>i<x.cps.size,λi H v a=>a=H/\∃c,x.cps[i]?=AA c/\v=.str #[(List.toArray [c])],λi _=>x.cps.size<=i]
def zea{P:A6}{w:Ah}{K:AF}{Z:AZ}(a:AJ)(x:AR)(t:Hw)(j:String)
  (Y:∀A:Ai,A.handled=AD->Walks P w A a [a] [a] x.cps.size (SignAt x) (λi h=>h.IsStrIter a j x t i)) (hI:∀A E (s:AH) i Q,s.heap.IsStrIter a j x t i->Q (.ref a) s->A1 (model P w) A (pyIter (.ref a)) Q E s)
  (hn:["enumerate","zip","dict_itemiterator","dict_reverseitemiterator","odict_iterator","itertools.zip_longest","itertools.pairwise"].contains j=AC):
  Turn P w K Z (ItC x) [a] a (λi h=>i<=x.cps.size/\h.IsStrIter a j x t i) where
 mem:=by simp
 obj:=λi h st b f=>by
  have e:b=a:=by simpa using f
  subst e;let#[_,o,e,c,d]:=st;exact#[o,e,λv z=>by rw[d]at z;cases z]
 keep:=λi h m st k=>by let#[l,o,e,r]:=st;exact#[l,o,k a (by simp) o e,r]
 item:=by intro X p q y D i C s B H E I hf st n;subst p q y;let#[G,J,f2,L,M,N]:=hf a (by simp);refine(Y X.A (I.ok.hd D)).item i s _ _ n st.2 λv m O hv g U=>?_;let#[c,u,hx,rfl]:=hv;have I1:Inv X C B H {s with heap:=m,toks:=O}:=I.turned (λb o f e=>U b o (by simpa using f) e) G J L M N;let#[o,e,cc,d]:=id g;exact#[_,rfl,zdH (s:={s with heap:=m,toks:=O}) e cc d hn #[.str #[(List.toArray [c])],H,I1,#[u,rfl],#[rfl,c,hx,rfl],#[n,g],λb f=>(hf b f).1]]
 done:=by intro X p q y D i C s B H E I hf st n;subst p q y;let#[G,J,f2,L,M,N]:=hf a (by simp);have e:i=x.cps.size:=Nat.le_antisymm st.1 n;subst e;exact(Y X.A (I.ok.hd D)).done s _ _ st.2 λm O U=>#[rfl,I.turned (λb o f e=>U b o (by simpa using f) e) G J L M N]
 self:=λA i s Q E st h=>hI A E s i Q st.2 h
def ziN{X:Cx}{e m:AZ}{g:TE}(n:PE X e g):PI X m e (λB H R=>g B H λv c=>∃x,v=.str x/\R (ItC x) c):=by
 intro C s B H R I h;refine thn (n C s B H _ I h) λv a p=>?_;let#[y,c,d,r,u]:=p;let#[x,rfl,q]:=u;let#[t,rfl]:=r;have j:∀(o:Bw),∀b∈[a.heap.objs.size],ybi X C c b:=λo b w=>by
  have e:b=a.heap.objs.size:=by simpa using w
  subst e;exact d.fpOk (AU _) (d.hok.fresh (AU _))
 cases l:x.cps.all (· < 128)
 .refine wpAny_pyIter_wide l ?_;exact#[_,[a.heap.objs.size],_,_,c,rfl,d.kept (t':=a.toks) λb o e=>AL _ e,zea _ x t "str_iterator" (λA f=>Walks.strWide f _ x t) (λA E s i Q st h=>wpAny_pyIter_striter_wide st h) ⋯,#[BB _,_,AQ _ rfl,rfl,rfl],j default,q]
 .refine wpAny_pyIter_ascii l ?_;exact#[_,[a.heap.objs.size],_,_,c,rfl,d.kept (t':=a.toks) λb o e=>AL _ e,zea _ x t "str_ascii_iterator" (λA f=>Walks.strAscii f _ x t) (λA E s i Q st h=>wpAny_pyIter_striter_ascii st h) ⋯,#[BB _,_,AQ _ rfl,rfl,rfl],j default,q]
section
variable {S:Se}{X:Cx}{A:St}{B:AJ->Prop}{C:Ph}{H:Hp}{p p2 pos pos2 apos:CK}{a b tg:AZ}{ca cb:Ce}
def zgp{x:AR}:Drw S X B C H (x.cps.toList.map λc=>.str #[(List.toArray [c])]) (ItC x):=by refine#[λa b s=>by simp[ItC],λi a b s d=>by simpa [ItC] using d,λi a b st v g j l s m d q=>?_];let#[rfl,c,f,rfl]:=q;refine#[.str #[(List.toArray [c])],?_,by erw[yd],λ_ _ e=>e];simp[f]
def ziG(f:PE X a (tE S X ca)):PI X tg a (tI S X (.chars ca)):=
 (ziN f).imp λA H R #[B,C,st,n,g,j,h]=>by
  erw[IC.vjq0,IC.vjq1,IC.vjq2,IC.vjq3,IC.vjq4,IC.vjq5,IC.vjq6,IC.vjq7,IC.vjq8,IC.vjq9]at h;refine tE.bind g j h λx o v l C1 p b m d c=>?_;let#[q,e,c]:=zbg c
  cases v with
  |str y=>
   erw[ybS]at e;split at e
   .cases e
    erw[yd]at d;subst d;exact#[y,rfl,c.ok b zgp]
   .cases e
  |_=>cases e
def zhU{k:Bool}{vs:List PV}{xs:List V}{y:AJ}(rt:ybE X.K B C H k y xs)(l:ye X.K S.cl B C H vs xs):Drw S X B C H vs.reverse (ItR X.K y xs.length):=by
 have n:=l.length;refine#[λc d s=>by rw[Bc];exact(show xs.length<=vs.length by lia),λi c d s a=>?_,λi c d st x o p j s r a q=>?_]
 .rw[Bc]at a;exact#[xs,xs.reverse[i]'(by simp;lia),(rt.step s).sq,rfl,Ac _]
 .rw[Bc]at a;let#[rfl,q]:=q;obtain⟨v,f⟩:∃v,vs.reverse[i]?=AA v:=#[vs.reverse[i]'(by simp;lia),Ac _];have g:=(zaQ (q xs (rt.step s).sq)).2;let#[t,b,m]:=l.get _ (zaQ f).2;rw[show xs.length-1-i=vs.length-1-i by lia,b]at g
  cases g
  exact#[v,f,(m.moreB j).step s,λ_ _ e=>e]
def zh0{vs:List PV}{xs:List V}{y:AJ}(rt:ybN B C H y xs)(l:ye X.K S.cl B C H vs xs):Drw S X B C H vs.reverse (ItS X.K y xs.length):=by
 have n:=l.length;refine#[λc d s=>by rw[Bc];exact(show xs.length<=vs.length by lia),λi c d s a=>?_,λi c d st x o p j s r a q=>?_]
 .rw[Bc]at a;exact#[xs,xs.reverse[i]'(by simp;lia),(rt.step s).sq,rfl,Ac _]
 .rw[Bc]at a;let#[rfl,q]:=q;obtain⟨v,f⟩:∃v,vs.reverse[i]?=AA v:=#[vs.reverse[i]'(by simp;lia),Ac _];have g:=(zaQ (q xs (rt.step s).sq)).2;let#[t,b,m]:=l.get _ (zaQ f).2;rw[show xs.length-1-i=vs.length-1-i by lia,b]at g
  cases g
  exact#[v,f,(m.moreB j).step s,λ_ _ e=>e]
def zjP(m:Gl X "reversed")(n:X.mg "reversed"=AD)(o:PE X a (tE S X ca))(j:starEach [a] X.env=[(AC,eval a X.env)]:=by rfl):PI X tg (.Call (.Name "reversed" p) [a] [] pos) (tI S X (.revl ca)):=
 (zmJ m n (zI o zoF j) j).imp λA H R #[B,C,st,z,q,r,h]=>by
  erw[IC.vjq0,IC.vjq1,IC.vjq2,IC.vjq3,IC.vjq4,IC.vjq5,IC.vjq6,IC.vjq7,IC.vjq8,IC.vjq9]at h;refine tE.bind q r h λx D v t C1 E b u d f=>?_;let#[g,e,f]:=zbg f
  cases v with
  |tp k w=>
   cases e
   erw[yd]at d;let#[y,g,rfl,c,l]:=d;exact#[y,g,rfl,.inr #[c.sq,f.ok b (zhU c l)]]
  |lst w=>
   cases e
   erw[yd]at d;let#[y,g,rfl,c,l]:=d;exact#[y,g,rfl,.inl #[c.sq,f.ok b (zh0 c l)]]
  |_=>cases e
def zjG(J:Gl X "reversed")(L:X.mg "reversed"=AD)(n:Gl X "range")(r:X.mg "range"=AD)(M:PE X a (tE S X ca))(z:starEach [a] X.env=[(AC,eval a X.env)]:=by rfl)
  (f:starEach [.Call (.Name "range" p2) [a] [] pos2] X.env=(AC,eval (.Call (.Name "range" p2) [a] [] pos2) X.env)::starEach [] X.env:=by rfl):PI X tg (.Call (.Name "reversed" p) [.Call (.Name "range" p2) [a] [] pos2] [] pos) (tI S X (.revr ca)):=by
 intro D s A H R I #[B,C,st,ρ,N,O,h];erw[IC.vjq0,IC.vjq1,IC.vjq2,IC.vjq3,IC.vjq4,IC.vjq5,IC.vjq6,IC.vjq7,IC.vjq8,IC.vjq9]at h;have Q:(ycM (tE S X ca) ycR) A H λE g=>∃j:Int,E=[.int j]/\0<=j/\j<1000000000/\R (Itd (j-1) j.toNat) g:=by
  refine tE.bind N O h λx g v U C1 d w Y G l=>?_;let#[xs,e,l]:=zbg l
  cases v with
  |int j=>
   erw[ydo]at e;split at e
   .rename_i c
    cases e
    erw[yd]at G;subst G;exact#[j,rfl,c.1,c.2,l.ok w zfc]
   .cases e
  |_=>cases e
 refine Call_ (zaz I J L boot_reversed (BV ?_ f rfl));rw[f];show A1 _ _ (spliced ((AC,eval (.Call (.Name "range" p2) [a] [] pos2) X.env)::backTo pos (starEach [] X.env))) _ _ s;refine HE ?_;refine Call_ (zaz I n r boot_range (BV (thn (zI M zoF z pos2 D s A H _ I Q) λus d Z=>?_) (by rw[z];rfl) rfl));let#[E,g,I1,r1,q1]:=Z;let#[j,rfl,l,h2,q]:=q1;let#[u,rfl,rx]:=vals1 r1;let#[t,rfl]:=rx;refine call_range_1 ?_;refine HP ?_;have y:Inv X D A g {d with heap:=d.heap.push {cls:=.type "range",data:=.fields (List.toArray [.int 0 d.toks,.int j t,.int 1 (d.toks+1)])},toks:=d.toks+1+1}:=I1.kept λb o e=>AL _ e;refine WE.call_rev_range (JZ ..) l h2 ?_;have m:=AQ (d.heap.push {cls:=.type "range",data:=.fields (List.toArray [.int 0 d.toks,.int j t,.int 1 (d.toks+1)])}) (o:=WE.rgI j) rfl;refine Ds m ?_;refine#[_,[(d.heap.push {cls:=.type "range",data:=.fields (List.toArray [.int 0 d.toks,.int j t,.int 1 (d.toks+1)])}).objs.size],_,_,g,rfl,y.kept (t':=d.toks+1+1) λb o e=>AL _ e,zdq _ (j-1) j.toNat,?_,λb hb=>?_,q]
 .show G3 _ _ (j-1+((0:Nat):Int)*(-1)) (((j.toNat:Nat):Int)-((0:Nat):Int)) (-1);have e1:j-1+((0:Nat):Int)*(-1)=j-1:=by simp
  have e2:((j.toNat:Nat):Int)-((0:Nat):Int)=j:=by lia
  rw[e1,e2];exact m
 .have e:b=(d.heap.push {cls:=.type "range",data:=.fields (List.toArray [.int 0 d.toks,.int j t,.int 1 (d.toks+1)])}).objs.size:=by simpa using hb
  subst e;exact y.fpOk (AU _) (y.hok.fresh (AU _))
def ydy:V->List V->Hp->VK->Prop:=λx a H Q=>∃s c,x=.str s/\a=[.str #[(List.toArray [c])]]/\s.length<=100000/\∀l,H l=AD->Q (.ref l) (upd H l (.lst ((yI c s.cps.toList).map λl=>.str #[l.toArray])))
def zc7:∀l:List (AR×Hw),Vals (l.map λp=>V.str p.1) (strValues l)
 |[]=>.nil
 |p::l=>.cons #[p.2,rfl] (zc7 l)
def ziz:MtR X "str.split" ydy:=by
 intro D s A H x B v C Q I n r h;let#[x,c,rfl,rfl,E,q]:=h;let#[t,rfl]:=n;let#[w,rfl,rw]:=vals1 r;let#[u,rfl]:=rw;have g:(Fi x #[(List.toArray [c])]).length<=sizeLine:=by have:=JR x #[(List.toArray [c])];rw[Ap];lia
 have a:∀(l:List (AR×Hw)) (j:Nat),l.map (·.1)=Fi x #[(List.toArray [c])]->EP X D A Q (.ref s.heap.objs.size) {s with heap:=s.heap.push {cls:=.type "list",data:=.seq (strValues l).toArray},toks:=j}:=λl j e=>by
  have y:l.map (λp=>V.str p.1)=(yI c x.cps.toList).map λl=>.str #[l.toArray]:=by rw[zhp]at e;have:=congrArg (List.map V.str) e;simpa [D5,Function.comp_def] using this
  have z:(l.map λp=>V.str p.1).length<=sizeLine:=by rw[Ae,<-Ae (f:=(·.1)),e];exact g
  refine#[.ref s.heap.objs.size,_,I.laid (t':=j) (λb o e=>AL _ e) (AU _) (show yH X.prog X.w _ _ _ (.lst ((yI c x.cps.toList).map λl=>.str #[l.toArray]))from ?_),rfl,q _ (I.hok.fresh (AU _))];rw[<-y];exact#[z,strValues l,_,zc7 l,AQ _ rfl]
 have m:x.length<=sizeLine:=by rw[Ap];lia
 cases d:(decide (x.length<(#[(List.toArray [c])]:AR).length) || decide (Gp x<Gp #[(List.toArray [c])]))
 .cases hf:(CT x #[(List.toArray [c])] 0 x.length (x.length+1)).isEmpty
  .refine Cd Dp (Ew _ _ _) FV (FE _ _) (PySem.meets_str_split_sep x #[(List.toArray [c])] t u d rfl hf m ?_) ?_
   .have:=g;unfold Fi at this;rw[if_neg (ne_true_of_eq_false d),if_neg (ne_true_of_eq_false hf)]at this;exact this
   show wants _ _ _ {s with toks:=_,heap:=s.heap.push {cls:=.type "list",data:=.seq (strsFrom s.toks (Builtin.Str.partsBetween x (CT x #[(List.toArray [c])] 0 x.length (x.length+1)) (#[(List.toArray [c])]:AR).length)).toArray} };rw[strsFrom_eq];exact a (numbered s.toks _) _ ((numbered_texts _ _).trans ((if_neg (ne_true_of_eq_false d)).trans (if_neg (ne_true_of_eq_false hf))).symm)
  .exact Cd Dp (Ew _ _ _) FV (FE _ _) (PySem.meets_str_split_not_found x #[(List.toArray [c])] t u d rfl hf)
    (a [(x,t)] _ ((if_neg (ne_true_of_eq_false d)).trans (if_pos hf)).symm)
 .exact Cd Dp (Ew _ _ _) FV (FE _ _) (PySem.meets_str_split_cannot_occur x #[(List.toArray [c])] t u d)
   (a [(x,t)] _ (if_pos d).symm)
def zel{c:Nat}{K:AF}{b:Nat->AJ}:∀a:List (List Nat),ye K b B C H (a.map λl=>PV.str #[l.toArray]) (a.map λl=>V.str #[l.toArray])
 |[]=>by simp[ye]
 |l::a=>by erw[AV,ye];exact#[_,_,rfl,by erw[yd],zel (c:=c) a]
def zfE(st:SO)(y q:AR):(∃c,q=#[(List.toArray [c])]/\y.length<=100000/\ya3 st (.str y) (.str q)=.ok (.lst ((yI c y.cps.toList).map λl=>.str #[l.toArray])) st) \/ ya3 st (.str y) (.str q)=.bad:=by
 erw[ya3];split
 .rename_i c a;split
  .rename_i b;exact .inl #[c,zz (by rw[a]),b,rfl]
  .exact .inr rfl
 .exact .inr rfl
def ziy(J:PE X a (tE S X ca))(L:PE X b (tE S X cb))(G:starEach [b] X.env=(AC,eval b X.env)::starEach [] X.env:=by rfl)(f:attributeBase a "split" X.env (eval a X.env)=eval a X.env:=by rfl)(g:(apos.endLine==pos.line)=true:=by rfl)
  (j:((backTo pos (starEach [b] X.env)).all (λx=>!x.1)&&(backToKw pos (keywordEach [] X.env)).all (λx=>x.1.isSome)&&decide (([b]:List AZ).length+([]:List CU).length+(if ([]:List CU).isEmpty then 0 else 1)<30))=true:=by rfl) (m:(backTo pos (starEach [] X.env)).any (·.1)=false:=by rfl):
  PE X (.Call (.Attribute a "split" apos) [b] [] pos) (tE S X (.mth .split ca (.cons cb .nil))):=
 (ziS ED Dp PySem.F.type_str_split ziz J (zas (S:=S) L zbX G) f j g G m).imp λA H Q #[B,C,st,ρ,M,N,h]=>by
  erw[ev]at h;refine tE.bind M N h λx H1 v O C1 s1 o p I r=>?_;let#[_,U,r]:=zcp r
  cases v with
  |str y=>
   erw[yd]at I;subst I;refine#[rfl,tAs.bind o p r λys H2 Y u C2 s2 n Z D d=>?_];rcases Y with _|⟨w,_|⟨w',t⟩⟩
   .exact d.elim
   .let#[z,rfl,rw]:=D.one;erw[yaR]at d
    cases w with
    |str q=>
     erw[yd]at rw;subst rw;rcases zfE u y q with⟨c,rfl,hz,e⟩|e
     .rw[e]at d;exact#[y,c,rfl,rfl,hz,λl E=>d _ _ C2 (.upd E) (n.upd E) (.lst_new E n (zel (c:=c) _))]
     .rw[e]at d;exact d.elim
    |_=>exact d.elim
   .exact d.elim
  |_=>cases U
def rJoin(K:AF):V->List V->Hp->VK->Prop:=λx c H Q=>∃s a b,x=.str s/\c=[.ref a]/\SqL K H a (b.map .str)/\s.length<=10/\b.length<=1000/\(∀y∈b,y.length<=1000)/\Q (.str (BH s b)) H
def zgW:∀{ys:List AR} {us:List AG},Vals (ys.map V.str) us->StrsAre us ys
 |[],us,h=>by cases h;exact .nil
 |y::ys,us,h=>by
  cases h with
  |cons r t=>
   let#[k,rfl]:=r;exact .cons y k (zgW t)
def zji:∀{ys:List AR},(∀y∈ys,y.length<=1000)->(ys.map (·.length)).sum<=1000*ys.length
 |[],_=>by simp
 |y::ys,h=>by have:=zji λz a=>h z (AS _ a);have:=h y (by simp);erw[AV,Ix,AY];lia
def zkK:MtR X "str.join" (rJoin X.K):=by
 intro D s A H x n v o Q I c d h;let#[x,a,b,rfl,rfl,f,g,j,l,q]:=h;let#[t,rfl]:=c;let#[w,rfl,rw]:=vals1 d
 cases (show _=Ag a from rw)
 let#[m,r,p,u]:=I.list f;have e:Txt.join x b=BH x b:=by have:=Ho x b;simpa using this
 have y:=zji l;have z:b.length*x.length<=1000*10:=BK j g;refine JM p.isList (by simpa using zgW r) () λB k=>?_;rw[e];exact#[.str _,H,I.tok k,#[_,rfl],q]
def zcS:∀{xs:List PV} {ys:List AR},strsOf xs=AA ys->xs=ys.map .str
 |[],ys,h=>by cases h;rfl
 |.str s::r,ys,h=>by
  erw[strsOf]at h
  cases e:strsOf r with
  |none=>rw[e]at h;cases h
  |some a=>
   rw[e]at h
   cases h
   rw[zcS e];rfl
 |.non::r,ys,h=>by cases h
 |.bl _::r,ys,h=>by cases h
 |.int _::r,ys,h=>by cases h
 |.tp _ _::r,ys,h=>by cases h
 |.lst _::r,ys,h=>by cases h
 |.loc _::r,ys,h=>by cases h
 |.fnc _::r,ys,h=>by cases h
 |.exn _::r,ys,h=>by cases h
 |.scr _::r,ys,h=>by cases h
def zdU{K:AF}{b:Nat->AJ}:∀{ys:List AR} {xs:List V},ye K b B C H (ys.map PV.str) xs->xs=ys.map V.str
 |[],xs,h=>by simpa only[Az,ye] using h
 |y::ys,xs,h=>by erw[AV,ye]at h;let#[z,c,rfl,a,l]:=h;erw[yd]at a;rw[zdU l,a];rfl
def zhE(st:SO)(y:AR)(w:PV):(∃b a,yJ st w=AA b/\b=a.map .str/\y.length<=10/\a.length<=1000/\(∀z∈a,z.length<=1000)/\yb0 st (.str y) w=.ok (.str (BH y a)) st) \/ yb0 st (.str y) w=.bad:=by
 erw[yb0]
 cases e:yJ st w with
 |none=>exact .inr rfl
 |some b=>
  dsimp only
  cases d:strsOf b with
  |none=>exact .inr rfl
  |some a=>
   dsimp only;split
   .rename_i h;have c:=zcS d;refine .inl #[b,a,rfl,c,h.1,?_,λz f=>?_,rfl]
    .have:=h.2.1;rw[c,Ae]at this;exact this
    .have:=Ar.1 h.2.2 z f;simpa using this
   .exact .inr rfl
def zkd(E:PE X a (tE S X ca))(G:PE X b (tE S X cb))(u:starEach [b] X.env=(AC,eval b X.env)::starEach [] X.env:=by rfl)(c:attributeBase a "join" X.env (eval a X.env)=eval a X.env:=by rfl)(d:(apos.endLine==pos.line)=true:=by rfl)
  (g:((backTo pos (starEach [b] X.env)).all (λx=>!x.1)&&(backToKw pos (keywordEach [] X.env)).all (λx=>x.1.isSome)&&decide (([b]:List AZ).length+([]:List CU).length+(if ([]:List CU).isEmpty then 0 else 1)<30))=true:=by rfl) (j:(backTo pos (starEach [] X.env)).any (·.1)=false:=by rfl):
  PE X (.Call (.Attribute a "join" apos) [b] [] pos) (tE S X (.mth .join ca (.cons cb .nil))):=
 (ziS ED PySem.F.slot_str_join PySem.F.type_str_join zkK E (zas (S:=S) G zbX u) c g d u j).imp λA H Q #[B,C,st,ρ,I,J,h]=>by
  erw[ev]at h;refine tE.bind I J h λx H1 v L C1 s1 n o D p=>?_;let#[_,M,p]:=zcp p
  cases v with
  |str y=>
   erw[yd]at D;subst D;refine#[rfl,tAs.bind n o p λys H2 N q C2 s2 m O r f=>?_];rcases N with _|⟨w,_|⟨w',t⟩⟩
   .exact f.elim
   .let#[z,rfl,rw]:=r.one;erw[yaR]at f;rcases zhE q y w with⟨xs,U,Y,rfl,Z,h4,h5,e⟩|e
    .rw[e]at f;let#[l,us,rfl,hl,rl]:=zbj m rw Y;have:=zdU rl;subst this;exact#[y,l,U,rfl,rfl,hl,Z,h4,h5,f.ok m (by erw[yd])]
    .rw[e]at f;exact f.elim
   .exact f.elim
  |_=>cases M
def ygz:V->List V->Hp->VK->Prop:=λx a H Q=>∃s y,x=.str s/\a=[.str y]/\s.length<=16777216/\Q (.str (yb3 s y)) H
def znD:MtR X "str.removeprefix" ygz:=by
 intro D s A H x d v f Q I a b h;let#[x,y,rfl,rfl,c,q]:=h;let#[t,rfl]:=a;let#[w,rfl,rw]:=vals1 b;let#[u,rfl]:=rw;refine PySem.SC.removeprefix (λg k=>?_) (by rw[Ap];exact c);have e:Hq x y=yb3 x y:=by
  unfold Hq yb3 Txt.affix
  cases Cp x y 0<;>rfl
 rw[e];exact#[.str _,H,I.tok _,#[_,rfl],q]
def zmc(D:PE X a (tE S X ca))(E:PE X b (tE S X cb))(r:starEach [b] X.env=(AC,eval b X.env)::starEach [] X.env:=by rfl)(d:attributeBase a "removeprefix" X.env (eval a X.env)=eval a X.env:=by rfl)(f:(apos.endLine==pos.line)=true:=by rfl)
  (g:((backTo pos (starEach [b] X.env)).all (λx=>!x.1)&&(backToKw pos (keywordEach [] X.env)).all (λx=>x.1.isSome)&&decide (([b]:List AZ).length+([]:List CU).length+(if ([]:List CU).isEmpty then 0 else 1)<30))=true:=by rfl) (j:(backTo pos (starEach [] X.env)).any (·.1)=false:=by rfl):
  PE X (.Call (.Attribute a "removeprefix" apos) [b] [] pos) (tE S X (.mth .rmp ca (.cons cb .nil))):=
 (ziS ED PySem.F.slot_str_removeprefix PySem.F.type_str_removeprefix znD D (zas (S:=S) E zbX r) d g f r j).imp λA H Q #[B,C,st,Y,G,I,h]=>by
  erw[ev]at h;refine tE.bind G I h λx Z v J C1 s1 l m u n=>?_;let#[_,L,n]:=zcp n
  cases v with
  |str y=>
   erw[yd]at u;subst u;refine#[rfl,tAs.bind l m n λys H2 M N C2 s2 o O p c=>?_];rcases M with _|⟨w,_|⟨w',t⟩⟩
   .exact c.elim
   .let#[z,rfl,rw]:=p.one;erw[yaR]at c
    cases w with
    |str q=>
     erw[yd]at rw;subst rw;erw[yeB]at c;split at c
     .rename_i U;exact#[y,q,rfl,rfl,U,c.ok o (by erw[yd])]
     .exact c.elim
    |_=>exact c.elim
   .exact c.elim
  |_=>cases L
def zlU:yam X (.type "str") (rB S X .str):=by
 rintro D s A H f g Q I r ⟨B,C,st,j,z,b,l,e,q⟩
 let#[v,rfl]:=zaR e λ_ _=>rfl;let#[x,rfl,a]:=l.one;let#[u,rfl,d]:=vals1 r;erw[yaf]at e
 cases v with
 |int i=>
  erw[yd]at a;subst a;let#[t,rfl]:=d;erw[ydw]at e;split at e
  .rename_i c
   cases e
   exact PySem.P.str_of_int c #[.str _,H,I.tok _,#[_,rfl],q _ H C .rfl b (by erw[yd])]
  .cases e
 |_=>cases e
end
end L2
namespace WE
open PySem PySem.Spec PyProof.Rows
section
variable {pg:A6}{wd:Ah}{A:Ai}{Er:AG->AH->Prop}{s:AH}
theorem tit_keep{h h':Au}{i t:AJ}{j:Nat}(u:h.IsTupleIter i t j)(k:∀o,h.get? i=AA o->h'.get? i=AA o):h'.IsTupleIter i t j:=let #[o,g,r]:=u;#[o,k o g,r]
def zet{h h':Au}{t:AJ}{xs:Array AG}(u:h.IsTuple t xs)(k:∀o,h.get? t=AA o->h'.get? t=AA o):h'.IsTuple t xs:=let #[o,g,r]:=u;#[o,k o g,r]
def Kz(z TO a b:AJ)(h h':Au):Prop:=∀c o,c≠z->c≠TO->c≠a->c≠b->h.get? c=AA o->h'.get? c=AA o
def zhP{z TI TO d g l B:AJ}{j:Nat}{xs:Array AG}{a b:AG}{Q:Fin->AH->Prop}(C:A.handled=AD)(D:Hc z TI TO d g l B)
  (f:FW s.heap z TI TO .none) (E:Cu s.heap TI (.ref d) (.ref g)) (X:Cu s.heap TO a b) (G:s.heap.IsTupleIter d l j) (H:s.heap.IsTuple l xs) (ex:xs[j]?=AD)
  (k:∀m e,Kz z TO d g s.heap m->(∃o,m.get? e=AA o/\o.cls=.type "StopIteration")->Er (.ref e) {s with heap:=m}):
  A1 (model pg wd) A (C1.«zip.__next__» #[[.ref z],[]]) Q Er s:=by
 show A1 _ _ (field (.ref z) 2 >>= _) _ _ _;refine AB (Aq f rfl (x:=.bool AC) rfl ?_);show A1 _ _ (field (.ref z) 3 >>= _) _ _ _;refine AB (Aq f rfl (x:=.ref TI) rfl ?_);refine AB (Ca E rfl ?_);show A1 _ _ (Br (.ref z) >>= _) _ _ _;refine AB ?_;unfold Br;refine AB (Aq f rfl (x:=.none) rfl (AM ?_));erw[if_true];refine AB (EL ?_);refine AB (Aq f rfl (x:=.ref TO) rfl ?_);refine AB (DD f (by simp) λI n sa=>?_)
 replace n:FW I z TI TO .ellipsis:=n
 refine AB ?_;erw[Hr,IK,Dh,Ii];refine AB (AB (F4 ?_));show A1 _ _ (B3 (.ref d) >>= _) _ _ _;refine AB (zcM C (tit_keep G λo e=>sa.extBut _ _ D.i1z e) (zet H λo e=>sa.extBut _ _ D.l1z e) ex λJ e r L=>?_);let#[M,p,t]:=L;have u:FW J z TI TO .ellipsis:=r _ _ D.i1z.symm n;have N:e≠z:=λq=>by subst q;rw[u]at p;cases p;simp at t
 exact DD u (by simp) λO _ w=>k O e (λc o y _ U _ q=>w.extBut _ _ y (r _ _ U (sa.extBut _ _ y q))) #[M,w.extBut _ _ N p,t]
theorem pyNext_zipE{z TI TO c d f n:AJ}{j:Nat}{xs:Array AG}{a b:AG}{Q:Option AG->AH->Prop}(p:A.handled=AD)(D:Hc z TI TO c d f n)
  (l:FW s.heap z TI TO .none) (q:Cu s.heap TI (.ref c) (.ref d)) (r:Cu s.heap TO a b) (t:s.heap.IsTupleIter c f j) (u:s.heap.IsTuple f xs) (ex:xs[j]?=AD)
  (k:∀g,Kz z TO c d s.heap g->Q AD {s with heap:=g}):A1 (model pg wd) A (pyNext (.ref z)) Q Er s:=by have m:s.TypeIs (.ref z) "zip":=#[_,l,rfl];unfold pyNext;refine AB (EU (BO (name:=AI "__next__") m E6 (BY E6 m Hs (zhP p D l q r t u ex λg e w x=>?_) (Hd _))));let#[o,y,B]:=x;exact AB (EK (T:="StopIteration") (b:=AE) #[o,y,B] isSubtype_stop (AM (k _ w)))
end
abbrev ti(l:AJ):Obj:={cls:=.type "tuple_iterator",data:=.fields (List.toArray [.ref l,.int 0 0])}
abbrev yes(h:Au)(a:AJ):Heap:=h.push (ti a)
end WE
namespace L2
open PySem PySem.Spec PyProof.Rows
end L2
namespace L2
open PySem PySem.Spec PyProof.Rows IC
inductive ycb(K:AF)(cl:Nat->AJ)(w:Ah):List (AR×PV)->List C7->Prop
 |nil:ycb K cl w [] []
 |cons {k:AR} {v:PV} {t:Hw} {u:AG} {x:V} {D:List (AR×PV)} {es:List C7} (hr:RelV x u) (hv:∀B A H,yd K cl B A H v x) (h:ycb K cl w D es):ycb K cl w ((k,v)::D) (#[FF w.params k,.str k t,u] :: es)
def GD(K:AF)(w:Ah)(b:AR->Option AG)(c:Nat->AJ)(x:AR)(D:List (AR×PV)):Prop:=
 ∃(y:AJ) (a:Array C7) (d:Nat),b x=AA (.ref y)/\K.lookup y=AA #[.type "dict",AD,.dict a d,(List.toArray [])]/\(y==sysModules)=AC/\ycb K c w D a.toList/\(D.map (·.1)).Nodup
theorem ycb.pairs{K:AF}{d:Nat->AJ}{P:A6}{w:Ah}{D:List (AR×PV)}{es:List C7}(h:ycb K d w D es):
  ∃a:List (AR×AG),Pairs (strKind P w) es a/\(∀e∈es,∃k,(strKind P w).is k e.key=AE/\e.hash=(strKind P w).hash k)/\a.map (·.1)=D.map (·.1) /\
   (∀s,(valueAt a s).isSome=(yax s D).isSome)/\∀s v,yax s D=AA v->∃u x,valueAt a s=AA u/\RelV x u/\∀B A H,yd K d B A H v x:=by
 induction h with
 |nil=>exact#[[],.nil,λe b=>(by cases b),rfl,λs=>rfl,λs v e=>by cases e]
 |@cons k v t u x D es f g h ih=>
  let#[a,j,l,m,n,o]:=ih;have c:∀s,valueAt ((k,u)::a) s=if k=s then AA u else valueAt a s:=λs=>by
   unfold valueAt;rw[CZ]
   by_cases e:k=s
   .simp[e]
   .simp[e]
  refine#[(k,u)::a,.cons (EQ P w k t) rfl j,λe b=>?_,by rw[AV,AV,m],λs=>?_,λs p e=>?_]
  .rcases A8.1 b with rfl|b
   .exact#[k,EQ P w k t,rfl]
   .exact l e b
  .rw[c,yax]
   by_cases e:k=s
   .rw[if_pos e,if_pos (by simpa using e)];rfl
   .rw[if_neg e,if_neg (by simpa using e),n]
  .rw[yax]at e;rw[c]
   by_cases q:k=s
   .rw[if_pos (by simpa using q)]at e
    cases e
    exact#[u,x,by rw[if_pos q],f,g]
   .rw[if_neg (by simpa using q)]at e;let#[r,y,z,C,E]:=o s p e;exact#[r,y,by rw[if_neg q];exact z,C,E]
section
variable {S:Se}{X:Cx}{C:St}{B:AJ->Prop}{A:Ph}{H:Hp}{st:SO}{pos p:CK}{a b i:AZ}{ca cb:Ce}{x:AR}{D:List (AR×PV)}{ty:TE}
def zdA{y:AJ}{es:Array C7}{a:Nat}{E:List (AJ×Bw)}{s:AH}(I:Inv X E C H s)(b:X.K.lookup y=AA #[.type "dict",AD,.dict es a,(List.toArray [])])(c:(D.map (·.1)).Nodup){vs:List (AR×AG)}(d:Pairs (strKind X.prog X.w) es.toList vs)
  (f:∀e∈es.toList,∃k,(strKind X.prog X.w).is k e.key=AE/\e.hash=(strKind X.prog X.w).hash k) (g:vs.map (·.1)=D.map (·.1)):s.heap.DictOf (strKind X.prog X.w) y vs:=
 #[_,es,a,I.kIn y _ b,#[rfl,rfl,rfl],rfl,λe j=>f e (by simpa using j),d,by rw[g];exact c]
def yd5(S:Se)(X:Cx)(D:List (AR×PV))(ty:TE):TE:=λC H Q=>ty C H λz b=>∃s v,z=.str s/\yax s D=AA v/\∀a,(∀B A H,yd X.K S.cl B A H v a)->Q a b
def zlb(n:Gl X x)(h:GD X.K X.w X.mg S.cl x D)(o:PE X i ty)(q:ycW i)(r:(x==("__debug__":AR))=false:=by decide):PE X (.Subscript (.Name x p) i pos) (yd5 S X D ty):=by let#[y,es,ep,w,G,J,L,M]:=h;let#[vs,N,O,U,h4,Y]:=L.pairs (P:=X.prog);intro E s C H Q I Z;refine zfK FM.lookup q (thn (zbh (v:=.ref y) n w rfl r E s C H (λz b=>z=.ref y/\ty C b λz c=>∃s v,z=.str s/\yax s D=AA v/\∀a,(∀B A H,yd X.K S.cl B A H v a)->Q a c) I #[rfl,Z]) λu s1 d=>?_);let#[z,b,I1,rz,ez,q1]:=d;refine thn (o E s1 C b _ I1 q1) λiv s2 d=>?_;let#[z2,c,j,f,l,v,g,e,q2]:=d;subst ez;subst g;obtain rfl:u=Ag y:=rz;let#[t,rfl]:=f;have m:=zdA j G M N O U;let#[u',a,e1,e2,e3]:=Y l v e;exact#[m.typeIs,Hk (EQ X.prog X.w l t) m.mapOf e1 #[a,c,j.tok _,e2,q2 a e3]]
def zlk(d:Gl X x)(h:GD X.K X.w X.mg S.cl x D)(f:PE X b (tE S X cb))(g:ycW b:=by exact λ_ _=>rfl)(j:(x==("__debug__":AR))=false:=by decide):PE X (.Subscript (.Name x p) b pos) (tE S X (.dix D cb)):=
 (zlb d h f g j).imp λC H Q #[B,A,st,G,l,m,h]=>by
  erw[ev]at h;refine tE.bind l m h λz n v o A1 I a r c t=>?_;let#[w,e,q]:=zq t a
  cases v with
  |str u=>
   erw[yd]at c;exact#[u,w,c,e,λy E=>q y n A1 .rfl a (E _ _ _)]
  |_=>cases e
def yfS(y:AJ)(D:List (AR×PV)):R2:=λx z H Q=>z=.ref y/\∃s,x=.str s/\Q (.bl (yax s D).isSome) H
theorem PC.imp{c:E7}{a b:AZ}{t t':TE}(h:PC X c a b t)(k:∀C H Q,t' C H Q->t C H Q):PC X c a b t':=λE s C H Q I q=>h E s C H Q I (k C H Q q)
def zoU{c:E7}{r:R2}{a b:AZ}{d tb:TE}(f:OpR X (compareOp c) r)(g:PE X a d)(j:PE X b tb):PC X c a b (tOp r d tb):=λE s C H Q I h=>
 thn (g E s C H _ I h) λv l #[x,m,n,o,p]=>thn (j E l C m _ n p) λu q #[y,t,w,z,A]=>f E q C t x y v u _ w o z A
def zjz{f:E7}{a b:AZ}{c:Ce}(h:PC X f a b (tE S X c))(m:behindInMarks f b=AC)(n:∀d st v g,ev S.call d st c=.ok v g->∃k,v=.bl k):PT X (.Compare a [f] [b] pos) (tTs S X c):=
 (zlQ h m).imp λC H Q #[B,A,st,d,o,p,h]=>#[B,A,st,d,o,p,by
  cases e:ev S.call d st c with
  |bad=>rw[e]at h;exact h.elim
  |exc k s=>rw[e]at h;exact h
  |ok v s=>
   let#[k,rfl]:=n _ _ _ _ e;rw[e]at h;exact λx q r j l t=>#[k,by simpa only[yd] using t,h k q r j l rfl]]
def zgI{o:Option PV}{st:SO}{v:PV}{st1:SO}(e:toR o st=.ok v st1)(h:∀v,o=AA v->∃k,v=.bl k):∃k,v=.bl k:=by
 cases o with
 |none=>cases e
 |some w=>cases e;exact h _ rfl
def zf7(l:Gl X x)(h:GD X.K X.w X.mg S.cl x D)(m:PE X a (tE S X ca))(n:(x==("__debug__":AR))=false:=by decide):PC X .In a (.Name x p) (tE S X (.din ca D)):=by
 let#[y,es,ep,d,o,f,r,G]:=h;let#[vs,g,J,L,M,h5]:=r.pairs (P:=X.prog);have N:OpR X (compareOp .In) (yfS y D):=by intro E s C H z1 z2 v u Q I O U #[Y,c,ex,q];subst Y;subst ex;obtain rfl:u=Ag y:=U;let#[t,rfl]:=O;have Z:=zdA I o G g J L;refine wpAny_in_of (EQ X.prog X.w c t) f Z.mapOf #[.bl (yax c D).isSome,H,I.tok _,?_,q];rw[M];rfl
 refine(zoU N m (zbh (v:=.ref y) l d rfl n)).imp λC H Q kq=>?_;let#[B,A,st,ρ,rs,re,h]:=kq;erw[ev]at h;refine tE.bind rs re h λz H1 v st1 A1 s1 b re1 j g=>?_;let#[w,e,q]:=zq g b
 cases v with
 |str c=>
  erw[yd]at j
  cases e
  exact#[rfl,c,j,q _ H1 A1 .rfl b (by erw[yd])]
 |_=>cases e
def znd(b:Gl X x)(h:GD X.K X.w X.mg S.cl x D)(c:PE X a (tE S X ca))(d:behindInMarks .In (.Name x p)=false:=by with_unfolding_all rfl)(f:(x==("__debug__":AR))=false:=by decide):PE X (.Compare a [.In] [.Name x p] pos) (tE S X (.din ca D)):=zg8 (zf7 b h c f) d
def znh(b:Gl X x)(h:GD X.K X.w X.mg S.cl x D)(c:PE X a (tE S X ca))(d:behindInMarks .In (.Name x p)=false:=by with_unfolding_all rfl)(f:(x==("__debug__":AR))=false:=by decide):PT X (.Compare a [.In] [.Name x p] pos) (tTs S X (.din ca D)):=
 zjz (zf7 b h c f) d λj st v g e=>by
  erw[ev]at e;let#[y,s,_,e]:=zH e;refine zgI e λw e=>?_
  cases y<;>first|(cases e;exact#[_,rfl])|cases e
def zcC:∀(xs ys:List PV) (i:Nat) {x y:PV},xs[i]?=AA x->ys[i]?=AA y->(yaT xs ys)[i]?=AA (.tup [x,y])
 |[],_,i,_,_,h,_=>by simp at h
 |_::_,[],i,_,_,_,h=>by simp at h
 |x::xs,y::ys,0,_,_,a,b=>by simp at a b;simp[yaT,a,b]
 |x::xs,y::ys,i+1,_,_,a,b=>by erw[AN]at a b;erw[yaT,AN];exact zcC xs ys i a b
def zcx:∀(xs ys:List PV),xs.length<=ys.length->(yaT xs ys).length=xs.length
 |[],_,_=>by simp[yaT]
 |_::_,[],h=>by simp at h
 |x::xs,y::ys,h=>by erw[yaT,AY,zcx xs ys (by simpa using h)]
end
section
variable {K:AF}{cl:Nat->AJ}{B:AJ->Prop}{A:Ph}{H:Hp}{st:SO}
end
section
variable {S:Se}{X:Cx}{K:AF}{cl:Nat->AJ}{C:St}{B:AJ->Prop}{A A1:Ph}{H H1:Hp}{st:SO}{ρ:IC.Env}{pos p p2 px:CK}{a b c o tg l elt iter:AZ}{ca cb cc ce:Ce}{ci:Cit}{ct:Tg}
end
section
variable {K:AF}{cl:Nat->AJ}{B:AJ->Prop}{A:Ph}{H:Hp}{st:SO}
theorem FS.lookup{f:AR}:∀{fs:List (AR×PV)} {ks:List (AR×V)},FS K cl B A H fs ks->(∀v,fs.lookup f=AA v->∃x,ks.lookup f=AA x/\yd K cl B A H v x)/\(fs.lookup f=AD->ks.lookup f=AD)
 |[],ks,h=>by
  cases (show ks=[]from h)
  exact#[nofun,λ_=>rfl]
 |(k,v)::r,ks,h=>by
  let#[x,s,rfl,a,l]:=h;let#[b,c]:=FS.lookup (f:=f) l;erw[CJ]
  cases e:f==k with
  |true=>exact#[λw z=>by cases z;exact#[x,rfl,a],λz=>by cases z]
  |false=>exact#[b,c]
theorem FS.put{f:AR}{v:PV}{x:V}(r:yd K cl B A H v x):∀{fs:List (AR×PV)} {ks:List (AR×V)},FS K cl B A H fs ks->FS K cl B A H (yby f v fs) (yaZ f x ks)
 |[],ks,h=>by
  cases (show ks=[]from h)
  exact#[x,[],rfl,r,rfl]
 |(k,w)::q,ks,h=>by
  let#[y,s,rfl,a,l]:=h;erw[yby,yaZ]
  by_cases c:k=f
  .rw[if_pos c,if_pos c];exact#[x,s,rfl,r,l]
  .rw[if_neg c,if_neg c];exact#[y,_,rfl,a,FS.put r l]
theorem FS.len:∀{fs:List (AR×PV)} {ks:List (AR×V)},FS K cl B A H fs ks->fs.length=ks.length
 |[],ks,h=>by cases (show ks=[]from h);rfl
 |(k,w)::q,ks,h=>by let#[y,s,rfl,a,l]:=h;simp[FS.len l]
theorem yj.ins{n c:Nat}{fs:List (AR×PV)}{x:V}(rs:yj K cl B A H st)(r:yd K cl B A H (.loc n) x)(h:st[n]?=AA (.ins c fs)):∃y b d,x=.ref y/\A[n]?=AA (AA y)/\H y=AA (.ins (cl c) d b)/\FS K cl B A H fs b:=by
 erw[yd]at r;let#[p,y,rfl,j]:=r;let#[a,f]:=rs.liv n _ h (by intro z;cases z);let#[o,g,m]:=rs.obj n a f;have e:=j a f;subst e;rw[h]at g
 cases g
 let#[b,#[d,q],l]:=m;exact#[a,b,d,rfl,f,q,l]
end
theorem yd.inj_non{K:AF}{a:Nat->AJ}{B:AJ->Prop}{A:Ph}{H:Hp}{v:PV}(h:yd K a B A H v .non):v=.non:=by
 cases v with
 |non=>rfl
 |bl b=>simp[yd]at h
 |int b=>simp[yd]at h
 |str b=>simp[yd]at h
 |tp k b=>erw[yd]at h;let#[_,_,e,_]:=h;cases e
 |lst b=>erw[yd]at h;let#[_,_,e,_]:=h;cases e
 |loc b=>erw[yd]at h;let#[_,_,e,_]:=h;cases e
 |fnc b=>erw[yd]at h;cases h
 |exn b=>erw[yd]at h;let#[_,e,_]:=h;cases e
 |scr b=>erw[yd]at h;let#[_,_,e,_]:=h;cases e
section
variable {S:Se}{X:Cx}{J:St}{B:AJ->Prop}{G G1:Ph}{H H1:Hp}{st:SO}{ρ:IC.Env}{p pos pos' p2 apos:CK}{a b d o e:AZ}{ca cb cc:Ce}{es:List AZ}{ces:Ces}{c i k:Nat}{f m x:AR}{fa:AJ}{fd:BF}{ps:List AR}
def zeI{st:SO}{x v:PV}(h:yck c st x f=AA v):∃n fs,x=.loc n/\st[n]?=AA (.ins c fs)/\fs.lookup f=AA v:=by
 cases x with
 |loc n=>
  erw[yck]at h;split at h
  .rename_i a fs e;split at h
   .rename_i q;subst q;exact#[n,fs,rfl,e,h]
   .cases h
  .cases h
 |_=>cases h
def zdT{st a:SO}{x v:PV}(h:ybD c st x f v=AA a):∃n fs,x=.loc n/\st[n]?=AA (.ins c fs)/\fs.length<1000/\a=st.set n (.ins c (yby f v fs)):=by
 cases x with
 |loc n=>
  erw[ybD]at h;split at h
  .rename_i d fs e;split at h
   .rename_i q;let#[q,b]:=q;subst q
    cases h
    exact#[n,fs,rfl,e,b,rfl]
   .cases h
  .cases h
 |_=>cases h
def zih{st:SO}{x:PV}{t:Bool}(h:yb4 c m st x=AA t):∃n fs,x=.loc n/\st[n]?=AA (.ins c fs)/\fs.lookup m=none:=by
 cases x with
 |loc n=>
  erw[yb4]at h;split at h
  .rename_i b fs e;split at h
   .rename_i q;let#[q,a]:=q;subst q;exact#[n,fs,rfl,e,a]
   .cases h
  .cases h
 |_=>cases h
def zlS(g:Cls X.K (S.cl c))(j:yat X.K (S.cl c) f)(m:PE X a (tE S X ca))(o:attributeBase a f X.env (eval a X.env)=eval a X.env:=by rfl):PE X (.Attribute a f pos) (tE S X (.fld c ca f)):=
 (zlv m o).imp λJ H Q #[B,G,st,ρ,p,r,h]=>by erw[ev]at h;refine tE.bind p r h λx H1 v t G1 N b u w A=>?_;let#[z,e,q]:=zq A b;let#[n,fs,rfl,d,l]:=zeI e;let#[y,C,D,rfl,_,E,I]:=b.ins w d;let#[x,L,M]:=I.lookup.1 z l;exact#[y,S.cl c,D,C,x,rfl,E,g,j,L,q x H1 G1 .rfl b M]
def zlL(C:Cls X.K (S.cl c))(E:yat X.K (S.cl c) f)(I:PE X a (tE S X ca))(L:PE X b (tE S X cb))(M:swapsWith b (AA (.Attribute a f pos')) pos.line X.env=pure false:=by rfl):PS X (.Assign [.Attribute a f pos'] b pos) (tS S X (.sfl c ca f cb)):=
 (zlu I L M).imp λD J H #[B,G,st,ρ,N,O,h]=>by
  erw[ex]at h;refine tE.fl N O h λQ H1 v U G1 s1 j l Y Z=>tE.fl j l Z λx' u x m G2 s2 d p rx g=>?_
  cases e:ybD c m x f v with
  |none=>rw[e]at g;exact g.elim
  |some st4=>
   rw[e]at g;let#[n,fs,rfl,q,hl,rfl]:=zdT e;let#[y,w,r,rfl,z,hy,A]:=d.ins rx q;refine#[y,S.cl c,r,w,rfl,hy,C,E,by rw[<-A.len];exact hl,?_];have t:Step G2 u G2 (L2.upd u y (.ins (S.cl c) r (yaZ f Q w))):=.put (A9 z);exact g J _ G2 t (d.put (o:=.ins c (yby f v fs)) z #[_,#[r,zh],(FS.put (Y.step s2) A).step t]) (p.step t)
theorem noX:ybq (CX1 X.prog X.w) X (λ_ _ _=>False):=λL J H s e a _ z=>by let#[_,_,_,_,_,_,_,_,_,_,_,_,_,_,z]:=z;exact z.elim
def zcQ{vs:List PV}{xs:List V}{Q:VK}{rs:yj X.K S.cl B G H st}(l:ye X.K S.cl B G H vs xs)(h:Run S X J B G H (RV S X B) ((ybG (S.call i (.loc st.length::vs) (st++[.ins c []]))).bind λv g=>newV st.length v g) Q):
  ∀x a,H x=AD->H a=AD->a≠x->spI X.K S.cl S.call i (.ref x::xs) (L2.upd (L2.upd H a (.own x)) x (.ins (S.cl c) a [])) (λv t=>v=.non/\Q (.ref x) t) (λ_ _ _=>False):=by
 intro x a u f w;have b:L2.upd H a (.own x) x=none:=by rw[zc (BR w)];exact u
 have n:Step G H G (L2.upd H a (.own x)):=.upd f;have d:=rs.upd (o:=.own x) f;have p:Step G (L2.upd H a (.own x)) (G++[AA x]) (L2.upd (L2.upd H a (.own x)) x (.ins (S.cl c) a [])):=.push b;have j:=d.push b (d.nB b) (o:=.ins c []) #[[],#[a,zh],rfl];have q:yd X.K S.cl B (G++[AA x]) (L2.upd (L2.upd H a (.own x)) x (.ins (S.cl c) a [])) (.loc st.length) (.ref x):=.loc_new d;refine#[B,G++[AA x],st++[.ins c []],.loc st.length::vs,j,?_,?_]
 .simp only[ye];exact#[.ref x,xs,rfl,q,(l.step n).step p]
 .cases e:S.call i (.loc st.length::vs) (st++[.ins c []])with
  |ok v y=>
   rw[e]at h;erw[ybG,R.bind]at h
   cases v with
   |non=>
    intro z A C s m r;erw[yd]at r;exact#[r,h (.ref x) A C ((n.trans p).trans s) m (q.step s)]
   |_=>exact h.elim
  |exc k s=>rw[e]at h;exact h.elim
  |bad=>rw[e]at h;exact h.elim
def zlF(M:Mk X.K (S.cl c) fa)(F:yaK X.prog X.w X.K X.mg X.base (CX1 X.prog X.w) k fa fd ps (spI X.K S.cl S.call i))(f:yaA (k+1) X.A)(g:Gl X x)(j:X.mg x=AA (.ref (S.cl c)))(l:Binds X.K fd ps [])
  (m:PA X (e::es) (tAs S X ces)) (a:(x==("__debug__":AR))=false:=by decide) (n:starEach (e::es) X.env=(AC,eval e X.env)::starEach es X.env:=by rfl) (b:(backTo pos (starEach es X.env)).any (·.1)=false:=by rfl):
  PE X (.Call (.Name x p) (e::es) [] pos) (tE S X (.new c i ces)):=
 (zkZ M F f g j l .nil noX m a n b).imp λJ H Q #[B,G,st,ρ,rs,o,h]=>by erw[ev]at h;refine tAs.bind rs o h λw H1 y q G1 z d r t u=>?_;rw[B5];exact zcQ (rs:=d) t u
def ybW(CX:CXT)(X:Cx)(C:AJ)(m:AR)(sp:Sp)(c:TE)(t:TA):TE:=λJ H Q=>c J H λx H1=>∃y d fs,x=.ref y/\H1 y=AA (.ins C d fs)/\fs.lookup m=AD/\t J H1 λf a=>∃E:XK,sp (.ref y::f) a Q E/\∀L s e b,Inv X L J a s->CX X.stack a s E e b->X.xe e b
def zil{CX:CXT}{sp:Sp}{C:AJ}{j:TE}{t:TA}{pl:IR Bool}(A:PE X o j)(c:Cls X.K C)(n:Meth X.K C m fa)(F:yaK X.prog X.w X.K X.mg X.base CX k fa fd ps sp)(B:yaA k X.A)(D:Binds X.K fd ps [])(G:PA X (e::es) t)
  (a:starEach (e::es) X.env=(AC,eval e X.env)::starEach es X.env:=by rfl) (b:(backTo pos (starEach es X.env)).any (·.1)=false:=by rfl)
  (M:eval (.Call (.Attribute o m apos) (e::es) [] pos) X.env=(do
   let p <-eval o X.env
   standAt apos.atName
   let (f,first) <-holding [p] (getMethod p m pl)
   callWith pos f first (backTo pos (starEach (e::es) X.env)) (backToKw pos (keywordEach [] X.env))):=by rfl):
  PE X (.Call (.Attribute o m apos) (e::es) [] pos) (ybW CX X C m sp j t):=by intro L s J H Q I h;refine GV (pl:=pl) (thn (A L s J H _ I h) λu N d=>?_) M;let#[x,H1,w,O,y,dx,fs,ex,U,l,q]:=d;subst ex;obtain rfl:u=Ag y:=O;refine zbY w U c n l ?_;refine Eo (first:=[.ref y]) (h₀:=X.base) I.ok.mod.kin n.kp (thn (G pos L N J H1 _ w q) λus Y d=>?_) a b;let#[vs,H2,g,r,E,Z,hx]:=d;refine #[g.kIn,?_];exact zb1 (us:=.ref y::us) (vs:=.ref y::vs) F B D .nil g (.cons rfl r) (by rw[B5];exact Z) λe s' z=>hx L Y e s' g z
def zf0{CX:CXT}{sp:Sp}{C:AJ}{b:TE}{pl:IR Bool}(j:PE X o b)(c:Cls X.K C)(d:Meth X.K C m fa)(F:yaK X.prog X.w X.K X.mg X.base CX k fa fd ps sp)(n:yaA k X.A)(p:Binds X.K fd ps [])
  (q:eval (.Call (.Attribute o m apos) [] [] pos) X.env=(do
   let g <-eval o X.env
   standAt apos.atName
   let (f,first) <-holding [g] (getMethod g m pl)
   callWith pos f first (backTo pos (starEach [] X.env)) (backToKw pos (keywordEach [] X.env))):=by rfl):
  PE X (.Call (.Attribute o m apos) [] [] pos) (ybW CX X C m sp b ycR):=by intro L s J H Q I h;refine GV (pl:=pl) (thn (j L s J H _ I h) λu r t=>?_) q;let#[x,H1,a,w,y,M,fs,ex,A,l,E,B,D]:=t;subst ex;obtain rfl:u=Ag y:=w;refine zbY a A c d l ?_;exact E9 (first:=[.ref y]) a.kIn d.kp (zb1 (us:=[.ref y]) (vs:=[.ref y]) F n p .nil a (.cons rfl .nil) B λe G z=>D L r e G a z)
def zcB{Q:VK}{t:TA}(w:∀{H1:Hp} {G1:Ph} {st1:SO} {P:List V->Hp->Prop} {r:List PV->SO->R PV},yj X.K S.cl B G1 H1 st1->yC X.K S.cl B G1 H1 ρ J->Run S X J B G1 H1 (RV S X B) ((evs S.call ρ st1 ces).bind r) Q ->
   (∀l d f a G2,Step G1 H1 G2 d->yj X.K S.cl B G2 d a->yC X.K S.cl B G2 d ρ J->ye X.K S.cl B G2 d f l->Run S X J B G2 d (RV S X B) (r f a) Q->P l d)->t J H1 P)
  (rs:yj X.K S.cl B G H st) (z:yC X.K S.cl B G H ρ J) (h:Run S X J B G H (RV S X B) ((ev S.call ρ st ca).bind λx st1=>onO (yb4 c m st1 x) λ_=>(evs S.call ρ st1 ces).bind λf a=>S.call i (x::f) a) Q):
  ybW (CX1 X.prog X.w) X (S.cl c) m (spI X.K S.cl S.call i) (tE S X ca) t J H Q:=by
 refine tE.bind rs z h λx H1 v st1 G1 Y g o u j=>?_
 cases q:yb4 c m st1 v with
 |none=>rw[q]at j;exact j.elim
 |some b=>
  rw[q]at j;erw[onO]at j;let#[n,fs,rfl,A,C]:=zih q;let#[y,D,E,rfl,_,I,L]:=g.ins u A;refine#[y,E,D,rfl,I,L.lookup.2 C,w g o j λl d f a G2 M p N O U=>?_];exact zaA p (by erw[ye];exact#[.ref y,l,rfl,u.step M,O]) U
def zlY{pl:IR Bool}(l:Cls X.K (S.cl c))(p:Meth X.K (S.cl c) m fa)(F:yaK X.prog X.w X.K X.mg X.base (CX1 X.prog X.w) k fa fd ps (spI X.K S.cl S.call i))(q:yaA k X.A)(r:Binds X.K fd ps [])
  (t:PE X o (tE S X ca)) (u:PA X (e::es) (tAs S X ces))
  (a:starEach (e::es) X.env=(AC,eval e X.env)::starEach es X.env:=by rfl) (b:(backTo pos (starEach es X.env)).any (·.1)=false:=by rfl)
  (w:eval (.Call (.Attribute o m apos) (e::es) [] pos) X.env=(do
   let j <-eval o X.env
   standAt apos.atName
   let (f,first) <-holding [j] (getMethod j m pl)
   callWith pos f first (backTo pos (starEach (e::es) X.env)) (backToKw pos (keywordEach [] X.env))):=by rfl):
  PE X (.Call (.Attribute o m apos) (e::es) [] pos) (tE S X (.mcl c i m ca ces)):=
 (zil t l p F q r u a b w).imp λJ H Q #[B,G,st,ρ,x,y,h]=>by erw[ev]at h;exact zcB (λd g z n=>tAs.bind d g z n) x y h
def zjI{pl:IR Bool}(l:Cls X.K (S.cl c))(p:Meth X.K (S.cl c) m fa)(F:yaK X.prog X.w X.K X.mg X.base (CX1 X.prog X.w) k fa fd ps (spI X.K S.cl S.call i))(q:yaA k X.A)(r:Binds X.K fd ps [])
  (u:PE X o (tE S X ca))
  (w:eval (.Call (.Attribute o m apos) [] [] pos) X.env=(do
   let g <-eval o X.env
   standAt apos.atName
   let (f,first) <-holding [g] (getMethod g m pl)
   callWith pos f first (backTo pos (starEach [] X.env)) (backToKw pos (keywordEach [] X.env))):=by rfl):
  PE X (.Call (.Attribute o m apos) [] [] pos) (tE S X (.mcl c i m ca .nil)):=
 (zf0 u l p F q r w).imp λJ H Q #[B,G,st,ρ,x,y,h]=>by erw[ev]at h;refine zcB (t:=ycR) (λ{H1 G1 a P z} b d j n=>?_) x y h;erw[IC.vsq0,IC.vsq1,R.bind]at j;exact n [] H1 [] a G1 .rfl b d (by erw[ye]) j
def zcI{b:PV}{a:List (PV×PV)}{v:PV}(h:look b a=AA v)(w:PV):(look b a).getD w=v:=by rw[h];rfl
def zns(Y:X.A.units+16<cLine)(Z:PE X a (tE S X ca))(g:PE X b (tE S X cb))(hs:ycW b:=by exact λ_ _=>rfl):PE X (.Subscript a b pos) (tE S X (.dgt ca cb)):=
 (zkh Y Z g hs).imp λJ H Q #[B,G,st,ρ,rs,re,h]=>by
  erw[ev]at h;refine tE.bind rs re h λx H1 v st1 G1 s1 C D rv h1=>tE.bind C D h1 λy A w E G2 s2 j re2 rw h2=>?_;let#[z,e,q]:=zq h2 j;erw[yc8]at e
  cases I:yag E v with
  |none=>rw[I]at e;cases e
  |some tk=>
   let#[t,kvs]:=tk;rw[I]at e;dsimp only at e;split at e
   .rename_i O;let#[n,rfl,d]:=zaJ I;let#[U,rfl,hy3,u]:=j.dct (rv.step s2) d
    cases t with
    |false=>
     let#[f,rfl]:=zdu O;let#[o,p,l]:=u;obtain⟨c,m,r⟩:∃c,yaS o f=AA c/\yd X.K S.cl B G2 A z c:=by
      have d:=DK.look (q:=f) l (v:=.non) (x:=.non) (by erw[yd]);have g:=DK.look (q:=f) l (v:=.bl AE) (x:=.bl AE) (by erw[yd]);rw[zcI e]at d g
      cases m:yaS o f with
      |some c=>rw[m]at d;exact#[c,rfl,d]
      |none=>
       rw[m]at d g;exact absurd (yd.inj_non d) (λL=>by subst L;simp[yd]at g)
     exact#[U,c,rfl,.inl #[o,f,.inl p,zoK.mp rw,m.symm],q c A G2 .rfl j r]
    |true=>
     let#[f,rfl,M]:=zdD O;let#[o,p,l]:=u;let#[b',rfl,N]:=zdk M rw;obtain⟨c,m,r⟩:∃c,yaS o f=AA c/\yd X.K S.cl B G2 A z c:=by
      have d:=DT.look (q:=f) l (v:=.non) (x:=.non) (by erw[yd]);have g:=DT.look (q:=f) l (v:=.bl AE) (x:=.bl AE) (by erw[yd]);rw[zcI e]at d g
      cases m:yaS o f with
      |some c=>rw[m]at d;exact#[c,rfl,d]
      |none=>
       rw[m]at d g;exact absurd (yd.inj_non d) (λL=>by subst L;simp[yd]at g)
     exact#[U,c,rfl,.inr #[o,f,b',.inl p,rfl,N,m.symm],q c A G2 .rfl j r]
   .cases e
def ziX(A:X.A.units+64<cLine):OpR X (compareOp .In) (rTs S X yca):=by
 rintro L s J H x y v u Q I D E ⟨B,G,st,a,b,z,n,M,N,e,q⟩
 erw[yca]at e
 cases o:yaJ st b with
 |none=>rw[o]at e;cases e
 |some g=>
  rw[o]at e;dsimp only at e;split at e
  .rename_i c;rw[AK]at c
   cases e
   let#[l,j,rfl,f,m]:=zjp n N o
   cases (show u=Ag l from E)
   let#[bs,C]:=zP (S:=S) I a 60 x v c.1 M D;rcases f with f|f
   .let#[d,r,p,O]:=I.list f;refine IE (eqR s.heap (toD a)) p.isList (λw t=>zdP (S:=S) I a c.1 C A g j d c.2 m r w (by simpa using t)) #[.bl _,H,I,rfl,?_];rw[show d.toArray.any (eqR s.heap (toD a))=d.any (eqR s.heap (toD a))by simp,zdw (S:=S) I a c.1 g j d c.2 m r];exact q _ H G .rfl n (by erw[yd])
   .let#[d,r,p,O]:=I.tuple f;refine Hj (eqR s.heap (toD a)) p (λw t=>zdP (S:=S) I a c.1 C A g j d c.2 m r w (by simpa using t)) #[.bl _,H,I,rfl,?_];rw[show d.toArray.any (eqR s.heap (toD a))=d.any (eqR s.heap (toD a))by simp,zdw (S:=S) I a c.1 g j d c.2 m r];exact q _ H G .rfl n (by erw[yd])
  .cases e
def znt(j:X.A.units+64<cLine)(l:PE X a (tE S X ca))(m:PE X b (tE S X cb))(n:behindInMarks .In b=AC):PE X (.Compare a [.In] [b] pos) (tE S X (.inn ca cb)):=
 (zfZ (ziX j) l m n).imp λJ H Q #[B,G,st,ρ,o,p,h]=>by erw[ev]at h;refine tE.bind o p h λx H1 v r G1 E d f t u=>tE.bind d f u λy I w g G2 A c C rw D=>?_;let#[z,e,q]:=zq D c;exact#[B,G2,g,v,w,z,c,t.step A,rw,e,q]
def zkf{st:SO}{x y z:PV}(h:yca st x y=AA z):∃k,z=.bl k:=by
 unfold yca at h;split at h
 .split at h
  .cases h;exact#[_,rfl]
  .cases h
 .cases h
def zlt(n:X.A.units+64<cLine)(o:PE X a (tE S X ca))(p:PE X b (tE S X cb))(q:behindInMarks .In b=AC):PT X (.Compare a [.In] [b] pos) (tTs S X (.inn ca cb)):=
 (zgm (ziX n) o p q).imp λJ H Q #[B,G,st,ρ,r,t,h]=>by
  erw[ev,ya2,R.bind_assoc]at h;refine tE.bind r t h λx H1 v u G1 N f g A C=>tE.bind f g C λy O w c G2 D j E rw d=>?_
  cases e:yca c v w with
  |none=>rw[e]at d;exact d.elim
  |some z=>
   let#[k,rfl]:=zkf e;rw[e]at d;refine#[B,G2,c,v,w,.bl k,j,A.step D,rw,e,λU I L M l m=>?_];erw[yd]at m;exact#[k,m,d k I L M l rfl]
end
inductive ycf(w:Ah)(fa:Nat->AJ):List (AR×Nat)->List C7->Prop
 |nil:ycf w fa [] []
 |cons {k:AR} {i:Nat} {t:Hw} {D:List (AR×Nat)} {es:List C7} (h:ycf w fa D es):ycf w fa ((k,i)::D) (#[FF w.params k,.str k t,.ref (fa i)] :: es)
def GDF(K:AF)(w:Ah)(b:AR->Option AG)(c:Nat->AJ)(x:AR)(D:List (AR×Nat)):Prop:=
 ∃(y:AJ) (a:Array C7) (d:Nat),b x=AA (.ref y)/\K.lookup y=AA #[.type "dict",AD,.dict a d,(List.toArray [])]/\ycf w c D a.toList/\(D.map (·.1)).Nodup
theorem ycf.pairs{P:A6}{w:Ah}{b:Nat->AJ}{D:List (AR×Nat)}{es:List C7}(h:ycf w b D es):
  ∃a:List (AR×AG),Pairs (strKind P w) es a/\(∀e∈es,∃k,(strKind P w).is k e.key=AE/\e.hash=(strKind P w).hash k)/\a.map (·.1)=D.map (·.1) /\
   ∀s i,D.lookup s=AA i->valueAt a s=AA (.ref (b i)):=by
 induction h with
 |nil=>exact#[[],.nil,λe c=>(by cases c),rfl,λs v e=>by cases e]
 |@cons k i t D es h ih=>
  let#[a,f,g,l,m]:=ih;have d:∀s,valueAt ((k,Ag (b i))::a) s=if k=s then AA (.ref (b i))else valueAt a s:=λs=>by
   unfold valueAt;rw[CZ]
   by_cases e:k=s
   .simp[e]
   .simp[e]
  refine#[(k,.ref (b i))::a,.cons (EQ P w k t) rfl f,λe c=>?_,by rw[AV,AV,l],λs j e=>?_]
  .rcases A8.1 c with rfl|c
   .exact#[k,EQ P w k t,rfl]
   .exact g e c
  .rw[d];erw[CJ]at e
   by_cases q:k=s
   .subst q;rw[beq_self_eq_true]at e
    cases e
    rw[if_pos rfl]
   .rw[beq_eq_false_iff_ne.2 (BR q)]at e;rw[if_neg q];exact m s j e
section
variable {S:Se}{X:Cx}{C:St}{B:AJ->Prop}{A:Ph}{H:Hp}{st:SO}{ρ:IC.Env}{pos p p1 p2 p3 p4 p5 p6 p7:CK}{a b i e n:AZ}{es:List AZ}{ca cn:Ce}{ces:Ces}{x y:AR}{D:List (AR×Nat)}{ty:TE}{t:TA}{fa:Nat->AJ}{fdd:Nat->BF}{ps:Nat->List AR}{k ix:Nat}
structure Makers(S:Se)(X:Cx)(k:Nat)(D:List (AR×Nat))(fa:Nat->AJ)(fdd:Nat->BF)(ps:Nat->List AR):Prop where
 F:∀s j,D.lookup s=AA j->yaK X.prog X.w X.K X.mg X.base (CX1 X.prog X.w) k (fa j) (fdd j) (ps j) (spI X.K S.cl S.call j)
 kp:∀s j,D.lookup s=AA j->Ax X.K (.ref (fa j))=AE
 b:∀s j,D.lookup s=AA j->Binds X.K (fdd j) (ps j) []
end
section
variable {P:A6}{w:Ah}{K:AF}{mg:AR->Option AG}{base:Au}{cl:Nat->AJ}{T:Nat->Option IC.Fn}{fi:Nat}{fn:IC.Fn}{x qual:AR}{stm:CL}{f:AJ}{fd:BF}{N ps:List AR}{k m:Nat}
def zhM:yaK P w K mg base (CX1 P w) m f fd ps (spI K cl (yc T 0) fi):=
 #[λc H Q E #[_,_,_,_,_,_,h]=>by rw[yc]at h;exact h.elim,λA a s H b d c Q E _ _ _ _ #[_,_,_,_,_,_,h]=>by rw[yc]at h;exact h.elim]
end
theorem yaE.units{k:Nat}{A:Ai}(r:yaE k A):A.units+64<cLine:=by have:=r.un;lia
section
variable {P:A6}{w:Ah}{K:AF}{mg:AR->Option AG}{base:Au}{cl:Nat->AJ}{T:Nat->Option IC.Fn}{fi:Nat}{fn:IC.Fn}{x qual:AR}{stm:CL}{f:AJ}{fd:BF}{N ps:List AR}{k m:Nat}
def zhN(u:T fi=AA fn)(E:N.length=fn.ns)(o:fn.pure=AC){d:B4}{cdv:AG}{A:Ai}{outer:List BZ}{s:AH}{vs:List V}{H:Hp}{Q:VK}(h:spI K cl (yc T (k+1)) fi vs H Q E0):
  tSs #[cl,yc T k,AC] (ybH P w K mg base N qual d f cdv A outer s H) fn.body {nx:=λ_ g=>Q .non g,rt:=Q} (L2.start N vs) H:=by
 let#[B,C,st,a,G,l,h]:=h;have J:a.length=fn.np:=zhd (k:=k) u a st λz=>by rw[z]at h;exact h
 have x:=l.length;rw[yc,u]at h;dsimp only at h;rw[if_pos J,o,if_neg (by simp)]at h;refine#[B,C,st,_,G,yC.start l (fn.ns-fn.np) (),?_];show yaD _ _ _ _ _ (exs (yc T k) (a.map AA++AT (fn.ns-fn.np) AD) st fn.body) _
 cases e:exs (yc T k) (a.map AA++AT (fn.ns-fn.np) AD) st fn.body with
 |nx p b=>
  rw[e]at h;intro L g m n j M;exact h .non g m n j (by erw[yd])
 |rt v b=>
  rw[e]at h;intro y g m n j O;exact h y g m n j O
 |exc c p b=>
  rw[e]at h;intro L C1 H1 ev n U _ ex;rcases ex with⟨D,H2,s2,C2,I,X,q⟩|⟨t,_⟩|⟨t,_⟩
  .let#[_,Y,_,g,_,_,_,_,_,_,_,_,_,_,e1,m,Z,r]:=q;exact(h g m (U.trans (X.trans Z)) r).elim
  .cases t
  .cases t
 |bk p b=>rw[e]at h;exact h.elim
 |ct p b=>rw[e]at h;exact h.elim
 |bad=>rw[e]at h;exact h.elim
def zm4(g:T fi=AA fn)(F:Fun K x qual stm f fd)(j:yaL N ps (yh stm))(b:ps.length=fn.np)(c:N.length=fn.ns)(d:fn.pure=AC)
  (a:∀(cdv:AG) (A:Ai) (outer:List BZ) (s:AH) (H:Hp),yaE m (A.deeper (envOfC qual (yh stm) s.heap.objs.size f cdv)) ->
   PSs (ybH P w K mg base N qual (yh stm) f cdv A outer s H) (yN stm) (tSs #[cl,yc T k,AC] (ybH P w K mg base N qual (yh stm) f cdv A outer s H) fn.body)):
  ybP P w K mg base (m+1) f fd ps (spI K cl (yc T (k+1)) fi):=
 F.okH j (λl H Q E h=>zi6 g b h) λcdv A outer s H l Q n h=>#[_,a cdv A outer s H n,zhN g c d h]
def ziC:ybP P w K mg base m f fd ps (spI K cl (yc T 0) fi):=
 #[λc H Q E #[_,_,_,_,_,_,h]=>by rw[yc]at h;exact h.elim,λA a s H b d c Q _ _ _ _ #[_,_,_,_,_,_,h]=>by rw[yc]at h;exact h.elim]
end
section
variable {S:Se}{X:Cx}{C:St}{B:AJ->Prop}{A:Ph}{H:Hp}{st:SO}{ρ:IC.Env}{p pos:CK}{e:AZ}{es:List AZ}{ces:Ces}{fi k:Nat}{x:AR}{f:AJ}{fd:BF}{ps:List AR}
end
end L2
namespace L2
open PySem IC
section
variable {S:Se}{X:Cx}{C:St}{B:AJ->Prop}{A A1:Ph}{H H1:Hp}{st:SO}{ρ:IC.Env}{p pos p2 px py pt pt2:CK}{a b c d o a' b' c' d':AZ}{ca cb cc cd ce cf:Ce}{D:List (AJ×Bw)}{s:AH}{kt k2:Nat}{es:List AZ}{ces:Ces}{x:AR}
end
end L2
namespace L2
open PySem PySem.Spec PyProof.Rows
section
variable {X:Cx}
end
end L2
namespace L2
open PySem PySem.Spec PyProof.Rows IC
section
variable {S:Se}{X:Cx}{C:St}{B:AJ->Prop}{A A1:Ph}{H H1:Hp}{st:SO}{ρ:IC.Env}{p pos p2 apos:CK}{a b c d:AZ}{ca cb cc:Ce}{es:List AZ}{ces:Ces}{K:AF}{cl:Nat->AJ}
end
section
variable {S:Se}{X:Cx}{a b:AZ}{c i:Nat}{j:Int}{f:AR}{pos tpos:CK}
def zl6(hc:Cls X.K (S.cl c))(hn:yat X.K (S.cl c) f)(ha:PE X a (tE S X (.var i)))(hv:PE X b (tE S X (.cst (.int j)))):
  PS X (.AugAssign (.Attribute a f tpos) .Add b pos) (tS S X (.sfl c (.var i) f (.bin .add (.fld c (.var i) f) (.cst (.int j))))):=
 (zfY ha hv zmk).imp λD C H #[B,A,st,I,rs,U,h]=>by
  erw[ex,ev]at h
  cases q:I[i]? with
  |none=>rw[q]at h;exact h.elim
  |some o=>
   cases o with
   |none=>rw[q]at h;exact h.elim
   |some x=>
    rw[q]at h;dsimp only[R.bind]at h;refine#[B,A,st,I,rs,U,?_];erw[ev,q];intro x' H1 A1 Y m Z;have p:=U.step Y;have h:=yaD.on Y h
    cases e:yck c st x f with
    |none=>rw[e]at h;exact h.elim
    |some v=>
     rw[e]at h;let#[n,fs,rfl,d,l]:=zeI e;let#[y,ks,dx,rfl,hp,hy,lr]:=m.ins Z d;let#[x,hx,r]:=lr.lookup.1 v l;refine#[y,S.cl c,dx,ks,x,rfl,hy,hc,hn,hx,#[B,A1,st,I,m,p,?_]];erw[ev];intro y' H2 A2 J t ry;erw[yd]at ry;subst ry
     cases v with
     |int k=>
      erw[yd]at r;subst r;refine#[k,j,rfl,rfl,?_];have h:yaD S X B A1 H1 (match ybD c st (.loc n) f (.int (k+j))with|some L=>Fl.nx I L|none=>Fl.bad) D:=h;have h:=yaD.on J h;have M:=Z.step J;let#[y2,u,g,e2,w,N,E]:=t.ins M d
      cases e2
      cases O:ybD c st (.loc n) f (.int (k+j))with
      |none=>rw[O]at h;exact h.elim
      |some st4=>
       rw[O]at h;let#[n',fs',z,G,hl,rfl]:=zdT O
       cases z
       rw[d]at G
       cases G
       refine#[g,u,N,by rw[<-E.len];exact hl,?_];have Q:Step A2 H2 A2 (L2.upd H2 y (.ins (S.cl c) g (yaZ f (.int (k+j)) u))):=.put (A9 w);exact h C _ A2 Q (t.put (o:=.ins c (yby f (.int (k+j)) fs)) w #[_,#[g,zh],(FS.put (by erw[yd]) E).step Q]) ((p.step J).step Q)
     |_=>exact h.elim
end
end L2
namespace HT
open PySem PySem.Spec PyProof.Rows
section
variable {prog:A6}{w:Ah}{A:Ai}{E:AG->AH->Prop}{s:AH}
def ze3(n:Nat):B1 ((n:Int)-1) (-1) (-1)=n:=by
 unfold B1;rw[if_neg ⋯]
 by_cases h:(n:Int)-1 > -1
 .rw[if_pos h];have:-(-1:Int)=1:=rfl;rw[this,HR];lia
 .rw[if_neg h];lia
def za5{sl:AJ}{n:Nat}{t:Hw}{Q:Int×Int×Nat->AH->Prop}(c:s.heap.IsSliceOf sl .none .none (.int (-1) t))
  (h:Q ((n:Int)-1,-1,n) s):A1 (model prog w) A (Cc (.ref sl) (pure (n:Int))) Q E s:=by let#[os,a,d,b]:=id c;unfold Cc FL;refine AB (AB (Aq a b (x:=.none) rfl (AB (Aq a b (x:=.none) rfl (AB (Aq a b (x:=.int (-1) t) rfl (AM ?_)))))));refine AB (slicePart_int ?_);show A1 _ _ (if ((-1:Int)==0)=AE then _ else _) _ _ s;rw[if_neg ⋯];refine AB (Es (AB (Es (AB (AM ?_)))));show A1 _ _ (pure ((n:Int)-1,(-1:Int),B1 ((n:Int)-1) (-1) (-1))) _ _ s;rw[ze3];exact AM h
def zex{B C:Type}{f g:B->Option C}:∀l:List B,(∀x∈l,f x=g x)->l.filterMap f=l.filterMap g
 |[],_=>rfl
 |a::l,h=>by rw[CG,CG,h a A2,zex l λx b=>h x (AS _ b)]
def ziR(l:List AG):((DR l.toArray.size).filterMap λ(m:Nat)=>l.toArray[((l.toArray.size:Int)-1+(m:Int)*(-1)).toNat]?)=l.reverse:=by
 refine DO λi=>?_;have e:∀m:Nat,m<l.length->l.toArray[((l.toArray.size:Int)-1+(m:Int)*(-1)).toNat]?=AA (l.reverse.getD m .none):=λm b=>by rw[AX,show ((l.length:Int)-1+(m:Int)*(-1)).toNat=l.length-1-m by lia];rw[List.getElem?_toArray,BN,GU b,Ac ()];rfl
 have c:((DR l.toArray.size).filterMap λ(m:Nat)=>l.toArray[((l.toArray.size:Int)-1+(m:Int)*(-1)).toNat]?)=(DR l.length).map λm=>l.reverse.getD m .none:=by rw[<-List.filterMap_eq_map,AX];refine zex _ λm b=>?_;have:=e m (GZ.1 b);rw[AX]at this;exact this
 rw[c,BG]
 by_cases a:i<l.length
 .rw[Gq a];show AA (l.reverse.getD i .none)=_;rw[BN,Ac (by simpa using a)];rfl
 .rw[BA (by simpa using a),BA (by simpa using a)];rfl
theorem getItem_tuple_rev{t sl:AJ}{l:List AG}{o:Hw}{Q:AG->AH->Prop}(b:G1 s.heap t l.toArray)(n:s.heap.IsSliceOf sl .none .none (.int (-1) o))
  (h:Q (.ref s.heap.objs.size) {s with heap:=s.heap.push {cls:=.type "tuple",data:=.seq l.reverse.toArray} })
  (c:l.length<=sizeLine):A1 (model prog w) A (getItem (.ref t) (.ref sl)) Q E s:=by
 have a:sizeOk (.seq l.reverse.toArray):=by show l.reverse.toArray.size<=sizeLine;rw[AX,Bc];exact c
 let#[os,d,f,p]:=id n;have g:s.TypeIs (.ref sl) "slice":=#[os,d,f];unfold getItem
 try with_reducible refine Bk ?_
 first|refine AB (AM ?_)|skip
 refine AB (FR b.typeIs ⋯ ?_);refine AB (BO (name:=AI "__getitem__") b.typeIs An
  (BY An b.typeIs Ea ?_ (Et _ _)))
 show A1 _ _ (C9 (.ref t) >>= _) _ _ s;refine AB (Ci b ?_);refine AB (GB g ?_);rw[if_pos ⋯];refine AB (za5 n ?_);have j:¬((((l.toArray.size:Int)-1)==0&&(-1:Int)==1&&l.toArray.size==l.toArray.size)=AE):=by intro q;rw[AK,AK]at q;exact absurd q.1.2 ⋯
 show A1 _ _ (if (((l.toArray.size:Int)-1)==0&&(-1:Int)==1&&l.toArray.size==l.toArray.size)=AE then _ else _) _ _ s;rw[if_neg j,ziR]
 first
  |exact AB (m:=BE _) (Am (AM #[_,rfl,AM h]) a)
  |exact AB (m:=BE _) (Am (AB (AM (AM #[_,rfl,AM h]))) a)
  |exact AB (AB (m:=BE _) (Am (AM (AM #[_,rfl,AM h])) a))
  |exact AB (AB (m:=BE _) (Am (AM #[_,rfl,AM h]) a))
end
end HT
namespace L2
open PySem PySem.Spec PyProof.Rows IC
section
variable {S:Se}{X:Cx}{pos p2:CK}{e e3:AZ}{te t3:TE}{a:AZ}{ca c3:Ce}
def zlj(C:PE X e te)(G:PE X e3 t3):PE X (.Subscript e (.Slice AD AD (AA e3) p2) pos) (λD H Q=>te D H λx t=>t3 D t λk f=>k=.int (-1)/\∃a d,x=.ref a/\((SqT X.K f a d/\∀p,f p=AD->Q (.ref p) (upd f p (.tup d.reverse))) \/ (SqL X.K f a d/\∀p,f p=AD->Q (.ref p) (upd f p (.lst d.reverse))))):=by
 intro E s D H Q I h;refine HG (thn (C E s D H _ I h) λv z u=>?_);let#[x,t,J,L,M]:=u;refine wpAny_Slice ?_;rw[Gw];refine AM (AM ?_);show A1 _ _ (eval e3 X.env) _ _ z;refine thn (G E z D t _ J M) λZ c u=>?_;let#[k,N,O,U,Y,a,d,ex,q]:=u;subst Y ex;let#[g,rfl]:=U
 cases L
 have j:Inv X E D N {c with heap:=c.heap.push {cls:=.type "slice",data:=.fields (List.toArray [.none,.none,.int (-1) g])} }:=O.kept (t':=c.toks) λb A q=>AL _ q;rcases q with⟨w,q⟩|⟨w,q⟩
 .let#[l,r,m,n]:=j.tuple w;have y:A1 (model X.prog X.w) X.A (getItem (.ref a) (.ref c.heap.objs.size)) (EP X E D Q) X.xe {c with heap:=c.heap.push {cls:=.type "slice",data:=.fields (List.toArray [.none,.none,.int (-1) g])} }:=by refine HT.getItem_tuple_rev m (Eu ..) ?_ (by rw[<-r.length];exact n);refine#[.ref _,_,j.laid (t':=c.toks) (o:=.tup d.reverse) (λb A q=>AL _ q) (AU _) ?_,rfl,q _ (j.hok.fresh (AU _))];exact#[by rw[Bc];exact n,_,r.reverse,AQ _ rfl]
  show A1 (model X.prog X.w) X.A (subscriptTail e (.Slice AD AD (AA e3) p2) (.ref a) (.ref c.heap.objs.size)) (EP X E D Q) X.xe {c with heap:=c.heap.push {cls:=.type "slice",data:=.fields (List.toArray [.none,.none,.int (-1) g])} };exact Ia (ops:=[.ref a,.ref c.heap.objs.size]) m.typeIs An.lookup y (by with_unfolding_all rfl)
 .let#[l,r,m,n]:=j.list w;have B:=r.length;have y:A1 (model X.prog X.w) X.A (getItem (.ref a) (.ref c.heap.objs.size)) (EP X E D Q) X.xe {c with heap:=c.heap.push {cls:=.type "slice",data:=.fields (List.toArray [.none,.none,.int (-1) g])} }:=by refine F1 m.isList (Eu ..) .none .none (.int (-1) g) ⋯ ?_ (by rw[AX]<;>lia);rw[PySem.W.krv_pick];refine#[.ref _,_,j.laid (t':=c.toks) (o:=.lst d.reverse) (λb A q=>AL _ q) (AU _) ?_,rfl,q _ (j.hok.fresh (AU _))];exact#[by rw[Bc];exact n,l.reverse,0,r.reverse,AQ _ rfl]
  show A1 (model X.prog X.w) X.A (subscriptTail e (.Slice AD AD (AA e3) p2) (.ref a) (.ref c.heap.objs.size)) (EP X E D Q) X.xe {c with heap:=c.heap.push {cls:=.type "slice",data:=.fields (List.toArray [.none,.none,.int (-1) g])} };exact Ia (ops:=[.ref a,.ref c.heap.objs.size]) m.isList.typeIs FT.lookup y (by with_unfolding_all rfl)
theorem ye.reverse{K:AF}{a:Nat->AJ}{B:AJ->Prop}{C:Ph}{H:Hp}:∀{vs:List PV} {xs:List V},ye K a B C H vs xs->ye K a B C H vs.reverse xs.reverse
 |[],xs,h=>by erw[ye]at h;subst h;erw[List.reverse_nil,ye]
 |v::vs,xs,h=>by erw[ye]at h;let#[y,b,rfl,r,l]:=h;rw[Dy,Dy];exact(ye.reverse l).append (by erw[ye];exact#[y,[],rfl,r,rfl])
def zfM{F G J:Type}(r:R F)(f:F->SO->R G)(g:G->SO->R J):(r.bind f).bind g=r.bind λv s=>(f v s).bind g:=by cases r<;>rfl
def zme(A:PE X a (tE S X ca))(E:PE X e3 (tE S X (.neg (.cst (.int 1))))):PE X (.Subscript a (.Slice AD AD (AA e3) p2) pos) (tE S X (.blt .rev (.cons ca .nil))):=
 (zlj A E).imp λD H Q #[B,C,st,G,I,J,h]=>by
  erw[ev,IC.vsq0,IC.vsq1,zfM]at h;refine tE.bind I J h λx N v l C1 O g m u L=>?_;refine#[B,C1,l,G,g,m,?_];let#[z,f,q]:=zq L g;erw[ev,R.bind];intro y U C2 j c w;erw[yd]at w;refine#[w,?_];unfold yaf at f
  cases v with
  |tp k M=>
   erw[ydh]at f
   .cases f
    have b:=u.step j;erw[yd]at b;let#[p,n,rfl,o,r]:=b;exact#[p,n,rfl,.inl #[o.sq,λt d=>q _ _ C2 (j.trans (.upd d)) (c.upd d) (.tup_new d c r.reverse)]]
  |lst M=>
   erw[ydh]at f
   cases f
   have b:=u.step j;erw[yd]at b;let#[p,n,rfl,o,r]:=b;exact#[p,n,rfl,.inr #[o.sq,λt d=>q _ _ C2 (j.trans (.upd d)) (c.upd d) (.lst_new d c r.reverse)]]
  |_=>cases f
end
section
variable {X:Cx}{prog:A6}{w:Ah}{A:Ai}{E:AG->AH->Prop}{s:AH}
end
section
variable {S:Se}{X:Cx}{pos px:CK}{a:AZ}{ca:Ce}
end
end L2
namespace PySem
open Sem (wp)
section
variable {prog:A6}{w:Ah}{K:Type}[DecidableEq K]{A:Ai}{R:F0->AH->Prop}
end
end PySem
namespace L2
open PySem PySem.Spec PyProof.Rows
section
variable {X:Cx}
end
end L2
namespace L2
open PySem PySem.Spec PyProof.Rows IC
section
variable {K:AF}{cl:Nat->AJ}{B:AJ->Prop}{A:Ph}{H:Hp}
end
section
variable {S:Se}{X:Cx}{a:AZ}{ca:Ce}{p pos:CK}
def zk9:bootBuiltins "dict"=AA (.type "dict"):=by decide +kernel
end
end L2
namespace PySem
open Sem (wp)
section
variable {prog:A6}{w:Ah}{K:Type}[DecidableEq K]{A:Ai}{R:F0->AH->Prop}
end
end PySem
namespace L2
open PySem PySem.Spec PyProof.Rows
section
variable {X:Cx}
end
end L2
namespace PySem
open Sem (wp)
section
variable {prog:A6}{w:Ah}{A:Ai}{E:AG->AH->Prop}{s:AH}
end
end PySem
namespace L2
open PySem PySem.Spec PyProof.Rows
section
variable {X:Cx}{B:List (AJ×Bw)}{A:St}{H:Hp}{s:AH}{a:AJ}{o:Bw}{u:HO}
end
section
variable {X:Cx}{tg:AZ}
end
end L2
namespace PySem.W
open PySem PySem.Calls PyProof.Rows
section
variable {prog:A6}{w:Ah}{A:Ai}{E:AG->AH->Prop}{s:AH}{a:AJ}{x y:AG}
def zgL{n:Nat}{vs:List AG}{P:JE->AH->Prop}(o:vs.length<2)(g:s.heap.get? a=AA (seqObj "list" vs.toArray n))
  (h:P (.done (.ret .none)) {s with heap:=sortedHeap s.heap a vs vs.toArray}):
  A1 (model prog w) A (C1.«list.sort» #[[.ref a],[]]) P E s:=by
 rw[IL];have l:a<s.heap.objs.size:=A0 g;have m:vs.toArray.size<=sizeLine:=by rw[AX,Ap];lia
 refine AB (listItems_at g rfl ?_);refine AB (F5 g rfl ?_ m (BB _));obtain⟨j,b⟩:∃j,(s.heap.update a (CY λ_=>((List.toArray []):Array AG))).get? a=AA (seqObj "list" (List.toArray []) j):=#[_,IM g λ_=>(List.toArray [])];refine AB (Gc b rfl ?_);refine AB (Ge ?_ (by show vs.length<=_;rw[Ap];lia));refine AB (F6 ?_ (BB _));refine Bk ?_;have c:(((s.heap.update a (CY λ_=>((List.toArray []):Array AG))).push (seqObj "tuple" vs.toArray 0)).push (seqObj "list" (List.toArray []) 0)).get? a=AA (seqObj "list" (List.toArray []) j):=by rw[EF _ _ _ (by rw[Ij,ER];exact Ad (FX l)),EF _ _ _ (by rw[ER];exact Ad l)];exact b
 show A1 (model prog w) A _ P E {s with heap:=((s.heap.update a (CY λ_=>((List.toArray []):Array AG))).push (seqObj "tuple" vs.toArray 0)).push (seqObj "list" (List.toArray []) 0)};dsimp only;have d:vs.toArray.size<2:=by simpa using o
 rw[if_pos d,if_pos d];refine AB (AM ?_);rw[StateT.run_pure];refine AB (AM ?_);dsimp only;have f:(arrOf (SortSt.mk' general' (vs.toArray.zip vs.toArray) (List.toArray []) 7 AD)).map (·.2)=vs.toArray:=by show ((vs.toArray.zip vs.toArray).map (·.2))=vs.toArray;apply EO.mp;simp[List.map_snd_zip]
 rw[f];refine AB (Gc c rfl ?_);refine AB (F5 c rfl ?_ (BB _) (EB m));erw[bne_self_eq_false,Aw,if_false];exact AM h
def ltT(a b:AR×Int×Int):Bool:=if a.1=b.1 then(if a.2.1==b.2.1 then(if a.2.2==b.2.2 then AC else decide (a.2.2<b.2.2))else decide (a.2.1<b.2.1))else decide (a.1.cps.toList<b.1.cps.toList)
end
end PySem.W
namespace PySem
open Sem (wp)
section
variable {prog:A6}{w:Ah}{K:Type}[DecidableEq K]{knd:HeapKind prog w K}{A:Ai}{E:AG->AH->Prop}{s:AH}
end
end PySem
namespace L2
open PySem PySem.Spec PyProof.Rows
def yey(a:List (List NK×V)):Prop:=∀p∈a,∃i,p.2=.int i
def vI:V->Int
 |.int i=>i
 |_=>0
def ydG(a b:List (List NK×V)):Bool:=a.length==b.length&&a.all λp=>match yaS b p.1 with
 |some v=>vI p.2==vI v
 |none=>AC
section
variable {X:Cx}
end
section
variable {X:Cx}
def zdK:bootBuiltins "sorted"=AA (.builtin "sorted"):=by decide +kernel
end
end L2
namespace L2
open PySem PySem.Spec PyProof.Rows IC
section
variable {K:AF}{cl:Nat->AJ}{B:AJ->Prop}{A:Ph}{H:Hp}
theorem DT.ints:∀{b:List (PV×PV)} {ks:List (List NK×V)},DT K cl B A H b ks->b.all ybL=AE->yey ks
 |[],ks,h,_=>by cases (show ks=[]from h);intro p c;cases c
 |(k,v)::r,ks,h,a=>by
  let#[q,x,s,rfl,rfl,d,l]:=h;erw[BL,AK]at a;intro p c;rcases A8.1 c with rfl|c
  .cases v with
   |int i=>erw[yd]at d;exact#[i,d]
   |_=>exact absurd a.1 A3
  .exact DT.ints l a.2 p c
def zfW{v:PV}{x:V}(a:ybL ((.non:PV),v)=AE)(r:yd K cl B A H v x):vI x=ivP v/\x=.int (ivP v):=by
 cases v with
 |int i=>erw[yd]at r;subst r;exact#[rfl,rfl]
 |_=>exact absurd a A3
def zek{p:PV×PV}(h:ybL p=AE):ybL ((.non:PV),p.2)=true:=by
 let#[a,b]:=p
 cases b<;>first|rfl|exact h
theorem DT.find{q:List NK}:∀{b:List (PV×PV)} {ks:List (List NK×V)},DT K cl B A H b ks->b.all ybL=AE ->
  (match IC.look (.tup (yaO q)) b with|some v=>AA (ivP v)|none=>AD)=(yaS ks q).map vI
 |[],ks,h,_=>by cases (show ks=[]from h);rfl
 |(k,v)::r,ks,h,a=>by
  let#[d,x,s,rfl,rfl,f,l]:=h;erw[BL,AK]at a;have e:=(zfW (zek a.1) f).1;erw[IC.look,za7]
  by_cases c:d=q
  .rw[zaj (p:=(d,x)) c];erw[c,decide_true,if_true,Bu];exact congrArg AA e.symm
  .rw[zaf (p:=(d,x)) c];erw[decide_eq_true_eq,c,if_false];exact DT.find l a.2
theorem DT.all{d:List (PV×PV)}{g:List (List NK×V)}(b:DT K cl B A H d g)(m:d.all ybL=AE):∀{c:List (PV×PV)} {ks:List (List NK×V)},DT K cl B A H c ks->c.all ybL=AE ->
  (ks.all λp=>match yaS g p.1 with|some v=>vI p.2==vI v|none=>AC)=c.all λp=>match IC.look p.1 d with|some v=>ivP p.2==ivP v|none=>AC
 |[],ks,h,_=>by cases (show ks=[]from h);rfl
 |(k,v)::r,ks,h,a=>by
  let#[q,x,s,rfl,rfl,o,l]:=h;erw[BL,AK]at a;have e:=(zfW (zek a.1) o).1;rw[BL,BL,DT.all b m l a.2]
  congr 1
  have f:=b.find m (q:=q);dsimp only
  cases n:IC.look (.tup (yaO q)) d with
  |none=>
   rw[n]at f
   cases j:yaS g q with
   |none=>rfl
   |some y=>rw[j]at f;cases f
  |some w=>
   rw[n]at f
   cases j:yaS g q with
   |none=>rw[j]at f;cases f
   |some y=>
    rw[j]at f;have f:ivP w=vI y:=Aa f;have e:vI x=ivP v:=e;erw[f,e]
theorem DT.same{c d:List (PV×PV)}{sa f:List (List NK×V)}(a:DT K cl B A H c sa)(b:DT K cl B A H d f)(g:c.all ybL=AE)(j:d.all ybL=AE):ydG sa f=ycO c d:=by unfold ydG ycO;rw[<-a.len,<-b.len];exact congrArg (λz=>c.length==d.length&&z) (DT.all b j a g)
end
section
variable {S:Se}{X:Cx}{A:St}{a b:AZ}{ca cb:Ce}{p pos:CK}
end
end L2
namespace PySem
open Sem (wp)
section
variable {prog:A6}{w:Ah}{A:Ai}{E:AG->AH->Prop}{s:AH}
end
end PySem
namespace L2
open PySem PySem.Spec PyProof.Rows
section
variable {X:Cx}{el:List AZ}{kk:Nat}{tp apos cpos:CK}
end
end L2
namespace L2
open PySem PySem.Spec PyProof.Rows IC
section
variable {K:AF}{cl:Nat->AJ}{B:AJ->Prop}{A:Ph}{H:Hp}{st:SO}
end
section
variable {S:Se}{X:Cx}
end
end L2
namespace L2
open PySem PySem.Spec PyProof.Rows
section
variable {X:Cx}
end
end L2
namespace L2
open PySem PySem.Spec PyProof.Rows IC
section
variable {S:Se}{X:Cx}{a:AZ}{ca:Ce}{p pos:CK}
end
end L2
namespace PySem
open Sem (wp)
section
variable {prog:A6}{w:Ah}{A:Ai}{E:AG->AH->Prop}{s:AH}
end
end PySem
namespace L2
open PySem PySem.Spec PyProof.Rows
section
variable {X:Cx}
end
end L2
namespace L2
open PySem PySem.Spec PyProof.Rows IC
theorem DT.size{K:AF}{b:Nat->AJ}{B:AJ->Prop}{A:Ph}{H:Hp}:∀{a:List (PV×PV)} {ks:List (List NK×V)},DT K b B A H a ks->a.length=ks.length
 |[],ks,t=>by cases (show ks=[]from t);rfl
 |(k,v)::r,ks,t=>by let#[q,x,s,rfl,rfl,d,c]:=t;rw[AY,AY,c.size]
section
variable {S:Se}{X:Cx}{a:AZ}{ca:Ce}{p pos:CK}
end
end L2
namespace L2
open PySem PySem.Spec PyProof.Rows
section
variable {prog:A6}{w:Ah}{A:Ai}{E:AG->AH->Prop}{s:AH}{env:Env}
def ze7{l:AJ}{items:Array AG}{Q:List AG->AH->Prop}(r:s.heap.IsList l items)(G:A.handled=AD)(N:1<=items.size)(O:items.size<=16384)
  (h:∀(x:Au) t,(∀b o,s.heap.get? b=AA o->x.get? b=AA o)->Q (items.toList.take 1++[.ref x.objs.size]) {s with heap:=x.push {cls:=.type "list",dict:=AD,data:=.seq (items.toList.drop 1).toArray},toks:=t}):
  A1 (model prog w) A (unpackItems (.ref l) 2 (AA 1)) Q E s:=by
 have q:l≠s.heap.objs.size:=by let#[o,y,_]:=r;exact Ad (A0 y)
 have H:l<s.heap.objs.size:=by let#[o,y,_]:=r;exact A0 y
 unfold unpackItems;refine AB ?_;unfold notIterableAtAll;refine AB (Cj r.typeIs slot_list_iter.lookup ?_);refine AM ?_;erw[Aw,if_false];refine AB (Bk (Dz r ?_));refine AB (Bk (PySem.W.kun_draw q 1 0 _ _ #[_,AQ _ rfl,rfl,rfl] (r.push _) () λp a c=>?_));have f:p.IsList l items:=(r.push _).extBut c.extBut q;rw[BS]at a;have g:=a;let#[U,z,_]:=g;have n:=f;let#[X,B,_]:=n;rw[Ez];have C:(items.toList.take 1).length=1:=by rw[Cy,BX];lia
 rw[if_neg (show ¬((items.toList.take 1).length<1)by rw[C];lia)];refine AB (Bk (PySem.W.kun_collect (s:={s with heap:=p}) (T:="list_iterator") (.inr (.inr (.inl rfl))) (Jd (A:=A.in1) G s.heap.objs.size l q items) (λj u st=>st.1.typeIs) (k:=1) () #[a,f] (A0 z) (A0 B) (λm t I=>?_) (by rw[Ap];lia)));have D:(items.toList.drop 1).length=items.size-1:=by rw[D0,BX]
 show A1 _ _ (if (items.toList.drop 1).length<2-1-1 then _ else _) _ _ _;rw[if_neg ()];show A1 _ _ (newList ((items.toList.drop 1).take ((items.toList.drop 1).length-(2-1-1))) >>= λd=>pure (items.toList.take 1++[d]++(items.toList.drop 1).drop ((items.toList.drop 1).length-(2-1-1)))) _ _ _;have J:(items.toList.drop 1).take ((items.toList.drop 1).length-(2-1-1))=items.toList.drop 1:=by rw[show 2-1-1=0 from rfl,GI,Fd]
 have L:(items.toList.drop 1).drop ((items.toList.drop 1).length-(2-1-1))=[]:=by rw[show 2-1-1=0 from rfl,GI,Fe]
 rw[J,L];erw[B5];have M:∀b o,s.heap.get? b=AA o->m.get? b=AA o:=λb o e=>I b o (Ad (A0 e)) (c.extBut b o (Ad (A0 e)) (AL _ e));refine AB (Am (s:={s with heap:=m,toks:=t}) (AM ?_) (by rw[sizeOk];erw[AX,D,Ap];lia));exact h m t M
def yeU(K:AF)(g:TGs):TG:=λv B H Q=>∃l y a,v=.ref l/\SqL K H l (y::a)/\a.length<=1000/\∀d,H d=AD->g [y,.ref d] B (upd H d (.lst a)) Q
def zj1{X:Cx}{a b:AR}{d f m z:CK}{k:Nat}{g:TGs}(A:X.calm=AE)(h:PGs X [.Name a d,.Name b f] g):PG X (.Tuple [.Name a d,.Starred (.Name b f) m] k z) (yeU X.K g):=by
 intro C s B H v u Q I r #[l,y,n,e,D,U,q];subst e;obtain rfl:u=Ag l:=r;let#[E,t,p,_]:=I.list D;have G:=t.length;erw[AY]at G;rw[assign_Tuple];refine AB (Da ?_);unfold unpack;rw[show (assignEach [.Name a d,.Starred (.Name b f) m] X.env).length=2 from rfl,show (assignEach [.Name a d,.Starred (.Name b f) m] X.env).findIdx? (·.1)=AA 1 from rfl];refine AB (Bk (ze7 p.isList (I.ok.hd A) (by simp;lia) (by simp;lia) λc j J=>?_))
 cases t with
 |@cons _ L _ w M N=>
  have x:Inv X C B H {s with heap:=c,toks:=j}:=I.kept (t':=j) J;have O:Inv X C B (upd H c.objs.size (.lst n)) {s with heap:=c.push {cls:=.type "list",dict:=AD,data:=.seq w.toArray},toks:=j}:=
   x.laid (a:=c.objs.size) (o:=.lst n) (t':=j) (λb o e=>AL _ e) (AU _) #[by rw[Ap];lia,w,_,N,AQ _ rfl]
  exact h C _ B _ [y,.ref c.objs.size] [L,.ref c.objs.size] Q O (.cons M (.cons rfl .nil)) (q _ (x.hok.fresh (AU _)))
end
end L2
namespace L2
open PySem PySem.Spec PyProof.Rows IC
section
variable {S:Se}{X:Cx}{E:St}{B:AJ->Prop}{C C1:Ph}{H H1:Hp}{st:SO}{ρ:IC.Env}{pos:CK}{a b:AZ}{ca cb:Ce}
def zkL(rs:yj X.K S.cl B C H st){v w:PV}{x y:V}(I:yd X.K S.cl B C H v x)(rw:yd X.K S.cl B C H w y){t:Bool}{b:List (PV×PV)}(J:yag st v=AA (t,b))(E:isKey t w=AE):
  ∃c o,x=.ref c/\ycZ H c y o/\o.isSome=(look w b).isSome:=by
 let#[n,rfl,d]:=zaJ J;let#[G,rfl,L,p]:=rs.dct I d
 cases t with
 |false=>
  let#[a,rfl]:=zdu E;let#[g,j,l]:=p;refine#[G,yaS g a,rfl,.inl #[g,a,.inl j,zoK.mp rw,rfl],?_];have d:=DK.look (q:=a) l (v:=.non) (x:=.non) (by erw[yd]);have f:=DK.look (q:=a) l (v:=.bl AE) (x:=.bl AE) (by erw[yd])
  cases r:yaS g a with
  |some M=>
   cases m:look (ya9 a) b with
   |some z=>rfl
   |none=>
    rw[r,m]at d f;erw[EM,B7,yd]at d f;rw[d]at f;cases f
  |none=>
   cases m:look (ya9 a) b with
   |none=>rfl
   |some z=>
    rw[r,m]at d f;exact absurd (yd.inj_non d) (λu=>by subst u;simp[yd]at f)
 |true=>
  let#[a,rfl,A]:=zdD E;let#[g,j,l]:=p;let#[N,rfl,D]:=zdk A rw;refine#[G,yaS g a,rfl,.inr #[g,a,N,.inl j,rfl,D,rfl],?_];have d:=DT.look (q:=a) l (v:=.non) (x:=.non) (by erw[yd]);have f:=DT.look (q:=a) l (v:=.bl AE) (x:=.bl AE) (by erw[yd])
  cases r:yaS g a with
  |some M=>
   cases m:look (.tup (yaO a)) b with
   |some z=>rfl
   |none=>
    rw[r,m]at d f;erw[EM,B7,yd]at d f;rw[d]at f;cases f
  |none=>
   cases m:look (.tup (yaO a)) b with
   |none=>rfl
   |some z=>
    rw[r,m]at d f;exact absurd (yd.inj_non d) (λu=>by subst u;simp[yd]at f)
def zjg(p:X.A.units+16<cLine)(r:PE X a (tE S X ca))(u:PE X b (tE S X cb)):PC X .NotIn a b (tE S X (.dni ca cb)):=
 (zgU p r u).imp λE H Q #[B,C,st,ρ,A,D,h]=>by
  rw[ve56]at h;refine tE.bind A D h λx H1 v G C1 s1 f j I J=>tE.bind f j J λy L w l C2 M d N m O=>?_;let#[z,e,q]:=zq O d;erw[ycr]at e
  cases n:yag l w with
  |none=>rw[n]at e;cases e
  |some U=>
   let#[t,Y]:=U;rw[n]at e;dsimp only at e;split at e
   .rename_i Z
    cases e
    let#[c,o,rfl,g,ho]:=zkL d m (I.step M) n Z;exact#[c,o,rfl,g,q _ L C2 .rfl d (by erw[yd,ho])]
   .cases e
def yf5(y:AJ)(D:List (AR×PV)):R2:=λx z H Q=>z=.ref y/\∃s,x=.str s/\Q (.bl (!(yax s D).isSome)) H
def zjh{x:AR}{p:CK}{D:List (AR×PV)}(l:Gl X x)(h:GD X.K X.w X.mg S.cl x D)(m:PE X a (tE S X ca))(n:(x==("__debug__":AR))=false:=by decide):PC X .NotIn a (.Name x p) (tE S X (.dnn ca D)):=by
 let#[y,es,ep,d,o,f,r,A]:=h;let#[vs,g,G,J,L,h5]:=r.pairs (P:=X.prog);have M:OpR X (compareOp .NotIn) (yf5 y D):=by intro F s E H z1 z2 v u Q I N O #[U,c,ex,q];subst U;subst ex;obtain rfl:u=Ag y:=O;let#[t,rfl]:=N;have Y:=zdA I o A g G J;refine wpAny_notIn_of (EQ X.prog X.w c t) f Y.mapOf #[.bl (!(yax c D).isSome),H,I.tok _,?_,q];rw[L];rfl
 refine(zoU M m (zbh (v:=.ref y) l d rfl n)).imp λE H Q Z=>?_;let#[B,C,st,ρ,rs,re,h]:=Z;rw[ve57]at h;refine tE.bind rs re h λz H1 v st1 C1 s1 b re1 j g=>?_;let#[w,e,q]:=zq g b
 cases v with
 |str c=>
  erw[yd]at j
  cases e
  exact#[rfl,c,j,q _ H1 C1 .rfl b (by erw[yd])]
 |_=>cases e
def zlw(c:X.A.units+16<cLine)(d:PE X a (tE S X ca))(f:PE X b (tE S X cb))(g:behindInMarks .NotIn b=AC):PE X (.Compare a [.NotIn] [b] pos) (tE S X (.dni ca cb)):=zg8 (zjg c d f) g
def znO{x:AR}{p:CK}{D:List (AR×PV)}(b:Gl X x)(h:GD X.K X.w X.mg S.cl x D)(c:PE X a (tE S X ca))(d:behindInMarks .NotIn (.Name x p)=false:=by with_unfolding_all rfl)(f:(x==("__debug__":AR))=false:=by decide):PE X (.Compare a [.NotIn] [.Name x p] pos) (tE S X (.dnn ca D)):=zg8 (zjh b h c f) d
def zmB{st:SO}{x d v:PV}(e:ycr st x d=AA v):∃k,v=.bl k:=by
 unfold ycr at e;split at e
 .split at e
  .cases e;exact#[_,rfl]
  .cases e
 .cases e
def zl7(c:X.A.units+16<cLine)(d:PE X a (tE S X ca))(f:PE X b (tE S X cb))(g:behindInMarks .NotIn b=AC):PT X (.Compare a [.NotIn] [b] pos) (tTs S X (.dni ca cb)):=
 zjz (zjg c d f) g λρ st v j e=>by rw[ve56]at e;let#[y,s,_,e]:=zH e;let#[z,l,_,e]:=zH e;exact zgI e λw e=>zmB e
def zmQ{x:AR}{p:CK}{D:List (AR×PV)}(b:Gl X x)(h:GD X.K X.w X.mg S.cl x D)(c:PE X a (tE S X ca))(d:behindInMarks .NotIn (.Name x p)=false:=by with_unfolding_all rfl)(f:(x==("__debug__":AR))=false:=by decide):PT X (.Compare a [.NotIn] [.Name x p] pos) (tTs S X (.dnn ca D)):=
 zjz (zjh b h c f) d λρ st v g e=>by
  rw[ve57]at e;let#[y,s,_,e]:=zH e;refine zgI e λw e=>?_
  cases y<;>first|(cases e;exact#[_,rfl])|cases e
def znq{i j k:Nat}{x y:AR}{g m n o:CK}(t:X.calm=AE)(u:PE X a (tE S X ca))(w:PGs X [.Name x g,.Name y m] (gNs [i,j]))(z:swapsWithSole [.Tuple [.Name x g,.Starred (.Name y m) n] k o] a pos.line X.env=pure false:=by rfl)(A:swappedStores [.Tuple [.Name x g,.Starred (.Name y m) n] k o] a X.env=pure none:=by rfl):
  PS X (.Assign [.Tuple [.Name x g,.Starred (.Name y m) n] k o] a pos) (tS S X (.sta i j ca)):=
 (zfT u (zj1 t w) z A).imp λD E H #[B,C,st,ρ,G,I,h]=>by
  rw[zmr]at h;refine tE.fl G I h λx H1 v J C1 s c p q b=>?_;unfold ydN at b;split at b
  .rename_i U Y;split at b
   .rename_i L;erw[yd,ye]at q;let#[l,_,rfl,M,N,O,rfl,Q,r]:=q;refine#[l,N,O,rfl,M.sq,by rw[<-r.length];exact L,λd f=>#[rfl,?_]];exact b _ _ C1 (.upd f) (c.upd f) (((p.step (.upd f)).set i (Q.step (.upd f))).set j (.lst_new f c r))
   .exact b.elim
  .exact b.elim
end
end L2
namespace PySem.W
open PySem PySem.Calls PyProof.Rows
def zdZ{A:Type}{f:Nat->Nat->Bool}{n:Nat}{d:Nat->Nat->(Bool->AH->Prop)->AH->Prop}{Q:A->AH->Prop}{s:AH}(h:∀(i j:Nat) (C:Bool->AH->Prop),i<n->j<n->C (f i j) s->d i j C s):
  ∀(t:KasT A) (a:A),ybu f n t=AA a->Q a s->t.kasWp d Q s
 |.ret a,b,e,q=>by cases e;exact q
 |.ask i j k,b,e,q=>by
  erw[ybu]at e;split at e
  .rename_i c;exact h _ _ _ c.1 c.2 (zdZ h (k (f i j)) b e q)
  .cases e
section
variable {prog:A6}{w:Ah}{A:Ai}{E:AG->AH->Prop}{s:AH}{a:AJ}
def zhg{n:Nat}{vs:List AG}{f:Nat->Nat->Bool}{p:Array Nat}{P:JE->AH->Prop}(m:2<=vs.length)(o:vs.length<64)(l:s.heap.get? a=AA (seqObj "list" vs.toArray n))
  (I:∀v∈vs,∃x t,v=DX x t)
  (hf:∀(i j:Nat),i<vs.length->j<vs.length->∀(s':AH) (C:Bool->AH->Prop),C (f i j) s'->A1 (model prog w) A (keyLt' oneType' (vs.getD i BJ) (vs.getD j BJ)) C (λ_ _=>False) s')
  (J:ybu f vs.length (IF vs.length)=AA p)
  (Y:p.size<=64)
  (h:P (.done (.ret .none)) {s with heap:=sortedHeap s.heap a vs (He (p.toList.map λi=>vs.getD i BJ))}):
  A1 (model prog w) A (C1.«list.sort» #[[.ref a],[]]) P E s:=by
 rw[IL];have D:a<s.heap.objs.size:=A0 l;have r:vs.toArray.size<=sizeLine:=by rw[AX,Ap];lia
 refine AB (listItems_at l rfl ?_);refine AB (F5 l rfl ?_ r (BB _));obtain⟨u,c⟩:∃u,(s.heap.update a (CY λ_=>((List.toArray []):Array AG))).get? a=AA (seqObj "list" (List.toArray []) u):=#[_,IM l λ_=>(List.toArray [])];refine AB (Gc c rfl ?_);refine AB (Ge ?_ (by show vs.length<=_;rw[Ap];lia));refine AB (F6 ?_ (BB _));refine Bk ?_;have d:(((s.heap.update a (CY λ_=>((List.toArray []):Array AG))).push (seqObj "tuple" vs.toArray 0)).push (seqObj "list" (List.toArray []) 0)).get? a=AA (seqObj "list" (List.toArray []) u):=by rw[EF _ _ _ (by rw[Ij,ER];exact Ad (FX D)),EF _ _ _ (by rw[ER];exact Ad D)];exact c
 show A1 (model prog w) A _ P E {s with heap:=((s.heap.update a (CY λ_=>((List.toArray []):Array AG))).push (seqObj "tuple" vs.toArray 0)).push (seqObj "list" (List.toArray []) 0)};dsimp only;have g:¬vs.toArray.size<2:=by simpa using m
 rw[if_neg g,if_neg g];refine AB (kas_kind (T:=.type "str") m (λv L=>?_) ⋯ ⋯ ?_)
 .let#[x,t,rfl]:=I v L;exact .now
 refine AB (CC (kat_run (ks:=vs) (vs:=vs) (G:=λq s'=>s'={s with heap:=((s.heap.update a (CY λ_=>((List.toArray []):Array AG))).push (seqObj "tuple" vs.toArray 0)).push (seqObj "list" (List.toArray []) 0)}/\q=p) (Q:=λb s'=>(arrOf b).map (·.2)=(He (p.toList.map λi=>vs.getD i BJ))/\failedOf b=AD/\s'={s with heap:=((s.heap.update a (CY λ_=>((List.toArray []):Array AG))).push (seqObj "tuple" vs.toArray 0)).push (seqObj "list" (List.toArray []) 0)})
  rfl m o (λZ b s' a1 M N H=>#[?_,N,H.1]) ?_) ?_ λ_ _ e=>e)
 .rw[kat_snds (vs:=vs) rfl M,H.2]
 .exact zdZ (f:=f) (n:=vs.length) (λi j C O U X=>hf i j O U _ C X) _ p J #[rfl,rfl]
 rintro⟨⟨⟩,b⟩ s' ⟨y,z,rfl⟩
 dsimp only;rw[y];have B:(He (p.toList.map λi=>vs.getD i BJ)).size<=sizeLine:=by rw[AX,Ae,BX,Ap];lia
 refine AB (Gc d rfl ?_);refine AB (F5 d rfl ?_ (BB _) (EB B));rw[z];erw[bne_self_eq_false,Aw,if_false];exact AM h
def zcY{T:String}{r d:AJ}{n:Nat}{t:Nat->AG->Prop}{u:Au->Prop}{R:F0->AH->Prop}(K:KdlSrc prog w T r d n t u)(x:A.handled=AD)(c:u s.heap)(y:n<=sizeLine)
  (z:∀f m a p,(∀b o,s.heap.get? b=AA o->f.get? b=AA o)->f.get? s.heap.objs.size=AA {cls:=.type "list",dict:=AD,data:=.seq a p,slots:=(List.toArray [])}->ItemsOf t a n->R (.ok (.ret (.ref s.heap.objs.size))) {s with heap:=f,toks:=m}):
  codeAny (model prog w) A (.builtin "proto.collect" #[[.ref r],[]]) R s:=by
 refine GO PySem.F.entry_proto_collect ?_;rw[EW PySem.F.plain_proto_collect _];show A1 _ A.in1 (newList [] >>= λl=>again (.builtin "list.__iadd__" #[[l,.ref r],[]])) _ _ s;refine AB (F6 (AM #[plainId_quiet Fj _,GO PySem.F.entry_list_iadd ?_]));rw[EW Fj _];have g:=K.there _ c;have B:(s.heap.push (seqObj "list" (List.toArray []) 0)).get? s.heap.objs.size=AA {cls:=.type "list",data:=.seq (List.toArray []) 0}:=AQ _ rfl;exact kdl_extend (A:=A) (s:={s with heap:=s.heap.push (seqObj "list" (List.toArray []) 0)}) K x (K.keep _ _ c λb _ o e=>AL _ e) s.heap.objs.size (DB g.1) (DB g.2) (.ref s.heap.objs.size) 0 B (λf m a p C q j=>
  z f m a p (λb o e=>C b o (Ad (A0 e)) (AL _ e)) q j) y
def zdi{T:String}{r d:AJ}{n:Nat}{m:Nat->AG->Prop}{p:Au->Prop}{Q:List AG->AH->Prop}(K:KdlSrc prog w T r d n m p)(q:A.handled=AD)(l:p s.heap)(t:n<=sizeLine)
  (h:∀a j (acc:Array AG),(∀b o,s.heap.get? b=AA o->a.get? b=AA o)->s.heap.objs.size<=a.objs.size->ItemsOf m acc n->Q acc.toList {s with heap:=a,toks:=j}):
  A1 (model prog w) A (collect (.ref r)) Q E s:=by unfold collect;refine AB (wpAny_runValue (zcY K q l t λa j c x u f g=>?_));show A1 _ A (load s.heap.objs.size >>= _) _ _ _;refine AB (wpAny_load (s:={s with heap:=a,toks:=j}) f ?_);exact AM (h a j c u (Fx (A0 f)) g)
def zgG{r:AJ}{d:AJ}{T:String}{n:Nat}{y:Nat->AG->Prop}{C:Au->Prop}{Q:AG->AH->Prop}(K:KdlSrc prog w T r d n y C)(H:A.handled=AD)(z:C s.heap)(I:n<64)
  (O:∀i v,y i v->∃x t,v=DX x t)
  (h:∀(f:Au) (l:Nat) (acc:Array AG),(∀b o,s.heap.get? b=AA o->f.get? b=AA o)->ItemsOf y acc n->∃out:List AG,(∀(s':AH) (a:AJ) (c:Nat) (P:JE->AH->Prop) (E:AG->AH->Prop),s'.heap.get? a=AA (seqObj "list" acc.toList.toArray c)->P (.done (.ret .none)) {s' with heap:=sortedHeap s'.heap a acc.toList out.toArray} ->
   A1 (model prog w) A.in1.in1 (C1.«list.sort» #[[.ref a],[]]) P E s')/\∀D B,(∀b o,s.heap.get? b=AA o->B.get? b=AA o)->s.heap.objs.size<=D->(∃e,B.get? D=AA (seqObj "list" out.toArray e))->Q (.ref D) {s with heap:=B,toks:=l}):
  A1 (model prog w) A (call (.builtin "sorted") [.ref r]) Q E s:=by
 refine Calls.call_function_entry kind_sorted plain_sorted entry_sorted (args_sorted1 _) ?_;unfold C1.«sorted»;refine AB (m:=checkCount "sorted" 1 1 _) (AM ?_);refine AB (zdi K (by simpa using H) z (by rw[Ap];lia) λf l acc u J g=>?_);let#[out,L,M]:=h f l acc u g;have N:acc.toList.length=n:=by rw[BX];exact g.1
 refine AB (F6 ?_ (by rw[Ap,N];lia));have j:(f.push (seqObj "list" acc.toList.toArray 0)).get? f.objs.size=AA (seqObj "list" acc.toList.toArray 0):=AQ _ rfl;show A1 _ _ _ _ _ {s with heap:=f.push (seqObj "list" acc.toList.toArray 0),toks:=l};have keep:∀b o,s.heap.get? b=AA o->(f.push (seqObj "list" acc.toList.toArray 0)).get? b=AA o:=λb o q=>AL _ (u b o q);refine AB (Bk (BY slot_list_sort #[_,j,rfl] entry_list_sort (L {s with heap:=f.push (seqObj "list" acc.toList.toArray 0),toks:=l} _ 0 _ _ j #[_,rfl,?_]) (args_list_sort _)));have G:∀b o,s.heap.get? b=AA o->b≠f.objs.size:=λb o q=>Ad (A0 (u b o q));refine AM #[_,rfl,?_];refine M f.objs.size _ (λb o q=>?_) J (sortedHeap_at (n:=0) j);have p:b<f.objs.size:=A0 (u b o q);rw[sortedHeap_old (Ad p) (by rw[Ij];exact FX p)];exact keep b o q
end
end PySem.W
namespace L2
open PySem PySem.Spec PyProof.Rows PySem.W
def zcu{c:List AR}{a:List AG}(d:∀i,i<c.length->∃t,a.getD i BJ=DX (c.getD i default) t):∀(b:List Nat),b.all (· < c.length)=AE->Vals ((b.map λi=>c.getD i default).map V.str) (b.map λi=>a.getD i BJ)
 |[],_=>.nil
 |i::b,h=>by erw[BL,AK,decide_eq_true_eq]at h;exact .cons (d i h.1) (zcu d b h.2)
def zhs{b:List AR}{a:List AG}(c:a.length=b.length)(d:∀i,i<b.length->∃t,a.getD i BJ=DX (b.getD i default) t):Vals (b.map V.str) a:=by
 induction b generalizing a with
 |nil=>cases a with
  |nil=>exact .nil
  |cons=>cases c
 |cons x r ih=>cases a with
  |nil=>cases c
  |cons u g=>
   let#[t,e]:=d 0 (Ht _);exact .cons #[t,by simpa using e] (ih (by simpa using c) λi f=>by simpa using d (i+1) (Nat.succ_lt_succ f))
section
variable {X:Cx}
def zid(hc:X.calm=AE):yam X (.builtin "sorted") (λxs H Q=>∃a w d out,xs=[.ref a]/\H a=AA (.dK w)/\w.map (·.1)=d.map Dq/\srkP d=AA out/\∀D,H D=AD->Q (.ref D) (upd H D (.lst (out.map V.str)))):=by
 intro B s A H xs us Q I r h;let#[a,w,d,out,rfl,hq,hk,G,q]:=h;let#[u,rfl,rx]:=vals1 r
 cases rx
 let#[z,y,O,rr,hd]:=(show yH X.prog X.w H s.heap a (.dK w)from I.hok a _ hq);let#[ep,hd']:=hd.dictAt;have U:O.map (·.1)=d.map Dq:=by rw[<-rr.keys];exact hk
 have hn:O.length=d.length:=by simpa using congrArg Co U
 have Y:∀i k x,O[i]?=AA (k,x)->k=Dq (d.getD i default)/\i<d.length:=λi k x e=>by
  have M:(O.map (·.1))[i]?=AA k:=by rw[BG,e];rfl
  rw[U,BG]at M
  cases J:d[i]? with
  |none=>rw[J]at M;cases M
  |some t=>
   rw[J]at M
   cases M
   exact#[by rw[BN,J];rfl,by let#[h,_]:=Ao.1 J;exact h]
 have L:∀i v,(∃k x,O[i]?=AA (k,x)/\(yU X.prog X.w).is k v=AE)->i<d.length/\∃t,v=DX (d.getD i default) t:=λi v #[k,x,e,N]=>by
  let#[rfl,hl]:=Y i k x e;have l:ybc (Dq (d.getD i default)) v=true:=by rw[<-zeT X.prog X.w];exact N
  rcases zj l with⟨_,_,e,_⟩|⟨x',t,e,rfl⟩
  .cases e
  .cases e;exact#[hl,t,rfl]
 have h64:d.length<64:=by
  unfold srkP at G;split at G
  .lia
  .split at G
   .assumption
   .cases G
 refine zgG (kdl_dict y) (I.ok.hd hc) hd' (by rw[hn];exact h64) (λi v hv=>?_) λh0 tk g k0 m=>?_
 .let#[_,t,e]:=L i v hv;exact#[_,t,e]
 have Z:g.toList.length=d.length:=by rw[BX,m.1,hn]
 have n:∀i,i<d.length->∃t,g.toList.getD i BJ=DX (d.getD i default) t:=λi N=>by
  have l:i<g.size:=by rw[m.1,hn];exact N
  let#[_,t,e]:=L i _ (m.2 i (g[i]'l) (Array.getElem?_eq_getElem l));exact#[t,by rw[<-e];simp[BN,l]]
 have fin:∀(f:List AG),Vals (out.map V.str) f->out.length<=64->∀D h',(∀b o,s.heap.get? b=AA o->h'.get? b=AA o)->s.heap.objs.size<=D->(∃e,h'.get? D=AA (seqObj "list" f.toArray e))->EP X B A Q (.ref D) {s with heap:=h',toks:=tk}:=λf ro hz D h' kp hD #[e,ge]=>
  #[.ref D,_,I.laid (o:=.lst (out.map V.str)) (t':=tk) kp hD #[by rw[Ae,Ap];lia,f,e,ro,ge],rfl,q _ (I.hok.fresh hD)]
 unfold srkP at G;split at G
 .rename_i h2
  cases G
  exact#[g.toList,λs' b c P E ga hP=>zgL () ga hP,fin _ (zhs Z n) ()]
 .rename_i h2;let#[p,M,J]:=Fk.1 G;split at J
  .rename_i hp
   cases J
   refine#[p.toList.map λi=>g.toList.getD i BJ,λs' b c P E ga hP=>zhg () () ga (λv hv=>?_) (λi j N hj s'' C hC=>?_) (by rw[Z];exact M) hp.1 hP,fin _ (zcu n _ hp.2) (by rw[Ae,BX];exact hp.1)]
   .let#[i,N,e]:=Gr hv;let#[t,e']:=n i ();rw[BN,Ac N]at e';exact#[_,t,by rw[<-e];exact e']
   .let#[t,e]:=n i ();let#[u,e']:=n j ();rw[e,e'];exact kas_lt_str hC
  .cases J
def zh7:yam X (.type "dict") (λf H Q=>∃a c,f=[.ref a]/\H a=AA (.dK c)/\∀D,H D=AD->Q (.ref D) (upd H D (.dK c))):=by
 intro B s A H f w Q I r h;let#[a,c,rfl,j,q]:=h;let#[u,rfl,l]:=vals1 r
 cases l
 let#[z,y,m,g,n]:=(show yH X.prog X.w H s.heap a (.dK c)from I.hok a _ j);refine kt_call_dict (knd:=yU X.prog X.w) y n (by rw[<-g.length];exact z) λx d p=>?_;have t:sysModules<s.heap.objs.size:=I.big;exact#[.ref s.heap.objs.size,_,I.laid (o:=.dK c) (t':=s.toks) (λb o e=>(p.2 b (Ad (A0 e))).trans (AL _ e)) (AU _) #[z,beq_eq_false_iff_ne.mpr (BR (Ad t)),m,g,d],rfl,q _ (I.hok.fresh (AU _))]
def zmZ{a b:AZ}{rest:List AZ}{f tb:TE}{pos:CK}(o:PE X a f)(p:PE X (.BoolOp .Or (b::rest) pos) tb):PE X (.BoolOp .Or (a::b::rest) pos) (λA H Q=>f A H λx c=>∃k,ydS X.K x c k/\if k=AE then Q x c else tb A c Q):=by
 intro B s A H Q I h;refine BoolOp_or (thn (o B s A H _ I h) λv q d=>?_);let#[x,c,r,g,t]:=d;refine thn (zjn B q A c x v (λk j=>if k=AE then Q x j else tb A j Q) r g t) λk u d=>?_;let#[l,m,n]:=d
 cases k with
 |false=>exact p B u A l Q m n
 |true=>exact#[x,l,m,g,n]
end
end L2
namespace WE
open PySem PySem.Spec PyProof.Rows
section
variable {pg:A6}{wd:Ah}{A:Ai}{Er:AG->AH->Prop}{s:AH}
theorem lit_keep{h h':Au}{i t:AJ}{j:Nat}(u:h.IsListIter i t j)(k:∀o,h.get? i=AA o->h'.get? i=AA o):h'.IsListIter i t j:=let #[o,g,r]:=u;#[o,k o g,r]
def zdV{h h':Au}{t:AJ}{xs:Array AG}(u:h.IsList t xs)(k:∀o,h.get? t=AA o->h'.get? t=AA o):h'.IsList t xs:=let #[o,g,r]:=u;#[o,k o g,r]
def ze2{z TI TO g l r t:AJ}{j:Nat}{xs ys:Array AG}{x y a b:AG}{Q:AG->AH->Prop}(D:Hc z TI TO g l r t)
  (u:FW s.heap z TI TO .none) (gI:Cu s.heap TI (.ref g) (.ref l)) (gO:Cu s.heap TO a b) (u1:s.heap.IsTupleIter g r j) (u2:s.heap.IsListIter l t j) (t1:s.heap.IsTuple r xs) (t2:s.heap.IsList t ys) (ex:xs[j]?=AA x) (ey:ys[j]?=AA y)
  (k:∀m,FW m z TI TO (rawInt s.heap.objs.size)->Cu m TO x y->m.IsTupleIter g r (j+1)->m.IsListIter l t (j+1)->Cu m s.heap.objs.size x y->m.objs.size=s.heap.objs.size+1->Kz z TO g l s.heap m->Q (.ref s.heap.objs.size) {s with heap:=m}):
  A1 (model pg wd) A (C1.«zip.__next__» #[[.ref z],[]]) (λf s'=>∃v,f=.done (.ret v)/\Q v s') Er s:=by
 show A1 _ _ (field (.ref z) 2 >>= _) _ _ _;refine AB (Aq u rfl (x:=.bool AC) rfl ?_);show A1 _ _ (field (.ref z) 3 >>= _) _ _ _;refine AB (Aq u rfl (x:=.ref TI) rfl ?_);refine AB (Ca gI rfl ?_);show A1 _ _ (Br (.ref z) >>= _) _ _ _;refine AB ?_;unfold Br;refine AB (Aq u rfl (x:=.none) rfl (AM ?_));erw[if_true];refine AB (EL ?_);refine AB (Aq u rfl (x:=.ref TO) rfl ?_);refine AB (DD u (by simp) λha M sa=>?_)
 replace M:FW ha z TI TO .ellipsis:=M
 refine AB ?_;erw[Hr,IK,Dh,Ii];refine AB (AB (F4 ?_));show A1 _ _ (B3 (.ref g) >>= _) _ _ _;refine AB (zbT (tit_keep u1 λo e=>sa.extBut _ _ D.i1z e) (zet t1 λo e=>sa.extBut _ _ D.l1z e) ex λhb ub n=>AM ?_);have Z:Cu hb TO a b:=n.extBut _ _ D.TOi1 (sa.extBut _ _ D.TOz gO);refine AB (Ca Z rfl ?_);refine AB (Gf Z λhc N q=>?_)
 replace N:Cu hc TO x b:=N
 refine AB (wpAny_letGo (AM ?_));refine AB (AB (F4 ?_));show A1 _ _ (B3 (.ref l) >>= _) _ _ _;refine AB (wpAny_nextOf_list_item (lit_keep u2 λo e=>q.extBut _ _ D.TOi2.symm (n.extBut _ _ D.i12.symm (sa.extBut _ _ D.i2z e))) (zdV t2 λo e=>q.extBut _ _ D.l2TO (n.extBut _ _ D.l2i1 (sa.extBut _ _ D.l2z e))) ey λhd ud w=>AM ?_);have od:Cu hd TO x b:=w.extBut _ _ D.TOi2 N;refine AB (Ca od rfl ?_);refine AB (Gf od λd G B=>?_)
 replace G:Cu d TO x y:=G
 refine AB (wpAny_letGo (AM (AM ?_)));refine AB (Ca G rfl ?_);refine AB (Ge ?_);have sz:d.objs.size=s.heap.objs.size:=by rw[B.1,w.1,q.1,n.1,sa.1]
 have ze:FW d z TI TO .ellipsis:=B.extBut _ _ D.TOz.symm (w.extBut _ _ D.i2z.symm (q.extBut _ _ D.TOz.symm (n.extBut _ _ D.i1z.symm M)));have ke:Kz z TO g l s.heap d:=λc o H I O U e=>B.extBut _ _ I (w.extBut _ _ U (q.extBut _ _ I (n.extBut _ _ O (sa.extBut _ _ H e))));have v1:d.IsTupleIter g r (j+1):=tit_keep ub λo e=>B.extBut _ _ D.TOi1.symm (w.extBut _ _ D.i12 (q.extBut _ _ D.TOi1.symm e));have v2:d.IsListIter l t (j+1):=lit_keep ud λo e=>B.extBut _ _ D.TOi2.symm e;have lz:z<d.objs.size:=A0 ze;show A1 _ _ (D8 (.ref z) (.ref d.objs.size) >>= _) _ _ _;refine AB ?_;unfold D8;have zf:FW (d.push {cls:=.type "tuple",data:=.seq (List.toArray [x,y])}) z TI TO .ellipsis:=AL _ ze;refine AB (DD zf (by simp) λhg X sg=>?_)
 replace X:FW hg z TI TO (rawInt d.objs.size):=X
 refine DD X (by simp) λC J Y=>?_
 replace J:FW C z TI TO (rawInt d.objs.size):=J
 have L:∀c o,c≠z->d.get? c=AA o->C.get? c=AA o:=λc o p e=>Y.extBut _ _ p (sg.extBut _ _ p (AL _ e));have pn:Cu C d.objs.size x y:=Y.extBut _ _ (DB lz) (sg.extBut _ _ (DB lz) (AQ _ rfl));have E:C.objs.size=d.objs.size+1:=by rw[Y.1,sg.1,CQ]
 rw[sz]at J pn E;refine AM #[_,rfl,?_];show Q (.ref d.objs.size) _;rw[sz];exact k C J (L _ _ D.TOz G) (tit_keep v1 λo e=>L _ o D.i1z e) (lit_keep v2 λo e=>L _ o D.i2z e) pn E λc o H I O U e=>L c o H (ke c o H I O U e)
theorem pyNext_zipTL{z TI TO d f g l:AJ}{j:Nat}{xs ys:Array AG}{x y a b:AG}{Q:Option AG->AH->Prop}(D:Hc z TI TO d f g l)
  (m:FW s.heap z TI TO .none) (o:Cu s.heap TI (.ref d) (.ref f)) (p:Cu s.heap TO a b) (q:s.heap.IsTupleIter d g j) (r:s.heap.IsListIter f l j) (t:s.heap.IsTuple g xs) (u:s.heap.IsList l ys) (ex:xs[j]?=AA x) (w:ys[j]?=AA y)
  (k:∀c,FW c z TI TO (rawInt s.heap.objs.size)->Cu c TO x y->c.IsTupleIter d g (j+1)->c.IsListIter f l (j+1)->Cu c s.heap.objs.size x y->c.objs.size=s.heap.objs.size+1->Kz z TO d f s.heap c->Q (AA (.ref s.heap.objs.size)) {s with heap:=c}):
  A1 (model pg wd) A (pyNext (.ref z)) Q Er s:=by have n:s.TypeIs (.ref z) "zip":=#[_,m,rfl];unfold pyNext;exact AB (EU (BO (name:=AI "__next__") n E6 (BY E6 n Hs (ze2 D m o p q r t u ex w λc B C E G H I J=>AM (k c B C E G H I J)) (Hd _))))
end
abbrev li(l:AJ):Obj:={cls:=.type "list_iterator",data:=.fields (List.toArray [.ref l,.int 0 0])}
abbrev ydQ(h:Au)(a b:AJ):Heap:=(yes h a).push (li b)
abbrev ydV(h:Au)(a b:AJ):Heap:=(ydQ h a b).push {cls:=.type "tuple",data:=.seq (List.toArray [.ref h.objs.size,.ref (yes h a).objs.size])}
abbrev ydY(h:Au)(a b:AJ):Heap:=(ydV h a b).push {cls:=.type "tuple",data:=.seq (List.toArray [.none,.none])}
abbrev yc3(h:Au)(a b:AJ):Heap:=(ydY h a b).push {cls:=.type "zip",data:=.fields (List.toArray [.none,.bool AC,.bool AC,.ref (ydQ h a b).objs.size,.ref (ydV h a b).objs.size])}
def zdo(a b:AJ)(xs ys:Array AG):
  JB (C1.«zip.__new__» #[[.type "zip",.ref a,.ref b],[]]) (λ_ R s=>s.heap.IsTuple a xs/\s.heap.IsList b ys/\R (.ok (.ret (.ref (ydY s.heap a b).objs.size))) {s with heap:=yc3 s.heap a b}):=
 .of_wp λc w A R s h=>by
  let#[f,g,d,j,os]:=s;let#[m,n,h]:=h;have l:=sub_zip;have p:JG (Hz #[f,g,d,j,os]) a xs:=m;have q:Heap.IsList (Hz #[f.push (ti a),g,d,j,os]) b ys:=zdV n λo e=>AL _ e
  wp_walk using DC p,Dz q
  exact#[_,rfl,h]
theorem call_zipTL{pg:A6}{wd:Ah}{A:Ai}{w:AG->AH->Prop}{s:AH}{a c:AJ}{xs ys:Array AG}{Q:AG->AH->Prop}(x:s.heap.IsTuple a xs)(y:s.heap.IsList c ys)
  (k:∀f,FW f (s.heap.objs.size+4) (s.heap.objs.size+2) (s.heap.objs.size+3) .none->Cu f (s.heap.objs.size+2) (.ref s.heap.objs.size) (.ref (s.heap.objs.size+1))->Cu f (s.heap.objs.size+3) .none .none->f.IsTupleIter s.heap.objs.size a 0->f.IsListIter (s.heap.objs.size+1) c 0 ->
   (∀b o,s.heap.get? b=AA o->f.get? b=AA o)->Q (.ref (s.heap.objs.size+4)) {s with heap:=f}):A1 (model pg wd) A (call (.type "zip") [.ref a,.ref c]) Q w s:=by
 refine HV F.called_zip ⋯ (F.typeCall_zip_2 _ _) (F.newCall_zip_2 _ _) (λg=>F.args_object_init_3 g _ _) F.entry_zip_new (zdo a c xs ys) #[x,y,?_];have j:(yes s.heap a).objs.size=s.heap.objs.size+1:=CQ ..;have l:(ydQ s.heap a c).objs.size=s.heap.objs.size+2:=by rw[CQ,j]
 have m:(ydV s.heap a c).objs.size=s.heap.objs.size+3:=by rw[CQ,l]
 have p:(ydY s.heap a c).objs.size=s.heap.objs.size+4:=by rw[CQ,m]
 have d:∀{h:Au} {o:Bw} {b:AJ} {u:Bw},h.get? b=AA u->(h.push o).get? b=AA u:=λe=>AL _ e;have n:(yc3 s.heap a c).get? (ydY s.heap a c).objs.size=AA _:=AQ _ rfl;have q:(yc3 s.heap a c).get? (ydV s.heap a c).objs.size=AA _:=d (AQ _ rfl);have r:(yc3 s.heap a c).get? (ydQ s.heap a c).objs.size=AA _:=d (d (AQ _ rfl));have t:(yc3 s.heap a c).get? (yes s.heap a).objs.size=AA _:=d (d (d (AQ _ rfl)));have z:(yc3 s.heap a c).get? s.heap.objs.size=AA _:=d (d (d (d (AQ _ rfl))));rw[l,m,p]at n;rw[j,l]at r;rw[m]at q;rw[j]at t;show _/\_;rw[p];exact#[#[_,n,rfl],k _ n r q #[_,z,rfl,rfl] #[_,t,rfl,rfl] λb o e=>d (d (d (d (d e))))]
end WE
namespace L2
open PySem PySem.Spec PyProof.Rows
def yep(K:AF)(a b:AJ):It:=
 #[λi H=>∃c d x y,SqT K H a c/\SqL K H b d/\c[i]?=AA x/\d[i]?=AA y,λi H v f=>∃T,H T=AD/\v=.ref T/\∀c d x y,SqT K H a c->SqL K H b d->c[i]?=AA x->d[i]?=AA y->f=upd H T (.tup [x,y]),λi H=>∃c,SqT K H a c/\c.length=i]
def zfb{P:A6}{w:Ah}{K:AF}{es:List AZ}{kk:Nat}{pos:CK}(z TI TO t C a b:AJ)(D:Hc z TI TO t C a b):
  Turn P w K (.Tuple es kk pos) (yep K a b) [z,TI,TO,t,C] z (λi h=>FW h z TI TO .none/\Cu h TI (.ref t) (.ref C)/\(∃p q,Cu h TO p q)/\h.IsTupleIter t a i/\h.IsListIter C b i) where
 mem:=by simp
 obj:=λi h st c g=>by
  let#[j,l,#[p,q,n],#[o3,r,_,d3],#[o4,G,_,d4]]:=st;erw[A8,B8,or_false]at g;rcases g with rfl|rfl|rfl|rfl|rfl
  .exact#[_,j,λv y=>nomatch y]
  .exact#[_,l,λv y=>nomatch y]
  .exact#[_,n,λv y=>nomatch y]
  .exact#[o3,r,λv y=>by rw[d3]at y;cases y]
  .exact#[o4,G,λv y=>by rw[d4]at y;cases y]
 keep:=λi h h' st k=>by let#[j,l,#[p,q,n],r,G]:=st;exact#[k z (by simp) _ j,k TI (by simp) _ l,#[p,q,k TO (by simp) _ n],WE.tit_keep r λo e=>k t (by simp) o e,WE.lit_keep G λo e=>k C (by simp) o e]
 item:=by
  intro X O Q U g i B s A H E I hf st Y;subst O Q U;let#[xs,ys,x,y,m,L,Z,hy]:=Y;let#[its,rv,p1,_]:=I.tuple m;let#[jts,rw',p2,_]:=I.list L;let#[j,l,#[p,q,n],r,G]:=st;let#[u,hu,ru]:=rv.get Z;let#[v,hv,rv2]:=rw'.get hy;refine WE.pyNext_zipTL D j l n r G p1 p2.isList (by simpa using hu) (by simpa using hv) λh1 a1 a2 a3 a4 a5 a6 a7=>#[_,rfl,?_];refine wpAny_letOwnedTupleGo_zip a1 λh2 b1 J=>?_;have lt:∀{c o},s.heap.get? c=AA o->s.heap.objs.size≠c:=λe=>DB (A0 e);have hTz:s.heap.objs.size≠z:=lt j;have hch:∀c o,c∉[z,TI,TO,t,C]->s.heap.get? c=AA o->h2.get? c=AA o:=λc o f e=>J.extBut _ _ (λd=>f (by simp[d])) (a7 c o (λd=>f (by simp[d])) (λd=>f (by simp[d])) (λd=>f (by simp[d])) (λd=>f (by simp[d])) e);have new:yH X.prog X.w (upd H s.heap.objs.size (.tup [x,y])) h2 s.heap.objs.size (.tup [x,y]):=#[by show 2<=sizeLine;decide,[u,v],.cons ru (.cons rv2 .nil),J.extBut _ _ hTz a5];have I2:=I.turnLaid (t':=s.toks) hf hch (AU _) new;have gI:Cu h1 TI (.ref t) (.ref C):=a7 _ _ D.TIz D.TITO D.TIi1 D.TIi2 l;refine#[.ref s.heap.objs.size,_,I2,rfl,#[s.heap.objs.size,I.hok.fresh (AU _),rfl,λxs' ys' x' y' hx1 hy1 M N=>?_],#[b1,J.extBut _ _ D.TIz gI,#[_,_,J.extBut _ _ D.TOz a2],WE.tit_keep a3 λo e=>J.extBut _ _ D.i1z e,WE.lit_keep a4 λo e=>J.extBut _ _ D.i2z e],λc g=>?_]
  .rw[I.tuple_inj hx1 m,Z]at M;rw[I.list_inj hy1 L,hy]at N
   cases M
   cases N
   rfl
  .have hne:c≠s.heap.objs.size:=λd=>by
    subst d;let#[o3,e3,_]:=r;let#[o4,e4,_]:=G;erw[A8,B8,or_false]at g;rcases g with d | d | d | d | d
    .exact lt j d
    .exact lt l d
    .exact lt n d
    .exact lt e3 d
    .exact lt e4 d
   rw[zc hne];exact(hf c g).1
 done:=by intro X O Q U g i B s A H E I hf st Y;subst O Q U;let#[xs,m,Z]:=Y;let#[its,rv,p1,_]:=I.tuple m;let#[j,l,#[p,q,n],r,G]:=st;have hl:=rv.length;refine WE.pyNext_zipE (I.ok.hd g) D j l n r p1 (by simp;lia) λh' kz=>#[rfl,I.turnedL (t':=s.toks) hf λc o f e=>kz c o (λd=>f (by simp[d])) (λd=>f (by simp[d])) (λd=>f (by simp[d])) (λd=>f (by simp[d])) e]
 self:=λ_ _ _ _ _ st q=>Hu st.1 q
def ydZ(K:AF)(d:TA):TI:=λA H R=>d A H λf c=>∃a b,f=[.ref a,.ref b]/\(∃g,SqT K c a g)/\(∃j,SqL K c b j)/\R (yep K a b) c
def ziw{X:Cx}{a b:AZ}{es:List AZ}{C:Nat}{D:CK}{x:TA}{p pos:CK}(E:Gl X "zip")(G:X.mg "zip"=AD)(J:PA X [a,b] x)(L:starEach [a,b] X.env=[(AC,eval a X.env),(AC,eval b X.env)]:=by rfl)(f:starEach [b] X.env=[(AC,eval b X.env)]:=by rfl):
  PI X (.Tuple es C D) (.Call (.Name "zip" p) [a,b] [] pos) (ydZ X.K x):=by
 intro B s A H R I h;refine Bf (zaz I E G boot_zip ?_);refine BV (thn (J pos B s A H _ I h) λus d M=>?_) (by rw[L,f]) (by rw[f];rfl);let#[vs,N,g,O,Q]:=M;let#[o,t,rfl,#[xs,u],#[ys,w],q]:=Q
 cases O with
 |cons r U=>
  cases U with
  |cons Y Z=>
   cases Z
   cases (show _=Ag o from r)
   cases (show _=Ag t from Y)
   let#[its,rv,j,_]:=g.tuple u;let#[jts,rv2,l,_]:=g.list w;have b1:o<d.heap.objs.size:=by let#[_,e,_]:=j;exact A0 e
   have b2:t<d.heap.objs.size:=by let#[_,e,_]:=l.isList;exact A0 e
   refine WE.call_zipTL j l.isList λh1 y g1 g2 g3 g4 kp=>?_;refine Hu y ?_;refine#[_,[d.heap.objs.size+4,d.heap.objs.size+2,d.heap.objs.size+3,d.heap.objs.size,d.heap.objs.size+1],_,_,N,rfl,g.kept (t':=d.toks) kp,zfb _ _ _ _ _ o t (zipApart_new b1 b2),#[y,g1,#[_,_,g2],g3,g4],λc z=>?_,q];have m:d.heap.objs.size<=c:=by
    erw[A8,B8,or_false]at z;rcases z with n | n | n | n | n<;>subst n
    .exact ES _ 4
    .exact ES _ 2
    .exact ES _ 3
    .exact AU _
    .exact ES _ 1
   exact g.fpOk m (g.hok.fresh m)
end L2
namespace L2
open PySem PySem.Spec PyProof.Rows IC
section
variable {S:Se}{X:Cx}{C:St}{B:AJ->Prop}{E E1:Ph}{H H1:Hp}{st:SO}{ρ:IC.Env}{pos p:CK}{a b:AZ}{ca cb:Ce}
def zbR:∀{a:List (PV×PV)} {ks:List (Key×V)} {b:List AR},DK X.K S.cl B E H a ks->yal a=AA b->ks.map (·.1)=b.map Dq
 |[],ks,b,d,e=>by cases (show ks=[]from d);cases e;rfl
 |(k,v)::r,ks,b,d,e=>by
  let#[q,x,s,rfl,rfl,g,c]:=d
  cases q with
  |inl i=>simp[yal,ya9]at e
  |inr y=>
   erw[yal,ya9]at e;let#[l,f,rfl]:=C2.1 e;erw[AV];rw[zbR c f]
def zeA:∀(l:List AR),ye X.K S.cl B E H (l.map PV.str) (l.map V.str)
 |[]=>by erw[Az,ye]
 |x::l=>by erw[AV,ye];exact#[.str x,_,rfl,by erw[yd],zeA l]
def zm1(o:X.calm=AE)(r:Gl X "sorted")(f:X.mg "sorted"=AD)(t:PE X a (tE S X ca))
  (n:starEach [a] X.env=(AC,eval a X.env)::starEach [] X.env:=by rfl):PE X (.Call (.Name "sorted" p) [a] [] pos) (tE S X (.srk ca)):=
 (zb5 (zid o) r f zdK (zI t zoF n) ⋯ ⋯ n rfl).imp λC H Q #[B,E,st,ρ,u,A,h]=>by
  rw[ve58]at h;refine tE.bind u A h λx H1 v D E1 s1 b G I J=>?_;let#[z,e,q]:=zq J b;unfold ydg at e;split at e
  .rename_i L g;let#[out,M,rfl]:=C2.1 e;let#[N,O,U]:=Fk.1 M;let#[m,rfl,f]:=zaJ g;let#[y,rfl,hy,Y]:=b.dct I f;let#[Z,j,l]:=Y;refine#[y,Z,N,out,rfl,j,zbR l O,U,λd c=>?_];refine q _ _ E1 (.upd c) (b.upd c) ?_;have nD:AA d∉E1:=λz=>by let#[w,e]:=b.there z;rw[c]at e;cases e
   erw[yd];exact#[d,_,rfl,#[zh,b.nB c,nD],zeA out]
  .cases e
def zka{c i k:Nat}{x:AR}{b:AJ}{d:BF}{f:List AR}(M:Mk X.K (S.cl c) b)(F:yaK X.prog X.w X.K X.mg X.base (CX1 X.prog X.w) k b d f (spI X.K S.cl S.call i))(g:yaA (k+1) X.A)(j:Gl X x)(l:X.mg x=AA (.ref (S.cl c)))(m:Binds X.K d f [])
  (a:(x==("__debug__":AR))=false:=by decide):PE X (.Call (.Name x p) [] [] pos) (tE S X (.new c i .nil)):=
 (zhF M F g j l m .nil noX a).imp λC H Q #[B,E,st,ρ,rs,n,h]=>by erw[ev,IC.vsq0,IC.vsq1,R.bind]at h;exact zcQ (vs:=[]) (xs:=[]) (rs:=rs) (by erw[ye]) h
def zgr:PE X (.Dict [] [] pos) (tE S X (.dict0 AC)):=zpb.imp λC H Q #[B,E,st,ρ,a,c,h]=>by erw[ev]at h;exact λp b=>h _ _ (E++[AA p]) (.push b) (a.push b (a.nB b) #[[],zh,rfl]) (.loc_new a)
def znR(q:Gl X "dict")(f:X.mg "dict"=AD)(r:PE X a (tE S X ca))
  (n:starEach [a] X.env=(AC,eval a X.env)::starEach [] X.env:=by rfl):PE X (.Call (.Name "dict" p) [a] [] pos) (tE S X (.dcp ca)):=
 (zcG zh7 q f zk9 (zI r zoF n) ⋯ ⋯ n rfl).imp λC H Q #[B,E,st,ρ,t,u,h]=>by
  rw[ve59]at h;refine tE.bind t u h λx H1 v w E1 J b z A c=>?_;unfold yc5 at c;split at c
  .rename_i G g;let#[m,rfl,f]:=zaJ g;let#[y,rfl,L,I]:=b.dct A f;let#[o,j,l]:=I;exact#[y,o,rfl,j,λD d=>c _ _ (E1++[AA D]) (.push d) (b.push d (b.nB d) #[o,zh,l.step (.push d)]) (.loc_new b)]
  .exact c.elim
def zmP{rest:List AZ}(l:PE X a (tE S X ca))(m:PE X (.BoolOp .Or (b::rest) pos) (tE S X cb)):PE X (.BoolOp .Or (a::b::rest) pos) (tE S X (.orv ca cb)):=
 (zmZ l m).imp λC H Q #[B,E,st,ρ,n,o,h]=>by
  rw[ve60]at h;refine tE.bind n o h λx H1 v d E1 p c g j f=>?_
  cases e:yas d v with
  |none=>rw[e]at f;exact f.elim
  |some k=>
   rw[e]at f;refine#[k,zfA c j e,?_]
   cases k with
   |true=>exact f x H1 E1 .rfl c j
   |false=>exact#[B,E1,d,ρ,c,g,f]
def zij{k:Bool}{vs ws:List PV}{xs ys:List V}{y z:AJ}(rt:ybE X.K B E H k y xs)(l:ye X.K S.cl B E H vs xs)(a:ybN B E H z ys)(m:ye X.K S.cl B E H ws ys)(c:vs.length<=ws.length):Drw S X B E H (yaT vs ws) (yep X.K y z):=by have L:=l.length;have D:=m.length;have M:=zcx vs ws c;refine#[λn p s=>#[xs,(rt.step s).sq,by lia],λi n p s G=>#[xs,ys,xs[i]'(),ys[i]'(),(rt.step s).sq,(a.step s).sq,by simp[show i<xs.length by lia],by simp[show i<ys.length by lia]],λi n p st x N O r s I G q=>?_];let#[T,t,rfl,q]:=q;obtain⟨v,u⟩:∃v,vs[i]?=AA v:=#[vs[i]'(),by simp[show i<vs.length by lia]];obtain⟨w,A⟩:∃w,ws[i]?=AA w:=#[ws[i]'(),by simp[show i<ws.length by lia]];let#[C,d,J]:=l.get i u;let#[f,g,j]:=m.get i A;have e:=q xs ys C f (rt.step s).sq (a.step s).sq d g;subst e;refine#[.tup [v,w],zcC vs ws i u A,.tup_new t I ?_,λb o e=>by rw[zc (zd e t)];exact e];erw[ye];exact#[C,[f],rfl,(J.moreB r).step s,f,[],rfl,(j.moreB r).step s,rfl]
def zkR{es:List AZ}{u:Nat}{tp:CK}(z:Gl X "zip")(A:X.mg "zip"=AD)(D:PE X a (tE S X ca))(G:PE X b (tE S X cb))(q:starEach [a,b] X.env=[(AC,eval a X.env),(AC,eval b X.env)]:=by rfl)(c:starEach [b] X.env=[(AC,eval b X.env)]:=by rfl):
  PI X (.Tuple es u tp) (.Call (.Name "zip" p) [a,b] [] pos) (tI S X (.zipl ca cb)):=
 (ziw z A (zI D (zI G zoF c) (by rw[q,c])) q c).imp λC H R #[B,E,st,ρ,I,J,h]=>by
  rw[vi1]at h;refine tE.bind I J h λx H1 v L E1 s1 g j r M=>tE.bind g j M λy H2 w N E2 m n O rw o=>?_;let#[zs,e,o]:=zbg o
  cases v with
  |tp k Q=>
   cases w with
   |lst U=>
    erw[ybU]at e
    by_cases d:Q.length<=U.length
    .rw[if_pos d]at e
     cases e
     erw[yd]at r rw;let#[Y,Z,rfl,t,l]:=r;let#[a2,ys,rfl,f,l2]:=rw;exact#[Y,a2,rfl,#[Z,(t.step m).sq],#[ys,f.sq],o.ok n (zij (t.step m) (l.step m) f l2 d)]
    .rw[if_neg d]at e
     cases e
   |_=>cases e
  |_=>cases e
end
end L2
namespace L2
open PySem PySem.Spec PyProof.Rows
section
variable {X:Cx}{sc:B4}{NC:List AR}{slots:List (Option Nat)}{x0:AR}{B:List (AJ×Bw)}{A:St}{H:Hp}{s:AH}
end
section
variable {X:Cx}{sc:B4}{NC:List AR}{slots:List (Option Nat)}{x0:AR}{elt tg iter:AZ}{ifs:List AZ}{pos:CK}{g:TG}{ti:TT}{te:TE}
variable {wi:TI}
end
section
variable {pg:A6}{wd:Ah}{A:Ai}{R:F0->AH->Prop}{s:AH}{e:AZ}{d:Nat}{tg iter:AZ}{ifs:List AZ}{acc it:AG}{env:Env}{em:IR Unit}
end
section
variable {Y:Cx}{e:AZ}{d:Nat}{tg iter:AZ}{ifs:List AZ}{acc:AG}{em:IR Unit}{g:TG}{ti:TT}{tm:TM}{B:List (AJ×Bw)}{A:St}{H:Hp}{s:AH}{R:F0->AH->Prop}
end
section
variable {Y:Cx}{B:List (AJ×Bw)}{A:St}{H:Hp}{s:AH}
end
def cxL(X:Cx)(sc:B4)(b:List AR)(a:AJ->List (AR×AJ))(fn:AR->Bool)(j:CI):Cx where
 prog:=X.prog
 w:=X.w
 K:=X.K
 mg:=X.mg
 base:=X.base
 A:=X.A
 N:=b
 s₀:=j.s
 H₀:=j.H
 env:=compEnvC sc (a j.C++yc2 sc X.env) j.C X.env
 outer:=X.stack
 stack:=X.stack
 ex:=j.fp
 fn:=fn
 calm:=X.calm
 pn:=[]
 xe:=No
section
variable {X:Cx}{sc:B4}{NC:List AR}{slots:List (Option Nat)}{own:AJ->List (AR×AJ)}{fn:AR->Bool}{e tg iter:AZ}{ifs:List AZ}{g:TG}{ti:TT}{tm:AJ->TM}{em:AJ->Env->IR Unit}{u0:HO}{ob:Bw}{acc:IR AG}
variable {wi:TI}
end
end L2
namespace L2
open PySem PySem.Spec PyProof.Rows IC
section
variable {S:Se}{X Y:Cx}{K:AF}{cl:Nat->AJ}{C:St}{B:AJ->Prop}{A A' A1:Ph}{H H' H1:Hp}{st:SO}{ρ:IC.Env}{D:AJ}{elt tg iter l:AZ}{ca ce m:Ce}{ci:Cit}{ct:Tg}{Q':St->Hp->Prop}
theorem Step.ext(k:∀b o,H b=AA o->H' b=AA o):Step A H A H':=#[λb o _ e=>k b o e,AU _,λ_ _ _ e=>e,λ_ h=>.inl h]
theorem ybN.skip{a:AJ}{xs:List V}{u:HO}(b:B D)(r:ybN B A H a xs):ybN B A (L2.upd H D u) a xs:=#[by rw[zc (show a≠D from λz=>r.2.1 (z ▸ b))];exact r.1,r.2]
def tID(S:Se)(X:Cx)(c:Cit)(D:AJ):TI:=λC H R=>∃B A st ρ,B D/\yj X.K S.cl B A H st/\yC X.K S.cl B A H ρ C/\Run S X C B A H (λA H a J=>∀u,Drw S X B A (L2.upd H D u) a J) (evi S.call ρ st c) R
def zkI(j:PE X l (tE S X ca)):PI X tg l (tID S X (.seq ca) D):=
 (zi8 j).imp λC H R #[B,A,st,ρ,c,m,n,h]=>by
  erw[IC.vjq0,IC.vjq1,IC.vjq2,IC.vjq3,IC.vjq4,IC.vjq5,IC.vjq6,IC.vjq7,IC.vjq8,IC.vjq9]at h;refine tE.bind m n h λx H1 v o A1 r a p d f=>?_
  cases v with
  |tp k q=>
   erw[yd]at d;let#[y,g,rfl,b,l]:=d;exact#[y,rfl,.inr #[#[g,b.sq],f.ok a λu=>zhi (b.skip c) (l.skip c)]]
  |lst q=>
   erw[yd]at d;let#[y,g,rfl,b,l]:=d;exact#[y,rfl,.inl #[#[g,b.sq],f.ok a λu=>zgw (b.skip c) (l.skip c)]]
  |_=>exact f.elim
def zfa{a:AZ}{p pos:CK}(g:Gl X "range")(l:X.mg "range"=AD)(m:PE X a (tE S X ca))(d:starEach [a] X.env=[(AC,eval a X.env)]:=by rfl):PI X tg (.Call (.Name "range" p) [a] [] pos) (tID S X (.range1 ca) D):=
 (zc1 g l (zI m zoF d) d).imp λC H R #[B,A,st,ρ,t,n,o,h]=>by
  erw[IC.vjq0,IC.vjq1,IC.vjq2,IC.vjq3,IC.vjq4,IC.vjq5,IC.vjq6,IC.vjq7,IC.vjq8,IC.vjq9]at h;refine tE.bind n o h λx H1 v q A1 w c r f b=>?_
  cases v with
  |int j=>
   erw[ybr]at b;split at b
   .simp only[yd]at f;subst f;exact#[j,rfl,by lia,by lia,b.ok c λu=>zdc]
   .exact b.elim
  |_=>exact b.elim
end
section
variable {X:Cx}
end
section
variable {S:Se}{X:Cx}{C:St}{B:AJ->Prop}{A A1:Ph}{H H1:Hp}{st:SO}{ρ:IC.Env}{p pos p2 apos:CK}{a b:AZ}{ca cb:Ce}{K:AF}{cl:Nat->AJ}
end
section
variable {S:Se}{X:Cx}{C:St}{B:AJ->Prop}{A:Ph}{H:Hp}{st:SO}{p pos p2 px apos:CK}{a b c d o tg l:AZ}{ca cb cc:Ce}{ct:Tg}{ss:List CL}{cs:Css}
end
section
variable {S:Se}{X:Cx}{C:St}{B:AJ->Prop}{A A1:Ph}{H H1:Hp}{st:SO}{ρ:IC.Env}{pos:CK}{a b tg elt iter:AZ}{ca cb ce:Ce}{ct:Tg}
end
end L2
namespace L2
open PySem PySem.Spec PyProof.Rows IC WK
inductive GK where
 |fn (i:Nat)|fnD (i:Nat)|cst (v:PV)|dct (D:List (AR×PV))|exc (c:Nat)|cls (c i:Nat)
structure Gs where
 g:AR->Option GK
 b:AR->Bool
 t:Ty->Bool
 fl:Nat->AR->Bool
 me:Nat->AR->Option Nat
 kb:Nat->Nat->List AR->Option (List (Option Int))
 mr:AR->Option (List (AR×Nat))
 fv:AR->Nat->Bool
 xk:Nat->Ty->Bool
 xc:Nat->AR->Bool
 xm:Nat->AR->Bool
 qf:Nat->Bool
structure Kx where
 N:List AR
 sc:B4
 own:Bool
 h:Bool
def Fo(m:Nat)(S:Se)(X:Cx)(i:Nat)(f:AJ)(a:BF)(b:List AR):Prop:=yaK X.prog X.w X.K X.mg X.base (CX1 X.prog X.w) m f a b (spI X.K S.cl S.call i)
structure Glo(J:Gs)(m:Nat)(S:Se)(X:Cx):Prop where
 F:∀x i,J.g x=AA (.fn i)->∃f fd ps,Fo m S X i f fd ps/\X.mg x=AA (.ref f)/\Ax X.K (.ref f)=AE/\Binds X.K fd ps []
 Q:∀x i np ks sh,J.g x=AA (.fnD i)->J.kb i np ks=AA sh->∃f fd ps,Fo m S X i f fd ps/\X.mg x=AA (.ref f)/\Ax X.K (.ref f)=AE/\∃g,ybY X.K fd ps ks g (gK np sh)
 C:∀x v,J.g x=AA (.cst v)->GC X.K X.mg S.cl x v
 D:∀x d,J.g x=AA (.dct d)->GD X.K X.w X.mg S.cl x d
 E:∀x c,J.g x=AA (.exc c)->ydl X.K X.mg (S.cl c) x
 N:∀x c i,J.g x=AA (.cls c i)->X.mg x=AA (.ref (S.cl c))/\∃f fd ps,Mk X.K (S.cl c) f/\Fo m S X i f fd ps/\Binds X.K fd ps []
 B:∀x,J.b x=AE->X.mg x=AD
 T:∀t,J.t t=AE->yeD X.K t
 A:∀c f,J.fl c f=AE->Cls X.K (S.cl c)/\yat X.K (S.cl c) f
 M:∀c n i,J.me c n=AA i->Cls X.K (S.cl c)/\∃f fd ps,Meth X.K (S.cl c) n f/\Fo m S X i f fd ps/\Binds X.K fd ps []
 K:∀y D,J.mr y=AA D->∃fa fdd ps,Makers S X m D fa fdd ps/\GDF X.K X.w X.mg fa y D
 V:∀x i,J.g x=AA (.fn i)->J.fv x i=AE->X.mg x=AA (.ref (S.cl (1000+i)))
 I:∀c t,J.xk c t=AE->yfG X.K (S.cl c)/\ygF X.K S.cl c t
 L:∀d x,J.xc d x=AE->X.mg x=AA (.ref (S.cl d))
 H:∀c x,J.xm c x=AE->∃W,X.mg x=AA (.ref W)/\FB X.K (.ref (S.cl c)) (.ref W)=AA AE
 Z:∀x i,J.g x=AA (.fn i)->J.qf i=AE->∃f fd ps,ybP X.prog X.w X.K X.mg X.base m f fd ps (spI X.K S.cl S.call i)/\X.mg x=AA (.ref f)/\Ax X.K (.ref f)=AE/\Binds X.K fd ps []
structure Good(J:Gs)(R:Kx)(m:Nat)(S:Se)(X:Cx):Prop where
 n:X.N=R.N
 sc:X.env.scope=R.sc
 calm:R.h=AC->X.calm=AE
 room:yaE (m+1) X.A
 hd:R.h=AC->X.A.handled=AD
 own:R.own=AE->F9 (model X.prog X.w) X.A X.env X.xe/\(∀x,X.fn x=AE)/\S.may=AE
 top:R.own=AE->(∃outer,X.stack=X.env::outer)/\X.ex=[]/\X.env.frame=AA X.env.locals
 glo:Glo J m S X
theorem Good.rm{J:Gs}{R:Kx}{m:Nat}{S:Se}{X:Cx}(G:Good J R m S X)(h:R.h=AC):yaA (m+1) X.A:=#[G.hd h,G.room.dp,G.room.un]
def zd3{k:Nat}{A:Ai}(r:yaE k A):A.units+16<cLine:=by have:=r.units;lia
abbrev Pr(P:Prop):Type:=Option (PLift P)
abbrev YE(J:Gs)(R:Kx)(e:AZ)(c:Ce):Prop:=∀m S X,Good J R m S X->PE X e (tE S X c)
abbrev YT(J:Gs)(R:Kx)(e:AZ)(c:Ce):Prop:=∀m S X,Good J R m S X->PT X e (tTs S X c)
abbrev YW(J:Gs)(R:Kx)(e:AZ)(c:Ce):Prop:=∀m S X,Good J R m S X->PW X e (tTs S X c)
abbrev YA(J:Gs)(R:Kx)(e:List AZ)(c:Ces):Prop:=∀m S X,Good J R m S X->PA X e (tAs S X c)
abbrev YO(J:Gs)(R:Kx)(e:Option AZ)(c:Ce):Prop:=∀m S X,Good J R m S X->PO X e (tO S X c)
abbrev YS(J:Gs)(R:Kx)(s:CL)(c:Cs):Prop:=∀m S X,Good J R m S X->PS X s (tS S X c)
abbrev YSs(J:Gs)(R:Kx)(s:List CL)(c:Css):Prop:=∀m S X,Good J R m S X->PSs X s (tSs S X c)
def an{P Q:Prop}(a:Pr P)(k:P->Pr Q):Pr Q:=match a with
 |some h=>k h.down
 |none=>AD
def ok{P:Prop}(h:P):Pr P:=AA #[h]
def ask(p:Prop)[Decidable p]:Pr p:=if h:p then AA #[h]else AD
def nst:AZ->Bool
 |.Starred _ _=>AC
 |_=>AE
def zoB{a:AZ}{es:List AZ}{env:BZ}(h:nst a=AE):starEach (a::es) env=(AC,eval a env)::starEach es env:=by cases a<;>first|rfl|cases h
def ybR(es:List AZ):Bool:=es.all nst
theorem stars{pos:CK}{env:BZ}:∀{es:List AZ},ybR es=AE->(backTo pos (starEach es env)).any (·.1)=AC
 |[],_=>rfl
 |a::es,h=>by erw[ybR,BL,AK]at h;rw[zoB h.1];have:=stars (pos:=pos) (env:=env) (es:=es) h.2;simpa [backTo] using this
def nco:AZ->Bool
 |.ListComp ..=>AC
 |.SetComp ..=>AC
 |.DictComp ..=>AC
 |_=>AE
theorem swp{a:AZ}{t:Option AZ}{l:Nat}{env:BZ}(h:nco a=AE):swapsWith a t l env=pure false:=by cases a<;>first|rfl|cases h
def nse:AZ->Bool
 |.Set ..=>AC
 |_=>AE
theorem fse{a:AZ}{env:BZ}(h:nse a=AE):∀x,foldedSetIterable a env x=pure x:=by cases a<;>first|exact λ_=>rfl|cases h
theorem nmk{b:E7}{a:AZ}(h:nse a=AE):behindInMarks b a=false:=by cases a<;>first|rfl|cases h
def nsl:AZ->Bool
 |.Slice ..=>AC
 |_=>AE
theorem pix{a:AZ}(h:nsl a=AE):ybx a:=by cases a<;>first|exact λ_ _=>rfl|cases h
theorem nos{a:AZ}(h:nsl a=AE):ycW a:=pix h
def ntu:AZ->Bool
 |.Tuple ..=>AC
 |_=>AE
def nte:AZ->Bool
 |.UnaryOp ..=>AC
 |.BoolOp ..=>AC
 |.IfExp ..=>AC
 |.Compare ..=>AC
 |_=>AE
theorem itr{a:AZ}{env:BZ}(h:nte a=AE):∀b,isTrue a env b=(do let v <-b;standAt a.pos;holding [v] (truthy v)):=by cases a<;>first|exact λ_=>rfl|cases h
def nca:AZ->Bool
 |.Call ..=>AC
 |_=>AE
def zoH{a:AZ}{f:AR}{env:BZ}{w:IR AG}(h:nca a=AE):attributeBase a f env w=w:=by cases a<;>first|rfl|cases h
def mOp(a:EV)(o:BOp):Pr (∀S X,OpR X (binaryOp a) (rT2 S X (yq o))):=
 match a,o with
 |.Add,.add=>ok (λ_ _=>znI)
 |.Sub,.sub=>ok (λ_ _=>znC)
 |.Mult,.mul=>ok (λ_ _=>zmU)
 |.FloorDiv,.fdiv=>ok (λ_ _=>zk7)
 |.Mod,.mod=>ok (λ_ _=>znH)
 |.Pow,.pow=>ok (λ_ _=>znw)
 |.LShift,.shl=>ok (λ_ _=>zl1)
 |.RShift,.shr=>ok (λ_ _=>zls)
 |.BitAnd,.band=>ok (λ_ _=>zkj)
 |_,_=>AD
def mCm(a:E7)(o:COp):Pr (∀m S X,yaE m X.A->OpR X (compareOp a) (rT2 S X (yo o))):=
 match a,o with
 |.Eq,.eq=>ok (λ_ _ _ r=>zn7 r.units)
 |.NotEq,.ne=>ok (λ_ _ _ r=>zoy r.units)
 |.Lt,.lt=>ok (λ_ _ _ _=>zod)
 |.LtE,.le=>ok (λ_ _ _ _=>znX)
 |.Gt,.gt=>ok (λ_ _ _ _=>zn4)
 |.GtE,.ge=>ok (λ_ _ _ _=>zon)
 |.In,.isin=>ok (λ_ _ _ _=>zn8)
 |.NotIn,.notin=>ok (λ_ _ _ _=>zhB)
 |_,_=>AD
def ye5(sc:B4)(x:AR):Bool:=match sc.names.lookup x with
 |some .local=>AE
 |some .cell=>AE
 |some .free=>AE
 |_=>AC
def zjR{sc:B4}{x:AR}(h:ye5 sc x=AE):Vis sc x:=by
 unfold ye5 at h;split at h
 .exact .inl ‹_›
 .exact .inr (.inl ‹_›)
 .exact .inr (.inr ‹_›)
 .cases h
def ydJ(sc:B4)(x:AR):Bool:=match sc.names.lookup x with
 |some .local=>AE
 |some .cell=>AE
 |_=>AC
def zfJ{sc:B4}{x:AR}(h:ydJ sc x=AE):Loc sc x:=by
 unfold ydJ at h;split at h
 .exact .inl ‹_›
 .exact .inr ‹_›
 .cases h
def pln(x:AR):Bool:=!(x==("__debug__":AR))&&!(x==("__classdict__":AR))&&!(x==("__name__":AR))
def zoC{x:AR}(h:pln x=AE):(x==("__debug__":AR))=false:=by erw[pln,AK,Bp]at h;exact h.1.1
def zoV{x:AR}(h:pln x=AE):(x==("__classdict__":AR))=false:=by erw[pln,AK,Bp]at h;exact h.1.2
def zoO{x:AR}(h:pln x=AE):x ≠ "__name__":=by erw[pln,AK,Bp]at h;intro e;rw[e]at h;exact absurd h.2 ⋯
def hf(R:Kx){P:Prop}(f:R.h=AC->Pr P):Pr P:=if h:R.h=AC then f h else AD
def glB(R:Kx)(x:AR):Bool:=decide (R.sc.names.lookup x=AA .globalImplicit)&&pln x
def zn{J:Gs}{R:Kx}{m:Nat}{S:Se}{X:Cx}(G:Good J R m S X){x:AR}(h:glB R x=AE):Gl X x:=by erw[glB,AK,decide_eq_true_eq]at h;show X.env.scope.names.lookup x=_;rw[G.sc];exact h.1
def zW{R:Kx}{x:AR}(h:glB R x=AE):pln x=true:=by erw[glB,AK]at h;exact h.2
def setB(R:Kx)(i:Nat)(x:AR):Bool:=decide (R.N[i]?=AA x)&&decide R.N.Nodup&&ydJ R.sc x&&(R.own || decide (R.sc.names.lookup x=AA .local))&&pln x
structure yd9(X:Cx)(i:Nat)(x:AR):Prop where
 d:X.N.Nodup
 i:X.N[i]?=AA x
 l:Loc X.env.scope x
 f:X.fn x=AE \/ X.env.scope.names.lookup x=AA .local
 p:pln x=AE
def zX{J:Gs}{R:Kx}{m:Nat}{S:Se}{X:Cx}(G:Good J R m S X){i:Nat}{x:AR}(h:setB R i x=AE):yd9 X i x:=by
 erw[setB,AK,E4,decide_eq_true_eq]at h;let#[#[#[#[b,c],d],a],f]:=h;refine#[by rw[G.n];exact c,by rw[G.n];exact b,by rw[G.sc];exact zfJ d,?_,f];rcases a with a|a
 .exact .inl ((G.own a).2.1 x)
 .exact .inr (by rw[G.sc];exact a)
def gFn(J:Gs)(x:AR)(i:Nat):Pr (J.g x=AA (.fn i)):=match h:J.g x with
 |some (.fn j)=>if e:j=i then AA #[by subst e;rfl]else AD
 |_=>AD
section
variable {J:Gs}{R:Kx}{ca cb cc:Ce}{ces:Ces}
def yfs(v:PV)(e:AZ):Pr (YE J R e (.cst v)):=
 match e with
 |.Constant (.int i) _ _=>match v with
  |.int j=>an (ask (i=j)) λh=>ok (λ_ _ _ _=>by cases h;exact zja)
  |_=>AD
 |.Constant (.bool i) _ _=>match v with
  |.bl j=>an (ask (i=j)) λh=>ok (λ_ _ _ _=>by cases h;exact zoq)
  |_=>AD
 |.Constant .none _ _=>match v with
  |.non=>ok (λ_ _ _ _=>znW)
  |_=>AD
 |.Constant (.str i) _ _=>match v with
  |.str j=>an (ask (i=j)) λh=>ok (λ_ _ _ _=>by cases h;exact zmK)
  |_=>AD
 |_=>AD
def yfA(i:Nat)(e:AZ):Pr (YE J R e (.var i)):=
 match e with
 |.Name x _=>an (ask (R.N[i]?=AA x/\ye5 R.sc x=AE/\pln x=AE)) λh=>ok (λ_ _ _ G=>zlx (by rw[G.n];exact h.1) (by rw[G.sc];exact zjR h.2.1) (zoC h.2.2) (zoV h.2.2))
 |_=>AD
def yfV(o:BOp)(e:AZ)(c:∀x,Pr (YE J R x ca))(d:∀x,Pr (YE J R x cb)):Pr (YE J R e (.bin o ca cb)):=
 match e with
 |.BinOp a f b _=>
  an (mOp f o) λg=>an (c a) λj=>an (d b) λl=>ok (λm S X G=>zli (g S X) (j m S X G) (l m S X G))
 |_=>AD
def yhx(e:AZ)(c:∀x,Pr (YE J R x ca))(d:∀x,Pr (YE J R x cb)):Pr (YE J R e (.rep ca cb)):=
 match e with
 |.BinOp a .Mult b _=>an (c a) λf=>an (d b) λg=>ok (λm S X G=>zm7 (f m S X G) (g m S X G))
 |_=>AD
def yfP(e:AZ)(b:∀x,Pr (YE J R x ca)):Pr (YE J R e (.neg ca)):=
 match e with
 |.UnaryOp .USub a _=>
  an (b a) λc=>ok (λm S X G=>zi2 (c m S X G))
 |_=>AD
def ygf(e:AZ)(b:∀x,Pr (YE J R x ca)):Pr (YE J R e (.not ca)):=
 match e with
 |.UnaryOp .Not a _=>
  an (b a) λc=>ok (λm S X G=>zmi (c m S X G))
 |_=>AD
def ygU(o:COp)(e:AZ)(c:∀x,Pr (YE J R x ca))(d:∀x,Pr (YE J R x cb)):Pr (YE J R e (.cmp o ca cb)):=
 match e with
 |.Compare a [f] [b] _=>
  an (mCm f o) λg=>an (ask (nse b=AE)) λj=>an (c a) λl=>an (d b) λn=>ok (λm S X G=>znj (g _ S X G.room) (l m S X G) (n m S X G) (nmk j))
 |_=>AD
def yeq(o:COp)(e:AZ)(c:∀x,Pr (YE J R x ca))(d:∀x,Pr (YE J R x cb)):Pr (YT J R e (.cmp o ca cb)):=
 match e with
 |.Compare a [f] [b] _=>
  an (mCm f o) λg=>an (ask (nse b=AE)) λj=>an (c a) λl=>an (d b) λn=>ok (λm S X G=>zl8 (g _ S X G.room) (l m S X G) (n m S X G) (nmk j))
 |_=>AD
theorem lmk{d a:E7}{b c:AZ}(h:nse c=AE):lastMarks [d,a] [b,c]=false:=nmk h
def yfY(o p:COp)(e:AZ)(f:∀x,Pr (YE J R x ca))(g:∀x,Pr (YE J R x cb))(j:∀x,Pr (YE J R x cc)):Pr (YE J R e (.chain o p ca cb cc)):=
 match e with
 |.Compare a [l,d] [b,c] _=>
  an (mCm l o) λn=>an (mCm d p) λq=>an (ask (nse c=AE)) λr=>an (f a) λt=>an (g b) λu=>an (j c) λw=>ok (λm S X G=>zhu (n _ S X G.room) (q _ S X G.room) (t m S X G) (u m S X G) (w m S X G) (lmk r))
 |_=>AD
def ye2(o p:COp)(e:AZ)(f:∀x,Pr (YE J R x ca))(g:∀x,Pr (YE J R x cb))(j:∀x,Pr (YE J R x cc)):Pr (YT J R e (.chain o p ca cb cc)):=
 match e with
 |.Compare a [l,d] [b,c] _=>
  an (mCm l o) λn=>an (mCm d p) λq=>an (ask (nse c=AE)) λr=>an (f a) λt=>an (g b) λu=>an (j c) λw=>ok (λm S X G=>ziP (n _ S X G.room) (q _ S X G.room) (t m S X G) (u m S X G) (w m S X G) (lmk r))
 |_=>AD
def yf1(e:AZ)(d:∀x,Pr (YT J R x cc))(f:∀x,Pr (YE J R x ca))(g:∀x,Pr (YE J R x cb)):Pr (YE J R e (.ite cc ca cb)):=
 match e with
 |.IfExp c a b _=>
  an (d c) λj=>an (f a) λl=>an (g b) λn=>ok (λm S X G=>zmh (j m S X G) (l m S X G) (n m S X G))
 |_=>AD
def yhA(e:AZ)(a:∀x,Pr (YA J R x ces)):Pr (YE J R e (.tup ces)):=
 match e with
 |.Tuple b _ _=>
  an (a b) λc=>ok (λm S X G=>znr (c m S X G))
 |_=>AD
def ye0(e:AZ)(a:∀x,Pr (YA J R x ces)):Pr (YE J R e (.newl ces)):=
 match e with
 |.List b _=>
  an (a b) λc=>ok (λm S X G=>zjY (c m S X G))
 |_=>AD
def yem(t:Bool)(e:AZ):Pr (YE J R e (.dict0 t)):=
 match t,e with
 |true,.Dict [] [] _=>ok (λ_ _ _ _=>zfv)
 |false,.Dict [] [] _=>ok (λ_ _ _ _=>zgr)
 |_,_=>AD
def mIdx(e:AZ)(c:∀x,Pr (YE J R x ca))(d:∀x,Pr (YE J R x cb)):Pr (YE J R e (.idx ca cb)):=
 match e with
 |.Subscript a b _=>
  an (ask (nsl b=AE)) λf=>an (c a) λg=>an (d b) λj=>ok (λm S X G=>zl5 (g m S X G) (j m S X G) (pix f))
 |_=>AD
def yfR(e:AZ)(c:∀x,Pr (YE J R x ca))(d:∀x,Pr (YE J R x cb)):Pr (YE J R e (.dgt ca cb)):=
 match e with
 |.Subscript a b _=>
  an (ask (nsl b=AE)) λf=>an (c a) λg=>an (d b) λj=>ok (λm S X G=>zns (zd3 G.room) (g m S X G) (j m S X G) (nos f))
 |_=>AD
def yhp(e:AZ)(b:∀x,Pr (YE J R x ca))(c:∀x,Pr (YO J R x cb))(d:∀x,Pr (YO J R x cc)):Pr (YE J R e (.slc ca cb cc)):=
 match e with
 |.Subscript a (.Slice l h AD _) _=>
  an (b a) λf=>an (c l) λg=>an (d h) λj=>ok (λm S X G=>zmj (f m S X G) (g m S X G) (j m S X G))
 |_=>AD
def yfp(c:Ce)(e:Option AZ)(b:∀x,Pr (YE J R x c)):Pr (YO J R e c):=
 match e with
 |none=>match c with
  |.cst .non=>ok (λ_ _ _ _=>zkc)
  |_=>AD
 |some a=>
  an (b a) λd=>ok (λm S X G=>zk0 (d m S X G))
inductive Fs(J:Gs)(R:Kx):Ces->Type where
 |nil:Fs J R .nil
 |cons {c:Ce} {cs:Ces} (f:∀x,Pr (YE J R x c)) (r:Fs J R cs):Fs J R (.cons c cs)
def ybm:{ces:Ces}->Fs J R ces->(es:List AZ)->Pr (YA J R es ces)
 |_,.nil,[]=>ok λ_ _ _ _=>zbX
 |_,.cons f r,a::es=>an (ask (nst a=AE)) λb=>an (f a) λc=>an (ybm r es) λd=>ok λm S X G=>zas (c m S X G) (d m S X G) (zoB b)
 |_,_,_=>AD
structure Sp2(J:Gs)(R:Kx)(ces:Ces)(np:Nat) where
 c1:Ces
 c2:Ces
 f1:Fs J R c1
 f2:Fs J R c2
 h:ycK c1 c2=ces
 l:yc0 c1=np
def ycw:(a:Nat)->{ces:Ces}->Fs J R ces->Option (Sp2 J R ces a)
 |0,ces,F=>AA #[.nil,ces,.nil,F,rfl,rfl]
 |n+1,_,.cons f r=>match ycw n r with
  |some s=>AA #[.cons _ s.c1,s.c2,.cons f s.f1,s.f2,by rw[ycK,s.h],by rw[yc0,s.l]]
  |none=>AD
 |_,_,_=>AD
structure It2(J:Gs)(R:Kx)(ces:Ces)(sh:List (Option Int))(kws:List CU) where
 it:List (Sum Ce Int)
 h:yay it=ces
 s:it.map shC=sh
 k:∀m S X,Good J R m S X->PK X kws (tK S X it)
def ybZ:(a:List (Option Int))->{ces:Ces}->Fs J R ces->(kws:List CU)->Option (It2 J R ces a kws)
 |[],_,.nil,[]=>AA #[[],rfl,rfl,λ_ _ _ _=>znz]
 |none::a,.cons c _,.cons f r,#[_,e,_] :: kws=>match f e,ybZ a r kws with
  |some h,AA q=>AA #[.inl c::q.it,by rw[yay,q.h],by rw[AV,q.s];rfl,λm S X G=>zok (h.down m S X G) (q.k m S X G)]
  |_,_=>AD
 |some i::a,.cons (.cst (.int j)) _,.cons _ r,kws=>if e:i=j then match ybZ a r kws with
  |some q=>AA #[.inr i::q.it,by rw[yay,q.h,e],by rw[AV,q.s];rfl,λm S X G=>zoo (q.k m S X G)]
  |none=>AD
  else AD
 |_,_,_,_=>AD
def kwN:List CU->List AR
 |[]=>[]
 |#[AA x,_,_] :: r=>x::kwN r
 |_::r=>kwN r
def kwB:List CU->Bool
 |[]=>AE
 |#[AA _,_,_] :: r=>kwB r
 |_=>AC
def znu{pos:CK}{env:BZ}:∀{kws:List CU},kwB kws=AE->(backToKw pos (keywordEach kws env)).all (·.1.isSome)=AE/\(backToKw pos (keywordEach kws env)).filterMap (·.1)=kwN kws/\(backToKw pos (keywordEach kws env)).any (·.1.isNone)=AC
 |[],_=>#[rfl,rfl,rfl]
 |#[AA x,e,_] :: r,h=>by let#[a,b,c]:=znu (pos:=pos) (env:=env) (kws:=r) h;erw[backToKw]at a b c ⊢;erw[keywordEach,AV,BL,CG,CA,a,b,c,kwN];simp
def yhi(d:R.h=AC)(i:Nat)(F:Fs J R ces)(e:AZ):Pr (YE J R e (.call i ces)):=
 match e with
 |.Call (.Name x _) [] [] _=>match F with
  |.nil=>an (ask (glB R x=AE)) λb=>an (gFn J x i) λhf=>ok λm S X G=>by let#[f,t,u,l,n,o,g]:=G.glo.F x i hf;exact zir l ((G.rm d).mono (Dl m)) (zn G b) n o g (zoC (zW b))
  |_=>AD
 |.Call (.Name x _) (a::es) c _=>an (ask (glB R x=AE/\nst a=AE/\ybR es=AE)) λb=>
  match y:J.g x with
  |some (.fn j)=>match c with
   |[]=>an (ask (j=i)) λA=>an (ybm F (a::es)) λp=>ok λm S X G=>by subst A;let#[f,t,u,l,n,o,g]:=G.glo.F x j y;exact zj6 l ((G.rm d).mono (Dl m)) (zn G b.1) n o g (p m S X G) (zoC (zW b.1)) (zoB b.2.1) (stars b.2.2)
   |_=>AD
  |some (.fnD j)=>match B:J.kb j (es.length+1) (kwN c)with
   |none=>AD
   |some z=>match ycw (es.length+1) F with
    |none=>AD
    |some s=>match ybZ z s.f2 c with
     |none=>AD
     |some q=>an (ask (kwB c=AE/\j=i)) λr=>an (ybm s.f1 (a::es)) λp=>ok λm S X G=>by
      let#[r,rfl]:=r;let#[f,t,u,l,n,o,g]:=G.glo.Q x j _ _ z y B;rw[<-s.h,<-q.h];rw[<-q.s]at g;have w:=λ{pos}=>znu (pos:=pos) (env:=X.env) r;exact ziE l ((G.rm d).mono (Dl m)) (zn G b.1) n o g s.l (p m S X G) (q.k m S X G) w.1 w.2.1 (zoC (zW b.1)) (zoB b.2.1) (by rw[w.2.2,Iq];exact stars (es:=a::es) (by erw[ybR,BL,b.2.1,F3];exact b.2.2))
  |_=>AD
 |_=>AD
abbrev yee(b:Blt)(x:AR):Prop:=∀S X,X.calm=AE->(∃id,yam X (.builtin id) (rB S X b)/\bootBuiltins x=AA (.builtin id)) \/ ∃T,yam X (.type T) (rB S X b)/\bootBuiltins x=AA (.type T)
def yfK(b:Blt)(x:AR):Pr (yee b x):=
 match b with
 |.len=>an (ask (x="len")) λh=>ok λ_ _ _=>.inl #[_,zlB,h ▸ zmL]
 |.int=>an (ask (x="int")) λh=>ok λ_ _ _=>.inr #[_,zlT,h ▸ zlg]
 |.tuple=>an (ask (x="tuple")) λh=>ok λ_ _ _=>.inr #[_,zhS,h ▸ zib]
 |.all=>an (ask (x="all")) λh=>ok λ_ _ c=>.inl #[_,znn c,h ▸ zmM]
 |.sum=>an (ask (x="sum")) λh=>ok λ_ _ c=>.inl #[_,zma c,h ▸ zmn]
 |.str=>an (ask (x="str")) λh=>ok λ_ _ _=>.inr #[_,zlU,h ▸ zi3]
 |_=>AD
def yhw(b:Blt)(F:Fs J R ces)(e:AZ):Pr (YE J R e (.blt b ces)):=
 match e with
 |.Call (.Name x _) (a::j) [] _=>hf R λd=>an (ask (glB R x=AE/\nst a=AE/\ybR j=AE/\J.b x=AE)) λc=>an (yfK b x) λn=>an (ybm F (a::j)) λl=>ok λm S X G=>by
  rcases n S X (G.calm d)with⟨id,f,g⟩|⟨T,f,g⟩
  .exact zmu f (zn G c.1) (G.glo.B x c.2.2.2) g (l m S X G) (zoO (zW c.1)) (zoC (zW c.1)) (zoB c.2.1) (stars c.2.2.1)
  .exact zki f (zn G c.1) (G.glo.B x c.2.2.2) g (l m S X G) (zoO (zW c.1)) (zoC (zW c.1)) (zoB c.2.1) (stars c.2.2.1)
 |_=>AD
def yht(F:Fs J R ces)(e:AZ):Pr (YE J R e (.blt .rev ces)):=
 match e,F with
 |.Subscript a (.Slice AD AD (AA (.UnaryOp .USub (.Constant (.int i) _ _) _)) _) _,.cons f .nil=>an (ask (i=1)) λb=>an (f a) λc=>ok λm S X G=>by subst b;exact zme (c m S X G) (zi2 zja)
 |_,_=>AD
def yf4(b:Blt)(F:Fs J R ces)(e:AZ):Pr (YE J R e (.blt b ces)):=
 match b with
 |.rev=>yht F e
 |b=>yhw b F e
def ygH(e:AZ)(c:∀x,Pr (YE J R x ca)):Pr (YE J R e (.srk ca)):=
 match e with
 |.Call (.Name x _) [a] [] _=>hf R λb=>an (ask (x="sorted"/\glB R x=AE/\nst a=AE/\J.b x=AE)) λh=>an (c a) λd=>ok λm S X G=>by let#[rfl,f,g,j]:=h;exact zm1 (G.calm b) (zn G f) (G.glo.B _ j) (d m S X G) (zoB g)
 |_=>AD
def yf8(e:AZ)(b:∀x,Pr (YE J R x ca)):Pr (YE J R e (.dcp ca)):=
 match e with
 |.Call (.Name x _) [a] [] _=>an (ask (x="dict"/\glB R x=AE/\nst a=AE/\J.b x=AE)) λh=>an (b a) λc=>ok λm S X G=>by let#[rfl,d,f,g]:=h;exact znR (zn G d) (G.glo.B _ g) (c m S X G) (zoB f)
 |_=>AD
def ygo(e:AZ)(c:∀x,Pr (YE J R x ca))(d:∀x,Pr (YE J R x cb)):Pr (YE J R e (.orv ca cb)):=
 match e with
 |.BoolOp .Or (a::b::[]) _=>an (c a) λf=>an (d b) λg=>ok λm S X G=>zmP (f m S X G) (zfD (g m S X G))
 |_=>AD
def tyB(t:Ty)(x:AR):Pr (ydq t=AE/\bootBuiltins x=AA (.type (tyN t))):=
 match t with
 |.str=>an (ask (x="str")) λh=>ok #[rfl,h ▸ zi3]
 |_=>AD
def yhj(ts:List Ty)(e:AZ)(d:∀x,Pr (YE J R x ca)):Pr (YE J R e (.isi ca ts)):=
 match ts,e with
 |[t],.Call (.Name n _) [a,.Name x _] [] _=>an (ask (n="isinstance"/\glB R n=AE/\J.b n=AE/\glB R x=AE/\J.b x=AE/\J.t t=AE/\nst a=AE)) λh=>an (tyB t x) λc=>an (d a) λf=>ok λm S X G=>by let#[rfl,g,j,b,l,o,p]:=h;exact zno (G.glo.T t o) c.1 (zn G g) (G.glo.B _ j) (zn G b) (G.glo.B _ l) c.2 (f m S X G) (zoO (zW b)) (zoC (zW b)) (zoB p) rfl
 |_,_=>AD
mutual
noncomputable def yeG:(a b:PV)->Pr (a=b)
 |.non,.non=>ok rfl
 |.bl a,.bl b=>an (ask (a=b)) λh=>ok (by rw[h])
 |.int a,.int b=>an (ask (a=b)) λh=>ok (by rw[h])
 |.str a,.str b=>an (ask (a=b)) λh=>ok (by rw[h])
 |.tp k a,.tp j b=>an (ask (k=j)) λh=>an (ycD a b) λg=>ok (by rw[h,g])
 |.lst a,.lst b=>an (ycD a b) λg=>ok (by rw[g])
 |_,_=>AD
noncomputable def ycD:(a b:List PV)->Pr (a=b)
 |[],[]=>ok rfl
 |a::x,b::y=>an (yeG a b) λh=>an (ycD x y) λg=>ok (by rw[h,g])
 |_,_=>AD
end
def eqD:(a b:List (AR×PV))->Pr (a=b)
 |[],[]=>ok rfl
 |(k,a)::x,(j,b)::y=>an (ask (k=j)) λe=>an (yeG a b) λh=>an (eqD x y) λg=>ok (by rw[e,h,g])
 |_,_=>AD
def yhh(v:PV)(e:AZ):Pr (YE J R e (.cst v)):=
 match e with
 |.Name x _=>match h:J.g x with
  |some (.cst u)=>an (ask (glB R x=AE)) λa=>an (yeG u v) λc=>ok λm S X G=>by subst c;exact zop (zn G a) (G.glo.C x u h) (zoC (zW a))
  |some (.fn i)=>match v with
   |.fnc j=>an (ask (glB R x=AE/\J.fv x i=AE/\i=j)) λa=>ok λm S X G=>by let#[b,d,rfl]:=a;exact zjS (zn G b) (G.glo.V x i h d) (λB I H=>by erw[yd]) (zoC (zW b))
   |_=>AD
  |_=>AD
 |e=>yfs v e
def yfL(D:List (AR×PV))(e:AZ)(c:∀x,Pr (YE J R x cb)):Pr (YE J R e (.dix D cb)):=
 match e with
 |.Subscript (.Name x _) b _=>match h:J.g x with
  |some (.dct E)=>an (ask (glB R x=AE/\nsl b=AE)) λa=>an (eqD E D) λd=>an (c b) λf=>ok λm S X G=>by subst d;exact zlk (zn G a.1) (G.glo.D x E h) (f m S X G) (nos a.2) (zoC (zW a.1))
  |_=>AD
 |_=>AD
def yhg(D:List (AR×PV))(e:AZ)(c:∀x,Pr (YE J R x ca)):Pr (YE J R e (.din ca D)):=
 match e with
 |.Compare a [.In] [.Name x _] _=>match h:J.g x with
  |some (.dct E)=>an (ask (glB R x=AE)) λb=>an (eqD E D) λd=>an (c a) λf=>ok λm S X G=>by subst d;exact znd (zn G b) (G.glo.D x E h) (f m S X G) rfl (zoC (zW b))
  |_=>AD
 |_=>AD
def yeA(D:List (AR×PV))(e:AZ)(c:∀x,Pr (YE J R x ca)):Pr (YT J R e (.din ca D)):=
 match e with
 |.Compare a [.In] [.Name x _] _=>match h:J.g x with
  |some (.dct E)=>an (ask (glB R x=AE)) λb=>an (eqD E D) λd=>an (c a) λf=>ok λm S X G=>by subst d;exact znh (zn G b) (G.glo.D x E h) (f m S X G) rfl (zoC (zW b))
  |_=>AD
 |_=>AD
def ygn(D:List (AR×PV))(e:AZ)(c:∀x,Pr (YE J R x ca)):Pr (YE J R e (.dnn ca D)):=
 match e with
 |.Compare a [.NotIn] [.Name x _] _=>match h:J.g x with
  |some (.dct E)=>an (ask (glB R x=AE)) λb=>an (eqD E D) λd=>an (c a) λf=>ok λm S X G=>by subst d;exact znO (zn G b) (G.glo.D x E h) (f m S X G) rfl (zoC (zW b))
  |_=>AD
 |_=>AD
def yeQ(D:List (AR×PV))(e:AZ)(c:∀x,Pr (YE J R x ca)):Pr (YT J R e (.dnn ca D)):=
 match e with
 |.Compare a [.NotIn] [.Name x _] _=>match h:J.g x with
  |some (.dct E)=>an (ask (glB R x=AE)) λb=>an (eqD E D) λd=>an (c a) λf=>ok λm S X G=>by subst d;exact zmQ (zn G b) (G.glo.D x E h) (f m S X G) rfl (zoC (zW b))
  |_=>AD
 |_=>AD
def yhC(e:AZ)(c:∀x,Pr (YE J R x ca))(d:∀x,Pr (YE J R x cb)):Pr (YE J R e (.dni ca cb)):=
 match e with
 |.Compare a [.NotIn] [b] _=>an (ask (behindInMarks .NotIn b=AC)) λh=>an (c a) λf=>an (d b) λg=>ok λm S X G=>zlw (zd3 G.room) (f m S X G) (g m S X G) h
 |_=>AD
def yeb(e:AZ)(c:∀x,Pr (YE J R x ca))(d:∀x,Pr (YE J R x cb)):Pr (YT J R e (.dni ca cb)):=
 match e with
 |.Compare a [.NotIn] [b] _=>an (ask (behindInMarks .NotIn b=AC)) λh=>an (c a) λf=>an (d b) λg=>ok λm S X G=>zl7 (zd3 G.room) (f m S X G) (g m S X G) h
 |_=>AD
def zoW{pos:CK}{env:BZ}:∀{es:List AZ},ybR es=AE->((backTo pos (starEach es env)).all λx=>!x.1)=AE
 |[],_=>rfl
 |a::es,h=>by erw[ybR,BL,AK]at h;have:=zoW (pos:=pos) (env:=env) (es:=es) h.2;erw[backTo]at this ⊢;rw[zoB h.1,AV,BL,this];rfl
def ziZ{o:AZ}{n:AR}{a pos:CK}{es:List AZ}{env:BZ}(c:nca o=AE)(d:ybR es=AE)(g:es.length<30)(j:(a.endLine==pos.line)=AE):
  eval (.Call (.Attribute o n a) es [] pos) env=(do
   let b <-eval o env
   standAt a.atName
   let (f,first) <-holding [b] (getMethod b n (do return (<-importBound o env).getD AE))
   callWith pos f first (backTo pos (starEach es env)) (backToKw pos (keywordEach [] env))):=by
 have hf:methodCallForm (es.length+([]:List CU).length) (backTo pos (starEach es env)) (backToKw pos (keywordEach [] env))=true:=by erw[methodCallForm,zoW d,F3];simp[backToKw,keywordEach,g]
 rw[arm_eval_Call,zoH c];erw[methodCall,calleeOf,methodCallPos,hf,j,if_true,ET,JN,pure_bind]
def ygV(c:Nat)(f:AR)(e:AZ)(d:∀x,Pr (YE J R x ca)):Pr (YE J R e (.fld c ca f)):=
 match e with
 |.Attribute a g _=>an (ask (g=f/\J.fl c f=AE/\nca a=AE)) λh=>an (d a) λj=>ok λm S X G=>by let#[rfl,b,l]:=h;exact zlS (G.glo.A c g b).1 (G.glo.A c g b).2 (j m S X G) (zoH l)
 |_=>AD
def ygC(b:R.h=AC)(c i:Nat)(F:Fs J R ces)(e:AZ):Pr (YE J R e (.new c i ces)):=
 match e with
 |.Call (.Name x _) [] [] _=>match F with
  |.nil=>match h:J.g x with
   |some (.cls d g)=>an (ask (d=c/\g=i/\glB R x=AE)) λl=>ok λm S X G=>by let#[rfl,rfl,j]:=l;let#[q,f,t,u,n,o,p]:=G.glo.N x d g h;exact zka n o (G.rm b) (zn G j) q p (zoC (zW j))
   |_=>AD
  |_=>AD
 |.Call (.Name x _) (a::r) [] _=>match h:J.g x with
  |some (.cls d g)=>an (ask (d=c/\g=i/\glB R x=AE/\nst a=AE/\ybR r=AE)) λl=>an (ybm F (a::r)) λw=>ok λm S X G=>by let#[rfl,rfl,j,y,z]:=l;let#[q,f,t,u,n,o,p]:=G.glo.N x d g h;exact zlF n o (G.rm b) (zn G j) q p (w m S X G) (zoC (zW j)) (zoB y) (stars z)
  |_=>AD
 |_=>AD
def yfX(b:R.h=AC)(c i:Nat)(n:AR)(F:Fs J R ces)(e:AZ)(y:∀x,Pr (YE J R x ca)):Pr (YE J R e (.mcl c i n ca ces)):=
 match e with
 |.Call (.Attribute (.Name x p) d g) [] [] pos=>match F with
  |.nil=>an (ask (d=n/\J.me c n=AA i/\(g.endLine==pos.line)=AE)) λh=>an (y (.Name x p)) λj=>ok λm S X G=>by let#[rfl,l,o]:=h;let#[q,f,B,C,r,t,u]:=G.glo.M c d i l;exact zjI q r t ((G.rm b).mono (Dl m)) u (j m S X G) (ziZ rfl rfl (Ht _) o)
  |_=>AD
 |.Call (.Attribute (.Name x p) d g) (a::w) [] pos=>an (ask (d=n/\J.me c n=AA i/\nst a=AE/\ybR w=AE/\(g.endLine==pos.line)=AE/\(a::w).length<30)) λh=>an (y (.Name x p)) λj=>an (ybm F (a::w)) λD=>ok λm S X G=>by let#[rfl,l,z,A,o,E]:=h;let#[q,f,B,C,r,t,u]:=G.glo.M c d i l;exact zlY q r t ((G.rm b).mono (Dl m)) u (j m S X G) (D m S X G) (zoB z) (stars A) (ziZ rfl (by erw[ybR,BL,z,F3];exact A) E o)
 |_=>AD
def zoL{pos:CK}{env:BZ}{b:AZ}(h:nst b=AE):((backTo pos (starEach [b] env)).all (λx=>!x.1)&&(backToKw pos (keywordEach [] env)).all (λx=>x.1.isSome)&&decide (([b]:List AZ).length+([]:List CU).length+(if ([]:List CU).isEmpty then 0 else 1)<30))=true:=by rw[zoB h];rfl
def ygx(k:Mth)(F:Fs J R ces)(e:AZ)(p:∀x,Pr (YE J R x ca)):Pr (YE J R e (.mth k ca ces)):=
 match k,e,F with
 |.append,.Call (.Attribute a n d) [b] [] pos,.cons f .nil=>an (ask (n="append"/\nca a=AE/\nst b=AE/\(d.endLine==pos.line)=AE)) λh=>an (p a) λg=>an (f b) λj=>ok λm S X G=>by let#[rfl,l,c,o]:=h;exact zgb (g m S X G) (j m S X G) (zoB c) (zoH l) o (zoL c)
 |.split,.Call (.Attribute a n d) [b] [] pos,.cons f .nil=>an (ask (n="split"/\nca a=AE/\nst b=AE/\(d.endLine==pos.line)=AE)) λh=>an (p a) λg=>an (f b) λj=>ok λm S X G=>by let#[rfl,l,c,o]:=h;exact ziy (g m S X G) (j m S X G) (zoB c) (zoH l) o (zoL c) rfl
 |.join,.Call (.Attribute a n d) [b] [] pos,.cons f .nil=>an (ask (n="join"/\nca a=AE/\nst b=AE/\(d.endLine==pos.line)=AE)) λh=>an (p a) λg=>an (f b) λj=>ok λm S X G=>by let#[rfl,l,c,o]:=h;exact zkd (g m S X G) (j m S X G) (zoB c) (zoH l) o (zoL c) rfl
 |.rmp,.Call (.Attribute a n d) [b] [] pos,.cons f .nil=>an (ask (n="removeprefix"/\nca a=AE/\nst b=AE/\(d.endLine==pos.line)=AE)) λh=>an (p a) λg=>an (f b) λj=>ok λm S X G=>by let#[rfl,l,c,o]:=h;exact zmc (g m S X G) (j m S X G) (zoB c) (zoH l) o (zoL c) rfl
 |_,_,_=>AD
def ygr(e:AZ)(c:∀x,Pr (YE J R x ca))(d:∀x,Pr (YE J R x cb)):Pr (YE J R e (.inn ca cb)):=
 match e with
 |.Compare a [.In] [b] _=>an (ask (behindInMarks .In b=AC)) λh=>an (c a) λf=>an (d b) λg=>ok λm S X G=>znt G.room.units (f m S X G) (g m S X G) h
 |_=>AD
def yej(e:AZ)(c:∀x,Pr (YE J R x ca))(d:∀x,Pr (YE J R x cb)):Pr (YT J R e (.inn ca cb)):=
 match e with
 |.Compare a [.In] [b] _=>an (ask (behindInMarks .In b=AC)) λh=>an (c a) λf=>an (d b) λg=>ok λm S X G=>zlt G.room.units (f m S X G) (g m S X G) h
 |_=>AD
def mJ:(ces:Ces)->Fs J R ces->(es:List AZ)->Pr (∀m S X,Good J R m S X->PJ X es (tJ S X ces))
 |.nil,_,[]=>ok λ_ _ _ _=>znp
 |.cons (.cst (.str y)) a,.cons _ r,.Constant (.str z) _ _::es=>an (ask (z=y)) λc=>an (mJ a r es) λb=>ok λm S X G=>by subst c;exact zgx znN (b m S X G)
 |.cons _ a,.cons f r,.FormattedValue e k AD _::es=>an (ask (k=-1)) λd=>an (f e) λh=>an (mJ a r es) λb=>ok λm S X G=>by subst d;exact zgx (zlZ (h m S X G)) (b m S X G)
 |_,_,_=>AD
def yg8(F:Fs J R ces)(e:AZ):Pr (YE J R e (.fst ces)):=
 match e with
 |.JoinedStr (b::c::a) _=>an (mJ ces F (b::c::a)) λh=>ok λm S X G=>zml (h m S X G)
 |_=>AD
end
structure Ev(J:Gs)(c:Ce) where
 e:∀R x,Pr (YE J R x c)
 t:∀R x,Pr (YT J R x c)
 w:∀R op l pos,Pr (YW J R (.BoolOp op l pos) c)
section
variable {J:Gs}{ca cb cc:Ce}
def w1{c:Ce}(t:∀R x,Pr (YT J R x c))(R:Kx)(b:JK)(l:List AZ)(pos:CK):Pr (YW J R (.BoolOp b l pos) c):=
 match b,l with
 |.And,[a]=>an (t R a) λh=>ok λm S X G=>zkb (h m S X G)
 |.Or,[a]=>an (t R a) λh=>ok λm S X G=>zmH (h m S X G)
 |_,_=>AD
def plT{c:Ce}(e:∀R x,Pr (YE J R x c))(R:Kx)(x:AZ):Pr (YT J R x c):=an (ask (nte x=AE)) λh=>an (e R x) λa=>ok λm S X G=>zl9 (a m S X G) (itr h)
def plain{c:Ce}(e:∀R x,Pr (YE J R x c)):Ev J c:=#[e,plT e,w1 (plT e)]
def ybt{c:Ce}(e:∀R x,Pr (YE J R x c))(t:∀R x,Pr (YT J R x c)):Ev J c:=#[e,t,w1 t]
def ygQ(A:Ev J ca)(R:Kx)(e:AZ):Pr (YT J R e (.not ca)):=
 match e with
 |.UnaryOp .Not a _=>an (A.t R a) λh=>ok λm S X G=>zl3 (h m S X G)
 |_=>AD
def yfO(A:Ev J ca)(B:Ev J cb)(R:Kx)(e:AZ):Pr (YE J R e (.and ca cb)):=
 match e with
 |.BoolOp .And (a::b::[]) _=>an (A.e R a) λd=>an (B.e R b) λf=>ok λm S X G=>zjb (d m S X G) (zfD (f m S X G))
 |.BoolOp .And (a::b::c::r) p=>an (A.e R a) λd=>an (B.e R (.BoolOp .And (b::c::r) p)) λf=>ok λm S X G=>zjb (d m S X G) (f m S X G)
 |_=>AD
def orE(A:Ev J ca)(B:Ev J cb)(R:Kx)(e:AZ):Pr (YE J R e (.or ca cb)):=
 match e with
 |.BoolOp .Or (a::b::[]) _=>an (A.e R a) λd=>an (B.e R b) λf=>ok λm S X G=>zmC (d m S X G) (zfD (f m S X G))
 |.BoolOp .Or (a::b::c::r) p=>an (A.e R a) λd=>an (B.e R (.BoolOp .Or (b::c::r) p)) λf=>ok λm S X G=>zmC (d m S X G) (f m S X G)
 |_=>AD
def yeL(A:Ev J ca)(B:Ev J cb)(R:Kx)(c:JK)(l:List AZ)(pos:CK):Pr (YW J R (.BoolOp c l pos) (.and ca cb)):=
 match c,l with
 |.And,a::b::r=>an (A.t R a) λd=>an (B.w R .And (b::r) pos) λf=>ok λm S X G=>zmz (d m S X G) (f m S X G)
 |_,_=>AD
def orW(A:Ev J ca)(B:Ev J cb)(R:Kx)(c:JK)(l:List AZ)(pos:CK):Pr (YW J R (.BoolOp c l pos) (.or ca cb)):=
 match c,l with
 |.Or,a::b::r=>an (A.t R a) λd=>an (B.w R .Or (b::r) pos) λf=>ok λm S X G=>zn1 (d m S X G) (f m S X G)
 |_,_=>AD
def ptW{c:Ce}(w:∀R a l pos,Pr (YW J R (.BoolOp a l pos) c))(R:Kx)(e:AZ):Pr (YT J R e c):=
 match e with
 |.BoolOp a l p=>an (w R a l p) λh=>ok λm S X G=>PW.pt (h m S X G)
 |_=>AD
def yfb{c:Ce}(t:∀R x,Pr (YT J R x c))(w:∀R b l pos,Pr (YW J R (.BoolOp b l pos) c))(R:Kx)(b:JK)(l:List AZ)(pos:CK):Pr (YW J R (.BoolOp b l pos) c):=
 match l with
 |[a]=>w1 t R b [a] pos
 |l=>w R b l pos
def yez(A:Ev J ca)(B:Ev J cb):Ev J (.and ca cb):=#[yfO A B,ptW (yeL A B),yfb (ptW (yeL A B)) (yeL A B)]
def ygi(A:Ev J ca)(B:Ev J cb):Ev J (.or ca cb):=#[orE A B,ptW (orW A B),yfb (ptW (orW A B)) (orW A B)]
end
abbrev YI(J:Gs)(R:Kx)(a l:AZ)(c:Cit):Prop:=∀m S X,Good J R m S X->PI X a l (tI S X c)
abbrev YG(J:Gs)(R:Kx)(a:AZ)(c:Tg):Prop:=∀m S X,Good J R m S X->PG X a (tG S X c)
section
variable {J:Gs}{R:Kx}{ca cb cc ce:Ce}{ci:Cit}
def yhs(e:∀x,Pr (YE J R x ca))(a l:AZ):Pr (YI J R a l (.seq ca)):=an (e l) λh=>ok λm S X G=>zlO (h m S X G)
def ydi(e:∀x,Pr (YE J R x ca))(a l:AZ):Pr (YI J R a l (.chars ca)):=an (e l) λh=>ok λm S X G=>ziG (h m S X G)
def iR1(b:∀x,Pr (YE J R x ca))(c l:AZ):Pr (YI J R c l (.range1 ca)):=
 match l with
 |.Call (.Name x _) [a] [] _=>an (ask (x="range"/\glB R x=AE/\J.b x=AE/\nst a=AE)) λh=>an (b a) λd=>ok λm S X G=>by let#[rfl,f,g,j]:=h;exact zfI (zn G f) (G.glo.B _ g) (d m S X G) (zoB j)
 |_=>AD
def yeS(c:∀x,Pr (YE J R x ca))(b l:AZ):Pr (YI J R b l (.enum ca)):=
 match b,l with
 |.Tuple _ _ _,.Call (.Name x _) [a] [] _=>an (ask (x="enumerate"/\glB R x=AE/\J.b x=AE/\nst a=AE)) λh=>an (c a) λd=>ok λm S X G=>by let#[rfl,f,g,j]:=h;exact zjZ (zn G f) (G.glo.B _ g) (d m S X G) (zoB j)
 |_,_=>AD
def yeJ(f:∀x,Pr (YE J R x ca))(g:∀x,Pr (YE J R x cb))(c l:AZ):Pr (YI J R c l (.zipl ca cb)):=
 match c,l with
 |.Tuple _ _ _,.Call (.Name x _) [a,b] [] _=>an (ask (x="zip"/\glB R x=AE/\J.b x=AE/\nst a=AE/\nst b=AE)) λh=>an (f a) λj=>an (g b) λn=>ok λm S X G=>by let#[rfl,o,p,q,d]:=h;exact zkR (zn G o) (G.glo.B _ p) (j m S X G) (n m S X G) (by rw[zoB q,zoB d];rfl) (zoB d)
 |_,_=>AD
def yel(b:∀x,Pr (YE J R x ca))(c l:AZ):Pr (YI J R c l (.revl ca)):=
 match l with
 |.Call (.Name x _) [a] [] _=>an (ask (x="reversed"/\glB R x=AE/\J.b x=AE/\nst a=AE)) λh=>an (b a) λd=>ok λm S X G=>by let#[rfl,f,g,j]:=h;exact zjP (zn G f) (G.glo.B _ g) (d m S X G) (zoB j)
 |_=>AD
def yed(b:∀x,Pr (YE J R x ca))(c l:AZ):Pr (YI J R c l (.revr ca)):=
 match l with
 |.Call (.Name x _) [.Call (.Name y _) [a] [] _] [] _=>an (ask (x="reversed"/\y="range"/\glB R x=AE/\J.b x=AE/\glB R y=AE/\J.b y=AE/\nst a=AE)) λh=>an (b a) λd=>ok λm S X G=>by let#[rfl,rfl,f,g,j,n,o]:=h;exact zjG (zn G f) (G.glo.B _ g) (zn G j) (G.glo.B _ n) (d m S X G) (zoB o) (zoB rfl)
 |_=>AD
def gNm(R:Kx):(l:List Nat)->(es:List AZ)->Pr (∀m S X,Good J R m S X->PGs X es (gNs l)/\(assignEach es X.env).length=l.length/\(assignEach es X.env).findIdx? (·.1)=AD)
 |[],[]=>ok λ_ _ _ _=>#[zfH,rfl,rfl]
 |i::l,.Name x _::es=>an (ask (setB R i x=AE)) λh=>an (gNm R l es) λa=>ok λm S X G=>by
  have s:=zX G h;let#[b,c,d]:=a m S X G;refine#[zcm s.d s.i s.l b s.f,?_,?_]
  .simp only[assignEach,AY,c]
  .simp only[assignEach,List.findIdx?_cons,d];rfl
 |_,_=>AD
def mTg(ct:Tg)(b:AZ):Pr (YG J R b ct):=
 match ct,b with
 |.n i,.Name x _=>an (ask (setB R i x=AE)) λh=>ok λm S X G=>let s:=zX G h;zjC s.d s.i s.l s.f
 |.t l,.Tuple c _ _=>hf R λa=>an (gNm R l c) λh=>ok λm S X G=>zmW (G.calm a) (h m S X G).1 (h m S X G).2.1 (h m S X G).2.2
 |_,_=>AD
def tgN:AZ->List AR
 |.Name x _=>[x]
 |.Tuple a _ _=>a.filterMap fun
  |.Name x _=>AA x
  |_=>AD
 |_=>[]
def yds(N:List AR)(sl:List (Option Nat))(a:AZ):List Str:=tgN a++(sl.drop (tgN a).length).filterMap λo=>o.bind λj=>N[j]?
def ybT(sc a:B4):Scope:={sc with names:=sc.names.map λ(n,k)=>if (k==DJ&&a.kind==.function&&a.names.lookup n==AA .cell)then(n,Gx)else(n,k)}
def yM(N:List AR)(b sc:B4)(a:List AR)(sl:List (Option Nat)):Bool:=
 decide (sc.kind=.function)&&(sc.names.all λy=>y.2 != .local || decide (sc.names.lookup y.1=AA .local))&&(sc.names.all λy=>y.2 != .cell)&&(sc.names.all λy=>y.2 != .free || decide (b.names.lookup y.1=AA .cell)) &&
  ((a.zip sl).all λp=>p.2.all λj=>decide (N[j]?=AA p.1/\sc.names.lookup p.1=AA .free))&&decide (sl.length=a.length)
def ziF{X:Cx}{sc:B4}{b:List AR}{sl:List (Option Nat)}(h:yM X.N X.env.scope sc b sl=AE):yaa X sc b sl:=by erw[yM,AK,decide_eq_true_eq,Ar,E4,bne_iff_ne,ne_eq]at h;let#[#[#[#[#[c,d],f],g],j],l]:=h;exact zo9 _ _ rfl rfl c (λy a e=>(d y a).resolve_left λz=>z e) f (λy a e=>(g y a).resolve_left λz=>z e) (λp m=>by simpa using j p m) l
theorem Good.comp{m:Nat}{S:Se}{X:Cx}(G:Good J R m S X)(sc:B4)(b:List AR)(j:CI):Good J #[b,ybT sc R.sc,AC,R.h] m S (cxC X sc b j):=by refine#[rfl,?_,G.calm,G.room,G.hd,(λh=>nomatch h),(λh=>nomatch h),#[G.glo.F,G.glo.Q,G.glo.C,G.glo.D,G.glo.E,G.glo.N,G.glo.B,G.glo.T,G.glo.A,G.glo.M,λy D h=>let #[c,a,f,M,d]:=G.glo.K y D h;#[c,a,f,#[M.F,M.kp,M.b],d],G.glo.V,G.glo.I,G.glo.L,G.glo.H,G.glo.Z]];show relabel sc X.env=_;rw[<-G.sc];rfl
def ygm(c:Ce)(f:∀x,Pr (YT J R x c))(b:List AZ):Pr (∀m S X,Good J R m S X->PTs X b (tT0 S X.K c)):=
 match b with
 |[]=>match c with
  |.cst (.bl AE)=>ok λ_ _ _ _=>zhL
  |_=>AD
 |[a]=>an (f a) λh=>ok λm S X G=>zko rfl (h m S X G)
 |_=>AD
structure ycA(J:Gs)(R:Kx)(sl:List (Option Nat))(ct:Tg)(ci:Cit)(cc ce:Ce)(elt tg it:AZ)(ifs:List AZ)(sc:B4):Prop where
 q:∀m S X,Good J R m S X->∃NC,yaa X sc NC sl/\PI X tg it (tI S X ci)/\(∀j,PG (cxC X sc NC j) tg (tG0 S X.K ct))/\(∀j,PTs (cxC X sc NC j) ifs (tT0 S X.K cc))/\∀j,PE (cxC X sc NC j) elt (tE0 S X.K ce)
 f:yZ ct sl=AE
 s:nse it=AE
def mCo(sl:List (Option Nat))(ct:Tg)(f:∀a l,Pr (YI J R a l ci))(C:Ev J cc)(E:Ev J ce)(b a d:AZ)(c:List AZ)(sc:B4):Pr (ycA J R sl ct ci cc ce b a d c sc):=
 an (ask (yM R.N R.sc sc (yds R.N sl a) sl=AE/\yZ ct sl=AE/\nse d=AE)) λh=>an (f a d) λg=>an (mTg (J:=J) (R:=#[yds R.N sl a,ybT sc R.sc,AC,R.h]) ct a) λn=>
  an (ygm (J:=J) (R:=#[yds R.N sl a,ybT sc R.sc,AC,R.h]) cc (C.t _) c) λo=>an (E.e #[yds R.N sl a,ybT sc R.sc,AC,R.h] b) λp=>ok #[λm S X G=>#[yds R.N sl a,by rw[<-G.n,<-G.sc]at h;rw[<-G.n];exact ziF h.1,g m S X G,λj=>zkT rfl (n m S _ (G.comp sc _ j)),λj=>o m S _ (G.comp sc _ j),λj=>zjQ rfl (p m S _ (G.comp sc _ j))],h.2.1,h.2.2]
def yd7(sl:List (Option Nat))(ct:Tg)(f:∀a l,Pr (YI J R a l ci))(C:Ev J cc)(E:Ev J ce)(e:AZ):Pr (YE J R e (.comp sl ct ci cc ce)):=
 match e with
 |.ListComp b [#[a,g,c,0]] j _=>hf R λd=>an (mCo sl ct f C E b a g c j) λh=>ok λm S X G=>by let#[t,n,o,p,q,r]:=h.q m S X G;exact zkA (G.calm d) n h.f o p q r (fse h.s)
 |_=>AD
end
section
variable {J:Gs}{R:Kx}{ca ce ck cv m:Ce}{ci:Cit}{ct:Tg}
theorem Good.compL{n:Nat}{S:Se}{X:Cx}(G:Good J R n S X)(sc:B4)(c:List AR)(a:AJ->List (AR×AJ))(f:AR->Bool)(j:CI):Good J #[c,ybT sc R.sc,AC,R.h] n S (cxL X sc c a f j):=by refine#[rfl,?_,G.calm,G.room,G.hd,(λh=>nomatch h),(λh=>nomatch h),#[G.glo.F,G.glo.Q,G.glo.C,G.glo.D,G.glo.E,G.glo.N,G.glo.B,G.glo.T,G.glo.A,G.glo.M,λy D h=>let #[g,b,l,M,d]:=G.glo.K y D h;#[g,b,l,#[M.F,M.kp,M.b],d],G.glo.V,G.glo.I,G.glo.L,G.glo.H,G.glo.Z]];show relabel sc X.env=_;rw[<-G.sc];rfl
abbrev YID(J:Gs)(R:Kx)(a l:AZ)(c:Cit):Prop:=∀n S X,Good J R n S X->∀D,PI X a l (tID S X c D)
def yeT(e:∀x,Pr (YE J R x ca))(a l:AZ):Pr (YID J R a l (.seq ca)):=an (e l) λh=>ok λn S X G D=>zkI (h n S X G)
def yge(b:∀x,Pr (YE J R x ca))(c l:AZ):Pr (YID J R c l (.range1 ca)):=
 match l with
 |.Call (.Name x _) [a] [] _=>an (ask (x="range"/\glB R x=AE/\J.b x=AE/\nst a=AE)) λh=>an (b a) λd=>ok λn S X G D=>by let#[rfl,f,g,j]:=h;exact zfa (zn G f) (G.glo.B _ g) (d n S X G) (zoB j)
 |_=>AD
end
section
variable {J:Gs}{R:Kx}
end
section
variable {J:Gs}{R:Kx}
end
mutual
noncomputable def ch(J:Gs):(c:Ce)->Ev J c
 |.cst v=>plain λR x=>yhh v x
 |.var i=>plain λR x=>yfA i x
 |.bin o a b=>plain λR x=>yfV o x ((ch J a).e R) ((ch J b).e R)
 |.rep a b=>plain λR x=>yhx x ((ch J a).e R) ((ch J b).e R)
 |.neg a=>plain λR x=>yfP x ((ch J a).e R)
 |.not a=>ybt (λR x=>ygf x ((ch J a).e R)) (ygQ (ch J a))
 |.and a b=>yez (ch J a) (ch J b)
 |.or a b=>ygi (ch J a) (ch J b)
 |.cmp o a b=>ybt (λR x=>ygU o x ((ch J a).e R) ((ch J b).e R)) (λR x=>yeq o x ((ch J a).e R) ((ch J b).e R))
 |.chain o p a b c=>ybt (λR x=>yfY o p x ((ch J a).e R) ((ch J b).e R) ((ch J c).e R)) (λR x=>ye2 o p x ((ch J a).e R) ((ch J b).e R) ((ch J c).e R))
 |.ite c a b=>plain λR x=>yf1 x ((ch J c).t R) ((ch J a).e R) ((ch J b).e R)
 |.tup d=>plain λR x=>yhA x (ybm (chs J d R))
 |.newl d=>plain λR x=>ye0 x (ybm (chs J d R))
 |.dict0 t=>plain λR x=>yem t x
 |.dnn a D=>ybt (λR x=>ygn D x ((ch J a).e R)) (λR x=>yeQ D x ((ch J a).e R))
 |.dni a b=>ybt (λR x=>yhC x ((ch J a).e R) ((ch J b).e R)) (λR x=>yeb x ((ch J a).e R) ((ch J b).e R))
 |.srk a=>plain λR x=>ygH x ((ch J a).e R)
 |.dcp a=>plain λR x=>yf8 x ((ch J a).e R)
 |.orv a b=>plain λR x=>ygo x ((ch J a).e R) ((ch J b).e R)
 |.idx a i=>plain λR x=>mIdx x ((ch J a).e R) ((ch J i).e R)
 |.dgt a i=>plain λR x=>yfR x ((ch J a).e R) ((ch J i).e R)
 |.slc a l h=>plain λR x=>yhp x ((ch J a).e R) (λo=>yfp l o ((ch J l).e R)) (λo=>yfp h o ((ch J h).e R))
 |.call f d=>plain λR x=>hf R λh=>yhi h f (chs J d R) x
 |.fst d=>plain λR x=>yg8 (chs J d R) x
 |.inn a b=>ybt (λR x=>ygr x ((ch J a).e R) ((ch J b).e R)) (λR x=>yej x ((ch J a).e R) ((ch J b).e R))
 |.blt b d=>plain λR x=>yf4 b (chs J d R) x
 |.mth k o d=>plain λR x=>ygx k (chs J d R) x ((ch J o).e R)
 |.isi a g=>plain λR x=>yhj g x ((ch J a).e R)
 |.comp j q r c e=>plain λR x=>yd7 j q (chi J r R) (ch J c) (ch J e) x
 |.frz a=>plain λR x=>an ((ch J a).e R x) λh=>ok λm S X G=>zlG (h m S X G)
 |.nope=>plain λR x=>ok λ_ _ _ _=>zj2
 |.dix D a=>plain λR x=>yfL D x ((ch J a).e R)
 |.din a D=>ybt (λR x=>yhg D x ((ch J a).e R)) (λR x=>yeA D x ((ch J a).e R))
 |.fld c a f=>plain λR x=>ygV c f x ((ch J a).e R)
 |.new c i d=>plain λR x=>hf R λh=>ygC h c i (chs J d R) x
 |.mcl c i n o d=>plain λR x=>hf R λh=>yfX h c i n (chs J d R) x ((ch J o).e R)
noncomputable def chs(J:Gs):(a:Ces)->(R:Kx)->Fs J R a
 |.nil,_=>.nil
 |.cons c a,R=>.cons (λx=>(ch J c).e R x) (chs J a R)
noncomputable def chd(J:Gs):(c:Cit)->(R:Kx)->∀b l,Pr (YID J R b l c)
 |.seq a,R=>yeT ((ch J a).e R)
 |.range1 a,R=>yge ((ch J a).e R)
 |_,_=>λ_ _=>AD
noncomputable def chi(J:Gs):(c:Cit)->(R:Kx)->∀d l,Pr (YI J R d l c)
 |.seq a,R=>yhs ((ch J a).e R)
 |.range1 a,R=>iR1 ((ch J a).e R)
 |.chars a,R=>ydi ((ch J a).e R)
 |.enum a,R=>yeS ((ch J a).e R)
 |.zipl a b,R=>yeJ ((ch J a).e R) ((ch J b).e R)
 |.revl a,R=>yel ((ch J a).e R)
 |.revr a,R=>yed ((ch J a).e R)
 |_,_=>λ_ _=>AD
end
section
variable {J:Gs}{R:Kx}{ca cb cc ce:Ce}{ci:Cit}{ct:Tg}{cs cs':Css}{ces:Ces}
def swB(a:B4)(x:AR)(b pos:CK)(sc:B4):Bool:=(if a.kind.isAnnotationScope then FG else a.kind)==.function&&a.names.lookup x==AA .local&&b.line==pos.line&&!(sc.names.any λ(n,k)=>n==x&&(k==.local || k==.cell))
def zpg{a:AZ}{gs:List Comprehension}{sc:B4}{pos b:CK}{x:AR}{l:Nat}{env:BZ}:swapsWith (.ListComp a gs sc pos) (AA (.Name x b)) l env=pure (swB env.scope x b pos sc):=rfl
def yex(f:∀x,Pr (YE J R x ca))(s:CL):Pr (YS J R s (.expr ca)):=
 match s with
 |.Expr a _=>an (ask (nco a=AE)) λb=>an (f a) λh=>ok λm S X G=>zjH (h m S X G) (swp b)
 |_=>AD
def yhD(i:Nat)(f:∀x,Pr (YE J R x ca))(s:CL):Pr (YS J R s (.asg (.n i) ca)):=
 match s with
 |.Assign [.Name x _] a _=>an (ask (nco a=AE/\setB R i x=AE)) λb=>an (f a) λh=>ok λm S X G=>let q:=zX G b.2;znA q.d q.i q.l (h m S X G) (swp b.1) q.f
 |_=>AD
def yec(i:Nat)(sl:List (Option Nat))(ct:Tg)(j:∀a l,Pr (YI J R a l ci))(C:Ev J cc)(E:Ev J ce)(s:CL):Pr (YS J R s (.asg (.n i) (.comp sl ct ci cc ce))):=
 match s with
 |.Assign [.Name x o] (.ListComp b [#[a,r,c,0]] f p) _=>hf R λd=>an (ask (setB R i x=AE/\swB R.sc x o p f=AE)) λg=>an (mCo sl ct j C E b a r c f) λh=>ok λm S X G=>by let#[A,t,u,w,y,z]:=h.q m S X G;have q:=zX G g.1;exact zkN q.d q.i q.l (G.calm d) t h.f u w y z (by rw[zpg,G.sc,g.2]) (fse h.s) q.f
 |_=>AD
def zoX{a:AZ}(h:nst a=AE):(match (generalizing:=false) a with | .Starred _ _=>AE|_=>AC)=false:=by revert h;cases a<;>intro h<;>first|rfl|cases h
def swD(c:B4)(x y:AR)(d f:CK)(a b:AZ):Bool:=(if c.kind.isAnnotationScope then FG else c.kind)==.function&&c.names.lookup x==AA .local&&c.names.lookup y==AA .local&&f.line==d.line&&nst a&&nst b&&!(x==y)&&!(foldedForSure 8 a&&foldedForSure 8 b)&&!(constantsAlone 8 a&&constantsAlone 8 b)
def zph{x y:AR}{c d pt f:CK}{o g:Nat}{a b:AZ}{env:BZ}(h:swD env.scope x y c d a b=AE):
  swappedStores [.Tuple [.Name x c,.Name y d] o pt] (.Tuple [a,b] g f) env=pure (AA [x,y]):=by
 erw[swD,AK,Bp]at h;let#[#[#[#[#[#[#[#[p,q],r],t],u],w],A],j],l]:=h;have k1:(env.blockKind != .function)=false:=by show (!((if env.scope.kind.isAnnotationScope then FG else env.scope.kind)==.function))=AC;rw[p];rfl
 have g:env.kindOf x=AA .local:=eq_of_beq q;have B:env.kindOf y=AA .local:=eq_of_beq r;have k4:d.line=c.line:=eq_of_beq t;have C:¬y=x:=λz=>by subst z;simp at A
 have m:=zoX u;have n:=zoX w;have D:¬(foldedForSure 8 a=AE/\foldedForSure 8 b=AE):=λz=>by rw[z.1,z.2]at j;cases j
 have c9:¬(constantsAlone 8 a=AE/\constantsAlone 8 b=AE):=λz=>by rw[z.1,z.2]at l;cases l
 have E:(Expr.Name x c).pos=c:=rfl;have G:(Expr.Name y d).pos=d:=rfl;unfold swappedStores;simp[k1,m,n,g,B,k4,List.eraseDups_cons,C,E,G,D,c9,CG];intro z;exfalso;rcases z with z|z
 .exact A3 (m.symm.trans z)
 .exact A3 (n.symm.trans z)
def ygh(i j:Nat)(l:∀x,Pr (YE J R x ca))(n:∀x,Pr (YE J R x cb))(s:CL):Pr (YS J R s (.asg (.t [i,j]) (.tup (.cons ca (.cons cb .nil))))):=
 match s with
 |.Assign [.Tuple [.Name x o,.Name y p] _ _] (.Tuple [a,b] _ _) _=>hf R λc=>an (ask (setB R i x=AE/\setB R j y=AE/\i≠j/\swD R.sc x y o p a b=AE)) λh=>an (l a) λu=>an (n b) λw=>ok λm S X G=>by
  let#[z,A,f,g]:=h;have q:=zX G z;have r:=zX G A;have d:=g;erw[swD,AK]at d;have B:X.env.scope.names.lookup x=AA .local:=by rw[G.sc];exact eq_of_beq d.1.1.1.1.1.1.1.2
  have C:X.env.scope.names.lookup y=AA .local:=by rw[G.sc];exact eq_of_beq d.1.1.1.1.1.1.2
  exact zlA (G.calm c) q.d q.i r.i f (zlK (G.calm c) q.d q.i r.i f B C (zas (u m S X G) (zas (w m S X G) zbX (zoB d.1.1.1.2)) (zoB d.1.1.1.1.2)) (zph (by rw[G.sc];exact g)))
 |_=>AD
theorem sw0{es:List AZ}{k:Nat}{p:CK}{a:AZ}{env:BZ}(h:ntu a=AE):swappedStores [.Tuple es k p] a env=pure none:=by cases a<;>first|rfl|cases h
theorem sw1{b c:AZ}{p:CK}{a:AZ}{env:BZ}:swappedStores [.Subscript b c p] a env=pure none:=by cases a<;>rfl
def zoP{t a:AZ}{l:Nat}{env:BZ}(h:nco a=AE):swapsWithSole [t] a l env=pure false:=by show swapsWith a (AA t) l env=_;exact swp h
theorem asS{b c:AZ}{pos:CK}{env:BZ}(h:nsl c=AE):∀v,assign (.Subscript b c pos) env v=(do
   let a <-holding [v] (eval b env)
   let d <-holding [v,a] (eval c env)
   standAt pos
   holding [v,a,d] (setItem a d v)
   release [v,a,d] []):=by cases c<;>first|exact λ_=>rfl|cases h
def yhd(l:List Nat)(f:∀x,Pr (YE J R x ca))(s:CL):Pr (YS J R s (.asg (.t l) ca)):=
 match s with
 |.Assign [.Tuple c k p] a _=>an (ask (nco a=AE/\ntu a=AE)) λb=>an (mTg (J:=J) (R:=R) (.t l) (.Tuple c k p)) λd=>an (f a) λh=>ok λm S X G=>zju (h m S X G) (d m S X G) (zoP b.1) (sw0 b.2)
 |_=>AD
def yhr(f:∀x,Pr (YE J R x cc))(l:∀x,Pr (YE J R x ca))(n:∀x,Pr (YE J R x cb))(s:CL):Pr (YS J R s (.six ca cb cc)):=
 match s with
 |.Assign [.Subscript b c _] a _=>an (ask (nco a=AE/\nsl c=AE)) λd=>an (f a) λh=>an (l b) λg=>an (n c) λj=>ok λm S X G=>zly (h m S X G) (g m S X G) (j m S X G) (zoP d.1) sw1 (zjk (g m S X G) (j m S X G) zdW (asS d.2))
 |_=>AD
def yen(f:∀x,Pr (YE J R x cc))(d:∀x,Pr (YE J R x ca))(g:∀x,Pr (YE J R x cb))(s:CL):Pr (YS J R s (.dput ca cb cc)):=
 match s with
 |.Assign [.Subscript b c _] a _=>an (ask (nco a=AE)) λj=>an (f a) λh=>an (d b) λl=>an (g c) λn=>ok λm S X G=>zkC (zd3 G.room) (l m S X G) (n m S X G) (h m S X G) (swp j)
 |_=>AD
def ygE(a:EV)(o:BOp):Pr (∀S X,PIp X a (rT2 S X (ybA o))):=
 match a,o with
 |.Add,.add=>ok λ_ _=>zj0
 |_,_=>AD
def ygw(i:Nat)(o:BOp)(f:∀x,Pr (YE J R x ca))(s:CL):Pr (YS J R s (.aug i o ca)):=
 match s with
 |.AugAssign (.Name x _) b a _=>an (ask (setB R i x=AE)) λh=>an (ygE b o) λc=>an (f a) λd=>ok λm S X G=>let q:=zX G h;zlN q.d q.i q.l (d m S X G) (c S X) q.f (zoC q.p) (zoV q.p)
 |_=>AD
def ygY(c:Ce)(f:∀x,Pr (YE J R x c))(s:CL):Pr (YS J R s (.ret c)):=
 match s with
 |.Return (AA a) _=>an (f a) λh=>ok λm S X G=>znQ (h m S X G)
 |.Return AD _=>match c with
  |.cst .non=>ok λ_ _ _ _=>zkg
  |_=>AD
 |_=>AD
def sIf(d:∀x,Pr (YT J R x cc))(f:∀x,Pr (YSs J R x cs))(g:∀x,Pr (YSs J R x cs'))(s:CL):Pr (YS J R s (.ite cc cs cs')):=
 match s with
 |.If c a b _=>an (d c) λj=>an (f a) λl=>an (g b) λn=>ok λm S X G=>zov (j m S X G) (l m S X G) (n m S X G)
 |_=>AD
def ygX(ct:Tg)(f:∀a l,Pr (YI J R a l ci))(g:∀x,Pr (YSs J R x cs))(s:CL):Pr (YS J R s (.for ct ci cs)):=
 match s with
 |.For a l b [] _=>hf R λc=>an (ask (R.own=AE/\nse l=AE)) λd=>an (f a l) λj=>an (mTg (J:=J) (R:=R) ct a) λn=>an (g b) λo=>ok λm S X G=>zmI (G.own d.1).1 (G.calm c) (j m S X G) (n m S X G) (o m S X G) (fse d.2)
 |_=>AD
def ygW(i j:Nat)(f:∀x,Pr (YE J R x ca))(s:CL):Pr (YS J R s (.sta i j ca)):=
 match s with
 |.Assign [.Tuple [.Name x _,.Starred (.Name y _) _] _ _] a _=>hf R λc=>an (ask (nco a=AE/\ntu a=AE/\setB R i x=AE/\setB R j y=AE)) λb=>an (f a) λh=>ok λm S X G=>
  let q:=zX G b.2.2.1;let r:=zX G b.2.2.2
  znq (G.calm c) (h m S X G) (zcm q.d q.i q.l (zcm r.d r.i r.l zfH r.f) q.f) (zoP b.1) (sw0 b.2.1)
 |_=>AD
def sWh(a:∀x,Pr (YT J R x cc))(d:∀x,Pr (YSs J R x cs))(s:CL):Pr (YS J R s (.while cc cs)):=
 match s with
 |.While c b [] _=>an (ask (R.own=AE)) λf=>an (a c) λg=>an (d b) λj=>ok λm S X G=>zh4 (G.own f).1 (g m S X G) (j m S X G)
 |_=>AD
def yhk(c:Nat)(f:AR)(j:∀x,Pr (YE J R x ca))(l:∀x,Pr (YE J R x cb))(s:CL):Pr (YS J R s (.sfl c ca f cb)):=
 match s with
 |.Assign [.Attribute a g _] b _=>an (ask (g=f/\J.fl c f=AE/\nco b=AE)) λh=>an (j a) λn=>an (l b) λo=>ok λm S X G=>by let#[rfl,d,p]:=h;exact zlL (G.glo.A c g d).1 (G.glo.A c g d).2 (n m S X G) (o m S X G) (swp p)
 |_=>AD
def yhe(c i:Nat)(f:AR)(j:Int)(l:∀x,Pr (YE J R x (.var i)))(n:∀x,Pr (YE J R x (.cst (.int j))))(s:CL):Pr (YS J R s (.sfl c (.var i) f (.bin .add (.fld c (.var i) f) (.cst (.int j))))):=
 match s with
 |.AugAssign (.Attribute a g _) .Add b _=>an (ask (g=f/\J.fl c f=AE)) λh=>an (l a) λo=>an (n b) λp=>ok λm S X G=>by let#[rfl,d]:=h;exact zl6 (G.glo.A c g d).1 (G.glo.A c g d).2 (o m S X G) (p m S X G)
 |_=>AD
def ygt(c:Nat)(o:Ce)(f:AR)(e:Ce)(O:Ev J o)(E:Ev J e)(s:CL):Pr (YS J R s (.sfl c o f e)):=
 match s with
 |.AugAssign t a b p=>match o,e with
  | .var i,.bin .add (.fld d (.var g) l) (.cst (.int j))=>an (ask (d=c/\g=i/\l=f)) λh=>an (yhe (J:=J) (R:=R) c i f j (λx=>yfA i x) (λx=>yfs (.int j) x) (.AugAssign t a b p)) λq=>ok (by let#[rfl,rfl,rfl]:=h;exact q)
  |_,_=>AD
 |s=>yhk c f (O.e R) (E.e R) s
theorem Good.tb{m:Nat}{S:Se}{X:Cx}(G:Good J R m S X)(a:R.h=AC)(pn:List (AJ×Bw))(P:St->AG->Hp->Prop):Good J #[R.N,R.sc,AC,AC] m S.quiet (yc7 X pn P):=
 #[G.n,G.sc,λ_=>G.calm a,G.room,λ_=>G.hd a,(λh=>nomatch h),(λh=>nomatch h),#[G.glo.F,G.glo.Q,G.glo.C,G.glo.D,G.glo.E,G.glo.N,G.glo.B,G.glo.T,G.glo.A,G.glo.M,λy D h=>let #[c,b,f,M,d]:=G.glo.K y D h;#[c,b,f,#[M.F,M.kp,M.b],d],G.glo.V,G.glo.I,G.glo.L,G.glo.H,G.glo.Z]]
theorem Good.th{m:Nat}{S:Se}{X:Cx}(G:Good J R m S X)(pn:List (AJ×Bw))(a:AJ):Good J #[R.N,R.sc,AC,AE] m S.quiet (cxS X pn a):=
 #[G.n,G.sc,(λh=>nomatch h),G.room.mark,(λh=>nomatch h),(λh=>nomatch h),(λh=>nomatch h),#[G.glo.F,G.glo.Q,G.glo.C,G.glo.D,G.glo.E,G.glo.N,G.glo.B,G.glo.T,G.glo.A,G.glo.M,λy D h=>let #[c,b,f,M,d]:=G.glo.K y D h;#[c,b,f,#[M.F,M.kp,M.b],d],G.glo.V,G.glo.I,G.glo.L,G.glo.H,G.glo.Z]]
def ygM(cs:List Nat)(i:Nat){cb ch:Css}(p:∀s,Pr (YSs J #[R.N,R.sc,AC,AC] s cb))(r:∀s,Pr (YSs J #[R.N,R.sc,AC,AE] s ch))(s:CL):Pr (YS J R s (.try cb cs i ch)):=
 match s with
 |.Try b [.ExceptHandler (AA (.Name x _)) (AA n) (d::suite) _] [] [] _=>hf R λf=>an (ask (R.own=AE/\R.N.Nodup/\R.N[i]?=AA n/\R.sc.names.lookup n=AA .local/\glB R x=AE/\(cs.all λc=>J.xm c x)=AE/\cs≠[])) λh=>an (p b) λt=>an (r (d::suite)) λu=>ok λm S X G=>by
  let#[g,w,y,z,l,j,A]:=h;erw[Ar]at j;obtain⟨W,o⟩:∃W,X.mg x=AA (.ref W):=by
   cases cs with
   |nil=>exact absurd rfl A
   |cons c cs=>let#[W,q,_]:=G.glo.H c x (j c A2);exact#[W,q]
  refine znv (G.top g).1 (G.top g).2.1 (G.top g).2.2 (by rw[G.n];exact w) (by rw[G.n];exact y) (by rw[G.sc];exact z) (zn G l) o (λc B=>?_) (λpn P=>t m _ _ (G.tb f pn P)) (λpn a=>u m _ _ (G.th pn a)) (zoC (zW l));let#[C,q,e]:=G.glo.H c x (j c B);rw[o]at q
  cases q
  exact e
 |_=>AD
end
mutual
noncomputable def chS(J:Gs):(c:Cs)->(R:Kx)->∀s,Pr (YS J R s c)
 |.expr e,R=>yex ((ch J e).e R)
 |.asg (.n i) (.comp d g m p q),R=>yec i d g (chi J m R) (ch J p) (ch J q)
 |.asg (.n i) c,R=>yhD i ((ch J c).e R)
 |.asg (.t [i,j]) (.tup (.cons a (.cons b .nil))),R=>ygh i j ((ch J a).e R) ((ch J b).e R)
 |.asg (.t l) c,R=>yhd l ((ch J c).e R)
 |.six o i e,R=>yhr ((ch J e).e R) ((ch J o).e R) ((ch J i).e R)
 |.dput o i e,R=>yen ((ch J e).e R) ((ch J o).e R) ((ch J i).e R)
 |.aug i o e,R=>ygw i o ((ch J e).e R)
 |.ret e,R=>ygY e ((ch J e).e R)
 |.ite c a b,R=>sIf ((ch J c).t R) (yci J a R) (yci J b R)
 |.for t r b,R=>ygX t (chi J r R) (yci J b R)
 |.sta i j c,R=>ygW i j ((ch J c).e R)
 |.while c b,R=>sWh ((ch J c).t R) (yci J b R)
 |.nope,_=>λ_=>ok λ_ _ _ _=>zle
 |.try b u i h,R=>ygM u i (yci J b #[R.N,R.sc,AC,AC]) (yci J h #[R.N,R.sc,AC,AE])
 |.sfl c o f e,R=>ygt c o f e (ch J o) (ch J e)
noncomputable def yci(J:Gs):(c:Css)->(R:Kx)->∀s,Pr (YSs J R s c)
 |.nil,_,[]=>ok λ_ _ _ _=>zlm
 |.cons c a,R,s::b=>an (chS J c R s) λh=>an (yci J a R b) λd=>ok λm S X G=>zkw (h m S X G) (d m S X G)
 |_,_,_=>AD
end
inductive Dk where
 |fn|fd (ds:List Int)|me (c:Nat)|ini (c:Nat)
structure Df where
 gn:AR
 nm:AR
 q:AR
 st:CL
 N:List AR
 ps:List AR
 fn:IC.Fn
 k:Dk
def scB(N P:List AR)(sc:B4):Bool:=decide (sc.kind=.function)&&!sc.isCoroutine&&!sc.isGenerator&&decide N.Nodup&&decide (N.take P.length=P)&&P.all (ydJ sc)&&sc.names.all λy=>y.2 != .free
def zi7{N P:List AR}{sc:B4}(h:scB N P sc=AE):yaL N P sc:=by erw[scB,AK,decide_eq_true_eq,Bp,Ar,bne_iff_ne,ne_eq]at h;let#[#[#[#[#[#[a,b],c],d],f],g],j]:=h;exact#[a,b,c,d,f,λx l=>zfJ (g x l),j]
def okD(J:Gs)(d:Df):Bool:=scB d.N d.ps (yh d.st)&&decide (d.ps.length=d.fn.np)&&decide (d.N.length=d.fn.ns)&&(yci J d.fn.body #[d.N,yh d.st,AE,AC] (yN d.st)).isSome
def ybM{A:Type}(P:A->Prop):List A->Prop
 |[]=>True
 |d::r=>P d/\ybM P r
theorem ybM.get{A:Type}{P:A->Prop}:∀{l:List A},ybM P l->∀d∈l,P d
 |_::_,h,d,hd=>by
  rcases A8.1 hd with rfl|hd
  .exact h.1
  .exact h.2.get d hd
def ybC:List AR->(List AG->Prop)->Prop
 |[],P=>P []
 |_::r,P=>∀a,ybC r λb=>P (a::b)
theorem ybC.get:∀{c:List AR} {P:List AG->Prop},ybC c P->∀b,b.length=c.length->P b
 |[],P,h,[],_=>h
 |_::r,P,h,a::b,e=>(h a).get b (by simpa using e)
def ya8(d:Df):Prop:=∀(kV doc c:AG) (an:Option AJ) (a f:AG),ybC d.ps λb=>bindArgs (CD d.nm d.q (yan d.st) (yN d.st) (yh d.st) .none kV doc c an a f) #[b,[]]=pure (d.ps.zip b)
structure ycl(K:AF)(d:Df)(dv:AG)(f:AJ)(fd:BF):Prop where
 ex:∃(oc:AG) (od:Option AJ) (kV doc pm:AG) (an:Option AJ) (cdv ct:AG) (osl:Array (Option AG)),
  fd=CD d.nm d.q (yan d.st) (yN d.st) (yh d.st) dv kV doc pm an cdv ct/\K.lookup f=AA #[oc,od,.func fd,osl]/\Cb K cdv d.q=AE
 kp:Ax K (.ref f)=AE
def At(K:AF)(a:Nat->AR)(d:Df)(f:AJ):Prop:=
 match d.k with
 |.fn=>BU K mainGlobals d.gn=AA (AA (.ref f))/\ya8 d
 |.fd _=>BU K mainGlobals d.gn=AA (AA (.ref f))
 |.me c=>ya8 d/\∃q,BU K mainGlobals (a c)=AA (AA (.ref q))/\Ak K (.ref q) d.nm=AA (AA (.ref f))/\DZ K (.ref f)=AE
 |.ini c=>ya8 d/\∃q,BU K mainGlobals (a c)=AA (AA (.ref q))/\Ak K (.ref q) d.nm=AA (AA (.ref f))/\DZ K (.ref f)=AE/\EZ K q=AE/\Ax K (.ref q)=AE
def DvP(K:AF)(d:Df)(dv:AG):Prop:=
 match d.k with
 |.fd c=>∃b o a n,dv=.ref b/\K.lookup b=AA o/\o.data=.seq a n/\Vals (c.map V.int) a.toList
 |_=>dv=.none
def yc1(K:AF)(a:Nat->AR)(d:Df):Prop:=∃dv f b,ycl K d dv f b/\At K a d f/\DvP K d dv
section
variable {K:AF}{cn:Nat->AR}{gn nm:AR}{st:CL}{N ps:List AR}{fn:IC.Fn}{f:AJ}{oc:AG}{od:Option AJ}{kV doc pm:AG}{an:Option AJ}{cdv ct:AG}{osl:Array (Option AG)}
theorem rowFn(a:BU K mainGlobals gn=AA (AA (.ref f)))(l:K.lookup f=AA #[oc,od,.func (CD nm nm (yan st) (yN st) (yh st) .none kV doc pm an cdv ct),osl])
  (c:Cb K cdv nm=AE) (p:Ax K (.ref f)=AE) (b:ya8 #[gn,nm,nm,st,N,ps,fn,.fn]):yc1 K cn #[gn,nm,nm,st,N,ps,fn,.fn]:=
 #[.none,f,_,#[#[oc,od,kV,doc,pm,an,cdv,ct,osl,rfl,l,c],p],#[a,b],rfl]
theorem rowFd{j:List Int}{g:AJ}{o:Bw}{b:Array AG}{n:Nat}(a:BU K mainGlobals gn=AA (AA (.ref f)))(l:K.lookup f=AA #[oc,od,.func (CD nm nm (yan st) (yN st) (yh st) (.ref g) kV doc pm an cdv ct),osl])
  (c:Cb K cdv nm=AE) (p:Ax K (.ref f)=AE) (d:K.lookup g=AA o) (e:o.data=.seq b n) (v:Vals (j.map V.int) b.toList):yc1 K cn #[gn,nm,nm,st,N,ps,fn,.fd j]:=
 #[.ref g,f,_,#[#[oc,od,kV,doc,pm,an,cdv,ct,osl,rfl,l,c],p],a,g,o,b,n,rfl,d,e,v]
theorem rowMe{d:AR}{g:Nat}{q:AJ}(z:BU K mainGlobals (cn g)=AA (AA (.ref q)))(a:Ak K (.ref q) nm=AA (AA (.ref f)))(i:DZ K (.ref f)=AE)(l:K.lookup f=AA #[oc,od,.func (CD nm d (yan st) (yN st) (yh st) .none kV doc pm an cdv ct),osl])
  (c:Cb K cdv d=AE) (p:Ax K (.ref f)=AE) (b:ya8 #[gn,nm,d,st,N,ps,fn,.me g]):yc1 K cn #[gn,nm,d,st,N,ps,fn,.me g]:=
 #[.none,f,_,#[#[oc,od,kV,doc,pm,an,cdv,ct,osl,rfl,l,c],p],#[b,q,z,a,i],rfl]
theorem rowIni{d:AR}{g:Nat}{q:AJ}(z:BU K mainGlobals (cn g)=AA (AA (.ref q)))(a:Ak K (.ref q) nm=AA (AA (.ref f)))(i:DZ K (.ref f)=AE)(l:K.lookup f=AA #[oc,od,.func (CD nm d (yan st) (yN st) (yh st) .none kV doc pm an cdv ct),osl])
  (c:Cb K cdv d=AE) (p:Ax K (.ref f)=AE) (b:ya8 #[gn,nm,d,st,N,ps,fn,.ini g]) (j:EZ K q=AE) (m:Ax K (.ref q)=AE):yc1 K cn #[gn,nm,d,st,N,ps,fn,.ini g]:=
 #[.none,f,_,#[#[oc,od,kV,doc,pm,an,cdv,ct,osl,rfl,l,c],p],#[b,q,z,a,i,j,m],rfl]
theorem gdf_mk{w:Ah}{h:Au}{b:AR->Option AG}{x:AR}{D:List (AR×Nat)}{c:Nat->AJ}{y:AJ}{es:Array C7}{d:Nat}(X:K.In h)(G:h.Ns mainGlobals b)(a:BU K mainGlobals x=AA (AA (.ref y)))(l:K.lookup y=AA #[.type "dict",AD,.dict es d,(List.toArray [])])
  (r:ycf w c D es.toList) (n:(D.map (·.1)).Nodup):GDF K w b c x D:=#[y,es,d,F7 X G a,l,r,n]
theorem gd_mk{w:Ah}{h:Au}{b:AR->Option AG}{x:AR}{D:List (AR×PV)}{c:Nat->AJ}{y:AJ}{es:Array C7}{d:Nat}(X:K.In h)(G:h.Ns mainGlobals b)(a:BU K mainGlobals x=AA (AA (.ref y)))(l:K.lookup y=AA #[.type "dict",AD,.dict es d,(List.toArray [])])
  (s:(y==sysModules)=AC) (r:ycb K c w D es.toList) (n:(D.map (·.1)).Nodup):GD K w b c x D:=#[y,es,d,F7 X G a,l,s,r,n]
end
abbrev KoV(K:AF)(v:PV)(u:AG):Prop:=∃x:V,RelV x u/\∀a B A H,yd K a B A H v x
abbrev KoL(K:AF)(vs:List PV)(us:List AG):Prop:=∃a:List V,Vals a us/\∀b B A H,ye K b B A H vs a
mutual
noncomputable def yeN(K:AF):(v:PV)->(u:AG)->Pr (KoV K v u)
 |.int i,.int j t=>an (ask (i=j)) λh=>ok #[.int i,#[t,by rw[h]],λ_ _ _ _=>by erw[yd]]
 |.str i,.str j t=>an (ask (i=j)) λh=>ok #[.str i,#[t,by rw[h]],λ_ _ _ _=>by erw[yd]]
 |.tp AE d,.ref a=>match h:K.lookup a with
  |some #[c,_,.seq b n,_]=>an (ask (c=.type "tuple"/\b.size<=sizeLine)) λq=>an (ydf K d b.toList) λr=>ok (by let#[f,g,l]:=r;refine#[.ref a,rfl,λm B A H=>?_];erw[yd];exact#[a,f,rfl,.inr #[rfl,_,b,n,h,q.1,rfl,q.2,g],l m B A H])
  |_=>AD
 |_,_=>AD
noncomputable def ydf(K:AF):(vs:List PV)->(us:List AG)->Pr (KoL K vs us)
 |[],[]=>ok #[[],.nil,λ_ _ _ _=>by erw[ye]]
 |v::vs,u::us=>an (yeN K v u) λh=>an (ydf K vs us) λr=>ok (by let#[x,c,d]:=h;let#[a,f,g]:=r;refine#[x::a,.cons c f,λb B A H=>?_];erw[ye];exact#[x,a,rfl,d b B A H,g b B A H])
 |_,_=>AD
end
theorem con_row{K:AF}{a:Nat->AJ}{w:Ah}{k:AR}{v:PV}{b:Hw}{u:AG}{D:List (AR×PV)}{es:List C7}(c:(yeN K v u).isSome=AE)(h:ycb K a w D es):ycb K a w ((k,v)::D) (#[FF w.params k,.str k b,u] :: es):=by let#[#[x,r,q],_]:=Al.1 c;exact .cons r (q a) h
theorem frow_cons{w:Ah}{b:Nat->AJ}{k:AR}{i:Nat}{c:Hw}{a:AJ}{D:List (AR×Nat)}{es:List C7}(e:b i=a)(h:ycf w b D es):ycf w b ((k,i)::D) (#[FF w.params k,.str k c,.ref a] :: es):=by subst e;exact .cons h
structure Tb where
 tbl:List Df
 al:List (AR×GK)
 bs:List AR
 ts:List Ty
 fl:List (Nat×AR)
 me:List ((Nat×AR)×Nat)
 kb:List ((Nat×Nat×List AR)×List (Option Int))
 cn:List (Nat×AR)
 dd:List (AR×List (AR×PV))
 ml:List (AR×List (AR×Nat))
 xs:List (Nat×Ty)
 xc:List (Nat×AR)
 xm:List (Nat×AR)
 qh:List AR
abbrev eF(x:AR)(i:Nat):AR×GK:=(x,.fn i)
abbrev eC(x:AR)(v:PV):AR×GK:=(x,.cst v)
abbrev eG(x:AR)(g:GK):AR×GK:=(x,g)
abbrev eN(c:Nat)(x:AR):Nat×Str:=(c,x)
abbrev eM(c:Nat)(x:AR)(i:Nat):(Nat×AR)×Nat:=((c,x),i)
abbrev eB(x:AR)(d:List (AR×PV)):AR×List (AR×PV):=(x,d)
def tyE:Ty->Ty->Bool
 |.int,.int=>AE
 |.bool,.bool=>AE
 |.str,.str=>AE
 |.tuple,.tuple=>AE
 |.list,.list=>AE
 |_,_=>AC
def zlC{a b:Ty}(h:tyE a b=AE):a=b:=by cases a<;>cases b<;>first|rfl|cases h
def tyX:Ty->Ty->Bool
 |.cls a,.cls b=>a==b
 |.val,.val=>AE
 |_,_=>AC
def zmY{a b:Ty}(h:tyX a b=AE):a=b:=by cases a<;>cases b<;>first|rfl|(cases h;done)|(rw[eq_of_beq (show _=AE from h)])
def Tb.gs(t:Tb):Gs:=#[λx=>t.al.lookup x,λx=>t.bs.contains x,λy=>t.ts.any (tyE y),λc f=>t.fl.contains (c,f),λc n=>t.me.lookup (c,n),λi n a=>t.kb.lookup (i,n,a),λx=>t.ml.lookup x,λx i=>decide (t.cn.lookup (1000+i)=AA x),λc y=>t.xs.any λp=>p.1==c&&tyX p.2 y,λd x=>t.xc.contains (d,x),λc x=>t.xm.contains (c,x),λi=>match t.tbl[i]? with
 |some d=>t.qh.contains d.gn
 |none=>AC]
def nmA(K:AF)(x:AR):Option Addr:=match BU K mainGlobals x with
 |some (AA (.ref q))=>AA q
 |_=>AD
def clA(K:AF)(t:Tb)(c:Nat):Addr:=((t.cn.lookup c).bind (nmA K)).getD 0
def cnm(t:Tb)(c:Nat):Str:=(t.cn.lookup c).getD ""
def faA(K:AF)(t:Tb)(i:Nat):Addr:=match t.tbl[i]? with
 |some d=>match d.k with
  |.fn=>(nmA K d.gn).getD 0
  |.fd _=>(nmA K d.gn).getD 0
  |.me c=>match Ak K (.ref (clA K t c)) d.nm with
   |some (AA (.ref f))=>f
   |_=>0
  |.ini c=>match Ak K (.ref (clA K t c)) d.nm with
   |some (AA (.ref f))=>f
   |_=>0
 |none=>0
def ycB:Dk->Bool
 |.fn=>AE
 |_=>AC
def ye7:Dk->Bool
 |.fd _=>AE
 |_=>AC
def alB(K:AF)(t:Tb):AR×GK->Bool
 |(x,.fn i)=>match t.tbl[i]? with
  |some d=>ycB d.k&&(decide (x=d.gn) || decide (nmA K x=nmA K d.gn))
  |none=>AC
 |(x,.fnD i)=>match t.tbl[i]? with
  |some d=>ye7 d.k&&(decide (x=d.gn) || decide (nmA K x=nmA K d.gn))
  |none=>AC
 |(x,.cst v)=>match BU K mainGlobals x with
  |some (AA u)=>(yeN K v u).isSome
  |_=>AC
 |(x,.dct d)=>t.dd.any λp=>decide (p.1=x)&&(eqD p.2 d).isSome
 |(x,.exc c)=>decide (t.cn.lookup c=AA x)&&(nmA K x).any λq=>Gy K q [.type "ValueError",.type "Exception",.type "BaseException",.type "object"] "ValueError.__new__"
 |(x,.cls c i)=>decide (t.cn.lookup c=AA x)&&(nmA K x).isSome&&match t.tbl[i]? with
  |some d=>match d.k with
   |.ini a=>decide (a=c)&&decide (d.nm="__init__")
   |_=>AC
  |none=>AC
def yfw(K:AF)(t:Ty):Bool:=
 decide (B0 K (.type "NoneType") (.type (tyN t))=AA (ybl .non t))&&decide (B0 K (.type "bool") (.type (tyN t))=AA (ybl (.bl AE) t))&&decide (B0 K (.type "int") (.type (tyN t))=AA (ybl (.int 0) t))&&decide (B0 K (.type "str") (.type (tyN t))=AA (ybl (.str C6) t))&&decide (B0 K (.type "tuple") (.type (tyN t))=AA (ybl (.tp AE []) t))&&decide (B0 K (.type "list") (.type (tyN t))=AA (ybl (.lst []) t))
def ydT(K:AF)(q:AJ):Bool:=DY K q C6&&Dt K q&&FQ K q&&decide (Ak K (.ref q) "__setattr__"=AA (AA (.builtin "object.__setattr__")))
def zhh{K:AF}{q:AJ}(h:ydT K q=AE):Cls K q:=by erw[ydT,AK,decide_eq_true_eq]at h;exact#[h.1.1.1,h.1.1.2,h.1.2,h.2]
def yeV(K:AF)(q:AJ):Bool:=decide (Ak K (.ref q) "__getattribute__"=AA (AA (.builtin "BaseException.__getattribute__")))&&decide (Ak K (.ref q) "__getattr__"=AA AD)&&decide (Ak K (.ref q) "__class__"=AA (AA (.builtin "object.__class__")))&&decide (Ir K (.ref q) (.type "BaseException")=AA AE)&&decide (Is K q (.type "object")=AA AE)&&(Iu K q).isSome
def zkD{K:AF}{q:AJ}(h:yeV K q=AE):yfG K q:=by erw[yeV,AK,decide_eq_true_eq]at h;let#[#[#[#[#[a,b],c],d],f],g]:=h;exact#[a,b,c,d,f,Al.1 g]
def yfd(K:AF)(t:Tb):Bool:=
 t.xs.all (λp=>yeV K (clA K t p.1)&&decide (B0 K (.ref (clA K t p.1)) (tyZ (clA K t) p.2)=AA (ybl (.exn p.1) p.2))) &&
  t.xc.all (λp=>decide (t.cn.lookup p.1=AA p.2)&&(nmA K p.2).isSome) &&
  t.xm.all λp=>(nmA K p.2).any λW=>decide (FB K (.ref (clA K t p.1)) (.ref W)=AA AE)
def yc9(K:AF)(t:Tb):Bool:=
 t.al.all (alB K t)&&t.bs.all (λx=>decide (BU K mainGlobals x=AA AD))&&t.ts.all (yfw K) &&
  t.fl.all (λp=>(t.cn.lookup p.1).isSome&&(nmA K (cnm t p.1)).any λq=>ydT K q&&decide (Ak K (.ref q) p.2=AA AD)) &&
  t.me.all (λp=>(t.cn.lookup p.1.1).isSome&&(nmA K (cnm t p.1.1)).any λq=>ydT K q&&match t.tbl[p.2]? with
   |some d=>(match d.k with
    |.me c=>decide (c=p.1.1)
    |_=>AC)&&decide (d.nm=p.1.2)
   |none=>AC) &&
  t.ml.all λp=>p.2.all λq=>match t.tbl[q.2]? with
   |some d=>ycB d.k
   |none=>AC
def ye4(K:AF)(t:Tb):Bool:=yc9 K t&&yfd K t
def fd0:FuncData:=CD "" "" (yan (.Pass #[0,0,0,0])) [] (yh (.Pass #[0,0,0,0])) .none .none .none .none AD .none .none
def fdA(K:AF)(t:Tb)(i:Nat):FuncData:=match K.lookup (faA K t i)with
 |some #[_,_,.func a,_]=>a
 |_=>fd0
def psA(t:Tb)(i:Nat):List Str:=match t.tbl[i]? with
 |some d=>d.ps
 |none=>[]
theorem lkm{A B:Type}[BEq A][LawfulBEq A]{x:A}{k:B}:∀{l:List (A×B)},l.lookup x=AA k->(x,k)∈l
 |[],h=>nomatch h
 |y::l,h=>by
  rw[Bz]at h
  cases a:x==y.1 with
  |true=>rw[a]at h;cases h;rw[eq_of_beq a];exact A2
  |false=>rw[a]at h;exact AS _ (lkm h)
def KbP(t:Tb)(p:(Nat×Nat×List AR)×List (Option Int)):Prop:=∀d a,t.tbl[p.1.1]?=AA d->d.k=.fd a->∀(K:AF) (c:AR->Option AG) (f:AJ) (b:BF),FnD K c d.nm d.st d.ps a f b->∃g,ybY K b d.ps p.1.2.2 g (gK p.1.2.1 p.2)
structure Fact(t:Tb)(w:Ah)(K:AF)(mg:AR->Option AG):Prop where
 X:∀x u,BU K mainGlobals x=AA u->mg x=u
 R:ybM (yc1 K (cnm t)) t.tbl
 B:ye4 K t=AE
 D:ybM (λp=>∀cl,GD K w mg cl p.1 p.2) t.dd
 Kb:ybM (KbP t) t.kb
 Ml:ybM (λp=>GDF K w mg (faA K t) p.1 p.2) t.ml
def zlP{K:AF}{x:AR}{q:AJ}(h:nmA K x=AA q):BU K mainGlobals x=AA (AA (.ref q)):=by
 unfold nmA at h;split at h
 .cases h;assumption
 .cases h
def zaq{K:AF}{x:AR}{q:AJ}(h:BU K mainGlobals x=AA (AA (.ref q))):nmA K x=AA q:=by erw[nmA,h]
def zew{K:AF}{t:Tb}{c:Nat}{q:AJ}(h:nmA K (cnm t c)=AA q)(a:(t.cn.lookup c).isSome=AE):clA K t c=q:=by let#[x,e]:=Al.1 a;erw[clA,e,BI];erw[cnm,e,B7]at h;rw[h];rfl
def okH(t:Tb)(d:Df):Bool:=(yci t.gs d.fn.body #[d.N,yh d.st,AC,AE] (yN d.st)).isSome&&!d.fn.pure&&ycB d.k
def okT(t:Tb)(d:Df):Bool:=okD t.gs d&&(!t.qh.contains d.gn || okH t d)&&match d.k with
 |.fn=>AE
 |.fd _=>decide (d.q=d.nm)
 |.me c=>(t.cn.lookup c).isSome
 |.ini c=>(t.cn.lookup c).isSome&&decide (d.nm="__init__")
section
variable {t:Tb}{w:Ah}{K:AF}{mg:AR->Option AG}{T:Nat->Option IC.Fn}{P:A6}{base:Au}{k:Nat}
def za1(F:Fact t w K mg)(O:∀d∈t.tbl,okT t d=AE){i:Nat}{d:Df}(h:t.tbl[i]?=AA d):∃dv fd,ycl K d dv (faA K t i) fd/\At K (cnm t) d (faA K t i)/\DvP K d dv:=by
 have j:=A9 h;let#[dv,f,fd,l,a,m]:=F.R.get d j;have e:f=faA K t i:=by
  have o:=O d j;erw[okT,AK]at o;have o:=o.2;erw[faA,h];unfold At at a
  cases q:d.k with
  |fn=>
   rw[q]at a;erw[zaq a.1,B7]
  |fd p=>
   rw[q]at a;have a:BU K mainGlobals d.gn=AA (AA (.ref f)):=a;erw[zaq a,B7]
  |me c=>
   rw[q]at a o;let#[_,n,b,g,_]:=a;erw[zew (zaq b) o,g]
  |ini c=>
   rw[q]at a o;let#[_,n,b,g,_]:=a;erw[AK]at o;erw[zew (zaq b) o.1,g]
 subst e;exact#[dv,fd,l,a,m]
theorem ycl.binds{d:Df}{f:AJ}{c:BF}(R:ycl K d .none f c)(b:ya8 d):Binds K c d.ps []:=
 Fun.binds #[R.ex,R.kp] λkV doc g an a j l m=>(b kV doc g an a j).get l m
theorem ycl.ok{d:Df}{dv:AG}{f:AJ}{j:BF}{l m:Nat}{n:Nat->AJ}(R:ycl K d dv f j)(o:T l=AA d.fn)(p:yaL d.N d.ps (yh d.st))(b:d.ps.length=d.fn.np)(c:d.N.length=d.fn.ns)
  (a:∀(cdv:AG) (A:Ai) (outer:List BZ) (s:AH) (H:Hp) (E:XK),yaA m (A.deeper (envOfC d.q (yh d.st) s.heap.objs.size f cdv)) ->
   PSs (yaU (CX1 P w) P w K mg base d.N d.q (yh d.st) f cdv A outer s H E) (yN d.st) (tSs #[n,yc T k,AE] (yaU (CX1 P w) P w K mg base d.N d.q (yh d.st) f cdv A outer s H E) d.fn.body)):
  yaK P w K mg base (CX1 P w) (m+1) f j d.ps (spI K n (yc T (k+1)) l):=by let#[x,y,kV,doc,z,an,cdv,B,q,rfl,r,g]:=R.ex;exact zn2 r g p (λt H Q E h=>zi6 o b h) λA outer s H t Q E u h=>#[_,a cdv A outer s H E u,zjO o c h]
def Fn2(t:Tb)(P:A6)(w:Ah)(K:AF)(mg:AR->Option AG)(base:Au)(T:Nat->Option IC.Fn)(k:Nat):Prop:=
 ∀i d dv a,t.tbl[i]?=AA d->ycl K d dv (faA K t i) a->yaK P w K mg base (CX1 P w) (2*k) (faA K t i) a d.ps (spI K (clA K t) (yc T k) i)
def FnH(t:Tb)(P:A6)(w:Ah)(K:AF)(mg:AR->Option AG)(base:Au)(T:Nat->Option IC.Fn)(k:Nat):Prop:=
 ∀i d a,t.tbl[i]?=AA d->t.qh.contains d.gn=AE->ycl K d .none (faA K t i) a->ybP P w K mg base (2*k) (faA K t i) a d.ps (spI K (clA K t) (yc T k) i)
def zey(F:Fact t w K mg)(O:∀d∈t.tbl,okT t d=AE)(C:Fn2 t P w K mg base T k)(CH:FnH t P w K mg base T k){N:List AR}{q:AR}{sc:B4}{f:AJ}{cdv:AG}{A:Ai}{outer:List BZ}{s:AH}{H:Hp}{E:XK}:
  Glo t.gs (2*k) #[clA K t,yc T k,AE] (yaU (CX1 P w) P w K mg base N q sc f cdv A outer s H E):=by
 have B:=F.B;erw[ye4,AK]at B;let#[B,B2]:=B;erw[yc9,AK,Ar]at B;erw[yfd,AK,Ar]at B2;let#[#[#[#[#[b1,b2],b3],b4],b5],b6]:=B;let#[#[b7,b8],b9]:=B2;have U:∀{x:AR} {a:AJ},nmA K x=AA a->mg x=AA (.ref a):=λh=>F.X _ _ (zlP h);have same:∀{x y:AR} {a:AJ},(decide (x=y) || decide (nmA K x=nmA K y))=AE->nmA K y=AA a->nmA K x=AA a:=λ{x y a} h e=>by
  erw[E4,decide_eq_true_eq]at h;rcases h with rfl|h
  .exact e
  .rw[h];exact e
 refine#[λx i h=>?_,λx i np ks sh h I=>?_,λx v h=>?_,λx d h=>?_,λx c h=>?_,λx c i h=>?_,λx h=>?_,λy h=>?_,λc n h=>?_,λc n i h=>?_,λy D h=>?_,λx i h hv=>?_,λc y h=>?_,λd x h=>?_,λc x h=>?_,λx i h hq=>?_]
 .have q:=b1 _ (lkm h);erw[alB]at q;split at q
  .rename_i d m;erw[AK]at q;let#[dv,l,G,L,Q]:=za1 F O m;have I:d.k=.fn:=by cases e:d.k<;>rw[e]at q<;>first|rfl|cases q.1
   erw[At,I]at L;erw[DvP,I]at Q;subst Q;exact#[_,l,d.ps,C i d _ l m G,U (same q.2 (zaq L.1)),G.kp,G.binds L.2]
  .cases q
 .have q:=b1 _ (lkm h);erw[alB]at q;split at q
  .rename_i d m;erw[AK]at q;let#[dv,l,G,L,Q]:=za1 F O m;obtain⟨ds,Z⟩:∃ds,d.k=.fd ds:=by cases e:d.k<;>rw[e]at q<;>first|exact#[_,rfl]|cases q.1
   erw[At,Z]at L;erw[DvP,Z]at Q;let#[dT,o,its,n,rfl,e1,e2,e3]:=Q;have oo:=O d (A9 m);erw[okT,Z,AK,decide_eq_true_eq]at oo;have D:FnD K (λ_=>AA (.ref (faA K t i))) d.nm d.st d.ps ds (faA K t i) l:=by let#[oc,od,kV,doc,pm,an,cdv,ct,osl,z1,z2,z3]:=G.ex;rw[oo.2]at z1 z3;exact#[#[oc,od,dT,kV,doc,pm,an,cdv,ct,osl,o,its,n,z1,z2,z3,e1,e2,e3],G.kp,rfl]
   exact#[_,l,d.ps,C i d _ l m G,U (same q.2 (zaq L)),G.kp,F.Kb.get _ (lkm I) d ds m Z K _ _ _ D]
  .cases q
 .have q:=b1 _ (lkm h);erw[alB]at q;split at q
  .rename_i u hu;let#[#[y,r,z],_]:=Al.1 q;exact#[y,u,F.X _ _ hu,r,λB J H=>z _ B J H]
  .cases q
 .have q:=b1 _ (lkm h);erw[alB,EN,AK,decide_eq_true_eq]at q;let#[p,hp,rfl,q]:=q;let#[#[e],_]:=Al.1 q;rw[<-e];exact F.D.get p hp _
 .have q:=b1 _ (lkm h);erw[alB,AK,decide_eq_true_eq,DW]at q;let#[q1,q2,X]:=q;let#[a,M]:=Al.1 q2;have e:clA K t c=a:=by erw[clA,q1,BI,M,B7]
  erw[M,GP]at X;exact#[by show mg x=AA (.ref (clA K t c));rw[e];exact U M,by show Gy K (clA K t c) _ _=AE;rw[e];exact X]
 .have q:=b1 _ (lkm h);erw[alB,AK,decide_eq_true_eq]at q;let#[#[q1,q2],X]:=q;let#[a,M]:=Al.1 q2;have e:clA K t c=a:=by erw[clA,q1,BI,M,B7]
  split at X
  .rename_i d m
   cases I:d.k with
   |ini c'=>
    rw[I]at X;erw[AK,decide_eq_true_eq]at X;let#[rfl,hn]:=X;let#[dv,l,G,L,Q]:=za1 F O m;erw[At,I]at L;erw[DvP,I]at Q;subst Q;let#[r0,q',r4,r5,r6,r7,r8]:=L;have e2:q'=a:=by have:nmA K (cnm t c')=AA q':=zaq r4;erw[cnm,q1,B7,M]at this;exact(Aa this).symm
    subst e2;rw[hn]at r5;refine#[by show mg x=AA (.ref (clA K t c'));rw[e];exact U M,_,l,d.ps,?_,C i d _ l m G,G.binds r0];show Mk K (clA K t c') _;rw[e];exact#[r7,r5,r6,r8]
   |_=>rw[I]at X;cases X
  .cases X
 .have q:x∈t.bs:=by simpa [Tb.gs] using h
  have:=b2 x q;erw[decide_eq_true_eq]at this;exact F.X _ _ this
 .simp only[Tb.gs,EN]at h;let#[y',hy,e]:=h;have:=zlC e;subst this;have q:=b3 y hy;erw[yfw,AK,decide_eq_true_eq]at q;exact#[q.1.1.1.1.1,q.1.1.1.1.2,q.1.1.1.2,q.1.1.2,q.1.2,q.2]
 .have q:(c,n)∈t.fl:=by simpa [Tb.gs] using h
  have q:=b4 _ q;erw[AK,DW,decide_eq_true_eq]at q;let#[q1,q2,X]:=q;let#[a,M]:=Al.1 q2;erw[M,GP]at X;have e:clA K t c=a:=zew M q1;show Cls K (clA K t c)/\yat K (clA K t c) n;rw[e];exact#[zhh X.1,X.2]
 .have q:=b5 _ (lkm h);erw[AK,DW,decide_eq_true_eq]at q;let#[q1,q2,X,Y]:=q;let#[a,M]:=Al.1 q2;erw[M,GP]at X;have e:clA K t c=a:=zew M q1;split at Y
  .rename_i d m;erw[AK,decide_eq_true_eq]at Y;let#[Y,hn]:=Y
   cases I:d.k with
   |me c'=>
    rw[I]at Y;have Y:c'=c:=by simpa using Y
    subst Y;let#[dv,l,G,L,Q]:=za1 F O m;erw[At,I]at L;erw[DvP,I]at Q;subst Q;let#[r0,q',r4,r5,r6]:=L;have e2:q'=a:=Aa ((zaq r4).symm.trans M);subst e2;refine#[by show Cls K (clA K t c');rw[e];exact zhh X,_,l,d.ps,?_,C i d _ l m G,G.binds r0];show Meth K (clA K t c') n _;rw[e,<-hn];exact#[r5,r6,G.kp]
   |_=>rw[I]at Y;cases Y
  .cases Y
 .have q:=b6 _ (lkm h);have g:∀s j,D.lookup s=AA j->∃d dv l,t.tbl[j]?=AA d/\ycl K d dv (faA K t j) l/\dv=.none/\ya8 d/\l=fdA K t j/\d.ps=psA t j:=λs j hj=>by
   have q:=q _ (lkm hj);split at q
   .rename_i d m;let#[dv,l,G,L,Q]:=za1 F O m;have I:d.k=.fn:=by cases e:d.k<;>rw[e]at q<;>first|rfl|cases q
    erw[At,I]at L;erw[DvP,I]at Q;let#[oc,od,kV,doc,pm,an,cdv,ct,osl,_,lk,_]:=G.ex;exact#[d,dv,l,m,G,Q,L.2,by erw[fdA,lk],by erw[psA,m]]
   .cases q
  refine#[faA K t,fdA K t,psA t,#[λs j hj=>?_,λs j hj=>?_,λs j hj=>?_],F.Ml.get _ (lkm h)]
  .let#[d,dv,l,h1,h2,h3,h4,h5,h6]:=g s j hj;rw[<-h5,<-h6];exact C j d dv l h1 h2
  .let#[d,dv,l,h1,h2,h3,h4,h5,h6]:=g s j hj;exact h2.kp
  .let#[d,dv,l,h1,h2,h3,h4,h5,h6]:=g s j hj;subst h3;rw[<-h5,<-h6];exact h2.binds h4
 .have q:=b1 _ (lkm h);erw[alB]at q;split at q
  .rename_i d m;erw[AK]at q;let#[dv,l,G,L,Q]:=za1 F O m;have I:d.k=.fn:=by cases e:d.k<;>rw[e]at q<;>first|rfl|cases q.1
   erw[At,I]at L;have hn:=same q.2 (zaq L.1);have e:t.cn.lookup (1000+i)=AA x:=of_decide_eq_true hv;have z:clA K t (1000+i)=faA K t i:=by erw[clA,e,BI,hn,B7]
   show mg x=AA (.ref (clA K t (1000+i)));rw[z];exact U hn
  .cases q
 .let#[p,hp,q]:=EN.1 h;erw[AK,beq_iff_eq]at q;let#[rfl,q]:=q;have:=zmY q;subst this;have b:=b7 p hp;erw[decide_eq_true_eq]at b;exact#[zkD b.1,b.2]
 .have b:=b8 _ (GW.1 h);erw[decide_eq_true_eq]at b;let#[a,M]:=Al.1 b.2;have e:clA K t d=a:=by erw[clA,b.1,BI,M,B7]
  show mg x=AA (.ref (clA K t d));rw[e];exact U M
 .have b:=b9 _ (GW.1 h)
  cases M:nmA K x with
  |none=>rw[M]at b;cases b
  |some W=>
   rw[M]at b;exact#[W,U M,of_decide_eq_true b]
 .have q:=b1 _ (lkm h);erw[alB]at q;split at q
  .rename_i d m;erw[AK]at q;let#[dv,l,G,L,Q]:=za1 F O m;have I:d.k=.fn:=by cases e:d.k<;>rw[e]at q<;>first|rfl|cases q.1
   erw[At,I]at L;erw[DvP,I]at Q;subst Q;have hq:t.qh.contains d.gn=true:=by simpa only[Tb.gs,m] using hq
   exact#[_,l,d.ps,CH i d l m hq G,U (same q.2 (zaq L.1)),G.kp,G.binds L.2]
  .cases q
def zfF(F:Fact t w K mg)(O:∀d∈t.tbl,okT t d=AE)(b:∀i d,t.tbl[i]?=AA d->T i=AA d.fn):∀k,Fn2 t P w K mg base T k/\FnH t P w K mg base T k
 |0=>#[λi d dv c _ _=>zhM,λi d c _ _ _=>ziC]
 |k+1=>by
  have ih:=zfF F O b k;refine#[λi d dv c h R=>?_,λi d c h u R=>?_]
  .have o:=O d (A9 h);erw[okT,okD,AK,decide_eq_true_eq]at o;let#[#[#[#[#[g,j],l],x],_],_]:=o;let#[#[y],_]:=Al.1 x;exact R.ok (m:=2*k+1) (b i d h) (zi7 g) j l λ_ _ _ _ _ _ a=>y (2*k) _ _ #[rfl,rfl,λ_=>rfl,a.h,λ_=>a.hd,λ_=>#[own1,λ_=>rfl,rfl],λ_=>#[#[_,rfl],rfl,rfl],zey F O ih.1 ih.2]
  .have o:=O d (A9 h);erw[okT,okD,AK,decide_eq_true_eq]at o;let#[#[#[#[#[g,j],l],_],r],_]:=o;have n:okH t d=true:=by rw[u]at r;simpa using r
   erw[okH,AK,Bp]at n;let#[#[y],_]:=Al.1 n.1.1;refine zm4 (m:=2*k+1) (b i d h) #[R.ex,R.kp] (zi7 g) j l n.1.2 λcdv A outer s H a=>y (2*k) _ _ #[rfl,rfl,(λh=>nomatch h),a,(λh=>nomatch h),(λh=>nomatch h),(λh=>nomatch h),?_];have G:=zey (N:=d.N) (q:=d.q) (sc:=yh d.st) (f:=faA K t i) (cdv:=cdv) (A:=A) (outer:=outer) (s:=s) (H:=H) (E:=E0) F O ih.1 ih.2;exact#[G.F,G.Q,G.C,G.D,G.E,G.N,G.B,G.T,G.A,G.M,λy D h=>let #[z,p,B,M,d]:=G.K y D h;#[z,p,B,#[M.F,M.kp,M.b],d],G.V,G.I,G.L,G.H,G.Z]
def zkv(F:Fact t w K mg)(O:∀d∈t.tbl,okT t d=AE)(a:∀i d,t.tbl[i]?=AA d->T i=AA d.fn)(k:Nat):Fn2 t P w K mg base T k:=(zfF F O a k).1
def yea:Nat->(List AG->Prop)->Prop
 |0,P=>P []
 |n+1,P=>∀a,yea n λb=>P (a::b)
theorem yea.get:∀{n:Nat} {P:List AG->Prop},yea n P->∀b,b.length=n->P b
 |0,P,h,[],_=>h
 |n+1,P,h,a::b,e=>(h a).get b (by simpa using e)
theorem all_mk2{h:Au}{l:AJ}(X:K.In h)(G:h.Ns mainGlobals mg)(f:mg "law"=AA (.ref l))(R:ybM (yc1 K (cnm t)) t.tbl)(B:ye4 K t=AE)(D:ybM (λp=>∀q,GD K w mg q p.1 p.2) t.dd)(r:ybM (KbP t) t.kb)(Ml:ybM (λp=>GDF K w mg (faA K t) p.1 p.2) t.ml)
  (O:t.tbl.all (okT t)=AE) (y:∀i d,t.tbl[i]?=AA d->T i=AA d.fn) {L:Nat} {st:CL} {N:List AR} {z:IC.Fn} (m:t.tbl[L]?=AA #["law","law","law",st,N,["_law_script"],z,.fn]) (a:Nat):
  ∃b:BF,(∀(s:AH) (v:AG),Fz s b #[[v],[]] [("_law_script",v)])/\∀base:Au,K.In base->base.Ns mainGlobals mg->yaK P w K mg base (CX1 P w) (2*a) l b ["_law_script"] (spX K (yc T a) L):=by
 have F:Fact t w K mg:=#[λx u e=>by
  cases u with
  |none=>exact PySem.W.mg_none_of X G e
  |some v=>exact F7 X G e,R,B,D,r,Ml]
 have n:=Ar.1 O;let#[dv,b,o,c,g]:=za1 F n m;have g:dv=.none:=g;subst g;have c:BU K mainGlobals "law"=AA (AA (.ref (faA K t L)))/\ya8 _:=c;have e:=Value.ref.inj (Aa (f.symm.trans (F7 X G c.1)));subst e;refine#[b,λs v=>?_,λbase _ _=>(zkv F n y a L _ _ b m o).imp λ_ _ _ _ h=>h _];let#[H,I,kV,doc,A,an,j,C,E,rfl,_]:=o.ex;exact .of_eq (c.2 kV doc A an j C v)
end
end L2
namespace IC
open PySem
def yfv:PV:=(.tp AE [(.str "show"),(.str "worth"),(.str "sworth"),(.str "drop")])
def ycC:PV:=(.tp AE [(.str "plain"),(.str "signed"),(.str "let"),(.str "rest"),(.str "srest"),(.str "wider"),(.str "swider"),(.str "narrower"),(.str "snarrower")])
def yg9:PV:=(.int 4)
def yhZ:PV:=(.int 60)
def yh0:PV:=(.int 8)
def yha:PV:=(.int 16)
def yhv:PV:=(.int 4)
def yfF:PV:=(.str "none")
def yi:PV:=(.tp AE [(.str "show"),(.str "worth"),(.str "sworth"),(.str "compare"),(.str "rows"),(.str "carries"),(.str "names")])
def ydc:List (AR×PV):=[(AI "plain",(.tp AE [(.str "name"),(.str "whole"),(.str "whole"),(.str "whole")])),(AI "signed",(.tp AE [(.str "name"),(.str "whole"),(.str "whole"),(.str "whole")])),(AI "rest",(.tp AE [(.str "name"),(.str "name"),(.str "name")])),(AI "srest",(.tp AE [(.str "name"),(.str "name"),(.str "name")])),(AI "wider",(.tp AE [(.str "name"),(.str "name"),(.str "whole")])),(AI "swider",(.tp AE [(.str "name"),(.str "name"),(.str "whole")])),(AI "narrower",(.tp AE [(.str "name"),(.str "name"),(.str "whole")])),(AI "snarrower",(.tp AE [(.str "name"),(.str "name"),(.str "whole")])),(AI "drop",(.tp AE [(.str "name")])),(AI "undo",(.tp AE [])),(AI "redo",(.tp AE [])),(AI "show",(.tp AE [(.str "name")])),(AI "worth",(.tp AE [(.str "name")])),(AI "sworth",(.tp AE [(.str "name")])),(AI "compare",(.tp AE [(.str "name"),(.str "name")])),(AI "carries",(.tp AE [(.str "name"),(.str "name")])),(AI "names",(.tp AE []))]
def yet:List (AR×PV):=[(AI "wider",(.tp AE [(.str "plain"),(.int 1)])),(AI "swider",(.tp AE [(.str "signed"),(.int 1)])),(AI "narrower",(.tp AE [(.str "plain"),(.int (-1))])),(AI "snarrower",(.tp AE [(.str "signed"),(.int (-1))]))]
section zq
local macro_rules|`(#[$x,*])=>do
 let mut a←`(.e)
 for y in x.getElems.reverse do a←`(.k $y $a)
 pure a
def yar:Fn:=⟨1,3,AE,#[.sta 1 2 (.mth .split (.v 0) #[.s " "]),.ite (.cmp .eq (.v 1) (.s "let")) #[.nope] .e,.ite (.cmp .eq (.v 1) (.s "rows")) #[.nope] .e,.ite (.dnn (.v 1) ydc) #[.nope] .e,.ret (.bin .add (.tup #[.v 1]) (.call 2 #[.dix ydc (.v 1),.v 2]))]⟩
def yu:Fn:=⟨1,2,AE,#[.asg (.n 1) (.blt .tuple #[.comp [AD] (.n 0) (.seq (.slc (.v 0) (.i 1) (.cst .non))) (.isi (.v 0) [.str]) (.v 0)]),.ret (.ite (.cmp .isin (.idx (.v 0) (.i 0)) (.cst ycC)) (.slc (.v 1) (.i 1) (.cst .non)) (.v 1))]⟩
def yK:Fn:=⟨2,2,AE,#[.ite (.cmp .ne (.blt .len #[.v 1]) (.blt .len #[.v 0])) #[.nope] .e,.ret (.blt .tuple #[.comp [AD,AD] (.t [0,1]) (.zipl (.v 0) (.v 1)) (.cst (.bl AE)) (.call 3 #[.v 0,.v 1])])]⟩
def yS:Fn:=⟨2,2,AE,#[.ite (.cmp .eq (.v 0) (.s "name")) #[.ite (.not (.call 4 #[.v 1])) #[.nope] .e,.ret (.v 1)] .e,.ite (.not (.call 5 #[.v 1])) #[.nope] .e,.ret (.blt .int #[.v 1])]⟩
def yaI:Fn:=⟨1,1,AE,#[.ret (.and (.chain .le .le (.i 1) (.blt .len #[.v 0]) (.cst yh0)) (.blt .all #[.comp [AD] (.n 0) (.chars (.v 0)) (.cst (.bl AE)) (.chain .le .le (.s "a") (.v 0) (.s "z"))]))]⟩
def yE:Fn:=⟨1,2,AE,#[.ite (.cmp .eq (.v 0) (.s "0")) #[.ret (.cst (.bl AE))] .e,.asg (.n 1) (.mth .rmp (.v 0) #[.s "-"]),.ite (.or (.not (.chain .le .le (.i 1) (.blt .len #[.v 1]) (.cst yhZ))) (.cmp .eq (.idx (.v 1) (.i 0)) (.s "0"))) #[.nope] .e,.ret (.blt .all #[.comp [AD] (.n 0) (.chars (.v 1)) (.cst (.bl AE)) (.chain .le .le (.s "0") (.v 0) (.s "9"))])]⟩
def yt:Fn:=⟨2,3,AC,#[.for (.n 2) (.seq (.call 1 #[.v 0])) #[.ite (.dni (.v 2) (.v 1)) #[.nope] .e],.expr (.call 7 #[.v 0,.v 1]),.ite (.cmp .notin (.idx (.v 0) (.i 0)) (.cst yfv)) #[.expr (.call 9 #[.comp [AD,AA 1] (.n 0) (.seq (.call 1 #[.v 0])) (.cst (.bl AE)) (.dgt (.v 1) (.v 0))])] .e]⟩
def yx:Fn:=⟨2,2,AC,#[.ite (.din (.idx (.v 0) (.i 0)) yet) #[.nope] .e,.ite (.cmp .isin (.idx (.v 0) (.i 0)) (.tup #[.s "plain",.s "signed",.s "rows"])) #[.expr (.call 8 #[.idx (.v 0) (.i 2),.idx (.v 0) (.i 3)])] .e,.ite (.cmp .eq (.idx (.v 0) (.i 0)) (.s "let")) #[.nope] .e,.ite (.cmp .eq (.idx (.v 0) (.i 0)) (.s "rows")) #[.nope] .e]⟩
def yV:Fn:=⟨2,2,AE,#[.ite (.or (.not (.chain .le .le (.cst yg9) (.v 0) (.cst yha))) (.not (.chain .le .le (.i 1) (.v 1) (.cst yhv)))) #[.nope] .e]⟩
def yaq:Fn:=⟨1,4,AE,#[.asg (.n 1) (.comp [AD,AD] (.t [0,1]) (.seq (.v 0)) (.cst (.bl AE)) (.tup #[.v 0,.blt .len #[.v 1]])),.for (.t [2,3]) (.seq (.v 1)) #[.nope]]⟩
def ye3:Fn:=⟨3,3,AE,#[.ite (.or (.cmp .lt (.v 0) (.i 0)) (.cmp .ge (.v 0) (.bin .shl (.i 1) (.bin .mul (.v 1) (.v 2))))) #[.nope] .e,.ret (.call 15 #[.v 0,.v 1,.v 2])]⟩
def yl:Fn:=⟨3,4,AE,#[.asg (.n 3) (.bin .shl (.i 1) (.bin .sub (.bin .mul (.v 1) (.v 2)) (.i 1))),.ite (.or (.cmp .lt (.v 0) (.neg (.v 3))) (.cmp .ge (.v 0) (.v 3))) #[.nope] .e,.ret (.call 15 #[.v 0,.v 1,.v 2])]⟩
def ydr:Fn:=⟨2,2,AE,#[.ret (.blt .sum #[.comp [AD,AD,AA 1] (.t [0,1]) (.enum (.v 0)) (.cst (.bl AE)) (.bin .shl (.v 1) (.bin .mul (.v 2) (.v 0)))])]⟩
def ydx:Fn:=⟨2,2,AE,#[.ret (.bin .sub (.call 12 #[.v 0,.v 1]) (.bin .shl (.call 14 #[.v 0,.v 1]) (.bin .mul (.v 1) (.blt .len #[.v 0]))))]⟩
def ye9:Fn:=⟨2,2,AE,#[.ret (.bin .shr (.idx (.v 0) (.neg (.i 1))) (.bin .sub (.v 1) (.i 1)))]⟩
def ym:Fn:=⟨3,4,AE,#[.asg (.n 3) (.bin .sub (.bin .shl (.i 1) (.v 1)) (.i 1)),.ret (.blt .tuple #[.comp [AD,AA 3,AA 0,AA 1] (.n 0) (.range1 (.v 2)) (.cst (.bl AE)) (.bin .band (.bin .shr (.v 2) (.bin .mul (.v 3) (.v 0))) (.v 1))])]⟩
def ya7:Fn:=⟨2,2,AE,#[.ret (.mth .join (.s " ") #[.comp [AD,AA 1] (.n 0) (.revl (.v 0)) (.cst (.bl AE)) (.call 17 #[.v 0,.v 1])])]⟩
def yai:Fn:=⟨2,2,AE,#[.ret (.mth .join (.s "") #[.comp [AD,AA 0] (.n 0) (.revr (.v 1)) (.cst (.bl AE)) (.blt .str #[.bin .band (.bin .shr (.v 1) (.v 0)) (.i 1)])])]⟩
def yO:Fn:=⟨1,1,AC,#[.sfl 21 (.v 0) (AI "numbers") (.dict0 AC),.sfl 21 (.v 0) (AI "earlier") (.newl .e),.sfl 21 (.v 0) (AI "later") (.newl .e)]⟩
def yF:Fn:=⟨2,7,AC,#[.asg (.n 2) (.call 0 #[.v 1]),.expr (.call 6 #[.v 2,.fld 21 (.v 0) (AI "numbers")]),.ite (.cmp .isin (.idx (.v 2) (.i 0)) (.cst yi)) #[.ret (.call 23 #[.v 2,.fld 21 (.v 0) (AI "numbers")])] .e,.ite (.cmp .eq (.idx (.v 2) (.i 0)) (.s "undo")) #[.nope] .e,.ite (.cmp .eq (.idx (.v 2) (.i 0)) (.s "redo")) #[.nope] .e,.ite (.cmp .eq (.idx (.v 2) (.i 0)) (.s "drop")) #[.nope] .e,.asg (.t [3,4,5]) (.call 21 #[.v 2,.fld 21 (.v 0) (AI "numbers")]),.asg (.n 6) (.dcp (.fld 21 (.v 0) (AI "numbers"))),.dput (.v 6) (.idx (.v 2) (.i 1)) (.tup #[.v 3,.v 4]),.expr (.mcl 21 20 (AI "keep") (.v 0) #[.v 6]),.ret (.v 5)]⟩
def yap:Fn:=⟨2,2,AC,#[.expr (.mth .append (.fld 21 (.v 0) (AI "earlier")) #[.fld 21 (.v 0) (AI "numbers")]),.sfl 21 (.v 0) (AI "later") (.newl .e),.sfl 21 (.v 0) (AI "numbers") (.v 1)]⟩
def yaN:Fn:=⟨2,9,AC,#[.ite (.cmp .eq (.idx (.v 0) (.i 0)) (.s "plain")) #[.ret (.call 22 #[.idx (.v 0) (.i 2),.call 10 #[.idx (.v 0) (.i 4),.idx (.v 0) (.i 2),.idx (.v 0) (.i 3)]])] .e,.ite (.cmp .eq (.idx (.v 0) (.i 0)) (.s "signed")) #[.ret (.call 22 #[.idx (.v 0) (.i 2),.call 11 #[.idx (.v 0) (.i 4),.idx (.v 0) (.i 2),.idx (.v 0) (.i 3)]])] .e,.nope,.nope,.nope,.nope,.nope]⟩
def yaF:Fn:=⟨2,2,AE,#[.ret (.tup #[.v 0,.v 1,.call 16 #[.v 1,.v 0]])]⟩
def yL:Fn:=⟨2,7,AC,#[.ite (.cmp .eq (.idx (.v 0) (.i 0)) (.s "names")) #[.ret (.call 24 #[.srk (.v 1)])] .e,.ite (.cmp .eq (.idx (.v 0) (.i 0)) (.s "rows")) #[.nope] .e,.asg (.n 2) (.comp [AD,AA 1] (.n 0) (.seq (.call 1 #[.v 0])) (.cst (.bl AE)) (.dgt (.v 1) (.v 0))),.asg (.t [3,4]) (.idx (.v 2) (.i 0)),.ite (.cmp .eq (.idx (.v 0) (.i 0)) (.s "show")) #[.ret (.call 16 #[.v 4,.v 3])] .e,.ite (.cmp .eq (.idx (.v 0) (.i 0)) (.s "worth")) #[.ret (.blt .str #[.call 12 #[.v 4,.v 3]])] .e,.ite (.cmp .eq (.idx (.v 0) (.i 0)) (.s "sworth")) #[.ret (.blt .str #[.call 13 #[.v 4,.v 3]])] .e,.nope,.nope,.nope]⟩
def yaH:Fn:=⟨1,1,AE,#[.ret (.ite (.cmp .gt (.blt .len #[.v 0]) (.i 0)) (.mth .join (.s " ") #[.v 0]) (.cst yfF))]⟩
def yfc:Fn:=⟨1,1,AC,#[.ret (.newl #[.slc (.v 0) (.cst .non) (.i 63),.i 0,.i 0,.cst (.bl AC)])]⟩
def yaB:Fn:=⟨1,8,AE,#[.asg (.n 1) (.tup #[.i 2147483647,.i 2147483629,.i 2147483587,.i 2147483579,.i 2147483563]),.asg (.n 2) (.i 0),.for (.t [3,4]) (.enum (.v 1)) #[.asg (.n 5) (.bin .add (.v 0) (.idx (.tup #[.i 11,.i 101,.i 1009,.i 10007,.i 100003]) (.v 3))),.asg (.n 5) (.bin .mod (.bin .mul (.v 5) (.bin .add (.i 48271) (.bin .mul (.i 2) (.v 3)))) (.v 4)),.asg (.n 6) (.bin .mod (.bin .mul (.v 5) (.v 5)) (.v 4)),.asg (.n 7) (.bin .mod (.bin .mul (.bin .mod (.bin .mul (.v 6) (.v 6)) (.v 4)) (.v 5)) (.v 4)),.asg (.n 2) (.bin .add (.bin .mul (.v 2) (.v 4)) (.v 7))],.ret (.v 2)]⟩
def yad:Fn:=⟨1,4,AC,#[.asg (.t [1,2]) (.tup #[.idx (.v 0) (.i 0),.idx (.v 0) (.i 1)]),.asg (.n 3) (.bin .add (.bin .mul (.i 31) (.v 2)) (.i 7)),.ite (.cmp .gt (.blt .len #[.v 1]) (.i 0)) #[.asg (.n 3) (.bin .mul (.i 104729) (.bin .fdiv (.v 2) (.blt .len #[.v 1]))),.asg (.n 3) (.bin .add (.v 3) (.idx (.v 1) (.bin .mod (.v 2) (.blt .len #[.v 1]))))] .e,.six (.v 0) (.i 1) (.bin .add (.v 2) (.i 1)),.six (.v 0) (.i 3) (.or (.cmp .ge (.v 2) (.blt .len #[.v 1])) (.cmp .lt (.v 3) (.bin .pow (.i 10) (.i 18)))),.ite (.idx (.v 0) (.i 3)) #[.six (.v 0) (.i 2) (.call 26 #[.v 3])] #[.six (.v 0) (.i 2) (.bin .sub (.v 3) (.bin .pow (.i 10) (.i 18)))]]⟩
def yR:Fn:=⟨2,4,AC,#[.asg (.n 2) (.i 0),.while (.and (.cmp .lt (.v 2) (.i 64)) (.or (.cmp .eq (.idx (.v 0) (.i 2)) (.i 0)) (.and (.idx (.v 0) (.i 3)) (.cmp .lt (.idx (.v 0) (.i 2)) (.bin .mul (.v 1) (.i 4096)))))) #[.expr (.call 27 #[.v 0]),.aug 2 .add (.i 1),.ite (.and (.idx (.v 0) (.i 3)) (.cmp .lt (.idx (.v 0) (.i 2)) (.bin .mul (.v 1) (.i 4096)))) #[.six (.v 0) (.i 2) (.bin .add (.idx (.v 0) (.i 2)) (.bin .mul (.bin .mul (.v 1) (.i 4096)) (.bin .add (.i 1) (.bin .mod (.idx (.v 0) (.i 2)) (.i 4093)))))] .e],.asg (.n 3) (.bin .mod (.idx (.v 0) (.i 2)) (.v 1)),.six (.v 0) (.i 2) (.bin .fdiv (.idx (.v 0) (.i 2)) (.v 1)),.ret (.v 3)]⟩
def yfj:Fn:=⟨2,2,AC,#[.ret (.tup #[.bin .add (.i 4) (.call 28 #[.v 0,.i 13]),.bin .add (.i 1) (.call 28 #[.v 0,.v 1])])]⟩
def yp:Fn:=⟨3,13,AC,#[.asg (.n 3) (.call 28 #[.v 0,.i 12]),.asg (.n 4) (.i 1),.for (.n 5) (.range1 (.bin .mul (.v 1) (.v 2))) #[.asg (.n 4) (.bin .mul (.i 2) (.v 4))],.asg (.n 6) (.tup #[.i 0,.i 1,.bin .sub (.v 4) (.i 1),.bin .fdiv (.v 4) (.i 2),.bin .sub (.bin .fdiv (.v 4) (.i 2)) (.i 1),.bin .sub (.v 4) (.i 2)]),.ite (.cmp .lt (.v 3) (.i 6)) #[.ret (.idx (.v 6) (.v 3))] .e,.asg (.n 7) (.call 28 #[.v 0,.v 4]),.ite (.cmp .eq (.v 3) (.i 6)) #[.asg (.n 8) (.i 1),.for (.n 5) (.range1 (.call 28 #[.v 0,.bin .mul (.v 1) (.v 2)])) #[.asg (.n 8) (.bin .mul (.i 2) (.v 8))],.ret (.bin .mul (.bin .fdiv (.v 7) (.v 8)) (.v 8))] .e,.ite (.cmp .eq (.v 3) (.i 7)) #[.asg (.n 8) (.i 1),.for (.n 5) (.range1 (.call 28 #[.v 0,.bin .mul (.v 1) (.v 2)])) #[.asg (.n 8) (.bin .mul (.i 2) (.v 8))],.ret (.bin .sub (.v 4) (.v 8))] .e,.ite (.cmp .gt (.v 3) (.i 9)) #[.ret (.v 7)] .e,.asg (.n 9) (.i 1),.for (.n 5) (.range1 (.v 1)) #[.asg (.n 9) (.bin .mul (.i 2) (.v 9))],.asg (.n 10) (.i 0),.for (.n 5) (.range1 (.v 2)) #[.asg (.n 11) (.bin .mod (.bin .fdiv (.v 7) (.bin .add (.v 5) (.i 1))) (.v 9)),.asg (.n 12) (.tup #[.i 0,.i 1,.bin .sub (.v 9) (.i 1),.bin .fdiv (.v 9) (.i 2),.v 11]),.asg (.n 10) (.bin .add (.bin .mul (.v 10) (.v 9)) (.idx (.v 12) (.call 28 #[.v 0,.i 5])))],.ret (.v 10)]⟩
def yfn:Fn:=⟨1,3,AE,#[.asg (.n 1) (.i 1),.for (.n 2) (.range1 (.v 0)) #[.asg (.n 1) (.bin .mul (.i 2) (.v 1))],.ret (.v 1)]⟩
def yaj:Fn:=⟨3,6,AE,#[.asg (.n 3) (.call 31 #[.v 1]),.asg (.n 4) (.newl .e),.for (.n 5) (.range1 (.v 2)) #[.expr (.mth .append (.v 4) #[.bin .mod (.v 0) (.v 3)]),.asg (.n 0) (.bin .fdiv (.v 0) (.v 3))],.ret (.blt .tuple #[.v 4])]⟩
def yfo:Fn:=⟨2,3,AE,#[.asg (.n 2) (.call 31 #[.v 1]),.ite (.cmp .ge (.bin .mul (.i 2) (.v 0)) (.v 2)) #[.ret (.bin .sub (.v 0) (.v 2))] .e,.ret (.v 0)]⟩
def yac:Fn:=⟨2,6,AE,#[.asg (.n 2) (.newl .e),.for (.n 3) (.seq (.blt .rev #[.v 0])) #[.asg (.n 4) (.s ""),.for (.n 5) (.range1 (.v 1)) #[.asg (.n 4) (.bin .add (.idx (.s "01") (.bin .mod (.v 3) (.i 2))) (.v 4)),.asg (.n 3) (.bin .fdiv (.v 3) (.i 2))],.expr (.mth .append (.v 2) #[.v 4])],.ret (.mth .join (.s " ") #[.v 2])]⟩
def yaM:Fn:=⟨1,4,AC,#[.asg (.n 1) (.s "abcdefghijklmnopqrstuvwxyz"),.asg (.n 2) (.tup #[.s "let",.s "sum",.s "plain",.s "signed",.s "left",.s "show",.s "undo",.s "names",.s "rest",.s "wider",.s "drop",.s "odd"]),.asg (.n 3) (.mth .join (.s "") #[.comp [AD,AA 1,AA 0] (.n 0) (.range1 (.bin .add (.i 1) (.call 28 #[.v 0,.i 8]))) (.cst (.bl AE)) (.idx (.v 1) (.call 28 #[.v 2,.i 26]))]),.ret (.idx (.tup #[.v 3,.idx (.v 2) (.call 28 #[.v 0,.i 12]),.slc (.v 3) (.cst .non) (.i 1),.v 3]) (.call 28 #[.v 0,.i 4]))]⟩
def yG:Fn:=⟨2,10,AC,#[.asg (.n 2) (.s "abcdefghijklmnopqrstuvwxyz"),.asg (.n 3) (.newl .e),.asg (.n 4) (.call 35 #[.v 0]),.asg (.n 5) (.cmp .eq (.call 28 #[.v 0,.i 2]) (.i 0)),.asg (.n 6) (.call 28 #[.v 0,.blt .len #[.v 4]]),.for (.n 7) (.range1 (.v 1)) #[.asg (.n 8) (.call 35 #[.v 0]),.ite (.v 5) #[.asg (.n 8) (.bin .add (.bin .add (.slc (.v 4) (.cst .non) (.v 6)) (.idx (.v 2) (.call 28 #[.v 0,.i 26]))) (.slc (.v 4) (.bin .add (.v 6) (.i 1)) (.cst .non)))] .e,.asg (.n 9) (.i 0),.while (.and (.inn (.v 8) (.v 3)) (.cmp .lt (.v 9) (.i 60))) #[.asg (.n 8) (.rep (.idx (.v 2) (.bin .mod (.v 9) (.i 26))) (.bin .add (.i 1) (.bin .fdiv (.v 9) (.i 26)))),.aug 9 .add (.i 1)],.expr (.mth .append (.v 3) #[.v 8])],.ret (.frz (.v 3))]⟩
def yab:Fn:=⟨5,5,AC,#[.ite (.cmp .eq (.call 28 #[.v 0,.i 2]) (.i 0)) #[.ret (.fst #[.s "plain ",.v 1,.s " ",.v 2,.s " ",.v 3,.s " ",.v 4])] .e,.ret (.fst #[.s "signed ",.v 1,.s " ",.v 2,.s " ",.v 3,.s " ",.call 33 #[.v 4,.bin .mul (.v 2) (.v 3)]])]⟩
def ybd:Fn:=⟨2,5,AC,#[.asg (.n 2) (.s ""),.asg (.n 3) (.s ""),.try #[.asg (.n 2) (.mcl 21 19 (AI "tell") (.v 0) #[.v 1])] [9] 4 #[.nope],.ite (.not (.isi (.v 2) [.str])) #[.nope] .e,.ret (.tup #[.v 3,.v 2])]⟩
def yP:Fn:=⟨2,3,AC,#[.ite (.cmp .ne (.call 38 #[.v 0,.s "names"]) (.tup #[.s "",.orv (.mth .join (.s " ") #[.srk (.v 1)]) (.s "none")])) #[.nope] .e,.for (.n 2) (.seq (.srk (.v 1))) #[.ite (.cmp .ne (.call 38 #[.v 0,.bin .add (.s "show ") (.v 2)]) (.tup #[.s "",.call 34 #[.idx (.dgt (.v 1) (.v 2)) (.i 1),.idx (.dgt (.v 1) (.v 2)) (.i 0)]])) #[.nope] .e],.ret (.cst (.bl AE))]⟩
def yak:Fn:=⟨2,4,AE,#[.asg (.n 2) (.i 0),.for (.n 3) (.seq (.blt .rev #[.v 0])) #[.asg (.n 2) (.bin .add (.bin .mul (.v 2) (.call 31 #[.v 1])) (.v 3))],.ret (.v 2)]⟩
def yaW:Fn:=⟨1,13,AE,#[.asg (.n 1) (.call 25 #[.v 0]),.asg (.t [2,3]) (.call 29 #[.v 1,.i 4]),.asg (.n 4) (.call 36 #[.v 1,.bin .add (.i 2) (.call 28 #[.v 1,.i 4])]),.asg (.n 5) (.new 21 18 .e),.asg (.n 6) (.dict0 AC),.ite (.not (.call 39 #[.v 5,.v 6])) #[.nope] .e,.for (.n 7) (.range1 (.bin .add (.blt .len #[.v 4]) (.call 28 #[.v 1,.i 4]))) #[.asg (.n 8) (.idx (.v 4) (.bin .mod (.v 7) (.blt .len #[.v 4]))),.ite (.cmp .eq (.v 7) (.blt .len #[.v 4])) #[.asg (.t [2,3]) (.call 29 #[.v 1,.i 4])] .e,.asg (.n 9) (.call 30 #[.v 1,.v 2,.v 3]),.asg (.n 10) (.call 32 #[.v 9,.v 2,.v 3]),.dput (.v 6) (.v 8) (.tup #[.v 2,.v 10]),.ite (.cmp .ne (.call 38 #[.v 5,.call 37 #[.v 1,.v 8,.v 2,.v 3,.v 9]]) (.tup #[.s "",.call 34 #[.v 10,.v 2]])) #[.nope] .e],.for (.n 11) (.range1 (.i 2)) #[.ite (.not (.call 39 #[.v 5,.v 6])) #[.nope] .e,.for (.n 8) (.seq (.v 4)) #[.asg (.t [12,10]) (.dgt (.v 6) (.v 8)),.asg (.n 9) (.call 40 #[.v 10,.v 12]),.ite (.cmp .ne (.call 38 #[.v 5,.bin .add (.s "worth ") (.v 8)]) (.tup #[.s "",.blt .str #[.v 9]])) #[.nope] .e,.ite (.cmp .ne (.call 38 #[.v 5,.bin .add (.s "sworth ") (.v 8)]) (.tup #[.s "",.blt .str #[.call 33 #[.v 9,.bin .mul (.v 12) (.blt .len #[.v 10])]]])) #[.nope] .e]],.ret (.cst (.bl AE))]⟩
end zq
def Tl:List Fn:=[yar,yu,yK,yS,yaI,yE,yt,yx,yV,yaq,ye3,yl,ydr,ydx,ye9,ym,ya7,yai,yO,yF,yap,yaN,yaF,yL,yaH,yfc,yaB,yad,yR,yfj,yp,yfn,yaj,yfo,yac,yaM,yG,yab,ybd,yP,yak,yaW]
def T(i:Nat):Option Fn:=Tl[i]?
abbrev yk:Nat:=0
abbrev yb:Nat:=1
abbrev yfH:Nat:=2
abbrev yn:Nat:=3
abbrev yhE:Nat:=4
abbrev yhF:Nat:=5
abbrev yf:Nat:=6
abbrev yv:Nat:=7
abbrev yhG:Nat:=8
abbrev yhH:Nat:=9
abbrev yfJ:Nat:=10
abbrev yy:Nat:=11
abbrev yf2:Nat:=12
abbrev yf6:Nat:=13
abbrev yhI:Nat:=14
abbrev yhJ:Nat:=15
abbrev yf9:Nat:=16
abbrev yz:Nat:=17
abbrev ya:Nat:=19
abbrev yhK:Nat:=20
abbrev yfq:Nat:=21
abbrev yhL:Nat:=22
abbrev yft:Nat:=23
abbrev yhM:Nat:=24
abbrev yhN:Nat:=25
abbrev yga:Nat:=26
abbrev yhO:Nat:=27
abbrev ygg:Nat:=28
abbrev yhP:Nat:=29
abbrev yhQ:Nat:=30
abbrev yhR:Nat:=31
abbrev yhS:Nat:=32
abbrev yhT:Nat:=33
abbrev ygs:Nat:=34
abbrev yhU:Nat:=35
abbrev yhV:Nat:=36
abbrev yhW:Nat:=37
abbrev ygO:Nat:=38
abbrev yhX:Nat:=39
abbrev yhY:Nat:=40
abbrev yfu:Nat:=41
end IC
namespace WK
open PySem L2 IC
def top(i:Nat):Stmt:=Fm.main.body.getD i (.Pass #[0,0,0,0])
def tbQ:Tb where
 tbl:=[#["read_line","read_line","read_line",top 158,["line","first","behind"],["line"],yar,.fn],#["asked_names","asked_names","asked_names",top 159,["told","names"],["told"],yu,.fn],#["read_words","read_words","read_words",top 163,["form","words"],["form","words"],yK,.fn],#["read_word","read_word","read_word",top 164,["kind","word"],["kind","word"],yS,.fn],#["is_name","is_name","is_name",top 165,["word"],["word"],yaI,.fn],#["is_figures","is_figures","is_figures",top 166,["word","figures"],["word"],yE,.fn],#["refuse_line","refuse_line","refuse_line",top 173,["told","numbers","name"],["told","numbers"],yt,.fn],#["refuse_widths","refuse_widths","refuse_widths",top 174,["told","numbers"],["told","numbers"],yx,.fn],#["refuse_shape","refuse_shape","refuse_shape",top 177,["w","n"],["w","n"],yV,.fn],#["refuse_pair","refuse_pair","refuse_pair",top 179,["asked","shapes","w","n"],["asked"],yaq,.fn],#["words_of","words_of","words_of",top 185,["worth","w","n"],["worth","w","n"],ye3,.fn],#["signed_words","signed_words","signed_words",top 186,["worth","w","n","half"],["worth","w","n"],yl,.fn],#["plain","plain","plain",top 187,["number","w"],["number","w"],ydr,.fn],#["signed","signed","signed",top 188,["number","w"],["number","w"],ydx,.fn],#["sign_of","sign_of","sign_of",top 189,["number","w"],["number","w"],ye9,.fn],#["lowest_words","lowest_words","lowest_words",top 190,["worth","w","n","highest"],["worth","w","n"],ym,.fn],#["shown","shown","shown",top 192,["number","w"],["number","w"],ya7,.fn],#["shown_word","shown_word","shown_word",top 193,["word","w"],["word","w"],yai,.fn],#["","__init__","Desk.__init__",inClass (top 225) 0,["self"],["self"],yO,.ini 21],#["","tell","Desk.tell",inClass (top 225) 1,["self","line","told","w","number","answer","after"],["self","line"],yF,.me 21],#["","keep","Desk.keep",inClass (top 225) 3,["self","after"],["self","after"],yap,.me 21],#["given","given","given",top 226,["told","numbers","asked","w","number","y","answer","rest","marks"],["told","numbers"],yaN,.fn],#["written","written","written",top 228,["w","number"],["w","number"],yaF,.fn],#["answered","answered","answered",top 230,["told","numbers","asked","w","number","other","pairs"],["told","numbers"],yL,.fn],#["listed","listed","listed",top 231,["texts"],["texts"],yaH,.fn],#["_law_fresh","_law_fresh","_law_fresh",top 234,["_law_script"],["_law_script"],yfc,.fn],#["_law_mixed","_law_mixed","_law_mixed",top 235,["_law_seed","_law_primes","_law_number","_law_k","_law_prime","_law_far","_law_square","_law_power"],["_law_seed"],yaB,.fn],#["_law_fill","_law_fill","_law_fill",top 236,["_law_state","_law_cells","_law_at","_law_seed"],["_law_state"],yad,.fn],#["_law_take","_law_take","_law_take",top 237,["_law_state","_law_many","_law_turns","_law_digit"],["_law_state","_law_many"],yR,.fn],#["_law_sizes","_law_sizes","_law_sizes",top 238,["_law_state","_law_most"],["_law_state","_law_most"],yfj,.fn],#["_law_worth","_law_worth","_law_worth",top 239,["_law_state","_law_w","_law_n","_law_way","_law_top","_law_k","_law_edges","_law_any_one","_law_low","_law_wide","_law_worth_here","_law_some","_law_words_here"],["_law_state","_law_w","_law_n"],yp,.fn],#["_law_two_to","_law_two_to","_law_two_to",top 240,["_law_many","_law_found","_law_k"],["_law_many"],yfn,.fn],#["_law_words","_law_words","_law_words",top 241,["_law_worth_here","_law_w","_law_n","_law_wide","_law_words_here","_law_k"],["_law_worth_here","_law_w","_law_n"],yaj,.fn],#["_law_signed","_law_signed","_law_signed",top 242,["_law_worth_here","_law_many","_law_top"],["_law_worth_here","_law_many"],yfo,.fn],#["_law_text","_law_text","_law_text",top 243,["_law_number","_law_w","_law_words_here","_law_word_here","_law_signs","_law_k"],["_law_number","_law_w"],yac,.fn],#["_law_name","_law_name","_law_name",top 244,["_law_state","_law_letters","_law_own","_law_word_here"],["_law_state"],yaM,.fn],#["_law_names","_law_names","_law_names",top 245,["_law_state","_law_many","_law_letters","_law_names_here","_law_first","_law_near","_law_at","_law_k","_law_name_here","_law_turns"],["_law_state","_law_many"],yG,.fn],#["_law_put_line","_law_put_line","_law_put_line",top 246,["_law_state","_law_name_here","_law_w","_law_n","_law_worth_here"],["_law_state","_law_name_here","_law_w","_law_n","_law_worth_here"],yab,.fn],#["_law_said","_law_said","_law_said",top 248,["_law_desk","_law_line","_law_answer","_law_word_here","_law_e"],["_law_desk","_law_line"],ybd,.fn],#["_law_stands","_law_stands","_law_stands",top 249,["_law_desk","_law_kept","_law_name_here"],["_law_desk","_law_kept"],yP,.fn],#["_law_plain","_law_plain","_law_plain",top 250,["_law_number","_law_w","_law_worth_here","_law_word_here"],["_law_number","_law_w"],yak,.fn],#["law","law","law",top 251,["_law_script","_law_state","_law_w","_law_n","_law_names_here","_law_desk","_law_kept","_law_k","_law_name_here","_law_worth_here","_law_number","_law_turn","_law_wide"],["_law_script"],yaW,.fn]]
 al:=[eF "read_line" 0,eF "asked_names" 1,eF "read_words" 2,eF "read_word" 3,eF "is_name" 4,eF "is_figures" 5,eF "refuse_line" 6,eF "refuse_widths" 7,eF "refuse_shape" 8,eF "refuse_pair" 9,eF "words_of" 10,eF "signed_words" 11,eF "plain" 12,eF "signed" 13,eF "sign_of" 14,eF "lowest_words" 15,eF "shown" 16,eF "shown_word" 17,eF "given" 21,eF "written" 22,eF "answered" 23,eF "listed" 24,eF "_law_fresh" 25,eF "_law_mixed" 26,eF "_law_fill" 27,eF "_law_take" 28,eF "_law_sizes" 29,eF "_law_worth" 30,eF "_law_two_to" 31,eF "_law_words" 32,eF "_law_signed" 33,eF "_law_text" 34,eF "_law_name" 35,eF "_law_names" 36,eF "_law_put_line" 37,eF "_law_said" 38,eF "_law_stands" 39,eF "_law_plain" 40,eF "law" 41,eC "FREE" yfv,eC "GIVING" ycC,eC "LEAST_WIDTH" (.int (4)),eC "MOST_FIGURES" (.int (60)),eC "MOST_LETTERS" (.int (8)),eC "MOST_WIDTH" (.int (16)),eC "MOST_WORDS" (.int (4)),eC "NONE" yfF,eC "QUESTIONS" yi,eG "FORMS" (.dct ydc),eG "LEADING" (.dct yet),eG "NoLine" (.exc 9),eG "Desk" (.cls 21 18)]
 bs:=["all","dict","enumerate","int","isinstance","len","range","reversed","sorted","str","sum","tuple","zip"]
 ts:=[.str]
 fl:=[eN 21 "earlier",eN 21 "later",eN 21 "numbers"]
 me:=[eM 21 "tell" 19,eM 21 "keep" 20]
 kb:=[]
 cn:=[eN 21 "Desk",eN 9 "NoLine"]
 dd:=[eB "FORMS" ydc,eB "LEADING" yet]
 ml:=[]
 xs:=[]
 xc:=[]
 xm:=[eN 9 "WordError"]
 qh:=[]
theorem ok_all:tbQ.tbl.all (okT tbQ)=true:=by decide +kernel
theorem T_ok:∀i d,tbQ.tbl[i]?=AA d->T i=AA d.fn:=λi d h=>by have e:Tl=tbQ.tbl.map (·.fn):=rfl;rw[T,e,BG,h];rfl
theorem kb_all:ybM (KbP tbQ) tbQ.kb:=trivial
theorem cn_21:cnm tbQ 21="Desk":=rfl
def chS(c:Nat):Str:=#[(List.toArray [c])]
def yer(c:Nat)(i:Int):PV:=.tup [.str (chS c),.int i]
abbrev Mem:=Nat->Int->Int
def upd(M:Mem)(c:Nat)(i v:Int):Mem:=λd j=>if d=c/\j=i then v else M d j
def Rel(a:List (PV×PV))(M:Mem):Prop:=∀c i,(look (yer c i) a).getD (.int 0)=.int (M c i)
abbrev Cel:=Nat×Int
inductive Rw where
 |mark (d:Int)|ask (x:Cel)|set (t:Cel) (d:Int)|move (t x:Cel)|bare (t x:Cel)|twice (t x:Cel)|half (t x:Cel)
 |sum (t x y:Cel)|less (t x y:Cel)|both (t x y:Cel)|any (t x y:Cel)|odd (t x y:Cel)
def zim{st:SO}{n:Nat}{o:Ob}(h:st[n]?=AA o):st=st.set n o:=by
 refine DO λi=>?_;rw[Cr];split
 .rename_i e;subst e;split
  .exact h
  .rename_i z;rw[BA ()]at h
   cases h
 .rfl
def zaV(i:Int):shp (.int i)=true:=rfl
section
variable {st:SO}{k:Bool}{a b c d e:PV}{r:List PV}{i j:Int}
theorem ix0:idxV st (.tp k (a::r)) (.int 0)=AA a:=by simp[idxV,yau,at?,ixI]
theorem ix1:idxV st (.tp k (a::b::r)) (.int 1)=AA b:=by
 have:(1:Int)<(r.length:Int)+1+1:=by lia
 simp[idxV,yau,at?,ixI,this]
theorem ix2:idxV st (.tp k (a::b::c::r)) (.int 2)=AA c:=by
 have:(2:Int)<(r.length:Int)+1+1+1:=by lia
 simp[idxV,yau,at?,ixI,this]
theorem ix3:idxV st (.tp k (a::b::c::d::r)) (.int 3)=AA d:=by
 have:(3:Int)<(r.length:Int)+1+1+1+1:=by lia
 simp[idxV,yau,at?,ixI,this]
theorem ix4:idxV st (.tp k (a::b::c::d::e::r)) (.int 4)=AA e:=by
 have:(4:Int)<(r.length:Int)+1+1+1+1+1:=by lia
 simp[idxV,yau,at?,ixI,this]
theorem b_add:yq .add (.int i) (.int j)=AA (.int (i+j)):=rfl
theorem b_sub:yq .sub (.int i) (.int j)=AA (.int (i-j)):=rfl
def zjA(h:i.natAbs<18446744073709551616 \/ j.natAbs<18446744073709551616):yq .mul (.int i) (.int j)=AA (.int (i*j)):=by
 have:yao i j=true:=by simpa [yao] using h
 simp[yq,binI,this]
def zap(h:i.natAbs<18446744073709551616):yq .mul (.int i) (.int j)=AA (.int (i*j)):=zjA (.inl h)
def zaC(h:j.natAbs<18446744073709551616):yq .mul (.int i) (.int j)=AA (.int (i*j)):=zjA (.inr h)
theorem b_mul2:yq .mul (.int 2) (.int j)=AA (.int (2*j)):=zjA (.inl ⋯)
def zds(h:0<j)(b:j<18446744073709551616*18446744073709551616):yq .fdiv (.int i) (.int j)=AA (.int (i/j)):=by
 have a:j<10000000000000000000000000000000000000000000000000000000000000000000000:=by lia
 simp[yq,binI,h,a]
theorem b_div2:yq .fdiv (.int i) (.int 2)=AA (.int (i/2)):=rfl
def zco(h:0<j):yq .mod (.int i) (.int j)=AA (.int (i%j)):=if_pos h
def zor:yq .band (.int i) (.int j)=AA (.int (CP i j)):=rfl
theorem toR_some{v:PV}:toR (AA v) st=.ok v st:=rfl
def zkn:peq (.int i) (.int j)=(i==j):=rfl
theorem c_ne:yo .ne (.int i) (.int j)=AA (.bl (!(i==j))):=rfl
theorem c_eq:yo .eq (.int i) (.int j)=AA (.bl (i==j)):=rfl
theorem c_lt:yo .lt (.int i) (.int j)=AA (.bl (decide (i<j))):=rfl
theorem c_le:yo .le (.int i) (.int j)=AA (.bl (decide (i<=j))):=rfl
theorem c_gt:yo .gt (.int i) (.int j)=AA (.bl (decide (j<i))):=rfl
theorem c_ge:yo .ge (.int i) (.int j)=AA (.bl (decide (j<=i))):=rfl
theorem t_bl{b:Bool}:yas st (.bl b)=AA b:=rfl
theorem on_t{f:Bool->Fl}{b:Bool}:onF (AA b) f=f b:=rfl
theorem ono{A:Type}{f:Bool->R A}{b:Bool}:onO (AA b) f=f b:=rfl
theorem nxO_some{ρ:IC.Env}:nxO (AA ρ) st=.nx ρ st:=rfl
theorem fl_ok{A:Type}{a:A}{ρ:IC.Env}{k:A->SO->Fl}:(R.ok a st).fl ρ k=k a st:=rfl
theorem bd_ok{A B:Type}{a:A}{k:A->SO->R B}:(R.ok a st).bind k=k a st:=rfl
theorem th_nx{ρ:IC.Env}{k:IC.Env->SO->Fl}:yX (.nx ρ st) k=k ρ st:=rfl
theorem th_rt{v:PV}{k:IC.Env->SO->Fl}:yX (.rt v st) k=.rt v st:=rfl
theorem fl_exc{A:Type}{c:Nat}{ρ:IC.Env}{k:A->SO->Fl}:(R.exc c st:R A).fl ρ k=.exc c ρ st:=rfl
theorem bd_exc{A B:Type}{c:Nat}{k:A->SO->R B}:(R.exc c st:R A).bind k=.exc c st:=rfl
theorem th_exc{c:Nat}{ρ:IC.Env}{k:IC.Env->SO->Fl}:yX (.exc c ρ st) k=.exc c ρ st:=rfl
theorem noLocs_ints:∀(l:List Int),nLs (l.map PV.int)=AE
 |[]=>rfl
 |_::l=>by simp[nLs,nL,noLocs_ints l]
theorem bT_n{i:Nat}{v:PV}{ρ:IC.Env}:yr (.n i) v ρ=AA (ρ.set i (AA v)):=rfl
end
def yaz:PV:=.tup [.int 2147483647,.int 2147483629,.int 2147483587,.int 2147483579,.int 2147483563]
def ydt:Css:=match yaB.body with
 |.cons _ (.cons _ (.cons (.for _ _ b) _))=>b
 |_=>.nil
def zbt{c:Cl}{s num g p:Int}{i:Nat}{u5 u6 u7:Option PV}(j:∀st,idxV st (.tup [.int 11,.int 101,.int 1009,.int 10007,.int 100003]) (.int i)=AA (.int g))(u:i<5)(f:0<p)(l:p<18446744073709551616):
  ∃d m n o,exs c [AA (.int s),AA yaz,AA (.int num),AA (.int i),AA (.int p),u5,u6,u7] [] ydt=.nx [AA (.int s),AA yaz,AA (.int d),AA (.int i),AA (.int p),m,n,o] []:=by
 have q:∀z:Int,yq .mul (.int z) (.int (48271+2*(i:Int)))=AA (.int (z*(48271+2*(i:Int)))):=λz=>zaC ();have r:∀z y:Int,yq .mul (.int z) (.int (y%p))=AA (.int (z*(y%p))):=λz y=>zaC (by have a:=DH y (show p≠0 by lia);have b:=Ch y f;lia)
 have t:∀z:Int,yq .mul (.int z) (.int p)=AA (.int (z*p)):=λz=>zaC ();erw[ydt,yaB,AY,Aj,BS,B9,if_true,xs_cons,xs_nil,x_asg,IC.ve1,IC.ve2,IC.ve3,IC.ve11,IC.ve16,IC.vsq0,IC.vsq1,AO,AN,bd_ok,fl_ok,toR_some,bT_n,nxO_some,th_nx,A4,A5,sizeMax,C8,b_add,b_mul2,j,q,r,t,zco f];exact#[_,_,_,_,rfl]
def zhr{c:Cl}{s num:Int}{u5 u6 u7:Option PV}(i:Nat)(p:Int)(h:(i,p)∈[(0,(2147483647:Int)),(1,2147483629),(2,2147483587),(3,2147483579),(4,2147483563)]):
  ∃a b d f,exs c [AA (.int s),AA yaz,AA (.int num),AA (.int i),AA (.int p),u5,u6,u7] [] ydt=.nx [AA (.int s),AA yaz,AA (.int a),AA (.int i),AA (.int p),b,d,f] []:=by
 erw[A8,Prod.mk.injEq,B8,or_false]at h;rcases h with⟨rfl,rfl⟩|⟨rfl,rfl⟩|⟨rfl,rfl⟩|⟨rfl,rfl⟩|⟨rfl,rfl⟩
 .exact zbt (λ_=>rfl) ⋯ ⋯ ⋯
 .exact zbt (λ_=>rfl) ⋯ ⋯ ⋯
 .exact zbt (λ_=>rfl) ⋯ ⋯ ⋯
 .exact zbt (λ_=>rfl) ⋯ ⋯ ⋯
 .exact zbt (λ_=>rfl) ⋯ ⋯ ⋯
def ydL:List PV:=[.tup [.int 0,.int 2147483647],.tup [.int 1,.int 2147483629],.tup [.int 2,.int 2147483587],.tup [.int 3,.int 2147483579],.tup [.int 4,.int 2147483563]]
theorem mixed(k:Nat)(s:Int)(st:SO):∃num,yc T (k+1) yga [.int s] st=.ok (.int num) st:=by
 let#[B,m,h,num,a,b,c,d,e,o,q]:=zb2 (call:=yc T k) (t:=.t [3,4]) (b:=ydt) (λ_ g st=>∃num a b c d e,g=[AA (.int s),AA yaz,AA (.int num),a,b,c,d,e]/\st=[]) ydL 0 [AA (.int s),AA yaz,AA (.int 0),AD,AD,AD,AD,AD] [] #[_,_,_,_,_,_,rfl,rfl] (by
  rintro j x g st f ⟨num,a,b,c,d,e,rfl,rfl⟩
  have f:=A9 f;have f:∃i p,x=.tup [.int ((i:Nat):Int),.int p]/\(i,p)∈[(0,(2147483647:Int)),(1,2147483629),(2,2147483587),(3,2147483579),(4,2147483563)]:=by
   erw[ydL,A8,B8,or_false]at f;rcases f with rfl|rfl|rfl|rfl|rfl
   .exact#[0,_,rfl,by simp]
   .exact#[1,_,rfl,by simp]
   .exact#[2,_,rfl,by simp]
   .exact#[3,_,rfl,by simp]
   .exact#[4,_,rfl,by simp]
  let#[i,p,rfl,r]:=f;let#[l,C,D,E,u]:=zhr (c:=yc T k) (s:=s) (num:=num) (u5:=c) (u6:=d) (u7:=e) i p r;exact#[_,_,_,rfl,u,_,_,_,_,_,_,rfl,rfl])
 subst o q;refine#[num,?_];rw[yc];have w:yaB.body=.cons (.asg (.n 1) (.tup (.cons (.cst (.int 2147483647)) (.cons (.cst (.int 2147483629)) (.cons (.cst (.int 2147483587)) (.cons (.cst (.int 2147483579)) (.cons (.cst (.int 2147483563)) .nil))))))) (.cons (.asg (.n 2) (.cst (.int 0))) (.cons (.for (.t [3,4]) (.enum (.var 1)) ydt) (.cons (.ret (.var 2)) .nil))):=rfl;have y:T yga=AA #[1,8,AE,yaB.body]:=rfl;have G:PV.tup [.int 2147483647,.int 2147483629,.int 2147483587,.int 2147483579,.int 2147483563]=yaz:=rfl;rw[y,w];have z:ev (yc T k) [AA (.int s),AD,AD,AD,AD,AD,AD,AD] [] (.tup (.cons (.cst (.int 2147483647)) (.cons (.cst (.int 2147483629)) (.cons (.cst (.int 2147483587)) (.cons (.cst (.int 2147483579)) (.cons (.cst (.int 2147483563)) .nil))))))=.ok yaz []:=by simp[IC.ve1,IC.ve11,IC.vsq0,IC.vsq1,R.bind,sizeMax,yaz]
 have A:evi (yc T k) [AA (.int s),AA yaz,AA (.int 0),AD,AD,AD,AD,AD] [] (.enum (.var 1))=.ok ydL []:=by simp[IC.vjq0,IC.vjq1,IC.vjq2,IC.vjq3,IC.vjq4,IC.vjq5,IC.vjq6,IC.vjq7,IC.vjq8,IC.vjq9,IC.ve2,R.bind,yaz,yw,ydL]
 erw[AY,Aj,if_true,nLs,nL,C5,AV,Az,Bs,AT,BQ,B6,xs_cons,xs_nil,x_asg,x_for,x_ret,z,R.fl,yr,nxO,yX,A4,A5,IC.ve1,A,h,IC.ve2,AO,AN]
def zN(ys:List PV)(h:ys.length<=1000000)(st:SO):ybp (.ok ys st)=.ok (.lst ys) st:=by simp[ybp,h]
def zK(n:Nat)(h:n<1000):ybr (.int (n:Int))=AA (yg n 0 1):=by simp[ybr];lia
def zk6{z:Int}(h:0<=z):∃n:Nat,z=n:=#[z.toNat,by lia]
def ybI(st:SO)(f:Fl):R PV:=
 match f with
 |.rt v _=>if nL v then .ok v st else .bad
 |.nx _ _=>.ok .non st
 |.exc c _ _=>.exc c st
 |_=>.bad
def zl{T:Nat->Option IC.Fn}{k f:Nat}{a:IC.Fn}{args:List PV}{st:SO}(b:T f=AA a)(c:a.pure=AE)(d:args.length=a.np)(g:nLs args=AE):
  yc T (k+1) f args st=ybI st (exs (yc T k) (args.map AA++AT (a.ns-a.np) AD) [] a.body):=by rw[yc,b];dsimp only;rw[if_pos d,if_pos c,if_pos g];rfl
def outI(f:Fl):R PV:=
 match f with
 |.rt v a=>.ok v a
 |.nx _ a=>.ok .non a
 |.exc c _ a=>.exc c a
 |_=>.bad
def zk{T:Nat->Option IC.Fn}{k f:Nat}{a:IC.Fn}{args:List PV}{st:SO}(b:T f=AA a)(c:a.pure=AC)(d:args.length=a.np):
  yc T (k+1) f args st=outI (exs (yc T k) (args.map AA++AT (a.ns-a.np) AD) st a.body):=by rw[yc,b];dsimp only;rw[if_pos d,c,if_neg (by simp)];rfl
def zec{st s:SO}{b:Bool}:ybI st (.rt (.bl b) s)=.ok (.bl b) st:=rfl
def zgk{st s:SO}{b:Int}:ybI st (.rt (.int b) s)=.ok (.int b) st:=rfl
set_option backward.eqns.nonrecursive true
local macro_rules | `(tactic| simp! [$xs,*])=>do
 let l<-("IC.xs_cons IC.xs_nil IC.x_asg IC.x_ite IC.x_ret IC.x_expr IC.x_for IC.x_six IC.x_try IC.evs IC.evi IC.ve1 IC.ve2 IC.ve3 IC.ve4 IC.ve5 IC.ve6 IC.ve7 IC.ve8 IC.ve9 IC.ve10 IC.ve11 IC.ve13 IC.ve15 IC.ve16 IC.ve17 IC.ve18 IC.ve19 IC.ve20 IC.ve21 IC.ve24 IC.ve25 IC.ve26 IC.ve28 IC.v_comp List.getElem?_cons_zero List.getElem?_cons_succ WK.bd_ok WK.fl_ok WK.bd_exc WK.fl_exc WK.toR_some IC.toL WK.bT_n WK.nxO_some WK.th_nx WK.th_rt WK.th_exc List.set_cons_zero List.set_cons_succ WK.on_t WK.t_bl WK.ono IC.onBl cond_true cond_false List.length_cons List.length_nil Nat.zero_add Nat.reduceAdd Nat.reduceSub Nat.reduceLeDiff if_true IC.nL IC.nLs WK.noLocs_ints Bool.and_self Bool.not_true Bool.not_false List.map_cons List.map_nil List.replicate List.cons_append List.nil_append List.append_nil Option.bind_none Option.bind_some Option.join_some WK.b_add WK.b_sub WK.b_mul2 WK.b_div2 WK.c_lt WK.c_le WK.c_gt WK.c_ge WK.c_eq WK.c_ne IC.PV.tup IC.sizeMax".splitOn " ").toArray.mapM λs=>`(Lean.Parser.Tactic.simpLemma| $(Lean.mkIdent s.toName):term)
 `(tactic| simp only[$l,*,$xs,*])
theorem rdS{st:SO}{n:Nat}{o x:Ob}(h:st[n]?=AA o):(st.set n x)[n]?=AA x:=by
 have:n<st.length:=by
  rcases Ct n st.length with a|a
  .exact a
  .rw[BA a]at h;cases h
 rw[Ab this]
def zmE(b:List Int)(a:Int)(h:b≠[]):∃v,yau (b.map PV.int) (.int (a%(b.length:Int)))=AA (.int v):=by
 have g:0<b.length:=Gu.2 h;have c:=DH a (show (b.length:Int)≠0 by lia);have d:=Ch a (show (0:Int)<b.length by lia);have f:(a%(b.length:Int)).toNat<b.length:=by lia
 refine#[b[(a%(b.length:Int)).toNat],?_];simp[yau,at?,ixI,c,d,f]
def flT:Css:=match yad.body with
 |.cons _ (.cons _ (.cons _ t))=>t
 |x=>x
abbrev flS(l:PV)(a p:Int)(f:Bool):Ob:=.lst [l,.int a,.int p,.bl f]
def zoz{st:SO}{n:Nat}{l:PV}{a p v:Int}{f:Bool}(h:st[n]?=AA (flS l a p f)):ybz st (.loc n) (.int 1) (.int v)=AA (st.set n (flS l v p f)):=by erw[ybz,h];rfl
def znY{st:SO}{n:Nat}{l:PV}{a p v:Int}{f:Bool}(h:st[n]?=AA (flS l a p f)):ybz st (.loc n) (.int 2) (.int v)=AA (st.set n (flS l a v f)):=by erw[ybz,h];rfl
def zox{st:SO}{n:Nat}{l:PV}{a p:Int}{f g:Bool}(h:st[n]?=AA (flS l a p f)):ybz st (.loc n) (.int 3) (.bl g)=AA (st.set n (flS l a p g)):=by erw[ybz,h];rfl
def zpi{st:SO}{n:Nat}{l:PV}{a p:Int}{f:Bool}(h:st[n]?=AA (flS l a p f)):idxV st (.loc n) (.int 0)=AA l:=by erw[idxV,h];rfl
def zpj{st:SO}{n:Nat}{l:PV}{a p:Int}{f:Bool}(h:st[n]?=AA (flS l a p f)):idxV st (.loc n) (.int 1)=AA (.int a):=by erw[idxV,h];rfl
def zpk{st:SO}{n:Nat}{l:PV}{a p:Int}{f:Bool}(h:st[n]?=AA (flS l a p f)):idxV st (.loc n) (.int 3)=AA (.bl f):=by erw[idxV,h];rfl
theorem p18:yq .pow (.int 10) (.int 18)=AA (.int 1000000000000000000):=by with_unfolding_all rfl
def zd0(k n:Nat){l:PV}{m a v p q:Int}{f g:Bool}{st:SO}(h:st[n]?=AA (flS l a p f))(A:∀st,yaf .len st [l]=AA (.int m))(d:(decide (a ≥ m) || decide (v<1000000000000000000))=g)
  (o:g=AE->yc T (k+1) yga [.int v] (st.set n (flS l (a+1) p AE))=.ok (.int q) (st.set n (flS l (a+1) p AE))) (t:g=AC->q=v-1000000000000000000):
  exs (yc T (k+1)) [AA (.loc n),AA l,AA (.int a),AA (.int v)] st flT=.nx [AA (.loc n),AA l,AA (.int a),AA (.int v)] (st.set n (flS l (a+1) q g)):=by
 have B:=zoz h (v:=a+1);have C:=rdS h (x:=flS l (a+1) p f);have u:=zox C (g:=g);have w:=rdS C (x:=flS l (a+1) p g);have j:=znY w (v:=q);have z:=zpk w;rw[D4]at u j z w;rw[D4]at j
 have D:flT=(match flT with
  |.cons a (.cons (.six x y _) r)=>.cons a (.cons (.six x y (.or (.cmp .ge (.var 2) (.blt .len (.cons (.var 1) .nil))) (.cmp .lt (.var 3) (.bin .pow (.cst (.int 10)) (.cst (.int 18)))))) r)
  |x=>x):=rfl
 have b:∀st,ev (yc T (k+1)) [AA (.loc n),AA l,AA (.int a),AA (.int v)] st (.or (.cmp .ge (.var 2) (.blt .len (.cons (.var 1) .nil))) (.cmp .lt (.var 3) (.bin .pow (.cst (.int 10)) (.cst (.int 18)))))=.ok (.bl g) st:=λst=>by
  cases c:decide (a ≥ m)
  .rw[c,Iv]at d;simp! [A,c,p18,d]
  .rw[c,JH]at d;subst d;simp! [A,c]
 generalize G:(Ce.or (.cmp .ge (.var 2) (.blt .len (.cons (.var 1) .nil))) (.cmp .lt (.var 3) (.bin .pow (.cst (.int 10)) (.cst (.int 18)))))=E at *
 cases g with
 |true=>
  have o:=o rfl;rw[D];simp! [flT,yad,stO,B,b,u,z,o,j]
 |false=>
  have t:=t rfl;subst t;rw[D];simp! [flT,yad,stO,B,b,u,z,p18,j]
theorem fill(k n:Nat)(d:List Int)(C:d.length<=1000)(a p:Int)(N:0<=a)(f:Bool)(st:SO)(h:st[n]?=AA (.lst [.lst (d.map .int),.int a,.int p,.bl f])):
  ∃D E,yc T (k+2) yhO [.loc n] st=.ok .non (st.set n (.lst [.lst (d.map .int),.int (a+1),.int D,.bl E])):=by
 have u:T yhO=AA #[1,4,AC,yad.body]:=rfl;have l:∀st,yaf .len st [.lst (d.map .int)]=AA (.int (d.length:Int)):=λst=>by show AA (PV.int (((d.map PV.int).length:Nat):Int))=_;simp
 have w:=zpi h;have y:=zpj h;have z:∀(a b:PV) (A:IC.Env),yr (.t [1,2]) (.tp AC [a,b]) A=AA ((A.set 1 (AA a)).set 2 (AA b)):=λ_ _ _=>rfl
 have B:yad.body=(match yad.body with
  |.cons a (.cons b (.cons c _))=>.cons a (.cons b (.cons c flT))
  |x=>x):=rfl
 have g:yq .mul (.int 31) (.int a)=AA (.int (31*a)):=zap ⋯;obtain⟨v,m⟩:∃v,exs (yc T (k+1)) [AA (.loc n),AD,AD,AD] st yad.body=exs (yc T (k+1)) [AA (.loc n),AA (.lst (d.map .int)),AA (.int a),AA (.int v)] st flT:=by
  by_cases o:d=[]
  .have r:decide ((d.length:Int) > 0)=false:=by subst o;rfl
   refine#[31*a+7,?_];rw[B];generalize flT=F,d.map PV.int=L at *;simp! [yad,w,y,z,g,l,r]
  .have O:0<d.length:=Gu.2 o;let#[v,m]:=zmE d a o;have r:decide ((d.length:Int) > 0)=true:=decide_eq_true ();have G:=zds (i:=a) (j:=(d.length:Int)) () ();have H:=zco (i:=a) (j:=(d.length:Int)) ();have I:yq .mul (.int 104729) (.int (a/(d.length:Int)))=AA (.int (104729*(a/(d.length:Int)))):=zap ⋯;have J:∀st,idxV st (.lst (d.map .int)) (.int (a%(d.length:Int)))=AA (.int v):=λ_=>m;refine#[104729*(a/(d.length:Int))+v,?_];rw[B];generalize flT=F,d.map PV.int=L at *;simp! [yad,w,y,z,g,l,r,G,H,I,J]
 cases c:(decide (a ≥ (d.length:Int)) || decide (v<1000000000000000000))with
 |true=>
  let#[q,M]:=mixed k v (st.set n (flS (.lst (d.map .int)) (a+1) p AE));refine#[q,AE,?_];rw[zk u rfl rfl];have e:=zd0 k n h l c (λ_=>M) (λh=>nomatch h);rw[<-m]at e;exact(congrArg _ e).trans rfl
 |false=>
  refine#[v-1000000000000000000,AC,?_];rw[zk u rfl rfl];have e:=zd0 k n h l c (λh=>nomatch h) (λ_=>rfl);rw[<-m]at e;exact(congrArg _ e).trans rfl
def ybw:Ce:=match yR.body with
 |.cons _ (.cons (.while c _) _)=>c
 |_=>.nope
def ybF:Css:=match yR.body with
 |.cons _ (.cons (.while _ b) _)=>b
 |_=>.nil
def zg2{c:Cl}{n:Nat}{g:List Int}{a p m t:Int}{f:Bool}{u:Option PV}{st:SO}(h:st[n]?=AA (.lst [.lst (g.map .int),.int a,.int p,.bl f])):
  ∃B,ev c [AA (.loc n),AA (.int m),AA (.int t),u] st ybw=.ok (.bl B) st/\(B=AE->t<64):=by
 by_cases b:t<64
 .by_cases d:p=0
  .refine#[AE,?_,λ_=>b];erw[ybw,yR,IC.ve1,IC.ve2,IC.ve3,IC.ve6,IC.ve7,IC.ve8,IC.ve16,R.bind,AO,AN,h,idxV,yau,at?,ixI,yq,binI,yao,toR,yo,ya4,onBl];simp[b,d,zaV,zkn]
  .have d:(p==0)=false:=by simp[d]
   cases f
   .refine#[AC,?_,λ_=>b];erw[ybw,yR,IC.ve1,IC.ve2,IC.ve3,IC.ve6,IC.ve7,IC.ve8,IC.ve16,R.bind,AO,AN,h,idxV,yau,at?,ixI,yq,binI,yao,toR,yo,ya4,onBl];simp[h,b,d,zaV,zkn]
   .refine#[decide (p<m*4096),?_,λ_=>b];erw[ybw,yR,IC.ve1,IC.ve2,IC.ve3,IC.ve6,IC.ve7,IC.ve8,IC.ve16,R.bind,AO,AN,h,idxV,yau,at?,ixI,yq,binI,yao,toR,yo,ya4,onBl];simp[h,b,d,zaV,zkn]
 .refine#[AC,?_,λz=>by cases z];erw[ybw,yR,IC.ve1,IC.ve2,IC.ve3,IC.ve6,IC.ve7,IC.ve8,IC.ve16,R.bind,AO,AN,h,idxV,yau,at?,ixI,yq,binI,yao,toR,yo,ya4,onBl];simp[b]
def zf6(k:Nat){n:Nat}{c:List Int}(d:c.length<=1000){a p m t:Int}(o:0<=a){f:Bool}{u:Option PV}{st:SO}(h:st[n]?=AA (.lst [.lst (c.map .int),.int a,.int p,.bl f])):
  ∃r w,exs (yc T (k+2)) [AA (.loc n),AA (.int m),AA (.int t),u] st ybF=.nx [AA (.loc n),AA (.int m),AA (.int (t+1)),u] (st.set n (.lst [.lst (c.map .int),.int (a+1),.int r,.bl w])):=by
 let#[q,g,j]:=fill k n c d a p o f st h;have y:(1+q%4093).natAbs<18446744073709551616:=by lia
 have b:∀st,ex (yc T (k+2)) [AA (.loc n),AA (.int m),AA (.int t),u] st (.aug 2 .add (.cst (.int 1)))=.nx [AA (.loc n),AA (.int m),AA (.int (t+1)),u] st:=λst=>by rw[znb (x:=.int t) rfl];simp[IC.ve1,R.fl,ybA,yq,binI,nxO]
 cases g
 .refine#[q,AC,?_];erw[ybF,yR,xs_cons,xs_nil,x_expr,x_ite,x_six,b,yX,nxO,IC.ve1,IC.ve2,IC.ve3,IC.ve6,IC.ve8,IC.ve16,IC.ve18,IC.vsq0,IC.vsq1,R.fl,R.bind,j,ybA,yq,binI,Bu,A4,A5,AO,AN,rdS h,idxV,yau,at?,ixI,yao,toR,yo,ya4,onBl,onF,yas];simp[rdS h]
 .by_cases l:q<m*4096
  .refine#[q+m*4096*(1+q%4093),AE,?_];erw[ybF,yR,xs_cons,xs_nil,x_expr,x_ite,x_six,b,yX,nxO,IC.ve1,IC.ve2,IC.ve3,IC.ve6,IC.ve8,IC.ve16,IC.ve18,IC.vsq0,IC.vsq1,R.fl,R.bind,j,ybA,yq,binI,Bu,A4,A5,AO,AN,rdS h,idxV,yau,at?,ixI,yao,toR,yo,ya4,onBl,onF,yas,stO,ybz];simp[rdS h,l,y]
  .refine#[q,AE,?_];erw[ybF,yR,xs_cons,xs_nil,x_expr,x_ite,x_six,b,yX,nxO,IC.ve1,IC.ve2,IC.ve3,IC.ve6,IC.ve8,IC.ve16,IC.ve18,IC.vsq0,IC.vsq1,R.fl,R.bind,j,ybA,yq,binI,Bu,A4,A5,AO,AN,rdS h,idxV,yau,at?,ixI,yao,toR,yo,ya4,onBl,onF,yas];simp[rdS h,l]
def zcN(k:Nat){n:Nat}{d:List Int}(b:d.length<=1000){m:Int}{u:Option PV}:∀(r N:Nat) (t a p:Int) (f:Bool) (st:SO),r<=N->64-t<=r->0<=a->st[n]?=AA (.lst [.lst (d.map .int),.int a,.int p,.bl f]) ->
  ∃j g l o,0<=g/\yaQ (yc T (k+2)) ybw ybF (N+1) [AA (.loc n),AA (.int m),AA (.int t),u] st=.nx [AA (.loc n),AA (.int m),AA (.int j),u] (st.set n (.lst [.lst (d.map .int),.int g,.int l,.bl o]))
 |r,N,t,a,p,f,st,J,x,q,h=>by
  let#[B,w,y]:=zg2 (c:=yc T (k+2)) (m:=m) (t:=t) (u:=u) h;have A:st.set n (.lst [.lst (d.map .int),.int a,.int p,.bl f])=st:=by
   refine DO λi=>?_;rw[Cr];split
   .rename_i e;subst e;split
    .exact h.symm
    .rename_i z;rw[BA ()]at h
     cases h
   .rfl
  cases B with
  |false=>exact#[t,a,p,f,q,by rw[zat w rfl,A]]
  |true=>
   have C:=y rfl
   match r,N with
   |0,_=>exact absurd x ()
   |r+1,N+1=>
    let#[D,E,G]:=zf6 k b (m:=m) (t:=t) q (u:=u) h;let#[j,g,l,o,H,I]:=zcN k b (m:=m) (u:=u) r N (t+1) (a+1) D E _ () () () (rdS h);refine#[j,g,l,o,H,?_];rw[zc2 w rfl G,I,D4]
theorem take(k n:Nat)(j:List Int)(l:j.length<=1000)(a p m:Int)(r:0<=a)(o:0<m)(b:m<10000000000000000000000000000000000000000000000000000000000000000000000)(f:Bool)(st:SO)(h:st[n]?=AA (.lst [.lst (j.map .int),.int a,.int p,.bl f])):
  ∃d c g q,0<=d/\d<m/\0<=c/\yc T (k+3) ygg [.loc n,.int m] st=.ok (.int d) (st.set n (.lst [.lst (j.map .int),.int c,.int g,.bl q])):=by let#[z,c,g,q,t,w]:=zcN k l (m:=m) (u:=AD) 64 99999 0 a p f st () () r h;refine#[g%m,c,g/m,q,DH _ (),Ch _ o,t,?_];have x:yR.body=.cons (.asg (.n 2) (.cst (.int 0))) (.cons (.while ybw ybF) (.cons (.asg (.n 3) (.bin .mod (.idx (.var 0) (.cst (.int 2))) (.var 1))) (.cons (.six (.var 0) (.cst (.int 2)) (.bin .fdiv (.idx (.var 0) (.cst (.int 2))) (.var 1))) (.cons (.ret (.var 3)) .nil)))):=rfl;have y:T ygg=AA #[2,4,AC,yR.body]:=rfl;rw[yc,y,x];erw[AY,Aj,if_true,AV,Az,Bs,AT,BQ,B6,xs_cons,xs_nil,x_asg,x_while,x_six,x_ret,yX,nxO,stO,IC.ve1,IC.ve2,IC.ve3,IC.ve16,R.fl,R.bind,yr,A4,A5,AO,AN,w,rdS h,idxV,yau,at?,ixI,yq,binI,o,b,and_self,toR,ybz];simp[rdS h,o,b]
def Drw(b:List Int)(n:Nat)(st:SO):Prop:=∃a p f,0<=a/\st[n]?=AA (.lst [.lst (b.map .int),.int a,.int p,.bl f])
def Onl(c:List Int)(n:Nat)(st b:SO):Prop:=∃a p f,0<=a/\b=st.set n (.lst [.lst (c.map .int),.int a,.int p,.bl f])
theorem Onl.drw{d:List Int}{n:Nat}{st c:SO}(h:Drw d n st)(o:Onl d n st c):Drw d n c:=by let#[a,p,f,l,h]:=h;let#[b,q,g,j,rfl]:=o;exact#[b,q,g,j,rdS h]
theorem Onl.trans{a:List Int}{n:Nat}{st st1 st2:SO}(o:Onl a n st st1)(d:Onl a n st1 st2):Onl a n st st2:=by let#[b,q,g,l,rfl]:=o;let#[c,r,j,f,rfl]:=d;exact#[c,r,j,f,by rw[D4]]
def zoD(k:Nat){n:Nat}{c:List Int}(g:c.length<=1000){m:Int}(l:0<m)(j:m<10000000000000000000000000000000000000000000000000000000000000000000000){st:SO}(h:Drw c n st):
  ∃d b,0<=d/\d<m/\Onl c n st b/\yc T (k+3) ygg [.loc n,.int m] st=.ok (.int d) b:=by let#[a,p,f,o,h]:=h;let#[d,w,x,y,q,r,t,u]:=take k n c g a p m o l j f st h;exact#[d,_,q,r,#[_,_,_,t,rfl],u]
theorem sizes(k:Nat){n:Nat}{c:List Int}(a:c.length<=1000){m:Int}(g:0<m)(j:m<=100){st:SO}(h:Drw c n st):
  ∃w z b,4<=w/\w<=16/\1<=z/\z<=m/\Onl c n st b/\yc T (k+4) yhP [.loc n,.int m] st=.ok (.tup [.int w,.int z]) b:=by let#[d,t,u,x,f,l]:=zoD k a (m:=13) () () h;let#[e,o,y,A,p,q]:=zoD k a (m:=m) g () (f.drw h);refine#[4+d,1+e,o,by lia,by lia,by lia,by lia,f.trans p,?_];have r:T yhP=AA yfj:=rfl;rw[yc,r];erw[yfj,AY,Aj,if_true,AV,Az,Bs,AT,BQ,B6,xs_cons,xs_nil,x_ret,yX,IC.ve1,IC.ve2,IC.ve3,IC.ve11,IC.ve18,IC.vsq0,IC.vsq1,R.fl,R.bind,AO,AN,l,q,yq,binI,toR];simp[sizeMax]
theorem fresh(k:Nat)(a:List Int)(h:a.length<=63)(st:SO):∃v,yc T (k+1) yhN [.scr (a.map .int)] st=.ok (.loc st.length) (st++[v])/\v=.lst [.lst (a.map .int),.int 0,.int 0,.bl AC]:=by
 have b:T yhN=AA yfc:=rfl;refine#[_,?_,rfl];rw[yc,b];erw[yfc,AY,Aj,if_true,AV,Az,Bs,AT,BQ,B6,xs_cons,xs_nil,x_ret,yX,ev,IC.vsq0,IC.vsq1,R.fl,R.bind,AO,toR];have c:ybs (.scr (a.map PV.int)) AD (.int 63)=AA (.lst (a.map .int)):=by
  have d:ybk a.length 63=a.length:=by show min 63 a.length=a.length;lia
  simp[ybs,ybe,yb6,cut,ycg,ycq,d]
  try rw[<-Ae (f:=PV.int),Fd]
 simp[ybe,onP,c,sizeMax]
theorem dbl{call:Cl}{i j:Nat}(b:i≠j):∀(N:Nat) (a:Int) (ρ:IC.Env) (v:Int) (st:SO),ρ[i]?=AA (AA (.int v)) ->
  ∃u,yaX call (.n j) (.cons (.asg (.n i) (.bin .mul (.cst (.int 2)) (.var i))) .nil) (yg N a 1) ρ st=.nx ((ρ.set i (AA (.int (2^N*v)))).set j u) st/\(N=0->ρ[j]?=AA u \/ ρ.length<=j)
 |0,a,ρ,v,st,h=>by
  have f:ρ.set i (AA (.int v))=ρ:=by
   refine DO λz=>?_;rw[Cr];split
   .rename_i e;subst e;split
    .exact h.symm
    .rw[BA ()]at h
     cases h
   .rfl
  rcases Ct j ρ.length with c|c
  .refine#[ρ[j],?_,λ_=>.inl (Ac c)];rw[yg,zo,GL,Cq,f,List.set_getElem_self]
  .refine#[AD,?_,λ_=>.inr c];rw[yg,zo,GL,Cq,f,List.set_eq_of_length_le c]
 |N+1,a,ρ,v,st,h=>by
  have g:(ρ.set j (AA (.int a)))[i]?=AA (AA (.int v)):=by rw[AW (BR b)];exact h
  have d:i<ρ.length:=by
   rcases Ct i ρ.length with z|z
   .exact z
   .rw[BA z]at h;cases h
  have l:exs call (ρ.set j (AA (.int a))) st (.cons (.asg (.n i) (.bin .mul (.cst (.int 2)) (.var i))) .nil)=.nx ((ρ.set j (AA (.int a))).set i (AA (.int (2*v)))) st:=by erw[xs_nil,xs_cons,x_asg,yX,nxO,IC.ve1,IC.ve2,IC.ve3,R.bind,R.fl,g,yr,yq,binI,yao,toR];simp
  let#[u,m,_]:=dbl (call:=call) b N (a+1) ((ρ.set j (AA (.int a))).set i (AA (.int (2*v)))) (2*v) st (by rw[Ab (by rw[BD];exact d)]);refine#[u,?_,λz=>by cases z];rw[yg,zm (ρ1:=ρ.set j (AA (.int a))) rfl,l];show yaX call _ _ _ _ _=_;rw[m,D4,Io _ _ (BR b),D4,Bv,Gz]
def zh2{c:Cl}{N acc lo:Int}{st:SO}:exs c [AA (.int N),AA (.int acc),AA (.int lo)] st (.cons (.asg (.n 1) (.bin .mul (.cst (.int 2)) (.var 1))) .nil)=.nx [AA (.int N),AA (.int (2*acc)),AA (.int lo)] st:=by erw[xs_nil,xs_cons,x_asg,yX,nxO,IC.ve1,IC.ve2,IC.ve3,R.bind,R.fl,yr,yq,binI,yao,toR,A4,A5,AO,AN];simp
def zfG(k n:Nat)(p:n<1000)(st:SO):yc T (k+1) yhR [.int n] st=.ok (.int (2^n)) st:=by
 let#[q,l,h,u,f,m]:=zb2 (call:=yc T k) (t:=.n 2) (b:=.cons (.asg (.n 1) (.bin .mul (.cst (.int 2)) (.var 1))) .nil) (λi g st=>∃u,g=[AA (.int n),AA (.int (2^i)),u]/\st=[]) (yg n 0 1) 0 [AA (.int n),AA (.int 1),AD] [] #[_,rfl,rfl] (by
  rintro j x g st c ⟨u,rfl,rfl⟩
  have c:∃i,x=.int i:=by
   have:∀(n:Nat) (a d:Int) (j:Nat) x,(yg n a d)[j]?=AA x->∃i,x=.int i:=by
    intro n
    induction n with
    |zero=>intro a d j x h;simp[yg]at h
    |succ n ih=>
     intro a d j x h
     cases j with
     |zero=>simp[yg]at h;exact#[a,h.symm]
     |succ j=>simp[yg]at h;exact ih _ _ _ _ h
   exact this _ _ _ _ _ c
  let#[i,rfl]:=c;exact#[_,_,_,rfl,zh2,_,by rw[Bv,CF],rfl])
 have o:(yg n 0 1).length=n:=by
  have:∀(n:Nat) (a d:Int),(yg n a d).length=n:=by
   intro n
   induction n with
   |zero=>intro a d;rfl
   |succ n ih=>intro a d;simp[yg,ih]
  exact this _ _ _
 rw[o,BS]at f;subst f m;rw[yc,show T yhR=AA yfn from rfl];erw[yfn,AY,Aj,if_true,nLs,nL,C5,AV,Az,Bs,AT,BQ,B6,xs_cons,xs_nil,x_asg,x_for,x_ret,yX,nxO,IC.ve1,IC.ve2,R.fl,yr,A4,A5,IC.vjq0,IC.vjq1,IC.vjq2,IC.vjq3,IC.vjq4,IC.vjq5,IC.vjq6,IC.vjq7,IC.vjq8,IC.vjq9,R.bind,AO,ybr,toL];erw[show (n:Int).natAbs<1000000000 by lia,if_true,CV,h];simp[nL]
def znM(x y:Nat):CP (x:Int) (y:Int)=((x &&& y:Nat):Int):=by simp[CP]
theorem pw(w:Nat):((2^w:Nat):Int)=2^w:=by simp
def zcd(K:Nat):(0:Int)<2^K:=Do ()
def yD:Css:=match yp.body with
 |.cons _ (.cons _ (.cons _ r))=>r
 |_=>.nil
def zeP{c:Cl}{n:Nat}{w z a m:Int}{u5 u6 u7 u8 u9 u10 u11 u12:Option PV}{st:SO}(d:0<=a)(f:a<6)(g:16<=m):
  ∃x,0<=x/\x<m/\exs c [AA (.loc n),AA (.int w),AA (.int z),AA (.int a),AA (.int m),u5,u6,u7,u8,u9,u10,u11,u12] st yD=.rt (.int x) st:=by
 have b:a=0 \/ a=1 \/ a=2 \/ a=3 \/ a=4 \/ a=5:=by lia
 rcases b with rfl|rfl|rfl|rfl|rfl|rfl
 .refine#[0,by lia,by lia,?_];erw[yD,yp,xs_cons,x_asg,x_ite,x_ret,yX,nxO,IC.ve1,IC.ve2,IC.ve3,IC.ve8,IC.ve11,IC.ve16,IC.vsq0,IC.vsq1,R.fl,R.bind,yr,A4,A5,AO,AN,idxV,yau,at?,ixI,yq,binI,toR,yo,ya4,onF,yas];simp[sizeMax]
 .refine#[1,by lia,by lia,?_];erw[yD,yp,xs_cons,x_asg,x_ite,x_ret,yX,nxO,IC.ve1,IC.ve2,IC.ve3,IC.ve8,IC.ve11,IC.ve16,IC.vsq0,IC.vsq1,R.fl,R.bind,yr,A4,A5,AO,AN,idxV,yau,at?,ixI,yq,binI,toR,yo,ya4,onF,yas];simp[sizeMax]
 .refine#[m-1,by lia,by lia,?_];erw[yD,yp,xs_cons,x_asg,x_ite,x_ret,yX,nxO,IC.ve1,IC.ve2,IC.ve3,IC.ve8,IC.ve11,IC.ve16,IC.vsq0,IC.vsq1,R.fl,R.bind,yr,A4,A5,AO,AN,idxV,yau,at?,ixI,yq,binI,toR,yo,ya4,onF,yas];simp[sizeMax]
 .refine#[m/2,by lia,by lia,?_];erw[yD,yp,xs_cons,x_asg,x_ite,x_ret,yX,nxO,IC.ve1,IC.ve2,IC.ve3,IC.ve8,IC.ve11,IC.ve16,IC.vsq0,IC.vsq1,R.fl,R.bind,yr,A4,A5,AO,AN,idxV,yau,at?,ixI,yq,binI,toR,yo,ya4,onF,yas];simp[sizeMax]
 .refine#[m/2-1,by lia,by lia,?_];erw[yD,yp,xs_cons,x_asg,x_ite,x_ret,yX,nxO,IC.ve1,IC.ve2,IC.ve3,IC.ve8,IC.ve11,IC.ve16,IC.vsq0,IC.vsq1,R.fl,R.bind,yr,A4,A5,AO,AN,idxV,yau,at?,ixI,yq,binI,toR,yo,ya4,onF,yas];simp[sizeMax]
 .refine#[m-2,by lia,by lia,?_];erw[yD,yp,xs_cons,x_asg,x_ite,x_ret,yX,nxO,IC.ve1,IC.ve2,IC.ve3,IC.ve8,IC.ve11,IC.ve16,IC.vsq0,IC.vsq1,R.fl,R.bind,yr,A4,A5,AO,AN,idxV,yau,at?,ixI,yq,binI,toR,yo,ya4,onF,yas];simp[sizeMax]
def zgs(k:Nat){n:Nat}{c:List Int}(f:c.length<=1000){w z a m:Int}{u5 u6 u7 u8 u9 u10 u11 u12:Option PV}{st:SO}(h:Drw c n st)(g:9<a)(y:16<=m)(l:m<=340282366920938463463374607431768211456):
  ∃x b,0<=x/\x<m/\Onl c n st b/\exs (yc T (k+3)) [AA (.loc n),AA (.int w),AA (.int z),AA (.int a),AA (.int m),u5,u6,u7,u8,u9,u10,u11,u12] st yD=.rt (.int x) b:=by
 let#[d,o,p,q,r,j]:=zoD k f (m:=m) () () h;refine#[d,o,p,q,r,?_];have k1:¬a<6:=by lia
 have t:(a==6)=false:=by simp;lia
 have u:(a==7)=false:=by simp;lia
 erw[yD,yp,xs_cons,xs_nil,x_asg,x_ite,x_ret,x_for,IC.vjq0,IC.vjq1,IC.vjq2,IC.vjq3,IC.vjq4,IC.vjq5,IC.vjq6,IC.vjq7,IC.vjq8,IC.vjq9,ybr,toL,yX,nxO,IC.ve1,IC.ve2,IC.ve3,IC.ve8,IC.ve11,IC.ve16,IC.ve18,IC.vsq0,IC.vsq1,R.fl,R.bind,yr,A4,A5,AO,AN,idxV,yau,at?,ixI,yq,binI,toR,yo,ya4,onF,yas,yao,j,g,k1];simp[sizeMax,j,g,k1,t,u,zaV,peq]
def zfV{i j:Int}(h:i.natAbs<18446744073709551616):yao i j=true:=by simp[yao,h]
def zfm(k:Nat){n:Nat}{A:List Int}(c:A.length<=1000){w z B m:Int}{u5 u6 u7 u8 u9 u10 u11 u12:Option PV}{st:SO}(h:Drw A n st)(O:B=6 \/ B=7)(Q:4<=w)(C:w<=16)(U:1<=z)(D:z<=8)(E:m=2^(w*z).toNat):
  ∃x f,0<=x/\x<m/\Onl A n st f/\exs (yc T (k+3)) [AA (.loc n),AA (.int w),AA (.int z),AA (.int B),AA (.int m),u5,u6,u7,u8,u9,u10,u11,u12] st yD=.rt (.int x) f:=by
 have X:4<=w*z:=by have:=G6 Q U () ();lia
 have J:w*z<=128:=by have:=G6 C D () ();lia
 have Y:0<m:=E ▸ zcd _;have G:m<=340282366920938463463374607431768211456:=by
  have Z:(2:Nat)^(w*z).toNat<=2^128:=BM () ();have a:((2^(w*z).toNat:Nat):Int)=2^(w*z).toNat:=by simp
  rw[E,<-a];lia
 let#[d,s1,L,M,H,r]:=zoD k c (m:=m) () () h;let#[e,t,d3,d4,N,y]:=zoD k c (m:=w*z) () () (H.drw h);have hj:(2:Int)^e.toNat<m:=by rw[E];exact Int.pow_lt_pow_of_lt () ()
 have b:=zcd e.toNat;have g:(2:Int)^e.toNat<10000000000000000000000000000000000000000000000000000000000000000000000:=by lia
 have hq:(d/2^e.toNat).natAbs<18446744073709551616 \/ ((2:Int)^e.toNat).natAbs<18446744073709551616:=by
  rcases Ct e.toNat 64 with q|q
  .right;have h1:(2:Nat)^e.toNat<=2^63:=BM () ();have a:((2^e.toNat:Nat):Int)=2^e.toNat:=by simp
   lia
  .left;have h1:(2:Nat)^64<=2^e.toNat:=BM () q;have a:((2^e.toNat:Nat):Int)=2^e.toNat:=by simp
   have h2:(18446744073709551616:Int)<=2^e.toNat:=by lia
   have h3:d/2^e.toNat<18446744073709551616:=by refine DN b (HH M (Int.le_trans G ?_));have:=Bq h2 (show (0:Int)<=18446744073709551616 by lia);lia
   have h4:=Dj L (show (0:Int)<=2^e.toNat by lia);lia
 have l:yao (d/2^e.toNat) (2^e.toNat)=true:=by
  rcases hq with q|q
  .simp[yao,q]
  .simp only[yao,decide_eq_true q,JN]
 have o:w.natAbs<18446744073709551616:=by lia
 have p:e.natAbs<1000000000:=by lia
 rcases O with rfl|rfl
 .let#[u,I,_]:=dbl (call:=yc T (k+3)) (i:=8) (j:=5) () e.toNat 0 [AA (.loc n),AA (.int w),AA (.int z),AA (.int 6),AA (.int m),u5,AA (.tup [.int 0,.int 1,.int (m-1),.int (m/2),.int (m/2-1),.int (m-2)]),AA (.int d),AA (.int 1),u9,u10,u11,u12] 1 t rfl;refine#[d/2^e.toNat*2^e.toNat,t,FH (Dj L ()) (),Int.lt_of_le_of_lt (Int.ediv_mul_le d ()) M,H.trans N,?_];erw[yD,yp,xs_cons,xs_nil,x_asg,x_ite,x_ret,x_for,IC.vjq0,IC.vjq1,IC.vjq2,IC.vjq3,IC.vjq4,IC.vjq5,IC.vjq6,IC.vjq7,IC.vjq8,IC.vjq9,ybr,toL,yX,nxO,IC.ve1,IC.ve2,IC.ve3,IC.ve8,IC.ve11,IC.ve16,IC.ve18,IC.vsq0,IC.vsq1,R.fl,R.bind,yr,A4,A5,AO,AN,idxV,yau,at?,ixI,yq,binI,toR,yo,ya4,onF,yas,r,y];simp[sizeMax,zaV,peq,r,y,zfV o,p,I,b,g,l]
 .let#[u,I,_]:=dbl (call:=yc T (k+3)) (i:=8) (j:=5) () e.toNat 0 [AA (.loc n),AA (.int w),AA (.int z),AA (.int 7),AA (.int m),u5,AA (.tup [.int 0,.int 1,.int (m-1),.int (m/2),.int (m/2-1),.int (m-2)]),AA (.int d),AA (.int 1),u9,u10,u11,u12] 1 t rfl;refine#[m-2^e.toNat,t,by lia,by lia,H.trans N,?_];erw[yD,yp,xs_cons,xs_nil,x_asg,x_ite,x_ret,x_for,IC.vjq0,IC.vjq1,IC.vjq2,IC.vjq3,IC.vjq4,IC.vjq5,IC.vjq6,IC.vjq7,IC.vjq8,IC.vjq9,ybr,toL,yX,nxO,IC.ve1,IC.ve2,IC.ve3,IC.ve8,IC.ve11,IC.ve16,IC.ve18,IC.vsq0,IC.vsq1,R.fl,R.bind,yr,A4,A5,AO,AN,idxV,yau,at?,ixI,yq,binI,toR,yo,ya4,onF,yas,r,y];simp[sizeMax,zaV,peq,r,y,zfV o,p,I,b,g,l]
theorem Drw.refl{b:List Int}{n:Nat}{st:SO}(h:Drw b n st):Onl b n st st:=by let#[a,p,f,c,h]:=h;exact#[a,p,f,c,zim h]
def yaP:Css:=match yD with
 |.cons _ (.cons _ (.cons _ (.cons _ (.cons _ (.cons _ (.cons _ (.cons _ (.cons _ (.cons (.for _ _ b) _)))))))))=>b
 |_=>.nil
def zfe(k:Nat){n:Nat}{q:List Int}(r:q.length<=1000){p1 p2 p3 p4 p6 p8 u11 u12:Option PV}{d W acc a:Int}{st:SO}(h:Drw q n st)(C:0<=a)(x:a<1000)(D:4<=W)(y:W<18446744073709551616):
  ∃e j u w,0<=e/\e<W/\Onl q n st j/\exs (yc T (k+3)) [AA (.loc n),p1,p2,p3,p4,AA (.int a),p6,AA (.int d),p8,AA (.int W),AA (.int acc),u11,u12] st yaP=.nx [AA (.loc n),p1,p2,p3,p4,AA (.int a),p6,AA (.int d),p8,AA (.int W),AA (.int (acc*W+e)),u,w] j:=by
 let#[t,l,E,G,o,p]:=zoD k r (m:=5) () () h;have b:0<W:=by lia
 have c:W.natAbs<18446744073709551616:=by lia
 have f:0<a+1:=by lia
 have g:a+1<18446744073709551616*18446744073709551616:=by lia
 have z:=DH (d/(a+1)) (show W≠0 by lia);have A:=Ch (d/(a+1)) b;have B:t=0 \/ t=1 \/ t=2 \/ t=3 \/ t=4:=by lia
 rcases B with rfl|rfl|rfl|rfl|rfl
 .refine#[0,l,AA (.int (d/(a+1)%W)),AA (.tup [.int 0,.int 1,.int (W-1),.int (W/2),.int (d/(a+1)%W)]),by lia,by lia,o,?_];erw[yaP,yD,yp,xs_cons,xs_nil,x_asg,IC.ve1,IC.ve2,IC.ve3,IC.ve11,IC.ve16,IC.ve18,IC.vsq0,IC.vsq1,AO,AN,bd_ok,fl_ok,toR_some,bT_n,nxO_some,th_nx,A4,A5,b_add,b_sub,zds f g,zco b,b_div2,zaC c,p,ix0,ix1,ix2,ix3,ix4,AY,Aj,BS,B9,sizeMax,C8,if_true]
 .refine#[1,l,AA (.int (d/(a+1)%W)),AA (.tup [.int 0,.int 1,.int (W-1),.int (W/2),.int (d/(a+1)%W)]),by lia,by lia,o,?_];erw[yaP,yD,yp,xs_cons,xs_nil,x_asg,IC.ve1,IC.ve2,IC.ve3,IC.ve11,IC.ve16,IC.ve18,IC.vsq0,IC.vsq1,AO,AN,bd_ok,fl_ok,toR_some,bT_n,nxO_some,th_nx,A4,A5,b_add,b_sub,zds f g,zco b,b_div2,zaC c,p,ix0,ix1,ix2,ix3,ix4,AY,Aj,BS,B9,sizeMax,C8,if_true]
 .refine#[W-1,l,AA (.int (d/(a+1)%W)),AA (.tup [.int 0,.int 1,.int (W-1),.int (W/2),.int (d/(a+1)%W)]),by lia,by lia,o,?_];erw[yaP,yD,yp,xs_cons,xs_nil,x_asg,IC.ve1,IC.ve2,IC.ve3,IC.ve11,IC.ve16,IC.ve18,IC.vsq0,IC.vsq1,AO,AN,bd_ok,fl_ok,toR_some,bT_n,nxO_some,th_nx,A4,A5,b_add,b_sub,zds f g,zco b,b_div2,zaC c,p,ix0,ix1,ix2,ix3,ix4,AY,Aj,BS,B9,sizeMax,C8,if_true]
 .refine#[W/2,l,AA (.int (d/(a+1)%W)),AA (.tup [.int 0,.int 1,.int (W-1),.int (W/2),.int (d/(a+1)%W)]),by lia,by lia,o,?_];erw[yaP,yD,yp,xs_cons,xs_nil,x_asg,IC.ve1,IC.ve2,IC.ve3,IC.ve11,IC.ve16,IC.ve18,IC.vsq0,IC.vsq1,AO,AN,bd_ok,fl_ok,toR_some,bT_n,nxO_some,th_nx,A4,A5,b_add,b_sub,zds f g,zco b,b_div2,zaC c,p,ix0,ix1,ix2,ix3,ix4,AY,Aj,BS,B9,sizeMax,C8,if_true]
 .refine#[d/(a+1)%W,l,AA (.int (d/(a+1)%W)),AA (.tup [.int 0,.int 1,.int (W-1),.int (W/2),.int (d/(a+1)%W)]),z,A,o,?_];erw[yaP,yD,yp,xs_cons,xs_nil,x_asg,IC.ve1,IC.ve2,IC.ve3,IC.ve11,IC.ve16,IC.ve18,IC.vsq0,IC.vsq1,AO,AN,bd_ok,fl_ok,toR_some,bT_n,nxO_some,th_nx,A4,A5,b_add,b_sub,zds f g,zco b,b_div2,zaC c,p,ix0,ix1,ix2,ix3,ix4,AY,Aj,BS,B9,sizeMax,C8,if_true]
def zbS(k:Nat){n:Nat}{m:List Int}(g:m.length<=1000){p1 p2 p3 p4 p6 p8:Option PV}{d W:Int}(t:4<=W)(j:W<18446744073709551616):∀(r i:Nat) (a acc:Int) (u5 u11 u12:Option PV) (st:SO),0<=a->a+r<1000->0<=acc->acc<W^i->Drw m n st ->
  ∃b l x c f,0<=b/\b < W^(i+r)/\Onl m n st l/\yaX (yc T (k+3)) (.n 5) yaP (yg r a 1) [AA (.loc n),p1,p2,p3,p4,u5,p6,AA (.int d),p8,AA (.int W),AA (.int acc),u11,u12] st=.nx [AA (.loc n),p1,p2,p3,p4,x,p6,AA (.int d),p8,AA (.int W),AA (.int b),c,f] l
 |0,i,a,acc,u5,u11,u12,st,_,_,o,u,h=>#[acc,st,u5,u11,u12,o,u,h.refl,by rw[yg,zo]]
 |r+1,i,a,acc,u5,u11,u12,st,y,J,o,u,h=>by
  let#[e,z,c,f,L,M,w,A]:=zfe k g (p1:=p1) (p2:=p2) (p3:=p3) (p4:=p4) (p6:=p6) (p8:=p8) (u11:=u11) (u12:=u12) (d:=d) (acc:=acc) h y () t j;have B:acc*W+e<W^(i+1):=by have:=Int.mul_le_mul_of_nonneg_right (show acc<=W^i-1 by lia) (show 0<=W by lia);rw[Int.sub_mul,Cq]at this;rw[Bv];lia
  have C:0<=acc*W:=FH o ();let#[b,D,E,p,q,G,H,I,hf]:=zbS k g (p1:=p1) (p2:=p2) (p3:=p3) (p4:=p4) (p6:=p6) (p8:=p8) (d:=d) t j r (i+1) (a+1) (acc*W+e) (AA (.int a)) c f z () () () B (w.drw h);refine#[b,D,E,p,q,G,by rw[show i+(r+1)=i+1+r by lia];exact H,w.trans I,?_];rw[yg,zm (ρ1:=[AA (.loc n),p1,p2,p3,p4,AA (.int a),p6,AA (.int d),p8,AA (.int W),AA (.int acc),u11,u12]) rfl,A];exact hf
def zdz(k:Nat){n:Nat}{B:List Int}(o:B.length<=1000){w z:Nat}{l m:Int}{u5 u6 u7 u8 u9 u10 u11 u12:Option PV}{st:SO}(h:Drw B n st)(hk:l=8 \/ l=9)(hw:4<=w)(p:w<=16)(hz:1<=z)(C:z<=8)(D:m=2^(w*z)):
  ∃x q,0<=x/\x<m/\Onl B n st q/\exs (yc T (k+3)) [AA (.loc n),AA (.int w),AA (.int z),AA (.int l),AA (.int m),u5,u6,u7,u8,u9,u10,u11,u12] st yD=.rt (.int x) q:=by
 have y:w*z<=128:=BK p C;have M:0<m:=D ▸ zcd _;have N:m<=340282366920938463463374607431768211456:=by have O:(2:Nat)^(w*z)<=2^128:=BM () y;rw[D,<-pw];lia
 let#[d,H,d1,d2,I,Q]:=zoD k o (m:=m) () () h;have E:(4:Int)<=2^w:=by have h:(2:Nat)^2<=2^w:=BM () ();have U:=pw w;lia
 have G:(2:Int)^w<18446744073709551616:=by have h:(2:Nat)^w<=2^16:=BM () p;have U:=pw w;lia
 have X:ybr (.int (w:Int))=AA (yg w 0 1):=zK w ();have Y:ybr (.int (z:Int))=AA (yg z 0 1):=zK z ();have k1:¬l<6:=by lia
 have Z:(l==6)=false:=by simp;lia
 have k3:(l==7)=false:=by simp;lia
 have k4:¬9<l:=by lia
 let#[u,J,_]:=dbl (call:=yc T (k+3)) (i:=9) (j:=5) () w 0 [AA (.loc n),AA (.int w),AA (.int z),AA (.int l),AA (.int m),u5,AA (.tup [.int 0,.int 1,.int (m-1),.int (m/2),.int (m/2-1),.int (m-2)]),AA (.int d),u8,AA (.int 1),u10,u11,u12] 1 H rfl;erw[A4,A5,G4]at J;let#[A,s2,w5,w11,w12,f0,L,o2,hf]:=zbS k o (p1:=AA (.int w)) (p2:=AA (.int z)) (p3:=AA (.int l)) (p4:=AA (.int m)) (p6:=AA (.tup [.int 0,.int 1,.int (m-1),.int (m/2),.int (m/2-1),.int (m-2)])) (p8:=u8) (d:=d) (W:=2^w) E G z 0 0 0 u u11 u12 H () () () (by simp) (I.drw h);rw[BS,<-DA,<-D]at L;refine#[A,s2,f0,L,I.trans o2,?_]
 have hR:yD=.cons (.asg (.n 6) (.tup (.cons (.cst (.int 0)) (.cons (.cst (.int 1)) (.cons (.bin .sub (.var 4) (.cst (.int 1))) (.cons (.bin .fdiv (.var 4) (.cst (.int 2))) (.cons (.bin .sub (.bin .fdiv (.var 4) (.cst (.int 2))) (.cst (.int 1))) (.cons (.bin .sub (.var 4) (.cst (.int 2))) .nil)))))))) (match yD with
  |.cons _ (.cons a (.cons b (.cons c (.cons d (.cons e (.cons f (.cons g (.cons h (.cons (.for t i _) r)))))))))=>.cons a (.cons b (.cons c (.cons d (.cons e (.cons f (.cons g (.cons h (.cons (.for t i yaP) r))))))))
  |_=>.nil):=rfl
 rw[hR];erw[yD,yp,xs_cons,xs_nil,x_asg,x_ite,x_ret,x_for,IC.vjq0,IC.vjq1,IC.vjq2,IC.vjq3,IC.vjq4,IC.vjq5,IC.vjq6,IC.vjq7,IC.vjq8,IC.vjq9,X,Y,toL,IC.ve1,IC.ve2,IC.ve3,IC.ve8,IC.ve11,IC.ve16,IC.ve18,IC.vsq0,IC.vsq1,bd_ok,fl_ok,toR_some,bT_n,nxO_some,th_nx,th_rt,A4,A5,AO,AN,b_sub,b_div2,c_lt,c_eq,c_gt,on_t,t_bl,k1,Z,k3,k4,decide_false,cond_false,Q,J,hf,AY,Aj,BS,B9,sizeMax,C8,if_true]
theorem worth(k:Nat){n:Nat}{y:List Int}(f:y.length<=1000)(w z:Nat)(G:4<=w)(l:w<=16)(H:1<=z)(o:z<=8){st:SO}(h:Drw y n st):
  ∃x d,0<=x/\x<2^(w*z)/\Onl y n st d/\yc T (k+4) yhQ [.loc n,.int w,.int z] st=.ok (.int x) d:=by
 let#[g,p,M,d2,I,N]:=zoD k f (m:=12) () () h;have A:=I.drw h;have r:w*z<=128:=BK l o;have B:4<=w*z:=BK G H;have J:(16:Int)<=2^(w*z):=by have h:(2:Nat)^4<=2^(w*z):=BM () B;have O:=pw (w*z);lia
 have C:(2:Int)^(w*z)<=340282366920938463463374607431768211456:=by have h:(2:Nat)^(w*z)<=2^128:=BM () r;have O:=pw (w*z);lia
 have D:(w:Int).natAbs<18446744073709551616:=by lia
 have t:(w:Int)*(z:Int)=((w*z:Nat):Int):=by simp
 have Q:ybr (.int ((w*z:Nat):Int))=AA (yg (w*z) 0 1):=zK _ ();let#[u,L,_]:=dbl (call:=yc T (k+3)) (i:=4) (j:=5) () (w*z) 0 [AA (.loc n),AA (.int w),AA (.int z),AA (.int g),AA (.int 1),AD,AD,AD,AD,AD,AD,AD,AD] 1 p rfl;erw[A4,A5,G4]at L;have E:∃x d,0<=x/\x<2^(w*z)/\Onl y n p d/\exs (yc T (k+3)) [AA (.loc n),AA (.int w),AA (.int z),AA (.int g),AA (.int (2^(w*z))),u,AD,AD,AD,AD,AD,AD,AD] p yD=.rt (.int x) d:=by
  rcases (by lia:g<6 \/ (g=6 \/ g=7) \/ (g=8 \/ g=9) \/ 9<g)with q|q|q|q
  .let#[x,a,b,e]:=zeP (c:=yc T (k+3)) (n:=n) (w:=w) (z:=z) (st:=p) (u5:=u) (u6:=AD) (u7:=AD) (u8:=AD) (u9:=AD) (u10:=AD) (u11:=AD) (u12:=AD) M q J;exact#[x,p,a,b,A.refl,e]
  .exact zfm k f A q () () () () (by rw[t,CV])
  .exact zdz k f A q G l H o rfl
  .exact zgs k f A q J C
 let#[x,U,a,b,X,Y]:=E;refine#[x,U,a,b,I.trans X,?_];have Z:T yhQ=AA #[3,13,AC,yp.body]:=rfl;have hb:yp.body=.cons (.asg (.n 3) (.call 28 (.cons (.var 0) (.cons (.cst (.int 12)) .nil)))) (.cons (.asg (.n 4) (.cst (.int 1))) (.cons (.for (.n 5) (.range1 (.bin .mul (.var 1) (.var 2))) (.cons (.asg (.n 4) (.bin .mul (.cst (.int 2)) (.var 4))) .nil)) yD)):=rfl;rw[yc,Z,hb];erw[AY,Aj,BS,B9,if_true,Aw,if_false,AV,Az,Bs,AT,BQ,B6];rw[xs_cons,x_asg];erw[IC.ve18,IC.ve1,IC.ve2,IC.vsq0,IC.vsq1,AO,AN,bd_ok,fl_ok,N,bT_n,nxO_some,th_nx,A4,A5];rw[xs_cons,x_asg];erw[IC.ve1,bd_ok,fl_ok,bT_n,nxO_some,th_nx,A4,A5];rw[xs_cons,x_for];erw[IC.vjq0,IC.vjq1,IC.vjq2,IC.vjq3,IC.vjq4,IC.vjq5,IC.vjq6,IC.vjq7,IC.vjq8,IC.vjq9,IC.ve2,IC.ve3,AO,AN,bd_ok,fl_ok,zap D,t,Q,toL,toR_some,L,th_nx,Y]
def dv(W:Int):List Int->Int
 |[]=>0
 |d::a=>d+W*dv W a
def inW(W:Int)(a:List Int):Prop:=∀d∈a,0<=d/\d<W
def zed{W:Int}(f:0<W):∀c,inW W c->0<=dv W c/\dv W c<W^c.length
 |[],_=>by simp[dv]
 |d::c,h=>by let#[a,b]:=zed f c λx g=>h x (AS _ g);let#[l,m]:=h d A2;rw[dv,AY,Bv,CF (W^c.length)];have n:0<=W*dv W c:=FH () a;have j:W*dv W c<=W*(W^c.length-1):=Bq () ();rw[IA]at j;generalize W*W^c.length=P at *;lia
def zeq{W:Int}(g:0<W):∀(a:List Int) (i:Nat),inW W a->i<a.length->dv W a/W^i%W=a.getD i 0
 |[],i,_,b=>by simp at b
 |d::a,0,h,_=>by let#[c,f]:=h d A2;rw[dv,GL,HR,FI,Hf c f];rfl
 |d::a,i+1,h,b=>by
  let#[c,f]:=h d A2;have ih:=zeq g a i (λx j=>h x (AS _ j)) (by simpa using b);have e:(d+W*dv W a)/W=dv W a:=by rw[GX _ _ (),GM c f,JO]
  rw[dv,Bv,CF (W^i),<-Fp (),e,ih];rfl
def zj5{W:Int}(b:0<W)(a:List Int)(i:Nat)(h:inW W a)(c:i<a.length)(q:Int):(dv W a-q*W^a.length)/W^i%W=a.getD i 0:=by
 have f:0<W^i:=Do b;obtain⟨j,d⟩:∃j,a.length=i+(j+1):=#[a.length-i-1,by lia];have e:dv W a-q*W^a.length=dv W a+W^i*(W*(-(q*W^j))):=by
  rw[d,J5,Bv];have:W^i*(W*(-(q*W^j)))=-(q*(W^i*(W^j*W))):=by
   rw[J6,J6]
   congr 1
   rw[FY q,FY W q,CF W]
  lia
 rw[e,GX _ _ (),FI,zeq b a i h c]
def zfz(W:Int):∀b:List Int,b.foldr (λd a=>a*W+d) 0=dv W b
 |[]=>rfl
 |d::b=>by rw[List.foldr_cons,zfz W b,dv,CF];lia
def zm9(W:Int)(b:List Int):b.reverse.foldl (λa d=>a*W+d) 0=dv W b:=by rw[List.foldl_reverse];exact zfz W b
def zdQ{w:Nat}(G:1<=w){a:List Int}{n:Nat}(z:a.length=n+1)(h:inW (2^w) a):
  a.getD n 0/2^(w-1)=bi (decide (2^w/2<=a.getD n 0))/\-(2^(w*(n+1)-1))<=dv (2^w) a-bi (decide (2^w/2<=a.getD n 0))*2^(w*(n+1))/\dv (2^w) a-bi (decide (2^w/2<=a.getD n 0))*2^(w*(n+1))<2^(w*(n+1)-1):=by
 have f:(0:Int)<2^w:=Do ();have q:=zeq f a n h ();let#[A,r]:=zed f a h;rw[z,Bv]at r;have t:(0:Int)<(2^w)^n:=Do f;have g:dv (2^w) a/(2^w)^n<2^w:=DN t (by rw[CF];exact r);have b:0<=dv (2^w) a/(2^w)^n:=Dj A ();rw[Hf b g]at q;have e:=GY (dv (2^w) a) ((2^w)^n);have H:=DH (dv (2^w) a) (show ((2:Int)^w)^n≠0 by lia);have I:=Ch (dv (2^w) a) t;rw[q]at e g b;obtain⟨v,rfl⟩:∃v,w=v+1:=#[w-1,by lia];have j:(2:Int)^(v+1)=2*2^v:=by rw[Bv,CF]
 have u:(0:Int)<2^v:=Do ();have B:(2:Int)^(v+1)/2=2^v:=by rw[j];lia
 have C:(2:Int)^((v+1)*(n+1))=2*(2^v*(2^(v+1))^n):=by rw[DA,Bv,CF,j,Gz]
 have l:(2:Int)^((v+1)*(n+1)-1)=2^v*(2^(v+1))^n:=by
  have D:(v+1)*(n+1)-1=v+(v+1)*n:=by rw[Nat.mul_add];lia
  rw[D,J5,DA]
 rw[B,show v+1-1=v by lia,C,l];generalize a.getD n 0=d,dv (2^(v+1)) a=V at *;generalize V%(2^(v+1))^n=m at *;generalize ((2:Int)^(v+1))^n=P at *;rw[j]at g
 by_cases c:(2:Int)^v<=d
 .rw[decide_eq_true c,show bi AE=1 from rfl,Cq];have o:d/2^v=1:=by
   have:d/2^v<2:=DN u ();have:1<=d/2^v:=by rw[GJ u];lia
   lia
  have E:P*2^v<=P*d:=Bq c ();have p:P*d<=P*(2*2^v-1):=Bq () ();rw[IA,FY]at p;rw[CF (2^v) P];generalize P*d=x,P*2^v=y at *;refine#[o,?_,?_]<;>lia
 .rw[decide_eq_false c,show bi AC=0 from rfl,JP];have o:d/2^v=0:=GM b ();have E:0<=P*d:=FH () b;have p:P*d<=P*(2^v-1):=Bq () ();rw[IA]at p;rw[CF (2^v) P];generalize P*d=x,P*2^v=y at *;refine#[o,?_,?_]<;>lia
local macro_rules | `(tactic| simp! [$xs,*])=>do
 let l<-("IC.xs_cons IC.xs_nil IC.x_asg IC.x_ite IC.x_ret IC.x_expr IC.x_for IC.x_six IC.x_try IC.evs IC.evi IC.ve1 IC.ve2 IC.ve3 IC.ve4 IC.ve5 IC.ve6 IC.ve7 IC.ve8 IC.ve9 IC.ve10 IC.ve11 IC.ve13 IC.ve15 IC.ve16 IC.ve17 IC.ve18 IC.ve19 IC.ve20 IC.ve21 IC.ve24 IC.ve25 IC.ve26 IC.v_comp List.getElem?_cons_zero List.getElem?_cons_succ WK.bd_ok WK.fl_ok WK.bd_exc WK.fl_exc WK.toR_some IC.toL WK.bT_n WK.nxO_some WK.th_nx WK.th_rt WK.th_exc List.set_cons_zero List.set_cons_succ WK.on_t WK.t_bl WK.ono IC.onBl cond_true cond_false List.length_cons List.length_nil Nat.zero_add Nat.reduceAdd Nat.reduceSub Nat.reduceLeDiff if_true IC.nL IC.nLs WK.noLocs_ints Bool.and_self Bool.not_true Bool.not_false List.map_cons List.map_nil List.replicate List.cons_append List.nil_append List.append_nil Option.bind_none Option.bind_some Option.join_some WK.b_add WK.b_sub WK.b_mul2 WK.b_div2 WK.c_lt WK.c_le WK.c_gt WK.c_ge WK.c_eq WK.c_ne IC.PV.tup IC.sizeMax".splitOn " ").toArray.mapM λs=>`(Lean.Parser.Tactic.simpLemma| $(Lean.mkIdent s.toName):term)
 `(tactic| simp only[$l,*,$xs,*])
def zgy{i:Int}{j:Nat}(h:i.natAbs<18446744073709551616)(a:j<=1000000):yq .shl (.int i) (.int j)=AA (.int (i*2^j)):=by simp[yq,binI,h];lia
def zkm{i:Int}{j:Nat}:yq .shr (.int i) (.int j)=AA (.int (i/2^j)):=by simp[yq,binI]
def za3(w:Nat):(0:Int)<2^w:=Do ()
def zkG{w:Nat}(a:w<=16):(2:Int)^w<=65536:=by
 have h:(2:Nat)^w<=2^16:=BM () a;have b:((2^w:Nat):Int)=2^w:=by simp
 lia
def zda{w:Nat}:∀(a:List Int) (k:Nat),ycv (((yw k (a.map .int))).map λp=>match p with
  |.tp _ [.int i,.int d]=>.int (d*2^(w*i.toNat))
  |_=>.non)=AA ((2^w)^k*dv (2^w) a)
 |[],k=>by simp[yw,ycv,dv]
 |d::a,k=>by
  have ih:=zda (w:=w) a (k+1);erw[AV,yw,ycv];erw[CV];rw[ih];erw[dv]
  congr 1
  rw[Bv,DA,Int.mul_add,CF d,Gz]
def zeh(k:Nat)(a:List Int)(w:Nat)(q:w<=16)(h:inW (2^w) a)(E:a.length<=8)(st:SO):yc T (k+1) yf2 [.tup (a.map .int),.int w] st=.ok (.int (dv (2^w) a)) st:=by
 have y:T yf2=AA ydr:=rfl;have G:=zkG q
 have z:yM (yc T k) [AD,AD,AA (.int w)] (.t [0,1]) (.cst (.bl AE)) (.bin .shl (.var 1) (.bin .mul (.var 2) (.var 0))) (yw 0 (a.map .int)) []=.ok (((yw 0 (a.map .int))).map λp=>match p with
  |.tp _ [.int i,.int d]=>.int (d*2^(w*i.toNat))
  |_=>.non) []:=by
  refine zac _ λp b=>?_;have g:∀(a:List Int) (j:Nat),inW (2^w) a->j+a.length<=8->∀p∈yw j (a.map .int),∃(i:Nat) (d:Int),p=.tup [.int i,.int d]/\0<=d/\d<2^w/\i<=8:=by
   intro a
   induction a with
   |nil=>intro j _ _ p b;simp[yw]at b
   |cons d a ih=>
    intro j r u p b;erw[AV,yw,A8]at b;rcases b with rfl|b
    .have:=r d A2;erw[AY]at u;exact#[j,d,rfl,this.1,this.2,by lia]
    .exact ih (j+1) (λx g=>r x (AS _ g)) (by erw[AY]at u;lia) p b
  let#[i,d,rfl,H,I,A]:=g a 0 h () p b;have l:(w:Int).natAbs<18446744073709551616:=by lia
  have B:(w:Int)*(i:Int)=((w*i:Nat):Int):=by simp
  have C:w*i<=16*8:=BK q A;have m:yr (.t [0,1]) (.tup [.int i,.int d]) [AD,AD,AA (.int w)]=AA [AA (.int i),AA (.int d),AA (.int w)]:=rfl;simp only[ybK,m,IC.ve1,IC.ve2,IC.ve3,AO,AN,bd_ok,t_bl,ono,cond_true,zap l,B,toR_some,zgy (show d.natAbs<18446744073709551616 by lia) (show w*i<=1000000 by lia)];rfl
 have D:=zda (w:=w) a 0;have n:∀f:List PV,f.length<=1000000->∀st,ybp (.ok f st)=.ok (.lst f) st:=λf h st=>by simp[ybp,h]
 have o:(yw 0 (a.map .int)).length=a.length:=by
  have:∀(c:List PV) (j:Nat),(yw j c).length=c.length:=by
   intro c
   induction c with
   |nil=>intro j;rfl
   |cons x c ih=>intro j;simp[yw,ih]
  rw[this,Ae]
 rw[yc,y];erw[ydr,AY,Aj,BS,B9,if_true,nLs,nL,noLocs_ints,C5,AV,Az,Bs,AT,B5,xs_cons,xs_nil,x_ret,IC.ve19,IC.vsq0,IC.vsq1,v_comp,IC.vjq0,IC.vjq1,IC.vjq2,IC.vjq3,IC.vjq4,IC.vjq5,IC.vjq6,IC.vjq7,IC.vjq8,IC.vjq9,IC.ve2,AO,AN,bd_ok,fl_ok,PV.tup,Fq,BI,Ff,z];rw[n _ (by rw[Ae,o];lia)];erw[bd_ok,yaf,yJ,BI,D,Bu,toR_some,fl_ok,th_rt,nL,if_true,GL,Cq]
def zhV(st:SO)(a:List Int){n:Nat}(b:a.length=n+1):idxV st (.tup (a.map .int)) (.int (-1))=AA (.int (a.getD n 0)):=by
 have c:ixI (a.map PV.int).length (-1)=AA n:=by simp[ixI,b];lia
 erw[idxV,PV.tup,yau,at?,c,BI];rw[BG,Ac (),BN,Ac ()];rfl
def zpl{call:Cl}{ρ:IC.Env}{st:SO}:ev call ρ st (.neg (.cst (.int 1)))=.ok (.int (-1)) st:=by erw[IC.ve4,IC.ve1,bd_ok]
def zjW(k:Nat)(a:List Int){n:Nat}(c:a.length=n+1)(w:Nat)(g:1<=w)(st:SO):yc T (k+1) yhI [.tup (a.map .int),.int w] st=.ok (.int (a.getD n 0/2^(w-1))) st:=by
 have d:T yhI=AA ye9:=rfl;have b:=zhV [] a c;have f:(w:Int)-1=((w-1:Nat):Int):=by lia
 erw[PV.tup]at b;rw[yc,d];erw[ye9,AY,Aj,BS,B9,if_true,nLs,nL,noLocs_ints,C5,AV,Az,Bs,AT,B5,xs_cons,xs_nil,x_ret,IC.ve3,IC.ve16,IC.ve2,IC.ve1,zpl,AO,AN,bd_ok,fl_ok,PV.tup,b,toR_some,b_sub,f,zkm,th_rt]
def zde(k:Nat)(V:Int)(b:List Int){n:Nat}(H:b.length=n)(I:n<=8)(w:Nat)(z:w<=16)(A:∀i,i<n->V/(2^w)^i%2^w=b.getD i 0)(st:SO):yc T (k+1) yhJ [.int V,.int w,.int n] st=.ok (.tup (b.map .int)) st:=by
 have B:T yhJ=AA ym:=rfl;have l:(w:Int).natAbs<18446744073709551616:=by lia
 have m:yq .shl (.int 1) (.int w)=AA (.int (2^w)):=by rw[zgy ⋯ (show w<=1000000 by lia),Cq]
 have C:∀(N:Nat) (a:Int),∀x∈yg N a 1,∃j:Nat,x=.int (a+j)/\j<N:=by
  intro N
  induction N with
  |zero=>intro a x d;simp[yg]at d
  |succ N ih=>
   intro a x d;erw[yg,A8]at d;rcases d with rfl|d
   .exact#[0,by simp,by lia]
   .let#[j,e,t]:=ih (a+1) x d;exact#[j+1,by rw[e];congr 1;lia,by lia]
 have u:yM (yc T k) [AD,AA (.int (2^w-1)),AA (.int V),AA (.int w)] (.n 0) (.cst (.bl AE)) (.bin .band (.bin .shr (.var 2) (.bin .mul (.var 3) (.var 0))) (.var 1)) (yg n 0 1) []=.ok ((yg n 0 1).map λp=>match p with
  |.int i=>.int (b.getD i.toNat 0)
  |_=>.non) []:=by
  refine zac _ λp D=>?_;let#[j,rfl,t]:=C n 0 p D;rw[JO];have E:(w:Int)*(j:Int)=((w*j:Nat):Int):=by simp
  have G:CP (V/2^(w*j)) (2^w-1)=b.getD j 0:=by rw[PySem.W.kbt_mask,DA,A j t]
  erw[ybK,bT_n,A4,IC.ve1,IC.ve2,IC.ve3,AO,AN,bd_ok,t_bl,ono,cond_true,zap l,E,toR_some,zkm,zor,G];rfl
 have f:∀(N:Nat) (a:Nat),(yg N (a:Int) 1).map (λp=>match p with
  |.int i=>PV.int (b.getD i.toNat 0)
  |_=>.non)=((DR N).map λi=>PV.int (b.getD (a+i) 0)):=by
  intro N
  induction N with
  |zero=>intro a;rfl
  |succ N ih=>
   intro a;rw[yg,AV,List.range_succ_eq_map,AV,D5];have:=ih (a+1);rw[show ((a+1:Nat):Int)=(a:Int)+1 by lia]at this;rw[this]
   congr 1
   refine Go λi _=>?_;erw[Function.comp];rw[show a+1+i=a+(i+1)by lia]
 have c:=f n 0;have o:((DR n).map λi=>PV.int (b.getD (0+i) 0))=b.map .int:=by
  refine DO λi=>?_;rw[BG,BG]
  by_cases y:i<n
  .rw[Gq y,Ac (show i<b.length by lia)];erw[Bu,BS];rw[BN,Ac (show i<b.length by lia)];rfl
  .rw[BA (by simpa using y),BA ()];rfl
 rw[o]at c;rw[show ((0:Nat):Int)=0 from rfl]at c;rw[c]at u;have q:∀g:List PV,g.length<=1000000->∀st,ybp (.ok g st)=.ok (.lst g) st:=λg h st=>by simp[ybp,h]
 have r:=zK n ();rw[yc,B];erw[ym,AY,Aj,BS,B9,if_true,nLs,nL,C5,AV,Az,Bs,AT,BQ,B6,xs_cons,xs_nil,x_asg,x_ret,IC.ve3,IC.ve1,IC.ve2,IC.ve19,IC.vsq0,IC.vsq1,v_comp,IC.vjq0,IC.vjq1,IC.vjq2,IC.vjq3,IC.vjq4,IC.vjq5,IC.vjq6,IC.vjq7,IC.vjq8,IC.vjq9,AO,AN,bd_ok,fl_ok,toR_some,m,b_sub,bT_n,nxO_some,th_nx,A4,A5,r,toL,Fq,BI,Ff,u];rw[q _ (by rw[Ae];lia)];erw[bd_ok,yaf,ydR,yJ,Bu,toR_some,fl_ok,th_rt,PV.tup,nL,noLocs_ints,if_true]
theorem Drw.pos{b:List Int}{st:SO}(h:Drw b 0 st):0<st.length:=by
 let#[a,p,f,c,h]:=h;rcases Ct 0 st.length with z|z
 .exact z
 .rw[BA z]at h;cases h
theorem Drw.app{b:List Int}{st:SO}(h:Drw b 0 st)(o:Ob):Drw b 0 (st++[o]):=by have c:=h.pos;let#[a,p,f,d,h]:=h;exact#[a,p,f,d,by rw[A7 c];exact h]
theorem Drw.put{b:List Int}{st:SO}(h:Drw b 0 st){L:Nat}(c:L≠0)(o:Ob):Drw b 0 (st.set L o):=by let#[a,p,f,d,h]:=h;exact#[a,p,f,d,by rw[AW c];exact h]
theorem Onl.get{c:List Int}{st b:SO}(o:Onl c 0 st b){L:Nat}(d:L≠0):b[L]?=st[L]?:=by let#[a,p,f,g,rfl]:=o;rw[AW (BR d)]
def zfj(l:List Int):nLs [PV.scr (l.map .int)]=true:=by simp[nLs,nL,noLocs_ints]
def dg(W:Int):Nat->Int->List Int
 |0,_=>[]
 |n+1,x=>x%W::dg W n (x/W)
def zi1(W:Int):∀n x,(dg W n x).length=n
 |0,x=>rfl
 |n+1,x=>by simp[dg,zi1 W n]
def zni{W:Int}(a:0<W):∀n x,inW W (dg W n x)
 |0,x,d,h=>by simp[dg]at h
 |n+1,x,d,h=>by
  erw[dg,A8]at h;rcases h with rfl|h
  .exact#[DH _ (),Ch _ a]
  .exact zni a n _ d h
def zmo{W:Int}(b:0<W):∀n x,0<=x->x<W^n->dv W (dg W n x)=x
 |0,x,c,a=>by simp at a;simp[dg,dv];lia
 |n+1,x,c,a=>by have d:x/W<W^n:=DN b (by rw[Bv]at a;exact a);rw[dg,dv,zmo b n _ (Dj c ()) d];have:=GY x W;lia
def ybj:Css:=match yaj.body with
 |.cons _ (.cons _ (.cons (.for _ _ b) _))=>b
 |_=>.nil
def zbK{c:Cl}{p1 p2:Option PV}{W:Int}(b:0<W)(d:W<18446744073709551616):∀(N:Nat) (a x:Int) (acc:List Int) (u:Option PV),acc.length+N<1000 ->
  ∃v y,yaX c (.n 5) ybj (yg N a 1) [AA (.int x),p1,p2,AA (.int W),AA (.loc 0),u] [.lst (acc.map .int)]=.nx [AA (.int y),p1,p2,AA (.int W),AA (.loc 0),v] [.lst ((acc++dg W N x).map .int)]
 |0,a,x,acc,u,h=>#[u,x,by rw[yg,zo,dg,B5]]
 |N+1,a,x,acc,u,h=>by
  let#[v,y,e]:=zbK b d N (a+1) (x/W) (acc++[x%W]) (AA (.int a)) (by simp;lia) (c:=c) (p1:=p1) (p2:=p2);refine#[v,y,?_];have f:yaw .append [.lst (acc.map .int)] (.loc 0)=AA true:=rfl;have g:yaR .append [.lst (acc.map .int)] (.loc 0) [.int (x%W)]=.ok .non [.lst ((acc++[x%W]).map .int)]:=by erw[yaR,ydP,AO,Ae];rw[if_pos ()];simp
  have j:exs c [AA (.int x),p1,p2,AA (.int W),AA (.loc 0),AA (.int a)] [.lst (acc.map .int)] ybj=.nx [AA (.int (x/W)),p1,p2,AA (.int W),AA (.loc 0),AA (.int a)] [.lst ((acc++[x%W]).map .int)]:=by simp! [ybj,yaj,f,zco b,g,zds b (show W<18446744073709551616*18446744073709551616 by lia)]
  rw[yg,zm (ρ1:=[AA (.int x),p1,p2,AA (.int W),AA (.loc 0),AA (.int a)]) rfl,j,dg];rw[FU]at e;exact e
theorem words(k:Nat)(x:Int)(w n:Nat)(d:w<=16)(m:n<=8)(st:SO):yc T (k+2) yhS [.int x,.int w,.int n] st=.ok (.tup ((dg (2^w) n x).map .int)) st:=by
 have f:T yhS=AA #[3,6,AE,yaj.body]:=rfl;have g:=zfG k w () [];have o:=zkG d;have j:=zK n ();let#[v,y,e]:=zbK (c:=yc T (k+1)) (p1:=AA (.int w)) (p2:=AA (.int n)) (za3 w) (show (2:Int)^w<18446744073709551616 by lia) n 0 x [] AD (by simp;lia)
 have l:yaj.body=(match yaj.body with
  |.cons a (.cons b (.cons (.for t i _) r))=>.cons a (.cons b (.cons (.for t i ybj) r))
  |_=>.nil):=rfl
 have e:yaX (yc T (k+1)) (.n 5) ybj (yg n 0 1) [AA (.int x),AA (.int w),AA (.int n),AA (.int (2^w)),AA (.loc 0),AD] [.lst []]=.nx [AA (.int y),AA (.int w),AA (.int n),AA (.int (2^w)),AA (.loc 0),v] [.lst ((dg (2^w) n x).map .int)]:=e;rw[yc,f,l];simp! [yaj,g,j,e,yaf,ydR,yJ,Bu]
def zc5:∀a:List PV,(∀x∈a,x=.bl AE)->allB a=AA AE
 |[],_=>rfl
 |x::a,h=>by have:=h x A2;subst this;rw[allB,zc5 a λy b=>h y (AS _ b)];rfl
def zbb{st s:SO}{b:AR}:ybI st (.rt (.str b) s)=.ok (.str b) st:=rfl
def bit(x:Int):Nat:=(48+x%2).toNat
def sg:Nat->Int->List Nat
 |0,_=>[]
 |k+1,x=>sg k (x/2)++[bit x]
def zeH:∀k x,(sg k x).length=k
 |0,x=>rfl
 |k+1,x=>by simp[sg,zeH k]
def zjo:∀{k:Nat} {x:Int} {c:Nat},c∈sg k x->c=48 \/ c=49
 |k+1,x,c,h=>by
  erw[sg,Bj,A8,B8,or_false]at h;rcases h with h|rfl
  .exact zjo h
  .simp only[bit];lia
def zjl:∀(k:Nat) (x:Int),sg (k+1) x=bit (x/2^k)::sg k x
 |0,x=>by simp[sg]
 |k+1,x=>by
  have h:x/2/2^k=x/2^(k+1):=by rw[Fp (),Bv,CF]
  rw[sg,zjl k (x/2),h];simp[sg]
def val(a:Int)(l:List Nat):Int:=l.foldl (λ(a:Int) (c:Nat)=>2*a+((c:Int)-48)) a
def wS(w:Nat)(d:Int):Str:=#[(sg w d).toArray]
def znF(w:Nat)(d:Int):(wS w d).length=w:=by simp[wS,BC,zeH]
def zoQ:AI " "=#[(List.toArray [32])]:=zz (by decide +kernel)
def zoR:AI ""=#[(List.toArray [])]:=zz (by decide +kernel)
theorem s_0:AI "0"=#[(List.toArray [48])]:=zz (by decide +kernel)
theorem s_1:AI "1"=#[(List.toArray [49])]:=zz (by decide +kernel)
def zpm:AI "01"=#[(List.toArray [48,49])]:=zz (by decide +kernel)
def zbQ:∀a:List AR,strsOf (a.map PV.str)=AA a
 |[]=>rfl
 |y::a=>by simp[strsOf,zbQ a]
def zcn{st:SO}{s:AR}{v:PV}{ys:List AR}(h:yJ st v=AA (ys.map PV.str))(a:s.length<=10)(b:ys.length<=1000)(c:∀y∈ys,y.length<=1000):yaR .join st (.str s) [v]=.ok (.str (BH s ys)) st:=by have d:(ys.all λy=>decide (y.length<=1000))=true:=Ar.2 λy f=>decide_eq_true (c y f);erw[yaR,yb0,h,zbQ];rw[if_pos #[a,by simpa using b,d]]
def zdj:∀a:List AR,(BH #[(List.toArray [])] a).cps.toList=(a.map (·.cps.toList)).flatten
 |[]=>rfl
 |[y]=>by simp[BH]
 |y::z::r=>by erw[BH,AV,Be];rw[zE,zE,zdj (z::r)];simp
def zjM(x:Int):(x%2=0->AI "0"=#[(List.toArray [bit x])])/\(x%2=1->AI "1"=#[(List.toArray [bit x])]):=by
 constructor
 .intro h;rw[s_0];simp[bit,h]
 .intro h;rw[s_1];simp[bit,h]
def zpn{x:Int}(h:0<=x):CP x 1=x%2:=by let#[n,rfl]:=zk6 h;have:=znM n 1;rw[Nat.and_one_is_mod]at this;rw[show ((1:Nat):Int)=1 from rfl]at this;rw[this];lia
def swE:Ce:=.blt .str (.cons (.bin .band (.bin .shr (.var 1) (.var 0)) (.cst (.int 1))) .nil)
def zg6{c:Cl}{x:Int}(a:0<=x):∀(k:Nat) (st:SO),yM c [AD,AA (.int x)] (.n 0) (.cst (.bl AE)) swE (yg k ((k:Int)-1) (-1)) st=.ok ((sg k x).map λc=>.str #[(List.toArray [c])]) st
 |0,st=>by rw[yg,zB];rfl
 |k+1,st=>by
  have e:((k+1:Nat):Int)-1=(k:Int):=by lia
  have b:yq .shr (.int x) (.int (k:Int))=AA (.int (x/2^k)):=zkm;have d:0<=x/2^k:=Dj a (Int.le_of_lt (za3 k));have f:yq .band (.int (x/2^k)) (.int 1)=AA (.int (x/2^k%2)):=by show AA (PV.int (CP (x/2^k) 1))=_;rw[zpn d]
  have g:yaf .str st [.int (x/2^k%2)]=AA (.str #[(List.toArray [bit (x/2^k)])]):=by
   erw[yaf,ydw];let#[j,l]:=zjM (x/2^k);rcases (show x/2^k%2=0 \/ x/2^k%2=1 by lia)with q|q
   .rw[q,<-j q];rfl
   .rw[q,<-l q];rfl
  have one:ybK c [AD,AA (.int x)] (.n 0) (.cst (.bl AE)) swE (.int (k:Int)) st=.ok (AA (.str #[(List.toArray [bit (x/2^k)])])) st:=by simp! [ybK,swE,b,f,g]
  rw[e,yg,zT,one,bd_ok,show (k:Int)+-1=(k:Int)-1 from rfl,zg6 a k st,bd_ok,zjl];rfl
def ziM{w:Nat}(a:w<=16):ydo (.int (w:Int))=AA (yg w ((w:Int)-1) (-1)):=by erw[ydo];rw[if_pos (),CV]
def zck:∀l:List Nat,(l.map λc=>[c]).flatten=l
 |[]=>rfl
 |a::l=>by simp[zck l]
def zk1(w:Nat)(d:w<=16)(x:Int):yaR .join [] (.str "") [.lst ((sg w x).map λc=>PV.str #[(List.toArray [c])])]=.ok (.str (wS w x)) []:=by
 have e:(sg w x).map (λc=>PV.str #[(List.toArray [c])])=((sg w x).map λc=>(#[(List.toArray [c])]:AR)).map PV.str:=by simp
 have b:((sg w x).map λc=>(#[(List.toArray [c])]:AR)).length<=1000:=by rw[Ae,zeH];lia
 have a:∀y∈(sg w x).map (λc=>(#[(List.toArray [c])]:AR)),y.length<=1000:=λy a=>by let#[c,_,rfl]:=C4.1 a;simp[BC]
 rw[e,zoR,zcn (ys:=(sg w x).map λc=>(#[(List.toArray [c])]:AR)) rfl (by simp[BC]) b a];have q:BH #[(List.toArray [])] ((sg w x).map λc=>(#[(List.toArray [c])]:AR))=wS w x:=zz (by rw[zdj,D5];exact zck (sg w x))
 rw[q]
def zie{c:Cl}{ρ:IC.Env}{st:SO}{e:Ce}{v:PV}{xs:List PV}(a:ev c ρ st e=.ok v st)(b:ydo v=AA xs):evi c ρ st (.revr e)=.ok xs st:=by refine Ja (show _=R.bind (ev c ρ st e) _ from rfl) ?_;rw[a,bd_ok,b];rfl
def zhw{c:Cl}{ρ:IC.Env}{st:SO}{e:Ce}{v:PV}{xs:List PV}(a:ev c ρ st e=.ok v st)(b:yeP v=AA xs):evi c ρ st (.revl e)=.ok xs st:=by refine Ja (show _=R.bind (ev c ρ st e) _ from rfl) ?_;rw[a,bd_ok,b];rfl
def zou(k:Nat){x:Int}(a:0<=x)(w:Nat)(b:w<=16):ev (yc T k) [AA (.int x),AA (.int w)] [] (.comp [AD,AA 0] (.n 0) (.revr (.var 1)) (.cst (.bl AE)) swE)=.ok (.lst ((sg w x).map λc=>PV.str #[(List.toArray [c])])) []:=by have d:=zg6 (c:=yc T k) a w [];rw[v_comp,zie (v:=.int w) (by rw[IC.ve2];rfl) (ziM b),bd_ok];show ybp (yM (yc T k) [AD,AA (.int x)] (.n 0) (.cst (.bl AE)) swE (yg w ((w:Int)-1) (-1)) [])=_;rw[d,zN _ (by rw[Ae,zeH];lia)]
def zn6:yai.body=.cons (.ret (.mth .join (.cst (.str "")) (.cons (.comp [AD,AA 0] (.n 0) (.revr (.var 1)) (.cst (.bl AE)) swE) .nil))) .nil:=rfl
def zhR(c:Cl)(ρ:IC.Env)(st:SO)(X:Ce)(l:PV)(r:AR)(a:ev c ρ [] X=.ok l [])(b:yaR .join [] (.str "") [l]=.ok (.str r) []):ybI st (exs c ρ [] (.cons (.ret (.mth .join (.cst (.str "")) (.cons X .nil))) .nil))=.ok (.str r) st:=by have d:yaw .join [] (.str "")=AA true:=rfl;erw[xs_cons,xs_nil,x_ret,IC.ve20,IC.ve1,bd_ok,fl_ok,th_rt,d,ono,IC.vsq0,IC.vsq1,a,b,zbb]
def zce(k:Nat){x:Int}(b:0<=x)(w:Nat)(a:w<=16)(st:SO):yc T (k+1) yz [.int x,.int w] st=.ok (.str (wS w x)) st:=by have c:T yz=AA #[2,2,AE,yai.body]:=rfl;rw[zl c rfl rfl (by simp[nLs,nL])];dsimp only;rw[zn6];exact zhR (yc T k) [AA (.int x),AA (.int w)] st _ _ _ (zou k b w a) (zk1 w a x)
def zig{c:Cl}{ρ:IC.Env}{st:SO}{e:Ce}{s:AR}(a:ev c ρ st e=.ok (.str s) st)(b:s.length<=1000000):evi c ρ st (.chars e)=.ok (s.cps.toList.map λc=>.str #[(List.toArray [c])]) st:=by refine Ja (show _=R.bind (ev c ρ st e) _ from rfl) ?_;rw[a,bd_ok];erw[ybS,if_pos b];rfl
def txt(w:Nat)(a:List Int):Str:=BH #[(List.toArray [32])] (a.reverse.map (wS w))
def toS(w:Nat):PV->PV
 |.int d=>.str (wS w d)
 |p=>p
def zgP(w:Nat)(c:w<=16)(a:List Int)(f:a.length<=8){st:SO}{v:PV}(h:yJ st v=AA ((a.reverse.map (wS w)).map PV.str)):yaR .join st (.str " ") [v]=.ok (.str (txt w a)) st:=by rw[zoQ];refine zcn h (by simp[BC]) (by simp;lia) λy b=>?_;let#[d,_,rfl]:=C4.1 b;rw[znF];lia
def shE:Ce:=.call yz (.cons (.var 0) (.cons (.var 1) .nil))
def zoa:ya7.body=.cons (.ret (.mth .join (.cst (.str " ")) (.cons (.comp [AD,AA 1] (.n 0) (.revl (.var 0)) (.cst (.bl AE)) shE) .nil))) .nil:=rfl
def zpo(s:AR):yaw .join [] (.str s)=AA true:=rfl
def znG(c:Cl)(ρ:IC.Env)(X:Ce)(l:PV)(a:ev c ρ [] X=.ok l []):evs c ρ [] (.cons X .nil)=.ok [l] []:=by erw[IC.vsq0,IC.vsq1,a,bd_ok]
def zoi(c:Cl)(ρ:IC.Env)(X:Ce)(l:PV)(s r:AR)(a:ev c ρ [] X=.ok l [])(b:yaR .join [] (.str s) [l]=.ok (.str r) []):ev c ρ [] (.mth .join (.cst (.str s)) (.cons X .nil))=.ok (.str r) []:=by rw[IC.ve20,IC.ve1,bd_ok,zpo,ono,znG c ρ X l a,bd_ok,b]
def zhj(c:Cl)(ρ:IC.Env)(st:SO)(X:Ce)(l:PV)(s r:AR)(a:ev c ρ [] X=.ok l [])(b:yaR .join [] (.str s) [l]=.ok (.str r) []):ybI st (exs c ρ [] (.cons (.ret (.mth .join (.cst (.str s)) (.cons X .nil))) .nil))=.ok (.str r) st:=by rw[xs_cons,x_ret,zoi c ρ X l s r a b,fl_ok,th_rt,zbb]
def zaE{c:Cl}{A0 ρ1:IC.Env}{a:Tg}{e:Ce}{x y:PV}{st st2:SO}(b:yr a x A0=AA ρ1)(d:ev c ρ1 st e=.ok y st2):ybK c A0 a (.cst (.bl AE)) e x st=.ok (AA y) st2:=by erw[ybK,b,IC.ve1,bd_ok,t_bl,ono,cond_true,d]
def zee{c:Cl}{ρ:IC.Env}{st:SO}{f i j:Nat}{a b:PV}(d:ρ[i]?=AA (AA a))(g:ρ[j]?=AA (AA b)):ev c ρ st (.call f (.cons (.var i) (.cons (.var j) .nil)))=c f [a,b] st:=by erw[IC.ve18,IC.vsq0,IC.vsq1,IC.ve2,d,g,bd_ok]
def zjV(k:Nat)(a:List Int)(w:Nat)(b:w<=16)(c:inW (2^w) a):yM (yc T (k+1)) [AD,AA (.int w)] (.n 0) (.cst (.bl AE)) shE ((a.map PV.int).reverse) []=.ok ((a.reverse.map (wS w)).map PV.str) []:=by
 have e:(a.map PV.int).reverse.map (toS w)=(a.reverse.map (wS w)).map PV.str:=by rw[<-Ft,D5,D5];rfl
 rw[<-e];refine zac _ λp f=>?_;let#[d,g,rfl]:=C4.1 (Hv.1 f);exact zaE (ρ1:=[AA (.int d),AA (.int w)]) rfl ((zee rfl rfl).trans (zce k (c d g).1 w b []))
def zob(k:Nat)(a:List Int)(w:Nat)(b:w<=16)(d:a.length<=8)(c:inW (2^w) a):ev (yc T (k+1)) [AA (.tup (a.map .int)),AA (.int w)] [] (.comp [AD,AA 1] (.n 0) (.revl (.var 0)) (.cst (.bl AE)) shE)=.ok (.lst ((a.reverse.map (wS w)).map PV.str)) []:=by rw[v_comp,zhw (v:=.tup (a.map .int)) (by rw[IC.ve2];rfl) (rfl:yeP (.tup (a.map PV.int))=AA (a.map PV.int).reverse),bd_ok];show ybp (yM (yc T (k+1)) [AD,AA (.int w)] (.n 0) (.cst (.bl AE)) shE ((a.map PV.int).reverse) [])=_;rw[zjV k a w b c,zN _ (by simp;lia)]
def zpp(w:Nat)(b:w<=16)(a:List Int)(c:a.length<=8):yaR .join [] (.str " ") [.lst ((a.reverse.map (wS w)).map PV.str)]=.ok (.str (txt w a)) []:=zgP w b a c rfl
def zhq(k:Nat)(a:List Int)(w:Nat)(b:w<=16)(c:a.length<=8)(d:inW (2^w) a)(st:SO):yc T (k+2) yf9 [.tup (a.map .int),.int w] st=.ok (.str (txt w a)) st:=by have f:T yf9=AA #[2,2,AE,ya7.body]:=rfl;rw[zl f rfl rfl (by simp[nLs,nL,noLocs_ints])];dsimp only;rw[zoa];exact zhj (yc T (k+1)) [AA (.tup (a.map .int)),AA (.int w)] st _ _ (AI " ") _ (zob k a w b c d) (zpp w b a c)
def ltB:Css:=match yac.body with
 |.cons _ (.cons (.for _ _ b) _)=>b
 |_=>.nil
def ydA:Css:=match ltB with
 |.cons _ (.cons (.for _ _ b) _)=>b
 |_=>.nil
def zbd(a b:AR):(a++b).length=a.length+b.length:=by show (a.cps++b.cps).size=_;simp[BC]
def zmb{c:Cl}{p0 p1 p2:Option PV}{st:SO}:∀(N:Nat) (a x:Int) (acc:List Nat) (u:Option PV),0<=x->acc.length+N<=1000 ->
  ∃b d,yaX c (.n 5) ydA (yg N a 1) [p0,p1,p2,AA (.int x),AA (.str #[acc.toArray]),u] st=.nx [p0,p1,p2,AA (.int b),AA (.str #[(sg N x++acc).toArray]),d] st
 |0,a,x,acc,u,_,_=>#[x,u,by rw[yg,zo];rfl]
 |N+1,a,x,acc,u,o,p=>by
  let#[b,d,e]:=zmb (c:=c) (p0:=p0) (p1:=p1) (p2:=p2) (st:=st) N (a+1) (x/2) (bit x::acc) (AA (.int a)) () (by simp;lia);refine#[b,d,?_];have f:yq .mod (.int x) (.int 2)=AA (.int (x%2)):=zco ();have g:yq .fdiv (.int x) (.int 2)=AA (.int (x/2)):=b_div2;have j:∀s,idxV s (.str "01") (.int (x%2))=AA (.str #[(List.toArray [bit x])]):=λs=>by
   rw[zpm];rcases (show x%2=0 \/ x%2=1 by lia)with q|q
   .rw[q];simp[idxV,BC,sizeMax,yau,at?,ixI,bit,q]
   .rw[q];simp[idxV,BC,sizeMax,yau,at?,ixI,bit,q]
  have l:yq .add (.str #[(List.toArray [bit x])]) (.str #[acc.toArray])=AA (.str #[(bit x::acc).toArray]):=by erw[yq];rw[if_pos (by simp[BC,sizeMax];lia)];refine congrArg (λz=>AA (PV.str z)) (zz ?_);rw[zE];simp
  have m:exs c [p0,p1,p2,AA (.int x),AA (.str #[acc.toArray]),AA (.int a)] st ydA=.nx [p0,p1,p2,AA (.int (x/2)),AA (.str #[(bit x::acc).toArray]),AA (.int a)] st:=by simp! [ydA,ltB,yac,f,j,l,g]
  rw[yg,zm (ρ1:=[p0,p1,p2,AA (.int x),AA (.str #[acc.toArray]),AA (.int a)]) rfl,m];rw[show sg (N+1) x++acc=sg N (x/2)++(bit x::acc)by simp[sg]];exact e
def ltT:Css:=match yac.body with
 |.cons _ (.cons _ r)=>r
 |_=>.nil
def zd6{st:SO}{L:Nat}{xs:List PV}{v:PV}(h:st[L]?=AA (.lst xs))(a:xs.length<1000):yaw .append st (.loc L)=AA AE/\yaR .append st (.loc L) [v]=.ok .non (st.set L (.lst (xs++[v]))):=by
 constructor
 .simp[yaw,yJ,h]
 .simp only[yaR,ydP,h];rw[if_pos ()]
theorem ltE:ltB=(match yac.body with
 |.cons _ (.cons (.for _ _ (.cons a (.cons (.for t i _) r))) _)=>.cons a (.cons (.for t i ydA) r)
 |x=>x):=rfl
def zhe{c:Cl}{p0:Option PV}(w:Nat)(t:w<=16):∀(a:List Int) (acc:List AR) (f b u5:Option PV),(∀d∈a,0<=d)->acc.length+a.length<=100 ->
  ∃j l m,yaX c (.n 3) ltB (a.map .int) [p0,AA (.int w),AA (.loc 0),f,b,u5] [.lst (acc.map PV.str)]=.nx [p0,AA (.int w),AA (.loc 0),j,l,m] [.lst ((acc++a.map (wS w)).map PV.str)]
 |[],acc,f,b,u5,_,_=>#[f,b,u5,by rw[Az,zo];simp]
 |d::a,acc,f,b,u5,h,o=>by
  let#[H,I,J,e]:=zhe (c:=c) (p0:=p0) w t a (acc++[wS w d]) (AA (.int 0)) b u5 (λx p=>h x (AS _ p)) (by simp at o ⊢;lia);let#[q,r,g]:=zmb (c:=c) (p0:=p0) (p1:=AA (.int w)) (p2:=AA (.loc 0)) (st:=[.lst (acc.map PV.str)]) w 0 d [] u5 (h d (by simp)) (by simp;lia);let#[y,z,A,e]:=zhe (c:=c) (p0:=p0) w t a (acc++[wS w d]) (AA (.int q)) (AA (.str (wS w d))) r (λx p=>h x (AS _ p)) (by simp at o ⊢;lia);refine#[y,z,A,?_];have B:=zK w ();rw[B5]at g;have g:yaX c (.n 5) ydA (yg w 0 1) [p0,AA (.int w),AA (.loc 0),AA (.int d),AA (.str ""),u5] [.lst (acc.map PV.str)]=.nx [p0,AA (.int w),AA (.loc 0),AA (.int q),AA (.str (wS w d)),r] [.lst (acc.map PV.str)]:=by rw[zoR];exact g
  have C:(acc.map PV.str).length<1000:=by simp at o ⊢;lia
  let#[D,u]:=zd6 (st:=[.lst (acc.map PV.str)]) (L:=0) (v:=.str (wS w d)) rfl C;have E:([Ob.lst (acc.map PV.str)]:SO).set 0 (.lst (acc.map PV.str++[.str (wS w d)]))=[.lst ((acc++[wS w d]).map PV.str)]:=by simp
  rw[E]at u;have G:exs c [p0,AA (.int w),AA (.loc 0),AA (.int d),b,u5] [.lst (acc.map PV.str)] ltB=.nx [p0,AA (.int w),AA (.loc 0),AA (.int q),AA (.str (wS w d)),r] [.lst ((acc++[wS w d]).map PV.str)]:=by rw[ltE];simp! [yac,B,g,D,u]
  rw[AV,zm (ρ1:=[p0,AA (.int w),AA (.loc 0),AA (.int d),b,u5]) rfl,G];rw[show acc++(d::a).map (wS w)=acc++[wS w d]++a.map (wS w)by simp];exact e
def zio{c:Cl}{ρ:IC.Env}{st:SO}{i:Nat}{l:PV}{s r:AR}(a:ρ[i]?=AA (AA l))(b:yaR .join st (.str s) [l]=.ok (.str r) st):exs c ρ st (.cons (.ret (.mth .join (.cst (.str s)) (.cons (.var i) .nil))) .nil)=.rt (.str r) st:=by
 have d:ev c ρ st (.var i)=.ok l st:=by rw[IC.ve2,a]
 have f:evs c ρ st (.cons (.var i) .nil)=.ok [l] st:=by erw[IC.vsq0,IC.vsq1,d,bd_ok]
 have g:ev c ρ st (.mth .join (.cst (.str s)) (.cons (.var i) .nil))=.ok (.str r) st:=by rw[IC.ve20,IC.ve1,bd_ok,show yaw .join st (.str s)=AA AE from rfl,ono,f,bd_ok,b]
 rw[xs_cons,x_ret,g,fl_ok,th_rt]
def zk5:ltT=.cons (.ret (.mth .join (.cst (.str " ")) (.cons (.var 2) .nil))) .nil:=rfl
def zdy(k:Nat)(b:List Int)(w:Nat)(g:w<=16)(A:b≠[])(o:b.length<=8)(p:inW (2^w) b)(st:SO):yc T (k+1) ygs [.tup (b.map .int),.int w] st=.ok (.str (txt w b)) st:=by
 have q:T ygs=AA #[2,6,AE,yac.body]:=rfl;let#[j,l,m,e]:=zhe (c:=yc T k) (p0:=AA (.tup (b.map .int))) w g b.reverse [] AD AD AD (λd r=>(p d (Hv.1 r)).1) (by simp;lia);rw[B6]at e;have f:∀s,yaf .rev s [.tp AC (b.map .int)]=AA (.tp AC (b.reverse.map .int)):=λs=>by erw[yaf,ydh];rw[<-Ft]
 have u:yaR .join [.lst ((b.reverse.map (wS w)).map PV.str)] (.str " ") [.loc 0]=.ok (.str (txt w b)) [.lst ((b.reverse.map (wS w)).map PV.str)]:=zgP w g b o rfl
 have y:yac.body=(match yac.body with
  |.cons a (.cons (.for t i _) _)=>.cons a (.cons (.for t i ltB) ltT)
  |x=>x):=rfl
 have z:exs (yc T k) [AA (.tup (b.map .int)),AA (.int w),AA (.loc 0),j,l,m] [.lst ((b.reverse.map (wS w)).map PV.str)] ltT=.rt (.str (txt w b)) [.lst ((b.reverse.map (wS w)).map PV.str)]:=by rw[zk5];exact zio rfl u
 rw[zl q rfl rfl (by simp[nLs,nL,noLocs_ints])];dsimp only;rw[y];have e:yaX (yc T k) (.n 3) ltB (b.reverse.map .int) [AA (.tp AC (b.map .int)),AA (.int w),AA (.loc 0),AD,AD,AD] [.lst []]=.nx [AA (.tp AC (b.map .int)),AA (.int w),AA (.loc 0),j,l,m] [.lst ((b.reverse.map (wS w)).map PV.str)]:=e;simp! [yac,BB,f,e,z,zbb]
def nd(m:Nat):List Nat:=(Ee 10 m).map Ik
def za6{m c:Nat}(h:c∈nd m):48<=c/\c<=57:=by let#[ch,a,e]:=C4.mp h;rw[<-e];exact Iz (Nat.isDigit_of_mem_toDigits ⋯ ⋯ a)
def zfo(m:Nat):nd m≠[]:=λe=>by have h:=toDigits_len_ge 10 m;rw[List.map_eq_nil_iff.mp e]at h;exact absurd h ⋯
def ziW(m:Nat):ye1 (nd m)=m:=PySem.W.KIN.val_back m
def zi0{m:Nat}(h:m<10^30):(nd m).length<=30:=by have e:=(Nat.length_repr_le_iff (n:=m) (by decide:0<30)).mpr h;rw[<-String.length_toList,IN]at e;simpa [nd] using e
def zmT:∀(m:Nat) {c:Nat} {r:List Nat},nd m=c::r->c=48->m=0:=by
 intro m
 induction m using Nat.strongRecOn with
 |_ m ih=>
  intro c r e a
  by_cases h:m<10
  .unfold nd at e;rw[Nat.toDigits_of_lt_base h]at e;erw[AV,Az,IP]at e;have d:=PySem.W.KIN.digit_back m h;rw[e.1,a]at d;lia
  .have b:m%10<10:=Nat.mod_lt m ⋯;have t:Ee 10 (m/10)++Ee 10 (m%10)=Ee 10 (10*(m/10)+m%10):=Nat.toDigits_append_toDigits ⋯ () b;rw[Nat.div_add_mod]at t;unfold nd at e;rw[<-t,IQ]at e;have f:=zfo (m/10)
   cases q:nd (m/10)with
   |nil=>exact absurd q f
   |cons g j=>
    rw[show (Ee 10 (m/10)).map Ik=nd (m/10)from rfl,q,BQ]at e;have:=ih (m/10) () q ((List.cons.inj e).1.trans a);lia
def yae(i:Int):Str:=AI (toString i)
def zkW(m:Nat):(yae (m:Int)).cps.toList=nd m:=PySem.W.KIN.signs_num m
def zkU(m:Nat):(yae (-((m+1:Nat):Int))).cps.toList=45::nd (m+1):=by unfold yae;rw[IV];show (("-"++Nat.repr (m+1):String)).toList.map Ik=_;rw[String.toList_append,IQ,IN];rfl
def zU(i:Int):(∃m:Nat,i=m/\(yae i).cps.toList=nd m) \/ ∃m:Nat,i=-((m+1:Nat):Int)/\(yae i).cps.toList=45::nd (m+1):=by
 rcases Int.lt_or_le i 0 with h|h
 .obtain⟨m,rfl⟩:∃m:Nat,i=-((m+1:Nat):Int):=#[(-i).toNat-1,by lia];exact .inr #[m,rfl,zkU m]
 .let#[m,rfl]:=As h;exact .inl #[m,rfl,zkW m]
def zJ(s:AR):s.length=s.cps.toList.length:=by simp[BC]
def zbq{i:Int}(h:i.natAbs<10^30):(yae i).length<=31:=by
 rw[zJ];rcases zU i with⟨m,rfl,e⟩|⟨m,rfl,e⟩<;>rw[e]
 .exact EB (zi0 ())
 .exact Nat.succ_le_succ (zi0 ())
def zcl{i:Int}:32∉(yae i).cps.toList:=λh=>by
 rcases zU i with⟨m,rfl,e⟩|⟨m,rfl,e⟩<;>rw[e]at h
 .have:=za6 h;lia
 .rcases A8.1 h with h|h
  .lia
  .have:=za6 h;lia
def zdX{l:List Nat}(h:∀c∈l,48<=c/\c<=57):l.all ycJ=true:=by rw[Ar];intro c a;exact decide_eq_true (h c a)
def zhC{i:Int}(h:i.natAbs<10^30):ycY (yae i)=AA i:=by
 have g:=zbq h;unfold ycY;rw[if_pos ()];rcases zU i with⟨m,rfl,e⟩|⟨m,rfl,e⟩<;>rw[e]
 .have d:=zfo m;have a:(nd m).all ycJ=true:=zdX λc b=>za6 b;have f:=ziW m
  cases q:nd m with
  |nil=>exact absurd q d
  |cons c j=>
   have b:=za6 (show c∈nd m by rw[q];exact A2);rw[q]at a f;dsimp only;rw[if_neg (),if_pos a,f]
 .have d:=zfo (m+1);have a:(nd (m+1)).all ycJ=true:=zdX λc b=>za6 b;dsimp only
  rw[if_pos rfl,if_pos (by rw[a];cases q:nd (m+1)with
   |nil=>exact absurd q d
   |cons=>rfl),ziW]
local macro_rules | `(tactic| simp! [$xs,*])=>do
 let l<-("IC.xs_cons IC.xs_nil IC.x_asg IC.x_ite IC.x_ret IC.x_expr IC.x_for IC.x_six IC.x_try IC.evs IC.evi IC.ve1 IC.ve2 IC.ve3 IC.ve4 IC.ve5 IC.ve6 IC.ve7 IC.ve8 IC.ve9 IC.ve10 IC.ve11 IC.ve13 IC.ve15 IC.ve16 IC.ve17 IC.ve18 IC.ve19 IC.ve20 IC.ve21 IC.ve24 IC.ve25 IC.ve26 IC.ve28 IC.ve32 IC.ve56 IC.ve57 IC.ve58 IC.ve59 IC.ve60 IC.vi1 IC.ve27 IC.ve29 IC.ve33 IC.ve34 IC.ve36 IC.ve37 IC.v_comp List.getElem?_cons_zero List.getElem?_cons_succ WK.bd_ok WK.fl_ok WK.bd_exc WK.fl_exc WK.toR_some IC.toL WK.bT_n WK.nxO_some WK.th_nx WK.th_rt WK.th_exc List.set_cons_zero List.set_cons_succ WK.on_t WK.t_bl WK.ono IC.onBl cond_true cond_false List.length_cons List.length_nil Nat.zero_add Nat.reduceAdd Nat.reduceSub Nat.reduceLeDiff if_true IC.nL IC.nLs WK.noLocs_ints Bool.and_self Bool.not_true Bool.not_false List.map_cons List.map_nil List.replicate List.cons_append List.nil_append List.append_nil Option.bind_none Option.bind_some Option.join_some WK.b_add WK.b_sub WK.b_mul2 WK.b_div2 WK.c_lt WK.c_le WK.c_gt WK.c_ge WK.c_eq WK.c_ne IC.PV.tup IC.sizeMax".splitOn " ").toArray.mapM λs=>`(Lean.Parser.Tactic.simpLemma| $(Lean.mkIdent s.toName):term)
 `(tactic| simp only[$l,*,$xs,*])
def Nam(s:AR):Prop:=1<=s.length/\s.length<=8/\∀c∈s.cps.toList,97<=c/\c<=122
theorem Nam.no32{s:AR}(h:Nam s):32∉s.cps.toList:=λq=>by have:=h.2.2 _ q;lia
def znB{a b:Nat}(h:¬a<b):decide (([a]:List Nat) < [b])=false:=by
 rw[decide_eq_false_iff_not,List.cons_lt_cons_iff]
 rintro (q|⟨_,q⟩)
 .exact h q
 .exact absurd q (by simp)
def zi9{a b:Nat}(h:a<=b):yo .le (.str #[(List.toArray [a])]) (.str #[(List.toArray [b])])=AA (.bl AE):=by show AA (PV.bl (!decide (([b]:List Nat) < [a])))=_;rw[znB ()];rfl
def znS{c:Cl}{ρ:IC.Env}{st:SO}{lo a x:Nat}{A Z:AR}(b:A=#[(List.toArray [lo])])(d:Z=#[(List.toArray [a])])(f:lo<=x)(g:x<=a)(j:ρ[0]?=AA (AA (.str #[(List.toArray [x])]))):
  ev c ρ st (.chain .le .le (.cst (.str A)) (.var 0) (.cst (.str Z)))=.ok (.bl AE) st:=by subst b d;have l:=zi9 f;have m:=zi9 g;erw[IC.ve9,IC.ve1,IC.ve2,j,bd_ok,l,m,blO,onO,cond_true,toR_some]
def ydW(A Z:AR)(e:Ce):Ce:=.blt .all (.cons (.comp [AD] (.n 0) (.chars e) (.cst (.bl AE)) (.chain .le .le (.cst (.str A)) (.var 0) (.cst (.str Z)))) .nil)
def zc4{c:Cl}{ρ:IC.Env}{st:SO}{e:Ce}{s:AR}{lo b:Nat}{A Z:AR}(d:A=#[(List.toArray [lo])])(g:Z=#[(List.toArray [b])])(j:ev c ρ st e=.ok (.str s) st)(l:s.length<=100)(h:∀x∈s.cps.toList,lo<=x/\x<=b):
  ev c ρ st (ydW A Z e)=.ok (.bl AE) st:=by
 have m:yM c [AD] (.n 0) (.cst (.bl AE)) (.chain .le .le (.cst (.str A)) (.var 0) (.cst (.str Z))) (s.cps.toList.map λc=>.str #[(List.toArray [c])]) st=.ok ((s.cps.toList.map λc=>PV.str #[(List.toArray [c])]).map λ_=>.bl AE) st:=
  zac (f:=λ_=>.bl AE) _ λp o=>by let#[x,a,rfl]:=C4.1 o;exact zaE (ρ1:=[AA (.str #[(List.toArray [x])])]) rfl (znS d g (h x a).1 (h x a).2 rfl)
 have q:((s.cps.toList.map λc=>PV.str #[(List.toArray [c])]).map λ_=>PV.bl AE).length<=1000000:=by rw[zJ]at l;erw[Ae];lia
 have r:yaf .all st [.lst ((s.cps.toList.map λc=>PV.str #[(List.toArray [c])]).map λ_=>PV.bl AE)]=AA (.bl AE):=by show ((allB _).map PV.bl)=_;rw[zc5 _ λx a=>by let#[_,_,e]:=C4.1 a;exact e.symm];rfl
 have e:=zig (e:=e) j ();erw[ydW,IC.ve18,IC.ve19,IC.ve20,IC.vsq0,IC.vsq1,IC.v_comp,e,bd_ok,AV,Az,Fq,m,zN _ q,r,toR_some]
theorem s_a:AI "a"=#[(List.toArray [97])]:=zz (by decide +kernel)
theorem s_z:AI "z"=#[(List.toArray [122])]:=zz (by decide +kernel)
theorem s_9:AI "9"=#[(List.toArray [57])]:=zz (by decide +kernel)
def zpq:AI "-"=#[(List.toArray [45])]:=zz (by decide +kernel)
def zeL(k:Nat){s:AR}(h:Nam s)(st:SO):yc T (k+1) yhE [.str s] st=.ok (.bl AE) st:=by
 let#[m,n,a]:=h;have b:T yhE=AA #[1,1,AE,yaI.body]:=rfl;have d:=zc4 (c:=yc T k) (ρ:=[AA (.str s)]) (st:=[]) (e:=.var 0) s_a s_z rfl () a;have f:yaf .len [] [.str s]=AA (.int s.length):=by show lenV [] (.str s)=_;erw[lenV];rw[if_pos (by show s.length<=16777216;lia)]
 have g:yo .le (.int 1) (.int s.length)=AA (.bl AE):=by rw[c_le];simp;lia
 have j:yo .le (.int s.length) (.int 8)=AA (.bl AE):=by rw[c_le];simp;lia
 have l:yaI.body=.cons (.ret (.and (.chain .le .le (.cst (.int 1)) (.blt .len (.cons (.var 0) .nil)) (.cst (.int 8))) (ydW (AI "a") (AI "z") (.var 0)))) .nil:=rfl;rw[zl b rfl rfl rfl,l];simp! [ f,g,j,blO,onO,d,zec]
def zjJ{s:AR}{c:Nat}{r:List Nat}(b:s.cps.toList=c::r)(d:c≠45):yb3 s #[(List.toArray [45])]=s:=by
 have e:Cp s #[(List.toArray [45])] 0=false:=by
  let#[a]:=s;let#[l]:=a
  cases b
  erw[Cp,beq_eq_false_iff_ne,ne_eq];intro q;have:=congrArg Fw q;simp[BC]at this;exact d this
 rw[yb3,e];rfl
def zj7{s:AR}{r:List Nat}(b:s.cps.toList=45::r):yb3 s #[(List.toArray [45])]=#[r.toArray]:=by
 let#[a]:=s;let#[l]:=a
 cases b
 have e:Cp #[#[45::r]] #[(List.toArray [45])] 0=true:=by erw[Cp,beq_iff_eq];apply EO.mp;simp[BC]
 rw[yb3,e,if_pos rfl,if_neg (by simp[BC])];refine zz ?_;simp[Ex,BC]
def zoE{s:AR}(h:∀c∈s.cps.toList,c<1114112):shp (.str s)=true:=by erw[shp,shd];rw[<-Array.all_toList,Ar];intro c a;exact decide_eq_true (h c a)
def zpr:shp (.str "0")=true:=zoE (by decide +kernel)
theorem eqS{a b:AR}(c:shp (.str a)=AE)(d:shp (.str b)=AE):yo .eq (.str a) (.str b)=AA (.bl (a==b)):=by show (if shp (.str a)&&shp (.str b)then AA (PV.bl (peq (.str a) (.str b)))else AD)=_;rw[c,d];simp[peq]
def zfB(k:Nat){i:Int}(h:i.natAbs<10^30)(st:SO):yc T (k+1) yhF [.str (yae i)] st=.ok (.bl AE) st:=by
 have D:T yhF=AA #[1,2,AE,yE.body]:=rfl;have E:=zbq h;have j:shp (.str (yae i))=true:=zoE λc f=>by
  rcases zU i with⟨m,rfl,e⟩|⟨m,rfl,e⟩<;>rw[e]at f
  .have:=za6 f;lia
  .rcases A8.1 f with q|q
   .lia
   .have:=za6 q;lia
 have d:=eqS j zpr;rw[zl D rfl rfl rfl]
 cases l:(yae i==AI "0")with
 |true=>
  rw[l]at d;simp! [yE,d,zec]
 |false=>
  rw[l]at d;obtain⟨m,c,r,n,C,t⟩:∃m c r,nd m=c::r/\yb3 (yae i) (AI "-")=⟨(nd m).toArray⟩/\c≠48:=by
   rw[zpq];rcases zU i with⟨m,rfl,e⟩|⟨m,rfl,e⟩
   .have w:=zfo m
    cases q:nd m with
    |nil=>exact absurd q w
    |cons c r=>
     rw[q]at e;have f:=za6 (show c∈nd m by rw[q];exact A2);refine#[m,c,r,q,?_,λz=>?_]
     .rw[zjJ e (),q];exact zz (by rw[e])
     .have A:=zmT m q z;subst A;exact absurd l (by decide +kernel)
   .have w:=zfo (m+1)
    cases q:nd (m+1)with
    |nil=>exact absurd q w
    |cons c r=>
     exact#[m+1,c,r,q,by rw[zj7 e],λz=>absurd (zmT _ q z) ()]
  have G:(nd m).length<=32:=by
   have g:(yb3 (yae i) (AI "-")).length<=(yae i).length:=by
    unfold yb3;split
    .split
     .exact AU _
     .simp only[Ex,BC,Array.size_extract];lia
    .exact AU _
   rw[C]at g;have:(nd m).length<=(yae i).length:=by simpa [BC] using g
   lia
  have H:1<=(nd m).length:=by rw[n];simp
  have B:yaR .rmp [] (.str (yae i)) [.str "-"]=.ok (.str #[(nd m).toArray]) []:=by erw[yaR,yeB];rw[if_pos (),C]
  have I:yaf .len [] [.str #[(nd m).toArray]]=AA (.int (nd m).length):=by show lenV [] (.str #[(nd m).toArray])=_;erw[lenV];rw[if_pos (by simp[BC,sizeMax];lia)];simp[BC]
  have J:yo .le (.int 1) (.int (nd m).length)=AA (.bl AE):=by rw[c_le];simp;lia
  have g:yo .le (.int (nd m).length) (.int 60)=AA (.bl AE):=by rw[c_le];simp;lia
  have L:idxV [] (.str #[(nd m).toArray]) (.int 0)=AA (.str #[(List.toArray [c])]):=by erw[idxV];rw[if_pos (by simp[BC,sizeMax];lia)];simp[yau,at?,ixI,n]
  have M:=za6 (show c∈nd m by rw[n];exact A2);have N:yo .eq (.str #[(List.toArray [c])]) (.str "0")=AA (.bl AC):=by
   rw[s_0];have e:(Str.mk (List.toArray [c])==Str.mk (List.toArray [48]))=false:=by rw[beq_eq_false_iff_ne];intro q;have:=congrArg (λs=>s.cps.toList) q;simp at this;exact t this
   rw[eqS (zoE (by simp;lia)) (zoE (by simp)),e]
  have O:=zc4 (c:=yc T k) (ρ:=[AA (.str (yae i)),AA (.str #[(nd m).toArray])]) (st:=[]) (e:=.var 1) s_0 s_9 rfl (by simp[BC];lia) (λx Q=>za6 (by simpa using Q));have ok:yaw .rmp [] (.str (yae i))=AA true:=rfl
  have U:yE.body=(match yE.body with
   |.cons a (.cons b (.cons (.ite (.or (.not (.chain o p x y _)) z) u v) _))=>.cons a (.cons b (.cons (.ite (.or (.not (.chain o p x y (.cst (.int 60)))) z) u v) (.cons (.ret (ydW (AI "0") (AI "9") (.var 1))) .nil)))
   |x=>x):=rfl
  rw[U];simp! [yE,d,ok,B,I,J,g,blO,onO,L,N,O,zec]
def zbP:∀{a:List Nat},32∉a->yI 32 a=[a]
 |[],_=>rfl
 |x::a,h=>by have b:x≠32:=λz=>h (z ▸ A2);have c:32∉a:=λz=>h (AS _ z);rw[yI,if_neg b,zbP c]
def zbD:∀{a r:List Nat},32∉a->yI 32 (a++32::r)=a::yI 32 r
 |[],r,_=>by rw[B6,yI,if_pos rfl]
 |x::a,r,h=>by have b:x≠32:=λz=>h (z ▸ A2);have c:32∉a:=λz=>h (AS _ z);rw[BQ,yI,if_neg b,zbD c]
def sp1:List AR->List Nat
 |[]=>[]
 |[s]=>s.cps.toList
 |s::r=>s.cps.toList++32::sp1 r
def zc8:∀{l:List AR},l≠[]->(∀s∈l,32∉s.cps.toList)->yI 32 (sp1 l)=l.map λs=>s.cps.toList
 |[],h,_=>absurd rfl h
 |[s],_,h=>by rw[sp1,zbP (h s A2)];rfl
 |s::t::r,_,h=>by rw[show sp1 (s::t::r)=s.cps.toList++32::sp1 (t::r)from rfl,zbD (h s A2),zc8 (by simp) λu a=>h u (AS _ a)];rfl
def zaT{line:AR}{l:List AR}(a:line.cps.toList=sp1 l)(b:l≠[])(h:∀s∈l,32∉s.cps.toList)(c:line.length<=1000)(st:SO):yaR .split st (.str line) [.str " "]=.ok (.lst (l.map .str)) st:=by rw[zoQ];show ya3 st (.str line) (.str #[(List.toArray [32])])=_;erw[ya3];rw[if_pos (),a,zc8 b h,D5];rfl
def zV{c:Cl}{A0:IC.Env}{t:Tg}{a e:Ce}{x y:PV}{xs ys:List PV}{st:SO}(h:ybK c A0 t a e x st=.ok (AA y) st)(b:yM c A0 t a e xs st=.ok ys st):yM c A0 t a e (x::xs) st=.ok (y::ys) st:=by rw[zT,h];erw[R.bind];rw[b];rfl
def zgJ:shp (.str "name")=true:=zoE (by decide +kernel)
def zkM:shp (.str "whole")=true:=zoE (by decide +kernel)
def zcH(k:Nat){s:AR}(h:Nam s)(st:SO):yc T (k+2) yn [.str "name",.str s] st=.ok (.str s) st:=by
 have b:T yn=AA #[2,2,AE,yS.body]:=rfl;have a:=zeL k h [];have a:yc T (k+1) 4 [.str s] []=.ok (.bl AE) []:=a;have c:yo .eq (.str "name") (.str "name")=AA (.bl AE):=by rw[eqS zgJ zgJ];simp
 rw[zl b rfl rfl rfl];simp! [yS,c,a,zbb]
def zaU(k:Nat){i:Int}(h:i.natAbs<10^30)(st:SO):yc T (k+2) yn [.str "whole",.str (yae i)] st=.ok (.int i) st:=by
 have c:T yn=AA #[2,2,AE,yS.body]:=rfl;have a:=zfB k h [];have a:yc T (k+1) 5 [.str (yae i)] []=.ok (.bl AE) []:=a;have d:yo .eq (.str "whole") (.str "name")=AA (.bl AC):=by rw[eqS zkM zgJ];exact congrArg (λb=>AA (PV.bl b)) (by decide +kernel)
 have f:yaf .int [] [.str (yae i)]=AA (.int i):=by show (ycY (yae i)).map PV.int=_;rw[zhC h];rfl
 rw[zl c rfl rfl rfl];simp! [yS,d,a,f,zgk]
def rwE:Ce:=.call 3 (.cons (.var 0) (.cons (.var 1) .nil))
def zax{c:Cl}{a b y:PV}(h:c 3 [a,b] []=.ok y []):ybK c [AD,AD] (.t [0,1]) (.cst (.bl AE)) rwE (.tup [a,b]) []=.ok (AA y) []:=by refine zaE (ρ1:=[AA a,AA b]) rfl ?_;exact(zee (i:=0) (j:=1) rfl rfl).trans h
def zY(k:Nat){ks ws vs:List PV}(c:nLs [.tp AE ks,.lst ws]=AE)(d:ks.length=ws.length)(u:ws.length<=9)(f:nLs vs=AE)(g:vs.length<=9)
  (b:yM (yc T k) [AD,AD] (.t [0,1]) (.cst (.bl AE)) rwE (yaT ks ws) []=.ok vs []) (st:SO):yc T (k+1) yfH [.tp AE ks,.lst ws] st=.ok (.tup vs) st:=by
 have j:T yfH=AA #[2,2,AE,yK.body]:=rfl;have l:yaf .len [] [.lst ws]=AA (.int ws.length):=by simp[yaf,lenV,yaJ]
 have m:yaf .len [] [.tp AE ks]=AA (.int ws.length):=by simp[yaf,lenV,yaJ,d]
 have n:yo .ne (.int ws.length) (.int ws.length)=AA (.bl AC):=by rw[c_ne];simp
 have o:ybU (.tp AE ks) (.lst ws)=AA (yaT ks ws):=by erw[ybU];rw[if_pos ()]
 have p:yaf .tuple [] [.lst vs]=AA (.tup vs):=rfl
 have q:yK.body=(match yK.body with
  |.cons a _=>.cons a (.cons (.ret (.blt .tuple (.cons (.comp [AD,AD] (.t [0,1]) (.zipl (.var 0) (.var 1)) (.cst (.bl AE)) rwE) .nil))) .nil)
  |x=>x):=rfl
 have r:∀s:SO,ybI st (.rt (.tup vs) s)=.ok (.tup vs) st:=λs=>by simp[ybI,nL,f]
 rw[zl j rfl rfl c,q];generalize w:rwE=E at b;simp! [yK,l,m,n,o,b,zN _ (show vs.length<=1000000 by lia),p,r]
structure Fst(f:AR)(ks:List PV):Prop where
 c1:yo .eq (.str f) (.str "let")=AA (.bl AC)
 c2:yo .eq (.str f) (.str "rows")=AA (.bl AC)
 c3:ye6 ydc (.str f)=AA (.bl AC)
 c4:yd6 ydc (.str f)=AA (.tp AE ks)
def zad(k:Nat){line f:AR}{rest:List AR}{ks vs:List PV}(F:Fst f ks)(g:yaR .split [] (.str line) [.str " "]=.ok (.lst (.str f::rest.map .str)) [])(t:rest.length<=9)
  (d:yc T k yfH [.tp AE ks,.lst (rest.map .str)] []=.ok (.tup vs) []) (j:nLs vs=AE) (l:vs.length<=9) (st:SO):yc T (k+1) yk [.str line] st=.ok (.tup (.str f::vs)) st:=by
 have m:T yk=AA #[1,3,AE,yar.body]:=rfl;have ok:yaw .split [] (.str line)=AA true:=rfl;let#[n,o,p,q]:=F;have d:yc T k 2 [.tp AE ks,.lst (rest.map .str)] []=.ok (.tup vs) []:=d;have b:∀a,ydN [AA (.str line),a,AD] 1 2 (.lst (.str f::rest.map .str)) []=.nx [AA (.str line),AA (.str f),AA (.lst (rest.map .str))] []:=λa=>by erw[ydN];rw[if_pos (by rw[Ae];lia)];rfl
 have c:yq .add (.tp AC [.str f]) (.tp AC vs)=AA (.tp AC (.str f::vs)):=by
  erw[yq];rw[if_pos (by simp[sizeMax];lia)]
  cases vs<;>rfl
 have r:∀s:SO,ybI st (.rt (.tp AC (.str f::vs)) s)=.ok (.tp AC (.str f::vs)) st:=λs=>by simp[ybI,nL,nLs,j]
 rw[zl m rfl rfl rfl];simp! [yar,zmr,ok,g,b,n,o,p,q,d,c,r]
abbrev rcd(w:Nat)(a:List Int):PV:=.tp AC [.int w,.tp AC (a.map .int)]
structure Gd(w:Nat)(ds:List Int):Prop where
 w4:4<=w
 w16:w<=16
 n1:1<=ds.length
 n4:ds.length<=4
 hi:inW (2^w) ds
structure DOk(D:List (PV×PV))(ks:List AR)(N:Nat):Prop where
 hk:yal D=AA ks
 hl:ks.length<=N
 hn:∀s∈ks,Nam s/\∃w ds,look (.str s) D=AA (rcd w ds)/\Gd w ds
theorem DOk.nil(N:Nat):DOk [] [] N:=#[rfl,BB _,λ_ h=>by cases h]
def zL{a:PV}{v:PV}{r:List (PV×PV)}{ks:List AR}(h:yal ((a,v)::r)=AA ks):∃s l,a=.str s/\yal r=AA l/\ks=s::l:=by
 cases a with
 |str s=>
  erw[yal]at h;let#[l,b,rfl]:=C2.1 h;exact#[s,l,rfl,b,rfl]
 |_=>simp[yal]at h
def zcL:∀{D:List (PV×PV)} {ks:List AR},yal D=AA ks->ks.length=D.length
 |[],ks,h=>by cases h;rfl
 |(a,v)::r,ks,h=>by let#[s,l,rfl,e,rfl]:=zL h;simp[zcL e]
def zgQ{s:AR}:∀{D:List (PV×PV)} {ks:List AR},yal D=AA ks->(D.any λp=>peq p.1 (.str s))=decide (s∈ks)
 |[],ks,h=>by cases h;simp
 |(a,v)::r,ks,h=>by
  let#[t,l,rfl,e,rfl]:=zL h;rw[CA,zgQ e];erw[peq,A8]
  by_cases q:s=t
  .subst q;simp
  .simp[q,show (t==s)=AC from by rw[beq_eq_false_iff_ne];exact λz=>q z.symm]
def zej{s:AR}{v:PV}:∀{D:List (PV×PV)} {ks:List AR},yal D=AA ks->yal (D.map λp=>if peq p.1 (.str s)=AE then(p.1,v)else p)=AA ks
 |[],ks,h=>by cases h;rfl
 |(a,u)::r,ks,h=>by
  let#[t,l,rfl,e,rfl]:=zL h;rw[AV];have ih:=zej (s:=s) (v:=v) e
  by_cases q:peq (.str t) (.str s)=AE
  .rw[if_pos q,yal,ih];rfl
  .rw[if_neg q,yal,ih];rfl
def zeJ{s:AR}{v:PV}:∀{D:List (PV×PV)} {ks:List AR},yal D=AA ks->yal (D++[(.str s,v)])=AA (ks++[s])
 |[],ks,h=>by cases h;rfl
 |(a,u)::r,ks,h=>by let#[t,l,rfl,e,rfl]:=zL h;rw[BQ,yal,zeJ e];rfl
def zf5{s t:AR}{v:PV}:∀{D:List (PV×PV)} {ks:List AR},yal D=AA ks->look (.str t) (D.map λp=>if peq p.1 (.str s)=AE then(p.1,v)else p)=if t=s then(look (.str t) D).map λ_=>v else look (.str t) D
 |[],ks,h=>by cases h;simp[look]
 |(a,u)::r,ks,h=>by
  let#[x,l,rfl,e,rfl]:=zL h;have ih:=zf5 (s:=s) (t:=t) (v:=v) e;rw[AV]
  by_cases q:x=s
  .subst q;rw[if_pos (by simp[peq])]
   by_cases b:t=x
   .subst b;simp[look,peq]
   .have:(x==t)=false:=by rw[beq_eq_false_iff_ne];exact λz=>b z.symm
    erw[look,peq,this,Aw,if_false,ih,b]
  .rw[if_neg (by simp[peq,q])]
   by_cases b:x=t
   .subst b;have:¬x=s:=q;simp[look,peq,this]
   .have:(x==t)=false:=by rw[beq_eq_false_iff_ne];exact b
    erw[look,peq,this,Aw,if_false,ih]
def zgu{s t:AR}{v:PV}:∀{D:List (PV×PV)} {ks:List AR},yal D=AA ks->s∉ks->look (.str t) (D++[(.str s,v)])=if t=s then AA v else look (.str t) D
 |[],ks,h,_=>by
  by_cases q:t=s
  .subst q;simp[look,peq]
  .have:(s==t)=false:=by rw[beq_eq_false_iff_ne];exact λz=>q z.symm
   simp[look,peq,this,q]
 |(a,u)::r,ks,h,b=>by
  let#[x,l,rfl,e,rfl]:=zL h;have ih:=zgu (s:=s) (t:=t) (v:=v) e λz=>b (AS _ z);rw[BQ]
  by_cases q:x=t
  .subst q;have:¬x=s:=λz=>b (z ▸ A2);simp[look,peq,this]
  .have:(x==t)=false:=by rw[beq_eq_false_iff_ne];exact q
   erw[look,peq,this,Aw,if_false,ih]
theorem DOk.put{D:List (PV×PV)}{ks:List AR}{N:Nat}(h:DOk D ks N){s:AR}(l:Nam s){w:Nat}{b:List Int}(g:Gd w b):
  ∃a,DOk (put (.str s) (rcd w b) D) a (if s∈ks then N else N+1)/\(∀t∈ks,t∈a)/\s∈a:=by
 unfold IC.put;rw[zgQ h.hk]
 by_cases q:s∈ks
 .rw[decide_eq_true q,if_pos rfl,if_pos q];refine#[ks,#[zej h.hk,h.hl,λt c=>?_],λ_ h=>h,q];let#[m,n,d,j,o]:=h.hn t c;refine#[m,?_];rw[zf5 h.hk]
  by_cases r:t=s
  .rw[if_pos r,j];exact#[w,b,rfl,g]
  .rw[if_neg r];exact#[n,d,j,o]
 .rw[decide_eq_false q,if_neg A3,if_neg q];refine#[ks++[s],#[zeJ h.hk,by have:=h.hl;simp;lia,λt c=>?_],λt h=>Cn _ h,by simp];rw[zgu h.hk q]
  by_cases r:t=s
  .rw[if_pos r];subst r;exact#[l,w,b,rfl,g]
  .rw[if_neg r];have f:t∈ks:=by
    rcases Bj.1 c with z|z
    .exact z
    .exact absurd (by simpa using z) r
   exact h.hn t f
abbrev tP(f s:AR)(w n v:Int):PV:=.tp AC [.str f,.str s,.int w,.int n,.int v]
abbrev tQ(f s:AR):PV:=.tp AC [.str f,.str s]
abbrev tN:PV:=.tp AC [.str "names"]
def zp{x:PV}{k:Bool}{l:List PV}{b:Bool}(hf:(flat x&&l.all flat)=AE)(h:inL x l=b):yo .isin x (.tp k l)=AA (.bl b):=by
 have e:yo .isin x (.tp k l)=if flat x&&l.all flat then AA (.bl (inL x l))else none:=by cases x<;>rfl
 rw[e,hf,h];rfl
def zha{f s:AR}{w n v:Int}(a:yo .isin (.str f) ycC=AA (.bl AE))(k:Nat)(st:SO):yc T (k+1) yb [tP f s w n v] st=.ok (.tup []) st:=by have b:T yb=AA #[1,2,AE,yu.body]:=rfl;have c:ybs (.tp AC [.str f,.str s,.int w,.int n,.int v]) (AA 1) .non=AA (.tp AC [.str s,.int w,.int n,.int v]):=rfl;have d:yM (yc T k) [AD] (.n 0) (.isi (.var 0) [.str]) (.var 0) [.str s,.int w,.int n,.int v] []=.ok [.str s] []:=rfl;have g:∀j:SO,idxV j (.tp AC [.str f,.str s,.int w,.int n,.int v]) (.int 0)=AA (.str f):=λ_=>rfl;have l:yaf .tuple [] [.lst [.str s]]=AA (.tup [.str s]):=rfl;have m:ybs (.tp AC [.str s]) (AA 1) .non=AA (.tp AC []):=rfl;have o:ybe (.int 1)=AA (AA 1):=rfl;rw[zl b rfl rfl rfl];simp! [yu,c,d,g,l,m,a,o,IC.onP,zN];rfl
def zgg{f s:AR}(a:yo .isin (.str f) ycC=AA (.bl AC))(k:Nat)(st:SO):yc T (k+1) yb [tQ f s] st=.ok (.tup [.str s]) st:=by have b:T yb=AA #[1,2,AE,yu.body]:=rfl;have c:ybs (.tp AC [.str f,.str s]) (AA 1) .non=AA (.tp AC [.str s]):=rfl;have d:yM (yc T k) [AD] (.n 0) (.isi (.var 0) [.str]) (.var 0) [.str s] []=.ok [.str s] []:=rfl;have g:∀j:SO,idxV j (.tp AC [.str f,.str s]) (.int 0)=AA (.str f):=λ_=>rfl;have l:yaf .tuple [] [.lst [.str s]]=AA (.tup [.str s]):=rfl;have m:ybe (.int 1)=AA (AA 1):=rfl;rw[zl b rfl rfl rfl];simp! [yu,c,d,g,l,a,m,IC.onP,zN];rfl
def zkV(k:Nat)(st:SO):yc T (k+1) yb [tN] st=.ok (.tup []) st:=by have a:T yb=AA #[1,2,AE,yu.body]:=rfl;have b:yo .isin (.str "names") ycC=AA (.bl AC):=zp (by decide +kernel) (by decide +kernel);have c:ybs (.tp AC [.str "names"]) (AA 1) .non=AA (.tp AC []):=rfl;have d:∀f:SO,idxV f (.tp AC [.str "names"]) (.int 0)=AA (.str "names"):=λ_=>rfl;have g:yM (yc T k) [AD] (.n 0) (.isi (.var 0) [.str]) (.var 0) [] []=.ok [] []:=rfl;have j:yaf .tuple [] [.lst []]=AA (.tup []):=rfl;have l:ybe (.int 1)=AA (AA 1):=rfl;rw[zl a rfl rfl rfl];simp! [yu,c,g,d,j,b,l,IC.onP,zN];rfl
def zis(k:Nat){w n:Int}(g:4<=w)(j:w<=16)(l:1<=n)(m:n<=4)(st:SO):yc T (k+1) yhG [.int w,.int n] st=.ok .non st:=by
 have a:T yhG=AA #[2,2,AE,yV.body]:=rfl;have b:yo .le (.int 4) (.int w)=AA (.bl AE):=by rw[c_le];simp;lia
 have c:yo .le (.int w) (.int 16)=AA (.bl AE):=by rw[c_le];simp;lia
 have d:yo .le (.int 1) (.int n)=AA (.bl AE):=by rw[c_le];simp;lia
 have f:yo .le (.int n) (.int 4)=AA (.bl AE):=by rw[c_le];simp;lia
 rw[zl a rfl rfl rfl];simp! [yV,yg9,yha,yhv,b,c,d,f,blO,onO];rfl
def zfP(k:Nat)(st:SO):yc T (k+1) yhH [.lst []] st=.ok .non st:=by have a:T yhH=AA #[1,4,AE,yaq.body]:=rfl;rw[zl a rfl rfl rfl];rfl
structure Wrd(f:AR)(gv sh fr:Bool):Prop where
 gi:yo .isin (.str f) ycC=AA (.bl gv)
 le:yeO yet (.str f)=AA (.bl AC)
 ps:yo .isin (.str f) (.tp AC [.str "plain",.str "signed",.str "rows"])=AA (.bl sh)
 e1:yo .eq (.str f) (.str "let")=AA (.bl AC)
 e2:yo .eq (.str f) (.str "rows")=AA (.bl AC)
 fr:yo .notin (.str f) yfv=AA (.bl (!fr))
def zam{x:PV}{k:Bool}{l:List PV}{b:Bool}(hf:(flat x&&l.all flat)=AE)(h:inL x l=b):yo .notin x (.tp k l)=AA (.bl (!b)):=by
 have e:yo .notin x (.tp k l)=if flat x&&l.all flat then AA (.bl (!inL x l))else none:=by cases x<;>rfl
 rw[e,hf,h];rfl
def zfk{f s:AR}{w n v:Int}{b c:Bool}(F:Wrd f c AE b)(g:4<=w)(j:w<=16)(l:1<=n)(m:n<=4)(k:Nat)(d:PV)(st:SO):yc T (k+2) yv [tP f s w n v,d] st=.ok .non st:=by have o:T yv=AA #[2,2,AC,yx.body]:=rfl;have e:=zis k g j l m;have e:∀a,yc T (k+1) 8 [.int w,.int n] a=.ok .non a:=e;have p:∀a:SO,idxV a (.tp AC [.str f,.str s,.int w,.int n,.int v]) (.int 0)=AA (.str f):=λ_=>rfl;have q:∀a:SO,idxV a (.tp AC [.str f,.str s,.int w,.int n,.int v]) (.int 2)=AA (.int w):=λ_=>rfl;have r:∀a:SO,idxV a (.tp AC [.str f,.str s,.int w,.int n,.int v]) (.int 3)=AA (.int n):=λ_=>rfl;let#[_,le,t,u,x,_]:=F;rw[zk o rfl rfl];simp! [yx,p,q,r,le,t,u,x,e];rfl
def zd8{f:AR}{l:List PV}{a b:Bool}(F:Wrd f b AC a)(k:Nat)(d:PV)(st:SO):yc T (k+1) yv [.tp AC (.str f::l),d] st=.ok .non st:=by
 have c:T yv=AA #[2,2,AC,yx.body]:=rfl;have g:∀j:SO,idxV j (.tp AC (.str f::l)) (.int 0)=AA (.str f):=λ_=>by simp[idxV,yau,at?,ixI]
 let#[_,le,m,n,o,_]:=F;rw[zk c rfl rfl];simp! [yx,g,le,m,n,o];rfl
def ziQ{f s:AR}{w n v:Int}(F:Wrd f AE AE AC)(j:4<=w)(l:w<=16)(m:1<=n)(o:n<=4)(k:Nat)(d:PV)(st:SO):yc T (k+3) yf [tP f s w n v,d] st=.ok .non st:=by have p:T yf=AA #[2,3,AC,yt.body]:=rfl;have a:∀g,yc T (k+2) 1 [.tp AC [.str f,.str s,.int w,.int n,.int v]] g=.ok (.tp AC []) g:=zha F.gi (k+1);have b:∀g,yc T (k+2) 7 [.tp AC [.str f,.str s,.int w,.int n,.int v],d] g=.ok .non g:=zfk F j l m o k d;have c:∀g,yc T (k+2) 9 [.lst []] g=.ok .non g:=zfP (k+1);have q:∀g:SO,idxV g (.tp AC [.str f,.str s,.int w,.int n,.int v]) (.int 0)=AA (.str f):=λ_=>rfl;have r:=F.fr;rw[zk p rfl rfl];simp! [yt,a,b,c,q,r,zo,zB,zN];rfl
def zmd{f s:AR}(F:Wrd f AC AC AE){d:PV}{st:SO}(g:ycr st (.str s) d=AA (.bl AC))(k:Nat):yc T (k+3) yf [tQ f s,d] st=.ok .non st:=by
 have j:T yf=AA #[2,3,AC,yt.body]:=rfl;have a:∀c,yc T (k+2) 1 [.tp AC [.str f,.str s]] c=.ok (.tp AC [.str s]) c:=zgg F.gi (k+1);have b:∀c,yc T (k+2) 7 [.tp AC [.str f,.str s],d] c=.ok .non c:=zd8 F (k+1) d;have l:∀c:SO,idxV c (.tp AC [.str f,.str s]) (.int 0)=AA (.str f):=λ_=>rfl;have m:=F.fr;rw[zk j rfl rfl];have o:yaX (yc T (k+2)) (.n 2) (.cons (.ite (.dni (.var 2) (.var 1)) (.cons .nope .nil) .nil) .nil) [.str s] [AA (.tp AC [.str f,.str s]),AA d,AD] st=.nx [AA (.tp AC [.str f,.str s]),AA d,AA (.str s)] st:=by rw[zm (ρ1:=[AA (.tp AC [.str f,.str s]),AA d,AA (.str s)]) rfl];simp! [g,zo];rfl
 erw[tQ];simp! [yt,a,b,l,m,o];rfl
def zmp(F:Wrd (AI "names") AC AC AC)(k:Nat)(d:PV)(st:SO):yc T (k+3) yf [tN,d] st=.ok .non st:=by have j:T yf=AA #[2,3,AC,yt.body]:=rfl;have a:∀f,yc T (k+2) 1 [tN] f=.ok (.tp AC []) f:=zkV (k+1);have b:∀f,yc T (k+2) 7 [tN,d] f=.ok .non f:=zd8 F (k+1) d;have c:∀f,yc T (k+2) 9 [.lst []] f=.ok .non f:=zfP (k+1);have g:∀f:SO,idxV f tN (.int 0)=AA (.str "names"):=λ_=>rfl;have l:=F.fr;erw[tN]at a b g ⊢;rw[zk j rfl rfl];simp! [yt,a,b,c,g,l,zo,zB,zN];rfl
def zif(k:Nat)(a:List Int){n:Nat}(g:a.length=n)(j:n<=8)(w:Nat)(b:w<=16)(h:inW (2^w) a)(st:SO):yc T (k+2) yfJ [.int (dv (2^w) a),.int w,.int n] st=.ok (.tup (a.map .int)) st:=by
 have l:T yfJ=AA ye3:=rfl;have c:=zde k (dv (2^w) a) a g j w b (λi q=>zeq (za3 w) a i h ()) [];let#[r,m]:=zed (za3 w) a h;have d:(w:Int).natAbs<18446744073709551616:=by lia
 have o:(w:Int)*(n:Int)=((w*n:Nat):Int):=by simp
 have p:w*n<=16*8:=BK b j;have f:yq .shl (.int 1) (.int ((w*n:Nat):Int))=AA (.int (2^(w*n))):=by rw[zgy ⋯ (show w*n<=1000000 by lia),Cq]
 rw[g,<-DA]at m;rw[yc,l];simp only[ye3,AY,Aj,BS,B9,if_true,nLs,nL,C5,AV,Az,Bs,AT,B5,xs_cons,xs_nil,x_ite,x_ret,IC.ve3,IC.ve1,IC.ve2,IC.ve7,IC.ve8,IC.ve18,IC.vsq0,IC.vsq1,AO,AN,bd_ok,fl_ok,toR_some,c_lt,c_ge,decide_eq_false (show ¬dv (2^w) a<0 by lia),decide_eq_false (show ¬(2:Int)^(w*n)<=dv (2^w) a by lia),zap d,o,f,onBl,cond_false,t_bl,on_t,th_nx,c,th_rt,PV.tup,noLocs_ints]
def zgO(k:Nat)(a:List Int){n:Nat}(c:a.length=n+1)(m:n+1<=8)(w:Nat)(j:1<=w)(b:w<=16)(h:inW (2^w) a)(st:SO):yc T (k+2) yf6 [.tup (a.map .int),.int w] st=.ok (.int (dv (2^w) a-bi (decide (2^w/2<=a.getD n 0))*2^(w*(n+1)))) st:=by
 have o:T yf6=AA ydx:=rfl;have l:=zeh k a w b h () [];have d:=zjW k a c w j [];have p:=(zdQ j c h).1;rw[p]at d;have t:0<=bi (decide (2^w/2<=a.getD n 0))/\bi (decide (2^w/2<=a.getD n 0))<=1:=by cases decide (2^w/2<=a.getD n 0)<;>decide
 have f:(w:Int).natAbs<18446744073709551616:=by lia
 have q:(w:Int)*((n+1:Nat):Int)=((w*(n+1):Nat):Int):=by simp
 have g:yaf .len [] [PV.tp AC (a.map .int)]=AA (.int ((n+1:Nat):Int)):=by rw[<-c];simp[yaf,lenV,yaJ]
 have r:w*(n+1)<=16*8:=BK b m;erw[PV.tup]at l d;rw[yc,o];simp only[ydx,AY,Aj,BS,B9,if_true,nLs,nL,noLocs_ints,C5,AV,Az,Bs,AT,B5,xs_cons,xs_nil,x_ret,IC.ve3,IC.ve18,IC.ve19,IC.ve2,IC.vsq0,IC.vsq1,AO,AN,bd_ok,fl_ok,PV.tup,l,d,g,toR_some,zap f,q,zgy (show (bi (decide (2^w/2<=a.getD n 0))).natAbs<18446744073709551616 by lia) (show w*(n+1)<=1000000 by lia),b_sub,th_rt]
def zfq(k:Nat)(a:List Int){n:Nat}(c:a.length=n+1)(j:n+1<=8)(w:Nat)(l:1<=w)(b:w<=16)(h:inW (2^w) a)(st:SO):yc T (k+2) yy [.int (dv (2^w) a-bi (decide (2^w/2<=a.getD n 0))*2^(w*(n+1))),.int w,.int ((n+1:Nat):Int)] st=.ok (.tup (a.map .int)) st:=by
 have m:T yy=AA yl:=rfl;let#[_,t,u]:=zdQ l c h;have d:=zde k (dv (2^w) a-bi (decide (2^w/2<=a.getD n 0))*2^(w*(n+1))) a c j w b (λi x=>by have:=zj5 (za3 w) a i h () (bi (decide (2^w/2<=a.getD n 0)));rw[c,<-DA]at this;exact this) []
 generalize dv (2^w) a-bi (decide (2^w/2<=a.getD n 0))*2^(w*(n+1))=V at *;have f:(w:Int).natAbs<18446744073709551616:=by lia
 have o:w*(n+1)<=16*8:=BK b j;have p:1<=w*(n+1):=BK l (show 1<=n+1 by lia);have q:(w:Int)*((n+1:Nat):Int)=((w*(n+1):Nat):Int):=by simp
 have r:((w*(n+1):Nat):Int)-1=((w*(n+1)-1:Nat):Int):=by lia
 have g:yq .shl (.int 1) (.int ((w*(n+1)-1:Nat):Int))=AA (.int (2^(w*(n+1)-1))):=by rw[zgy ⋯ (show w*(n+1)-1<=1000000 by lia),Cq]
 rw[yc,m];simp only[yl,AY,Aj,BS,B9,if_true,nLs,nL,C5,AV,Az,Bs,AT,BQ,B6,xs_cons,xs_nil,x_asg,x_ite,x_ret,IC.ve3,IC.ve4,IC.ve1,IC.ve2,IC.ve7,IC.ve8,IC.ve18,IC.vsq0,IC.vsq1,AO,AN,bd_ok,fl_ok,toR_some,bT_n,nxO_some,A4,A5,c_lt,c_ge,decide_eq_false (show ¬V < -(2^(w*(n+1)-1))by lia),decide_eq_false (show ¬(2:Int)^(w*(n+1)-1)<=V by lia),zap f,q,b_sub,r,g,onBl,cond_false,t_bl,on_t,th_nx,d,th_rt,PV.tup,noLocs_ints]
def zoY(k:Nat)(x:Int)(K:Nat)(a:K<1000)(st:SO):yc T (k+2) yhT [.int x,.int K] st=.ok (.int (if 2^K<=2*x then x-2^K else x)) st:=by
 have b:=zfG k K a [];have c:T yhT=AA yfo:=rfl;rw[yc,c];simp! [yfo,b]
 by_cases h:2^K<=2*x<;>simp[h,R.fl,yX,nL]
def sgw(w:Nat)(a:List Int):Int:=if 2^(w*a.length)<=2*dv (2^w) a then dv (2^w) a-2^(w*a.length)else dv (2^w) a
def zdY{w:Nat}{a:List Int}{m:Nat}(f:a.length=m+1)(b:1<=w)(j:inW (2^w) a):sgw w a=dv (2^w) a-bi (decide (2^w/2<=a.getD m 0))*2^(w*(m+1)):=by
 unfold sgw;rw[f];let#[l,c,d]:=zdQ b f j;have n:(2:Int)^(w*(m+1))=2*2^(w*(m+1)-1):=by
  have o:1<=w*(m+1):=BK b (show 1<=m+1 by lia);have:w*(m+1)=(w*(m+1)-1)+1:=by lia
  rw[this,Bv];erw[Nat.add_sub_cancel];lia
 cases g:decide (2^w/2<=a.getD m 0)with
 |true=>
  rw[g]at c d;erw[bi,if_true,Cq]at c d ⊢;rw[if_pos ()]
 |false=>
  rw[g]at c d;erw[bi,Aw,if_false,JP]at c d ⊢;rw[if_neg ()];lia
theorem Gd.suc{w:Nat}{a:List Int}(g:Gd w a):∃m,a.length=m+1:=#[a.length-1,by have:=g.n1;lia]
def zgq(k:Nat){w:Nat}{a:List Int}(g:Gd w a)(st:SO):yc T (k+2) yf6 [.tup (a.map .int),.int w] st=.ok (.int (sgw w a)) st:=by
 let#[m,b]:=g.suc;have:=g.n4;have:=g.w4
 rw[zdY b () g.hi];exact zgO k a b () w () g.w16 g.hi st
def zfS(k:Nat){w:Nat}{a:List Int}(g:Gd w a)(st:SO):yc T (k+2) yy [.int (sgw w a),.int w,.int a.length] st=.ok (.tup (a.map .int)) st:=by
 let#[m,b]:=g.suc;have:=g.n4;have:=g.w4
 rw[zdY b () g.hi,b];exact zfq k a b () w () g.w16 g.hi st
def ziH(k:Nat){w:Nat}{a:List Int}(g:Gd w a)(st:SO):yc T (k+2) yfJ [.int (dv (2^w) a),.int w,.int a.length] st=.ok (.tup (a.map .int)) st:=
 zif k a rfl (by have:=g.n4;lia) w g.w16 g.hi st
def zho(k:Nat){w:Nat}{a:List Int}(g:Gd w a)(st:SO):yc T (k+1) yf2 [.tup (a.map .int),.int w] st=.ok (.int (dv (2^w) a)) st:=
 zeh k a w g.w16 g.hi (by have:=g.n4;lia) st
def zd2(k:Nat){w:Nat}{a:List Int}(g:Gd w a)(st:SO):yc T (k+2) yf9 [.tup (a.map .int),.int w] st=.ok (.str (txt w a)) st:=
 zhq k a w g.w16 (by have:=g.n4;lia) g.hi st
def zg3(k:Nat){w:Nat}{a:List Int}(g:Gd w a)(st:SO):yc T (k+1) ygs [.tup (a.map .int),.int w] st=.ok (.str (txt w a)) st:=
 zdy k a w g.w16 (λz=>by have:=g.n1;rw[z]at this;cases this) (by have:=g.n4;lia) g.hi st
def ziB{w:Nat}{c:List Int}(g:Gd w c):0<=dv (2^w) c/\dv (2^w) c<2^64:=by
 let#[a,b]:=zed (za3 w) c g.hi;refine#[a,HH b ?_];rw[<-DA];have:w*c.length<=64:=BK g.w16 g.n4
 exact_mod_cast BM () this
def zit{w:Nat}{c:List Int}(g:Gd w c):(sgw w c).natAbs<10^30:=by
 let#[a,b]:=ziB g;have d:(2:Int)^(w*c.length)<=2^64:=by
  have:w*c.length<=64:=BK g.w16 g.n4
  exact_mod_cast BM () this
 have f:(0:Int)<2^(w*c.length):=Do ();unfold sgw;split<;>lia
abbrev rc3(w:Nat)(a:List Int):PV:=.tp AC [.int w,.tp AC (a.map .int),.str (txt w a)]
def zbO(k:Nat){w:Nat}{a:List Int}(g:Gd w a)(st:SO):yc T (k+3) yhL [.int w,.tup (a.map .int)] st=.ok (rc3 w a) st:=by
 have b:T yhL=AA #[2,2,AE,yaF.body]:=rfl;have e:yc T (k+2) 16 [.tp AC (a.map .int),.int w] []=.ok (.str (txt w a)) []:=zd2 k g [];have c:∀s:SO,ybI st (.rt (rc3 w a) s)=.ok (rc3 w a) st:=λs=>by simp[ybI,nL,nLs,noLocs_ints]
 rw[zl b rfl rfl (by simp[nLs,nL,noLocs_ints])];simp! [yaF,e];exact c _
def zdN:shp (.str "plain")=true:=zoE (by decide +kernel)
def zcg:shp (.str "signed")=true:=zoE (by decide +kernel)
def zdE(k:Nat){w:Nat}{l:List Int}(g:Gd w l)(s:AR)(d:PV)(st:SO):yc T (k+4) yfq [tP (AI "plain") s w l.length (dv (2^w) l),d] st=.ok (rc3 w l) st:=by
 have m:T yfq=AA #[2,9,AC,yaN.body]:=rfl;have n:∀j,yc T (k+3) 10 [.int (dv (2^w) l),.int w,.int l.length] j=.ok (.tp AC (l.map .int)) j:=ziH (k+1) g;have o:∀j,yc T (k+3) 22 [.int w,.tp AC (l.map .int)] j=.ok (rc3 w l) j:=zbO k g;have p:∀j:SO,∀f a b c,idxV j (.tp AC [.str f,.str s,.int a,.int b,.int c]) (.int 0)=AA (.str f):=λ_ _ _ _ _=>rfl;have q:∀j:SO,∀f a b c,idxV j (.tp AC [.str f,.str s,.int a,.int b,.int c]) (.int 2)=AA (.int a):=λ_ _ _ _ _=>rfl;have r:∀j:SO,∀f a b c,idxV j (.tp AC [.str f,.str s,.int a,.int b,.int c]) (.int 3)=AA (.int b):=λ_ _ _ _ _=>rfl;have t:∀j:SO,∀f a b c,idxV j (.tp AC [.str f,.str s,.int a,.int b,.int c]) (.int 4)=AA (.int c):=λ_ _ _ _ _=>rfl;have u:yo .eq (.str "plain") (.str "plain")=AA (.bl AE):=by rw[eqS zdN zdN];simp
 rw[zk m rfl rfl];simp! [yaN,p,q,r,t,u,n,o];rfl
def zdg(k:Nat){w:Nat}{l:List Int}(g:Gd w l)(s:AR)(d:PV)(st:SO):yc T (k+4) yfq [tP (AI "signed") s w l.length (sgw w l),d] st=.ok (rc3 w l) st:=by
 have m:T yfq=AA #[2,9,AC,yaN.body]:=rfl;have n:∀j,yc T (k+3) 11 [.int (sgw w l),.int w,.int l.length] j=.ok (.tp AC (l.map .int)) j:=zfS (k+1) g;have o:∀j,yc T (k+3) 22 [.int w,.tp AC (l.map .int)] j=.ok (rc3 w l) j:=zbO k g;have p:∀j:SO,∀f a b c,idxV j (.tp AC [.str f,.str s,.int a,.int b,.int c]) (.int 0)=AA (.str f):=λ_ _ _ _ _=>rfl;have q:∀j:SO,∀f a b c,idxV j (.tp AC [.str f,.str s,.int a,.int b,.int c]) (.int 2)=AA (.int a):=λ_ _ _ _ _=>rfl;have r:∀j:SO,∀f a b c,idxV j (.tp AC [.str f,.str s,.int a,.int b,.int c]) (.int 3)=AA (.int b):=λ_ _ _ _ _=>rfl;have t:∀j:SO,∀f a b c,idxV j (.tp AC [.str f,.str s,.int a,.int b,.int c]) (.int 4)=AA (.int c):=λ_ _ _ _ _=>rfl;have u:yo .eq (.str "signed") (.str "plain")=AA (.bl AC):=by rw[eqS zcg zdN];exact congrArg (λb=>AA (PV.bl b)) (by decide +kernel)
 have x:yo .eq (.str "signed") (.str "signed")=AA (.bl AE):=by rw[eqS zcg zcg];simp
 rw[zk m rfl rfl];simp! [yaN,p,q,r,t,u,x,n,o];rfl
abbrev fls(m l:Nat):List (AR×PV):=[(AI "numbers",.loc m),(AI "earlier",.loc 4),(AI "later",.loc l)]
def zmV(m l:Nat):(fls m l).lookup (AI "numbers")=AA (.loc m):=by erw[fls,CJ,show (AI "numbers" == AI "numbers")=AE by simp]
def zlX(m l:Nat):(fls m l).lookup (AI "earlier")=AA (.loc 4):=by erw[fls,CJ,show (AI "earlier" == AI "numbers")=AC by decide +kernel,show (AI "earlier" == AI "earlier")=AE by simp]
def zjd{x:AR}(m l:Nat)(a:(x==AI "numbers")=AC)(b:(x==AI "earlier")=AC)(c:(x==AI "later")=AC):(fls m l).lookup x=none:=by erw[fls,CJ,a,b,c]
def zn5:¬AI "numbers"=AI "earlier":=by decide +kernel
def zmG:¬AI "earlier"=AI "later":=by decide +kernel
def zlq:¬AI "numbers"=AI "later":=by decide +kernel
def zl4(m l L:Nat):yby (AI "numbers") (.loc L) (fls m l)=fls L l:=by erw[fls,yby,if_true]
def zmA(m l L:Nat):yby (AI "later") (.loc L) (fls m l)=fls m L:=by erw[fls,yby,if_neg zlq,if_neg zmG,if_true]
variable {st:SO}{m l:Nat}
def zev(h:st[2]?=AA (.ins 21 (fls m l))):yck 21 st (.loc 2) (AI "numbers")=AA (.loc m):=by erw[yck,h,if_true,zmV]
def zll(h:st[2]?=AA (.ins 21 (fls m l))):yck 21 st (.loc 2) (AI "earlier")=AA (.loc 4):=by erw[yck,h,if_true,zlX]
def znP{L:Nat}(h:st[2]?=AA (.ins 21 (fls m l))):ybD 21 st (.loc 2) (AI "later") (.loc L)=AA (st.set 2 (.ins 21 (fls m L))):=by erw[ybD,h];rw[if_pos #[CM,by simp],zmA]
def zng{L:Nat}(h:st[2]?=AA (.ins 21 (fls m l))):ybD 21 st (.loc 2) (AI "numbers") (.loc L)=AA (st.set 2 (.ins 21 (fls L l))):=by erw[ybD,h];rw[if_pos #[CM,by simp],zl4]
def zr{A:Type}{xs:List A}{i:Nat}{x:A}(h:xs[i]?=AA x):i<xs.length:=by let#[q,_]:=Ao.1 h;exact q
def zks(k:Nat){L:Nat}{es:List PV}(a:st[2]?=AA (.ins 21 (fls m l)))(b:st[4]?=AA (.lst es))(d:es.length<1000):
  yc T (k+1) yhK [.loc 2,.loc L] st=.ok .non ((((st.set 4 (.lst (es++[PV.loc m])))++[Ob.lst []]).set 2 (.ins 21 (fls m st.length))).set 2 (.ins 21 (fls L st.length))):=by
 have f:T yhK=AA #[2,2,AC,yap.body]:=rfl;have g:=zr a;have t:=zr b;let#[ok,j]:=zd6 (v:=.loc m) b d;have c:((st.set 4 (.lst (es++[PV.loc m])))++[Ob.lst []])[2]?=AA (.ins 21 (fls m l)):=by rw[A7 (by rw[BD];exact g),AW ()];exact a
 have n:(((st.set 4 (.lst (es++[PV.loc m])))++[Ob.lst []]).set 2 (.ins 21 (fls m st.length)))[2]?=AA (.ins 21 (fls m st.length)):=rdS c;have o:=zll a;have p:=zev a;have q:=znP (L:=st.length) c;have r:=zng (L:=L) n;rw[zk f rfl rfl];simp! [yap,IC.x_sfl,o,p,ok,j,q,r,stO,BD,BB];rfl
section
variable {a b c d e f:Ob}{i:Nat}
def zl2(j:i<st.length)(g:i≠2)(l:i≠4):((((((st++[a]).set st.length b).set 4 c)++[d]).set 2 e).set 2 f)[i]?=st[i]?:=by rw[AW (BR g),AW (BR g),A7 (by simp;lia),AW (BR l),AW (),A7 j]
def znZ(g:2<st.length):((((((st++[a]).set st.length b).set 4 c)++[d]).set 2 e).set 2 f)[2]?=AA f:=by rw[Ab (by simp;lia)]
def zos(g:4<st.length):((((((st++[a]).set st.length b).set 4 c)++[d]).set 2 e).set 2 f)[4]?=AA c:=by rw[AW (),AW (),A7 (by simp;lia),Ab (by simp;lia)]
def zn0(g:2<st.length)(j:4<st.length):((((((st++[a]).set st.length b).set 4 c)++[d]).set 2 e).set 2 f)[st.length]?=AA b:=by rw[AW (),AW (),A7 (by simp),AW (),Ab (by simp)]
end
structure Dsk(st:SO)(D:List (PV×PV))(B:Nat):Prop where
 ex:∃m l es,st[2]?=AA (.ins 21 (fls m l))/\st[4]?=AA (.lst es)/\es.length<=B/\st[m]?=AA (.dct AC D)/\m≠0/\m≠2/\m≠4/\m≠6
structure ydO(f:AR):Prop where
 wr:Wrd f AE AE AC
 qu:yo .isin (.str f) yi=AA (.bl AC)
 un:yo .eq (.str f) (.str "undo")=AA (.bl AC)
 re:yo .eq (.str f) (.str "redo")=AA (.bl AC)
 dr:yo .eq (.str f) (.str "drop")=AA (.bl AC)
def zhX(k:Nat){f s line:AR}{w:Nat}{j:List Int}{v:Int}(g:Gd w j)(P:ydO f)(H:∀st,yc T (k+4) 0 [.str line] st=.ok (tP f s w j.length v) st)(q:∀d st,yc T (k+4) 21 [tP f s w j.length v,d] st=.ok (rc3 w j) st)
  {D:List (PV×PV)} {B:Nat} (h:Dsk st D B) (hB:B<500) (hD:D.length<=1000) (I:6<st.length):
  ∃n,yc T (k+5) ya [.loc 2,.str line] st=.ok (.str (txt w j)) n/\Dsk n (put (.str s) (rcd w j) D) (B+1)/\n[0]?=st[0]?/\n[6]?=st[6]?:=by
 let#[m,l,r,u,A,he,C,m0,m2,m4,m6]:=h.ex;have J:T ya=AA #[2,7,AC,yF.body]:=rfl;have x:=zr u;have y:=zr A;have lm:=zr C;let#[F,M,un,N,O]:=P;have hw:=g.w4;have Q:=g.w16;have hn:=g.n1;have U:=g.n4
 have a:∀o,yc T (k+4) 6 [tP f s w j.length v,.loc m] o=.ok .non o:=ziQ F () () () () (k+1) (.loc m);have X:=zev u;have Y:∀o:SO,idxV o (tP f s w j.length v) (.int 0)=AA (.str f):=λ_=>rfl;have Z:∀o:SO,idxV o (tP f s w j.length v) (.int 1)=AA (.str s):=λ_=>rfl;have dc:yc5 st (.loc m)=.ok (.loc st.length) (st++[.dct AC D]):=by erw[yc5,yag,C]
 have aL:(st++[Ob.dct AC D])[st.length]?=AA (.dct AC D):=by simp
 have dp:ya0 (st++[Ob.dct AC D]) (.loc st.length) (.str s) (rcd w j)=AA ((st++[Ob.dct AC D]).set st.length (.dct AC (put (.str s) (rcd w j) D))):=by erw[ya0,aL];rw[if_pos #[rfl,by lia]]
 have E:((st++[Ob.dct AC D]).set st.length (.dct AC (put (.str s) (rcd w j) D)))[2]?=AA (.ins 21 (fls m l)):=by rw[AW (),A7 x];exact u
 have b4:((st++[Ob.dct AC D]).set st.length (.dct AC (put (.str s) (rcd w j) D)))[4]?=AA (.lst r):=by rw[AW (),A7 y];exact A
 have z:=zks (k+3) (L:=st.length) E b4 ();have z:yc T (k+4) 20 [.loc 2,.loc st.length] _=_:=z;have ib:yb4 21 (AI "keep") ((st++[Ob.dct AC D]).set st.length (.dct AC (put (.str s) (rcd w j) D))) (.loc 2)=AA true:=by erw[yb4,E];rw[if_pos #[CM,zjd m l (by decide +kernel) (by decide +kernel) (by decide +kernel)]]
 have bt:∀(a b c d e f g:Option PV),yr (.t [3,4,5]) (rc3 w j) [a,b,c,d,e,f,g]=AA [a,b,c,AA (.int w),AA (.tp AC (j.map .int)),AA (.str (txt w j)),g]:=λ_ _ _ _ _ _ _=>rfl;have q:=q (.loc m);generalize tP f s w j.length v=G at *;have p:yc T (k+5) ya [.loc 2,.str line] st=.ok (.str (txt w j)) (((((((st++[Ob.dct AC D]).set st.length (.dct AC (put (.str s) (rcd w j) D))).set 4 (.lst (r++[PV.loc m])))++[Ob.lst []]).set 2 (.ins 21 (fls m ((st++[Ob.dct AC D]).set st.length (Ob.dct AC (put (.str s) (rcd w j) D))).length))).set 2 (.ins 21 (fls st.length ((st++[Ob.dct AC D]).set st.length (Ob.dct AC (put (.str s) (rcd w j) D))).length)))):=by rw[zk J rfl rfl];simp! [yF,IC.x_dput,H,a,X,Y,Z,M,un,N,O,q,dc,dp,ib,z,stO,bt];rfl
 refine#[_,p,?_,?_,?_]
 .exact#[st.length,_,r++[.loc m],znZ x,zos y,by simp;lia,zn0 x y,by lia,by lia,by lia,by lia]
 .exact zl2 () () ()
 .exact zl2 I () ()
open PySem.W in
def okT{A:Type}(n:Nat)(f:A->Bool):KasT A->Bool
 |.ret a=>f a
 |.ask i j k=>decide (i<n)&&decide (j<n)&&okT n f (k AE)&&okT n f (k AC)
open PySem.W in
def zdn{A:Type}{n:Nat}{f:A->Bool}{g:Nat->Nat->Bool}:∀(t:KasT A),okT n f t=AE->∃a,ybu g n t=AA a/\f a=AE
 |.ret a,h=>#[a,rfl,h]
 |.ask i j k,h=>by
  erw[okT,AK,decide_eq_true_eq]at h;let#[#[#[b,c],d],l]:=h;erw[ybu];rw[if_pos #[b,c]]
  cases g i j with
  |true=>exact zdn (k AE) d
  |false=>exact zdn (k AC) l
abbrev okP(n:Nat)(p:Array Nat):Bool:=decide (p.size=n)&&p.toList.all (· < n)
def zps{n:Nat}(a:2<=n)(b:n<=5):okT n (okP n) (IF n)=true:=by rcases (by lia:n=2 \/ n=3 \/ n=4 \/ n=5)with rfl|rfl|rfl|rfl<;>decide +kernel
def zmy{ks:List AR}(d:ks.length<=5):∃out,PySem.W.srkP ks=AA out/\(∀s∈out,s∈ks)/\out.length=ks.length:=by
 unfold PySem.W.srkP
 by_cases c:ks.length<2
 .rw[if_pos c];exact#[ks,rfl,λ_ h=>h,rfl]
 .rw[if_neg c,if_pos ()];let#[p,e,b]:=zdn (g:=λi j=>PySem.W.ltS (ks.getD i default) (ks.getD j default)) _ (zps () d);erw[okP,AK,decide_eq_true_eq]at b;rw[e,BI,if_pos #[by lia,b.2]];refine#[_,rfl,λs f=>?_,by rw[Ae,BX,b.1]];let#[i,l,rfl]:=C4.1 f;have a:=Ar.1 b.2 i l;rw[decide_eq_true_eq]at a;rw[BN,Ac a];exact Fu a
def zg7{st:SO}{m N:Nat}{D:List (PV×PV)}{ks out:List AR}(a:st[m]?=AA (.dct AC D))(h:DOk D ks N)(e:PySem.W.srkP ks=AA out):ydg st (.loc m)=AA (.lst (out.map .str)):=by erw[ydg,yag,a,h.hk,BI,e];rfl
def ybv(out:List AR):Str:=if out=[]then AI "none" else BH #[(List.toArray [32])] out
def zeu{st:SO}{out:List AR}(h:∀s∈out,Nam s)(b:out.length<=5):yaR .join st (.str " ") [.lst (out.map .str)]=.ok (.str (BH #[(List.toArray [32])] out)) st:=by rw[zoQ];exact zcn rfl (by simp[BC]) () λy a=>by have:=(h y a).2.1;lia
def zdG{st:SO}(l:List PV):yaf .len st [.lst l]=AA (.int l.length):=by simp[yaf,lenV,yaJ]
def zfX(k:Nat){out:List AR}(h:∀s∈out,Nam s)(c:out.length<=5)(st:SO):yc T (k+1) yhM [.lst (out.map .str)] st=.ok (.str (ybv out)) st:=by
 have d:T yhM=AA #[1,1,AE,yaH.body]:=rfl;have f:nLs [PV.lst (out.map .str)]=true:=by
  have:∀l:List AR,nLs (l.map PV.str)=true:=λl=>by
   induction l with
   |nil=>rfl
   |cons x l ih=>simp[nLs,nL,ih]
  simp[nLs,nL,this]
 have a:=zdG (st:=[]) (out.map PV.str);rw[zl d rfl rfl f]
 cases out with
 |nil=>
  have b:yo .gt (.int 0) (.int 0)=AA (.bl AC):=by rw[c_gt];simp
  rw[show ybv []=AI "none" by simp[ybv]];erw[Az,Aj]at a;simp! [yaH,a,b,yfF];rfl
 |cons x r=>
  have b:yo .gt (.int ((x::r).map PV.str).length) (.int 0)=AA (.bl AE):=by rw[c_gt];simp
  have g:=zeu (st:=[]) h c;have ok:yaw .join [] (.str " ")=AA true:=rfl;rw[show ybv (x::r)=BH #[(List.toArray [32])] (x::r)by simp[ybv]];generalize x::r=l at *;generalize (l.map PV.str)=j at *;simp! [yaH,a,b,ok,g,zbb]
def zcf{i:Int}(h:i.natAbs<10^30)(st:SO):yaf .str st [.int i]=AA (.str (yae i)):=by
 show ydw (.int i)=_;erw[ydw];rw[if_pos (by
  by_cases z:i.natAbs=0
  .rw[z];decide
  .exact(G5 z).2 (HZ h (by decide +kernel)))]
 rfl
abbrev S(x:String):Str:=AI x
theorem eqL{a b:AR}{r:Bool}(f:a.cps.toList.all (· < 1114112)=AE)(g:b.cps.toList.all (· < 1114112)=AE)(h:(a==b)=r):yo .eq (.str a) (.str b)=AA (.bl r):=by rw[eqS (zoE λc d=>by simpa using Ar.1 f c d) (zoE λc d=>by simpa using Ar.1 g c d),h]
section
variable {st:SO}{m N:Nat}{D:List (PV×PV)}{ks:List AR}{s:AR}{w:Nat}{ds:List Int}
def zhl(a:st[m]?=AA (.dct AC D))(b:look (.str s) D=AA (rcd w ds)):yc8 st (.loc m) (.str s)=AA (rcd w ds):=by erw[yc8,yag,a];rw[if_pos (show isKey AC (.str s)=AE from rfl),b]
def zlz(a:st[m]?=AA (.dct AC D))(b:look (.str s) D=AA (rcd w ds)):ycr st (.str s) (.loc m)=AA (.bl AC):=by erw[ycr,yag,a];rw[if_pos (show isKey AC (.str s)=AE from rfl),b];rfl
structure QW(f:AR)(x:String):Prop where
 wr:Wrd f AC AC AE
 qu:yo .isin (.str f) yi=AA (.bl AE)
 na:yo .eq (.str f) (.str (S "names"))=AA (.bl AC)
 ro:yo .eq (.str f) (.str (S "rows"))=AA (.bl AC)
 sh:yo .eq (.str f) (.str (S "show"))=AA (.bl (x == "show"))
 wo:yo .eq (.str f) (.str (S "worth"))=AA (.bl (x == "worth"))
 sw:yo .eq (.str f) (.str (S "sworth"))=AA (.bl (x == "sworth"))
def yb5(x:String)(w:Nat)(ds:List Int):Str:=if x == "show" then txt w ds else if x == "worth" then yae (dv (2^w) ds)else yae (sgw w ds)
def zeM(k:Nat){f:AR}{x:String}(Q:QW f x)(I:x="show" \/ x="worth" \/ x="sworth")(g:Gd w ds)(J:st[m]?=AA (.dct AC D))(L:look (.str s) D=AA (rcd w ds)):
  yc T (k+4) yft [tQ f s,.loc m] st=.ok (.str (yb5 x w ds)) st:=by
 have M:T yft=AA #[2,7,AC,yL.body]:=rfl;have a:∀j,yc T (k+3) 1 [tQ f s] j=.ok (.tp AC [.str s]) j:=zgg Q.wr.gi (k+2);have p:∀j:SO,idxV j (tQ f s) (.int 0)=AA (.str f):=λ_=>rfl;have q:∀j:SO,idxV j (.lst [rcd w ds]) (.int 0)=AA (rcd w ds):=λ_=>rfl;have d:=zhl J L;have r:yM (yc T (k+3)) [AD,AA (.loc m)] (.n 0) (.cst (.bl AE)) (.dgt (.var 1) (.var 0)) [.str s] st=.ok [rcd w ds] st:=
  zV (zaE (ρ1:=[AA (.str s),AA (.loc m)]) rfl (by simp! [d])) zB
 have u:∀(a b c d e f g:Option PV),yr (.t [3,4]) (rcd w ds) [a,b,c,d,e,f,g]=AA [a,b,c,AA (.int w),AA (.tp AC (ds.map .int)),f,g]:=λ_ _ _ _ _ _ _=>rfl;have N:∀j,yc T (k+3) 16 [.tp AC (ds.map .int),.int w] j=.ok (.str (txt w ds)) j:=zd2 (k+1) g;have O:∀j,yc T (k+3) 12 [.tp AC (ds.map .int),.int w] j=.ok (.int (dv (2^w) ds)) j:=zho (k+2) g;have U:∀j,yc T (k+3) 13 [.tp AC (ds.map .int),.int w] j=.ok (.int (sgw w ds)) j:=zgq (k+1) g;have X:=zcf (i:=dv (2^w) ds) (by have:=ziB g;lia) st;have Y:=zcf (zit g) st;have y:=zN [rcd w ds] (by simp);let#[_,_,z,A,l,o,G]:=Q;generalize Z:tQ f s=H,hr:rcd w ds=rc at *;have B:(("worth":String) == "show")=false:=by decide
 have C:(("sworth":String) == "show")=false:=by decide
 have E:(("sworth":String) == "worth")=false:=by decide
 rw[zk M rfl rfl];rcases I with rfl|rfl|rfl
 .simp only[beq_self_eq_true]at l;rw[show yb5 "show" w ds=txt w ds by simp[yb5]];simp! [yL,a,p,q,r,u,N,z,A,l,y];rfl
 .simp only[beq_self_eq_true,B]at l o;rw[show yb5 "worth" w ds=yae (dv (2^w) ds)by simp[yb5]];simp! [yL,a,p,q,r,u,O,z,A,l,o,X,y];rfl
 .simp only[beq_self_eq_true,C,E]at l o G;rw[show yb5 "sworth" w ds=yae (sgw w ds)by simp[yb5]];simp! [yL,a,p,q,r,u,U,z,A,l,o,G,Y,y];rfl
def zlr(k:Nat){f line:AR}{x:String}(Q:QW f x)(n:x="show" \/ x="worth" \/ x="sworth")(g:Gd w ds){B:Nat}(h:Dsk st D B)(c:look (.str s) D=AA (rcd w ds))(o:∀st,yc T (k+4) 0 [.str line] st=.ok (tQ f s) st):
  yc T (k+5) ya [.loc 2,.str line] st=.ok (.str (yb5 x w ds)) st:=by let#[m,l,z,p,A,C,d,E,G,H,I]:=h.ex;have q:T ya=AA #[2,7,AC,yF.body]:=rfl;have a:yc T (k+4) 6 [tQ f s,.loc m] st=.ok .non st:=zmd Q.wr (zlz d c) (k+1);have b:yc T (k+4) 23 [tQ f s,.loc m] st=.ok (.str (yb5 x w ds)) st:=zeM k Q n g d c;have r:=zev p;have t:∀u:SO,idxV u (tQ f s) (.int 0)=AA (.str f):=λ_=>rfl;have y:=Q.qu;generalize tQ f s=j at *;rw[zk q rfl rfl];simp! [yF,o,a,b,r,t,y];rfl
def zjE:Wrd (S "names") AC AC false:=
 #[zp (by decide +kernel) (by decide +kernel),congrArg (λb=>AA (PV.bl b)) (by decide +kernel),zp (by decide +kernel) (by decide +kernel),eqL (by decide +kernel) (by decide +kernel) (by decide +kernel),eqL (by decide +kernel) (by decide +kernel) (by decide +kernel),zam (by decide +kernel) (by decide +kernel)]
def znU(k:Nat){line:AR}{out:List AR}{B:Nat}(h:Dsk st D B)(g:DOk D ks N)(j:PySem.W.srkP ks=AA out)(n:∀s∈out,Nam s)(o:out.length<=5)(p:∀st,yc T (k+4) 0 [.str line] st=.ok tN st):
  yc T (k+5) ya [.loc 2,.str line] st=.ok (.str (ybv out)) st:=by
 let#[m,l,C,q,E,G,r,H,I,J,L]:=h.ex;have t:T ya=AA #[2,7,AC,yF.body]:=rfl;have u:T yft=AA #[2,7,AC,yL.body]:=rfl;have a:yc T (k+4) 6 [tN,.loc m] st=.ok .non st:=zmp zjE (k+1) (.loc m) st;have w:=zev q;have f:∀d:SO,idxV d tN (.int 0)=AA (.str (S "names")):=λ_=>rfl;have x:yo .isin (.str (S "names")) yi=AA (.bl AE):=zp (by decide +kernel) (by decide +kernel);have y:yo .eq (.str (S "names")) (.str (S "names"))=AA (.bl AE):=eqL (by decide +kernel) (by decide +kernel) (by decide +kernel);have z:=zg7 r g j;have A:∀d,yc T (k+3) 24 [.lst (out.map .str)] d=.ok (.str (ybv out)) d:=zfX (k+2) n o;have b:yc T (k+4) 23 [tN,.loc m] st=.ok (.str (ybv out)) st:=by generalize (tN:PV)=c at *;show yc T (k+3+1) yft [c,.loc m] st=_;rw[zk u rfl rfl];simp! [yL,f,y,z,A];rfl
 generalize (tN:PV)=c at *;rw[zk t rfl rfl];simp! [yF,p,a,b,w,f,x];rfl
end
def zjF:ydO (S "plain"):=#[#[zp (by decide +kernel) (by decide +kernel),congrArg (λb=>AA (PV.bl b)) (by decide +kernel),zp (by decide +kernel) (by decide +kernel),eqL (by decide +kernel) (by decide +kernel) (by decide +kernel),eqL (by decide +kernel) (by decide +kernel) (by decide +kernel),zam (by decide +kernel) (by decide +kernel)],zp (by decide +kernel) (by decide +kernel),eqL (by decide +kernel) (by decide +kernel) (by decide +kernel),eqL (by decide +kernel) (by decide +kernel) (by decide +kernel),eqL (by decide +kernel) (by decide +kernel) (by decide +kernel)]
def zh5:ydO (S "signed"):=#[#[zp (by decide +kernel) (by decide +kernel),congrArg (λb=>AA (PV.bl b)) (by decide +kernel),zp (by decide +kernel) (by decide +kernel),eqL (by decide +kernel) (by decide +kernel) (by decide +kernel),eqL (by decide +kernel) (by decide +kernel) (by decide +kernel),zam (by decide +kernel) (by decide +kernel)],zp (by decide +kernel) (by decide +kernel),eqL (by decide +kernel) (by decide +kernel) (by decide +kernel),eqL (by decide +kernel) (by decide +kernel) (by decide +kernel),eqL (by decide +kernel) (by decide +kernel) (by decide +kernel)]
def zm6:QW (S "show") "show":=#[#[zp (by decide +kernel) (by decide +kernel),congrArg (λb=>AA (PV.bl b)) (by decide +kernel),zp (by decide +kernel) (by decide +kernel),eqL (by decide +kernel) (by decide +kernel) (by decide +kernel),eqL (by decide +kernel) (by decide +kernel) (by decide +kernel),zam (by decide +kernel) (by decide +kernel)],zp (by decide +kernel) (by decide +kernel),eqL (by decide +kernel) (by decide +kernel) (by decide +kernel),eqL (by decide +kernel) (by decide +kernel) (by decide +kernel),eqL (by decide +kernel) (by decide +kernel) (by decide +kernel),eqL (by decide +kernel) (by decide +kernel) (by decide +kernel),eqL (by decide +kernel) (by decide +kernel) (by decide +kernel)]
def zk4:QW (S "worth") "worth":=#[#[zp (by decide +kernel) (by decide +kernel),congrArg (λb=>AA (PV.bl b)) (by decide +kernel),zp (by decide +kernel) (by decide +kernel),eqL (by decide +kernel) (by decide +kernel) (by decide +kernel),eqL (by decide +kernel) (by decide +kernel) (by decide +kernel),zam (by decide +kernel) (by decide +kernel)],zp (by decide +kernel) (by decide +kernel),eqL (by decide +kernel) (by decide +kernel) (by decide +kernel),eqL (by decide +kernel) (by decide +kernel) (by decide +kernel),eqL (by decide +kernel) (by decide +kernel) (by decide +kernel),eqL (by decide +kernel) (by decide +kernel) (by decide +kernel),eqL (by decide +kernel) (by decide +kernel) (by decide +kernel)]
def ziU:QW (S "sworth") "sworth":=#[#[zp (by decide +kernel) (by decide +kernel),congrArg (λb=>AA (PV.bl b)) (by decide +kernel),zp (by decide +kernel) (by decide +kernel),eqL (by decide +kernel) (by decide +kernel) (by decide +kernel),eqL (by decide +kernel) (by decide +kernel) (by decide +kernel),zam (by decide +kernel) (by decide +kernel)],zp (by decide +kernel) (by decide +kernel),eqL (by decide +kernel) (by decide +kernel) (by decide +kernel),eqL (by decide +kernel) (by decide +kernel) (by decide +kernel),eqL (by decide +kernel) (by decide +kernel) (by decide +kernel),eqL (by decide +kernel) (by decide +kernel) (by decide +kernel),eqL (by decide +kernel) (by decide +kernel) (by decide +kernel)]
abbrev k4:List PV:=[.str (S "name"),.str (S "whole"),.str (S "whole"),.str (S "whole")]
abbrev k1:List PV:=[.str (S "name")]
def zfh{f:AR}{D:List (AR×PV)}{v:PV}(i:Nat)(d:(D.take i).all (λp=>!decide (p.1=f))=AE)(c:D[i]?=AA (f,v)):yax f D=AA v:=by
 induction D generalizing i with
 |nil=>simp at c
 |cons p D ih=>
  let#[a,b]:=p
  cases i with
  |zero=>simp at c;let#[rfl,rfl]:=c;simp[yax]
  |succ i=>
   erw[Gn,BL,AK,Bp,decide_eq_false_iff_not]at d;erw[yax,decide_eq_true_eq];rw[if_neg d.1];exact ih i d.2 (by simpa using c)
theorem ydr:Fst (S "plain") k4:=#[eqL (by decide +kernel) (by decide +kernel) (by decide +kernel),eqL (by decide +kernel) (by decide +kernel) (by decide +kernel),congrArg (λb=>AA (PV.bl b)) (by decide +kernel),zfh 0 (by decide +kernel) rfl]
theorem ydx:Fst (S "signed") k4:=#[eqL (by decide +kernel) (by decide +kernel) (by decide +kernel),eqL (by decide +kernel) (by decide +kernel) (by decide +kernel),congrArg (λb=>AA (PV.bl b)) (by decide +kernel),zfh 1 (by decide +kernel) rfl]
def zm0:Fst (S "show") k1:=#[eqL (by decide +kernel) (by decide +kernel) (by decide +kernel),eqL (by decide +kernel) (by decide +kernel) (by decide +kernel),congrArg (λb=>AA (PV.bl b)) (by decide +kernel),zfh 11 (by decide +kernel) rfl]
def zkS:Fst (S "worth") k1:=#[eqL (by decide +kernel) (by decide +kernel) (by decide +kernel),eqL (by decide +kernel) (by decide +kernel) (by decide +kernel),congrArg (λb=>AA (PV.bl b)) (by decide +kernel),zfh 12 (by decide +kernel) rfl]
def ziJ:Fst (S "sworth") k1:=#[eqL (by decide +kernel) (by decide +kernel) (by decide +kernel),eqL (by decide +kernel) (by decide +kernel) (by decide +kernel),congrArg (λb=>AA (PV.bl b)) (by decide +kernel),zfh 13 (by decide +kernel) rfl]
def zjL:Fst (S "names") []:=#[eqL (by decide +kernel) (by decide +kernel) (by decide +kernel),eqL (by decide +kernel) (by decide +kernel) (by decide +kernel),congrArg (λb=>AA (PV.bl b)) (by decide +kernel),zfh 16 (by decide +kernel) rfl]
def zd1(k:Nat){f s line:AR}(F:Fst f k4)(hf:32∉f.cps.toList)(b:Nam s){w n v:Int}(d:w.natAbs<10^30)(g:n.natAbs<10^30)(j:v.natAbs<10^30)(l:line.cps.toList=sp1 [f,s,yae w,yae n,yae v])(m:line.length<=1000)(st:SO):
  yc T (k+4) yk [.str line] st=.ok (tP f s w n v) st:=by
 have a:=zaT l (by simp) (λt c=>by
  erw[A8,B8,or_false]at c;rcases c with rfl|rfl|rfl|rfl|rfl
  .exact hf
  .exact b.no32
  .exact zcl
  .exact zcl
  .exact zcl) m []
 refine zad (k+3) (rest:=[s,yae w,yae n,yae v]) (vs:=[.str s,.int w,.int n,.int v]) F a (by simp) ?_ rfl (by simp) st;refine zY (k+2) (ks:=k4) (ws:=[.str s,.str (yae w),.str (yae n),.str (yae v)]) (vs:=[.str s,.int w,.int n,.int v]) rfl rfl (by simp) rfl (by simp) ?_ [];exact zV (zax (zcH k b [])) (zV (zax (zaU k d [])) (zV (zax (zaU k g [])) (zV (zax (zaU k j [])) zB)))
def zne(k:Nat){f s line:AR}(F:Fst f k1)(hf:32∉f.cps.toList)(b:Nam s)(d:line.cps.toList=sp1 [f,s])(g:line.length<=1000)(st:SO):yc T (k+4) yk [.str line] st=.ok (tQ f s) st:=by
 have a:=zaT d (by simp) (λt c=>by
  erw[A8,B8,or_false]at c;rcases c with rfl|rfl
  .exact hf
  .exact b.no32) g []
 refine zad (k+3) (rest:=[s]) (vs:=[.str s]) F a (by simp) ?_ rfl (by simp) st;refine zY (k+2) (ks:=k1) (ws:=[.str s]) (vs:=[.str s]) rfl rfl (by simp) rfl (by simp) ?_ [];exact zV (zax (zcH k b [])) zB
def zm8(k:Nat)(st:SO):yc T (k+4) yk [.str (S "names")] st=.ok tN st:=by
 have a:=zaT (line:=S "names") (l:=[S "names"]) rfl (by simp) (λt b=>by erw[A8,B8,or_false]at b;subst b;decide +kernel) (by decide +kernel) []
 refine zad (k+3) (rest:=[]) (vs:=[]) zjL a (by simp) ?_ rfl (by simp) st;exact zY (k+2) rfl rfl (by simp) rfl (by simp) zB []
def zeK:∀(vs:List PV) (ys:List AR) (out:AR),vs.map ybX=ys.map AA->(∀y∈ys,y.length<=100)->out.length+100*ys.length<=10000->∃z,yb7 out vs=AA z/\z.cps.toList=out.cps.toList++(ys.map λy=>y.cps.toList).flatten/\z.length<=out.length+100*ys.length
 |[],[],out,_,_,h=>#[out,by erw[yb7];rw[if_pos ()],by simp,by simp]
 |[],_::_,_,h,_,_=>by cases h
 |_::_,[],_,h,_,_=>by cases h
 |v::vs,y::ys,out,h,a,b=>by
  erw[AV,IP]at h;have c:=a y A2;have j:=zbd out y;erw[AY]at b;let#[z,d,f,l]:=zeK vs ys (out++y) h.2 (λu g=>a u (AS _ g)) ();refine#[z,?_,?_,by erw[AY];lia]
  .simp only[yb7,h.1];rw[if_pos ()];exact d
  .rw[f];show (out.cps++y.cps).toList++_=_;simp
def zbZ{i:Int}(h:i.natAbs<10^30):ybX (.int i)=AA (yae i):=by
 erw[ybX];rw[if_pos (by
  by_cases z:i.natAbs=0
  .rw[z];decide
  .exact(G5 z).2 (HZ h (by decide +kernel)))]
 rfl
def zcb{s:AR}(h:s.length<=100):ybX (.str s)=AA s:=by erw[ybX];rw[if_pos ()]
def zgM{f g s:AR}(m:g.cps.toList=f.cps.toList++[32])(b:g.length<=100)(o:Nam s){w n v:Int}(c:w.natAbs<10^30)(d:n.natAbs<10^30)(j:v.natAbs<10^30)(st:SO):
  ∃a:AR,ydD (.ok [.str g,.str s,.str (S " "),.int w,.str (S " "),.int n,.str (S " "),.int v] st)=.ok (.str a) st/\a.cps.toList=sp1 [f,s,yae w,yae n,yae v]/\a.length<=1000:=by
 have A:=zbq c;have B:=zbq d;have C:=zbq j
 have p:=o.2.1;have q:(S " ").length<=100:=by decide +kernel
 let#[z,r,t,u]:=zeK [.str g,.str s,.str (S " "),.int w,.str (S " "),.int n,.str (S " "),.int v] [g,s,S " ",yae w,S " ",yae n,S " ",yae v] C6
  (by erw[AV,Az,zbZ c,zbZ d,zbZ j,zcb b,zcb (show s.length<=100 by lia),zcb q])
  (λy l=>by erw[A8,B8,or_false]at l;rcases l with rfl|rfl|rfl|rfl|rfl|rfl|rfl|rfl<;>lia) (by simp[C6,BC])
 refine#[z,by erw[ydD,r],?_,by simp[C6,BC]at u ⊢;lia];have x:(S " ").cps.toList=[32]:=by decide +kernel
 rw[t];erw[AV,Az,Be,List.flatten_nil,m,x,sp1];simp[C6]
def zb4{c:Nat}:∀{ys:List AR},c∈(BH #[(List.toArray [32])] ys).cps.toList->c=32 \/ ∃y∈ys,c∈y.cps.toList
 |[],h=>by simp[BH,C6]at h
 |[y],h=>.inr #[y,A2,by simpa [BH] using h]
 |y::z::r,h=>by
  erw[BH]at h;rw[zE,zE]at h;rcases Bj.1 h with h|h
  .rcases Bj.1 h with h|h
   .exact .inr #[y,A2,h]
   .exact .inl (by simpa using h)
  .rcases zb4 h with q|⟨u,a,q⟩
   .exact .inl q
   .exact .inr #[u,AS _ a,q]
def zhn(w:Nat)(a:List Int):shp (.str (txt w a))=true:=zoE λc b=>by
 rcases zb4 b with q|⟨y,f,q⟩
 .lia
 .let#[d,_,rfl]:=C4.1 f;have:=zjo (show c∈sg w d by simpa [wS] using q);lia
def zfO(i:Int):shp (.str (yae i))=true:=zoE λc a=>by
 rcases zU i with⟨m,rfl,e⟩|⟨m,rfl,e⟩<;>rw[e]at a
 .have:=za6 a;lia
 .rcases A8.1 a with q|q
  .lia
  .have:=za6 q;lia
def zhJ{out:List AR}(h:∀s∈out,Nam s):shp (.str (ybv out))=true:=by
 unfold ybv;split
 .exact zoE (by decide +kernel)
 .exact zoE λc a=>by
   rcases zb4 a with q|⟨y,b,q⟩
   .lia
   .have:=(h y b).2.2 c q;lia
abbrev sa(a:AR):PV:=.tp AC [.str (S ""),.str a]
def zgl{a:AR}(h:shp (.str a)=AE):yo .ne (sa a) (sa a)=AA (.bl AC):=by
 have b:(AI "").cps.all (· < 0x110000)=true:=by decide +kernel
 have c:a.cps.all (· < 0x110000)=true:=h;have e:shp (sa a)=true:=by erw[shp,shd,ybf,b,c];decide
 show (if shp (sa a)&&shp (sa a)then AA (PV.bl (!peq (sa a) (sa a)))else AD)=_;rw[e];simp[peq,ybO]
def zdp(k:Nat){st b:SO}{line a:AR}{m l:Nat}(d:st[2]?=AA (.ins 21 (fls m l)))(c:yc T (k+5) ya [.loc 2,.str line] st=.ok (.str a) b):yc T (k+6) ygO [.loc 2,.str line] st=.ok (sa a) b:=by
 have f:T ygO=AA #[2,5,AC,ybd.body]:=rfl;have c:yc T (k+5) 19 [.loc 2,.str line] st=.ok (.str a) b:=c;have g:yb4 21 (AI "tell") st (.loc 2)=AA true:=by erw[yb4,d];rw[if_pos #[CM,zjd m l (by decide +kernel) (by decide +kernel) (by decide +kernel)]]
 have j:ybV (.str a) [.str]=AA (.bl AE):=rfl;rw[zk f rfl rfl];simp! [ybd,g,c,yff,j,onO];rfl
theorem Dsk.two{st:SO}{D:List (PV×PV)}{B:Nat}(h:Dsk st D B):∃m l,st[2]?=AA (.ins 21 (fls m l)):=by let#[m,l,_,a,_]:=h.ex;exact#[m,l,a]
def zfp(k:Nat){st:SO}{D:List (PV×PV)}{B w:Nat}{a:List Int}{s line f:AR}{x:String}(Q:QW f x)(F:Fst f k1)(hf:32∉f.cps.toList)(b:x="show" \/ x="worth" \/ x="sworth")(c:Nam s)(g:Gd w a)(h:Dsk st D B)(d:look (.str s) D=AA (rcd w a))
  (j:line.cps.toList=sp1 [f,s]) (n:line.length<=1000):yc T (k+6) ygO [.loc 2,.str line] st=.ok (sa (yb5 x w a)) st:=by let#[m,l,o]:=h.two;exact zdp k o (zlr k Q b g h d λp=>zne k F hf c j n p)
def zfU{g f s:AR}(a:g.cps.toList=f.cps.toList++[32])(b:g.length<=10)(c:Nam s):yq .add (.str g) (.str s)=AA (.str (g++s))/\(g++s).cps.toList=sp1 [f,s]/\(g++s).length<=1000:=by
 have d:=c.2.1;refine#[?_,?_,by rw[zbd];lia]
 .simp only[yq];rw[if_pos (by erw[sizeMax];lia)]
 .rw[zE,a];simp[sp1]
def stB:Css:=match yP.body with
 |.cons _ (.cons (.for _ _ b) _)=>b
 |_=>.nil
def zeV(k:Nat){st:SO}{D:List (PV×PV)}{B:Nat}{ks:List AR}{N:Nat}(h:Dsk st D B)(m:st[6]?=AA (.dct AC D))(n:DOk D ks N){s:AR}(o:s∈ks):
  exs (yc T (k+6)) [AA (.loc 2),AA (.loc 6),AA (.str s)] st stB=.nx [AA (.loc 2),AA (.loc 6),AA (.str s)] st:=by let#[c,w,a,d,g]:=n.hn s o;let#[p,q,r]:=zfU (g:=S "show ") (f:=S "show") (by decide +kernel) (by decide +kernel) c;have j:yc T (k+6) 38 [.loc 2,.str (S "show "++s)] st=.ok (sa (txt w a)) st:=zfp k zm6 zm0 (by decide +kernel) (.inl rfl) c g h d q r;have t:=zhl m d;have u:∀b,idxV b (rcd w a) (.int 1)=AA (.tp AC (a.map .int)):=λ_=>rfl;have x:∀b,idxV b (rcd w a) (.int 0)=AA (.int w):=λ_=>rfl;have y:yc T (k+6) 34 [.tp AC (a.map .int),.int w] st=.ok (.str (txt w a)) st:=zg3 (k+5) g st;have l:=zgl (zhn w a);generalize rcd w a=z at *;erw[sa]at l j;simp! [stB,yP,p,j,t,u,x,y,l]
def zbL(k:Nat){st:SO}{D:List (PV×PV)}{B:Nat}{ks:List AR}{N:Nat}(h:Dsk st D B)(b:st[6]?=AA (.dct AC D))(c:DOk D ks N):∀(l:List AR) (u:Option PV),(∀s∈l,s∈ks) ->
  ∃a,yaX (yc T (k+6)) (.n 2) stB (l.map .str) [AA (.loc 2),AA (.loc 6),u] st=.nx [AA (.loc 2),AA (.loc 6),a] st
 |[],u,_=>#[u,zo]
 |s::l,u,d=>by let#[a,e]:=zbL k h b c l (AA (.str s)) λt f=>d t (AS _ f);refine#[a,?_];rw[AV,zm (ρ1:=[AA (.loc 2),AA (.loc 6),AA (.str s)]) rfl,zeV k h b c (d s A2)];exact e
def zcy(k:Nat){st:SO}{D:List (PV×PV)}{B:Nat}{ks:List AR}{N:Nat}(h:Dsk st D B)(J:st[6]?=AA (.dct AC D))(f:DOk D ks N)(hN:N<=5):yc T (k+7) yhX [.loc 2,.loc 6] st=.ok (.bl AE) st:=by
 have X:T yhX=AA #[2,3,AC,yP.body]:=rfl;have Y:=f.hl;let#[out,L,d,g]:=zmy (ks:=ks) ();have c:∀s∈out,Nam s:=λs Z=>(f.hn s (d s Z)).1;let#[m,l,A]:=h.two;have q:yc T (k+6) 38 [.loc 2,.str "names"] st=.ok (sa (ybv out)) st:=zdp k A (znU k h f L c () λj=>zm8 k j);have M:=zg7 J f L;have ok:yaw .join st (.str " ")=AA true:=rfl;have C:=zeu (st:=st) c ();have w:=zgl (zhJ c);let#[u',O]:=zbL k h J f out AD d
 have hb:yP.body=(match yP.body with
  |.cons a (.cons (.for t i _) r)=>.cons a (.cons (.for t i stB) r)
  |x=>x):=rfl
 have n:∃b,yas st (.str (BH #[(List.toArray [32])] out))=AA b/\(b=AE->BH #[(List.toArray [32])] out=ybv out)/\(b=AC->AI "none"=ybv out):=by
  cases out with
  |nil=>exact#[AC,rfl,(λz=>nomatch z),(λ_=>by simp[ybv])]
  |cons x r=>
   have Q:=(c x A2).1;refine#[AE,?_,(λ_=>by simp[ybv]),(λz=>nomatch z)];have E:1<=(BH #[(List.toArray [32])] (x::r)).length/\(BH #[(List.toArray [32])] (x::r)).length<=16777216:=by
    have up:∀{o:List AR},(∀y∈o,y.length<=8)->(BH #[(List.toArray [32])] o).length<=9*o.length:=λ{o}=>by
     induction o with
     |nil=>intro _;simp[BH,C6,BC]
     |cons y r ih=>
      intro p
      cases r with
      |nil=>have:=p y A2;erw[BH,AY,Aj];lia
      |cons z r=>
       have Q:=p y A2;have A:=ih λu hu=>p u (AS _ hu);have h3:(#[(List.toArray [32])]:AR).length=1:=rfl;erw[BH,zbd,AY]at A ⊢;rw[h3];lia
    have u:=up λy p=>(c y p).2.1;refine#[?_,by erw[AY]at u g ⊢;lia]
    cases r with
    |nil=>simpa [BH] using Q
    |cons z r=>erw[BH,zbd];lia
   have e:yas st (.str (BH #[(List.toArray [32])] (x::r)))=AA (((BH #[(List.toArray [32])] (x::r)).length:Int) != 0):=by erw[yas];exact if_pos E.2
   rw[e];exact congrArg AA (by simp;lia)
 let#[b,n,G,H]:=n
 have hsq:∀j:SO,(match (PV.lst (out.map .str))with
  |.tp _ I=>R.ok I j
  |.lst I=>R.ok I j
  |_=>R.bad)=.ok (out.map .str) j:=λ_=>rfl
 rw[zk X rfl rfl,hb];generalize stB=U at *;erw[sa]at q w
 cases b with
 |true=>
  have G:=G rfl;rw[G]at C n;simp! [yP,q,M,ok,C,n,w,O];rfl
 |false=>
  have H:=H rfl;rw[<-H]at q w;simp! [yP,q,M,ok,C,n,w,O];rfl
abbrev yba:Str:=AI "abcdefghijklmnopqrstuvwxyz"
def c1s(c:Nat):Str:=#[(List.toArray [c])]
def Let(c:Nat):Prop:=97<=c/\c<=122
def zkQ:(yba.cps.toList.all λc=>decide (97<=c)&&decide (c<=122))=AE/\yba.cps.toList.length=26:=by decide +kernel
def zgN{d:Int}(j:0<=d)(m:d<26)(st:SO):∃c,Let c/\idxV st (.str yba) (.int d)=AA (.str (c1s c)):=by
 let#[a,b]:=zkQ;let#[n,rfl]:=As j;have f:n<yba.cps.toList.length:=by lia
 have g:=Ar.1 a _ (Fu f);erw[AK,decide_eq_true_eq]at g;refine#[yba.cps.toList[n],g,?_];have l:yba.length=26:=by rw[zJ];exact b
 erw[idxV];rw[if_pos (by rw[l];simp[sizeMax])];erw[yau,at?,ixI];rw[if_pos (),if_pos ()];simp[c1s,Ac f]
def lrE:Ce:=.idx (.var 1) (.call 28 (.cons (.var 2) (.cons (.cst (.int 26)) .nil)))
def ziq(k:Nat){b:List Int}(f:b.length<=1000){st:SO}(h:Drw b 0 st)(x:Option PV):
  ∃c a,Let c/\Onl b 0 st a/\ev (yc T (k+3)) [x,AA (.str yba),AA (.loc 0)] st lrE=.ok (.str (c1s c)) a:=by let#[d,g,j,l,o,e]:=zoD k f (m:=26) () () h;let#[c,n,p]:=zgN j l g;have e:yc T (k+3) 28 [.loc 0,.int 26] st=.ok (.int d) g:=e;refine#[c,g,n,o,?_];generalize yba=L at *;simp! [lrE,e,p]
def zd9(k:Nat){f:List Int}(a:f.length<=1000):∀(xs:List PV) {st:SO},Drw f 0 st ->
  ∃(b:List Nat) (d:SO),(∀c∈b,Let c)/\b.length=xs.length/\Onl f 0 st d/\yM (yc T (k+3)) [AD,AA (.str yba),AA (.loc 0)] (.n 0) (.cst (.bl AE)) lrE xs st=.ok (b.map λc=>.str (c1s c)) d
 |[],st,h=>#[[],st,(λ_ z=>nomatch z),rfl,h.refl,zB]
 |x::xs,st,h=>by
  let#[c,w,m,l,o]:=ziq k a h (AA x);let#[b,p,g,q,r,t]:=zd9 k a xs (l.drw h);refine#[c::b,p,λu j=>?_,by simp[q],l.trans r,?_]
  .rcases A8.1 j with rfl|j
   .exact m
   .exact g u j
  .rw[zT,zaE (ρ1:=[AA x,AA (.str yba),AA (.loc 0)]) rfl o];erw[R.bind];rw[t];rfl
def zdM(a:List Nat):(BH #[(List.toArray [])] (a.map c1s)).cps.toList=a:=by rw[zdj];rw[show (a.map c1s).map (λs=>s.cps.toList)=a.map λc=>[c]by simp[c1s]];exact zck a
def zc9{s:AR}(a:1<=s.cps.toList.length)(b:s.cps.toList.length<=8)(h:∀c∈s.cps.toList,Let c):Nam s:=#[by rw[zJ];exact a,by rw[zJ];exact b,h]
def ycH:List Str:=[S "let",S "sum",S "plain",S "signed",S "left",S "show",S "undo",S "names",S "rest",S "wider",S "drop",S "odd"]
def zjK:(ycH.all λs=>decide (1<=s.cps.toList.length)&&decide (s.cps.toList.length<=8)&&s.cps.toList.all λc=>decide (97<=c)&&decide (c<=122))=true:=by decide +kernel
def zjD{s:AR}(h:s∈ycH):Nam s:=by have:=Ar.1 zjK s h;erw[AK,decide_eq_true_eq,Ar]at this;exact zc9 this.1.1 this.1.2 this.2
def zm2{d:Int}(b:0<=d)(c:d<12)(st:SO):∃s,Nam s/\idxV st (.tp AC (ycH.map .str)) (.int d)=AA (.str s):=by
 let#[n,rfl]:=As b;have a:n<ycH.length:=by simp[ycH];lia
 refine#[ycH[n],zjD (Fu a),?_];erw[idxV,yau,at?,ixI];rw[if_pos (),if_pos (by simp[ycH];lia)];simp[Ac a]
def zj9{s:AR}(h:Nam s):∃t,Nam t/\ybs (.str s) AD (.int 1)=AA (.str t):=by
 let#[a,b,d]:=h;refine#[#[(cut s.cps.toList AD (AA 1)).toArray],?_,?_]
 .rw[zJ]at a b;generalize s.cps.toList=l at *;have e:cut l AD (AA 1)=l.take 1:=by
   have:min 1 l.length-0=1:=by lia
   show (l.drop 0).take (min 1 l.length-0)=_;rw[this,Ez]
  have g:(l.take 1).length=1:=by rw[Cy];lia
  rw[e];exact zc9 (by show 1<=(l.take 1).length;lia) (by show (l.take 1).length<=8;lia) λc f=>d c (Gg f)
 .simp only[ybs,ybe,yb6];rw[if_pos (by erw[sizeMax];lia)]
def zfx(k:Nat){q:List Int}(f:q.length<=1000){st:SO}(h:Drw q 0 st):∃s o,Nam s/\Onl q 0 st o/\yc T (k+4) yhU [.loc 0] st=.ok (.str s) o:=by
 have hT:T yhU=AA #[1,4,AC,yaM.body]:=rfl;let#[d,Q,d0,d1,U,u]:=zoD k f (m:=8) () () h;have X:=U.drw h;let#[j,rfl]:=As d0;have hr:ybr (.int (1+(j:Int)))=AA (yg (j+1) 0 1):=by have:=zK (j+1) ();rw[show (1+(j:Int))=((j+1:Nat):Int)by lia];exact this
 let#[g,w,hc,hl,Y,e2]:=zd9 k f (yg (j+1) 0 1) X;have Z:=Y.drw X;have A:∀(n:Nat) (a d:Int),(yg n a d).length=n:=λn=>by
  induction n with
  |zero=>intro _ _;rfl
  |succ n ih=>intro a d;simp[yg,ih]
 rw[A]at hl;have B:Nam (BH #[(List.toArray [])] (g.map c1s)):=zc9 (by rw[zdM];lia) (by rw[zdM];lia) (by rw[zdM];exact hc);have hj:yaR .join w (.str "") [.lst (g.map λc=>.str (c1s c))]=.ok (.str (BH #[(List.toArray [])] (g.map c1s))) w:=by
  rw[zoR,show (g.map λc=>PV.str (c1s c))=(g.map c1s).map PV.str by simp];exact zcn rfl (by simp[BC]) (by simp;lia) λy hy=>by let#[c,_,rfl]:=C4.1 hy;simp[c1s,BC]
 have jm:yaw .join Q (.str "")=AA true:=rfl;have C:yaw .join st (.str "")=AA true:=rfl;have lz:(g.map λc=>PV.str (c1s c)).length<=1000000:=by simp;lia
 let#[d2,p,p0,p1,o3,D]:=zoD k f (m:=12) () () Z;have h3:=o3.drw Z;let#[G,H,I]:=zm2 p0 p1 p;let#[fs,J,e5]:=zj9 B;let#[l,L,q0,q1,o4,M]:=zoD k f (m:=4) () () h3;have u:yc T (k+3) 28 [.loc 0,.int 8] st=.ok (.int j) Q:=u;have D:yc T (k+3) 28 [.loc 0,.int 12] w=.ok (.int d2) p:=D;have M:yc T (k+3) 28 [.loc 0,.int 4] p=.ok (.int l) L:=M
 have hb:yaM.body=(match yaM.body with
  |.cons a (.cons b (.cons (.asg t (.mth m (.cst c) (.cons (.comp sl tg it x _) n))) r))=>.cons a (.cons b (.cons (.asg t (.mth m (.cst (.str "")) (.cons (.comp sl tg it x lrE) n))) r))
  |x=>x):=rfl
 generalize hW:BH #[(List.toArray [])] (g.map c1s)=W at *;obtain⟨z,hz,e7⟩:∃z,Nam z/\idxV L (.tp AC [.str W,.str G,.str fs,.str W]) (.int l)=AA (.str z):=by
  rcases (by lia:l=0 \/ l=1 \/ l=2 \/ l=3)with rfl|rfl|rfl|rfl
  .exact#[W,B,rfl]
  .exact#[G,H,rfl]
  .exact#[fs,J,rfl]
  .exact#[W,B,rfl]
 refine#[z,L,hz,((U.trans Y).trans o3).trans o4,?_];have N:ybe (.int 1)=AA (AA 1):=rfl;have O:ybe .non=AA none:=rfl;have I:idxV p (.tp AC [.str "let",.str "sum",.str "plain",.str "signed",.str "left",.str "show",.str "undo",.str "names",.str "rest",.str "wider",.str "drop",.str "odd"]) (.int d2)=AA (.str G):=I;rw[zk hT rfl rfl,hb];generalize lrE=E at *;simp! [yaM,jm,C,u,hr,e2,zN _ lz,hj,D,I,e5,M,e7,N,O,IC.onP];rfl
def nmB:Css:=match yG.body with
 |.cons _ (.cons _ (.cons _ (.cons _ (.cons _ (.cons (.for _ _ b) _)))))=>b
 |_=>.nil
def wC:Ce:=match nmB with
 |.cons _ (.cons _ (.cons _ (.cons (.while c _) _)))=>c
 |_=>.nope
def wB:Css:=match nmB with
 |.cons _ (.cons _ (.cons _ (.cons (.while _ b) _)))=>b
 |_=>.nil
theorem Nam.shp{s:AR}(h:Nam s):shp (.str s)=true:=zoE λc a=>by have:=h.2.2 c a;lia
def zez:∀{l:List AR} (n:Nat),(∀s∈l,Nam s)->ybf n (l.map .str)=AE
 |[],_,_=>rfl
 |s::l,n,h=>by have a:=(h s A2).shp;erw[IC.shp,shd]at a;erw[AV,ybf,shd,AK];exact#[a,zez n λt b=>h t (AS _ b)]
def zje{st:SO}{L:Nat}{l:List AR}{s:AR}(a:st[L]?=AA (.lst (l.map .str)))(c:∀t∈l,Nam t)(d:Nam s):∃b,yca st (.str s) (.loc L)=AA (.bl b):=by
 have e:yaJ st (.loc L)=AA (l.map .str):=by simp[yaJ,a]
 refine#[inL (.str s) (l.map .str),?_];erw[yca,e,d.shp,zez 60 c];rfl
abbrev we(N:Int)(L:Nat)(f:AR)(nr:Bool)(a:Int)(u7:Option PV)(s:AR)(t:Int):IC.Env:=[AA (.loc 0),AA (.int N),AA (.str yba),AA (.loc L),AA (.str f),AA (.bl nr),AA (.int a),u7,AA (.str s),AA (.int t)]
def zkz{c:Nat}(b:Let c){n:Int}(d:1<=n)(f:n<=3):∃s,Nam s/\yc4 (.str (c1s c)) (.int n)=AA (.str s):=by
 let#[j,rfl]:=As (show 0<=n by lia);refine#[#[(AT j [c]).flatten.toArray],?_,?_]
 .refine zc9 ?_ ?_ ?_
  .simp;lia
  .simp;lia
  .intro x a;simp at a;let#[_,rfl]:=a;exact b
 .simp only[yc4];rw[if_pos (by simp[c1s,BC];lia)];simp[c1s]
def znV(k:Nat){N:Int}{L:Nat}{f:AR}{nr:Bool}{a:Int}{u7:Option PV}{st:SO}{l:List AR}(z:st[L]?=AA (.lst (l.map .str)))(A:∀t∈l,Nam t):∀(r F:Nat) (s:AR) (t:Nat),t+r=60->r<F->Nam s ->
  ∃j p,Nam j/\yaQ (yc T k) wC wB F (we N L f nr a u7 s t) st=.nx (we N L f nr a u7 j p) st:=by
 intro r
 induction r with
 |zero=>
  intro F s t C D g;let#[b,m]:=zje z A g;obtain⟨F,rfl⟩:∃G,F=G+1:=#[F-1,by lia];have q:yo .lt (.int t) (.int 60)=AA (.bl AC):=by rw[c_lt,decide_eq_false ()]
  refine#[s,t,g,zat (x:=.bl AC) ?_ rfl];generalize yba=LT at *
  cases b<;>simp! [wC,nmB,yG,we,m,q]
 |succ r ih=>
  intro F s t C D g;let#[b,m]:=zje z A g;obtain⟨F,rfl⟩:∃G,F=G+1:=#[F-1,by lia]
  cases b with
  |false=>
   refine#[s,t,g,zat (x:=.bl AC) ?_ rfl];generalize yba=LT at *;simp! [wC,nmB,yG,we,m]
  |true=>
   have q:yo .lt (.int t) (.int 60)=AA (.bl AE):=by rw[c_lt,decide_eq_true ()]
   have E:yq .mod (.int t) (.int 26)=AA (.int ((t:Int)%26)):=by simp[yq,binI]
   have H:yq .fdiv (.int t) (.int 26)=AA (.int ((t:Int)/26)):=by simp[yq,binI]
   let#[c,u,I]:=zgN (d:=(t:Int)%26) () () st;let#[B,w,J]:=zkz u (n:=1+(t:Int)/26) () ();let#[j,p,M,e]:=ih F B (t+1) () () w;refine#[j,p,M,?_];have O:ybA .add (.int (t:Int)) (.int 1)=AA (.int (((t+1:Nat):Int))):=by simp[ybA,binI]
   rw[zc2 (x:=.bl AE) (st1:=st) (st2:=st) (ρ2:=we N L f nr a u7 B ((t+1:Nat):Int)) ?_ rfl ?_]
   .exact e
   .generalize yba=LT at *;simp! [wC,nmB,yG,we,m,q]
   .have Q:∀o:IC.Env,o[9]?=AA (AA (.int (t:Int)))->ex (yc T k) o st (.aug 9 .add (.cst (.int 1)))=.nx (o.set 9 (AA (.int ((t+1:Nat):Int)))) st:=λo y=>by rw[znb y];simp! [O];rfl
    simp! [wB,nmB,yG,we,E,H,I,J];rw[Q _ rfl];rfl
def zhH{f:AR}(hf:Nam f){a:Int}(r:0<=a)(z:a<f.length){c:Nat}(t:Let c):∃p q s,ybs (.str f) AD (.int a)=AA (.str p)/\ybs (.str f) (AA (a+1)) .non=AA (.str q)/\yq .add (.str p) (.str (c1s c))=AA (.str (p++c1s c))/\yq .add (.str (p++c1s c)) (.str q)=AA (.str s)/\Nam s:=by
 let#[A,B,m]:=hf;let#[j,rfl]:=As r;have d:j<f.length:=by lia
 have u:cut f.cps.toList AD (AA (j:Int))=f.cps.toList.take j:=by
  rw[zJ]at d;have e:ycq f.cps.toList.length (AA (j:Int))=j:=by erw[ycq,ybk];rw[if_neg ()];lia
  erw[cut,e,ycg,Ez,GI]
 have w:cut f.cps.toList (AA ((j:Int)+1)) AD=f.cps.toList.drop (j+1):=by
  rw[zJ]at d;have e:ycg f.cps.toList.length (AA ((j:Int)+1))=j+1:=by erw[ycg,ybk];rw[if_neg ()];lia
  erw[cut,e,ycq];exact GG (by rw[D0];lia)
 have g:(f.cps.toList.take j).length=j:=by rw[zJ]at d;rw[Cy];lia
 have l:(f.cps.toList.drop (j+1)).length=f.length-(j+1):=by rw[D0,zJ]
 have n:(#[(f.cps.toList.take j).toArray]:AR).length=j:=by rw[zJ];exact g
 have sq:(#[(f.cps.toList.drop (j+1)).toArray]:AR).length=f.length-(j+1):=by rw[zJ];exact l
 have o:(c1s c).length=1:=rfl;refine#[#[(f.cps.toList.take j).toArray],#[(f.cps.toList.drop (j+1)).toArray],#[(f.cps.toList.take j).toArray]++c1s c++#[(f.cps.toList.drop (j+1)).toArray],?_,?_,?_,?_,?_]
 .simp only[ybs,ybe,yb6,u];rw[if_pos (by erw[sizeMax];lia)]
 .simp only[ybs,ybe,yb6,w];rw[if_pos (by erw[sizeMax];lia)]
 .simp only[yq];rw[if_pos (by rw[n,o];erw[sizeMax];lia)]
 .simp only[yq];rw[if_pos (by rw[zbd,n,o,sq];erw[sizeMax];lia)]
 .have y:(#[(f.cps.toList.take j).toArray]++c1s c++#[(f.cps.toList.drop (j+1)).toArray]:AR).cps.toList=f.cps.toList.take j++[c]++f.cps.toList.drop (j+1):=by rw[zE,zE];simp[c1s]
  refine zc9 ?_ ?_ ?_<;>rw[y]
  .simp only[Bg,g,l,AY,Aj];lia
  .simp only[Bg,g,l,AY,Aj];lia
  .intro x b;erw[Bj,A8,B8,or_false]at b;rcases b with (b|rfl)|b
   .exact m x (Gg b)
   .exact t
   .exact m x (List.mem_of_mem_drop b)
theorem Onl.len{c:List Int}{n:Nat}{st b:SO}(o:Onl c n st b):b.length=st.length:=by let#[a,p,f,d,rfl]:=o;rw[BD]
theorem Onl.drl{b:List Int}{st a:SO}(h:Drw b 0 st)(o:Onl b 0 st a){L:Nat}(c:L≠0){x:Option Ob}(e:st[L]?=x):Drw b 0 a/\a[L]?=x/\a.length=st.length:=#[o.drw h,by rw[o.get c];exact e,o.len]
def zkl(k:Nat){D:List Int}(y:D.length<=1000){N:Int}{L:Nat}(g:L≠0){f:AR}(hf:Nam f)(nr:Bool){a:Int}(h0:0<=a)(h1:a<f.length){st:SO}(Q:Drw D 0 st){l:List AR}(hL:st[L]?=AA (.lst (l.map .str)))(U:∀t∈l,Nam t)(hz:l.length<900)(u7 u8 u9:Option PV):
  ∃j s v9,Drw D 0 j/\j[L]?=AA (.lst ((l++[s]).map .str))/\Nam s/\j.length=st.length /\
   exs (yc T (k+4)) [AA (.loc 0),AA (.int N),AA (.str yba),AA (.loc L),AA (.str f),AA (.bl nr),AA (.int a),u7,u8,u9] st nmB=.nx [AA (.loc 0),AA (.int N),AA (.str yba),AA (.loc L),AA (.str f),AA (.bl nr),AA (.int a),u7,AA (.str s),v9] j:=by
 let#[X,n,E,o1,A]:=zfx k y Q;have A:yc T (k+4) 35 [.loc 0] st=.ok (.str X) n:=A;let#[G,B,z1]:=o1.drl Q g hL
 have Y:nmB=(match nmB with
  |.cons x (.cons b (.cons c (.cons (.while _ _) r)))=>.cons x (.cons b (.cons c (.cons (.while wC wB) r)))
  |x=>x):=rfl
 have Z:((0:Nat):Int)=0:=rfl
 cases nr with
 |false=>
  let#[o,H,u,z]:=znV (k+4) (N:=N) (f:=f) (nr:=AC) (a:=a) (u7:=u7) B U 60 100000 X 0 () () E;let#[ok,I]:=zd6 (v:=.str o) B (by rw[Ae];lia);refine#[n.set L (.lst (l.map .str++[.str o])),o,AA (.int H),G.put g _,?_,u,by rw[BD];exact z1,?_]
  .rw[Ab (zr B)];simp
  .rw[Y];generalize wC=C,wB=W at *;erw[we,Z]at z;simp! [nmB,yG,A,IC.x_while,z,ok,I]
 |true=>
  let#[d,w,p0,p1,o2,J]:=zoD (k+1) y (m:=26) () () G;have J:yc T (k+4) 28 [.loc 0,.int 26] n=.ok (.int d) w:=J;let#[d2,L2,z2]:=o2.drl G g B;let#[c,hc,e3]:=zgN p0 p1 w;let#[p,q,s2,n1,n2,n3,n4,M]:=zhH hf h0 h1 hc;let#[o,H,u,z]:=znV (k+4) (N:=N) (f:=f) (nr:=AE) (a:=a) (u7:=u7) L2 U 60 100000 s2 0 () () M;let#[ok,I]:=zd6 (v:=.str o) L2 (by rw[Ae];lia);have oa:ybe (.int a)=AA (AA a):=rfl;have O:ybe (.int (a+1))=AA (AA (a+1)):=rfl;have on:ybe .non=AA none:=rfl;refine#[w.set L (.lst (l.map .str++[.str o])),o,AA (.int H),d2.put g _,?_,u,by rw[BD];lia,?_]
  .rw[Ab (zr L2)];simp
  .rw[Y];generalize wC=C,wB=W at *;erw[we,Z]at z;simp! [nmB,yG,A,J,e3,n1,n2,n3,n4,oa,O,on,IC.onP,IC.x_while,z,ok,I]
def zgT(k:Nat){j:List Int}(c:j.length<=1000){N:Int}{L:Nat}(d:L≠0){f:AR}(hf:Nam f)(nr:Bool){a:Int}(u:0<=a)(w:a<f.length):∀(xs:List PV) (l:List AR) (st:SO) (u7 u8 u9:Option PV),Drw j 0 st->st[L]?=AA (.lst (l.map .str))->(∀t∈l,Nam t)->l.length+xs.length<900 ->
  ∃(b:SO) (m:List AR) (y z v9:Option PV),Drw j 0 b/\b[L]?=AA (.lst (m.map .str))/\(∀t∈m,Nam t)/\m.length=l.length+xs.length/\b.length=st.length /\
   yaX (yc T (k+4)) (.n 7) nmB xs [AA (.loc 0),AA (.int N),AA (.str yba),AA (.loc L),AA (.str f),AA (.bl nr),AA (.int a),u7,u8,u9] st=.nx [AA (.loc 0),AA (.int N),AA (.str yba),AA (.loc L),AA (.str f),AA (.bl nr),AA (.int a),y,z,v9] b
 |[],l,st,u7,u8,u9,o,p,g,_=>#[st,l,u7,u8,u9,o,p,g,rfl,rfl,zo]
 |x::xs,l,st,u7,u8,u9,o,p,g,A=>by
  erw[AY]at A;let#[B,s,v9,C,D,E,Z,G]:=zkl k c (N:=N) d hf nr u w o p g () (AA x) u8 u9;let#[H,I,J,M,O,Q,L2,r,U,z3,X]:=zgT k c d hf nr u w xs (l++[s]) B (AA x) (AA (.str s)) v9 C D (λt Y=>by
   rcases Bj.1 Y with q|q
   .exact g t q
   .rw[List.mem_singleton.1 q];exact E) (by simp;lia)
  refine#[H,I,J,M,O,Q,L2,r,by simp at U ⊢;lia,by lia,?_];rw[zm (ρ1:=[AA (.loc 0),AA (.int N),AA (.str yba),AA (.loc L),AA (.str f),AA (.bl nr),AA (.int a),AA x,u8,u9]) rfl,G];exact X
def zhI(k:Nat){u:List Int}(j:u.length<=1000){N:Nat}(hN:N<=100){st:SO}(C:Drw u 0 st):
  ∃(l:List AR) (o:SO),(∀s∈l,Nam s)/\l.length=N/\Drw u 0 o/\o.length=st.length+1/\yc T (k+5) yhV [.loc 0,.int N] st=.ok (.lst (l.map .str)) o:=by
 have L:T yhV=AA #[2,10,AC,yG.body]:=rfl;have g:st.length≠0:=by have:=C.pos;lia
 have D:=C.app (.lst []);have M:(st++[Ob.lst []])[st.length]?=AA (.lst (([]:List AR).map .str)):=by simp
 let#[f,E,hf,O,w]:=zfx k j D;have w:yc T (k+4) 35 [.loc 0] (st++[.lst []])=.ok (.str f) E:=w;let#[G,Q,U]:=O.drl D g M;let#[b,q,b0,b1,X,y]:=zoD (k+1) j (m:=2) () () G;have y:yc T (k+4) 28 [.loc 0,.int 2] E=.ok (.int b) q:=y;let#[H,Y,z2]:=X.drl G g Q;have Z:=hf.1;have hf2:=hf.2.1
 let#[a,I,a0,a1,o3,z]:=zoD (k+1) j (m:=(f.length:Int)) () () H;have z:yc T (k+4) 28 [.loc 0,.int f.length] q=.ok (.int a) I:=z;let#[d3,g3,z3]:=o3.drl H g Y;have hl:yaf .len q [.str f]=AA (.int f.length):=by show lenV q (.str f)=_;erw[lenV];rw[if_pos (by erw[sizeMax];lia)]
 have hr:ybr (.int N)=AA (yg N 0 1):=zK N ();have p:∀(n:Nat) (a d:Int),(yg n a d).length=n:=λn=>by
  induction n with
  |zero=>intro _ _;rfl
  |succ n ih=>intro a d;simp[yg,ih]
 have hq:yo .eq (.int b) (.int 0)=AA (.bl (decide (b=0))):=c_eq;let#[A,l,v7,v8,v9,d4,g4,B,J,z5,e4]:=zgT k j (N:=N) g hf (decide (b=0)) a0 a1 (yg N 0 1) [] I AD AD AD d3 g3 (by simp) (by rw[p];simp;lia);rw[p]at J;refine#[l,A.set st.length .dead,B,by simpa using J,d4.put g _,by rw[BD];simp at U;lia,?_];have fz:ydH (.loc st.length) A=.ok (.lst (l.map .str)) (A.set st.length .dead):=by erw[ydH,g4]
 have hb:yG.body=(match yG.body with
  |.cons x (.cons b (.cons c (.cons d (.cons e (.cons (.for t i _) r)))))=>.cons x (.cons b (.cons c (.cons d (.cons e (.cons (.for t i nmB) r)))))
  |x=>x):=rfl
 rw[zk L rfl rfl,hb];generalize nmB=W at *;simp! [yG,w,y,hq,hl,z,hr,e4,fz,BB];rfl
def zin(k:Nat){t:List Int}(x:t.length<=1000){st:SO}(h:Drw t 0 st){w:Nat}{a:List Int}(g:Gd w a){s:AR}(n:Nam s):
  ∃(l:SO) (line f:AR) (v:Int),Onl t 0 st l/\yc T (k+4) yhW [.loc 0,.str s,.int w,.int a.length,.int (dv (2^w) a)] st=.ok (.str line) l/\ydO f /\
   (∀(j:Nat) (u:SO),yc T (j+4) 0 [.str line] u=.ok (tP f s w a.length v) u)/\∀(j:Nat) (d:PV) (u:SO),yc T (j+4) 21 [tP f s w a.length v,d] u=.ok (rc3 w a) u:=by
 have C:T yhW=AA #[5,5,AC,yab.body]:=rfl;let#[b,c,H,I,D,o]:=zoD k x (m:=2) () () h;have o:yc T (k+3) 28 [.loc 0,.int 2] st=.ok (.int b) c:=o;have p:yo .eq (.int b) (.int 0)=AA (.bl (decide (b=0))):=c_eq;have q:((w:Nat):Int).natAbs<10^30:=by have:=g.w16;lia
 have r:((a.length:Nat):Int).natAbs<10^30:=by have:=g.n4;lia
 have J:=ziB g;rcases JQ (b=0)with y|y
 .let#[line,z,A,B]:=zgM (g:=S "plain ") (f:=S "plain") (by decide +kernel) (by decide +kernel) n q r (v:=dv (2^w) a) () c;refine#[c,line,S "plain",dv (2^w) a,D,?_,zjF,λj u=>zd1 j ydr (by decide +kernel) n q r () A B u,λj d u=>zdE j g s d u];rw[decide_eq_true y]at p;rw[zk C rfl rfl];simp! [yab,o,p,z];rfl
 .let#[line,z,A,B]:=zgM (g:=S "signed ") (f:=S "signed") (by decide +kernel) (by decide +kernel) n q r (v:=sgw w a) (zit g) c;refine#[c,line,S "signed",sgw w a,D,?_,zh5,λj u=>zd1 j ydx (by decide +kernel) n q r (zit g) A B u,λj d u=>zdg j g s d u];have E:yq .mul (.int w) (.int a.length)=AA (.int ((w*a.length:Nat):Int)):=by rw[zap (by have:=g.w16;lia)];simp
  have G:yc T (k+3) 33 [.int (dv (2^w) a),.int ((w*a.length:Nat):Int)] c=.ok (.int (sgw w a)) c:=zoY (k+1) _ _ (by have:w*a.length<=16*4:=BK g.w16 g.n4;lia) c
  rw[decide_eq_false y]at p;rw[zk C rfl rfl];simp! [yab,o,p,E,G,z];rfl
def plB:Css:=match yak.body with
 |.cons _ (.cons (.for _ _ b) _)=>b
 |_=>.nil
def zfL(k:Nat){p0:Option PV}{w:Nat}(c:w<=16):∀(l:List Int) (a:Int) (u:Option PV),∃b,yaX (yc T (k+1)) (.n 3) plB (l.map .int) [p0,AA (.int w),AA (.int a),u] []=.nx [p0,AA (.int w),AA (.int (l.foldl (λa d=>a*2^w+d) a)),b] []
 |[],a,u=>#[u,zo]
 |d::l,a,u=>by
  let#[b,e]:=zfL k (p0:=p0) c l (a*2^w+d) (AA (.int d));refine#[b,?_];have t:yc T (k+1) 31 [.int w] []=.ok (.int (2^w)) []:=zfG k w () [];have m:yq .mul (.int a) (.int (2^w))=AA (.int (a*2^w)):=zaC (by have:=zkG c;have:=za3 w;lia);rw[AV,zm (ρ1:=[p0,AA (.int w),AA (.int a),AA (.int d)]) rfl];have f:exs (yc T (k+1)) [p0,AA (.int w),AA (.int a),AA (.int d)] [] plB=.nx [p0,AA (.int w),AA (.int (a*2^w+d)),AA (.int d)] []:=by simp! [plB,yak,t,m]
  rw[f];exact e
def zf1(k:Nat){w:Nat}{a:List Int}(g:Gd w a)(st:SO):yc T (k+2) yhY [.tup (a.map .int),.int w] st=.ok (.int (dv (2^w) a)) st:=by
 have b:T yhY=AA #[2,4,AE,yak.body]:=rfl;let#[f,e]:=zfL k (p0:=AA (.tp AC (a.map .int))) g.w16 a.reverse 0 AD;rw[zm9]at e;have c:yaf .rev [] [.tp AC (a.map .int)]=AA (.tp AC (a.reverse.map .int)):=by erw[yaf,ydh];rw[<-Ft]
 have d:yak.body=(match yak.body with
  |.cons x (.cons (.for t i _) r)=>.cons x (.cons (.for t i plB) r)
  |x=>x):=rfl
 rw[zl b rfl rfl (by simp[nLs,nL,noLocs_ints]),d];generalize plB=W at *;simp! [yak,c,e,zgk]
def zkY(k:Nat)(a b:Ob):yc T (k+1) 18 [.loc 2] [a,b,.ins 21 []]=.ok .non [a,b,.ins 21 (fls 3 5),.dct AC [],.lst [],.lst []]:=by
 have c:T 18=AA #[1,1,AC,yO.body]:=rfl;have d:ybD 21 [a,b,.ins 21 [],.dct AC []] (.loc 2) (AI "numbers") (.loc 3)=AA [a,b,.ins 21 [(AI "numbers",.loc 3)],.dct AC []]:=rfl;have f:yby (AI "earlier") (.loc 4) [(AI "numbers",.loc 3)]=[(AI "numbers",.loc 3),(AI "earlier",.loc 4)]:=by erw[yby,if_neg zn5]
 have g:yby (AI "later") (.loc 5) [(AI "numbers",.loc 3),(AI "earlier",.loc 4)]=fls 3 5:=by erw[yby,if_neg zlq,if_neg zmG]
 have j:ybD 21 [a,b,.ins 21 [(AI "numbers",.loc 3)],.dct AC [],.lst []] (.loc 2) (AI "earlier") (.loc 4)=AA [a,b,.ins 21 [(AI "numbers",.loc 3),(AI "earlier",.loc 4)],.dct AC [],.lst []]:=by rw[<-f];rfl
 have l:ybD 21 [a,b,.ins 21 [(AI "numbers",.loc 3),(AI "earlier",.loc 4)],.dct AC [],.lst [],.lst []] (.loc 2) (AI "later") (.loc 5)=AA [a,b,.ins 21 (fls 3 5),.dct AC [],.lst [],.lst []]:=by rw[<-g];rfl
 rw[zk c rfl rfl];simp! [yO,IC.x_sfl,IC.ve1,IC.ve2,IC.ve3,IC.ve4,IC.ve5,IC.ve6,IC.ve7,IC.ve8,IC.ve9,IC.ve10,IC.ve11,IC.ve13,IC.ve15,IC.ve16,IC.ve17,IC.ve18,IC.ve19,IC.ve20,IC.ve21,IC.vxq19,IC.ve24,IC.ve25,IC.ve26,IC.ve27,IC.ve28,IC.ve29,IC.ve32,IC.ve33,IC.ve34,IC.ve36,IC.ve37,IC.ve58,IC.ve59,IC.ve60,IC.ve57,IC.ve56,d,j,l,stO,BB];rfl
theorem Dsk.onl{c:List Int}{st a:SO}{D:List (PV×PV)}{B:Nat}(h:Dsk st D B)(o:Onl c 0 st a):Dsk a D B:=by let#[m,l,d,f,g,j,n,b,p,q,r]:=h.ex;exact#[m,l,d,by rw[o.get ()];exact f,by rw[o.get ()];exact g,j,by rw[o.get b];exact n,b,p,q,r]
theorem Dsk.set6{st:SO}{D:List (PV×PV)}{B:Nat}(h:Dsk st D B)(x:Ob):Dsk (st.set 6 x) D B:=by let#[m,l,b,c,d,f,g,j,n,o,a]:=h.ex;exact#[m,l,b,by rw[AW ()];exact c,by rw[AW ()];exact d,f,by rw[AW (BR a)];exact g,j,n,o,a]
theorem DOk.mono{D:List (PV×PV)}{ks:List AR}{N M:Nat}(h:DOk D ks N)(a:N<=M):DOk D ks M:=#[h.hk,Bl h.hl a,h.hn]
structure Lw(ns:List Int)(nm:List AR)(st:SO)(D:List (PV×PV))(ks:List AR)(i:Nat):Prop where
 dr:Drw ns 0 st
 ds:Dsk st D i
 d6:st[6]?=AA (.dct AC D)
 ok:DOk D ks (min i nm.length)
 al:∀j,j<i->∀s,nm[j]?=AA s->s∈ks
def lwB:Css:=match yaW.body with
 |.cons _ (.cons _ (.cons _ (.cons _ (.cons _ (.cons _ (.cons (.for _ _ b) _))))))=>b
 |_=>.nil
def lwC:Css:=match yaW.body with
 |.cons _ (.cons _ (.cons _ (.cons _ (.cons _ (.cons _ (.cons _ (.cons (.for _ _ b) _)))))))=>b
 |_=>.nil
def lwD:Css:=match lwC with
 |.cons _ (.cons (.for _ _ b) _)=>b
 |_=>.nil
abbrev le(p0:Option PV)(w n:Int)(a:List AR)(u7 u8 u9 u10 u11 u12:Option PV):IC.Env:=[p0,AA (.loc 0),AA (.int w),AA (.int n),AA (.lst (a.map .str)),AA (.loc 2),AA (.loc 6),u7,u8,u9,u10,u11,u12]
def znK{L:List Int}(C:L.length<=1000){o:List AR}(N:∀s∈o,Nam s)(h5:o.length<=5){i:Nat}(hi:i<100){st:SO}{D:List (PV×PV)}{ks:List AR}(I:Lw L o st D ks i){w n:Nat}(Z:4<=w)(A:w<=16)(hn:1<=n)(hn2:n<=4){s:AR}(E:o[i%o.length]?=AA s):
  ∃(st1 r y:SO) (x:Int) (c:List Int) (line:AR) (O:List (PV×PV)) (B:List AR),yc T 24 30 [.loc 0,.int w,.int n] st=.ok (.int x) st1/\(∀u,yc T 24 32 [.int x,.int w,.int n] u=.ok (.tp AC (c.map .int)) u) /\
   ya0 st1 (.loc 6) (.str s) (.tp AC [.int w,.tp AC (c.map .int)])=AA (st1.set 6 (.dct AC O))/\yc T 24 37 [.loc 0,.str s,.int w,.int n,.int x] (st1.set 6 (.dct AC O))=.ok (.str line) r /\
   yc T 24 38 [.loc 2,.str line] r=.ok (sa (txt w c)) y/\(∀u,yc T 24 34 [.tp AC (c.map .int),.int w] u=.ok (.str (txt w c)) u)/\Lw L o y O B (i+1):=by
 let#[x,st1,x0,x1,Q,e1]:=worth 20 C w n Z A hn () I.dr;have G:=za3 w;have l3:(dg (2^w) n x).length=n:=zi1 _ _ _;have hx:dv (2^w) (dg (2^w) n x)=x:=zmo G _ _ x0 (by rw[<-DA];exact x1);have g:Gd w (dg (2^w) n x):=#[Z,A,by lia,by lia,zni G _ _];have e2:=words 22 x w n A ();generalize dg (2^w) n x=c at *;have U:s∈o:=A9 E;have H:=N s U;let#[B,dk,sub,X]:=I.ok.put H g;have d1:=I.ds.onl Q;have h6:st1[6]?=AA (.dct AC D):=by rw[Q.get ()];exact I.d6
 have l6:=zr h6;have hDl:D.length<=5:=by have:=zcL I.ok.hk;have:=I.ok.hl;lia
 have dp:ya0 st1 (.loc 6) (.str s) (rcd w c)=AA (st1.set 6 (.dct AC (put (.str s) (rcd w c) D))):=by erw[ya0,h6];rw[if_pos #[rfl,by lia]]
 have r2:Drw L 0 (st1.set 6 (.dct AC (put (.str s) (rcd w c) D))):=(Q.drw I.dr).put () _;let#[r,line,f,v,Y,e3,P,hr,hg]:=zin 20 C r2 g H;rw[l3,hx]at e3;have d3:=(d1.set6 (.dct AC (put (.str s) (rcd w c) D))).onl Y;have g6:r[6]?=AA (.dct AC (put (.str s) (rcd w c) D)):=by rw[Y.get (),Ab l6]
 let#[m,l,h2]:=d3.two;let#[y,e4,d4,z0,z6]:=zhX 18 (s:=s) g P (λu=>hr 18 u) (λd u=>hg 18 d u) d3 () () (zr g6);have e5:=zdp 18 h2 e4;refine#[st1,r,y,x,c,line,_,B,e1,e2,dp,e3,e5,λu=>zg3 23 g u,?_];refine#[?_,d4,by rw[z6];exact g6,?_,?_]
 .let#[a,p,b,ha,hd]:=Y.drw r2;exact#[a,p,b,ha,by rw[z0];exact hd]
 .refine dk.mono ?_
  by_cases q:s∈ks
  .rw[if_pos q];lia
  .rw[if_neg q];have:i<o.length:=by
    rcases Ct i o.length with z|z
    .exact z
    .have hlt:=zr E;exact absurd (I.al (i%o.length) () s E) q
   lia
 .intro j hj t M;rcases Ct j i with z|z
  .exact sub t (I.al j z t M)
  .have J:=zr M;have e:i%o.length=j:=by rw[show j=i by lia]at J ⊢;exact Nat.mod_eq_of_lt J
   rw[e]at E;rw[E]at M
   cases M
   exact X
def zkH{C:List Int}(A:C.length<=1000){d:List AR}(J:∀s∈d,Nam s)(h2:2<=d.length)(h5:d.length<=5){i:Nat}(hi:i<100){st:SO}{D:List (PV×PV)}{ks:List AR}(I:Lw C d st D ks i){w n:Nat}(E:4<=w)(j:w<=16)(G:1<=n)(l:n<=4)(p0 u8 u9 u10 u11 u12:Option PV):
  ∃(B:SO) (L:List (PV×PV)) (z:List AR) (f g:Nat) (v8 v9 M:Option PV),4<=f/\f<=16/\1<=g/\g<=4/\Lw C d B L z (i+1) /\
   exs (yc T 24) (le p0 w n d (AA (.int i)) u8 u9 u10 u11 u12) st lwB=.nx (le p0 f g d (AA (.int i)) v8 v9 M u11 u12) B:=by
 have N:i%d.length<d.length:=Nat.mod_lt _ ();obtain⟨s,U⟩:∃s,d[i%d.length]?=AA s:=#[d[i%d.length],Ac N];have O:∀u,yaf .len u [.lst (d.map .str)]=AA (.int d.length):=λu=>by rw[zdG,Ae]
 have md:yq .mod (.int i) (.int d.length)=AA (.int ((i%d.length:Nat):Int)):=by erw[yq,binI];rw[if_pos ()];simp
 have ix:∀u,idxV u (.lst (d.map .str)) (.int ((i%d.length:Nat):Int))=AA (.str s):=λu=>by erw[idxV,yau,at?,ixI];rw[if_pos (),if_pos (by rw[Ae];lia)];erw[BI,CV,BG,U,Bu]
 have H:yo .eq (.int i) (.int d.length)=AA (.bl (decide ((i:Int)=d.length))):=c_eq;have step:∃(p:SO) (f g:Nat) ,4<=f/\f<=16/\1<=g/\g<=4/\Lw C d p D ks i /\
   exs (yc T 24) (le p0 w n d (AA (.int i)) (AA (.str s)) u9 u10 u11 u12) st (.cons (.ite (.cmp .eq (.var 7) (.blt .len (.cons (.var 4) .nil))) (.cons (.asg (.t [2,3]) (.call 29 (.cons (.var 1) (.cons (.cst (.int 4)) .nil)))) .nil) .nil) .nil)=.nx (le p0 f g d (AA (.int i)) (AA (.str s)) u9 u10 u11 u12) p:=by
  rcases JQ ((i:Int)=d.length)with c|c
  .let#[f,g,X,a1,a2,a3,a4,o,e]:=sizes 20 A (m:=4) () () I.dr;let#[f,rfl]:=As (show 0<=f by lia);let#[g,rfl]:=As (show 0<=g by lia);have e:yc T 24 29 [.loc 0,.int 4] st=.ok (.tp AC [.int f,.int g]) X:=e;refine#[X,f,g,by lia,by lia,by lia,by lia,#[o.drw I.dr,I.ds.onl o,by rw[o.get ()];exact I.d6,I.ok,I.al],?_];have Y:yr (.t [2,3]) (.tp AC [.int f,.int g]) (le p0 w n d (AA (.int i)) (AA (.str s)) u9 u10 u11 u12)=AA (le p0 f g d (AA (.int i)) (AA (.str s)) u9 u10 u11 u12):=rfl;rw[decide_eq_true c]at H;erw[le]at Y ⊢;simp! [O,H,e,Y]
  .refine#[st,w,n,E,j,G,l,I,?_];rw[decide_eq_false c]at H;erw[le];simp! [O,H]
 let#[p,f,g,E,j,G,l,I,y]:=step;let#[st1,st3,Q,x,Z,line,L,z,e1,e2,e3,e4,e5,e6,I']:=znK A J h5 hi I E j G l U;have ne:=zgl (zhn f Z);refine#[Q,L,z,f,g,AA (.str s),AA (.int x),AA (.tp AC (Z.map .int)),E,j,G,l,I',?_]
 have hb:lwB=(match lwB with
  |.cons a (.cons _ r)=>.cons a (.cons (.ite (.cmp .eq (.var 7) (.blt .len (.cons (.var 4) .nil))) (.cons (.asg (.t [2,3]) (.call 29 (.cons (.var 1) (.cons (.cst (.int 4)) .nil)))) .nil) .nil) r)
  |x=>x):=rfl
 rw[hb];rw[xs_cons]at y;have y:ex (yc T 24) (le p0 w n d (AA (.int i)) (AA (.str s)) u9 u10 u11 u12) st (.ite (.cmp .eq (.var 7) (.blt .len (.cons (.var 4) .nil))) (.cons (.asg (.t [2,3]) (.call 29 (.cons (.var 1) (.cons (.cst (.int 4)) .nil)))) .nil) .nil)=.nx (le p0 f g d (AA (.int i)) (AA (.str s)) u9 u10 u11 u12) p:=by
  cases q:ex (yc T 24) (le p0 w n d (AA (.int i)) (AA (.str s)) u9 u10 u11 u12) st (.ite (.cmp .eq (.var 7) (.blt .len (.cons (.var 4) .nil))) (.cons (.asg (.t [2,3]) (.call 29 (.cons (.var 1) (.cons (.cst (.int 4)) .nil)))) .nil) .nil)with
  |nx a b=>rw[q]at y;exact y
  |_=>rw[q]at y;cases y
 generalize (Cs.ite (.cmp .eq (.var 7) (.blt .len (.cons (.var 4) .nil))) (.cons (.asg (.t [2,3]) (.call 29 (.cons (.var 1) (.cons (.cst (.int 4)) .nil)))) .nil) .nil)=IT at *;erw[le,sa]at y e5 ne ⊢;simp! [lwB,yaW,O,md,ix,y,e1,e2,e3,e4,e5,e6,ne,IC.x_dput,stO]
def zgn{g:List Int}(c:g.length<=1000){a:List AR}(d:∀s∈a,Nam s)(o:2<=a.length)(p:a.length<=5)(p0 u11 u12:Option PV):∀(r i:Nat),i+r<100->∀{st:SO} {D:List (PV×PV)} {ks:List AR},Lw g a st D ks i->∀{w n:Nat},4<=w->w<=16->1<=n->n<=4->∀(u7 u8 u9 u10:Option PV),
  ∃(f:SO) (q:List (PV×PV)) (j:List AR) (t u:Int) (x l v9 b:Option PV),Lw g a f q j (i+r)/\yaX (yc T 24) (.n 7) lwB (yg r i 1) (le p0 w n a u7 u8 u9 u10 u11 u12) st=.nx (le p0 t u a x l v9 b u11 u12) f
 |0,i,_,st,D,ks,I,w,n,_,_,_,_,u7,u8,u9,u10=>#[st,D,ks,w,n,u7,u8,u9,u10,I,zo]
 |r+1,i,hz,st,D,ks,I,w,n,y,z,A,B,u7,u8,u9,u10=>by let#[s1,D1,C,w1,n1,l,v9,b,E,G,H,J,L,M]:=zkH c d o p () I y z A B p0 u8 u9 u10 u11 u12;let#[N,O,Q,U,X,Y,Z,c9,m,I2,e2]:=zgn c d o p p0 u11 u12 r (i+1) () L E G H J (AA (.int i)) l v9 b;refine#[N,O,Q,U,X,Y,Z,c9,m,by rw[show i+(r+1)=i+1+r by lia];exact I2,?_];rw[show yg (r+1) (i:Int) 1=.int i::yg r ((i:Int)+1) 1 from rfl,zm (ρ1:=le p0 w n a (AA (.int i)) u8 u9 u10 u11 u12) rfl,M];exact e2
def zmF{st:SO}{D:List (PV×PV)}{B N:Nat}{ks:List AR}(h:Dsk st D B)(x:st[6]?=AA (.dct AC D))(y:DOk D ks N){s:AR}(z:s∈ks)(p0 u7 u9 u10 u11 u12:Option PV)(w n:Int)(c:List AR):
  ∃v9 j l,exs (yc T 24) (le p0 w n c u7 (AA (.str s)) u9 u10 u11 u12) st lwD=.nx (le p0 w n c u7 (AA (.str s)) v9 j u11 l) st:=by
 let#[d,b,a,m,g]:=y.hn s z;let#[A,C,E]:=zfU (g:=S "worth ") (f:=S "worth") (by decide +kernel) (by decide +kernel) d;let#[G,H,I]:=zfU (g:=S "sworth ") (f:=S "sworth") (by decide +kernel) (by decide +kernel) d;have o:yc T 24 38 [.loc 2,.str (S "worth "++s)] st=.ok (sa (yae (dv (2^b) a))) st:=zfp 18 zk4 zkS (by decide +kernel) (.inr (.inl rfl)) d g h m C E;have p:yc T 24 38 [.loc 2,.str (S "sworth "++s)] st=.ok (sa (yae (sgw b a))) st:=zfp 18 ziU ziJ (by decide +kernel) (.inr (.inr rfl)) d g h m H I;have dg:=zhl x m;have q:yr (.t [12,10]) (rcd b a) (le p0 w n c u7 (AA (.str s)) u9 u10 u11 u12)=AA (le p0 w n c u7 (AA (.str s)) u9 (AA (.tp AC (a.map .int))) u11 (AA (.int b))):=rfl;have J:yc T 24 40 [.tp AC (a.map .int),.int b] st=.ok (.int (dv (2^b) a)) st:=zf1 22 g st;have L:=zcf (i:=dv (2^b) a) (by have:=ziB g;lia) st;have M:=zcf (zit g) st;have O:yaf .len st [.tp AC (a.map .int)]=AA (.int a.length):=by simp[yaf,lenV,yaJ]
 have Q:yq .mul (.int b) (.int a.length)=AA (.int ((b * a.length:Nat):Int)):=by rw[zap (by have:=g.w16;lia)];simp
 have U:yc T 24 33 [.int (dv (2^b) a),.int ((b * a.length:Nat):Int)] st=.ok (.int (sgw b a)) st:=zoY 22 _ _ (by have:b * a.length<=16*4:=BK g.w16 g.n4;lia) st
 have r:=zgl (zfO (dv (2^b) a));have u:=zgl (zfO (sgw b a));refine#[AA (.int (dv (2^b) a)),AA (.tp AC (a.map .int)),AA (.int b),?_];generalize rcd b a=X at *;erw[le,sa]at q o p r u ⊢;simp! [lwD,lwC,yaW,dg,q,J,A,G,o,p,L,M,O,Q,U,r,u]
def zjj{st:SO}{D:List (PV×PV)}{B N:Nat}{ks:List AR}(h:Dsk st D B)(g:st[6]?=AA (.dct AC D))(j:DOk D ks N)(p0 u7 u11:Option PV)(w n:Int)(c:List AR):∀(l:List AR),(∀s∈l,s∈ks)->∀(u8 u9 u10 u12:Option PV),
  ∃o v9 a b,yaX (yc T 24) (.n 8) lwD (l.map .str) (le p0 w n c u7 u8 u9 u10 u11 u12) st=.nx (le p0 w n c u7 o v9 a u11 b) st
 |[],_,u8,u9,u10,u12=>#[u8,u9,u10,u12,zo]
 |s::l,m,u8,u9,u10,u12=>by let#[v9,a,b,p]:=zmF h g j (m s A2) p0 u7 u9 u10 u11 u12 w n c;let#[q,r,d,f,u]:=zjj h g j p0 u7 u11 w n c l (λt x=>m t (AS _ x)) (AA (.str s)) v9 a b;refine#[q,r,d,f,?_];rw[AV,zm (ρ1:=le p0 w n c u7 (AA (.str s)) u9 u10 u11 u12) rfl,p];exact u
def zjc{st:SO}{D:List (PV×PV)}{B N:Nat}{ks:List AR}(h:Dsk st D B)(g:st[6]?=AA (.dct AC D))(j:DOk D ks N)(m:N<=5)(p0 u7 u11:Option PV)(w n:Int){d:List AR}(o:∀s∈d,s∈ks)(u8 u9 u10 u12:Option PV):
  ∃f v9 b c,exs (yc T 24) (le p0 w n d u7 u8 u9 u10 u11 u12) st lwC=.nx (le p0 w n d u7 f v9 b u11 c) st:=by
 have p:yc T 24 39 [.loc 2,.loc 6] st=.ok (.bl AE) st:=zcy 17 h g j m;let#[f,v9,b,c,l]:=zjj h g j p0 u7 u11 w n d d o u8 u9 u10 u12;refine#[f,v9,b,c,?_]
 have q:lwC=(match lwC with
  |.cons a (.cons (.for t i _) r)=>.cons a (.cons (.for t i lwD) r)
  |x=>x):=rfl
 rw[q];generalize lwD=W at *;erw[le]at l ⊢;simp! [lwC,yaW,p,l]
def zh8(g:List Int)(hn:g.length<=63):yc T 25 yfu [.scr (g.map .int)] []=.ok (.bl AE) []:=by
 let#[o,M,ho]:=fresh 23 g hn [];have h0:Drw g 0 [o]:=#[0,0,AC,by lia,by rw[ho];rfl];have q:g.length<=1000:=by lia
 have hT:T yfu=AA #[1,13,AE,yaW.body]:=rfl;have M:yc T 24 25 [.scr (g.map .int)] []=.ok (.loc 0) [o]:=M;let#[w,n,O,a1,a2,a3,a4,o1,Q]:=sizes 20 q (m:=4) () () h0;let#[w,rfl]:=As (show 0<=w by lia);let#[n,rfl]:=As (show 0<=n by lia);have Q:yc T 24 29 [.loc 0,.int 4] [o]=.ok (.tp AC [.int w,.int n]) O:=Q;have h1:=o1.drw h0;have z1:O.length=1:=o1.len;let#[c,U,c0,c1,o2,X]:=zoD 21 q (m:=4) () () h1;let#[c,rfl]:=As c0;have X:yc T 24 28 [.loc 0,.int 4] O=.ok (.int c) U:=X;have h2:=o2.drw h1;have z2:U.length=1:=by rw[o2.len];exact z1
 let#[l,Y,Z,lnm,h3,z3,e4]:=zhI 19 q (N:=c+2) () h2;have e4:yc T 24 36 [.loc 0,.int (2+(c:Int))] U=.ok (.lst (l.map .str)) Y:=by rw[show 2+(c:Int)=((c+2:Nat):Int)by lia];exact e4
 obtain⟨A,y,rfl⟩:∃A B,Y=[A,B]:=by
  rw[z2]at z3
  match Y,z3 with
  |[A,B],_=>exact#[A,B,rfl]
 have e5:yc T 24 18 [.loc 2] [A,y,.ins 21 []]=.ok .non [A,y,.ins 21 (fls 3 5),.dct AC [],.lst [],.lst []]:=zkY 23 A y;have hd:Dsk [A,y,.ins 21 (fls 3 5),.dct AC [],.lst [],.lst [],.dct AC []] [] 0:=#[3,5,[],rfl,rfl,by simp,rfl,by lia,by lia,by lia,by lia];have d6:([A,y,.ins 21 (fls 3 5),.dct AC [],.lst [],.lst [],.dct AC []]:SO)[6]?=AA (.dct AC []):=rfl;have e6:yc T 24 39 [.loc 2,.loc 6] [A,y,.ins 21 (fls 3 5),.dct AC [],.lst [],.lst [],.dct AC []]=.ok (.bl AE) _:=zcy 17 hd d6 (DOk.nil 0) ();have h7:Drw g 0 [A,y,.ins 21 (fls 3 5),.dct AC [],.lst [],.lst [],.dct AC []]:=by let#[a,p,f,ha,h]:=h3;exact#[a,p,f,ha,h]
 generalize hS:([A,y,.ins 21 (fls 3 5),.dct AC [],.lst [],.lst [],.dct AC []]:SO)=S0 at *;let#[d,s4,p0,p1,o4,e7]:=zoD 21 q (m:=4) () () h7;let#[d,rfl]:=As p0;have e7:yc T 24 28 [.loc 0,.int 4] S0=.ok (.int d) s4:=e7;have I0:Lw g l s4 [] [] 0:=#[o4.drw h7,hd.onl o4,by rw[o4.get ()];exact d6,DOk.nil _,λj hj=>absurd hj ()];let#[s5,D,ks,C,E,G,v8,v9,z,I,e8]:=zgn q Z () () (AA (.scr (g.map .int))) AD AD (l.length+d) 0 () I0 (w:=w) (n:=n) () () () () AD AD AD AD;have H:∀s∈l,s∈ks:=λs hs=>by let#[j,hj,e]:=Gr hs;exact I.al j () s (by rw[Ac hj,e])
 let#[q8,q9,J,L,f1]:=zjc I.ds I.d6 I.ok () (AA (.scr (g.map .int))) G (AA (.int 0)) C E H v8 v9 z AD;let#[r8,r9,r10,r12,f2]:=zjc I.ds I.d6 I.ok () (AA (.scr (g.map .int))) G (AA (.int 1)) C E H q8 q9 J L;have e9:yaX (yc T 24) (.n 11) lwC [.int 0,.int 1] (le (AA (.scr (g.map .int))) C E l G v8 v9 z AD AD) s5=.nx (le (AA (.scr (g.map .int))) C E l G r8 r9 r10 (AA (.int 1)) r12) s5:=by rw[zm (ρ1:=le (AA (.scr (g.map .int))) C E l G v8 v9 z (AA (.int 0)) AD) rfl,f1];show yaX (yc T 24) (.n 11) lwC [.int 1] _ s5=_;rw[zm (ρ1:=le (AA (.scr (g.map .int))) C E l G q8 q9 J (AA (.int 1)) L) rfl,f2];rfl
 have ll:∀u,yaf .len u [.lst (l.map .str)]=AA (.int l.length):=λu=>by rw[zdG,Ae]
 have hr:ybr (.int ((l.length:Int)+d))=AA (yg (l.length+d) 0 1):=by rw[show (l.length:Int)+d=((l.length+d:Nat):Int)by lia];exact zK _ ()
 have h2':ybr (.int 2)=AA [.int 0,.int 1]:=rfl;have i0:((0:Nat):Int)=0:=rfl;have bt:yr (.t [2,3]) (.tp AC [.int w,.int n]) [AA (.scr (g.map .int)),AA (.loc 0),AD,AD,AD,AD,AD,AD,AD,AD,AD,AD,AD]=AA [AA (.scr (g.map .int)),AA (.loc 0),AA (.int w),AA (.int n),AD,AD,AD,AD,AD,AD,AD,AD,AD]:=rfl
 have hb:yaW.body=(match yaW.body with
  |.cons a (.cons b (.cons c (.cons d (.cons e (.cons f (.cons (.for t i _) (.cons (.for t2 i2 _) r)))))))=>.cons a (.cons b (.cons c (.cons d (.cons e (.cons f (.cons (.for t i lwB) (.cons (.for t2 i2 lwC) r)))))))
  |x=>x):=rfl
 have nl:[A,y]++[Ob.ins 21 []]=[A,y,.ins 21 []]:=rfl;have ns6:[A,y,.ins 21 (fls 3 5),.dct AC [],.lst [],.lst []]++[Ob.dct AC []]=S0:=by rw[<-hS];rfl
 rw[zl hT rfl rfl (zfj g),hb];generalize lwB=WB,lwC=WC at *;erw[le,i0]at e8 e9;simp! [yaW,M,Q,bt,X,e4,nl,e5,ybG,newV,IC.ve1,IC.ve2,IC.ve3,IC.ve4,IC.ve5,IC.ve6,IC.ve7,IC.ve8,IC.ve9,IC.ve10,IC.ve11,IC.ve13,IC.ve15,IC.ve16,IC.ve17,IC.ve18,IC.ve19,IC.ve20,IC.ve21,IC.vxq19,IC.ve24,IC.ve25,IC.ve26,IC.ve27,IC.ve28,IC.ve29,IC.ve32,IC.ve33,IC.ve34,IC.ve36,IC.ve37,IC.ve58,IC.ve59,IC.ve60,IC.ve57,IC.ve56,ns6,e6,ll,e7,hr,e8,h2',e9,zec]
end WK
namespace WK
open PySem L2 IC
theorem walk{l:Fv}{q:A6}{c:List AR}{r:(AR->Option AG)->Au->Prop}{m:Ah->Au->Prop}{d:DefRec}{K:Params->AF}(t:l.most=AA 63)(j:d.params.defaults=[])
  (y:∀(w:Ah) (h:Au),m w h->(K w.params).In h)
  (F:∀(w:Ah) (g:AR->Option AG) (o:AJ) (h:Au),(K w.params).In h->h.Ns mainGlobals g->g d.name=AA (.ref o) ->
   ∃p:BF,(∀(s:AH) (u:AG),Fz s p #[[u],[]] [("_law_script",u)])/\∀b:Au,(K w.params).In b->b.Ns mainGlobals g->yaK l.prog w (K w.params) g b (CX1 l.prog w) (2*25) o p ["_law_script"] (spX (K w.params) (yc T 25) yfu)):
  IU q c r m l.row.toRowW d [] (λf A=>Ie f A):=
 L2.walk_of (n:=63) (k:=2*25) (x:="_law_script") (CX:=λw=>CX1 l.prog w) (sp:=λw=>spX (K w.params) (yc T 25) yfu) t ⋯ j #[rfl,by decide,by decide] y F (λw H a D B _ C=>zfn zh8 B C) λ_ _ _ _ _ z=>zmN z
end WK
end
open PySem PySem.W PyProof.Rows
theorem PySem.Challenge.cw_widewords_k75_numbers_put_holds : PySem.Challenge.rw_widewords_k75_numbers_put.Holds := by
 refine hh.hd (by rfl) (by rfl) (by rfl) ?_
 k_fill
 refine WK.walk (l:=PySem.Challenge.rw_widewords_k75_numbers_put) rfl rfl (λw h Y=>Y) ?F
 case F =>
  intro w mg fa h KX G hmg
  refine' L2.all_mk2 (t:=WK.tbQ) KX G hmg ?R ?B ?D WK.kb_all ?Ml WK.ok_all WK.T_ok (L:=41) rfl 25
  case R =>
   repeat' (first|exact trivial|apply And.intro|(refine' L2.rowFn ?a9 ?l9 ?c9 ?p9 ?b9;(case a9|l9|c9|p9=>k_is);(case b9=>((repeat intro _);first|rfl|kernel_rfl)))|(refine' L2.rowMe ?z9 ?a9 ?i9 ?l9 ?c9 ?p9 ?b9;(case z9=>((first|rw[WK.cn_21]);k_is));(case a9|i9|l9|c9|p9=>k_is);(case b9=>((repeat intro _);first|rfl|kernel_rfl)))|(refine' L2.rowIni ?z9 ?a9 ?i9 ?l9 ?c9 ?p9 ?b9 ?m9 ?k9;(case z9=>((first|rw[WK.cn_21]);k_is));(case a9|i9|l9|c9|p9=>k_is);(case b9=>((repeat intro _);first|rfl|kernel_rfl));(case m9|k9=>k_is))|(refine' L2.rowFd ?a9 ?l9 ?c9 ?p9 ?d9 ?e9 ?v9;(case a9|l9|c9|p9|d9=>k_is);(case e9=>rfl);(case v9=>(repeat first|exact .nil|refine .cons ⟨_,rfl⟩ ?_))))
  case B=>kernel_rfl
  case D =>
   repeat' (first|exact trivial|apply And.intro|intro _|(refine' L2.gd_mk KX G ?a9 ?l9 ?s9 ?r9 ?n9;(case a9|l9=>k_is);(case s9=>rfl);(case r9=>(repeat first|exact .nil|refine L2.con_row (by kernel_rfl) ?_));(case n9=>decide +kernel)))
  case Ml =>
   repeat' (first|exact trivial|apply And.intro|(refine' L2.gdf_mk KX G ?a9 ?l9 ?r9 ?n9;(case a9|l9=>k_is);(case r9=>(repeat first|exact .nil|refine L2.frow_cons (by kernel_rfl) ?_));(case n9=>decide +kernel)))
